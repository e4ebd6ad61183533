import Derived.Test.YtgofjmhdgmfgfaaGreatDoorDe
import Derived.Test.YtgofjmhdgmfgfaaGreatDoorDf
import Derived.Test.YtgofjmhdgmfgfaaGreatDoorDc
import Derived.Test.YtgofjmhdgmfgfaaGreatDoorCp
namespace Go.Proofs.YtgofjmhdgmfgfaaGreatDoor
open Go.ChangeShapes Go.WideShapes Go.ChangeAt Go.RowKit
set_option linter.unusedVariables false

theorem lbT_le (lb : List (List UInt8 × Nat)) (h : ∀ x ∈ lb, x.1.length ≤ 16) : (lbT lb).length ≤ 18 * lb.length := by
  induction lb with
  | nil => exact Nat.le_refl _
  | cons x lb ih =>
    have h1 := h x List.mem_cons_self
    have h2 := ih (fun y hy => h y (List.mem_cons_of_mem _ hy))
    show ((x.1 ++ [58, 10]) ++ lbT lb).length ≤ _
    simp only [List.length_append, List.length_cons, List.length_nil]
    omega
theorem srcW_le (ws : List Nat) : ∀ a lb, (∀ x ∈ ws, x < 4294967296) → (∀ x ∈ lb, x.1.length ≤ 16) → (srcW a ws lb).length ≤ 18 * lb.length + 410 * ws.length := by
  induction ws with
  | nil => intro a lb _ h; have := lbT_le lb h; show (lbT lb).length ≤ _; simp only [List.length_nil]; omega
  | cons v ws ih =>
    intro a lb hv h
    have h1 := lbT_le (lb.takeWhile (isAt a)) (fun x hx => h x ((List.takeWhile_sublist _).subset hx))
    have h2 := ih (a + 4) (lb.dropWhile (isAt a)) (fun x hx => hv x (List.mem_cons_of_mem _ hx)) (fun x hx => h x ((List.dropWhile_sublist _).subset hx))
    have h3 := line_short v a (hv v List.mem_cons_self)
    have hlen : (lb.takeWhile (isAt a)).length + (lb.dropWhile (isAt a)).length = lb.length := by rw [← List.length_append, List.takeWhile_append_dropWhile]
    rw [srcW]
    simp only [List.length_append, List.length_cons, List.length_nil]
    omega
theorem srcM_le (org : Nat) (ho : org < 4294967296) (ws : List Nat) (lb : List (List UInt8 × Nat)) (hv : ∀ x ∈ ws, x < 4294967296) (h : ∀ x ∈ lb, x.1.length ≤ 16) : (srcM org ws lb).length ≤ 18 * lb.length + 410 * ws.length + 16 := by
  have h1 := srcW_le ws org lb hv h
  have h2 := hex8_size org ho
  rw [srcM]
  simp only [List.length_append, List.length_cons, List.length_nil, h2]
  omega
set_option maxRecDepth 100000 in
/-- An image that no source has. -/
theorem Dis_arg (w : World) (hG : Gs w) (org : Nat) (wv lv : Value) (ws : List Nat) (lb : List (List UInt8 × Nat)) (hW : WS w wv ws) (hL : LS w lv lb) (ho1 : org < 4294967296) (hnw : ws.length < 4611686018427387904) (hlb : lb.length ≤ 5864062014805) (hsl : ∀ x, x ∈ lb → x.1.length ≤ 140737488355328) (hat : ∀ x, x ∈ lb → x.2 < 4294967296)
    (h : wmB org ws.length = false ∨ lmM (org + 4 * ws.length) org [] lb = false) :
    Calls Tryz.prog 12 #[.agg #[.int .u32 org, wv, lv]] w fun e w' => e = .returned (.tuple #[.string ⟨#[]⟩, .int .i64 116]) ∧ Kp w w' := by
  have hL0 := hL
  obtain ⟨la, lc, rfl, hlc, -⟩ := hL
  obtain ⟨wa, wc, rfl, hwc, -⟩ := hW
  have kA : Kp w (w.alloc (.cells #[.int .u32 org, .slice wa ws.length wc, .slice la lb.length lc] 28)) := (Chg.refl _ _).alloc _
  have hq := heap_alloc_new w (.cells #[.int .u32 org, .slice wa ws.length wc, .slice la lb.length lc] 28)
  obtain ⟨c0, c1, c2, -⟩ := cells3 hq
  cases hw : wmB org ws.length with
  | false =>
    have hA := fun V => wordsMayBe_no V org ws.length wa wc (.slice la lb.length lc) ho1 hnw hw ⟨_, _, _, rfl⟩
    clear h hw hL0 hsl hat
    go_enter Tryz.func12, Tryz.ntmps12
    go_upto_region 1 with fail
    go_wp2_with (go_at_call 25; refine (hA _).mono ?_; rintro e w1 ⟨rfl, k1⟩; have q1 := Kp.trans kA k1)
    refine bodyPost_ret (results_tmp2 rfl _ _ _) rfl ⟨rfl, q1⟩
  | true =>
    have hm : lmM (org + 4 * ws.length) org [] lb = false := by
      rcases h with h | h
      · rw [hw] at h; cases h
      · exact h
    have hw' : (org % 4 = 0 ∧ ws.length ≤ 4096) ∧ org + 4 * ws.length ≤ 4294967296 := by simpa [wmB] using hw
    have hA := fun V => wordsMayBe_ok V org ws.length wa wc (.slice la lb.length lc) ho1 hw'.1.1 hw'.1.2 hw'.2 ⟨_, _, _, rfl⟩
    have hB := fun V (k : Kp w V) => labelsMayBe_any V (hG.gg.keep k) org ws.length wa wc (.slice la lb.length lc) lb ho1 hw'.1.2 (hL0.keep k) (by omega) false hm hsl hat
    clear h hw hw' hm hL0 hsl hat
    go_enter Tryz.func12, Tryz.ntmps12
    go_upto_region 1 with fail
    go_wp2_with (first | (go_at_call 25; refine (hA _).mono ?_; rintro e w1 ⟨rfl, k1⟩; have q1 := Kp.trans kA k1; obtain ⟨d0, d1, d2, -⟩ := cells3 (Kp.heap k1 hq)) | (go_at_call 26; refine (hB _ q1).mono ?_; rintro e w2 ⟨rfl, k2⟩; have q2 := Kp.trans q1 k2))
    refine bodyPost_ret (results_tmp2 rfl _ _ _) rfl ⟨rfl, q2⟩
set_option maxRecDepth 100000 in
/-- An image that a source may have: too long, or written. -/
theorem Dis_src (w : World) (hG : Gs w) (org : Nat) (wv lv : Value) (ws : List Nat) (lb : List (List UInt8 × Nat)) (hW : WS w wv ws) (hL : LS w lv lb) (ho1 : org < 4294967296) (hlb : lb.length ≤ 5864062014805) (hsl : ∀ x, x ∈ lb → x.1.length ≤ 140737488355328) (hat : ∀ x, x ∈ lb → x.2 < 4294967296) (hv : ∀ x ∈ ws, x < 4294967296)
    (hw : wmB org ws.length = true) (hM : lmM (org + 4 * ws.length) org [] lb = true) :
    Calls Tryz.prog 12 #[.agg #[.int .u32 org, wv, lv]] w fun e w' => ((20000 < (srcM org ws lb).length ∧ e = .returned (.tuple #[.string ⟨#[]⟩, .int .i64 110])) ∨ ((srcM org ws lb).length ≤ 20000 ∧ e = .returned (.tuple #[.string (sb (srcM org ws lb)), .int .i64 0]))) ∧ Kp w w' := by
  have hL0 := hL
  have hW0 := hW
  obtain ⟨la, lc, rfl, hlc, -⟩ := hL
  obtain ⟨wa, wc, rfl, hwc, -⟩ := hW
  have kA : Kp w (w.alloc (.cells #[.int .u32 org, .slice wa ws.length wc, .slice la lb.length lc] 28)) := (Chg.refl _ _).alloc _
  have hq := heap_alloc_new w (.cells #[.int .u32 org, .slice wa ws.length wc, .slice la lb.length lc] 28)
  obtain ⟨c0, c1, c2, -⟩ := cells3 hq
  have hw' : (org % 4 = 0 ∧ ws.length ≤ 4096) ∧ org + 4 * ws.length ≤ 4294967296 := by simpa [wmB] using hw
  have hall := lm_all _ lb _ _ hM
  have hle := srcM_le org ho1 ws lb hv (fun x hx => (nmB_parts (hall x hx).2.2.2).2.1)
  have hA := fun V => wordsMayBe_ok V org ws.length wa wc (.slice la lb.length lc) ho1 hw'.1.1 hw'.1.2 hw'.2 ⟨_, _, _, rfl⟩
  have hB := fun V (k : Kp w V) => labelsMayBe_any V (hG.gg.keep k) org ws.length wa wc (.slice la lb.length lc) lb ho1 hw'.1.2 (hL0.keep k) (by omega) true hM hsl hat
  have hC := fun V (k : Kp w V) => sourceOf_big V (hG.keep k) org (.slice wa ws.length wc) (.slice la lb.length lc) ws lb (hW0.keep k) (hL0.keep k) hw'.2 ho1 hw'.1.2 (by omega) hv (by have := hw'.1.2; omega)
  have hsz : (sb (srcM org ws lb)).size = (srcM org ws lb).length := sb_size _
  generalize srcM org ws lb = R at *
  clear hM hsl hL0 hW0 hv hw hall hle hat hw'
  by_cases hl : 20000 < R.length
  · have hlz : (20000 : Int) < (R.length : Nat) := by omega
    go_enter Tryz.func12, Tryz.ntmps12
    go_upto_region 1 with fail
    go_upto_region 3 with (first | (go_at_call 25; refine (hA _).mono ?_; rintro e w1 ⟨rfl, k1⟩; have q1 := Kp.trans kA k1; obtain ⟨d0, d1, d2, -⟩ := cells3 (Kp.heap k1 hq)) | (go_at_call 26; refine (hB _ q1).mono ?_; rintro e w2 ⟨rfl, k2⟩; have q2 := Kp.trans q1 k2; obtain ⟨f0, f1, f2, -⟩ := cells3 (Kp.heap (Kp.trans k1 k2) hq)))
    go_wp2_with (go_at_call 27; refine (hC _ q2).mono ?_; rintro e w3 ⟨rfl, k3⟩)
    refine bodyPost_ret (results_tmp2 rfl _ _ _) rfl ⟨.inl ⟨hl, rfl⟩, Kp.trans q2 k3⟩
  · have hlz : ¬ (20000 : Int) < (R.length : Nat) := by omega
    go_enter Tryz.func12, Tryz.ntmps12
    go_upto_region 1 with fail
    go_upto_region 3 with (first | (go_at_call 25; refine (hA _).mono ?_; rintro e w1 ⟨rfl, k1⟩; have q1 := Kp.trans kA k1; obtain ⟨d0, d1, d2, -⟩ := cells3 (Kp.heap k1 hq)) | (go_at_call 26; refine (hB _ q1).mono ?_; rintro e w2 ⟨rfl, k2⟩; have q2 := Kp.trans q1 k2; obtain ⟨f0, f1, f2, -⟩ := cells3 (Kp.heap (Kp.trans k1 k2) hq)))
    go_wp2_with (go_at_call 27; refine (hC _ q2).mono ?_; rintro e w3 ⟨rfl, k3⟩)
    refine bodyPost_ret (results_tmp2 rfl _ _ _) rfl ⟨.inr ⟨by omega, rfl⟩, Kp.trans q2 k3⟩
end Go.Proofs.YtgofjmhdgmfgfaaGreatDoor
namespace Go.Proofs.YtgofjmhdgmfgfaaGreatDoor
open Go.ChangeShapes Go.WideShapes Go.ChangeAt Go.RowKit
set_option linter.unusedVariables false

theorem fields44 : Tryz.prog.underlying 44 = some (.struct (Tryz.prog.fieldsOf 44)) := by simp [Program.fieldsOf, Tryz.underlying44]
theorem stood44 : Tryz.prog.stoodInHeld 44 = false := by kernel_rfl
theorem neq44 (s : ByteArray) (a : Int) (w : World) : (binOp BinOp.neq 44 (.agg #[.string s, .int .u32 a]) (.agg #[.string s, .int .u32 a])).run Tryz.prog w = .ok (.bool false) w := by
  rw [run_neq_struct, run_equalIn_agg w 9999 44 _ _ fields44 stood44]
  simp [Program.fieldsOf, Tryz.underlying44, go_sem]
set_option maxRecDepth 100000 in
set_option maxHeartbeats 4000000 in
/-- Two images that hold the same. -/
theorem same_ok (w : World) (org : Nat) (wv lv wv' lv' : Value) (ws : List Nat) (lb : List (List UInt8 × Nat)) (hW : WS w wv ws) (hL : LS w lv lb) (hW' : WS w wv' ws) (hL' : LS w lv' lb) (hn : ws.length < 1000000) (hm : lb.length < 1000000) :
    Calls Tryz.prog 13 #[.agg #[.int .u32 org, wv, lv], .agg #[.int .u32 org, wv', lv']] w fun e w' => e = .returned (.bool true) ∧ Kp w w' := by
  obtain ⟨wa, wc, rfl, hwc, hx⟩ := hW
  obtain ⟨la, lc, rfl, hlc, hy⟩ := hL
  obtain ⟨wa', wc', rfl, hwc', hx'⟩ := hW'
  obtain ⟨la', lc', rfl, hlc', hy'⟩ := hL'
  obtain ⟨w1, hw1⟩ : ∃ w1, w1 = (w.alloc (.cells #[.int .u32 org, .slice wa ws.length wc, .slice la lb.length lc] 28)).alloc (.cells #[.int .u32 org, .slice wa' ws.length wc', .slice la' lb.length lc'] 28) := ⟨_, rfl⟩
  have kA : Kp w (w.alloc (.cells #[.int .u32 org, .slice wa ws.length wc, .slice la lb.length lc] 28)) := (Chg.refl _ _).alloc _
  have kB : Kp (w.alloc (.cells #[.int .u32 org, .slice wa ws.length wc, .slice la lb.length lc] 28)) w1 := by rw [hw1]; exact (Chg.refl _ _).alloc _
  have b1 := Kp.heap kB (heap_alloc_new w (.cells #[.int .u32 org, .slice wa ws.length wc, .slice la lb.length lc] 28))
  have b2 : w1.heap[w.heap.size + 1]? = some (.cells #[.int .u32 org, .slice wa' ws.length wc', .slice la' lb.length lc'] 28 (0, 0)) := by
    rw [hw1]
    have := heap_alloc_new (w.alloc (.cells #[.int .u32 org, .slice wa ws.length wc, .slice la lb.length lc] 28)) (.cells #[.int .u32 org, .slice wa' ws.length wc', .slice la' lb.length lc'] 28)
    rw [al_size] at this
    exact this
  have k1 := Kp.trans kA kB
  obtain ⟨L, hLe⟩ : ∃ L, L = ws.length := ⟨_, rfl⟩
  obtain ⟨M, hMe⟩ : ∃ M, M = lb.length := ⟨_, rfl⟩
  rw [← hLe, ← hMe] at b1 b2 hw1
  rw [← hLe] at hwc hwc'
  rw [← hMe] at hlc hlc'
  rw [← hLe] at hn
  rw [← hMe] at hm
  have HB : Hid (w1.heap[w.heap.size]? = some (.cells #[.int .u32 org, .slice wa L wc, .slice la M lc] 28 (0, 0)) ∧ w1.heap[w.heap.size + 1]? = some (.cells #[.int .u32 org, .slice wa' L wc', .slice la' M lc'] 28 (0, 0)) ∧ Kp w w1) := ⟨b1, b2, k1⟩
  have HX : Hid ((ws = [] ∨ ∃ g o, wa = some ⟨g, o, none⟩ ∧ g < w.heap.size ∧ ∀ i x, ws[i]? = some x → w.cell? ⟨g, o + i, none⟩ = some (.int .u32 (x : Nat))) ∧ (ws = [] ∨ ∃ g o, wa' = some ⟨g, o, none⟩ ∧ g < w.heap.size ∧ ∀ i x, ws[i]? = some x → w.cell? ⟨g, o + i, none⟩ = some (.int .u32 (x : Nat))) ∧ L = ws.length) := ⟨hx, hx', hLe⟩
  have HY : Hid ((lb = [] ∨ ∃ g o, la = some ⟨g, o, none⟩ ∧ g < w.heap.size ∧ ∀ i x, lb[i]? = some x → w.cell? ⟨g, o + i * 2, none⟩ = some (.string (sb x.1)) ∧ w.cell? ⟨g, o + i * 2 + 1, none⟩ = some (.int .u32 (x.2 : Nat))) ∧ (lb = [] ∨ ∃ g o, la' = some ⟨g, o, none⟩ ∧ g < w.heap.size ∧ ∀ i x, lb[i]? = some x → w.cell? ⟨g, o + i * 2, none⟩ = some (.string (sb x.1)) ∧ w.cell? ⟨g, o + i * 2 + 1, none⟩ = some (.int .u32 (x.2 : Nat))) ∧ M = lb.length) := ⟨hy, hy', hMe⟩
  obtain ⟨c0, c1, c2, -⟩ := cells3 b1
  obtain ⟨d0, d1, d2, -⟩ := cells3 b2
  rw [← hLe, ← hMe]
  clear hx hx' hy hy' hLe hMe kA kB b1 b2 k1
  go_enter Tryz.func13, Tryz.ntmps13
  go_upto_region 1 with fail
  rw [← hw1]
  clear hw1
  go_wp2_with fail
  go_loopw [5] (fun s5 wr => ∃ j : Nat, s5 = .int .i64 j ∧ j ≤ L ∧ Hid (Kp w1 wr)) (fun s5 _ => L - (intOf s5).toNat)
  case atStart => exact ⟨0, rfl, by omega, (Chg.refl _ _)⟩
  case round =>
    obtain ⟨j, rfl, hj, HK⟩ := hrel
    have a1 := Kp.cell HK.out (cells3 HB.out.1).2.1
    have a2 := Kp.cell HK.out (cells3 HB.out.2.1).2.1
    clear c0 c1 c2 d0 d1 d2
    by_cases hlt : j < L
    · have hjz : (j : Int) < (L : Int) := by omega
      have hjl : j < ws.length := by rw [← HX.out.2.2]; exact hlt
      obtain ⟨x, hx⟩ : ∃ x, ws[j]? = some x := ⟨_, List.getElem?_eq_getElem hjl⟩
      have hne : ws ≠ [] := fun e => by rw [e] at hjl; simp at hjl
      obtain ⟨g, o, rfl, hg, hc⟩ := HX.out.1.resolve_left hne
      obtain ⟨g', o', rfl, hg', hc'⟩ := HX.out.2.1.resolve_left hne
      have e1 := Kp.cell (Kp.trans HB.out.2.2 HK.out) (hc j x hx)
      have e2 := Kp.cell (Kp.trans HB.out.2.2 HK.out) (hc' j x hx)
      clear hx hne hc hc' hjl
      go_wp2_with fail
      go_quiet (fail)
      go_wp2
      exact ⟨⟨j + 1, by go_num, by omega, Chg.drewN HK.out _⟩, by simp [intOf]; omega⟩
    · have hjz : ¬ ((j : Int) < (L : Int)) := by omega
      have HK1 : Hid (Kp w1 wr) := HK
      clear HK
      rename World => W2
      go_wp2_with fail
      go_loopw [6] (fun s6 wr => ∃ j : Nat, s6 = .int .i64 j ∧ j ≤ M ∧ Hid (Kp w1 wr)) (fun s6 _ => M - (intOf s6).toNat)
      case atStart => exact ⟨0, rfl, by omega, HK1⟩
      case round =>
        obtain ⟨j, rfl, hj, HK⟩ := hrel
        clear a1 a2 hjz
        have a1 := Kp.cell HK.out (cells3 HB.out.1).2.2.1
        have a2 := Kp.cell HK.out (cells3 HB.out.2.1).2.2.1
        by_cases hlt : j < M
        · have hjz : (j : Int) < (M : Int) := by omega
          have hjl : j < lb.length := by rw [← HY.out.2.2]; exact hlt
          obtain ⟨x, hx⟩ : ∃ x, lb[j]? = some x := ⟨_, List.getElem?_eq_getElem hjl⟩
          have hne : lb ≠ [] := fun e => by rw [e] at hjl; simp at hjl
          obtain ⟨g, o, rfl, hg, hc⟩ := HY.out.1.resolve_left hne
          obtain ⟨g', o', rfl, hg', hc'⟩ := HY.out.2.1.resolve_left hne
          have e1 := Kp.cell (Kp.trans HB.out.2.2 HK.out) (hc j x hx).1
          have e2 := Kp.cell (Kp.trans HB.out.2.2 HK.out) (hc' j x hx).1
          have e3 := Kp.cell (Kp.trans HB.out.2.2 HK.out) (hc j x hx).2
          have e4 := Kp.cell (Kp.trans HB.out.2.2 HK.out) (hc' j x hx).2
          have hq := fun w => neq44 (sb x.1) (x.2 : Nat) w
          generalize sb x.1 = xs at *
          generalize ((x.2 : Nat) : Int) = xa at *
          clear hx hne hc hc' hjl
          go_wp2_with fail
          go_quiet (fail)
          go_wp2
          exact ⟨⟨j + 1, by go_num, by omega, Chg.drewN HK.out _⟩, by simp [intOf]; omega⟩
        · have hjz : ¬ ((j : Int) < (M : Int)) := by omega
          have HE : Hid (Kp w wr) := Kp.trans HB.out.2.2 HK.out
          go_wp2_with fail
          go_ret
          exact ⟨rfl, HE.out⟩
end Go.Proofs.YtgofjmhdgmfgfaaGreatDoor
namespace Go.Proofs.YtgofjmhdgmfgfaaGreatDoor
open Go.ChangeShapes Go.WideShapes Go.ChangeAt Go.RowKit
set_option linter.unusedVariables false

set_option maxRecDepth 100000 in
set_option maxHeartbeats 4000000 in
theorem back_walk (w : World) (h9 : 9 ≤ w.heap.size) (hG : Gs w) (org : Nat) (wv lv : Value) (ws : List Nat) (lb : List (List UInt8 × Nat)) (hW : WS w wv ws) (hL : LS w lv lb) (ho1 : org < 4294967296) (hnw : ws.length < 4611686018427387904) (hlb : lb.length ≤ 5864062014805) (hsl : ∀ x, x ∈ lb → x.1.length ≤ 140737488355328) (hat : ∀ x, x ∈ lb → x.2 < 4294967296) (hv : ∀ x ∈ ws, x < 4294967296) :
    Calls Tryz.prog 4 #[.agg #[.int .u32 org, wv, lv]] w fun e w' => e = .returned (.bool true) ∧ Kp w w' := by
  obtain ⟨wa, wn, wc, hwv⟩ : ∃ a n c, wv = .slice a n c := by obtain ⟨a, c, h, -⟩ := hW; exact ⟨_, _, _, h⟩
  obtain ⟨la, ln, lc, hlv⟩ : ∃ a n c, lv = .slice a n c := by obtain ⟨a, c, h, -⟩ := hL; exact ⟨_, _, _, h⟩
  obtain ⟨w1, hw1⟩ : ∃ w1, w1 = w.alloc (.cells #[.int .u32 org, wv, lv] 28) := ⟨_, rfl⟩
  have k1 : Kp w w1 := by rw [hw1]; exact (Chg.refl _ _).alloc _
  have hq : w1.heap[w.heap.size]? = some (.cells #[.int .u32 org, wv, lv] 28 (0, 0)) := by rw [hw1]; exact heap_alloc_new w _
  have hK := known_ok w1 (Nat.le_trans h9 k1.size) (hG.keep k1)
  by_cases hbad : wmB org ws.length = false ∨ lmM (org + 4 * ws.length) org [] lb = false
  · have hD := fun V (k : Kp w V) => Dis_arg V (hG.keep k) org wv lv ws lb (hW.keep k) (hL.keep k) ho1 hnw hlb hsl hat hbad
    subst hwv
    subst hlv
    clear hbad hW hL hsl hat hv
    go_enter Tryz.func4, Tryz.ntmps4
    go_upto_region 1 with fail
    rw [← hw1]
    clear hw1
    go_upto_region 2 with (go_at_call 9; refine hK.mono ?_; rintro e w2 ⟨rfl, k2⟩)
    obtain ⟨c0, c1, c2, -⟩ := cells3 (Kp.heap k2 hq)
    go_wp2_with (go_at_call 12; refine (hD _ (Kp.trans k1 k2)).mono ?_; rintro e w3 ⟨rfl, k3⟩)
    go_ret
    exact ⟨rfl, Kp.trans (Kp.trans k1 k2) k3⟩
  · have hw : wmB org ws.length = true := by
      cases h : wmB org ws.length with
      | true => rfl
      | false => exact absurd (.inl h) hbad
    have hM : lmM (org + 4 * ws.length) org [] lb = true := by
      cases h : lmM (org + 4 * ws.length) org [] lb with
      | true => rfl
      | false => exact absurd (.inr h) hbad
    have hD := fun V (k : Kp w V) => Dis_src V (hG.keep k) org wv lv ws lb (hW.keep k) (hL.keep k) ho1 hlb hsl hat hv hw hM
    have hw' : (org % 4 = 0 ∧ ws.length ≤ 4096) ∧ org + 4 * ws.length ≤ 4294967296 := by simpa [wmB] using hw
    by_cases hR : (srcM org ws lb).length ≤ 20000
    · have hall := lm_all _ lb _ _ hM
      obtain ⟨ls, st, s1, s2, s3, s4, s5, s6, s7, s8⟩ := src_back org ws lb ho1 hw'.1.1 hw'.1.2 hw'.2 hv hM hR
      have hlb2 : lb.length < 1000000 := by
        have h1 := srcW_len ws org lb
        have h2 : (srcW org ws lb).length ≤ (srcM org ws lb).length := by rw [srcM]; simp only [List.length_append]; omega
        omega
      have hA : ∀ V, Kp w V → Calls Tryz.prog 11 #[.string (sb (srcM org ws lb))] V fun e w' => ∃ wv' lv', e = .returned (.tuple #[.agg #[.int .u32 org, wv', lv'], .int .i64 0, .int .i64 0]) ∧ WS w' wv' ws ∧ LS w' lv' lb ∧ (∃ a n c, wv' = .slice a n c) ∧ (∃ a n c, lv' = .slice a n c) ∧ Kp V w' := fun V k => by
        have h := Assemble_ok V (Nat.le_trans h9 k.size) (hG.keep k) (srcM org ws lb) ls st (ws.map fun (n : Nat) => (n : Int)) s1 hR s2 s3 s4 s5 (fun p hp => by rw [s7] at hp; have := hall p hp; omega) (by rw [s6]; exact ho1) s8
        refine h.mono ?_
        rintro e w' ⟨wv', lv', rfl, h1, h2, -, -, k2⟩
        rw [s7] at h2
        have e1 := own_WS ws h1
        have e2 := own_LS h2
        refine ⟨wv', lv', by rw [s6], e1, e2, ?_, ?_, k2⟩
        · obtain ⟨a, c, h, -⟩ := e1; exact ⟨_, _, _, h⟩
        · obtain ⟨a, c, h, -⟩ := e2; exact ⟨_, _, _, h⟩
      have hD' : ∀ V, Kp w V → Calls Tryz.prog 12 #[.agg #[.int .u32 org, wv, lv]] V fun e w' => e = .returned (.tuple #[.string (sb (srcM org ws lb)), .int .i64 0]) ∧ Kp V w' := fun V k => (hD V k).mono (by
        rintro e w' ⟨h | h, k2⟩
        · exact absurd h.1 (by omega)
        · exact ⟨h.2, k2⟩)
      have hS := fun V wv' lv' (k : Kp w V) (h1 : WS V wv' ws) (h2 : LS V lv' lb) => same_ok V org wv lv wv' lv' ws lb (hW.keep k) (hL.keep k) h1 h2 (by have := hw'.1.2; omega) hlb2
      generalize sb (srcM org ws lb) = u at *
      clear hbad hW hL hsl hat hv hw hM hw' hR hall s1 s2 s3 s4 s5 s6 s7 s8 hlb2 hD
      subst hwv
      subst hlv
      go_enter Tryz.func4, Tryz.ntmps4
      go_upto_region 1 with fail
      rw [← hw1]
      clear hw1
      go_upto_region 2 with (go_at_call 9; refine hK.mono ?_; rintro e w2 ⟨rfl, k2⟩)
      obtain ⟨c0, c1, c2, -⟩ := cells3 (Kp.heap k2 hq)
      go_upto_region 3 with (go_at_call 12; refine (hD' _ (Kp.trans k1 k2)).mono ?_; rintro e w3 ⟨rfl, k3⟩)
      have K3 : Kp w w3 := Kp.trans (Kp.trans k1 k2) k3
      go_upto_region 6 with (go_at_call 11; refine (hA _ K3).mono ?_; rintro e w4 ⟨wv', lv', rfl, e1, e2, ⟨wa', wn', wc', rfl⟩, ⟨la', ln', lc', rfl⟩, k4⟩)
      obtain ⟨w5, hw5⟩ : ∃ w5, w5 = w4.alloc (.cells #[.int .u32 org, .slice wa' wn' wc', .slice la' ln' lc'] 28) := ⟨_, rfl⟩
      have k5 : Kp w4 w5 := by rw [hw5]; exact (Chg.refl _ _).alloc _
      have hq5 : w5.heap[w4.heap.size]? = some (.cells #[.int .u32 org, .slice wa' wn' wc', .slice la' ln' lc'] 28 (0, 0)) := by rw [hw5]; exact heap_alloc_new w4 _
      rw [← hw5]
      clear hw5
      have hS5 := hS w5 _ _ (Kp.trans K3 (Kp.trans k4 k5)) (e1.keep k5) (e2.keep k5)
      clear c0 c1 c2
      obtain ⟨c0, c1, c2, -⟩ := cells3 (Kp.heap (Kp.trans k2 (Kp.trans k3 (Kp.trans k4 k5))) hq)
      obtain ⟨d0, d1, d2, -⟩ := cells3 hq5
      have HK : Hid (Kp w w5) := Kp.trans K3 (Kp.trans k4 k5)
      clear hS hA hD' e1 e2 hq5 k4 k5 K3 k3 hq hK k1 k2
      go_wp2_with (go_at_call 13; refine hS5.mono ?_; rintro e w6 ⟨rfl, k6⟩)
      go_ret
      exact ⟨rfl, Kp.trans HK.out k6⟩
    · have hD' : ∀ V, Kp w V → Calls Tryz.prog 12 #[.agg #[.int .u32 org, wv, lv]] V fun e w' => e = .returned (.tuple #[.string ⟨#[]⟩, .int .i64 110]) ∧ Kp V w' := fun V k => (hD V k).mono (by
        rintro e w' ⟨h | h, k2⟩
        · exact ⟨h.2, k2⟩
        · exact absurd h.1 hR)
      subst hwv
      subst hlv
      clear hbad hW hL hsl hat hv hw hM hw' hR hD
      go_enter Tryz.func4, Tryz.ntmps4
      go_upto_region 1 with fail
      rw [← hw1]
      clear hw1
      go_upto_region 2 with (go_at_call 9; refine hK.mono ?_; rintro e w2 ⟨rfl, k2⟩)
      obtain ⟨c0, c1, c2, -⟩ := cells3 (Kp.heap k2 hq)
      go_wp2_with (go_at_call 12; refine (hD' _ (Kp.trans k1 k2)).mono ?_; rintro e w3 ⟨rfl, k3⟩)
      go_ret
      exact ⟨rfl, Kp.trans (Kp.trans k1 k2) k3⟩
end Go.Proofs.YtgofjmhdgmfgfaaGreatDoor
