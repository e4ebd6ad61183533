import Derived.Test.YtgofjmhdgmfgfaaGreatDoorBd
namespace Go.Proofs.YtgofjmhdgmfgfaaGreatDoor
open Go.ChangeShapes Go.WideShapes Go.ChangeAt Go.RowKit
set_option linter.unusedVariables false

/-- Labels, written. -/
def lbT (ls : List (List UInt8 × Nat)) : List UInt8 := ls.flatMap (fun x => x.1 ++ [58, 10])
def isAt (a : Nat) (x : List UInt8 × Nat) : Bool := decide (x.2 = a)
/-- Words and labels, written. -/
def srcW : Nat → List Nat → List (List UInt8 × Nat) → List UInt8
  | _, [], lb => lbT lb
  | a, v :: ws, lb => lbT (lb.takeWhile (isAt a)) ++ (([9] ++ lineM v a ++ [10]) ++ srcW (a + 4) ws (lb.dropWhile (isAt a)))
def srcM (org : Nat) (ws : List Nat) (lb : List (List UInt8 × Nat)) : List UInt8 := ([46, 111, 114, 103, 32] ++ hex8 org ++ [10]) ++ srcW org ws lb
/-- Words that can be read. -/
def WS (w : World) (v : Value) (ws : List Nat) : Prop :=
  ∃ a c, v = .slice a ws.length c ∧ ws.length ≤ c ∧ (ws = [] ∨ ∃ g o, a = some ⟨g, o, none⟩ ∧ g < w.heap.size ∧ ∀ i x, ws[i]? = some x → w.cell? ⟨g, o + i, none⟩ = some (.int .u32 (x : Nat)))
theorem WS.keep {w w' : World} {v : Value} {ws : List Nat} (h : WS w v ws) (k : Kp w w') : WS w' v ws := by
  obtain ⟨a, c, h1, h2, h3⟩ := h
  refine ⟨a, c, h1, h2, ?_⟩
  rcases h3 with h | ⟨g, o, rfl, hg, hx⟩
  · exact .inl h
  · exact .inr ⟨g, o, rfl, Nat.lt_of_lt_of_le hg k.size, fun i x hi => Kp.cell k (hx i x hi)⟩
def slN : Value → Nat
  | .slice _ n _ => n
  | _ => 0
structure SJ (w wr : World) (pv : Array Value) (acc : List UInt8) (rv : Value) (rest : List (List UInt8 × Nat)) : Prop where
  bx : wr.heap[w.heap.size]? = some (.cells pv 28 (0, 0))
  bl : Bld (w.heap.size + 1) (w.heap.size + 1) acc wr
  kp : Kp w wr
  ls : LS w rv rest
  sz : w.heap.size + 1 < wr.heap.size
theorem SJ.keep {w wr V : World} {pv : Array Value} {acc : List UInt8} {rv : Value} {rest : List (List UInt8 × Nat)} (h : SJ w wr pv acc rv rest) (k : Kp wr V) : SJ w V pv acc rv rest :=
  ⟨Kp.heap k h.bx, h.bl.chg k, Kp.trans h.kp k, h.ls, Nat.lt_of_lt_of_le h.sz k.size⟩
theorem SJ.wr {w wr : World} {pv : Array Value} {acc : List UInt8} {rv : Value} {rest : List (List UInt8 × Nat)} (h : SJ w wr pv acc rv rest) (s : List UInt8) (hl : acc.length + s.length ≤ 100000000000) :
    Calls Tryz.prog 52 #[.pointer (some ⟨w.heap.size + 1, 0, none⟩), .string (sb s)] wr fun e w' => e = .returned (.tuple #[.int .i64 (s.length : Nat), .nilIface]) ∧ SJ w w' pv (acc ++ s) rv rest := by
  refine (wrS_any wr _ _ acc s h.bl hl (Nat.le_of_lt h.sz)).mono ?_
  rintro e w' ⟨rfl, h1, h2⟩
  refine ⟨rfl, ?_, h1, ?_, h.ls, Nat.lt_of_lt_of_le h.sz h2.size⟩
  · rw [h2.block _ (by omega)]; exact h.bx
  · exact Chg.trans h.kp (Chg.ofBelow h2) (fun i hi e => by omega)
theorem SJ.tail {w wr : World} {pv : Array Value} {acc : List UInt8} {rv rv' : Value} {rest rest' : List (List UInt8 × Nat)} (h : SJ w wr pv acc rv rest) (h' : LS w rv' rest') : SJ w wr pv acc rv' rest' := ⟨h.bx, h.bl, h.kp, h', h.sz⟩
theorem col_app (s : List UInt8) : Hid (sb s ++ (⟨#[58, 10]⟩ : ByteArray) = sb (s ++ [58, 10])) := (sb_app s [58, 10]).2
set_option maxRecDepth 100000 in
set_option maxHeartbeats 8000000 in
theorem sourceOf_ok (w : World) (hG : Gs w) (org : Nat) (wv lv : Value) (ws : List Nat) (lb : List (List UInt8 × Nat)) (hW : WS w wv ws) (hL : LS w lv lb) (ho : org + 4 * ws.length ≤ 4294967296) (ho1 : org < 4294967296) (hn : ws.length ≤ 4096) (hlb : lb.length ≤ 1000000) (hv : ∀ x ∈ ws, x < 4294967296) (hR : (srcM org ws lb).length ≤ 10000000000) :
    Calls Tryz.prog 27 #[.agg #[.int .u32 org, wv, lv]] w fun e w' => e = .returned (.string (sb (srcM org ws lb))) ∧ Kp w w' := by
  have hL0 := hL
  have hW0 := hW
  obtain ⟨la, lc, rfl, hlc, -⟩ := hL
  obtain ⟨wa, wc, rfl, hwc, -⟩ := hW
  obtain ⟨R, hRe⟩ : ∃ R, R = srcM org ws lb := ⟨_, rfl⟩
  rw [← hRe] at hR ⊢
  have HRe : Hid (([46, 111, 114, 103, 32] ++ hex8 org ++ [10]) ++ srcW org ws lb = R) := hRe.symm
  clear hRe
  have HL : Hid (LS w (.slice la lb.length lc) lb) := hL0
  have HW : Hid (WS w (.slice wa ws.length wc) ws) := hW0
  clear hL0 hW0
  have hH := fun V (kV : Kp w V) => hexadecimal_any V (hG.keep kV) org ho1
  have hxl := hex8_len ho1
  have kA : Kp w (w.alloc (.cells #[.int .u32 org, .slice wa ws.length wc, .slice la lb.length lc] 28)) := (Chg.refl _ _).alloc _
  have hq := heap_alloc_new w (.cells #[.int .u32 org, .slice wa ws.length wc, .slice la lb.length lc] 28)
  have kB : Kp (w.alloc (.cells #[.int .u32 org, .slice wa ws.length wc, .slice la lb.length lc] 28)) ((w.alloc (.cells #[.int .u32 org, .slice wa ws.length wc, .slice la lb.length lc] 28)).alloc (.cells #[.pointer none, .slice none 0 0] 108)) := (Chg.refl _ _).alloc _
  have bm := Bld.made (w.alloc (.cells #[.int .u32 org, .slice wa ws.length wc, .slice la lb.length lc] 28))
  rw [al_size] at bm
  have st0 : Hid (SJ w ((w.alloc (.cells #[.int .u32 org, .slice wa ws.length wc, .slice la lb.length lc] 28)).alloc (.cells #[.pointer none, .slice none 0 0] 108)) #[.int .u32 org, .slice wa ws.length wc, .slice la lb.length lc] [] (.slice la lb.length lc) lb) := SJ.mk (Kp.heap kB hq) bm (Kp.trans kA kB) HL.out (by rw [al_size, al_size]; omega)
  have b0 := (cells3 (Kp.heap kB hq)).1
  have kAB := Kp.trans kA kB
  have hap : Hid ((⟨#[46, 111, 114, 103, 32]⟩ : ByteArray) ++ sb (hex8 org) ++ ⟨#[10]⟩ = sb ([46, 111, 114, 103, 32] ++ hex8 org ++ [10])) := by
    show _ = _
    rw [← (sb_app ([46, 111, 114, 103, 32] ++ hex8 org) [10]).2, ← (sb_app [46, 111, 114, 103, 32] (hex8 org)).2]
    rfl
  have hz1 : ¬ 9223372036854775807 < 5 + (sb (hex8 org)).size := by rw [sb_size, hxl]; omega
  have hz2 : ¬ 9223372036854775807 < 5 + (sb (hex8 org)).size + 1 := by rw [sb_size, hxl]; omega
  have hlen0 : ([] : List UInt8).length + ([46, 111, 114, 103, 32] ++ hex8 org ++ [10]).length ≤ 100000000000 := by simp only [List.length_append, List.length_cons, List.length_nil, hxl]; omega
  have HLEN : Hid (([] : List UInt8).length + ([46, 111, 114, 103, 32] ++ hex8 org ++ [10]).length ≤ 100000000000) := hlen0
  clear hlen0 hxl kA kB hq bm
  go_enter Tryz.func27, Tryz.ntmps27
  go_wp2_with (first | (go_at_call 17; refine (hH _ kAB).mono ?_; rintro e w1 ⟨rfl, k1⟩; have st1 := SJ.keep st0.out k1) | (go_at_call 52; rw [hap.out]; refine (SJ.wr st1 _ HLEN.out).mono ?_; rintro e w2 ⟨rfl, st2⟩; have ST2 : Hid _ := st2; obtain ⟨d0, d1, d2, -⟩ := cells3 st2.bx; clear st1 st2))
  clear st0 hap hz1 hz2 HLEN b0 kAB hH k1 d0 d1 d2
  have HR0 : Hid (([] ++ ([46, 111, 114, 103, 32] ++ hex8 org ++ [10])) ++ srcW (org + 4 * 0) (ws.drop 0) lb = R) := by
    show _ = _
    simpa using HRe.out
  generalize [] ++ ([46, 111, 114, 103, 32] ++ hex8 org ++ [10]) = acc0 at *
  clear HRe
  go_loopw [4, 21] (fun s4 s21 wr => ∃ (j : Nat) (rest : List (List UInt8 × Nat)) (acc : List UInt8), s21 = .int .i64 j ∧ j ≤ ws.length ∧ Hid (acc ++ srcW (org + 4 * j) (ws.drop j) rest = R ∧ rest.length ≤ 1000000) ∧ Hid (SJ w wr #[.int .u32 org, .slice wa ws.length wc, .slice la lb.length lc] acc s4 rest)) (fun _ s21 _ => ws.length - (intOf s21).toNat)
  case atStart => exact ⟨0, lb, acc0, rfl, by omega, ⟨HR0, hlb⟩, ST2⟩
  case round =>
    clear HR0 ST2 acc0
    obtain ⟨j, rest, acc, rfl, hj, HM, HJ⟩ := hrel
    obtain ⟨d0, d1, d2, -⟩ := cells3 HJ.out.bx
    obtain ⟨ra, rc, rfl, hrc, -⟩ := HJ.out.ls
    by_cases hlt : j < ws.length
    · obtain ⟨v, hs⟩ : ∃ x, ws[j]? = some x := ⟨_, List.getElem?_eq_getElem hlt⟩
      have hdd : ws.drop j = v :: ws.drop (j + 1) := by
        rw [List.drop_eq_getElem_cons hlt]
        congr 1
        exact (List.getElem?_eq_some_iff.1 hs).2
      obtain ⟨hm1, hm2⟩ := HM.out
      rw [hdd] at hm1
      simp only [srcW] at hm1
      rw [show org + 4 * j + 4 = org + 4 * (j + 1) by omega] at hm1
      have hvl : v < 4294967296 := hv v (List.mem_of_getElem? hs)
      obtain ⟨wa', wc', e1, -, hx⟩ := WS.keep HW.out HJ.out.kp
      obtain ⟨rfl, rfl⟩ : wa = wa' ∧ wc = wc' := by simpa using e1
      rcases hx with hx | ⟨g, o, rfl, hg, hx⟩
      · rw [hx] at hlt; simp at hlt
      have x0 := hx j _ hs
      have hlz : (j : Int) < ws.length := by omega
      have hw1 : IntKind.u32.wrap (j : Int) = j := by simp [IntKind.wrap, IntKind.bits, IntKind.signed]; omega
      have hw1' : (j : Int) % 4294967296 = j := by omega
      have hw2 : (4 * (j : Int)) % 4294967296 = 4 * j := by omega
      have hw3 : ((org : Int) + 4 * j) % 4294967296 = ((org + 4 * j : Nat) : Int) := by omega
      have hal : org + 4 * j < 4294967296 := by omega
      have hLn := fun V (kV : Kp w V) => Line_any V (hG.keep kV) v (org + 4 * j) hvl hal
      have HM2 : Hid (acc ++ (lbT (rest.takeWhile (isAt (org + 4 * j))) ++ (([9] ++ lineM v (org + 4 * j) ++ [10]) ++ srcW (org + 4 * (j + 1)) (ws.drop (j + 1)) (rest.dropWhile (isAt (org + 4 * j))))) = R ∧ rest.length ≤ 1000000) := ⟨hm1, hm2⟩
      clear hx hs hdd hm1 hm2 HM hg e1 d1 d2
      go_wp2_with fail
      rw [show ((org : Int) + 4 * (j : Int)) = ((org + 4 * j : Nat) : Int) by omega]
      generalize hA : org + 4 * j = A at *
      generalize lineM v A = t at *
      clear d0 x0 hA hw3
      go_loopw [4] (fun s4 wr => ∃ (rest2 : List (List UInt8 × Nat)) (acc2 : List UInt8), Hid (acc2 ++ (lbT (rest2.takeWhile (isAt A)) ++ (([9] ++ t ++ [10]) ++ srcW (org + 4 * (j + 1)) (ws.drop (j + 1)) (rest2.dropWhile (isAt A)))) = R ∧ rest2.length ≤ 1000000) ∧ Hid (SJ w wr #[.int .u32 org, .slice (some ⟨g, o, none⟩) ws.length wc, .slice la lb.length lc] acc2 s4 rest2)) (fun s4 _ => slN s4)
      case atStart => exact ⟨rest, acc, HM2, HJ⟩
      case round =>
        clear HM2 HJ
        obtain ⟨rest2, acc2, HMI, HJ2⟩ := hrel
        obtain ⟨ra2, rc2, rfl, hrc2, hxx⟩ := HJ2.out.ls
        cases rest2 with
        | nil =>
          clear hxx
          simp only [List.length_nil] at *
          have st1 := HJ2.out
          have hLn2 := hLn _ st1.kp
          have hm3 : acc2 ++ ([9] ++ t ++ [10]) ++ srcW (org + 4 * (j + 1)) (ws.drop (j + 1)) [] = R ∧ ([] : List (List UInt8 × Nat)).length ≤ 1000000 := by
            simpa [lbT] using HMI.out
          have hll : acc2.length + ([9] ++ t ++ [10]).length ≤ 100000000000 := by
            have := congrArg List.length hm3.1
            rw [List.length_append, List.length_append] at this
            omega
          have hl2 : (t).length ≤ 10000000000 := by
            have := congrArg List.length hm3.1
            simp only [List.length_append] at this
            omega
          have hap : Hid ((⟨#[9]⟩ : ByteArray) ++ sb (t) ++ ⟨#[10]⟩ = sb ([9] ++ t ++ [10])) := by
            show _ = _
            rw [← (sb_app ([9] ++ t) [10]).2, ← (sb_app [9] (t)).2]
            rfl
          have hz1 : ¬ 9223372036854775807 < 1 + (sb (t)).size := by rw [sb_size]; omega
          have hz2 : ¬ 9223372036854775807 < 1 + (sb (t)).size + 1 := by rw [sb_size]; omega
          have HM3 : Hid (acc2 ++ ([9] ++ t ++ [10]) ++ srcW (org + 4 * (j + 1)) (ws.drop (j + 1)) [] = R ∧ ([] : List (List UInt8 × Nat)).length ≤ 1000000) := hm3
          have HLL : Hid (acc2.length + ([9] ++ t ++ [10]).length ≤ 100000000000) := hll
          have HS1 : Hid (SJ w wr #[.int .u32 org, .slice (some ⟨g, o, none⟩) ws.length wc, .slice la lb.length lc] acc2 (.slice ra2 0 rc2) []) := st1
          clear hm3 hll hl2 HMI st1
          go_wp2_with (first | (go_at_call 10; refine hLn2.mono ?_; rintro e w1 ⟨rfl, k1⟩) | (go_at_call 52; rw [hap.out]; refine (SJ.wr (SJ.keep HS1.out k1) _ HLL.out).mono ?_; rintro e w2 ⟨rfl, st2⟩))
          exact ⟨⟨j + 1, _, _, by go_num, by omega, HM3, st2⟩, by simp [intOf]; omega⟩
        | cons x tl =>
          obtain ⟨s, b⟩ := x
          rcases hxx with hxx | ⟨g2, o2, rfl, hg2, hxx⟩
          · cases hxx
          obtain ⟨y0, y1⟩ := hxx 0 (s, b) rfl
          rw [Nat.zero_mul, Nat.add_zero] at y0 y1
          have z0 := Kp.cell HJ2.out.kp y0
          have z1 := Kp.cell HJ2.out.kp y1
          clear y0 y1
          have hzl : (0 : Int) < (tl.length : Int) + 1 := by omega
          by_cases hne : b = A
          · subst hne
            have hm := HMI.out
            rw [List.takeWhile_cons_of_pos (by simp [isAt]), List.dropWhile_cons_of_pos (by simp [isAt])] at hm
            obtain ⟨hm, hml⟩ := hm
            have hm3 : acc2 ++ (s ++ [58, 10]) ++ (lbT (tl.takeWhile (isAt b)) ++ (([9] ++ t ++ [10]) ++ srcW (org + 4 * (j + 1)) (ws.drop (j + 1)) (tl.dropWhile (isAt b)))) = R ∧ tl.length ≤ 1000000 := by
              refine ⟨?_, by simp only [List.length_cons] at hml; omega⟩
              rw [← hm]
              simp [lbT]
            have hll : acc2.length + (s ++ [58, 10]).length ≤ 100000000000 := by
              have := congrArg List.length hm3.1
              rw [List.length_append, List.length_append] at this
              omega
            have hl2 : s.length ≤ 10000000000 := by
              have := congrArg List.length hm3.1
              simp only [List.length_append] at this
              omega
            have hap := col_app s
            have hz1 : ¬ 9223372036854775807 < (sb s).size + 2 := by rw [sb_size]; omega
            have HM3 : Hid (acc2 ++ (s ++ [58, 10]) ++ (lbT (tl.takeWhile (isAt b)) ++ (([9] ++ t ++ [10]) ++ srcW (org + 4 * (j + 1)) (ws.drop (j + 1)) (tl.dropWhile (isAt b)))) = R ∧ tl.length ≤ 1000000) := hm3
            have HLL : Hid (acc2.length + (s ++ [58, 10]).length ≤ 100000000000) := hll
            have HTL : Hid (∀ i x, tl[i]? = some x → w.cell? ⟨g2, o2 + 2 + i * 2, none⟩ = some (.string (sb x.1)) ∧ w.cell? ⟨g2, o2 + 2 + i * 2 + 1, none⟩ = some (.int .u32 (x.2 : Nat))) := by
              intro i x hi
              have := hxx (i + 1) x (by simpa using hi)
              rw [show o2 + 2 + i * 2 = o2 + (i + 1) * 2 by omega]
              exact this
            have HG2 : Hid (g2 < w.heap.size) := hg2
            have hrc3 : tl.length + 1 ≤ rc2 := by simpa using hrc2
            clear hm hml hm3 hll hl2 HMI hxx hg2
            by_cases hc1 : rc2 = 1
            · subst hc1
              obtain rfl : tl = [] := List.eq_nil_of_length_eq_zero (by omega)
              go_wp2_with (go_at_call 52; rw [hap.out]; refine (SJ.wr HJ2.out _ HLL.out).mono ?_; rintro e w2 ⟨rfl, st2⟩)
              exact ⟨⟨[], _, HM3, SJ.tail st2 ⟨_, _, rfl, by simp, .inl rfl⟩⟩, by simp [slN]⟩
            · go_wp2_with (go_at_call 52; rw [hap.out]; refine (SJ.wr HJ2.out _ HLL.out).mono ?_; rintro e w2 ⟨rfl, st2⟩)
              exact ⟨⟨tl, _, HM3, SJ.tail st2 ⟨_, _, rfl, by omega, .inr ⟨g2, o2 + 2, rfl, HG2.out, HTL.out⟩⟩⟩, by simp [slN]⟩
          · clear hxx
            have hnz : ¬ ((b : Nat) : Int) = ((A : Nat) : Int) := by omega
            have st1 := HJ2.out
            have hLn2 := hLn _ st1.kp
            have hm3 : acc2 ++ ([9] ++ t ++ [10]) ++ srcW (org + 4 * (j + 1)) (ws.drop (j + 1)) ((s, b) :: tl) = R ∧ (((s, b) :: tl) : List (List UInt8 × Nat)).length ≤ 1000000 := by
              have := HMI.out
              rw [List.takeWhile_cons_of_neg (by simpa [isAt] using hne), List.dropWhile_cons_of_neg (by simpa [isAt] using hne)] at this
              simpa [lbT] using this
            have hll : acc2.length + ([9] ++ t ++ [10]).length ≤ 100000000000 := by
              have := congrArg List.length hm3.1
              rw [List.length_append, List.length_append] at this
              omega
            have hl2 : (t).length ≤ 10000000000 := by
              have := congrArg List.length hm3.1
              simp only [List.length_append] at this
              omega
            have hap : Hid ((⟨#[9]⟩ : ByteArray) ++ sb (t) ++ ⟨#[10]⟩ = sb ([9] ++ t ++ [10])) := by
              show _ = _
              rw [← (sb_app ([9] ++ t) [10]).2, ← (sb_app [9] (t)).2]
              rfl
            have hz1 : ¬ 9223372036854775807 < 1 + (sb (t)).size := by rw [sb_size]; omega
            have hz2 : ¬ 9223372036854775807 < 1 + (sb (t)).size + 1 := by rw [sb_size]; omega
            have HM3 : Hid (acc2 ++ ([9] ++ t ++ [10]) ++ srcW (org + 4 * (j + 1)) (ws.drop (j + 1)) ((s, b) :: tl) = R ∧ (((s, b) :: tl) : List (List UInt8 × Nat)).length ≤ 1000000) := hm3
            have HLL : Hid (acc2.length + ([9] ++ t ++ [10]).length ≤ 100000000000) := hll
            have HS1 : Hid (SJ w wr #[.int .u32 org, .slice (some ⟨g, o, none⟩) ws.length wc, .slice la lb.length lc] acc2 (.slice (some ⟨g2, o2, none⟩) (tl.length + 1) rc2) ((s, b) :: tl)) := st1
            clear hm3 hll hl2 HMI st1
            go_wp2_with (first | (go_at_call 10; refine hLn2.mono ?_; rintro e w1 ⟨rfl, k1⟩) | (go_at_call 52; rw [hap.out]; refine (SJ.wr (SJ.keep HS1.out k1) _ HLL.out).mono ?_; rintro e w2 ⟨rfl, st2⟩))
            exact ⟨⟨j + 1, _, _, by go_num, by omega, HM3, st2⟩, by simp [intOf]; omega⟩
    · obtain rfl : j = ws.length := by omega
      obtain ⟨hm1, hm2⟩ := HM.out
      rw [List.drop_length] at hm1
      simp only [srcW] at hm1
      have hlz : ¬ (ws.length : Int) < ws.length := by omega
      have HM2 : Hid (acc ++ lbT (rest.drop 0) = R) := hm1
      have HRl : Hid (rest.length ≤ 1000000) := hm2
      clear HM hm1 hm2 d0 d1 d2
      have hrl : rest.length ≤ 1000000 := HRl.out
      go_wp2_with fail
      go_loopw [60] (fun s60 wr => ∃ (i : Nat) (acc2 : List UInt8), s60 = .int .i64 i ∧ i ≤ rest.length ∧ Hid (acc2 ++ lbT (rest.drop i) = R) ∧ Hid (SJ w wr #[.int .u32 org, .slice wa ws.length wc, .slice la lb.length lc] acc2 (.slice ra rest.length rc) rest)) (fun s60 _ => rest.length - (intOf s60).toNat)
      case atStart => exact ⟨0, acc, rfl, by omega, HM2, HJ⟩
      case round =>
        clear HM2 HJ
        obtain ⟨i, acc2, rfl, hi, HMI, HJ2⟩ := hrel
        by_cases hlt2 : i < rest.length
        · obtain ⟨⟨s, b⟩, hs⟩ : ∃ x, rest[i]? = some x := ⟨_, List.getElem?_eq_getElem hlt2⟩
          have hdd : rest.drop i = (s, b) :: rest.drop (i + 1) := by
            rw [List.drop_eq_getElem_cons hlt2]
            congr 1
            exact (List.getElem?_eq_some_iff.1 hs).2
          obtain ⟨ra', rc', e1, -, hxx⟩ := LS.keep HJ2.out.ls HJ2.out.kp
          obtain ⟨rfl, rfl⟩ : ra = ra' ∧ rc = rc' := by simpa using e1
          rcases hxx with hxx | ⟨g2, o2, rfl, hg2, hxx⟩
          · rw [hxx] at hlt2; simp at hlt2
          obtain ⟨y0, y1⟩ := hxx i _ hs
          have hm3 := HMI.out
          rw [hdd] at hm3
          have hm4 : acc2 ++ (s ++ [58, 10]) ++ lbT (rest.drop (i + 1)) = R := by
            rw [← hm3]; simp [lbT]
          have hll : acc2.length + (s ++ [58, 10]).length ≤ 100000000000 := by
            have := congrArg List.length hm4
            rw [List.length_append, List.length_append] at this
            omega
          have hl2 : s.length ≤ 10000000000 := by
            have := congrArg List.length hm4
            simp only [List.length_append] at this
            omega
          have hap := col_app s
          have hz1 : ¬ 9223372036854775807 < (sb s).size + 2 := by rw [sb_size]; omega
          have HM3 : Hid (acc2 ++ (s ++ [58, 10]) ++ lbT (rest.drop (i + 1)) = R) := hm4
          have HLL : Hid (acc2.length + (s ++ [58, 10]).length ≤ 100000000000) := hll
          have hiz : (i : Int) < rest.length := by omega
          have kb : Kp wr (wr.alloc (.cells #[.string (sb s), .int .u32 b] 44)) := (Chg.refl _ _).alloc _
          have f0 := (cells2 (heap_alloc_new wr (.cells #[.string (sb s), .int .u32 b] 44))).1
          have HS := SJ.keep HJ2.out kb
          have HS1 : Hid (SJ w (wr.alloc (.cells #[.string (sb s), .int .u32 b] 44)) #[.int .u32 org, .slice wa ws.length wc, .slice la lb.length lc] acc2 (.slice (some ⟨g2, o2, none⟩) rest.length rc) rest) := HS
          clear hdd hs hm3 hm4 hll hl2 HMI hxx HS HJ2 e1
          go_wp2_with (go_at_call 52; rw [hap.out]; refine (SJ.wr HS1.out _ HLL.out).mono ?_; rintro e w2 ⟨rfl, st2⟩)
          exact ⟨⟨i + 1, _, by go_num, by omega, HM3, st2⟩, by simp [intOf]; omega⟩
        · obtain rfl : i = rest.length := by omega
          have hiz : ¬ (rest.length : Int) < rest.length := by omega
          have hm := HMI.out
          rw [List.drop_length] at hm
          have hm2 : acc2 = R := by simpa [lbT] using hm
          subst hm2
          clear HMI hm
          go_wp2_with (go_at_call 53; refine (strB_any _ _ _ acc2 HJ2.out.bl (Nat.le_of_lt HJ2.out.sz)).mono ?_; rintro e w2 ⟨rfl, b2⟩)
          go_ret
          exact ⟨rfl, Chg.trans HJ2.out.kp (Chg.ofBelow b2) (fun i hi e => by omega)⟩
end Go.Proofs.YtgofjmhdgmfgfaaGreatDoor
namespace Go.Proofs.YtgofjmhdgmfgfaaGreatDoor
open Go.ChangeShapes Go.WideShapes Go.ChangeAt Go.RowKit
set_option linter.unusedVariables false

set_option maxRecDepth 100000 in
theorem Disassemble_ok (w : World) (hG : Gs w) (org : Nat) (wv lv : Value) (ws : List Nat) (lb : List (List UInt8 × Nat)) (hW : WS w wv ws) (hL : LS w lv lb) (ho : org + 4 * ws.length ≤ 4294967296) (ho1 : org < 4294967296) (h4 : org % 4 = 0) (hn : ws.length ≤ 4096) (hlb : lb.length ≤ 1000000) (hv : ∀ x ∈ ws, x < 4294967296)
    (hM : lmM (org + 4 * ws.length) org [] lb = true) (hsl : ∀ x, x ∈ lb → x.1.length ≤ 1000000) (hR : (srcM org ws lb).length ≤ 20000) :
    Calls Tryz.prog 12 #[.agg #[.int .u32 org, wv, lv]] w fun e w' => e = .returned (.tuple #[.string (sb (srcM org ws lb)), .int .i64 0]) ∧ Kp w w' := by
  have hL0 := hL
  have hW0 := hW
  obtain ⟨la, lc, rfl, hlc, -⟩ := hL
  obtain ⟨wa, wc, rfl, hwc, -⟩ := hW
  have kA : Kp w (w.alloc (.cells #[.int .u32 org, .slice wa ws.length wc, .slice la lb.length lc] 28)) := (Chg.refl _ _).alloc _
  have hq := heap_alloc_new w (.cells #[.int .u32 org, .slice wa ws.length wc, .slice la lb.length lc] 28)
  obtain ⟨c0, c1, c2, -⟩ := cells3 hq
  have hA := fun V => wordsMayBe_ok V org ws.length wa wc (.slice la lb.length lc) ho1 h4 hn ho ⟨_, _, _, rfl⟩
  have hB := fun V (k : Kp w V) => labelsMayBe_ok V (hG.gg.keep k) org ws.length wa wc (.slice la lb.length lc) lb ho1 hn (hL0.keep k) hlb hM hsl
  have hC := fun V (k : Kp w V) => sourceOf_ok V (hG.keep k) org (.slice wa ws.length wc) (.slice la lb.length lc) ws lb (hW0.keep k) (hL0.keep k) ho ho1 hn hlb hv (by omega)
  have hlz : ¬ (20000 : Int) < ((srcM org ws lb).length : Nat) := by omega
  have hsz : (sb (srcM org ws lb)).size = (srcM org ws lb).length := sb_size _
  generalize srcM org ws lb = R at *
  clear hM hsl hL0 hW0 hv
  go_enter Tryz.func12, Tryz.ntmps12
  go_upto_region 1 with fail
  go_upto_region 3 with (first | (go_at_call 25; refine (hA _).mono ?_; rintro e w1 ⟨rfl, k1⟩; have q1 := Kp.trans kA k1; obtain ⟨d0, d1, d2, -⟩ := cells3 (Kp.heap k1 hq)) | (go_at_call 26; refine (hB _ q1).mono ?_; rintro e w2 ⟨rfl, k2⟩; have q2 := Kp.trans q1 k2; obtain ⟨f0, f1, f2, -⟩ := cells3 (Kp.heap (Kp.trans k1 k2) hq)))
  go_wp2_with (go_at_call 27; refine (hC _ q2).mono ?_; rintro e w3 ⟨rfl, k3⟩)
  refine bodyPost_ret (results_tmp2 rfl _ _ _) rfl ⟨rfl, Kp.trans q2 k3⟩
end Go.Proofs.YtgofjmhdgmfgfaaGreatDoor
