import Derived.Test.YtkggkkoblpdopaaGreatYe
namespace Go.Proofs.YtkggkkoblpdopaaGreat
open Go.ChangeShapes Go.WideShapes Go.ChangeAt Go.RowKit
set_option linter.unusedVariables false
theorem Chg.setRow {a b : World} {S : Nat → Prop} (h : Chg a b S) {g : Nat} (hp : S g ∨ a.heap.size ≤ g) (cs : Array Value) : Chg a (b.setRow g cs) S :=
  h.trans (T := fun k => k = g) ⟨rfl, rfl, rfl, by simp [World.setRow], fun k hk hn => setRow_other b g k cs hn⟩
    (fun i hi x => by subst x; rcases hp with h | h; exact h; omega)
abbrev zC : Array Value := #[.slice none 0 0, .int .u64 0, .bool false, .slice none 0 0, .slice none 0 0, .slice none 0 0, .slice none 0 0, .int .i64 0, .int .i64 0, .int .i64 0, .int .i64 0, .int .i64 0, .int .i64 0, .int .i64 0, .int .i64 0, .int .i64 0, .int .i64 0, .int .i64 0, .int .i64 0, .int .i64 0, .int .i64 0, .int .i64 0, .int .i64 0, .int .i64 0, .int .i64 0, .int .i64 0, .int .i64 0, .int .i64 0, .int .i64 0, .int .i64 0, .int .i64 0, .int .i64 0, .int .i64 0, .int .i64 0, .int .i64 0, .int .i64 0, .int .i64 0, .int .i64 0, .int .i64 0, .int .u32 0, .int .u32 0, .slice none 0 0, .slice none 0 0, .slice none 0 0]
theorem size36 : (Tryz.prog.info? 36).map (·.size) = some 44 := by kernel_rfl
theorem res10 (tmps : Array Value) (w : World) (T : Nat) (cs : Array Value) (e : Value) (hp : tmps.getD 2 undef = .pointer (some ⟨T, 0, none⟩)) (h3 : tmps.getD 3 undef = e) (hg : w.heap[T]? = some (.cells cs 36 (0, 0))) (hsz : cs.size = 44) : (results Tryz.f10 tmps).run Tryz.prog w = .ok (.tuple #[.agg cs, e]) w := by
  have hp' : tmps[2]?.getD undef = .pointer (some ⟨T, 0, none⟩) := by simpa using hp
  have h3' : tmps[3]?.getD undef = e := by simpa using h3
  have hl := run_loadVar_row (P := Tryz.prog) w T 36 36 cs (0, 0) _ hg Tryz.underlying36 rfl (by rw [hsz]; exact size36)
  simp [results, Tryz.results10, hp', h3', asAddr, hl]
set_option maxRecDepth 10000 in
/-- Is the reader wrong? -/
theorem over_any (w : World) (R : Nat) (a : Option Addr) (cap : Nat) (s : RS) (h : IsRS w R a cap s) :
    Calls Tryz.prog 31 #[hR R] w fun r w' => r = .returned (.bool (!decide (s.err = 0))) ∧ Kp w w' := by
  have k0 := Kp.al w (.cells #[.pointer (some ⟨R, 0, none⟩)] 101)
  have A1 := rerr_any _ R a cap s (h.other k0 (fun e => e) (fun _ _ _ _ e => e))
  have HK : Hid (Kp w (w.alloc (.cells #[.pointer (some ⟨R, 0, none⟩)] 101))) := k0
  clear h k0
  obtain ⟨er, her⟩ : ∃ x, x = s.err := ⟨_, rfl⟩
  obtain ⟨wh, hwh⟩ : ∃ x, x = s.wh := ⟨_, rfl⟩
  rw [← her, ← hwh] at A1
  have HER : Hid (er = s.err) := her
  clear her hwh
  go_enter Tryz.func31, Tryz.ntmps31
  go_wp2_with fail
  go_at_call 79
  refine A1.mono ?_
  clear A1
  rintro e w1 ⟨rfl, i1, k1⟩
  have HK1 : Hid (Kp w w1) := Kp.trans HK.out k1
  clear i1 k1 HK
  go_wp2
  go_ret
  refine ⟨?_, HK1.out⟩
  show Ending.returned (.bool (er != 0)) = _
  have e : (er != 0) = !decide (s.err = 0) := by
    rw [← HER.out]
    by_cases h : er = 0
    · subst h; rfl
    · simp [bne, h]
  rw [e]
theorem opnE_ne {bs : List Int} {e : Int} (h : opnE bs = some e) : (e == 0) = false := by
  unfold opnE at h
  repeat' split at h
  all_goals first | (cases h; rfl) | cases h
/-- What Decode tells: where nothing of it is opened; where all lists are empty. -/
def DecR (w : World) (bs : List Int) (r : Ending) (w' : World) : Prop := Kp w w' ∧
  ((∃ e, opnE bs = some e ∧ r = .returned (.tuple #[.agg zC, .int .i64 e])) ∨
   (opnE bs = none ∧ ((rs1 bs).part.1.z12.end.err ≠ 0 ∧ r = .returned (.tuple #[.agg zC, .int .i64 230]) ∨ (rs1 bs).part.1.z12.end.err = 0 ∧ ∃ cs, r = .returned (.tuple #[.agg cs, .int .i64 0]) ∧ cs.size = 44 ∧ O1 cs ∧ cs[1]? = some (.int .u64 ((rs1 bs).part.1.num 8 : Nat)))))
set_option maxRecDepth 100000 in
set_option maxHeartbeats 4000000 in
theorem decode_any (w : World) (a : Option Addr) (len cap : Nat) (bs : List Int) (hB : Bs w a len bs) (hlc : len ≤ cap) (hem : opnE bs = none → (rs1 bs).part.1.empty) :
    Calls Tryz.prog 10 #[.slice a len cap] w fun r w' => DecR w bs r w' := by
  obtain ⟨w1, hw1⟩ : ∃ w1, w1 = w.alloc (.cells zC 36) := ⟨_, rfl⟩
  have k1 : Kp w w1 := by rw [hw1]; exact Kp.al _ _
  have hT : w1.heap[w.heap.size]? = some (.cells zC 36 (0, 0)) := by rw [hw1]; exact heap_alloc_new w _

  have A1 := opened_any w1 a len cap bs (hB.chg k1 (by simp)) hlc
  have H1 : Hid (Kp w w1 ∧ w1.heap[w.heap.size]? = some (.cells zC 36 (0, 0))) := ⟨k1, hT⟩
  have HEM : Hid (opnE bs = none → (rs1 bs).part.1.empty) := hem
  clear k1 hT hB hem
  go_enter Tryz.func10, Tryz.ntmps10
  go_wp2_with fail
  rw [← hw1]
  clear hw1
  go_at_call 29
  refine A1.mono ?_
  clear A1
  obtain ⟨T, hTe⟩ : ∃ T, T = w.heap.size := ⟨_, rfl⟩
  rw [← hTe] at H1 ⊢
  have HT : Hid (T = w.heap.size) := hTe
  clear hTe
  rintro r w2 ⟨k2, hr⟩
  have hT2 : w2.heap[T]? = some (.cells zC 36 (0, 0)) := Kp.heap k2 H1.out.2
  rcases hr with ⟨e, he, rfl⟩ | ⟨he, R, a2, cap2, rfl, i2, hR2, ha2⟩
  · have hne : (e == 0) = false := opnE_ne he
    have HF : Hid (DecR w bs (.returned (.tuple #[.agg zC, .int .i64 e])) (w2.setRow T zC) ∧ (w2.setRow T zC).heap[T]? = some (.cells zC 36 (0, 0))) := ⟨⟨Kp.trans H1.out.1 (by rw [setRow_self w2 T zC 36 (0, 0) hT2]; exact k2), .inl ⟨e, he, rfl⟩⟩, setRow_heap w2 T _ _ 36 _ hT2⟩
    clear k2 H1
    go_wp2_with (refine wpList_store_row rfl 36 (.tmp 2) (.tmp 15) rfl T zC rfl rfl 36 zC hT2 size36 rfl (by kernel_rfl) ?_)
    exact ⟨rfl, _, res10 _ _ T zC _ rfl rfl HF.out.2 rfl, HF.out.1⟩
  · have kg := Kp.al w2 (.cells zC 36)
    have kk := Kp.al (w2.alloc (.cells zC 36)) (.cells #[.pointer (some ⟨R, 0, none⟩)] 101)
    have hG0 := Kp.heap kk (heap_alloc_new w2 (.cells zC 36))
    have hK0 := heap_alloc_new (w2.alloc (.cells zC 36)) (.cells #[.pointer (some ⟨R, 0, none⟩)] 101)
    obtain ⟨w4, hw4⟩ : ∃ w4, w4 = (w2.alloc (.cells zC 36)).alloc (.cells #[.pointer (some ⟨R, 0, none⟩)] 101) := ⟨_, rfl⟩
    rw [← hw4] at hG0 hK0 kk
    have k4 := Kp.trans kg kk
    have hRl := hp_lt i2.box
    have hal : ∀ x off, a2 = some ⟨x, off, none⟩ → 0 < (rs1 bs).part.1.bs.length → x < w2.heap.size := fun x off e hl => by
      obtain ⟨q1, q2, q3, q4⟩ := i2.bytes
      rcases q4 with q4 | ⟨bb, oo, q4, q5⟩
      · omega
      · rw [e] at q4; cases q4
        exact lt_of_cell (q5 0 hl)
    obtain ⟨s0, hs0⟩ : ∃ x, x = (rs1 bs).part.1 := ⟨_, rfl⟩
    have hem := HEM.out he
    rw [← hs0] at i2 hal ha2 hem
    have hTl := hp_lt hT2
    have r4 : R1 w4 R a2 cap2 s0 w2.heap.size zC 36 := ⟨i2.other k4 (fun e => e) (fun _ _ _ _ e => e), hG0, by omega, fun x off e hl => by have := hal x off e hl; omega⟩
    have A1 := rgoOver0 r4 rfl (by unfold O1; kernel_rfl) (fun j hj => by
      have : j = 3 ∨ j = 4 ∨ j = 5 ∨ j = 6 ∨ j = 41 ∨ j = 42 ∨ j = 43 := by rcases hj with e | e <;> omega
      rcases this with rfl | rfl | rfl | rfl | rfl | rfl | rfl <;> rfl) hem
    have cK := (cells_at hK0 0).1
    have HG4 : Hid (w2.heap.size < w4.heap.size) := hp_lt hG0
    have HRw : Hid (w.heap.size ≤ R ∧ w.heap.size ≤ w2.heap.size) := ⟨Nat.le_trans H1.out.1.size hR2, Nat.le_trans H1.out.1.size k2.size⟩
    have eK : (w2.alloc (.cells zC 36)).heap.size = w2.heap.size + 1 := by simp
    rw [eK] at cK
    have hT4 := Kp.heap k4 hT2
    have HS : Hid (s0 = (rs1 bs).part.1 ∧ Kp w1 w2 ∧ Kp w2 w4 ∧ w4.heap[T]? = some (.cells zC 36 (0, 0))) := ⟨hs0, k2, k4, hT4⟩
    clear hs0 i2 hal ha2 r4 kg kk k4 hG0 hK0 k2 eK hT4 hT2 hem
    go_wp2_with fail
    rw [← hw4]
    clear hw4
    go_at_call 24
    refine A1.mono ?_
    clear A1
    rintro e w5 ⟨rfl, c5, q1, q2, q3, q4⟩
    obtain ⟨G, hGe⟩ : ∃ G, G = w2.heap.size := ⟨_, rfl⟩
    rw [← hGe] at q1 cK HG4 HRw ⊢
    have hGT : T < G ∧ R < G := by omega
    clear hGe hTl hRl
    have cK5 := Chg.cell' q1.2 (b := G + 1) (o := 0) (by omega) cK
    have A1 := end_any w5 R a2 cap2 s0.z12 q1.1.rs
    have H5 : Hid (R1 w5 R a2 cap2 s0.z12 G c5 36 ∧ Chg w4 w5 (fun k => k = R ∨ k = G) ∧ c5.size = 44 ∧ O1 c5 ∧ c5[1]? = some (.int .u64 (s0.num 8 : Nat))) := ⟨q1.1, q1.2, q2, q3, q4⟩
    clear q1 q2 q3 q4 cK
    go_wp2_with fail
    go_at_call 30
    refine A1.mono ?_
    clear A1
    rintro e w6 ⟨rfl, i6, c6⟩
    have cK6 := Chg.cell' c6 (b := G + 1) (o := 0) (by omega) cK5
    have A1 := over_any w6 R a2 cap2 s0.z12.end i6
    have H6 : Hid (Chg w5 w6 (fun k => k = R)) := c6
    clear i6 c6 cK5
    go_wp2_with fail
    go_at_call 31
    refine A1.mono ?_
    clear A1 cK6
    rintro e w7 ⟨rfl, k7⟩
    obtain ⟨hs0, k2, k4, hT4⟩ := HS.out
    have hG4 := HG4.out
    have hTw1 : T < w1.heap.size := hp_lt H1.out.2
    have cAll : Chg w4 w7 (fun k => k = R ∨ k = G) := Chg.trans (Chg.trans H5.out.2.1 H6.out (fun _ _ e => .inl e)) k7.any (fun _ _ e => e)
    have hT7 : w7.heap[T]? = some (.cells zC 36 (0, 0)) := cAll.heap hT4 (by omega)
    have hG7 : w7.heap[G]? = some (.cells c5 36 (0, 0)) := Kp.heap k7 (H6.out.heap H5.out.1.bl (by omega))
    have hsz := H5.out.2.2.1
    have hone : c5.all (·.oneCell') = true := H5.out.2.2.2.1
    have kT : ∀ cs, Kp w (w7.setRow T cs) := fun cs => by
      have c7 : Chg w w7 (fun k => k = R ∨ k = G) := Chg.trans (Chg.trans (Chg.trans H1.out.1.any k2.any (fun _ _ e => e)) k4.any (fun _ _ e => e)) cAll (fun _ _ e => e)
      refine Chg.mono (S := fun k => (k = R ∨ k = G) ∨ k = T) (Chg.setRow (c7.mono (fun _ _ e => .inl e)) (.inl (.inr rfl)) cs) (fun k hk e => ?_)
      have h1 := HT.out
      have h2 := HRw.out
      rcases e with (e | e) | e <;> omega
    by_cases he2 : s0.z12.end.err = 0
    · have HF : Hid (DecR w bs (.returned (.tuple #[.agg c5, .int .i64 0])) (w7.setRow T c5) ∧ (w7.setRow T c5).heap[T]? = some (.cells c5 36 (0, 0))) := by
        refine ⟨⟨kT c5, .inr ⟨he, .inr ⟨by rw [← hs0]; exact he2, c5, rfl, hsz, hone, by rw [← hs0]; exact H5.out.2.2.2.2⟩⟩⟩, setRow_heap w7 T _ _ 36 _ hT7⟩
      rw [decide_eq_true he2]
      clear kT cAll H5 H6 HS hs0 k2 k4 hT4 k7 H1
      go_wp2_with (first | refine wpList_load_row rfl 36 (.tmp 6) rfl G rfl 36 c5 (0, 0) _ hG7 Tryz.underlying36 rfl (by rw [hsz]; exact size36) ?_ | refine wpList_store_row rfl 36 (.tmp 2) (.tmp 28) rfl T c5 rfl rfl 36 zC hT7 (by rw [hsz]; exact size36) (by rw [hsz]; rfl) hone ?_)
      exact ⟨rfl, _, res10 _ _ T c5 _ rfl rfl HF.out.2 hsz, HF.out.1⟩
    · have HF : Hid (DecR w bs (.returned (.tuple #[.agg zC, .int .i64 230])) (w7.setRow T zC) ∧ (w7.setRow T zC).heap[T]? = some (.cells zC 36 (0, 0))) := ⟨⟨kT zC, .inr ⟨he, .inl ⟨by rw [← hs0]; exact he2, rfl⟩⟩⟩, setRow_heap w7 T _ _ 36 _ hT7⟩
      rw [decide_eq_false he2]
      clear kT cAll H5 H6 HS hs0 k2 k4 hT4 k7 H1
      go_wp2_with (refine wpList_store_row rfl 36 (.tmp 2) (.tmp 27) rfl T zC rfl rfl 36 zC hT7 size36 rfl (by kernel_rfl) ?_)
      exact ⟨rfl, _, res10 _ _ T zC _ rfl rfl HF.out.2 rfl, HF.out.1⟩
end Go.Proofs.YtkggkkoblpdopaaGreat
