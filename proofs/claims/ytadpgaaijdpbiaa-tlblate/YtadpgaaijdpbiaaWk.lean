import Derived.Test.YtadpgaaijdpbiaaNw
namespace Go.Proofs.Ytadpgaaijdpbiaa
open Go.ChangeShapes Go.WideShapes Go.ChangeAt Go.RowKit Go.Shelf
set_option linter.unusedVariables false

set_option maxHeartbeats 4000000 in
set_option maxRecDepth 100000 in
theorem works_any (w : World) : Calls Try.prog 9 #[] w fun e w' => e = .returned (.bool true) ∧ Kp w w' := by
  have hN := New_any w 2 (by omega) (by omega)
  go_enter Try.func9, Try.ntmps9
  go_wp2_with fail
  go_at_call 11
  refine hN.mono ?_
  rintro e W1 ⟨rfl, hT1, hk1⟩
  clear hN
  obtain ⟨B, hB⟩ : ∃ B, B = w.heap.size + 1 := ⟨_, rfl⟩
  obtain ⟨M, hM⟩ : ∃ M, M = w.heap.size := ⟨_, rfl⟩
  rw [← hB, ← hM] at hT1
  have F1 : Hid (Fr w W1 B M (.slice none 0 0) 2 0 Sta.none) := ⟨hT1, hk1, fun i hi => by
    rcases hi with h | h | h
    · omega
    · omega
    · cases h⟩
  clear hT1 hk1 hM
  obtain ⟨W2, hW2⟩ : ∃ W, W = ((W1.alloc (.cells #[.int .i64 1, .int .u32 5] 31)).alloc (.cells #[.int .i64 1, .int .u32 6] 31)).alloc (.cells #[.int .i64 2, .int .u32 5] 31) := ⟨_, rfl⟩
  have hk2 : Kp W1 W2 := by rw [hW2]; exact (((Chg.refl W1 _).alloc _).alloc _).alloc _
  have F2 := F1.out.later hk2
  obtain ⟨lo, hlo⟩ : ∃ lo, lo = W1.heap.size := ⟨_, rfl⟩
  have hs2 : W2.heap.size = lo + 3 := by rw [hW2, hlo]; simp
  have A2 : Av lo (lo + 3) B M (.slice none 0 0) := by rw [hlo]; exact Av.of_new (w := w) F1.out.t _
  have ga : W2.heap[lo]? = some (.cells #[.int .i64 1, .int .u32 5] 31 (0, 0)) := by rw [hW2, hlo]; exact al_old _ (al_old _ (heap_alloc_new W1 _))
  have gb : W2.heap[lo + 1]? = some (.cells #[.int .i64 1, .int .u32 6] 31 (0, 0)) := by
    have := heap_alloc_new (W1.alloc (.cells #[.int .i64 1, .int .u32 5] 31)) (.cells #[.int .i64 1, .int .u32 6] 31)
    rw [al_size] at this
    rw [hW2, hlo]; exact al_old _ this
  have gc : W2.heap[lo + 2]? = some (.cells #[.int .i64 2, .int .u32 5] 31 (0, 0)) := by
    have := heap_alloc_new ((W1.alloc (.cells #[.int .i64 1, .int .u32 5] 31)).alloc (.cells #[.int .i64 1, .int .u32 6] 31)) (.cells #[.int .i64 2, .int .u32 5] 31)
    rw [al_size, al_size] at this
    rw [hW2, hlo]; exact this
  have hP1 := Put_any W2 B M _ 2 0 Sta.none F2.t wa wa_ok (1, 0) (by unfold MOk; simp) (by omega)
  clear F1 hk2
  unfold tV mV wa at hP1
  go_wp2_with fail
  rw [← hB, ← hW2, ← hlo]
  clear hB hW2 hlo
  go_at_call 12
  refine hP1.mono ?_
  rintro e W3 ⟨rfl, v3, hT3, hC3, hL3⟩
  have F3 := F2.step hT3 hC3 hL3
  have A3 := A2.step hL3 (by omega)
  have ga3 := A2.kept hC3 ga (by omega) (by omega)
  have gb3 := A2.kept hC3 gb (by omega) (by omega)
  have gc3 := A2.kept hC3 gc (by omega) (by omega)
  have hs3 := hC3.size
  have hP2 := Put_any W3 B M v3 2 1 _ F3.t wb wb_ok (2, 0) (by unfold MOk; simp) (by omega)
  unfold tV mV wb at hP2
  clear hP1 F2 A2 ga gb gc hC3 hL3 hT3
  obtain ⟨c0, c1, _, _⟩ := cells2 gb3
  go_wp2_with fail
  go_at_call 12
  refine hP2.mono ?_
  rintro e W4 ⟨rfl, v4, hT4, hC4, hL4⟩
  have F4 := F3.step hT4 hC4 hL4
  have A4 := A3.step hL4 (by omega)
  have ga4 := A3.kept hC4 ga3 (by omega) (by omega)
  have gb4 := A3.kept hC4 gb3 (by omega) (by omega)
  have gc4 := A3.kept hC4 gc3 (by omega) (by omega)
  have hs4 := hC4.size
  have hK := Look_any W4 B M v4 2 2 w2s F4.t wa wa_ok
  rw [w_look.1, w_look.2] at hK
  unfold tV mV wa at hK
  clear hP2 F3 A3 ga3 gb3 gc3 hC4 hL4 hT4 c0 c1
  obtain ⟨c0, c1, _, _⟩ := cells2 ga4
  go_wp2_with fail
  go_at_call 13
  refine hK.mono ?_
  rintro e W5 ⟨rfl, v5, hT5, hC5, hL5⟩
  have F5' := F4.step hT5 hC5 hL5
  have A5 := A4.step hL5 (by omega)
  have gb5' := A4.kept hC5 gb4 (by omega) (by omega)
  have gc5' := A4.kept hC5 gc4 (by omega) (by omega)
  have hs5' := hC5.size
  obtain ⟨W6, hW6⟩ : ∃ W, W = W5.alloc (.cells #[.int .u32 1, .int .u8 0] 36) := ⟨_, rfl⟩
  obtain ⟨b6, hb6⟩ : ∃ b, b = W5.heap.size := ⟨_, rfl⟩
  have hk6 : Kp W5 W6 := by rw [hW6]; exact (Chg.refl W5 _).alloc _
  have g6 : W6.heap[b6]? = some (.cells #[.int .u32 1, .int .u8 0] 36 (0, 0)) := by rw [hW6, hb6]; exact heap_alloc_new W5 _
  have F6 := F5'.later hk6
  have gb6 := hk6.heap gb5'
  have gc6 := hk6.heap gc5'
  have hs6 := hk6.size
  have hP3 := Put_any W6 B M v5 2 2 (w2s.look (1, 5)) F6.t wc wc_ok (3, 0) (by unfold MOk; simp) (by omega)
  have hg6 : b6 < W6.heap.size := (Array.getElem?_eq_some_iff.1 g6).1
  have hA6 : Av b6 (b6 + 1) B M v5 := by rw [hb6]; exact Av.of_new (w := w) hT5 _
  have wg := w_gone
  unfold wa wb at wg
  rw [wg.1, wg.2.1] at hP3
  unfold tV mV wc at hP3
  clear hK F4 A4 ga4 gb4 gc4 hC5 hL5 hT5 c0 c1 F5' gb5' gc5' hk6
  obtain ⟨c0, c1, _, _⟩ := cells2 gc6
  rw [hW6] at c0 c1
  go_wp2_with fail
  rw [← hW6, ← hb6]
  clear hW6 hb6
  go_at_call 12
  refine hP3.mono ?_
  rintro e W7 ⟨rfl, v7, hT7, hC7, hL7⟩
  have F7 := F6.step hT7 hC7 hL7
  have gb7 := A5.kept hC7 gb6 (by omega) (by omega)
  have g7 := hA6.kept hC7 g6 (by omega) (by omega)
  obtain ⟨W8, hW8⟩ : ∃ W, W = W7.alloc (.cells #[.int .i64 1, .int .u32 6] 31) := ⟨_, rfl⟩
  obtain ⟨b8, hb8⟩ : ∃ b, b = W7.heap.size := ⟨_, rfl⟩
  have hk8 : Kp W7 W8 := by rw [hW8]; exact (Chg.refl W7 _).alloc _
  have g8 : W8.heap[b8]? = some (.cells #[.int .i64 1, .int .u32 6] 31 (0, 0)) := by rw [hW8, hb8]; exact heap_alloc_new W7 _
  have F8 := F7.later hk8
  obtain ⟨d0, d1, _, _⟩ := cells2 (hk8.heap gb7)
  obtain ⟨e0, e1, _, _⟩ := cells2 (hk8.heap g7)
  obtain ⟨f0, f1, _, _⟩ := cells2 g8
  rw [hW8] at d0 d1 e0 e1 f0 f1
  rw [hb8] at f0 f1
  have hLn := Len_any W8 B _ _ v7 _ F8.t.box F8.t.ord
  unfold wc at wg
  rw [wg.2.2] at hLn
  have heq : ∀ W, (binOp BinOp.eql 31 (.agg #[.int .i64 1, .int .u32 6]) (.agg #[.int .i64 1, .int .u32 6])).run Try.prog W = .ok (.bool true) W := fun W => by rw [eql31]; rfl
  have HF : Hid (Kp w W8) := F8.kp
  clear hP3 F6 A5 gb6 gc6 g6 hC7 hL7 hT7 c0 c1 F7 gb7 g7 hk8 g8 F8 wg hA6
  go_wp2_with fail
  rw [← hW8, ← hb8]
  clear hW8 hb8
  go_at_call 14
  refine hLn.mono ?_
  rintro e w9 ⟨rfl, rfl⟩
  go_wp2
  go_ret
  exact ⟨rfl, HF.out⟩
end Go.Proofs.Ytadpgaaijdpbiaa
