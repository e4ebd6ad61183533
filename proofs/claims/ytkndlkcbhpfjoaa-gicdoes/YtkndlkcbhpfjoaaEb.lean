import Derived.Test.YtkndlkcbhpfjoaaEa
namespace Go.Proofs.Ytkndlkcbhpfjoaa
open Go.ChangeShapes Go.WideShapes Go.ChangeAt Go.RowKit Go.Shelf
set_option linter.unusedVariables false
attribute [local go_sem] Oper.semAt_some
theorem results_cells2 {fn : Func} {p u : Tmp} (h : fn.results = #[.cell p 3, .cell u 4]) (tmps : Array Value) (w : World) (b d : Nat) (x : Int) (y : Bool)
    (hp : tmps.getD p undef = .pointer (some ⟨b, 0, none⟩)) (hu : tmps.getD u undef = .pointer (some ⟨d, 0, none⟩))
    (hb : w.cell? ⟨b, 0, none⟩ = some (.int .i64 x)) (hd : w.cell? ⟨d, 0, none⟩ = some (.bool y)) :
    (results fn tmps).run Try.prog w = .ok (.tuple #[.int .i64 x, .bool y]) w := by
  have hp' : tmps[p]?.getD undef = .pointer (some ⟨b, 0, none⟩) := by simpa using hp
  have hu' : tmps[u]?.getD undef = .pointer (some ⟨d, 0, none⟩) := by simpa using hu
  simp [results, h, hp', hu', asAddr, go_sem, hb, hd]
theorem nend {w w2 w3 W : World} {x : Nat} {y : Bool} {a : Act} {B : Nat} {c : Int} {u6 u7 u8 u9 u10 u11 u12 : Value}
    (h : Kp w W ∧ W.heap[w.heap.size]? = some (.cells #[.int .i64 (x : Nat)] 3 (0, 0)) ∧ W.heap[w.heap.size + 1]? = some (.cells #[.bool y] 4 (0, 0)) ∧ W.heap[w3.heap.size]? = some (.deferred (some [])))
    (hs : w3.heap.size = w2.heap.size + 1 ∧ w.heap.size + 2 ≤ w2.heap.size)
    (ha : a = { tmps := #[Value.pointer (some { block := B, off := 0 }), Value.int IntKind.i64 c, undef, undef, Value.pointer (some { block := w.heap.size, off := 0 }), Value.pointer (some { block := w.heap.size + 1, off := 0 }), u6, u7, u8, u9, u10, u11, u12], defers := [{ target := .collected w3.heap.size, args := #[] }] }) :
    bodyPostM Fence.wide 3 Try.prog Try.f33 (fun e w' => e = .returned (.tuple #[.int .i64 (x : Nat), .bool y]) ∧ Kp w w') .ret a W := by
  obtain ⟨h1, h2, h3, h4⟩ := h
  subst ha
  refine ⟨by simp, .inl ⟨_, _, rfl, run_takeDeferred h4, ?_⟩⟩
  have g2 : (W.putObj w3.heap.size (.deferred none)).heap[w.heap.size]? = some (.cells #[.int .i64 (x : Nat)] 3 (0, 0)) := by rw [World.putObj_heap_other (by omega)]; exact h2
  have g3 : (W.putObj w3.heap.size (.deferred none)).heap[w.heap.size + 1]? = some (.cells #[.bool y] 4 (0, 0)) := by rw [World.putObj_heap_other (by omega)]; exact h3
  refine ⟨_, results_cells2 rfl _ _ w.heap.size (w.heap.size + 1) (x : Nat) y rfl rfl (by rw [(cells_at g2 0).1]; rfl) (by rw [(cells_at g3 0).1]; rfl), ?_⟩
  exact ⟨rfl, Chg.putObj h1 (.inr (by omega)) _⟩
set_option maxHeartbeats 4000000 in
set_option maxRecDepth 10000 in
theorem next_any (w : World) (B : Nat) (s : GS) (h : IsG w B s) (c : Int) :
    Calls Try.prog 33 #[.pointer (some ⟨B, 0, none⟩), .int .i64 c] w fun e w' => e = .returned (.tuple #[.int .i64 (nxN (s.wt c) : Nat), .bool (nxB (s.wt c))]) ∧ Kp w w' := by
  obtain ⟨f, hf⟩ : ∃ f, f = s.wt c := ⟨_, rfl⟩
  have hW : ∀ w1, Kp w w1 → Calls Try.prog 13 #[.pointer (some ⟨B, 0, none⟩), .int .i64 c] w1 fun e w' => e = .returned (.int .u32 (sw f : Nat)) ∧ Kp w1 w' := fun w1 k => by rw [hf]; exact waiting_any w1 B s (h.kp k) c
  rw [← hf]
  clear h hf
  refine (callsIn_wide (n := 3)).1 ?_
  refine callsIn_of_wp_marks Try.func33 rfl trivial ?_ rfl
  simp only [Try.ntmps33, List.size_toArray, List.length_cons, List.length_nil, Nat.reduceAdd, Nat.reduceSub, Array.replicate_succ, Array.replicate_zero, List.push_toArray, List.append_toArray, List.nil_append, List.cons_append]
  have kA : Kp w ((w.alloc (.cells #[.int .i64 0] 3)).alloc (.cells #[.bool false] 4)) := ((Chg.refl w _).alloc _).alloc _
  have hW1 := hW _ kA
  clear hW
  gi_wp2_with fail
  refine ⟨trivial, ?_⟩
  gi_at_call 13
  refine (callsIn_wide.2 hW1).mono ?_
  rintro e w2 ⟨rfl, k2⟩
  have hE := each_any w2 (sw f : Nat)
  clear hW1
  gi_wp2_with fail
  refine ⟨trivial, ?_⟩
  gi_at_call 37
  refine (callsIn_wide.2 hE).mono ?_
  rintro e w3 ⟨rfl, hw3⟩
  rw [hw3]
  clear hE
  gi_wp2_with fail
  rw [← hw3]
  have s3 : w3.heap.size = w2.heap.size + 1 := by rw [hw3]; simp
  have k3 : Kp w2 w3 := by rw [hw3]; exact (Chg.refl w2 _).alloc _
  have s1 : ((w.alloc (.cells #[.int .i64 0] 3)).alloc (.cells #[.bool false] 4)).heap.size = w.heap.size + 2 := by simp
  have s2 := k2.size
  rw [s1] at s2
  have g4 : w3.heap[w.heap.size]? = some (.cells #[.int .i64 0] 3 (0, 0)) := k3.heap (k2.heap (al_old _ (heap_alloc_new w _)))
  have g5 : w3.heap[w.heap.size + 1]? = some (.cells #[.bool false] 4 (0, 0)) := by
    have := heap_alloc_new (w.alloc (.cells #[.int .i64 0] 3)) (.cells #[.bool false] 4)
    exact k3.heap (k2.heap (by simpa using this))
  have hbx : eBox f w2.heap.size w3 := by
    have : w3.heap[w2.heap.size]? = some (.cells #[.int .u32 (sw f : Nat)] 30 (0, 0)) := by rw [hw3]; exact heap_alloc_new w2 _
    unfold eBox; rw [(cells_at this 0).1]; rfl
  have hseq := each_seq w3 1 w2.heap.size f hbx
  have kw : Kp w w3 := Kp.trans kA (Kp.trans k2 k3)
  have K0 : Hid (Kp w w3 ∧ w3.heap[w.heap.size]? = some (.cells #[.int .i64 0] 3 (0, 0)) ∧ w3.heap[w.heap.size + 1]? = some (.cells #[.bool false] 4 (0, 0)) ∧ w3.heap.size = w2.heap.size + 1 ∧ w.heap.size + 2 ≤ w2.heap.size) := ⟨kw, g4, g5, s3, s2⟩
  clear kw g4 g5 hbx k3 k2 hw3 s1 s3 s2 kA
  refine range_own (gf := 52) rfl (enters_of Try.func52 (by kernel_rfl) rfl) hseq (fun _ _ => rfl)
    (fun _ k W => k = 0 ∧ Chg w W (Two w.heap.size) ∧ Kp w W ∧ W.heap[w.heap.size]? = some (.cells #[.int .i64 0] 3 (0, 0)) ∧ W.heap[w.heap.size + 1]? = some (.cells #[.bool false] 4 (0, 0)))
    (fun c W => c = .ret ∧ 0 < (lns f).length ∧ Kp w W ∧ W.heap[w.heap.size]? = some (.cells #[.int .i64 (lnA f 0 : Nat)] 3 (0, 0)) ∧ W.heap[w.heap.size + 1]? = some (.cells #[.bool true] 4 (0, 0)))
    ?_ ?_ ?_ ?_ ?_
    (fun _ k a' W => a' = { tmps := #[Value.pointer (some { block := B, off := 0 }), Value.int IntKind.i64 c, undef, undef, Value.pointer (some { block := w.heap.size, off := 0 }), Value.pointer (some { block := w.heap.size + 1, off := 0 }), .int .i64 (lnA f k : Nat), Value.pointer (some { block := B, off := 0 }), Value.int IntKind.i64 c, Value.int IntKind.u32 ↑(sw f), Value.func (Fn.func 52) #[] #[Value.pointer (some { block := w2.heap.size, off := 0 })], .int .i64 (lnA f k : Nat), undef], defers := [] }) (fun _ _ _ _ _ h _ => h) ?assign ?body ?done ?stop
  · rintro _ k A C ⟨h0, h1, h2, h3, h4⟩ hC
    obtain ⟨q1, q2, q3, q4, q5⟩ := K0.out
    have hlow : ∀ i, i < w.heap.size + 2 → ¬ Two w3.heap.size i := by intro i hi e; rcases e with e | e <;> omega
    have kC : Kp w C := Chg.trans h2 (hC.mono (T := fun k => w.heap.size ≤ k) (fun i _ e => by rcases e with e | e <;> omega)) (fun i hi e => by omega)
    exact ⟨h0, kC.any, kC, hC.heap h3 (hlow _ (by omega)), hC.heap h4 (hlow _ (by omega))⟩
  · rintro c A C ⟨h0, h1, h2, h3, h4⟩ hC
    obtain ⟨q1, q2, q3, q4, q5⟩ := K0.out
    have hlow : ∀ i, i < w.heap.size + 2 → ¬ Two w3.heap.size i := by intro i hi e; rcases e with e | e <;> omega
    have kC : Kp w C := Chg.trans h2 (hC.mono (T := fun k => w.heap.size ≤ k) (fun i _ e => by rcases e with e | e <;> omega)) (fun i hi e => by omega)
    exact ⟨h0, h1, kC, hC.heap h3 (hlow _ (by omega)), hC.heap h4 (hlow _ (by omega))⟩
  · rintro _ A C D hAC hK h1
    obtain ⟨q1, q2, q3, q4, q5⟩ := K0.out
    have hb : w2.heap.size < A.heap.size := World.block_lt_of_cell? A _ h1
    exact hK ((hAC.cell hb (by rintro (e | e) <;> omega)).trans h1)
  · rintro _ A C D hK hCD h
    obtain ⟨q1, q2, q3, q4, q5⟩ := K0.out
    have h1 := hK h
    have hb : w2.heap.size < C.heap.size := World.block_lt_of_cell? C _ h1
    exact (hCD.cell hb (by rintro (e | e) <;> omega)).trans h1
  · intro _ W W1 hW hs hG
    obtain ⟨q1, q2, q3, q4, q5⟩ := K0.out
    have hq : Kp w3 W1 := Kp.trans hW hG
    exact ⟨⟨rfl, (Kp.trans q1 hq).any, Kp.trans q1 hq, hq.heap q2, hq.heap q3⟩, hG⟩
  case assign =>
    rintro _ k W K' hk hI hs hK'
    unfold eArgs
    clear hI hk
    gi_wp2
    exact hK' _ _ (Chg.refl _ _) rfl
  case body =>
    rintro _ k a' W hk ⟨h0, h1, h2, h3, h4⟩ rfl hs
    obtain ⟨q1, q2, q3, q4, q5⟩ := K0.out
    obtain ⟨e4, f4⟩ := cells_at h3 0
    obtain ⟨e5, f5⟩ := cells_at h4 0
    simp only [List.getElem?_toArray, List.getElem?_cons_zero] at e4 e5
    have e5' : (W.setCell ⟨w.heap.size, 0, none⟩ (.int .i64 (lnA f k : Nat))).cell? ⟨w.heap.size + 1, 0, none⟩ = some (.bool false) := by
      rw [World.cell?_of_block (heap_setCell_other W _ (w.heap.size + 1) _ (show w.heap.size + 1 ≠ w.heap.size by omega))]; exact e5
    have f5' : (W.setCell ⟨w.heap.size, 0, none⟩ (.int .i64 (lnA f k : Nat))).frozen? ⟨w.heap.size + 1, 0, none⟩ = false := by
      rw [World.frozen?_of_block (heap_setCell_other W _ (w.heap.size + 1) _ (show w.heap.size + 1 ≠ w.heap.size by omega))]; exact f5
    have KX : Hid ((∀ i, Two w3.heap.size i → ((W.setCell ⟨w.heap.size, 0, none⟩ (.int .i64 (lnA f k : Nat))).setCell ⟨w.heap.size + 1, 0, none⟩ (.bool true)).heap[i]? = W.heap[i]?) ∧ (Code.ret = .ret ∧ 0 < (lns f).length ∧ Kp w ((W.setCell ⟨w.heap.size, 0, none⟩ (.int .i64 (lnA f k : Nat))).setCell ⟨w.heap.size + 1, 0, none⟩ (.bool true)) ∧ ((W.setCell ⟨w.heap.size, 0, none⟩ (.int .i64 (lnA f k : Nat))).setCell ⟨w.heap.size + 1, 0, none⟩ (.bool true)).heap[w.heap.size]? = some (.cells #[.int .i64 (lnA f 0 : Nat)] 3 (0, 0)) ∧ ((W.setCell ⟨w.heap.size, 0, none⟩ (.int .i64 (lnA f k : Nat))).setCell ⟨w.heap.size + 1, 0, none⟩ (.bool true)).heap[w.heap.size + 1]? = some (.cells #[.bool true] 4 (0, 0)))) := by
      subst h0
      refine ⟨fun i hi => ?_, rfl, by omega, Chg.setCell (Chg.setCell h2 (.inr (Nat.le_refl _)) _) (.inr (Nat.le_succ _)) _, ?_, ?_⟩
      · have n1 : i ≠ w.heap.size + 1 := by rcases hi with e | e <;> omega
        have n2 : i ≠ w.heap.size := by rcases hi with e | e <;> omega
        rw [heap_setCell_other _ _ i _ n1, heap_setCell_other _ _ i _ n2]
      · rw [heap_setCell_other _ _ _ _ (show w.heap.size ≠ w.heap.size + 1 by omega)]; exact heap_setCell_same W w.heap.size 0 _ 3 _ h3
      · exact heap_setCell_same _ (w.heap.size + 1) 0 _ 4 _ ((heap_setCell_other W ⟨w.heap.size, 0, none⟩ (w.heap.size + 1) _ (show w.heap.size + 1 ≠ w.heap.size by omega)).trans h4)
    clear h1 h2 h3 h4 h0 hk q1 q2 q3 q4 q5 hseq hs
    gi_wp2
    exact ⟨KX.out.1, rfl, KX.out.2.2⟩
  case done =>
    rintro _ W ⟨h0, h1, h2, h3, h4⟩ hD
    obtain ⟨q1, q2, q3, q4, q5⟩ := K0.out
    obtain ⟨e4, f4⟩ := cells_at h3 0
    obtain ⟨e5, f5⟩ := cells_at h4 0
    simp only [List.getElem?_toArray, List.getElem?_cons_zero] at e4 e5
    have hz : (lns f).length = 0 := h0
    have hnx : nx f = none := by unfold nx; rw [List.eq_nil_of_length_eq_zero hz]; rfl
    have e1 : nxN f = 0 := by unfold nxN; rw [hnx]; rfl
    have e2 : nxB f = false := by unfold nxB; rw [hnx]; rfl
    have E1 : Hid (nxN f = 0 ∧ nxB f = false) := ⟨e1, e2⟩
    clear e1 e2
    have e5' : (W.setCell ⟨w.heap.size, 0, none⟩ (.int .i64 0)).cell? ⟨w.heap.size + 1, 0, none⟩ = some (.bool false) := by
      rw [World.cell?_of_block (heap_setCell_other W _ (w.heap.size + 1) _ (show w.heap.size + 1 ≠ w.heap.size by omega))]; exact e5
    have f5' : (W.setCell ⟨w.heap.size, 0, none⟩ (.int .i64 0)).frozen? ⟨w.heap.size + 1, 0, none⟩ = false := by
      rw [World.frozen?_of_block (heap_setCell_other W _ (w.heap.size + 1) _ (show w.heap.size + 1 ≠ w.heap.size by omega))]; exact f5
    obtain ⟨W5, hW5⟩ : ∃ W5, W5 = (W.setCell ⟨w.heap.size, 0, none⟩ (.int .i64 0)).setCell ⟨w.heap.size + 1, 0, none⟩ (.bool false) := ⟨_, rfl⟩
    have KX : Hid (Kp w W5 ∧ W5.heap[w.heap.size]? = some (.cells #[.int .i64 0] 3 (0, 0)) ∧ W5.heap[w.heap.size + 1]? = some (.cells #[.bool false] 4 (0, 0)) ∧ W5.heap[w3.heap.size]? = some (.deferred (some []))) := by
      rw [hW5]
      refine ⟨Chg.setCell (Chg.setCell h2 (.inr (Nat.le_refl _)) _) (.inr (Nat.le_succ _)) _, ?_, ?_, ?_⟩
      · rw [heap_setCell_other _ _ _ _ (show w.heap.size ≠ w.heap.size + 1 by omega)]; exact heap_setCell_same W w.heap.size 0 _ 3 _ h3
      · exact heap_setCell_same _ (w.heap.size + 1) 0 _ 4 _ ((heap_setCell_other W ⟨w.heap.size, 0, none⟩ (w.heap.size + 1) _ (show w.heap.size + 1 ≠ w.heap.size by omega)).trans h4)
      · have n1 : w3.heap.size ≠ w.heap.size + 1 := by omega
        have n2 : w3.heap.size ≠ w.heap.size := by omega
        rw [heap_setCell_other _ _ _ _ n1, heap_setCell_other _ _ _ _ n2]; exact hD
    clear h1 h2 h3 h4 h0 hz hnx hD hseq q1 q2 q3 q4 q5
    gi_wp2
    rw [← hW5]
    rw [E1.out.1, E1.out.2]
    exact nend (w3 := w3) KX.out K0.out.2.2.2 rfl
  case stop =>
    rintro c W ⟨rfl, hl, h2, h3, h4⟩ hD
    have e1 : nxN f = lnA f 0 := by
      unfold nxN nx lnA
      cases lns f with
      | nil => rfl
      | cons a r => rfl
    have e2 : nxB f = true := by
      unfold nxB nx
      cases hq : lns f with
      | nil => rw [hq] at hl; simp at hl
      | cons a r => rfl
    have E1 : Hid (nxN f = lnA f 0 ∧ nxB f = true) := ⟨e1, e2⟩
    clear e1 e2 hseq
    have KY : Hid (Kp w W ∧ W.heap[w.heap.size]? = some (.cells #[.int .i64 (lnA f 0 : Nat)] 3 (0, 0)) ∧ W.heap[w.heap.size + 1]? = some (.cells #[.bool true] 4 (0, 0)) ∧ W.heap[w3.heap.size]? = some (.deferred (some []))) := ⟨h2, h3, h4, hD⟩
    clear h2 h3 h4 hD
    gi_wp2
    rw [E1.out.1, E1.out.2]
    exact nend (w3 := w3) KY.out K0.out.2.2.2 rfl
end Go.Proofs.Ytkndlkcbhpfjoaa
