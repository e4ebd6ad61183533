import Derived.Test.YtakddfhcafpceaaDb
namespace Go.Proofs.Ytakddfhcafpceaa
open Go.ChangeShapes Go.WideShapes Go.ChangeAt Go.RowKit Go.Shelf
set_option linter.unusedVariables false
attribute [local go_sem] Oper.semAt_some
set_option maxHeartbeats 4000000 in
set_option maxRecDepth 10000 in
theorem of_any (w : World) (B : Nat) (h : Hr) (i : IsH w B h) (c : Int) :
    Calls Try.prog 13 #[.pointer (some ⟨B, 0, none⟩), .int .i64 c] w fun e w' => ∃ v, e = .returned v ∧ OI w' v (ofN h c h.L.length) ∧ Kp w w' ∧ Nw w v := by
  obtain ⟨g, cap, hM, _, _⟩ := i.ex
  have hm2 := i.ok.m2
  have hcnt := cnt_frame i.ok
  have kA : Kp w ((w.alloc (.cells #[.int .i64 c] 3)).alloc (.cells #[.slice none 0 0] 22)) := (Kp.al w _).trans (Kp.al _ _)
  have cM := kA.cell hM
  have iA := i.kp kA
  have hAll := all_any ((w.alloc (.cells #[.int .i64 c] 3)).alloc (.cells #[.slice none 0 0] 22)) B 0 (h.M : Nat)
  have sA : ((w.alloc (.cells #[.int .i64 c] 3)).alloc (.cells #[.slice none 0 0] 22)).heap.size = w.heap.size + 2 := by simp
  have hseq := al3_seq ((w.alloc (.cells #[.int .i64 c] 3)).alloc (.cells #[.slice none 0 0] 22)) 1 B h iA 0 h.M (by omega) (by omega)
  rw [hcnt, sA] at hseq
  have g3 : ((w.alloc (.cells #[.int .i64 c] 3)).alloc (.cells #[.slice none 0 0] 22)).heap[w.heap.size]? = some (.cells #[.int .i64 c] 3 (0, 0)) := (Kp.al _ _).heap (heap_alloc_new w _)
  have g5 : ((w.alloc (.cells #[.int .i64 c] 3)).alloc (.cells #[.slice none 0 0] 22)).heap[w.heap.size + 1]? = some (.cells #[.slice none 0 0] 22 (0, 0)) := by
    have := heap_alloc_new (w.alloc (.cells #[.int .i64 c] 3)) (.cells #[.slice none 0 0] 22)
    simpa using this
  rw [sA] at hAll
  refine (callsIn_wide (n := 3)).1 ?_
  refine callsIn_of_wp_marks Try.func13 rfl trivial ?_ rfl
  simp only [Try.ntmps13, List.size_toArray, List.length_cons, List.length_nil, Nat.reduceAdd, Nat.reduceSub, Array.replicate_succ, Array.replicate_zero, List.push_toArray, List.append_toArray, List.nil_append, List.cons_append]
  have HG : Hid (IsH w B h ∧ Kp w ((w.alloc (.cells #[.int .i64 c] 3)).alloc (.cells #[.slice none 0 0] 22))) := ⟨i, kA⟩
  clear i kA iA hm2 hcnt
  gi_wp2_with fail
  refine ⟨trivial, ?_⟩
  gi_at_call 12
  refine (callsIn_wide.2 hAll).mono ?_
  rintro e w4 ⟨rfl, hw4⟩
  change w4 = al3 _ B ((0 : Nat) : Int) (h.M : Nat) at hw4
  rw [← hw4] at hseq
  have k4 := al3_kp ((w.alloc (.cells #[.int .i64 c] 3)).alloc (.cells #[.slice none 0 0] 22)) B ((0 : Nat) : Int) (h.M : Nat)
  have s4 := al3_size ((w.alloc (.cells #[.int .i64 c] 3)).alloc (.cells #[.slice none 0 0] 22)) B ((0 : Nat) : Int) (h.M : Nat)
  have a4 := (al3_at ((w.alloc (.cells #[.int .i64 c] 3)).alloc (.cells #[.slice none 0 0] 22)) B ((0 : Nat) : Int) (h.M : Nat)).1
  rw [sA] at a4 s4
  rw [← hw4] at k4 s4 a4
  have kw4 : Kp w w4 := HG.out.2.trans k4
  have g3' := k4.heap g3
  have g5' := k4.heap g5
  have K0 : Hid (Kp w w4 ∧ w4.heap[w.heap.size]? = some (.cells #[.int .i64 c] 3 (0, 0)) ∧ w4.heap[w.heap.size + 1]? = some (.cells #[.slice none 0 0] 22 (0, 0)) ∧ w4.heap.size = w.heap.size + 5 ∧ w4.cell? ⟨w.heap.size + 2, 0, none⟩ = some (.pointer (some ⟨B, 0, none⟩)) ∧ IsH w B h) := ⟨kw4, g3', g5', s4, a4, HG.out.1⟩
  clear kw4 g3' g5' s4 a4 k4 hw4 hAll cM hM g3 g5 sA HG
  gi_wp2_with fail
  refine range_own (gf := 25) rfl (enters_of Try.func25 (by kernel_rfl) rfl) hseq (fun _ _ => rfl)
    (fun _ k W => ∃ v, OfI w4 W (w.heap.size + 1) v (ofN h c k))
    (fun _ _ => False) ?_ (fun _ _ _ h _ => h) ?_ ?_ ?_
    (fun _ k a' W => ∃ Bx, w4.heap.size + 2 ≤ Bx ∧ W.heap[Bx]? = some (.cells #[.int .i64 (h.at k).c, .int .u64 (h.st k : Nat), .int .u64 ((h.at k).l : Nat)] 36 (0, 0)) ∧
      a' = { tmps := #[Value.pointer (some { block := B, off := 0 }), Value.int IntKind.i64 c, undef, Value.pointer (some { block := w.heap.size, off := 0 }), Value.slice none 0 0, Value.pointer (some { block := w.heap.size + 1, off := 0 }), .int .u64 (k : Nat), .pointer (some ⟨Bx, 0, none⟩), Value.pointer (some { block := B, off := 0 }), Value.pointer (some { block := B, off := 0 }), Value.pointer (some { block := B, off := 0 }), Value.pointer (some { block := B, off := 0 }), Value.int IntKind.u64 ↑h.M, Value.func (Fn.func 25) #[] #[Value.pointer (some { block := w.heap.size + 2, off := 0 }), Value.pointer (some { block := w.heap.size + 2 + 2, off := 0 }), Value.pointer (some { block := w.heap.size + 2 + 1, off := 0 })], .int .u64 (k : Nat), .agg #[.int .i64 (h.at k).c, .int .u64 (h.st k : Nat), .int .u64 ((h.at k).l : Nat)], undef, undef, undef, undef, undef, undef, undef, undef, undef, undef], defers := [] }) ?_ ?assign ?body ?done (fun _ _ h => h.elim)
  · rintro _ k A C ⟨v, hI⟩ hC
    obtain ⟨q1, q2, q3, q4, q5, q6⟩ := K0.out
    exact ⟨v, hI.two (by omega) hC⟩
  · rintro _ A C D hAC hK hx
    exact hK (hx.two hAC)
  · rintro _ A C D hK hCD hx
    exact (hK hx).two hCD
  · intro _ W W1 hW hs hG
    obtain ⟨q1, q2, q3, q4, q5, q6⟩ := K0.out
    have hq : Kp w4 W1 := Kp.trans hW hG
    exact ⟨⟨.slice none 0 0, hq.any, hq.heap q3, ⟨rfl, .inl ⟨rfl, rfl⟩⟩, fun k hk => by cases hk⟩, hG⟩
  · rintro _ k a' A C ⟨Bx, hBx, h1, h2⟩ hC
    exact ⟨Bx, hBx, hC.heap h1 (by rintro (e | e) <;> omega), h2⟩
  case assign =>
    rintro _ k W K' hk hI hs hK'
    unfold aArgs Hr.wn Wn.cs
    rw [ah_zero, Nat.zero_add]
    clear hI hk
    gi_wp2
    exact hK' _ _ (Kp.al _ _) ⟨W.heap.size, hs, heap_alloc_new W _, rfl⟩
  case body =>
    rintro _ k a' W hk ⟨v, hI⟩ ⟨Bx, hBx, hbx, rfl⟩ hs
    obtain ⟨q1, q2, q3, q4, q5, q6⟩ := K0.out
    have hk32 : k < 32 := by have := q6.ok.n2; omega
    have x0 := (cells_at hbx 0).1
    simp only [List.getElem?_toArray, List.getElem?_cons_zero] at x0
    have g3 : W.heap[w.heap.size]? = some (.cells #[.int .i64 c] 3 (0, 0)) := hI.k4.heap q2 (by omega)
    have x3 := (cells_at g3 0).1
    simp only [List.getElem?_toArray, List.getElem?_cons_zero] at x3
    obtain ⟨x5, f5⟩ := cells_at hI.bx 0
    simp only [List.getElem?_toArray, List.getElem?_cons_zero] at x5
    have HI : Hid (OfI w4 W (w.heap.size + 1) v (ofN h c k)) := hI
    by_cases hc : (h.at k).c = c
    · have hcb : ((h.at k).c == c) = true := by simp [hc]
      have hck : IntKind.i64.wrap (k : Int) = k := w64 (by omega) (by omega)
      obtain ⟨v', w', hrun, ho, hcg, hl⟩ := app_int W v (ofN h c k) hI.ow k (by have := ofN_len (h := h) (c := c) (k := k); omega)
      rw [← ofN_yes hc] at ho
      have g5 : w'.heap[w.heap.size + 1]? = some (.cells #[v] 22 (0, 0)) := hcg.heap hI.bx (fun e => by have := hI.nw _ e; omega)
      obtain ⟨y5, z5⟩ := cells_at g5 0
      simp only [List.getElem?_toArray, List.getElem?_cons_zero] at y5
      have hnv : ∀ q, v'.ownBlock = some q → w4.heap.size + 2 ≤ q := fun q hq => by
        rcases hl with e | ⟨k', e, h2⟩
        · rw [e] at hq; exact hI.nw q hq
        · rw [e] at hq; cases hq; omega
      obtain ⟨av, nv, cv, rfl⟩ : ∃ av nv cv, v' = .slice av nv cv := by
        rcases ho.at with ⟨e, _⟩ | ⟨g, cap, e, _⟩
        · exact ⟨_, _, _, e⟩
        · exact ⟨_, _, _, e⟩
      have HE : Hid ((∀ i, Two w4.heap.size i → (w'.setCell ⟨w.heap.size + 1, 0, none⟩ (.slice av nv cv)).heap[i]? = W.heap[i]?) ∧ (∃ v, OfI w4 (w'.setCell ⟨w.heap.size + 1, 0, none⟩ (.slice av nv cv)) (w.heap.size + 1) v (ofN h c (k + 1))) ∧ aBx w4.heap.size B (w.heap.size + 2) h (w'.setCell ⟨w.heap.size + 1, 0, none⟩ (.slice av nv cv))) := by
        have hW : Chg w4 (w'.setCell ⟨w.heap.size + 1, 0, none⟩ (.slice av nv cv)) (fun i => i = w.heap.size + 1) := Chg.setCell (Chg.trans hI.k4 hcg (fun i hi e => by have := hI.nw i e; omega)) (.inl rfl) _
        refine ⟨fun i hi => ?_, ⟨_, hW, heap_setCell_same w' (w.heap.size + 1) 0 _ 22 _ g5, ?_, hnv⟩, aBx.of2 q6 (by omega) (Chg.trans q1 hW (fun i hi e => by omega)) (hW.cell' (by omega) q5) (by omega)⟩
        · have n1 : i ≠ w.heap.size + 1 := by rcases hi with e | e <;> omega
          rw [heap_setCell_other _ _ i _ n1]
          exact hcg.block i (by rcases hi with e | e <;> omega) (fun e => by have := hI.nw i e; rcases hi with e | e <;> omega)
        · exact (Chg.setCell (Chg.refl w' (fun i => i = w.heap.size + 1)) (.inl rfl) _).owns ho (fun q hq e => by have := hnv q hq; omega)
      clear hI ho hcg hl hnv g5 q1 q2 q3 q4 q5 q6 g3 hbx hs hBx
      gi_wp2_with (gi_at_builtin; refine wpListIn_append_run _ rfl (.tmp 20) (.tmp 23) 22 22 rfl _ _ _ w' rfl rfl hrun ?_)
      exact ⟨HE.out.1, HE.out.2.1, fun _ => HE.out.2.2⟩
    · have hcb : ((h.at k).c == c) = false := by simp [hc]
      have HE : Hid ((∃ v, OfI w4 W (w.heap.size + 1) v (ofN h c (k + 1)))) := ⟨v, by rw [ofN_no hc]; exact hI⟩
      clear hI q1 q2 q3 q4 q5 q6 g3 hbx hs hBx
      gi_wp2_with fail
      exact ⟨fun _ _ => rfl, HE.out, fun x => x⟩
  case done =>
    rintro _ W ⟨v, hI⟩ hD
    obtain ⟨q1, q2, q3, q4, q5, q6⟩ := K0.out
    obtain ⟨x5, f5⟩ := cells_at hI.bx 0
    simp only [List.getElem?_toArray, List.getElem?_cons_zero] at x5
    obtain ⟨av, nv, cv, rfl⟩ : ∃ av nv cv, v = .slice av nv cv := by
      rcases hI.ow.at with ⟨e, _⟩ | ⟨g, cap, e, _⟩
      · exact ⟨_, _, _, e⟩
      · exact ⟨_, _, _, e⟩
    have HI : Hid (OfI w4 W (w.heap.size + 1) (.slice av nv cv) (ofN h c h.L.length)) := hI
    have HW : Hid (Kp w W ∧ w4.heap.size = w.heap.size + 5) := ⟨Chg.trans q1 hI.k4 (fun i hi e => by omega), q4⟩
    clear hI q1 q2 q3 q4 q5 q6 hseq
    gi_wp2_with fail
    refine ⟨by simp, .inl ⟨_, _, rfl, run_takeDeferred hD, ?_⟩⟩
    refine ⟨_, results_tmp rfl _ _ _, ?_⟩
    have kp : Chg W (W.putObj w4.heap.size (.deferred none)) (fun i => i = w4.heap.size) := Chg.putObj (Chg.refl W (fun i => i = w4.heap.size)) (.inl rfl) _
    refine ⟨_, rfl, kp.owns HI.out.ow (fun k hk e => by have := HI.out.nw k hk; omega), Chg.trans HW.out.1 kp (fun i hi e => by have := HW.out.2; omega), fun k hk => ?_⟩
    have := HI.out.nw k hk
    have := HW.out.2
    omega
end Go.Proofs.Ytakddfhcafpceaa
