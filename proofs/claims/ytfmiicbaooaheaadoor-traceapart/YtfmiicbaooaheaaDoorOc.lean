import Derived.Test.YtfmiicbaooaheaaDoorOb
namespace Go.Proofs.YtfmiicbaooaheaaDoor
open Go.ChangeShapes Go.WideShapes Go.ChangeAt Go.RowKit Go.Shelf
set_option linter.unusedVariables false
attribute [local go_sem] Oper.semAt_some
theorem wpListIn_append_run {F : Fence} {n : Nat} {P : Program} (w : World) {ops : Array Oper} {rest : List Oper} {o : Oper} {a : Act} {Q : Exit → Act → World → Prop} (hgd : o.guard = none) (s x : Operand) (t u : TypeId)
    (ho : o.op = .call { callee := .builtin .append, args := #[s, x], argTypes := #[t, u] }) (v y v' : Value) (w' : World)
    (hs : a.eval s = v) (hx : a.eval x = y) (hrun : (Builtin.append_ #[t, u] o.type #[v, y]).run P w = .ok v' w')
    (h : wpListIn F n P ops Q rest (a.put o.dst v') w') : wpListIn F n P ops Q (o :: rest) a w := by
  refine wpListIn_plain hgd fun K hK => ?_
  unfold Oper.wpIn
  refine ⟨?_, ?_⟩
  · simp [Oper.about, ho, resolve, Target.leads, Sem.run_pure]
  · rw [Oper.semAt_plain F _ _ (by rw [ho]; intro c hc'; cases hc')]
    simp [execOp, ho, resolve, invoke, builtin, hs, hx, hrun, Result.andThen]
    exact hK _ _ h
/-- While observations are gathered in a box's list. -/
structure GaI (w4 W : World) (b5 : Nat) (v : Value) (l : List Ob) : Prop where
  k4 : Chg w4 W (fun i => i = b5)
  bx : W.heap[b5]? = some (.cells #[v] 25 (0, 0))
  ow : OO W v l
  nw : ∀ k, v.ownBlock = some k → w4.heap.size + 2 ≤ k
theorem GaI.two {w4 W W' : World} {b5 : Nat} {v : Value} {l : List Ob} (h : GaI w4 W b5 v l) (h5 : b5 < w4.heap.size) (hc : Chg W W' (Two w4.heap.size)) : GaI w4 W' b5 v l := by
  refine ⟨Chg.trans h.k4 hc (fun i hi e => by rcases e with e | e <;> omega), hc.heap h.bx (by rintro (e | e) <;> omega), hc.owns h.ow (fun k hk e => by have := h.nw k hk; rcases e with e | e <;> omega), h.nw⟩
theorem own_le (c : Int) (L : List Ob) : (own c L).length ≤ L.length := List.length_filter_le _ _
theorem take_snocO {l : List Ob} {k : Nat} (h : k < l.length) : l.take (k + 1) = l.take k ++ [nth l k] := by
  rw [List.take_add_one, List.getElem?_eq_getElem h, nth_eq h]; rfl
set_option maxHeartbeats 4000000 in
set_option maxRecDepth 10000 in
/-- slices.AppendSeq of nothing and Of's iterator. -/
theorem appSeq_any (w : World) (bA bC : Nat) (c : Int) (L : List Ob) (a : Option Addr) (cap : Nat) (s0 : Nat) (x : oBx s0 w.heap.size bA bC c L a cap w) :
    Calls Tryd.prog 25 #[.slice none 0 0, .func (.func 17) #[] #[.pointer (some ⟨bA, 0, none⟩), .pointer (some ⟨bC, 0, none⟩)]] w fun e w' => ∃ v, e = .returned v ∧ OO w' v (own c L) ∧ Kp w w' ∧ Nw w v := by
  obtain ⟨w4, hw4⟩ : ∃ w4, w4 = w.alloc (.cells #[.slice none 0 0] 25) := ⟨_, rfl⟩
  have k4 : Kp w w4 := by rw [hw4]; exact Kp.al _ _
  have s4 : w4.heap.size = w.heap.size + 1 := by rw [hw4]; simp
  have g4 : w4.heap[w.heap.size]? = some (.cells #[.slice none 0 0] 25 (0, 0)) := by rw [hw4]; exact heap_alloc_new w _
  have hseq := of_seq w4 s0 w.heap.size 1 bA bC c L a cap (x.kp k4)
  have hln : (own c L).length ≤ 1000000 := Nat.le_trans (own_le c L) x.ln
  have K0 : Hid (Kp w w4 ∧ w4.heap.size = w.heap.size + 1 ∧ w4.heap[w.heap.size]? = some (.cells #[.slice none 0 0] 25 (0, 0)) ∧ oBx s0 w.heap.size bA bC c L a cap w4) := ⟨k4, s4, g4, x.kp k4⟩
  clear k4 s4 g4 x
  refine (callsIn_wide (n := 3)).1 ?_
  refine callsIn_of_wp_marks Tryd.func25 rfl trivial ?_ rfl
  simp only [Tryd.ntmps25, List.size_toArray, List.length_cons, List.length_nil, Nat.reduceAdd, Nat.reduceSub, Array.replicate_succ, Array.replicate_zero, List.push_toArray, List.append_toArray, List.nil_append, List.cons_append]
  gi_wp2_with fail
  rw [← hw4]
  clear hw4
  refine range_own (gf := 17) rfl (enters_of Tryd.func17 (by kernel_rfl) rfl) hseq (fun _ _ => rfl)
    (fun _ k W => ∃ v, GaI w4 W w.heap.size v ((own c L).take k))
    (fun _ _ => False) ?_ (fun _ _ _ h _ => h) ?_ ?_ ?_
    (fun _ k a' W => ∃ Bx, w4.heap.size + 2 ≤ Bx ∧ W.heap[Bx]? = some (.cells #[.int .u64 (nth (own c L) k).t, .int .i64 (nth (own c L) k).c, .int .i64 (nth (own c L) k).k, .int .u32 (nth (own c L) k).p, .int .u32 (nth (own c L) k).a, .int .u32 (nth (own c L) k).b] 31 (0, 0)) ∧
      a' = { tmps := #[Value.slice none 0 0, Value.func (Fn.func 17) #[] #[Value.pointer (some { block := bA, off := 0 }), Value.pointer (some { block := bC, off := 0 })], Value.pointer (some { block := w.heap.size, off := 0 }), undef, Value.slice none 0 0, .pointer (some ⟨Bx, 0, none⟩), Value.func (Fn.func 17) #[] #[Value.pointer (some { block := bA, off := 0 }), Value.pointer (some { block := bC, off := 0 })], Value.agg #[.int .u64 (nth (own c L) k).t, .int .i64 (nth (own c L) k).c, .int .i64 (nth (own c L) k).k, .int .u32 (nth (own c L) k).p, .int .u32 (nth (own c L) k).a, .int .u32 (nth (own c L) k).b], undef, undef, undef, undef, undef], defers := [] }) ?_ ?assign ?body ?done (fun _ _ h => h.elim)
  · rintro _ k A C ⟨v, hI⟩ hC
    obtain ⟨q1, q2, q3, q4⟩ := K0.out
    exact ⟨v, hI.two (by omega) hC⟩
  · rintro _ A C D hAC hK hx
    exact hK (hx.chg hAC (by rintro k _ hk (e | e) <;> (have := K0.out.2.1; omega)))
  · rintro _ A C D hK hCD hx
    exact (hK hx).chg hCD (by rintro k _ hk (e | e) <;> (have := K0.out.2.1; omega))
  · intro _ W W1 hW hs hG
    obtain ⟨q1, q2, q3, q4⟩ := K0.out
    have hq : Kp w4 W1 := Kp.trans hW hG
    exact ⟨⟨.slice none 0 0, hq.any, hq.heap q3, by simpa using OO.nil W1, fun k hk => by cases hk⟩, hG⟩
  · rintro _ k a' A C ⟨Bx, hBx, h1, h2⟩ hC
    exact ⟨Bx, hBx, hC.heap h1 (by rintro (e | e) <;> omega), h2⟩
  case assign =>
    rintro _ k W K' hk hI hs hK'
    unfold oArgs Ob.v
    clear hI hk
    gi_wp2
    exact hK' _ _ (Kp.al _ _) ⟨W.heap.size, hs, heap_alloc_new W _, rfl⟩
  case body =>
    rintro _ k a' W hk ⟨v, hI⟩ ⟨Bx, hBx, hbx, rfl⟩ hs
    obtain ⟨q1, q2, q3, q4⟩ := K0.out
    have t0 := (cells_at hbx 0).1
    have t1 := (cells_at hbx 1).1
    have t2 := (cells_at hbx 2).1
    have t3 := (cells_at hbx 3).1
    have t4 := (cells_at hbx 4).1
    have t5 := (cells_at hbx 5).1
    simp only [List.getElem?_toArray, List.getElem?_cons_zero, List.getElem?_cons_succ] at t0 t1 t2 t3 t4 t5
    obtain ⟨x5, f5⟩ := cells_at hI.bx 0
    simp only [List.getElem?_toArray, List.getElem?_cons_zero] at x5
    have htl : ((own c L).take k).length < 1000000 := by simp; omega
    obtain ⟨v', w', hrun, ho, hcg, hl⟩ := run_appO1 W v _ hI.ow (nth (own c L) k) htl 25
    rw [← take_snocO hk] at ho
    have g5 : w'.heap[w.heap.size]? = some (.cells #[v] 25 (0, 0)) := hcg.heap hI.bx (fun e => by have := hI.nw _ e; omega)
    obtain ⟨y5, z5⟩ := cells_at g5 0
    simp only [List.getElem?_toArray, List.getElem?_cons_zero] at y5
    have hnv : ∀ q, v'.ownBlock = some q → w4.heap.size + 2 ≤ q := fun q hq => by
      rcases hl with e | ⟨k', e, h2⟩
      · rw [e] at hq; exact hI.nw q hq
      · rw [e] at hq; cases hq; omega
    obtain ⟨av, cv, hv', hcv, _⟩ := ho.sh
    obtain ⟨nv, hnv2⟩ : ∃ nv, nv = ((own c L).take (k + 1)).length := ⟨_, rfl⟩
    rw [← hnv2] at hv'
    subst hv'
    have HE : Hid ((∀ i, Two w4.heap.size i → (w'.setCell ⟨w.heap.size, 0, none⟩ (.slice av nv cv)).heap[i]? = W.heap[i]?) ∧ (∃ v, GaI w4 (w'.setCell ⟨w.heap.size, 0, none⟩ (.slice av nv cv)) w.heap.size v ((own c L).take (k + 1))) ∧ oBx s0 w.heap.size bA bC c L a cap (w'.setCell ⟨w.heap.size, 0, none⟩ (.slice av nv cv))) := by
      have hW : Chg w4 (w'.setCell ⟨w.heap.size, 0, none⟩ (.slice av nv cv)) (fun i => i = w.heap.size) := Chg.setCell (Chg.trans hI.k4 hcg (fun i hi e => by have := hI.nw i e; omega)) (.inl rfl) _
      refine ⟨fun i hi => ?_, ⟨_, hW, heap_setCell_same w' w.heap.size 0 _ 25 _ g5, ?_, hnv⟩, q4.chg hW (fun j _ hj e => by omega)⟩
      · have n1 : i ≠ w.heap.size := by rcases hi with e | e <;> omega
        rw [heap_setCell_other _ _ i _ n1]
        exact hcg.block i (by rcases hi with e | e <;> omega) (fun e => by have := hI.nw i e; rcases hi with e | e <;> omega)
      · exact (Chg.setCell (Chg.refl w' (fun i => i = w.heap.size)) (.inl rfl) _).owns ho (fun q hq e => by have := hnv q hq; omega)
    clear hI ho hcg hl hnv g5 q1 q2 q3 q4 hbx hs hBx hnv2 htl hcv
    generalize nth (own c L) k = xx at *
    gi_wp2_with (gi_at_builtin; refine wpListIn_append_run _ rfl (.tmp 8) (.tmp 10) 25 25 rfl _ _ _ w' rfl rfl hrun ?_)
    exact ⟨HE.out.1, HE.out.2.1, fun _ => HE.out.2.2⟩
  case done =>
    rintro _ W ⟨v, hI⟩ hD
    obtain ⟨q1, q2, q3, q4⟩ := K0.out
    obtain ⟨x5, f5⟩ := cells_at hI.bx 0
    simp only [List.getElem?_toArray, List.getElem?_cons_zero] at x5
    rw [List.take_length] at hI
    obtain ⟨av, cv, hv, hcv, _⟩ := hI.ow.sh
    obtain ⟨nv, hnv2⟩ : ∃ nv, nv = (own c L).length := ⟨_, rfl⟩
    rw [← hnv2] at hv
    subst hv
    have HI : Hid (GaI w4 W w.heap.size (.slice av nv cv) (own c L)) := hI
    have HW : Hid (Kp w W ∧ w4.heap.size = w.heap.size + 1) := ⟨Chg.trans q1 hI.k4 (fun i hi e => by omega), q2⟩
    clear hI q1 q2 q3 q4 hseq hnv2
    gi_wp2_with fail
    refine ⟨by simp, .inl ⟨_, _, rfl, run_takeDeferred hD, ?_⟩⟩
    refine ⟨_, results_tmp rfl _ _ _, ?_⟩
    have kp : Chg W (W.putObj w4.heap.size (.deferred none)) (fun i => i = w4.heap.size) := Chg.putObj (Chg.refl W (fun i => i = w4.heap.size)) (.inl rfl) _
    refine ⟨_, rfl, kp.owns HI.out.ow (fun k hk e => by have := HI.out.nw k hk; omega), Chg.trans HW.out.1 kp (fun i hi e => by have := HW.out.2; omega), fun k hk => ?_⟩
    have := HI.out.nw k hk
    have := HW.out.2
    omega
/-- slices.Collect of it. -/
theorem collect_any (w : World) (bA bC : Nat) (c : Int) (L : List Ob) (a : Option Addr) (cap : Nat) (s0 : Nat) (x : oBx s0 w.heap.size bA bC c L a cap w) :
    Calls Tryd.prog 15 #[.func (.func 17) #[] #[.pointer (some ⟨bA, 0, none⟩), .pointer (some ⟨bC, 0, none⟩)]] w fun e w' => ∃ v, e = .returned v ∧ OO w' v (own c L) ∧ Kp w w' ∧ Nw w v := by
  have A1 := appSeq_any w bA bC c L a cap s0 x
  go_enter Tryd.func15, Tryd.ntmps15
  go_wp2_with fail
  go_at_call 25
  refine A1.mono ?_
  rintro e w1 ⟨v, rfl, h⟩
  go_wp2
  go_ret
  exact ⟨v, rfl, h⟩
end Go.Proofs.YtfmiicbaooaheaaDoor
