import Derived.Test.YtakddfhcafpceaaDa
namespace Go.Proofs.Ytakddfhcafpceaa
open Go.ChangeShapes Go.WideShapes Go.ChangeAt Go.RowKit Go.Shelf
set_option linter.unusedVariables false
attribute [local go_sem] Oper.semAt_some
theorem wpListIn_append_run {F : Fence} {n : Nat} {P : Program} (w : World) {ops : Array Oper} {rest : List Oper} {o : Oper} {a : Act} {Q : Exit → Act → World → Prop} (hgd : o.guard = none) (s x : Operand) (t u : TypeId)
    (ho : o.op = .call { callee := .builtin .append, args := #[s, x], argTypes := #[t, u] }) (v y v' : Value) (w' : World)
    (hs : a.eval s = v) (hx : a.eval x = y) (hrun : (Builtin.append_ #[t, u] o.type #[v, y]).run P w = .ok v' w')
    (h : wpListIn F n P ops Q rest (a.put o.dst v') w') : wpListIn F n P ops Q (o :: rest) a w := by
  refine wpListIn_plain hgd fun K hK => ?_
  unfold Oper.wpIn
  refine ⟨?_, ?_⟩
  · simp [Oper.about, ho, resolve, Target.leads, Sem.run_pure]
  · rw [Oper.semAt_plain F _ _ (by rw [ho]; intro c hc'; cases hc')]
    simp [execOp, ho, resolve, invoke, builtin, hs, hx, hrun, Result.andThen]
    exact hK _ _ h
/-- Places, in a list of one's own. -/
abbrev OI (w : World) (v : Value) (l : List Nat) : Prop := w.ownsRow 0 3 1 v l.length (l.map fun i => .int .i64 (i : Nat))
theorem OI.at {w : World} {v : Value} {l : List Nat} (h : OI w v l) : (v = .slice none 0 0 ∧ l = []) ∨ ∃ g cap, v = .slice (some ⟨g, 0, none⟩) l.length cap ∧ (∃ cur, w.heap[g]? = some (.cells cur 3 (0, 0))) ∧ ∀ i (hi : i < l.length), w.cell? ⟨g, i, none⟩ = some (.int .i64 (l[i] : Nat)) := by
  rcases h.2 with ⟨h1, h2⟩ | ⟨g, cap, cur, h1, h2, h3, h4, h5, h6, h7⟩
  · left; exact ⟨h1, List.eq_nil_of_length_eq_zero h2⟩
  · right
    refine ⟨g, cap, h1, ⟨_, h3⟩, fun i hi => ?_⟩
    rw [(cells_at h3 i).1, ← Array.getElem?_toList]
    have e := congrArg (fun l => l[i]?) h7
    simp only [Nat.mul_one] at e
    rw [List.getElem?_take, if_pos hi] at e
    rw [e]
    simp [hi]
theorem info3p : ∃ i, Try.prog.info? 3 = some i ∧ i.zero = some (.int .i64 0) ∧ i.size = 1 ∧ i.bytes = 8 := by
  have hz : (Try.prog.info? 3).map (fun i => (i.zero, i.size, i.bytes)) = some (some (.int .i64 0), 1, 8) := by kernel_rfl
  cases hq : Try.prog.info? 3 with
  | none => rw [hq] at hz; cases hz
  | some i =>
    rw [hq] at hz
    have hz2 : i.zero = some (.int .i64 0) ∧ i.size = 1 ∧ i.bytes = 8 := by simpa using hz
    exact ⟨i, rfl, hz2⟩
/-- 'append(v, n)'. -/
theorem app_int (w : World) (v : Value) (l : List Nat) (h : OI w v l) (n : Nat) (hl : l.length < 100) :
    ∃ v' w', (Builtin.append_ #[22, 22] 22 #[v, .slice (some ⟨w.heap.size, 0, none⟩) 1 1]).run Try.prog (w.alloc (.cells #[.int .i64 (n : Nat)] 3)) = .ok v' w' ∧ OI w' v' (l ++ [n]) ∧ Chg w w' (fun i => v.ownBlock = some i) ∧ (v'.ownBlock = v.ownBlock ∨ ∃ k, v'.ownBlock = some k ∧ w.heap.size ≤ k) := by
  obtain ⟨i0, hi, hz, hs, hb⟩ := info3p
  have ha : OI (w.alloc (.cells #[.int .i64 (n : Nat)] 3)) v l := Chg.owns ((Chg.refl w (fun _ => False)).alloc _) h (fun _ _ h => h)
  obtain ⟨v', w', hr, ho, hg, hL⟩ := run_app (P := Try.prog) (w.alloc (.cells #[.int .i64 (n : Nat)] 3)) 22 22 3 i0 (.int .i64 0) 1 8 Try.underlying22 hi hz hs hb rfl (by omega) v l.length _ ha (some ⟨w.heap.size, 0, none⟩) 1 1 [.int .i64 (n : Nat)] rfl (.inr ⟨_, _, rfl, fun j u hu => by
    have : j = 0 := by cases j with
      | zero => rfl
      | succ j => simp at hu
    subst this
    rw [(cells_at (heap_alloc_new w _) _).1]
    simpa using hu⟩) (by simp [Value.oneCell']) (by simp [maxLen]; omega) (by omega)
  refine ⟨v', w', hr, ?_, ?_, ?_⟩
  · have e1 : (l ++ [n]).length = l.length + 1 := by simp
    unfold OI
    rw [e1, List.map_append]
    exact ho
  · exact Chg.grown ((Chg.refl w _).alloc _) hg (fun k hk => .inl hk)
  · rcases hL with e | ⟨k, e, h⟩
    · exact .inl e
    · exact .inr ⟨k, e, by simp at h; omega⟩
/-- A cell's places among the first k. -/
def ofN (h : Hr) (c : Int) (k : Nat) : List Nat := (List.range k).filter (fun i => decide ((h.at i).c = c))
theorem ofN_yes {h : Hr} {c : Int} {k : Nat} (e : (h.at k).c = c) : ofN h c (k + 1) = ofN h c k ++ [k] := by
  unfold ofN; rw [List.range_succ, List.filter_append]; simp [e]
theorem ofN_no {h : Hr} {c : Int} {k : Nat} (e : ¬ (h.at k).c = c) : ofN h c (k + 1) = ofN h c k := by
  unfold ofN; rw [List.range_succ, List.filter_append]; simp [e]
theorem ofN_len {h : Hr} {c : Int} {k : Nat} : (ofN h c k).length ≤ k := by
  have := List.length_filter_le (fun i => decide ((h.at i).c = c)) (List.range k)
  simpa [ofN] using this
theorem ahN_zero (L : List Wn) : ahN L 0 = 0 := by unfold ahN; rw [List.countP_eq_zero]; intro x _; simp
theorem ah_zero (h : Hr) : h.ah 0 = 0 := by unfold Hr.ah; rw [Nat.zero_div, Nat.zero_mod, ahN_zero]; omega
theorem ah_M {h : Hr} (o : h.ok) : h.ah h.M = h.L.length := by unfold Hr.ah; rw [Nat.div_self (by have := o.m1; omega), Nat.mod_self, ahN_zero]; omega
theorem cnt_frame {h : Hr} (o : h.ok) : h.cnt 0 h.M = h.L.length := by
  have := o.m2
  unfold Hr.cnt me
  rw [Nat.min_eq_left (by omega), ah_zero, ah_M o]
  omega
/-- Three boxes: what All makes. -/
def al3 (w : World) (B : Nat) (fr te : Int) : World := ((w.alloc (.cells #[.pointer (some ⟨B, 0, none⟩)] 24)).alloc (.cells #[.int .u64 fr] 23)).alloc (.cells #[.int .u64 te] 23)
theorem al3_kp (w : World) (B : Nat) (fr te : Int) : Kp w (al3 w B fr te) := ((Kp.al w _).trans (Kp.al _ _)).trans (Kp.al _ _)
theorem al3_size (w : World) (B : Nat) (fr te : Int) : (al3 w B fr te).heap.size = w.heap.size + 3 := by unfold al3; simp
theorem al3_at (w : World) (B : Nat) (fr te : Int) : (al3 w B fr te).cell? ⟨w.heap.size, 0, none⟩ = some (.pointer (some ⟨B, 0, none⟩)) ∧ (al3 w B fr te).cell? ⟨w.heap.size + 1, 0, none⟩ = some (.int .u64 fr) ∧ (al3 w B fr te).cell? ⟨w.heap.size + 2, 0, none⟩ = some (.int .u64 te) := by
  unfold al3
  refine ⟨?_, ?_, ?_⟩
  · exact (Kp.al _ _).cell ((Kp.al _ _).cell (cells_at (heap_alloc_new w _) 0).1)
  · have := (cells_at (heap_alloc_new (w.alloc (.cells #[.pointer (some ⟨B, 0, none⟩)] 24)) (.cells #[.int .u64 fr] 23)) 0).1
    have e : (w.alloc (.cells #[.pointer (some ⟨B, 0, none⟩)] 24)).heap.size = w.heap.size + 1 := by simp
    rw [e] at this
    exact (Kp.al _ _).cell this
  · have := (cells_at (heap_alloc_new ((w.alloc (.cells #[.pointer (some ⟨B, 0, none⟩)] 24)).alloc (.cells #[.int .u64 fr] 23)) (.cells #[.int .u64 te] 23)) 0).1
    have e : ((w.alloc (.cells #[.pointer (some ⟨B, 0, none⟩)] 24)).alloc (.cells #[.int .u64 fr] 23)).heap.size = w.heap.size + 2 := by simp
    rw [e] at this
    exact this
/-- A range over All's iterator, just made. -/
theorem al3_seq (w : World) (m B : Nat) (h : Hr) (i : IsH w B h) (fr te : Nat) (hfr : fr < 18446744073709551616) (hte : te < 18446744073709551616) :
    Seq Try.prog (m + 1) 25 #[.pointer (some ⟨w.heap.size, 0, none⟩), .pointer (some ⟨w.heap.size + 2, 0, none⟩), .pointer (some ⟨w.heap.size + 1, 0, none⟩)] (h.cnt fr te) (aArgs h fr) aGood (aKp (al3 w B fr te).heap.size B w.heap.size h) (al3 w B fr te) :=
  all_seq _ _ m B _ _ _ h (aBx.of (i.kp (al3_kp w B fr te)) (al3_at w B fr te).1 (Nat.le_refl _)) fr te hfr hte (al3_at w B fr te).2.2 (al3_at w B fr te).2.1
/-- While a cell's places are gathered. -/
structure OfI (w4 W : World) (b5 : Nat) (v : Value) (l : List Nat) : Prop where
  k4 : Chg w4 W (fun i => i = b5)
  bx : W.heap[b5]? = some (.cells #[v] 22 (0, 0))
  ow : OI W v l
  nw : ∀ k, v.ownBlock = some k → w4.heap.size + 2 ≤ k
theorem OfI.two {w4 W W' : World} {b5 : Nat} {v : Value} {l : List Nat} (h : OfI w4 W b5 v l) (h5 : b5 < w4.heap.size) (hc : Chg W W' (Two w4.heap.size)) : OfI w4 W' b5 v l := by
  refine ⟨Chg.trans h.k4 hc (fun i hi e => by rcases e with e | e <;> omega), hc.heap h.bx (by rintro (e | e) <;> omega), hc.owns h.ow (fun k hk e => by have := h.nw k hk; rcases e with e | e <;> omega), h.nw⟩
end Go.Proofs.Ytakddfhcafpceaa
