import Derived.Test.YtakddfhcafpceaaEm
namespace Go.Proofs.Ytakddfhcafpceaa
open Go.ChangeShapes Go.WideShapes Go.ChangeAt Go.RowKit Go.Shelf
set_option linter.unusedVariables false
/-- The cell that is asked in the k-th place. -/
def cc (k : Nat) : Int := ((k % 11 : Nat) : Int) - 1
/-- What Of tells then. -/
def lz (h : Hr) (k : Nat) : List Int := (ofN h (cc k) h.L.length).map (fun (i : Nat) => (i : Int))
theorem lz_len {h : Hr} (o : h.ok) (k : Nat) : (lz h k).length ≤ 32 := by
  unfold lz; rw [List.length_map]; have := ofN_len (h := h) (c := cc k) (k := h.L.length); have := o.n2; omega
structure P2 (h : Hr) (es : List En) (k : Nat) : Prop where
  n : es.length = k
  e : ∀ i (hi : i < es.length), es[i].m = i ∧ es[i].l = lz h i
theorem P2.nil (h : Hr) : P2 h [] 0 := ⟨rfl, fun i hi => by simp at hi⟩
theorem P2.next {h : Hr} {es : List En} {k : Nat} (p : P2 h es k) (v : Value) : P2 h (es ++ [⟨v, k, lz h k⟩]) (k + 1) := by
  refine ⟨by simp [p.n], fun i hi => ?_⟩
  by_cases e : i < es.length
  · rw [List.getElem_append_left e]; exact p.e i e
  · have e2 : i = es.length := by simp at hi; omega
    subst e2
    rw [List.getElem_append_right (Nat.le_refl _)]
    simp [p.n]
/-- While they are written full. -/
structure P5 (es : List En) (k j : Nat) : Prop where
  n : es.length = 22
  m : ∀ i (hi : i < es.length), es[i].m = i ∧ es[i].l.length ≤ 32
  d : ∀ i (hi : i < es.length), i < k → ∀ x ∈ es[i].l, x = -7 - (i : Int)
  c : ∀ (hk : k < es.length) q (hq : q < es[k].l.length), q < j → es[k].l[q] = -7 - (k : Int)
theorem P2.p5 {h : Hr} (o : h.ok) {es : List En} (p : P2 h es 22) : P5 es 0 0 := ⟨p.n, fun i hi => ⟨(p.e i hi).1, by rw [(p.e i hi).2]; exact lz_len o i⟩, fun i _ h => by omega, fun _ q _ h => by omega⟩
theorem P5.uniq {es : List En} {k j : Nat} (p : P5 es k j) {a : Nat} (ha : a < es.length) : ∀ i (hi : i < es.length), i ≠ a → es[i].m ≠ es[a].m := fun i hi hne e => by
  rw [(p.m i hi).1, (p.m a ha).1] at e; exact hne e
theorem P5.step {es : List En} {k j : Nat} (p : P5 es k j) (hk : k < es.length) (hj : j < es[k].l.length) : P5 (es.set k ⟨es[k].v, es[k].m, es[k].l.set j (-7 - (k : Int))⟩) k (j + 1) := by
  refine ⟨by rw [List.length_set, p.n], fun i hi => ?_, fun i hi hik => ?_, fun hk' q hq hqj => ?_⟩
  · have hi' : i < es.length := by simpa using hi
    by_cases e : i = k
    · subst e; rw [List.getElem_set_self]; have := p.m i hk; exact ⟨this.1, by simpa using this.2⟩
    · rw [List.getElem_set_ne (fun e' => e e'.symm)]; exact p.m i hi'
  · have hi' : i < es.length := by simpa using hi
    rw [List.getElem_set_ne (by omega)]; exact p.d i hi' hik
  · have e : (es.set k ⟨es[k].v, es[k].m, es[k].l.set j (-7 - (k : Int))⟩)[k] = ⟨es[k].v, es[k].m, es[k].l.set j (-7 - (k : Int))⟩ := List.getElem_set_self _
    simp only [e] at hq ⊢
    simp only [List.length_set] at hq
    by_cases e2 : q = j
    · subst e2; rw [List.getElem_set_self]
    · rw [List.getElem_set_ne (fun e' => e2 e'.symm)]; exact p.c hk q hq (by omega)
theorem P5.done {es : List En} {k : Nat} (hk : k < es.length) (p : P5 es k (es[k].l.length)) : P5 es (k + 1) 0 := by
  refine ⟨p.n, p.m, fun i hi hik => ?_, fun _ q _ h => by omega⟩
  by_cases e : i = k
  · subst e
    intro x hx
    obtain ⟨q, hq, rfl⟩ := List.getElem_of_mem hx
    exact p.c hk q hq hq
  · exact p.d i hi (by omega)
/-- Whose mark the i-th one bears. -/
def mrk (i : Nat) : Nat := if i < 22 then i else (i - 22) / 2
structure P7 (es : List En) (k : Nat) : Prop where
  n : es.length = 22 + 2 * k
  m : ∀ i (hi : i < es.length), es[i].m = mrk i ∧ es[i].l.length ≤ 40 ∧ ∀ x ∈ es[i].l, x = -7 - (mrk i : Int)
  o : ∀ i (hi : i < es.length), i < 22 → es[i].l.length ≤ 32
theorem P5.p7 {es : List En} (p : P5 es 22 0) : P7 es 0 := by
  refine ⟨by rw [p.n], fun i hi => ?_, fun i hi _ => (p.m i hi).2⟩
  have h22 : i < 22 := by rw [← p.n]; exact hi
  have e : mrk i = i := by unfold mrk; rw [if_pos h22]
  rw [e]
  exact ⟨(p.m i hi).1, by have := (p.m i hi).2; omega, p.d i hi h22⟩
theorem P7.uniq {es : List En} {k : Nat} (p : P7 es k) (hk : k < 22) (hk2 : k < es.length) : ∀ y ∈ es, y.m = es[k].m → y = es[k] := by
  intro y hy e
  obtain ⟨i, hi, rfl⟩ := List.getElem_of_mem hy
  rw [(p.m i hi).1, (p.m k hk2).1] at e
  have e2 : mrk k = k := by unfold mrk; rw [if_pos hk]
  rw [e2] at e
  have : i = k := by
    unfold mrk at e
    have hn := p.n
    split at e
    · exact e
    · omega
  subst this
  rfl
theorem P7.next {es : List En} {k : Nat} (p : P7 es k) (hk : k < 22) (hk2 : k < es.length) (v1 v2 : Value) : P7 (es ++ [⟨v1, es[k].m, es[k].l ++ [-7 - (k : Int)]⟩, ⟨v2, es[k].m, es[k].l ++ [-7 - (k : Int), -7 - (k : Int), -7 - (k : Int)]⟩]) (k + 1) := by
  have hn := p.n
  have ek : mrk k = k := by unfold mrk; rw [if_pos hk]
  have hl := p.o k hk2 hk
  have hmk := p.m k hk2
  rw [ek] at hmk
  refine ⟨by simp [hn]; omega, fun i hi => ?_, fun i hi h22 => ?_⟩
  · by_cases e : i < es.length
    · rw [List.getElem_append_left e]; exact p.m i e
    · have hi2 : i < es.length + 2 := by simpa using hi
      have em : mrk i = k := by unfold mrk; rw [if_neg (by omega)]; omega
      rw [em]
      have : i = es.length ∨ i = es.length + 1 := by omega
      rcases this with rfl | rfl
      · rw [List.getElem_append_right (Nat.le_refl _)]
        simp only [Nat.sub_self, List.getElem_cons_zero]
        refine ⟨hmk.1, by simp; omega, fun x hx => ?_⟩
        rcases List.mem_append.1 hx with e1 | e1
        · exact hmk.2.2 x e1
        · simpa using e1
      · rw [List.getElem_append_right (by omega)]
        simp only [Nat.add_sub_cancel_left, List.getElem_cons_succ, List.getElem_cons_zero]
        refine ⟨hmk.1, by simp; omega, fun x hx => ?_⟩
        rcases List.mem_append.1 hx with e1 | e1
        · exact hmk.2.2 x e1
        · simpa using e1
  · have e : i < es.length := by omega
    rw [List.getElem_append_left e]; exact p.o i e h22
end Go.Proofs.Ytakddfhcafpceaa
