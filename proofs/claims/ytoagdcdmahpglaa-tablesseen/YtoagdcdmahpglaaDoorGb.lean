import Derived.Test.YtoagdcdmahpglaaDoorGa
namespace Go.Proofs.YtoagdcdmahpglaaDoor
open Go.ChangeShapes Go.WideShapes Go.ChangeAt Go.RowKit
set_option linter.unusedVariables false

/-- What a plan knows of a space's tables. -/
structure PV (tb : Nat → Option Nat) (st : PS) : Prop where
  val : ∀ k, st.T k = none ∨ st.T k = some (enW (w1 (tb k)))
  nd : st.wl.Nodup
  mem : ∀ k, k ∈ st.wl ↔ ((st.T k).isSome = true ∧ tb k = none)
theorem PV.nil (tb : Nat → Option Nat) : PV tb ⟨fun _ => none, []⟩ := ⟨fun _ => .inl rfl, List.nodup_nil, fun k => by simp⟩
theorem enW2 {f : Nat} (h : f < 4096) : enW (Ent.wd 2 0 f) = ⟨2, 0, f⟩ := by
  obtain ⟨_, b, c, d⟩ := Ent.dec_enc (ck2 h)
  unfold enW
  rw [b, c, d]
theorem Sg.ask {n : Nat} {m : Nat → Nat} {root : Nat} {tb : Nat → Option Nat} {pg : Nat → Nat → Option (Nat × Nat)} (h : Sg n m root tb pg) {st : PS} (hv : PV tb st) {k : Nat} (hk : k < 1024) :
    ∃ st', askM n m root st k = (true, st') ∧ PV tb st' ∧ st'.T k = some (enW (w1 (tb k))) ∧ ∀ j, (st'.T j).isSome = true ↔ ((st.T j).isSome = true ∨ j = k) := by
  unfold askM
  by_cases ht : (st.T k).isSome = true
  · rw [if_pos ht]
    refine ⟨st, rfl, hv, ?_, fun j => ⟨.inl, fun e => ?_⟩⟩
    · rcases hv.val k with e | e
      · rw [e] at ht; cases ht
      · exact e
    · rcases e with e | e
      · exact e
      · rw [e]; exact ht
  · rw [if_neg ht, h.r1 hk]
    have hT : ∀ j, ((setT st.T k (enW (w1 (tb k))) j).isSome = true ↔ ((st.T j).isSome = true ∨ j = k)) := by
      intro j
      unfold setT
      split
      · rename_i e; simp [e]
      · rename_i e; simp [e]
    have hS : setT st.T k (enW (w1 (tb k))) k = some (enW (w1 (tb k))) := by simp [setT]
    have hV : ∀ j, setT st.T k (enW (w1 (tb k))) j = none ∨ setT st.T k (enW (w1 (tb k))) j = some (enW (w1 (tb j))) := by
      intro j
      unfold setT
      split
      · rename_i e; rw [e]; exact .inr rfl
      · exact hv.val j
    cases e : tb k with
    | none =>
      have e' : askW n (w1 none) st k = (true, ⟨setT st.T k (enW (w1 none)), st.wl ++ [k]⟩) := rfl
      rw [e] at hT hS hV
      refine ⟨_, e', ⟨?_, ?_, ?_⟩, hS, hT⟩
      · exact hV
      · rw [List.nodup_append]
        refine ⟨hv.nd, by simp, fun a ha b hb q => ?_⟩
        simp at hb
        subst hb q
        exact ht ((hv.mem a).1 ha).1
      · intro j
        rw [List.mem_append, hv.mem j, hT j]
        simp only [List.mem_singleton]
        constructor
        · rintro (⟨a, b⟩ | a)
          · exact ⟨.inl a, b⟩
          · exact ⟨.inr a, by rw [a]; exact e⟩
        · rintro ⟨a | a, b⟩
          · exact .inl ⟨a, b⟩
          · exact .inr a
    | some f =>
      obtain ⟨_, hf, _⟩ := h.fr k f e
      have hn := h.nn
      have hf' : f < 4096 := by omega
      obtain ⟨d1, d2, d3, d4⟩ := Ent.dec_enc (ck2 hf')
      have hde : Ent.de (Ent.wd 2 0 f) = 0 := Ent.de_of d1 (by rw [d2, d3, d4]; exact ck2 hf')
      have e' : askW n (w1 (some f)) st k = (true, ⟨setT st.T k (enW (w1 (some f))), st.wl⟩) := by
        show askW n (Ent.wd 2 0 f) st k = _
        unfold askW
        rw [hde, d2, d4, if_neg (by omega), if_neg (by omega), if_neg (by omega)]
        rfl
      rw [e] at hT hS hV
      refine ⟨_, e', ⟨hV, hv.nd, fun j => ?_⟩, hS, hT⟩
      rw [hv.mem j, hT j]
      constructor
      · rintro ⟨a, b⟩; exact ⟨.inl a, b⟩
      · rintro ⟨a | a, b⟩
        · exact ⟨a, b⟩
        · rw [a, e] at b; cases b
theorem Sg.free {n : Nat} {m : Nat → Nat} {root : Nat} {tb : Nat → Option Nat} {pg : Nat → Nat → Option (Nat × Nat)} (h : Sg n m root tb pg) {k j : Nat} (hj : j < 1024) (hp : pg k j = none) : freeM n m (enW (w1 (tb k))) j = true := by
  unfold freeM
  cases e : tb k with
  | none => rfl
  | some f =>
    obtain ⟨_, hf, _⟩ := h.fr k f e
    have hn := h.nn
    have eE : enW (w1 (some f)) = ⟨2, 0, f⟩ := enW2 (by omega)
    rw [eE, if_neg (by simp)]
    show decide (Ent.de (wdW n m (4096 * f) j) = 0 ∧ Ent.dk (wdW n m (4096 * f) j) = 0) = true
    rw [h.r2 e hj, hp]
    rfl
/-- A plan of places that are free. -/
theorem Sg.plan {n : Nat} {m : Nat → Nat} {root : Nat} {tb : Nat → Option Nat} {pg : Nat → Nat → Option (Nat × Nat)} (h : Sg n m root tb pg) (xs : List Pgv) : ∀ (st : PS) (g : Nat × Nat → Bool), PV tb st → (∀ x ∈ xs, x.a < 1024 ∧ x.b < 1024 ∧ pg x.a x.b = none ∧ g (x.a, x.b) = false) → xs.Pairwise (fun x y => (x.a, x.b) ≠ (y.a, y.b)) →
    ∃ st', plS n m root xs st g = some st' ∧ PV tb st' ∧ ∀ k, (st'.T k).isSome = true ↔ ((st.T k).isSome = true ∨ ∃ x ∈ xs, x.a = k) := by
  induction xs with
  | nil => intro st g hv _ _; exact ⟨st, rfl, hv, fun k => by simp⟩
  | cons x r ih =>
    intro st g hv hx hp
    obtain ⟨x1, x2, x3, x4⟩ := hx x (by simp)
    obtain ⟨st1, e1, v1, t1, i1⟩ := h.ask hv x1
    rw [List.pairwise_cons] at hp
    obtain ⟨st2, e2, v2, i2⟩ := ih st1 (addP g (x.a, x.b)) v1 (fun y hy => by
      obtain ⟨y1, y2, y3, y4⟩ := hx y (by simp [hy])
      refine ⟨y1, y2, y3, ?_⟩
      have hne := hp.1 y hy
      unfold addP
      rw [if_neg (fun e => hne e.symm)]
      exact y4) hp.2
    refine ⟨st2, ?_, v2, fun k => ?_⟩
    · rw [plS_cons, e1, x4, t1]
      rw [if_neg (by decide), if_neg (by simp)]
      show (if freeM n m (enW (w1 (tb x.a))) x.b = false then none else _) = _
      rw [h.free x2 x3, if_neg (by decide)]
      exact e2
    · rw [i2 k, i1 k]
      constructor
      · rintro ((a | a) | ⟨y, hy, e⟩)
        · exact .inl a
        · exact .inr ⟨x, by simp, a.symm⟩
        · exact .inr ⟨y, by simp [hy], e⟩
      · rintro (a | ⟨y, hy, e⟩)
        · exact .inl (.inl a)
        · rcases List.mem_cons.1 hy with q | q
          · exact .inl (.inr (by rw [← e, q]))
          · exact .inr ⟨y, q, e⟩
/-- Tables are taken. -/
theorem Sg.taken {n root p0 : Nat} {pg : Nat → Nat → Option (Nat × Nat)} (wl : List Nat) : ∀ (x : TS) (tb : Nat → Option Nat), Sg n x.m root tb pg → wl.Nodup → (∀ k ∈ wl, k < 1024 ∧ tb k = none) → p0 + x.t + wl.length ≤ n → (∀ k f, tb k = some f → f < p0 + x.t) → root < 4096 * (p0 + x.t) →
    ∃ tb', Sg n (tkAll p0 root wl x).m root tb' pg ∧ (∀ k, k ∉ wl → tb' k = tb k ∧ (tkAll p0 root wl x).T k = x.T k) ∧ (∀ k f, tb' k = some f → f < p0 + x.t + wl.length) ∧ (∀ k, k ∈ wl → ∃ f, tb' k = some f ∧ p0 + x.t ≤ f ∧ (tkAll p0 root wl x).T k = some ⟨2, 0, f⟩) ∧
      (∀ i, (i < root ∨ root + 4096 ≤ i) → (i < 4096 * (p0 + x.t) ∨ 4096 * (p0 + x.t + wl.length) ≤ i) → (tkAll p0 root wl x).m i = x.m i) := by
  induction wl with
  | nil =>
    intro x tb h _ _ _ hf _
    exact ⟨tb, h, fun _ _ => ⟨rfl, rfl⟩, fun k f e => by have := hf k f e; simpa using this, fun k hk => by simp at hk, fun _ _ _ => rfl⟩
  | cons k r ih =>
    intro x tb h hnd hw hn hf hr
    rw [List.nodup_cons] at hnd
    simp only [List.length_cons] at hn
    obtain ⟨k1, k2⟩ := hw k (by simp)
    have hrt := h.rt
    have h1 := h.table (k := k) (f := p0 + x.t) k1 k2 (by omega) (by omega) (fun k' e => by have := hf k' _ e; omega)
    obtain ⟨tb', g1, g2, g3, g4, g5⟩ := ih (tkStep p0 root x k) (setB tb k (p0 + x.t)) h1 hnd.2 (fun k' hk' => by
      obtain ⟨a, b⟩ := hw k' (by simp [hk'])
      refine ⟨a, ?_⟩
      unfold setB
      rw [if_neg (fun e => hnd.1 (by rw [← e]; exact hk'))]
      exact b) (by simp only [tkStep]; omega) (fun k' f e => by
      simp only [tkStep]
      unfold setB at e
      split at e
      · cases e; omega
      · have := hf k' f e; omega) (by simp only [tkStep]; omega)
    have et : (tkStep p0 root x k).t = x.t + 1 := rfl
    have eA : tkAll p0 root (k :: r) x = tkAll p0 root r (tkStep p0 root x k) := rfl
    rw [et] at g3 g4 g5
    rw [eA]
    refine ⟨tb', g1, fun k' hk' => ?_, fun k' f e => ?_, fun k' hk' => ?_, fun i hi1 hi2 => ?_⟩
    · rw [List.mem_cons, not_or] at hk'
      obtain ⟨a, b⟩ := g2 k' hk'.2
      refine ⟨?_, ?_⟩
      · rw [a]; simp [setB, hk'.1]
      · rw [b]; simp [tkStep, setT, hk'.1]
    · have := g3 k' f e; simp only [List.length_cons]; omega
    · rcases List.mem_cons.1 hk' with e | e
      · subst e
        obtain ⟨a, b⟩ := g2 k' hnd.1
        refine ⟨p0 + x.t, ?_, by omega, ?_⟩
        · rw [a]; simp [setB]
        · rw [b]; simp [tkStep, setT]
      · obtain ⟨f, a, b, c⟩ := g4 k' e
        exact ⟨f, a, by omega, c⟩
    · simp only [List.length_cons] at hi2
      rw [g5 i hi1 (by omega)]
      simp only [tkStep, stN_at, fillN]
      rw [if_neg (by omega), if_neg (by omega)]
def pgL (xs : List Pgv) (pg : Nat → Nat → Option (Nat × Nat)) : Nat → Nat → Option (Nat × Nat) := xs.foldl (fun g x => setG g x.a x.b (x.p, x.f)) pg
theorem pgL_no (xs : List Pgv) : ∀ (pg : Nat → Nat → Option (Nat × Nat)) (k j : Nat), (∀ x ∈ xs, ¬ (x.a = k ∧ x.b = j)) → pgL xs pg k j = pg k j := by
  induction xs with
  | nil => intro pg k j _; rfl
  | cons x r ih =>
    intro pg k j h
    show pgL r (setG pg x.a x.b (x.p, x.f)) k j = _
    rw [ih _ k j (fun y hy => h y (by simp [hy]))]
    have := h x (by simp)
    unfold setG
    rw [if_neg (fun e => this ⟨e.1.symm, e.2.symm⟩)]
theorem pgL_at (xs : List Pgv) : ∀ (pg : Nat → Nat → Option (Nat × Nat)), xs.Pairwise (fun x y => (x.a, x.b) ≠ (y.a, y.b)) → ∀ x ∈ xs, pgL xs pg x.a x.b = some (x.p, x.f) := by
  induction xs with
  | nil => intro pg _ x hx; simp at hx
  | cons y r ih =>
    intro pg hp x hx
    rw [List.pairwise_cons] at hp
    show pgL r (setG pg y.a y.b (y.p, y.f)) x.a x.b = _
    rcases List.mem_cons.1 hx with e | e
    · subst e
      rw [pgL_no r _ _ _ (fun z hz q => hp.1 z hz (by rw [q.1, q.2]))]
      simp [setG]
    · exact ih _ hp.2 x e
/-- Pages are laid. -/
theorem Sg.laid {n root : Nat} {tb : Nat → Option Nat} {T : Nat → Option En} (xs : List Pgv) : ∀ (m : Nat → Nat) (pg : Nat → Nat → Option (Nat × Nat)), Sg n m root tb pg → (∀ x ∈ xs, x.b < 1024 ∧ Ent.ck 1 x.p x.f = 0 ∧ ∃ f, tb x.a = some f ∧ ((T x.a).getD e0).f = f) →
    Sg n (stPs T xs m) root tb (pgL xs pg) ∧ ∀ i, (∀ k f, tb k = some f → i < 4096 * f ∨ 4096 * f + 4096 ≤ i) → stPs T xs m i = m i := by
  induction xs with
  | nil => intro m pg h _; exact ⟨h, fun _ _ => rfl⟩
  | cons x r ih =>
    intro m pg h hx
    obtain ⟨x1, x2, f, x3, x4⟩ := hx x (by simp)
    have h1 := h.page (k := x.a) (f := f) (j := x.b) (p := x.p) (fr := x.f) x3 x1 x2
    have es : stP T m x = stN m (4096 * f + 4 * x.b) (Ent.wd 1 x.p x.f) 4 := by unfold stP; rw [x4]
    obtain ⟨g1, g2⟩ := ih (stP T m x) (setG pg x.a x.b (x.p, x.f)) (by rw [es]; exact h1) (fun y hy => hx y (by simp [hy]))
    refine ⟨g1, fun i hi => ?_⟩
    show stPs T r (stP T m x) i = _
    rw [g2 i hi, es, stN_at]
    have := hi x.a f x3
    rw [if_neg (by omega)]
end Go.Proofs.YtoagdcdmahpglaaDoor
