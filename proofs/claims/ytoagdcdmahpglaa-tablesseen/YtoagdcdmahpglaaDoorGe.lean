import Derived.Test.YtoagdcdmahpglaaDoorGc
import Derived.Test.YtoagdcdmahpglaaDoorGd
namespace Go.Proofs.YtoagdcdmahpglaaDoor
open Go.ChangeShapes Go.WideShapes Go.ChangeAt Go.RowKit
set_option linter.unusedVariables false

/-- few's ranges stand in order, apart. -/
theorem FR.sorted {R : List Rv} (h : FR R) : R.Pairwise (fun a b => (a.v : Int) + 4096 * a.pg ≤ b.v) := by
  rw [List.pairwise_iff_getElem]
  intro i j hi hj hij
  obtain ⟨_, _, _, _, a5, a6⟩ := h i R[i] (List.getElem?_eq_getElem hi)
  obtain ⟨_, _, _, _, b5, b6⟩ := h j R[j] (List.getElem?_eq_getElem hj)
  rcases b6 with q | ⟨q, r1, q1, q2⟩
  · omega
  · obtain ⟨_, c2, _, _, c5, c6⟩ := h 1 r1 q1
    have c3 := c2.2.2.2.1
    have e : R[1]'(by omega) = r1 := by
      have := List.getElem?_eq_getElem (l := R) (i := 1) (by omega)
      rw [this] at q1; exact Option.some.inj q1
    rcases (by omega : i = 0 ∨ i = 1) with rfl | rfl
    · rcases c6 with z | ⟨z, _⟩
      · omega
      · omega
    · rw [q2, e]; omega
theorem FR.mayok {R : List Rv} (h : FR R) : (∀ r ∈ R, r.may) ∧ (∀ r ∈ R, r.ok) ∧ ∀ r ∈ R, r.pg ≤ 12 ∧ ((r.ph / 4096 : Nat) : Int) + r.pg ≤ 123 := by
  have key : ∀ r ∈ R, r.may ∧ r.ok ∧ r.pg ≤ 12 ∧ ((r.ph / 4096 : Nat) : Int) + r.pg ≤ 123 := by
    intro r hr
    obtain ⟨i, hi, rfl⟩ := List.mem_iff_getElem.1 hr
    obtain ⟨a1, a2, a3, a4, _, _⟩ := h i R[i] (List.getElem?_eq_getElem hi)
    refine ⟨a2, a1, a3, ?_⟩
    split at a4 <;> omega
  exact ⟨fun r hr => (key r hr).1, fun r hr => (key r hr).2.1, fun r hr => (key r hr).2.2⟩
/-- Pages of ranges that stand in order are unlike. -/
theorem pgs_unlike {R : List Rv} (hm : ∀ r ∈ R, r.may) (hs : R.Pairwise (fun a b => (a.v : Int) + 4096 * a.pg ≤ b.v)) : (pgs R).Pairwise (fun x y => (x.a, x.b) ≠ (y.a, y.b)) := by
  unfold pgs
  rw [List.pairwise_flatMap]
  refine ⟨fun r hr => ?_, ?_⟩
  · rw [List.pairwise_map]
    refine List.Pairwise.imp (R := fun a b : Nat => a < b) ?_ List.pairwise_lt_range
    intro a b hab e
    simp only [pgOf, Prod.mk.injEq] at e
    omega
  · refine List.Pairwise.imp_of_mem ?_ hs
    intro r s hr hs' hrs x hx y hy e
    obtain ⟨i, hi, rfl⟩ := List.mem_map.1 hx
    obtain ⟨j, hj, rfl⟩ := List.mem_map.1 hy
    rw [List.mem_range] at hi hj
    obtain ⟨_, m2, _, m4, _, _⟩ := hm r hr
    obtain ⟨_, n2, _, n4, _, _⟩ := hm s hs'
    simp only [pgOf, Prod.mk.injEq] at e
    omega
/-- A page of ranges that may be. -/
theorem pgs_good {R : List Rv} (hm : ∀ r ∈ R, r.may) (ho : ∀ r ∈ R, r.ok) : ∀ x ∈ pgs R, x.a < 1024 ∧ x.b < 1024 ∧ Ent.ck 1 x.p x.f = 0 := by
  intro x hx
  unfold pgs at hx
  rw [List.mem_flatMap] at hx
  obtain ⟨r, hr, hx⟩ := hx
  obtain ⟨i, hi, rfl⟩ := List.mem_map.1 hx
  rw [List.mem_range] at hi
  obtain ⟨m1, m2, m3, m4, m5, m6⟩ := hm r hr
  obtain ⟨o1, o2, o3, o4⟩ := ho r hr
  simp only [pgOf]
  refine ⟨by omega, by omega, ?_⟩
  exact Ent.ck_of (by decide) (by decide) (Ent.ck_zero m1).2.2.1 (by unfold Ent.fm; rw [if_neg (by decide)]; exact decide_eq_true (by omega))
theorem need_few {R : List Rv} (h : FR R) (hl : R.length ≤ 4) : needM R ≤ 9 := by
  obtain ⟨hm, ho, hb⟩ := h.mayok
  have key : ∀ j, j ≤ R.length → (ndL (R.take j)).2 ≤ 1 + 2 * j := by
    intro j
    induction j with
    | zero => intro _; simp [ndL]
    | succ j ih =>
      intro hj
      rw [ndL_snoc R j (by omega)]
      have h1 := ih (by omega)
      have h2 := ndI_le (ndL (R.take j)).1 (ndL (R.take j)).2 (rFst R[j]) (rLst R[j] + 1 - rFst R[j])
      have h3 : rLst R[j] + 1 - rFst R[j] ≤ 2 := by
        have := hb R[j] (List.getElem_mem _)
        have := (hm R[j] (List.getElem_mem _)).2.2.2.1
        unfold rFst rLst
        omega
      unfold ndR
      omega
  have := key R.length (Nat.le_refl _)
  rw [List.take_length] at this
  unfold needM
  split
  · omega
  · omega
/-- What Map of such ranges leaves, in a space that has nothing. -/
theorem mapped_fresh {n : Nat} {m : Nat → Nat} {root p0 pages taken : Nat} {R : List Rv} {r : Int} {X : Option TS} (hz : Sg n m root (fun _ => none) (fun _ _ => none)) (hm : ∀ x ∈ R, x.may) (ho : ∀ x ∈ R, x.ok) (hs : R.Pairwise (fun a b => (a.v : Int) + 4096 * a.pg ≤ b.v)) (hn : p0 + pages ≤ n) (ht : taken + needM R ≤ pages + 1) (hr : root < 4096 * (p0 + taken)) (hp1 : 1 ≤ needM R) (h : MapR n m root p0 pages taken false R r X) :
    r = 0 ∧ ∃ Y, X = some Y ∧ Y.t + 1 = taken + needM R ∧ ∃ tb, Sg n (stPs Y.T (pgs R) Y.m) root tb (pgL (pgs R) (fun _ _ => none)) := by
  obtain ⟨st, e1, v1, i1⟩ := hz.plan (pgs R) ⟨fun _ => none, []⟩ (fun _ => false) (PV.nil _) (fun x hx => ⟨(pgs_good hm ho x hx).1, (pgs_good hm ho x hx).2.1, rfl, rfl⟩) (pgs_unlike hm hs)
  have hw : ∀ k, k ∈ st.wl ↔ ∃ x ∈ pgs R, x.a = k := fun k => by
    rw [v1.mem k, i1 k]
    simp
  have hN := needM_eq R hm ho st.wl v1.nd hw
  have hroom : roomE st.wl.length (pages - taken) false = 0 := by
    unfold roomE
    split
    · rfl
    · rw [if_neg (by decide), if_neg (by omega)]
  obtain ⟨rfl, rfl⟩ := map_ok hm e1 hroom h
  refine ⟨rfl, _, rfl, by rw [tkAll_t, hN]; simp only; omega, ?_⟩
  obtain ⟨tb, g1, g2, g3, g4, g5⟩ := Sg.taken (n := n) (root := root) (p0 := p0) (pg := fun _ _ => none) st.wl ⟨m, taken, st.T⟩ (fun _ => none) hz v1.nd (fun k hk => by
    obtain ⟨x, hx, e⟩ := (hw k).1 hk
    exact ⟨by rw [← e]; exact (pgs_good hm ho x hx).1, rfl⟩) (by simp only; omega) (fun k f e => by cases e) hr
  refine ⟨tb, (Sg.laid (pgs R) _ _ g1 (fun x hx => ?_)).1⟩
  obtain ⟨q1, q2, q3⟩ := pgs_good hm ho x hx
  obtain ⟨f, e, _, eT⟩ := g4 x.a ((hw _).2 ⟨x, hx, rfl⟩)
  exact ⟨q2, q3, f, e, by rw [eT]; rfl⟩
end Go.Proofs.YtoagdcdmahpglaaDoor
