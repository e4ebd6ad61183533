import Derived.Test.YtoagdcdmahpglaaDoorGb
namespace Go.Proofs.YtoagdcdmahpglaaDoor
open Go.ChangeShapes Go.WideShapes Go.ChangeAt Go.RowKit
set_option linter.unusedVariables false

theorem nodup_le : ∀ (a b : List Nat), a.Nodup → (∀ x ∈ a, x ∈ b) → a.length ≤ b.length := by
  intro a
  induction a with
  | nil => intro b _ _; simp
  | cons x r ih =>
    intro b hn hm
    rw [List.nodup_cons] at hn
    have hx := hm x (by simp)
    have := ih (b.erase x) hn.2 (fun y hy => (List.mem_erase_of_ne (fun e => hn.1 (by rw [← e]; exact hy))).2 (hm y (by simp [hy])))
    rw [List.length_erase_of_mem hx] at this
    have : 0 < b.length := List.length_pos_of_mem hx
    simp only [List.length_cons]
    omega
theorem nodup_eq {a b : List Nat} (ha : a.Nodup) (hb : b.Nodup) (h : ∀ x, x ∈ a ↔ x ∈ b) : a.length = b.length :=
  Nat.le_antisymm (nodup_le a b ha (fun x hx => (h x).1 hx)) (nodup_le b a hb (fun x hx => (h x).2 hx))
/-- The tables that were counted. -/
def NI (x : (Nat → Bool) × Nat) (L : List Nat) : Prop := L.Nodup ∧ (∀ k, k ∈ L ↔ x.1 k = true) ∧ x.2 = 1 + L.length
theorem ndI_ni (k m : Nat) : ∀ (u : Nat → Bool) (c : Nat) (L : List Nat), NI (u, c) L → ∃ L', NI (ndI u c k m) L' ∧ ∀ q, (ndI u c k m).1 q = true ↔ (u q = true ∨ (k ≤ q ∧ q < k + m)) := by
  induction m generalizing k with
  | zero => intro u c L h; exact ⟨L, h, fun q => ⟨.inl, fun e => by
      rcases e with e | e
      · exact e
      · omega⟩⟩
  | succ m ih =>
    intro u c L h
    rw [ndI_succ]
    by_cases e : u k = true
    · rw [if_pos e]
      obtain ⟨L', h1, h2⟩ := ih (k + 1) u c L h
      refine ⟨L', h1, fun q => ?_⟩
      rw [h2 q]
      constructor
      · rintro (a | a)
        · exact .inl a
        · exact .inr (by omega)
      · rintro (a | a)
        · exact .inl a
        · by_cases hq : q = k
          · rw [hq]; exact .inl e
          · exact .inr (by omega)
    · rw [if_neg e]
      obtain ⟨n1, n2, n3⟩ := h
      simp only at n2 n3
      obtain ⟨L', h1, h2⟩ := ih (k + 1) (fun i => if i = k then true else u i) (c + 1) (L ++ [k]) ⟨by
        rw [List.nodup_append]
        refine ⟨n1, by simp, fun a ha b hb q => ?_⟩
        simp at hb
        subst hb q
        exact e ((n2 _).1 ha), fun q => by
        rw [List.mem_append, n2 q]
        simp only [List.mem_singleton]
        by_cases hq : q = k
        · simp [hq]
        · simp [hq], by simp; omega⟩
      refine ⟨L', h1, fun q => ?_⟩
      rw [h2 q]
      by_cases hq : q = k
      · simp [hq]
      · simp only [if_neg hq]
        constructor
        · rintro (a | a)
          · exact .inl a
          · exact .inr (by omega)
        · rintro (a | a)
          · exact .inl a
          · exact .inr (by omega)
theorem rg_tables (r : Rv) (hm : r.may) (ho : r.ok) (q : Nat) : (∃ i, i < r.pg.toNat ∧ (pgOf r i).a = q) ↔ (rFst r ≤ q ∧ q < rFst r + (rLst r + 1 - rFst r)) := by
  obtain ⟨m1, m2, m3, m4, m5, m6⟩ := hm
  unfold rFst rLst pgOf
  simp only
  constructor
  · rintro ⟨i, hi, e⟩
    omega
  · rintro ⟨a, b⟩
    by_cases h : q ≤ r.v / 4096 / 1024
    · exact ⟨0, by omega, by omega⟩
    · exact ⟨1024 * q - r.v / 4096, by omega, by omega⟩
theorem ndL_ni (l : List Rv) (hm : ∀ r ∈ l, r.may) (ho : ∀ r ∈ l, r.ok) (j : Nat) (hj : j ≤ l.length) : ∃ L, NI (ndL (l.take j)) L ∧ ∀ q, (ndL (l.take j)).1 q = true ↔ ∃ x ∈ pgs (l.take j), x.a = q := by
  induction j with
  | zero => exact ⟨[], ⟨List.nodup_nil, fun k => by simp [ndL], by simp [ndL]⟩, fun q => by simp [ndL, pgs]⟩
  | succ j ih =>
    obtain ⟨L, h1, h2⟩ := ih (by omega)
    rw [ndL_snoc l j (by omega)]
    obtain ⟨L', h3, h4⟩ := ndI_ni (rFst l[j]) (rLst l[j] + 1 - rFst l[j]) (ndL (l.take j)).1 (ndL (l.take j)).2 L h1
    refine ⟨L', h3, fun q => ?_⟩
    show (ndI _ _ _ _).1 q = true ↔ _
    rw [h4 q, h2 q, ← rg_tables l[j] (hm _ (List.getElem_mem _)) (ho _ (List.getElem_mem _)) q, ← List.take_append_getElem (by omega : j < l.length), pgs_app, pgs_one]
    simp only [List.mem_append, List.mem_map, List.mem_range]
    constructor
    · rintro (⟨x, hx, e⟩ | ⟨i, hi, e⟩)
      · exact ⟨x, .inl hx, e⟩
      · exact ⟨_, .inr ⟨i, hi, rfl⟩, e⟩
    · rintro ⟨x, hx | ⟨i, hi, rfl⟩, e⟩
      · exact .inl ⟨x, hx, e⟩
      · exact .inr ⟨i, hi, e⟩
/-- Need tells one more than the tables that its pages want. -/
theorem needM_eq (l : List Rv) (hm : ∀ r ∈ l, r.may) (ho : ∀ r ∈ l, r.ok) (wl : List Nat) (hn : wl.Nodup) (hw : ∀ k, k ∈ wl ↔ ∃ x ∈ pgs l, x.a = k) : needM l = 1 + wl.length := by
  obtain ⟨L, ⟨n1, n2, n3⟩, h2⟩ := ndL_ni l hm ho l.length (Nat.le_refl _)
  rw [List.take_length] at n2 n3 h2
  unfold needM
  have hall : l.all Rv.mb = true := List.all_eq_true.2 (fun r hr => decide_eq_true (hm r hr))
  rw [if_pos hall, n3, nodup_eq n1 hn (fun x => by rw [n2 x, h2 x, hw x])]
end Go.Proofs.YtoagdcdmahpglaaDoor
