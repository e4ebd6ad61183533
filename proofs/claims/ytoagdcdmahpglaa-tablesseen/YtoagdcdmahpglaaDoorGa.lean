import Derived.Test.YtoagdcdmahpglaaDoorTk
import Derived.Test.YtoagdcdmahpglaaDoorNa
namespace Go.Proofs.YtoagdcdmahpglaaDoor
open Go.ChangeShapes Go.WideShapes Go.ChangeAt Go.RowKit
set_option linter.unusedVariables false

/-! What a space's tables say: tb, the frame of each table; pg, the page behind a place. -/
def w1 : Option Nat → Nat
  | none => 0
  | some f => Ent.wd 2 0 f
def w2 : Option (Nat × Nat) → Nat
  | none => 0
  | some x => Ent.wd 1 x.1 x.2
structure Sg (n : Nat) (m : Nat → Nat) (root : Nat) (tb : Nat → Option Nat) (pg : Nat → Nat → Option (Nat × Nat)) : Prop where
  nn : n ≤ 4096
  rt : root % 4096 = 0 ∧ root + 4096 ≤ 4096 * n
  a1 : ∀ k, k < 1024 → ldN m (root + 4 * k) 4 = w1 (tb k)
  fr : ∀ k f, tb k = some f → k < 1024 ∧ f < n ∧ 4096 * f ≠ root
  inj : ∀ k k' f, tb k = some f → tb k' = some f → k = k'
  a2 : ∀ k f, tb k = some f → ∀ j, j < 1024 → ldN m (4096 * f + 4 * j) 4 = w2 (pg k j)
  ck : ∀ k j x, pg k j = some x → Ent.ck 1 x.1 x.2 = 0
  no : ∀ k j, tb k = none → pg k j = none
theorem ck2 {f : Nat} (h : f < 4096) : Ent.ck 2 0 f = 0 := Ent.ck_of (by decide) (by decide) rfl (by simp [Ent.fm, h])
theorem okW_root {n root k : Nat} (h : root % 4096 = 0 ∧ root + 4096 ≤ 4096 * n) (hk : k < 1024) : okW n root k = true := by
  rw [okW_iff]; omega
theorem okW_tab {n f j : Nat} (h : f < n) (hj : j < 1024) : okW n (4096 * f) j = true := by
  rw [okW_iff]; omega
theorem Sg.r1 {n : Nat} {m : Nat → Nat} {root : Nat} {tb : Nat → Option Nat} {pg : Nat → Nat → Option (Nat × Nat)} (h : Sg n m root tb pg) {k : Nat} (hk : k < 1024) : wdW n m root k = w1 (tb k) := by
  unfold wdW
  rw [if_pos (okW_root h.rt hk)]
  exact h.a1 k hk
theorem Sg.r2 {n : Nat} {m : Nat → Nat} {root : Nat} {tb : Nat → Option Nat} {pg : Nat → Nat → Option (Nat × Nat)} (h : Sg n m root tb pg) {k f j : Nat} (hf : tb k = some f) (hj : j < 1024) : wdW n m (4096 * f) j = w2 (pg k j) := by
  unfold wdW
  rw [if_pos (okW_tab (h.fr k f hf).2.1 hj)]
  exact h.a2 k f hf j hj
theorem rd0 (k : Int) (hk : k = 1 ∨ k = 2) : rdF 0 k = 3 := by rcases hk with rfl | rfl <;> rfl
theorem rd2 {f : Nat} (h : f < 4096) : rdF (Ent.wd 2 0 f) 2 = 0 := by
  obtain ⟨a, b, c, d⟩ := Ent.dec_enc (ck2 h)
  have e : Ent.de (Ent.wd 2 0 f) = 0 := Ent.de_of a (by rw [b, c, d]; exact ck2 h)
  unfold rdF
  rw [e, b]; rfl
theorem rd1 {p f : Nat} (h : Ent.ck 1 p f = 0) : rdF (Ent.wd 1 p f) 1 = 0 := by
  obtain ⟨a, b, c, d⟩ := Ent.dec_enc h
  have e : Ent.de (Ent.wd 1 p f) = 0 := Ent.de_of a (by rw [b, c, d]; exact h)
  unfold rdF
  rw [e, b]; rfl
/-- Walk, where no table is. -/
theorem Sg.wk_no {n : Nat} {m : Nat → Nat} {root : Nat} {tb : Nat → Option Nat} {pg : Nat → Nat → Option (Nat × Nat)} (h : Sg n m root tb pg) {v : Nat} (hv : v < 4294967296) (a : Int) (ht : tb (v / 4096 / 1024) = none) : wk n m root v a = (0, [(root + 4 * (v / 4096 / 1024), 0)], 3) := by
  have hk : v / 4096 / 1024 < 1024 := by omega
  unfold wk
  rw [if_neg (by rw [okW_root h.rt hk]; decide), h.r1 hk, ht]
  show (if rdF 0 2 ≠ 0 then _ else _) = _
  rw [rd0 2 (.inr rfl)]; rfl
theorem Sg.wk_tab {n : Nat} {m : Nat → Nat} {root : Nat} {tb : Nat → Option Nat} {pg : Nat → Nat → Option (Nat × Nat)} (h : Sg n m root tb pg) {v f : Nat} (hv : v < 4294967296) (a : Int) (ht : tb (v / 4096 / 1024) = some f) :
    wk n m root v a = wkE n m (v / 4096 % 1024) v a (root + 4 * (v / 4096 / 1024), Ent.wd 2 0 f) (4096 * f) := by
  have hk : v / 4096 / 1024 < 1024 := by omega
  have hf := (h.fr _ _ ht).2.1
  have hn := h.nn
  unfold wk
  rw [if_neg (by rw [okW_root h.rt hk]; decide), h.r1 hk, ht]
  show (if rdF (Ent.wd 2 0 f) 2 ≠ 0 then _ else _) = _
  rw [rd2 (by omega), if_neg (by decide)]
  show wkE n m _ v a (_, Ent.wd 2 0 f) (4096 * Ent.df (Ent.wd 2 0 f)) = _
  rw [(Ent.dec_enc (ck2 (by omega))).2.2.2]
/-- Where a table is, and no page. -/
theorem Sg.wk_free {n : Nat} {m : Nat → Nat} {root : Nat} {tb : Nat → Option Nat} {pg : Nat → Nat → Option (Nat × Nat)} (h : Sg n m root tb pg) {v f : Nat} (hv : v < 4294967296) (a : Int) (ht : tb (v / 4096 / 1024) = some f) (hp : pg (v / 4096 / 1024) (v / 4096 % 1024) = none) :
    wk n m root v a = (0, [(root + 4 * (v / 4096 / 1024), Ent.wd 2 0 f), (4096 * f + 4 * (v / 4096 % 1024), 0)], 3) := by
  rw [h.wk_tab hv a ht]
  have hj : v / 4096 % 1024 < 1024 := by omega
  unfold wkE
  rw [if_neg (by rw [okW_tab (h.fr _ _ ht).2.1 hj]; decide), h.r2 ht hj, hp]
  have e : rpF n 0 a = 3 := by unfold rpF; rw [rd0 1 (.inl rfl)]; rfl
  show (if rpF n 0 a ≠ 0 then (0, [_, (_, 0)], rpF n 0 a) else _) = _
  rw [e]; rfl
/-- Where a page is. -/
theorem Sg.wk_page {n : Nat} {m : Nat → Nat} {root : Nat} {tb : Nat → Option Nat} {pg : Nat → Nat → Option (Nat × Nat)} (h : Sg n m root tb pg) {v : Nat} (hv : v < 4294967296) (a : Int) {p fr : Nat} (hp : pg (v / 4096 / 1024) (v / 4096 % 1024) = some (p, fr)) (hn : fr < n) :
    ∃ s1 s2, wk n m root v a = (if Ent.alw p a = true then 4096 * fr + v % 4096 else 0, [s1, s2], if Ent.alw p a = true then 0 else 5) := by
  obtain ⟨f, ht⟩ : ∃ f, tb (v / 4096 / 1024) = some f := by
    cases e : tb (v / 4096 / 1024) with
    | none => rw [h.no _ _ e] at hp; cases hp
    | some f => exact ⟨f, rfl⟩
  rw [h.wk_tab hv a ht]
  have hj : v / 4096 % 1024 < 1024 := by omega
  have hck := h.ck _ _ _ hp
  obtain ⟨_, _, d3, d4⟩ := Ent.dec_enc hck
  unfold wkE
  rw [if_neg (by rw [okW_tab (h.fr _ _ ht).2.1 hj]; decide), h.r2 ht hj, hp]
  show ∃ s1 s2, (if rpF n (Ent.wd 1 p fr) a ≠ 0 then (0, [_, (_, Ent.wd 1 p fr)], rpF n (Ent.wd 1 p fr) a) else (4096 * Ent.df (Ent.wd 1 p fr) + v % 4096, [_, (_, Ent.wd 1 p fr)], 0)) = _
  have e : rpF n (Ent.wd 1 p fr) a = if Ent.alw p a = true then 0 else 5 := by
    unfold rpF
    rw [rd1 hck, if_neg (by decide)]
    simp only at d3 d4
    rw [d3, d4]
    cases Ent.alw p a
    · rfl
    · rw [if_neg (by decide), if_neg (by omega)]; rfl
  rw [e]
  simp only at d4
  rw [d4]
  cases Ent.alw p a
  · exact ⟨_, _, rfl⟩
  · exact ⟨_, _, rfl⟩
/-- The first words of one that has nothing. -/
theorem Sg.zero {n : Nat} {m : Nat → Nat} {root : Nat} (hn : n ≤ 4096) (hr : root % 4096 = 0 ∧ root + 4096 ≤ 4096 * n) (hz : ∀ i, root ≤ i → i < root + 4096 → m i = 0) : Sg n m root (fun _ => none) (fun _ _ => none) where
  nn := hn
  rt := hr
  a1 := fun k hk => ldN_zero m _ 4 (fun i hi => hz _ (by omega) (by omega))
  fr := fun k f h => by cases h
  inj := fun k k' f h => by cases h
  a2 := fun k f h => by cases h
  ck := fun k j x h => by cases h
  no := fun k j _ => rfl
/-- Another memory, of the same words. -/
theorem Sg.same {n : Nat} {m m' : Nat → Nat} {root : Nat} {tb : Nat → Option Nat} {pg : Nat → Nat → Option (Nat × Nat)} (h : Sg n m root tb pg) (h1 : ∀ i, root ≤ i → i < root + 4096 → m' i = m i) (h2 : ∀ k f, tb k = some f → ∀ i, 4096 * f ≤ i → i < 4096 * f + 4096 → m' i = m i) : Sg n m' root tb pg where
  nn := h.nn
  rt := h.rt
  a1 := fun k hk => by
    rw [← h.a1 k hk, ldN_four, ldN_four, h1 _ (by omega) (by omega), h1 _ (by omega) (by omega), h1 _ (by omega) (by omega), h1 _ (by omega) (by omega)]
  fr := h.fr
  inj := h.inj
  a2 := fun k f ht j hj => by
    have := h2 k f ht
    rw [← h.a2 k f ht j hj, ldN_four, ldN_four, this _ (by omega) (by omega), this _ (by omega) (by omega), this _ (by omega) (by omega), this _ (by omega) (by omega)]
  ck := h.ck
  no := h.no
def setB (tb : Nat → Option Nat) (k f : Nat) (x : Nat) : Option Nat := if x = k then some f else tb x
def setG (pg : Nat → Nat → Option (Nat × Nat)) (k j : Nat) (e : Nat × Nat) (x y : Nat) : Option (Nat × Nat) := if x = k ∧ y = j then some e else pg x y
theorem wd2_lt {f : Nat} (h : f < 4096) : Ent.wd 2 0 f < 4294967296 := by have := Ent.wd_lt (ck2 h); omega
/-- A table more. -/
theorem Sg.table {n : Nat} {m : Nat → Nat} {root : Nat} {tb : Nat → Option Nat} {pg : Nat → Nat → Option (Nat × Nat)} (h : Sg n m root tb pg) {k f : Nat} (hk : k < 1024) (ht : tb k = none) (hf : f < n) (hr : 4096 * f ≠ root) (hn : ∀ k', tb k' ≠ some f) :
    Sg n (stN (fillN m (4096 * f) 4096 0) (root + 4 * k) (Ent.wd 2 0 f) 4) root (setB tb k f) pg where
  nn := h.nn
  rt := h.rt
  a1 := fun k' hk' => by
    have hnn := h.nn
    have hrt := h.rt
    have hd : root + 4096 ≤ 4096 * f ∨ 4096 * f + 4096 ≤ root := by omega
    by_cases e : k' = k
    · subst e
      rw [ld_st_same _ _ _ (wd2_lt (by omega))]
      simp [setB, w1]
    · rw [ld_st_other _ _ _ _ (by omega)]
      simp only [setB, if_neg e]
      rw [← h.a1 k' hk', ldN_four, ldN_four]
      simp only [fillN]
      rw [if_neg (by omega), if_neg (by omega), if_neg (by omega), if_neg (by omega)]
  fr := fun k' f' e => by
    unfold setB at e
    split at e
    · cases e; rename_i e1; subst e1; exact ⟨hk, hf, hr⟩
    · exact h.fr k' f' e
  inj := fun k1 k2 f' e1 e2 => by
    unfold setB at e1 e2
    split at e1 <;> split at e2
    · omega
    · cases e1; exact absurd e2 (hn _)
    · cases e2; exact absurd e1 (hn _)
    · exact h.inj k1 k2 f' e1 e2
  a2 := fun k' f' e j hj => by
    have hrt := h.rt
    unfold setB at e
    split at e
    · cases e
      rename_i e1; subst e1
      rw [ld_st_other _ _ _ _ (by omega), h.no _ _ ht]
      refine ldN_zero _ _ 4 (fun i hi => ?_)
      unfold fillN
      rw [if_pos (by omega)]
    · have hff : f' ≠ f := fun q => hn k' (by rw [← q]; exact e)
      have hr' := (h.fr k' f' e).2.2
      rw [ld_st_other _ _ _ _ (by omega), ← h.a2 k' f' e j hj, ldN_four, ldN_four]
      simp only [fillN]
      rw [if_neg (by omega), if_neg (by omega), if_neg (by omega), if_neg (by omega)]
  ck := h.ck
  no := fun k' j e => by
    unfold setB at e
    split at e
    · cases e
    · exact h.no k' j e
/-- A page more. -/
theorem Sg.page {n : Nat} {m : Nat → Nat} {root : Nat} {tb : Nat → Option Nat} {pg : Nat → Nat → Option (Nat × Nat)} (h : Sg n m root tb pg) {k f j p fr : Nat} (ht : tb k = some f) (hj : j < 1024) (hc : Ent.ck 1 p fr = 0) :
    Sg n (stN m (4096 * f + 4 * j) (Ent.wd 1 p fr) 4) root tb (setG pg k j (p, fr)) where
  nn := h.nn
  rt := h.rt
  a1 := fun k' hk' => by
    have hrt := h.rt
    have hr' := (h.fr k f ht).2.2
    rw [ld_st_other _ _ _ _ (by omega)]
    exact h.a1 k' hk'
  fr := h.fr
  inj := h.inj
  a2 := fun k' f' e j' hj' => by
    by_cases ek : k' = k
    · subst ek
      rw [ht] at e; cases e
      by_cases ej : j' = j
      · subst ej
        have := Ent.wd_lt hc
        rw [ld_st_same _ _ _ (by omega)]
        simp [setG, w2]
      · rw [ld_st_other _ _ _ _ (by omega), h.a2 k' f ht j' hj']
        simp [setG, ej]
    · have hff : f' ≠ f := fun q => ek (h.inj k' k f (by rw [← q]; exact e) ht)
      rw [ld_st_other _ _ _ _ (by omega), h.a2 k' f' e j' hj']
      simp [setG, ek]
  ck := fun k' j' x e => by
    unfold setG at e
    split at e
    · cases e; exact hc
    · exact h.ck k' j' x e
  no := fun k' j' e => by
    unfold setG
    split
    · rename_i q; rw [q.1, ht] at e; cases e
    · exact h.no k' j' e
end Go.Proofs.YtoagdcdmahpglaaDoor
