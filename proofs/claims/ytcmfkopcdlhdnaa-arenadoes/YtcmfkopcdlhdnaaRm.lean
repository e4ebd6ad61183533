import Derived.Test.YtcmfkopcdlhdnaaAr
import Derived.Test.YtcmfkopcdlhdnaaRe
namespace Go.Proofs.Ytcmfkopcdlhdnaa
open Go.ChangeShapes Go.WideShapes Go.ChangeAt Go.RowKit
set_option linter.unusedVariables false

/-! ### The document's memory -/
def pgv : Option Nat → Value
  | none => .slice none 0 0
  | some b => .slice (some ⟨b, 0, none⟩) 4096 4096
def rowOf (g : Nat → Option Nat) (n : Nat) : Array Value := ((List.range n).map fun k => pgv (g k)).toArray
theorem rowOf_get (g : Nat → Option Nat) (n k : Nat) (h : k < n) : (rowOf g n)[k]? = some (pgv (g k)) := by simp [rowOf, h]
theorem rowOf_size (g : Nat → Option Nat) (n : Nat) : (rowOf g n).size = n := by simp [rowOf]
theorem rowOf_set (g : Nat → Option Nat) (n k b : Nat) (h : k < n) : (rowOf g n).setIfInBounds k (.slice (some ⟨b, 0, none⟩) 4096 4096) = rowOf (setF g k b) n := by
  apply Array.ext_getElem?
  intro j
  by_cases hj : j < n
  · rw [rowOf_get _ _ _ hj, Array.getElem?_setIfInBounds]
    by_cases e : k = j
    · subst e; simp [rowOf_size, h, setF, pgv]
    · rw [if_neg e, rowOf_get _ _ _ hj]
      have : j ≠ k := fun h => e h.symm
      simp [setF, this]
  · rw [Array.getElem?_eq_none (by simp [rowOf_size]; omega), Array.getElem?_eq_none (by rw [rowOf_size]; omega)]

structure IsR (w : World) (R P n : Nat) (g : Nat → Option Nat) (m : Nat → Nat) : Prop where
  box : w.heap[R]? = some (.cells #[.slice (some ⟨P, 0, none⟩) n n] 78 (0, 0))
  row : w.heap[P]? = some (.cells (rowOf g n) 39 (0, 0))
  page : ∀ k b, g k = some b → k < n ∧ w.heap[b]? = some (.cells (pageOf m k) 5 (0, 0))
  none_ : ∀ k i, g k = none → i < 4096 → m (4096 * k + i) = 0
  inj : ∀ k k' b, g k = some b → g k' = some b → k = k'
  byte : ∀ a, m a < 256
  ge : 1 ≤ n
  le : n ≤ 4096
def Rf (R P : Nat) (g : Nat → Option Nat) (k : Nat) : Prop := k = R ∨ k = P ∨ ∃ p, g p = some k

section
variable {w w' : World} {R P n : Nat} {g : Nat → Option Nat} {m : Nat → Nat}
theorem IsR.other {S : Nat → Prop} (h : IsR w R P n g m) (hc : Chg w w' S) (hS : ∀ k, Rf R P g k → ¬ S k) : IsR w' R P n g m :=
  ⟨hc.heap h.box (hS R (.inl rfl)), hc.heap h.row (hS P (.inr (.inl rfl))), fun k b hb => ⟨(h.page k b hb).1, hc.heap (h.page k b hb).2 (hS b (.inr (.inr ⟨k, hb⟩)))⟩, h.none_, h.inj, h.byte, h.ge, h.le⟩
theorem IsR.lt (h : IsR w R P n g m) : ∀ k, Rf R P g k → k < w.heap.size := by
  intro k hk
  have aux : ∀ {k o}, w.heap[k]? = some o → k < w.heap.size := fun h => (Array.getElem?_eq_some_iff.1 h).1
  rcases hk with rfl | rfl | ⟨p, hp⟩
  · exact aux h.box
  · exact aux h.row
  · exact aux (h.page p k hp).2
/-- A block of another type is none of these. -/
theorem IsR.no (h : IsR w R P n g m) {k : Nat} {cs : Array Value} {t : TypeId} {fz : Nat × Nat} (hk : w.heap[k]? = some (.cells cs t fz)) (ht : t ≠ 78 ∧ t ≠ 39 ∧ t ≠ 5) : ¬ Rf R P g k := by
  rintro (rfl | rfl | ⟨p, hp⟩)
  · rw [h.box] at hk; simp at hk; exact ht.1 hk.2.1.symm
  · rw [h.row] at hk; simp at hk; exact ht.2.1 hk.2.1.symm
  · rw [(h.page p k hp).2] at hk; simp at hk; exact ht.2.2 hk.2.1.symm
theorem IsR.noMap (h : IsR w R P n g m) {k : Nat} {es : Array MapEntry} {c : Nat} (hk : w.heap[k]? = some (.map es c)) : ¬ Rf R P g k := by
  rintro (rfl | rfl | ⟨p, hp⟩)
  · rw [h.box] at hk; cases hk
  · rw [h.row] at hk; cases hk
  · rw [(h.page p k hp).2] at hk; cases hk
theorem IsM.no {B M : Nat} {f : Nat → Option Nat} (h : IsM w B M n f m) {k : Nat} {cs : Array Value} {t : TypeId} {fz : Nat × Nat} (hk : w.heap[k]? = some (.cells cs t fz)) (ht : t ≠ 60 ∧ t ≠ 70) : ¬ Mf B M f k := by
  rintro (rfl | rfl | ⟨p, hp⟩)
  · rw [h.box] at hk; simp at hk; exact ht.1 hk.2.1.symm
  · obtain ⟨es, c, hh⟩ := h.map.heap; rw [hh] at hk; cases hk
  · rw [(h.page p k hp).2] at hk; simp at hk; exact ht.2 hk.2.1.symm
theorem mr_dis {B M : Nat} {f : Nat → Option Nat} {m' : Nat → Nat} (h : IsM w B M n f m) (h2 : IsR w R P n g m') {k : Nat} (hk : Rf R P g k) : ¬ Mf B M f k := by
  rcases hk with rfl | rfl | ⟨p, hp⟩
  · exact h.no h2.box (by decide)
  · exact h.no h2.row (by decide)
  · exact h.no (h2.page p k hp).2 (by decide)
theorem mr_dis' {B M : Nat} {f : Nat → Option Nat} {m' : Nat → Nat} (h : IsM w B M n f m) (h2 : IsR w R P n g m') {k : Nat} (hk : Mf B M f k) : ¬ Rf R P g k := fun h3 => mr_dis h h2 h3 hk

theorem IsR.set (h : IsR w R P n g m) {k b : Nat} (hf : g k = some b) (i v : Nat) (hi : i < 4096) (hv : v < 256) : IsR (w.setCell ⟨b, i, none⟩ (.int .u8 v)) R P n g (upd m (4096 * k + i) v) := by
  have hc : Chg w (w.setCell ⟨b, i, none⟩ (.int .u8 v)) (fun x => x = b) := Chg.setCell (S := fun x => x = b) (Chg.refl _ _) (.inl rfl) _
  have hR : R ≠ b := by rintro rfl; have := (h.page k R hf).2; rw [h.box] at this; simp at this
  have hP : P ≠ b := by rintro rfl; have := (h.page k P hf).2; rw [h.row] at this; simp at this
  refine ⟨hc.heap h.box hR, hc.heap h.row hP, ?_, ?_, h.inj, ?_, h.ge, h.le⟩
  · intro j x hj
    refine ⟨(h.page j x hj).1, ?_⟩
    by_cases e : j = k
    · subst e
      rw [hf] at hj; cases hj
      rw [heap_setCell_same w b i _ 5 _ (h.page j b hf).2, pageOf_set _ _ _ _ hi]
    · have hx : x ≠ b := fun e2 => e (h.inj j k x hj (by rw [e2]; exact hf))
      rw [hc.heap (h.page j x hj).2 hx]
      rw [pageOf_congr (m := m) (m' := upd m (4096 * k + i) v)]
      intro l hl
      rw [upd_other (by omega)]
  · intro j l hj hl
    have e : j ≠ k := by rintro rfl; rw [hf] at hj; cases hj
    rw [upd_other (by omega)]
    exact h.none_ j l hj hl
  · intro a
    unfold upd; split
    · exact hv
    · exact h.byte a
/-- A page of noughts is laid in. -/
theorem IsR.add (h : IsR w R P n g m) {k b : Nat} (hk : k < n) (hf : g k = none) (hb : w.heap.size ≤ b) {w2 : World} (hc : Chg w w2 (fun _ => False)) (hpg : w2.heap[b]? = some (.cells (pageOf (fun _ => 0) 0) 5 (0, 0))) :
    IsR (w2.setCell ⟨P, k, none⟩ (.slice (some ⟨b, 0, none⟩) 4096 4096)) R P n (setF g k b) m := by
  have h2 := h.other hc (fun _ _ h => h)
  have hc2 : Chg w2 (w2.setCell ⟨P, k, none⟩ (.slice (some ⟨b, 0, none⟩) 4096 4096)) (fun x => x = P) := Chg.setCell (S := fun x => x = P) (Chg.refl _ _) (.inl rfl) _
  have hR : R ≠ P := by rintro rfl; have := h.row; rw [h.box] at this; simp at this
  have hbP : b ≠ P := by have := h.lt P (.inr (.inl rfl)); omega
  refine ⟨hc2.heap h2.box hR, ?_, ?_, ?_, ?_, h.byte, h.ge, h.le⟩
  · rw [heap_setCell_same w2 P k _ 39 _ h2.row, rowOf_set _ _ _ _ hk]
  · intro j x hj
    unfold setF at hj
    split at hj
    · rename_i e; subst e; cases hj
      refine ⟨hk, ?_⟩
      rw [hc2.heap hpg hbP, ← pageOf_zero (m := fun _ => 0) (k := 0) (fun _ _ => rfl), pageOf_zero (m := m) (k := j) (fun i hi => h.none_ j i hf hi)]
    · refine ⟨(h.page j x hj).1, hc2.heap (h2.page j x hj).2 ?_⟩
      rintro rfl
      have := (h.page j x hj).2; rw [h.row] at this; simp at this
  · intro j i hj hi
    unfold setF at hj
    split at hj
    · cases hj
    · exact h.none_ j i hj hi
  · intro j j' x hj hj'
    unfold setF at hj hj'
    split at hj <;> split at hj'
    · rename_i e e'; rw [e, e']
    · cases hj
      have := h.lt b (.inr (.inr ⟨j', hj'⟩)); omega
    · cases hj'
      have := h.lt b (.inr (.inr ⟨j, hj⟩)); omega
    · exact h.inj j j' x hj hj'
end
end Go.Proofs.Ytcmfkopcdlhdnaa
