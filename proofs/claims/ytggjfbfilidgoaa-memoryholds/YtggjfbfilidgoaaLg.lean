import Derived.Test.YtggjfbfilidgoaaWk
namespace Go.Proofs.Ytggjfbfilidgoaa
open Go.ChangeShapes Go.WideShapes Go.ChangeAt Go.RowKit
set_option linter.unusedVariables false

theorem stN_at (m : Nat → Nat) (at_ v j x : Nat) : stN m at_ v j x = if at_ ≤ x ∧ x < at_ + j then leB v (x - at_) else m x := by
  induction j with
  | zero => simp [stN]; omega
  | succ j ih =>
    rw [stN]; unfold upd
    by_cases e : x = at_ + j
    · subst e; simp
    · rw [if_neg e, ih]
      by_cases h : at_ ≤ x ∧ x < at_ + j
      · rw [if_pos h, if_pos (by omega)]
      · rw [if_neg h, if_neg (by omega)]
theorem leB_sum (v : Nat) (hv : v < 4294967296) : leB v 0 + 256 * leB v 1 + 65536 * leB v 2 + 16777216 * leB v 3 = v := by
  unfold leB
  have e0 : 2 ^ (8 * 0) = 1 := rfl
  have e1 : 2 ^ (8 * 1) = 256 := rfl
  have e2 : 2 ^ (8 * 2) = 65536 := rfl
  have e3 : 2 ^ (8 * 3) = 16777216 := rfl
  rw [e0, e1, e2, e3]; omega
theorem ldN_four (m : Nat → Nat) (a : Nat) : ldN m a 4 = m a + 256 * m (a + 1) + 65536 * m (a + 2) + 16777216 * m (a + 3) := by
  have e0 : 2 ^ (8 * 0) = 1 := rfl
  have e1 : 2 ^ (8 * 1) = 256 := rfl
  have e2 : 2 ^ (8 * 2) = 65536 := rfl
  have e3 : 2 ^ (8 * 3) = 16777216 := rfl
  simp only [ldN, e0, e1, e2, e3, Nat.add_zero]; omega
theorem ld_st_same (m : Nat → Nat) (a v : Nat) (hv : v < 4294967296) : ldN (stN m a v 4) a 4 = v := by
  rw [ldN_four]
  simp only [stN_at]
  rw [if_pos (by omega), if_pos (by omega), if_pos (by omega), if_pos (by omega)]
  have := leB_sum v hv
  simp only [Nat.sub_self, Nat.add_sub_cancel_left]
  exact this
theorem ld_st_other (m : Nat → Nat) (a b v : Nat) (h : b + 4 ≤ a ∨ a + 4 ≤ b) : ldN (stN m a v 4) b 4 = ldN m b 4 := by
  rw [ldN_four, ldN_four]
  simp only [stN_at]
  rw [if_neg (by omega), if_neg (by omega), if_neg (by omega), if_neg (by omega)]

/-- What was stored last, of each word. -/
def knowOf (kn : Nat → Nat) : Array Value := ((List.range 3072).map fun i => Value.int .u32 (kn i : Nat)).toArray
theorem knowOf_get (kn : Nat → Nat) (i : Nat) (hi : i < 3072) : (knowOf kn)[i]? = some (.int .u32 (kn i : Nat)) := by
  simp [knowOf, hi]
theorem knowOf_size (kn : Nat → Nat) : (knowOf kn).size = 3072 := by simp [knowOf]
theorem knowOf_set (kn : Nat → Nat) (i v : Nat) (hi : i < 3072) : (knowOf kn).setIfInBounds i (.int .u32 v) = knowOf (upd kn i v) := by
  apply Array.ext_getElem?
  intro j
  by_cases hj : j < 3072
  · rw [knowOf_get _ _ hj, Array.getElem?_setIfInBounds]
    by_cases e : i = j
    · subst e; simp [knowOf_size, hi, upd]
    · rw [if_neg e, knowOf_get _ _ hj]
      have h2 : j ≠ i := fun h => e h.symm
      simp [upd, h2]
  · rw [Array.getElem?_eq_none (by simp [knowOf_size]; omega), Array.getElem?_eq_none (by rw [knowOf_size]; omega)]
theorem rep_range32 (n : Nat) : List.replicate n (Value.int .u32 0) = (List.range n).map fun i => Value.int .u32 ((fun _ => 0 : Nat → Nat) i : Nat) := by
  apply List.ext_getElem?
  intro i
  by_cases hi : i < n
  · simp [hi]
  · simp [hi]
theorem knowOf_zero : (List.replicate 3072 (Value.int .u32 0)).toArray = knowOf (fun _ => 0) := by
  unfold knowOf
  rw [rep_range32 3072]

/-- A memory of three pages and what it must read. -/
structure Lw (w : World) (B M Kb : Nat) (f : Nat → Option Nat) (m kn : Nat → Nat) : Prop where
  mem : IsM w B M 3 f m
  know : w.heap[Kb]? = some (.cells (knowOf kn) 28 (0, 0))
  eq : ∀ i, i < 3072 → ldN m (4 * i) 4 = kn i
  lt : ∀ i, kn i < 4294967296

theorem Lw.apart {w : World} {B M Kb : Nat} {f : Nat → Option Nat} {m kn : Nat → Nat} (h : Lw w B M Kb f m kn) : ¬ Mf B M f Kb := by
  rintro (rfl | rfl | ⟨p, hp⟩)
  · have := h.know; rw [h.mem.box] at this; simp at this
  · obtain ⟨es, c, hh⟩ := h.mem.map.heap; have := h.know; rw [hh] at this; cases this
  · have := (h.mem.page p Kb hp).2; rw [h.know] at this; simp at this

theorem Lw.step {w w1 : World} {B M Kb : Nat} {f f' : Nat → Option Nat} {m kn : Nat → Nat} (h : Lw w B M Kb f m kn) (a x : Nat) (ha : a < 3072) (hx : x < 4294967296)
    (hI : IsM w1 B M 3 f' (stN m (4 * a) x 4)) (hC : Chg w w1 (Mf B M f)) (hF : ∀ j y, f' j = some y → f j = some y ∨ w.heap.size ≤ y) :
    Lw (w1.setCell ⟨Kb, a, none⟩ (.int .u32 x)) B M Kb f' (stN m (4 * a) x 4) (upd kn a x) := by
  have hk : w1.heap[Kb]? = some (.cells (knowOf kn) 28 (0, 0)) := hC.heap h.know h.apart
  have hap : ¬ Mf B M f' Kb := by
    rintro (rfl | rfl | ⟨p, hp⟩)
    · rw [hI.box] at hk; simp at hk
    · obtain ⟨es, c, hh⟩ := hI.map.heap; rw [hh] at hk; cases hk
    · have := (hI.page p Kb hp).2; rw [hk] at this; simp at this
  have hc : Chg w1 (w1.setCell ⟨Kb, a, none⟩ (.int .u32 x)) (fun k => k = Kb) := Chg.setCell (S := fun k => k = Kb) (Chg.refl _ _) (.inl rfl) _
  refine ⟨hI.other hc (fun k hk e => hap (e ▸ hk)), ?_, ?_, ?_⟩
  · rw [heap_setCell_same w1 Kb a _ 28 _ hk, knowOf_set _ _ _ ha]
  · intro i hi
    by_cases e : i = a
    · subst e; rw [ld_st_same _ _ _ hx]; simp [upd]
    · rw [ld_st_other _ _ _ _ (by omega), h.eq i hi, upd_other e]
  · intro i
    unfold upd; split
    · exact hx
    · exact h.lt i
end Go.Proofs.Ytggjfbfilidgoaa
