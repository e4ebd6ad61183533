import Derived.Test.YtkndlkcbhpfjoaaHa
namespace Go.Proofs.Ytkndlkcbhpfjoaa
open Go.ChangeShapes Go.WideShapes Go.ChangeAt Go.RowKit Go.Shelf
set_option linter.unusedVariables false
/-! The document's controller: three rows. -/
def icl (f : Nat → Nat) : List Value := (List.range 32).map (fun i => Value.int .i64 (f i : Nat))
def bcl (f : Nat → Bool) : List Value := (List.range 32).map (fun i => Value.bool (f i))
theorem icl_at (f : Nat → Nat) (i : Nat) (h : i < 32) : (icl f)[i]? = some (.int .i64 (f i : Nat)) := by simp [icl, h]
theorem bcl_at (f : Nat → Bool) (i : Nat) (h : i < 32) : (bcl f)[i]? = some (.bool (f i)) := by simp [bcl, h]
theorem icl_set (f : Nat → Nat) (l : Nat) (hl : l < 32) (c : Nat) : (icl f).toArray.setIfInBounds l (.int .i64 (c : Nat)) = (icl (fun i => if i = l then c else f i)).toArray := by
  apply Array.ext'
  simp only [Array.toList_setIfInBounds]
  apply List.ext_getElem?
  intro j
  rw [List.getElem?_set]
  by_cases hj : l = j
  · subst hj; rw [icl_at _ l hl]; simp [icl, hl]
  · simp only [hj, if_false]
    by_cases h32 : j < 32
    · rw [icl_at f j h32, icl_at _ j h32, if_neg (fun e => hj e.symm)]
    · rw [List.getElem?_eq_none (by simp [icl]; omega), List.getElem?_eq_none (by simp [icl]; omega)]
theorem bcl_set (f : Nat → Bool) (l : Nat) (hl : l < 32) (c : Bool) : (bcl f).toArray.setIfInBounds l (.bool c) = (bcl (fun i => if i = l then c else f i)).toArray := by
  apply Array.ext'
  simp only [Array.toList_setIfInBounds]
  apply List.ext_getElem?
  intro j
  rw [List.getElem?_set]
  by_cases hj : l = j
  · subst hj; rw [bcl_at _ l hl]; simp [bcl, hl]
  · simp only [hj, if_false]
    by_cases h32 : j < 32
    · rw [bcl_at f j h32, bcl_at _ j h32, if_neg (fun e => hj e.symm)]
    · rw [List.getElem?_eq_none (by simp [bcl]; omega), List.getElem?_eq_none (by simp [bcl]; omega)]
theorem icl_ext {f g : Nat → Nat} (h : ∀ i, i < 32 → f i = g i) : icl f = icl g := List.map_congr_left fun i hi => by rw [h i (by simpa using hi)]
theorem bcl_ext {f g : Nat → Bool} (h : ∀ i, i < 32 → f i = g i) : bcl f = bcl g := List.map_congr_left fun i hi => by rw [h i (by simpa using hi)]
/-- In box F, its rows in R, P, M. -/
structure IsF (w : World) (F R P M : Nat) (s : GS) : Prop where
  bx : w.heap[F]? = some (.cells #[.slice (some ⟨R, 0, none⟩) 32 32, .slice (some ⟨P, 0, none⟩) 32 32, .slice (some ⟨M, 0, none⟩) 32 32] 73 (0, 0))
  r : w.heap[R]? = some (.cells (icl s.rt).toArray 3 (0, 0))
  p : w.heap[P]? = some (.cells (bcl s.pe).toArray 4 (0, 0))
  m : w.heap[M]? = some (.cells (bcl s.ma).toArray 4 (0, 0))
  pm : P ≠ M
/-- Its blocks. -/
def Ff (F R P M k : Nat) : Prop := k = F ∨ k = R ∨ k = P ∨ k = M
section
variable {w w' : World} {F R P M : Nat} {s : GS}
theorem IsF.chg {S : Nat → Prop} (h : IsF w F R P M s) (hc : Chg w w' S) (hn : ∀ k, Ff F R P M k → ¬ S k) : IsF w' F R P M s :=
  ⟨hc.heap h.bx (hn _ (.inl rfl)), hc.heap h.r (hn _ (.inr (.inl rfl))), hc.heap h.p (hn _ (.inr (.inr (.inl rfl)))), hc.heap h.m (hn _ (.inr (.inr (.inr rfl)))), h.pm⟩
theorem IsF.kp (h : IsF w F R P M s) (hc : Kp w w') : IsF w' F R P M s := h.chg hc (fun _ _ x => x)
theorem IsF.c0 (h : IsF w F R P M s) : w.cell? ⟨F, 0, none⟩ = some (.slice (some ⟨R, 0, none⟩) 32 32) := by rw [(cells_at h.bx 0).1]; rfl
theorem IsF.c1 (h : IsF w F R P M s) : w.cell? ⟨F, 1, none⟩ = some (.slice (some ⟨P, 0, none⟩) 32 32) := by rw [(cells_at h.bx 1).1]; rfl
theorem IsF.c2 (h : IsF w F R P M s) : w.cell? ⟨F, 2, none⟩ = some (.slice (some ⟨M, 0, none⟩) 32 32) := by rw [(cells_at h.bx 2).1]; rfl
theorem IsF.rt (h : IsF w F R P M s) (i : Nat) (hi : i < 32) : w.cell? ⟨R, i, none⟩ = some (.int .i64 (s.rt i : Nat)) := by rw [(cells_at h.r i).1, List.getElem?_toArray, icl_at _ i hi]
theorem IsF.pe (h : IsF w F R P M s) (i : Nat) (hi : i < 32) : w.cell? ⟨P, i, none⟩ = some (.bool (s.pe i)) := by rw [(cells_at h.p i).1, List.getElem?_toArray, bcl_at _ i hi]
theorem IsF.ma (h : IsF w F R P M s) (i : Nat) (hi : i < 32) : w.cell? ⟨M, i, none⟩ = some (.bool (s.ma i)) := by rw [(cells_at h.m i).1, List.getElem?_toArray, bcl_at _ i hi]
theorem IsF.ext {t : GS} (h : IsF w F R P M s) (e : ∀ i, i < 32 → s.rt i = t.rt i ∧ s.pe i = t.pe i ∧ s.ma i = t.ma i) : IsF w F R P M t :=
  ⟨h.bx, by rw [← icl_ext (fun i hi => (e i hi).1)]; exact h.r, by rw [← bcl_ext (fun i hi => (e i hi).2.1)]; exact h.p, by rw [← bcl_ext (fun i hi => (e i hi).2.2)]; exact h.m, h.pm⟩
theorem IsF.no (h : IsF w F R P M s) : F ≠ R ∧ F ≠ P ∧ F ≠ M ∧ R ≠ P ∧ R ≠ M := by
  refine ⟨?_, ?_, ?_, ?_, ?_⟩
  · rintro rfl; have := h.bx; rw [h.r] at this; simp at this
  · rintro rfl; have := h.bx; rw [h.p] at this; simp at this
  · rintro rfl; have := h.bx; rw [h.m] at this; simp at this
  · rintro rfl; have := h.r; rw [h.p] at this; simp at this
  · rintro rfl; have := h.r; rw [h.m] at this; simp at this
theorem IsF.setP (h : IsF w F R P M s) (l : Nat) (hl : l < 32) (c : Bool) : IsF (w.setCell ⟨P, l, none⟩ (.bool c)) F R P M ⟨s.rt, fun i => if i = l then c else s.pe i, s.ma⟩ := by
  obtain ⟨n1, n2, n3, n4, n5⟩ := h.no
  exact ⟨(heap_setCell_other w ⟨P, l, none⟩ F _ n2).trans h.bx, (heap_setCell_other w ⟨P, l, none⟩ R _ n4).trans h.r, by rw [heap_setCell_same w P l _ 4 _ h.p, bcl_set _ l hl], (heap_setCell_other w ⟨P, l, none⟩ M _ (fun e => h.pm e.symm)).trans h.m, h.pm⟩
theorem IsF.setM (h : IsF w F R P M s) (l : Nat) (hl : l < 32) (c : Bool) : IsF (w.setCell ⟨M, l, none⟩ (.bool c)) F R P M ⟨s.rt, s.pe, fun i => if i = l then c else s.ma i⟩ := by
  obtain ⟨n1, n2, n3, n4, n5⟩ := h.no
  exact ⟨(heap_setCell_other w ⟨M, l, none⟩ F _ n3).trans h.bx, (heap_setCell_other w ⟨M, l, none⟩ R _ n5).trans h.r, (heap_setCell_other w ⟨M, l, none⟩ P _ h.pm).trans h.p, by rw [heap_setCell_same w M l _ 4 _ h.m, bcl_set _ l hl], h.pm⟩
theorem IsF.setR (h : IsF w F R P M s) (l : Nat) (hl : l < 32) (c : Nat) : IsF (w.setCell ⟨R, l, none⟩ (.int .i64 (c : Nat))) F R P M ⟨fun i => if i = l then c else s.rt i, s.pe, s.ma⟩ := by
  obtain ⟨n1, n2, n3, n4, n5⟩ := h.no
  exact ⟨(heap_setCell_other w ⟨R, l, none⟩ F _ n1).trans h.bx, by rw [heap_setCell_same w R l _ 3 _ h.r, icl_set _ l hl], (heap_setCell_other w ⟨R, l, none⟩ P _ (fun e => n4 e.symm)).trans h.p, (heap_setCell_other w ⟨R, l, none⟩ M _ (fun e => n5 e.symm)).trans h.m, h.pm⟩
end
theorem fLine_any (w : World) (n : Int) : Calls Try.prog 53 #[.int .i64 n] w fun e w' => e = .returned (.bool (decide (0 ≤ n) && decide (n < 32))) ∧ w' = w := by
  go_enter Try.func53, Try.ntmps53
  by_cases h1 : 0 ≤ n
  · go_wp2
    go_ret
    simp [h1]
  · go_wp2
    go_ret
    simp; omega
theorem fCell_any (w : World) (n : Int) : Calls Try.prog 54 #[.int .i64 n] w fun e w' => e = .returned (.bool (decide (1 ≤ n) && decide (n ≤ 8))) ∧ w' = w := by
  go_enter Try.func54, Try.ntmps54
  by_cases h1 : 1 ≤ n
  · go_wp2
    go_ret
    simp [h1]
  · go_wp2
    go_ret
    simp; omega
theorem fBit_any (w : World) (m : Nat) (hm : m < 4294967296) (l : Nat) (hl : l < 32) : Calls Try.prog 55 #[.int .u32 (m : Nat), .int .i64 (l : Nat)] w fun e w' => e = .returned (.bool (m.testBit l)) ∧ w' = w := by
  have hb := sw_shr m.testBit l hl
  rw [sw_nat hm] at hb
  rw [← Int.tmod_eq_emod_of_nonneg (Int.ediv_nonneg (by omega) (Int.pow_nonneg (by decide)))] at hb
  have hl2 : (l : Int) ≤ 32 := by omega
  cases ht : m.testBit l with
  | true =>
    rw [ht] at hb
    simp only [if_true] at hb
    clear ht hm hl
    go_enter Try.func55, Try.ntmps55
    go_wp2
    go_ret
    exact ⟨rfl, rfl⟩
  | false =>
    rw [ht] at hb
    simp only [Bool.false_eq_true, if_false] at hb
    clear ht hm hl
    go_enter Try.func55, Try.ntmps55
    go_wp2
    go_ret
    exact ⟨rfl, rfl⟩
end Go.Proofs.Ytkndlkcbhpfjoaa
