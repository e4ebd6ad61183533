import Derived.Test.YtppcfofkneaigaaOwn
namespace Go.Proofs.Ytppcfofkneaigaa
set_option linter.unusedVariables false

/-- A line that is there: its tag, dirty or not. -/
abbrev Ln := Nat × Bool
/-- Where a tag stands among the lines (behind them all: it is not there). -/
def atT (l : List Ln) (t : Nat) : Nat := l.findIdx (fun x => x.1 == t)
def hitL (l : List Ln) (t : Nat) : Bool := decide (atT l t < l.length)
/-- The place that is taken. -/
def posL (l : List Ln) (t ways : Nat) : Nat := if atT l t < l.length then atT l t else if l.length < ways then l.length else ways - 1
def backL (l : List Ln) (t ways : Nat) : Bool := !hitL l t && (decide (¬ l.length < ways) && (l.getD (ways - 1) (0, false)).2)
def drtL (l : List Ln) (t : Nat) : Bool := hitL l t && (l.getD (atT l t) (0, false)).2
def useL (l : List Ln) (t ways : Nat) (wr : Bool) : List Ln := (t, drtL l t || wr) :: (l.take (posL l t ways) ++ l.drop (posL l t ways + 1))

theorem atT_le (l : List Ln) (t : Nat) : atT l t ≤ l.length := List.findIdx_le_length
theorem atT_get (l : List Ln) (t : Nat) (h : atT l t < l.length) : (l[atT l t]).1 = t := by
  have := List.findIdx_getElem (p := fun x : Ln => x.1 == t) (xs := l) (w := h)
  exact beq_iff_eq.1 this
theorem atT_ne (l : List Ln) (t : Nat) (j : Nat) (h : j < atT l t) (hj : j < l.length) : (l[j]).1 ≠ t := by
  have := List.not_of_lt_findIdx (p := fun x : Ln => x.1 == t) (xs := l) h
  simpa using this
theorem atT_eq (l : List Ln) (t i : Nat) (h : i < l.length) (hi : (l[i]).1 = t) (hn : ∀ j (hj : j < i), (l[j]).1 ≠ t) : atT l t = i := by
  unfold atT
  rw [List.findIdx_eq h]
  refine ⟨by simpa using hi, fun j hj => ?_⟩
  have := hn j hj
  simpa using this
theorem atT_none (l : List Ln) (t : Nat) (h : ∀ x ∈ l, x.1 ≠ t) : atT l t = l.length := by
  unfold atT
  rw [List.findIdx_eq_length]
  intro x hx
  simpa using h x hx
theorem atT_none_iff (l : List Ln) (t : Nat) (h : ¬ atT l t < l.length) : ∀ x ∈ l, x.1 ≠ t := by
  intro x hx
  have h2 : l.findIdx (fun x => x.1 == t) = l.length := by have := atT_le l t; unfold atT at this h; omega
  rw [List.findIdx_eq_length] at h2
  simpa using h2 x hx

theorem posL_le (l : List Ln) (t ways : Nat) (hw : 1 ≤ ways) (hl : l.length ≤ ways) : posL l t ways ≤ l.length ∧ posL l t ways < ways := by
  unfold posL; have := atT_le l t
  split
  · omega
  · split <;> omega
theorem useL_len (l : List Ln) (t ways : Nat) (wr : Bool) (hw : 1 ≤ ways) (hl : l.length ≤ ways) : (useL l t ways wr).length ≤ ways := by
  simp only [useL, List.length_cons, List.length_append, List.length_take, List.length_drop, posL]
  split
  · omega
  · split <;> omega

/-! Two caches, one with more ways. -/
def tags (l : List Ln) : List Nat := l.map (·.1)
theorem tags_len (l : List Ln) : (tags l).length = l.length := by simp [tags]
theorem atT_idx (l : List Ln) (t : Nat) : atT l t = (tags l).idxOf t := by
  unfold atT tags
  induction l with
  | nil => rfl
  | cons a l ih => simp [List.findIdx_cons, List.idxOf_cons, ih]
theorem tags_use (l : List Ln) (t ways : Nat) (wr : Bool) : tags (useL l t ways wr) = t :: ((tags l).take (posL l t ways) ++ (tags l).drop (posL l t ways + 1)) := by
  simp [useL, tags]
theorem idxOf_take (T : List Nat) (t n : Nat) : (T.take n).idxOf t = min (T.idxOf t) (min n T.length) := by
  induction T generalizing n with
  | nil => simp
  | cons a T ih =>
    cases n with
    | zero => simp
    | succ n =>
      simp only [List.take_succ_cons, List.idxOf_cons, ih n, List.length_cons]
      by_cases h : a = t
      · simp [h]
      · have hb : (a == t) = false := by simpa using h
        simp only [hb, cond_false]; omega

theorem wider (N W : List Ln) (t n m : Nat) (wr wr' : Bool) (hn : 1 ≤ n) (hnm : n ≤ m) (hW : W.length ≤ m) (h : tags N = (tags W).take n) :
    tags (useL N t n wr) = (tags (useL W t m wr')).take n ∧ (hitL N t = true → hitL W t = true) := by
  have hl : N.length = min n W.length := by rw [← tags_len, h]; simp [tags_len]
  have hi : atT N t = min (atT W t) (min n W.length) := by rw [atT_idx, h, idxOf_take, ← atT_idx, tags_len]
  have hle := atT_le W t
  constructor
  · rw [tags_use, tags_use, h]
    obtain ⟨k, rfl⟩ : ∃ k, n = k + 1 := ⟨n - 1, by omega⟩
    rw [List.take_succ_cons]
    congr 1
    have hp : posL N t (k + 1) = min (posL W t m) k := by
      unfold posL
      rw [hi, hl]
      split <;> split <;> (try split) <;> (try split) <;> omega
    have hpW : posL W t m ≤ W.length := (posL_le W t m (by omega) hW).1
    rw [hp]
    apply List.ext_getElem?
    intro j
    simp only [List.getElem?_append, List.getElem?_take, List.getElem?_drop, List.length_take, tags_len]
    repeat' split
    all_goals (try rfl)
    all_goals (try omega)
    all_goals (try (congr 1; omega))
    all_goals (try (symm; apply List.getElem?_eq_none; rw [tags_len]; omega))
    all_goals (try (apply List.getElem?_eq_none; rw [tags_len]; omega))
  · unfold hitL
    simp only [decide_eq_true_eq]
    omega

/-! No tag twice. -/
structure Good (l : List Ln) (ways : Nat) : Prop where
  nd : (tags l).Nodup
  le : l.length ≤ ways

theorem not_mem_erase (T : List Nat) (i : Nat) (h : i < T.length) (hn : T.Nodup) : T[i] ∉ T.take i ++ T.drop (i + 1) := by
  rw [← List.take_append_drop i T] at hn
  have h3 := (List.nodup_append.1 hn)
  have e : T.drop i = T[i] :: T.drop (i + 1) := by rw [← List.drop_eq_getElem_cons h]
  rw [e] at h3
  intro hm
  rcases List.mem_append.1 hm with h1 | h1
  · exact h3.2.2 _ h1 _ (List.mem_cons_self) rfl
  · have := (List.nodup_cons.1 h3.2.1).1
    exact this h1

theorem Good.use {l : List Ln} {ways : Nat} (h : Good l ways) (hw : 1 ≤ ways) (t : Nat) (wr : Bool) : Good (useL l t ways wr) ways := by
  refine ⟨?_, useL_len l t ways wr hw h.le⟩
  rw [tags_use, List.nodup_cons]
  constructor
  · by_cases hh : atT l t < l.length
    · have : posL l t ways = atT l t := by simp [posL, hh]
      rw [this]
      have h2 := not_mem_erase (tags l) (atT l t) (by rw [tags_len]; exact hh) h.nd
      have h3 : (tags l)[atT l t]'(by rw [tags_len]; exact hh) = t := by simp [tags, atT_get l t hh]
      rw [h3] at h2
      exact h2
    · have hn := atT_none_iff l t hh
      intro hm
      have : t ∈ tags l := by
        rcases List.mem_append.1 hm with h1 | h1
        · exact List.mem_of_mem_take h1
        · exact List.mem_of_mem_drop h1
      obtain ⟨x, hx, rfl⟩ := List.mem_map.1 this
      exact hn x hx rfl
  · rw [← List.eraseIdx_eq_take_drop_succ]
    exact List.Nodup.sublist (List.eraseIdx_sublist ..) h.nd

theorem useL_mem {l : List Ln} {t ways : Nat} {wr : Bool} {x : Nat} (h : x ∈ tags (useL l t ways wr)) : x = t ∨ x ∈ tags l := by
  rw [tags_use] at h
  rcases List.mem_cons.1 h with rfl | h
  · exact .inl rfl
  · rcases List.mem_append.1 h with h1 | h1
    · exact .inr (List.mem_of_mem_take h1)
    · exact .inr (List.mem_of_mem_drop h1)
end Go.Proofs.Ytppcfofkneaigaa
