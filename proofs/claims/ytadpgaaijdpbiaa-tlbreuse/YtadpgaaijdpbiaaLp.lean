import Derived.Test.YtadpgaaijdpbiaaTt
namespace Go.Proofs.Ytadpgaaijdpbiaa
open Go.ChangeShapes Go.WideShapes Go.ChangeAt Go.RowKit Go.Shelf
set_option linter.unusedVariables false

theorem take_mv_found {last : List Tg} {n : Nat} {t : Tg} (hn : 1 ≤ n) (h : t ∈ last.take n) : (mv t last).take n = mv t (last.take n) := by
  obtain ⟨m, rfl⟩ : ∃ m, n = m + 1 := ⟨n - 1, by omega⟩
  unfold mv
  rw [List.take_succ_cons]
  congr 1
  have e : last.erase t = (last.take (m + 1)).erase t ++ last.drop (m + 1) := by
    conv => lhs; rw [← List.take_append_drop (m + 1) last]
    rw [List.erase_append_left _ h]
  have hl : ((last.take (m + 1)).erase t).length = min (m + 1) last.length - 1 := by
    rw [List.length_erase_of_mem h, List.length_take]
  rw [e]
  by_cases hc : m + 1 ≤ last.length
  · rw [List.take_append_of_le_length (by rw [hl]; omega), List.take_of_length_le (by rw [hl]; omega)]
  · rw [List.drop_eq_nil_of_le (by omega), List.append_nil, List.take_of_length_le (by rw [hl]; omega)]
theorem take_erase_new {last : List Tg} {m : Nat} {t : Tg} (h : t ∉ last.take (m + 1)) : (last.erase t).take m = last.take m := by
  have e : last.erase t = last.take (m + 1) ++ (last.drop (m + 1)).erase t := by
    conv => lhs; rw [← List.take_append_drop (m + 1) last]
    rw [List.erase_append_right _ h]
  rw [e]
  by_cases hc : m + 1 ≤ last.length
  · rw [List.take_append_of_le_length (by rw [List.length_take]; omega), List.take_take, Nat.min_eq_left (by omega)]
  · rw [List.drop_eq_nil_of_le (by omega), List.erase_nil, List.append_nil, List.take_take, Nat.min_eq_left (by omega)]
theorem filter_last {l : List Tg} (hnd : l.Nodup) (hne : l ≠ []) : l.filter (fun t => !decide (t = l.getLast?.getD (0, 0))) = l.dropLast := by
  have e := List.dropLast_concat_getLast hne
  have e2 : l.getLast?.getD (0, 0) = l.getLast hne := by rw [List.getLast?_eq_some_getLast hne]; rfl
  rw [e2]
  generalize l.getLast hne = x at *
  generalize l.dropLast = d at *
  subst e
  rw [List.filter_append]
  have hx : x ∉ d := by
    have := List.nodup_append.1 hnd
    intro h
    exact this.2.2 x h x (by simp) rfl
  rw [List.filter_eq_self.2 (fun t ht => by
    have : t ≠ x := fun h => hx (h ▸ ht)
    simp [this])]
  simp
theorem put_new {s : Sta} {n : Nat} (hok : s.Ok n) (hn : 1 ≤ n) {last : List Tg} (hl : s.l = last.take n) {t : Tg} (ht : TOk t) (hnf : t ∉ last.take n) (m : Mp) : (s.put n t m).l = (mv t last).take n := by
  obtain ⟨k, rfl⟩ : ∃ k, n = k + 1 := ⟨n - 1, by omega⟩
  have hfn : (s.f t).isSome = false := by
    cases h : (s.f t).isSome
    · rfl
    · exact absurd ((hok.mem t ht).2 h) (by rw [hl]; exact hnf)
  have e1 : (mv t last).take (k + 1) = t :: last.take k := by
    unfold mv
    rw [List.take_succ_cons, take_erase_new hnf]
  rw [e1]
  show mv t (s.room (k + 1) t).l = _
  unfold Sta.room
  by_cases hlt : s.l.length < k + 1
  · rw [if_pos (by simp [hlt])]
    have hlen : last.length ≤ k := by rw [hl, List.length_take] at hlt; omega
    have e2 : s.l = last := by rw [hl, List.take_of_length_le (by omega)]
    rw [e2, List.take_of_length_le hlen]
    unfold mv
    rw [List.erase_of_not_mem (by rw [← e2, hl]; exact hnf)]
  · rw [if_neg (by simp [hfn, hlt])]
    show mv t (s.l.filter fun x => !decide (x = s.l.getLast?.getD (0, 0))) = _
    have hne : s.l ≠ [] := by intro e; rw [e] at hlt; simp at hlt
    rw [filter_last hok.nd hne, hl]
    have hlen : k + 1 ≤ last.length := by rw [hl, List.length_take] at hlt; omega
    rw [List.dropLast_eq_take, List.length_take, List.take_take, Nat.min_eq_left hlen, show min (k + 1 - 1) (k + 1) = k by omega]
    unfold mv
    rw [List.erase_of_not_mem (fun h => hnf (List.take_subset_take_left _ (by omega) h))]
theorem look_found {s : Sta} {n : Nat} (hok : s.Ok n) (hn : 1 ≤ n) {last : List Tg} (hl : s.l = last.take n) {t : Tg} (ht : TOk t) (hf : t ∈ last.take n) : (s.look t).l = (mv t last).take n := by
  unfold Sta.look
  rw [if_pos ((hok.mem t ht).1 (by rw [hl]; exact hf))]
  show mv t s.l = _
  rw [hl, take_mv_found hn hf]
theorem look_none {s : Sta} {n : Nat} (hok : s.Ok n) {last : List Tg} (hl : s.l = last.take n) {t : Tg} (ht : TOk t) (hf : t ∉ last.take n) : s.look t = s := by
  unfold Sta.look
  rw [if_neg (fun h => hf (by rw [← hl]; exact (hok.mem t ht).2 h))]

/-- Where the first use of a tag stands, or how many there are. -/
structure AtOf (t : Tg) (last : List Tg) (k : Nat) : Prop where
  le : k ≤ last.length
  ne : ∀ j (h : j < last.length), j < k → last[j] ≠ t
theorem AtOf.stop {t : Tg} {last : List Tg} {k : Nat} (h : AtOf t last k) (hk : k = last.length ∨ ∃ h : k < last.length, last[k] = t) : last.eraseIdx k = last.erase t ∧ ∀ n, (decide (k < last.length) && decide (k < n)) = decide (t ∈ last.take n) := by
  rcases hk with rfl | ⟨hk, e⟩
  · have hn : t ∉ last := fun hm => by
      obtain ⟨j, hj, e⟩ := List.mem_iff_getElem.1 hm
      exact h.ne j hj hj e
    refine ⟨by rw [List.erase_of_not_mem hn, List.eraseIdx_of_length_le (Nat.le_refl _)], fun n => ?_⟩
    have : t ∉ last.take n := fun hm => hn (List.mem_of_mem_take hm)
    simp [this]
  · have hi : last.idxOf t = k := by
      have hm : t ∈ last := by rw [← e]; exact List.getElem_mem hk
      have h1 : last.idxOf t < last.length := List.idxOf_lt_length_iff.2 hm
      have h2 : last[last.idxOf t] = t := List.getElem_idxOf _
      rcases Nat.lt_trichotomy (last.idxOf t) k with h3 | h3 | h3
      · exact absurd h2 (h.ne _ h1 h3)
      · exact h3
      · have := List.not_of_lt_findIdx (p := fun x => x == t) (xs := last) (i := k) (by simpa [List.idxOf] using h3)
        simp [e] at this
    refine ⟨by rw [List.erase_eq_eraseIdx_of_idxOf hi], fun n => ?_⟩
    have : (t ∈ last.take n) ↔ k < n := by
      constructor
      · intro hm
        obtain ⟨j, hj, e'⟩ := List.mem_iff_getElem.1 hm
        rw [List.length_take] at hj
        rw [List.getElem_take] at e'
        rcases Nat.lt_or_ge j k with h3 | h3
        · exact absurd e' (h.ne j (by omega) h3)
        · omega
      · intro hkn
        rw [List.mem_iff_getElem]
        exact ⟨k, by rw [List.length_take]; omega, by rw [List.getElem_take]; exact e⟩
    simp [hk, this]
theorem erase_take_succ (l : List Tg) (a k : Nat) (hk : k < l.length) : (l.take (k + 1)).eraseIdx a = if k = a then (l.take k).eraseIdx a else (l.take k).eraseIdx a ++ [l[k]] := by
  rw [take_snoc' l k hk]
  have hlen : (l.take k).length = k := by rw [List.length_take]; omega
  by_cases h1 : k = a
  · rw [if_pos h1, List.eraseIdx_append_of_length_le (by omega), List.eraseIdx_of_length_le (l := l.take k) (by omega), hlen, show a - k = 0 by omega]
    simp
  · rw [if_neg h1]
    by_cases h2 : a < k
    · rw [List.eraseIdx_append_of_lt_length (by omega)]
    · rw [List.eraseIdx_append_of_length_le (by omega), List.eraseIdx_of_length_le (l := l.take k) (by omega), hlen]
      rw [List.eraseIdx_of_length_le (by simp; omega)]
end Go.Proofs.Ytadpgaaijdpbiaa
