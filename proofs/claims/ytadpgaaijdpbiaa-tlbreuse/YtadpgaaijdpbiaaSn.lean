import Derived.Test.YtadpgaaijdpbiaaLp
namespace Go.Proofs.Ytadpgaaijdpbiaa
open Go.ChangeShapes Go.WideShapes Go.ChangeAt Go.RowKit Go.Shelf
set_option linter.unusedVariables false

/-- One more unlike tag. -/
def add1 (acc : List Tg) (t : Tg) : List Tg := if t ∈ acc then acc else acc ++ [t]
theorem mem_add1 {acc : List Tg} {t y : Tg} : y ∈ add1 acc t ↔ y ∈ acc ∨ y = t := by
  unfold add1
  split
  · rename_i h
    exact ⟨fun h' => .inl h', fun h' => by rcases h' with h' | h'; exact h'; rw [h']; exact h⟩
  · simp
theorem nodup_add1 {acc : List Tg} {t : Tg} (h : acc.Nodup) : (add1 acc t).Nodup := by
  unfold add1
  split
  · exact h
  · rename_i hn
    rw [List.nodup_append]
    refine ⟨h, by simp, fun a ha b hb => ?_⟩
    simp at hb
    rw [hb]
    exact fun e => hn (e ▸ ha)
/-- What has gone since, of the latest first: the unlike tags used since a tag was, if it was neither dropped nor flushed since. -/
def sinceG (x : Tg) : List (Int × Int × Int) → List Tg → Option (List Tg)
  | [], _ => none
  | u :: r, acc =>
    if u.2.2 = 1 then none
    else if u.2.2 = 2 then (if (uTag u).1 = x.1 then none else sinceG x r acc)
    else if u.2.2 = 3 then (if uTag u = x then none else sinceG x r acc)
    else if uTag u = x then some acc
    else sinceG x r (add1 acc (uTag u))
theorem since_acc (x : Tg) : ∀ (h : List (Int × Int × Int)) (acc : List Tg), (sinceG x h [] = none → sinceG x h acc = none) ∧ ∀ A, sinceG x h [] = some A → ∃ A', sinceG x h acc = some A' ∧ ∀ y, y ∈ A' ↔ y ∈ acc ∨ y ∈ A
  | [], acc => ⟨fun _ => rfl, fun A h => by simp [sinceG] at h⟩
  | u :: r, acc => by
    unfold sinceG
    by_cases h1 : u.2.2 = 1
    · simp [h1]
    · simp only [h1, if_false]
      by_cases h2 : u.2.2 = 2
      · simp only [h2, if_true]
        by_cases h3 : (uTag u).1 = x.1
        · simp [h3]
        · simp only [h3, if_false]
          exact since_acc x r acc
      · simp only [h2, if_false]
        by_cases h3 : u.2.2 = 3
        · simp only [h3, if_true]
          by_cases h4 : uTag u = x
          · simp [h4]
          · simp only [h4, if_false]
            exact since_acc x r acc
        · simp only [h3, if_false]
          by_cases h4 : uTag u = x
          · simp [h4]
          · simp only [h4, if_false]
            have i1 := since_acc x r (add1 [] (uTag u))
            have i2 := since_acc x r (add1 acc (uTag u))
            cases hb : sinceG x r [] with
            | none => exact ⟨fun _ => i2.1 hb, fun A h => by rw [i1.1 hb] at h; cases h⟩
            | some A0 =>
              obtain ⟨B1, e1, m1⟩ := i1.2 A0 hb
              obtain ⟨B2, e2, m2⟩ := i2.2 A0 hb
              refine ⟨fun h => (by rw [e1] at h; cases h), fun A h => ⟨B2, e2, fun y => ?_⟩⟩
              rw [e1] at h
              cases h
              rw [m2, m1, mem_add1, mem_add1]
              simp only [List.not_mem_nil, false_or]
              constructor
              · rintro ((h | h) | h)
                · exact .inl h
                · exact .inr (.inl h)
                · exact .inr (.inr h)
              · rintro (h | h | h)
                · exact .inl (.inl h)
                · exact .inl (.inr h)
                · exact .inr h
theorem since_nodup (x : Tg) : ∀ (h : List (Int × Int × Int)) (acc : List Tg), acc.Nodup → ∀ A, sinceG x h acc = some A → A.Nodup
  | [], acc, _, A, h => by simp [sinceG] at h
  | u :: r, acc, hn, A, h => by
    unfold sinceG at h
    split at h
    · cases h
    · split at h
      · split at h
        · cases h
        · exact since_nodup x r acc hn A h
      · split at h
        · split at h
          · cases h
          · exact since_nodup x r acc hn A h
        · split at h
          · cases h; exact hn
          · exact since_nodup x r _ (nodup_add1 hn) A h
theorem since_self (x : Tg) : ∀ (h : List (Int × Int × Int)) (acc : List Tg), x ∉ acc → ∀ A, sinceG x h acc = some A → x ∉ A
  | [], acc, _, A, h => by simp [sinceG] at h
  | u :: r, acc, hn, A, h => by
    unfold sinceG at h
    split at h
    · cases h
    · split at h
      · split at h
        · cases h
        · exact since_self x r acc hn A h
      · split at h
        · split at h
          · cases h
          · exact since_self x r acc hn A h
        · split at h
          · cases h; exact hn
          · rename_i hne
            exact since_self x r _ (fun hm => by
              rcases mem_add1.1 hm with h' | h'
              · exact hn h'
              · exact hne h'.symm) A h
theorem nodup_sub_len : ∀ {l m : List Tg}, l.Nodup → (∀ y ∈ l, y ∈ m) → l.length ≤ m.length
  | [], m, _, _ => Nat.zero_le _
  | x :: l, m, hn, hs => by
    obtain ⟨h1, h2⟩ := List.nodup_cons.1 hn
    have hx := hs x (by simp)
    have := nodup_sub_len (m := m.erase x) h2 (fun y hy => (List.mem_erase_of_ne (fun e : y = x => h1 (by rw [← e]; exact hy))).2 (hs y (by simp [hy])))
    rw [List.length_erase_of_mem hx] at this
    have := List.length_pos_of_mem hx
    simp; omega

/-- Those ahead of a tag. -/
def ahd (x : Tg) (l : List Tg) : List Tg := l.takeWhile (fun y => !decide (y = x))
theorem ahd_filter (x : Tg) (q : Tg → Bool) (hq : q x = true) : ∀ l : List Tg, ahd x (l.filter q) = (ahd x l).filter q
  | [] => rfl
  | y :: l => by
    have ih := ahd_filter x q hq l
    unfold ahd at *
    by_cases hy : y = x
    · subst hy
      simp [hq]
    · cases hqy : q y
      · simp [hqy, hy, ih]
      · simp [hqy, hy, ih]
theorem ahd_cons_ne {x t : Tg} (h : t ≠ x) (l : List Tg) : ahd x (t :: l) = t :: ahd x l := by
  unfold ahd; simp [h]
theorem ahd_cons_self (x : Tg) (l : List Tg) : ahd x (x :: l) = [] := by
  unfold ahd; simp
theorem ahd_sub (x : Tg) (l : List Tg) : ∀ y ∈ ahd x l, y ∈ l := fun y hy => List.takeWhile_subset _ hy
theorem ahd_lt {x : Tg} : ∀ {l : List Tg}, x ∈ l → (ahd x l).length < l.length
  | y :: l, h => by
    by_cases hy : y = x
    · subst hy; rw [ahd_cons_self]; simp
    · rw [ahd_cons_ne hy]
      have := ahd_lt (x := x) (l := l) (by rcases List.mem_cons.1 h with e | e; exact absurd e.symm hy; exact e)
      simp; omega
theorem mv_eq_filter {t : Tg} {l : List Tg} (h : l.Nodup) : mv t l = t :: l.filter (fun y => decide (y ≠ t)) := by
  unfold mv
  rw [h.erase_eq_filter]
  congr 1
  apply List.filter_congr
  intro y _
  by_cases e : y = t <;> simp [e]
theorem ahd_last {l : List Tg} (hnd : l.Nodup) (hne : l ≠ []) : ahd (l.getLast?.getD (0, 0)) l = l.dropLast := by
  have e := List.dropLast_concat_getLast hne
  have e2 : l.getLast?.getD (0, 0) = l.getLast hne := by rw [List.getLast?_eq_some_getLast hne]; rfl
  rw [e2]
  generalize l.getLast hne = x at *
  generalize l.dropLast = d at *
  subst e
  have hx : ∀ y ∈ d, y ≠ x := fun y hy h => (List.nodup_append.1 hnd).2.2 y hy x (by simp) h
  unfold ahd
  rw [List.takeWhile_append_of_pos (fun y hy => by simp [hx y hy])]
  simp
end Go.Proofs.Ytadpgaaijdpbiaa
