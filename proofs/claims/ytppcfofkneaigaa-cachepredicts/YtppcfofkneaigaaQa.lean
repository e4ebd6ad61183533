import Derived.Test.YtppcfofkneaigaaLo
import Derived.Test.YtppcfofkneaigaaPd
namespace Go.Proofs.Ytppcfofkneaigaa
set_option linter.unusedVariables false

/-! The document's way: the lines ahead of a use, the last one first. -/
/-- The tags of a set's uses, the last one first. -/
def tagsAhead (sets line : Nat) (F : Nat → Nat × Bool) (s : Nat) : Nat → List Nat
  | 0 => []
  | n + 1 => if setOf sets line (F n).1 = s then tagOf sets line (F n).1 :: tagsAhead sets line F s n else tagsAhead sets line F s n
theorem run_tags {sets ways line : Nat} (hw : 1 ≤ ways) (F : Nat → Nat × Bool) : ∀ n s, tags (runS sets ways line (fun _ => []) F n s) = (dedF [] (tagsAhead sets line F s n)).take ways
  | 0, s => by simp [runS, tags, tagsAhead, dedF]
  | n + 1, s => by
    have ih := run_tags (sets := sets) (line := line) hw F n s
    simp only [runS, accS, setS, tagsAhead]
    by_cases e : s = setOf sets line (F n).1
    · subst e
      rw [if_pos rfl, if_pos rfl]
      exact lru_step _ _ _ _ _ hw ih
    · rw [if_neg e, if_neg (fun h => e h.symm)]
      exact ih

/-- From use k back: the other lines of a line's set, each once, up to that line itself; was it met? -/
def oth (sets line : Nat) (F : Nat → Nat × Bool) (own : Nat) : Nat → List Nat → List Nat × Bool
  | 0, acc => (acc, false)
  | k + 1, acc => if (F k).1 / line = own then (acc, true) else if (F k).1 / line % sets ≠ own % sets ∨ (F k).1 / line ∈ acc then oth sets line F own k acc else oth sets line F own k (acc ++ [(F k).1 / line])

theorem own_mod {sets s t : Nat} (hs : s < sets) : (t * sets + s) % sets = s := by rw [Nat.mul_comm, Nat.mul_add_mod, Nat.mod_eq_of_lt hs]
theorem own_div {sets s t : Nat} (hs : s < sets) : (t * sets + s) / sets = t := by rw [Nat.mul_comm, Nat.mul_add_div (by omega), Nat.div_eq_of_lt hs, Nat.add_zero]

theorem oth_ded {sets line : Nat} (F : Nat → Nat × Bool) {s t : Nat} (hs : s < sets) : ∀ (k : Nat) (A : List Nat), t ∉ A →
    oth sets line F (t * sets + s) k (A.map fun x => x * sets + s) = ((((dedF A (tagsAhead sets line F s k)).take ((dedF A (tagsAhead sets line F s k)).idxOf t)).map fun x => x * sets + s), decide (t ∈ dedF A (tagsAhead sets line F s k)))
  | 0, A, hA => by
    simp only [oth, tagsAhead, dedF]
    rw [List.idxOf_eq_length hA, List.take_length]
    simp [hA]
  | k + 1, A, hA => by
    obtain ⟨R, hR⟩ : ∃ R, R = tagsAhead sets line F s (k + 1) := ⟨_, rfl⟩
    rw [← hR]
    simp only [oth]
    obtain ⟨n, hn⟩ : ∃ n, n = (F k).1 / line := ⟨_, rfl⟩
    have hR : R = if n % sets = s then n / sets :: tagsAhead sets line F s k else tagsAhead sets line F s k := by rw [hR, hn]; rfl
    rw [← hn, own_mod hs]
    have e := Nat.div_add_mod' n sets
    by_cases h1 : n = t * sets + s
    · have e1 : n % sets = s := by rw [h1, own_mod hs]
      have e2 : n / sets = t := by rw [h1, own_div hs]
      rw [if_pos e1, e2] at hR
      subst hR
      rw [if_pos h1, dedF, if_neg hA]
      obtain ⟨b, hb⟩ := dedF_pre (tagsAhead sets line F s k) (A ++ [t])
      have hb' : dedF (A ++ [t]) (tagsAhead sets line F s k) = A ++ t :: b := by rw [hb]; simp
      rw [hb', idx_app t b A hA]
      simp
    · rw [if_neg h1]
      by_cases h2 : n % sets = s
      · have h3 : n / sets ≠ t := fun h => h1 (by rw [← e, h, h2])
        have hm : n ∈ (A.map fun x => x * sets + s) ↔ n / sets ∈ A := by
          constructor
          · intro h
            obtain ⟨x, hx, rfl⟩ := List.mem_map.1 h
            rw [own_div hs]; exact hx
          · intro h
            exact List.mem_map.2 ⟨_, h, by rw [← h2]; exact e⟩
        rw [if_pos h2] at hR
        by_cases h4 : n / sets ∈ A
        · have e5 : dedF A R = dedF A (tagsAhead sets line F s k) := by rw [hR, dedF, if_pos h4]
          rw [e5, if_pos (.inr (hm.2 h4))]
          exact oth_ded F hs k A hA
        · have e5 : dedF A R = dedF (A ++ [n / sets]) (tagsAhead sets line F s k) := by rw [hR, dedF, if_neg h4]
          rw [e5, if_neg (by rw [hm]; rintro (h | h); exact h h2; exact h4 h)]
          have := oth_ded (line := line) (t := t) F hs k (A ++ [n / sets]) (by simp; exact ⟨hA, fun h => h3 h.symm⟩)
          rw [← this]
          congr 1
          rw [List.map_append]
          congr 1
          simp
          rw [← h2]; exact e.symm
      · rw [if_neg h2] at hR
        subst hR
        rw [if_pos (.inl h2)]
        exact oth_ded F hs k A hA

/-- Is a use a hit? -/
def nearD (sets ways line : Nat) (F : Nat → Nat × Bool) (i : Nat) : Bool :=
  (oth sets line F ((F i).1 / line) i []).2 && decide ((oth sets line F ((F i).1 / line) i []).1.length < ways)
/-- From use k back: was a line written since it came? -/
def losD (sets ways line : Nat) (F : Nat → Nat × Bool) (gone : Nat) : Nat → Bool
  | 0 => false
  | k + 1 => if (F k).1 / line = gone then ((F k).2 || (nearD sets ways line F k && losD sets ways line F gone k)) else losD sets ways line F gone k
/-- Does a use have a dirty line go? -/
def losesD (sets ways line : Nat) (F : Nat → Nat × Bool) (i : Nat) : Bool :=
  decide (ways ≤ (oth sets line F ((F i).1 / line) i []).1.length) && losD sets ways line F ((oth sets line F ((F i).1 / line) i []).1.getD (ways - 1) 0) i
def lastD (sets ways line : Nat) (F : Nat → Nat × Bool) (i : Nat) : Bool × Bool :=
  (nearD sets ways line F i, !nearD sets ways line F i && losesD sets ways line F i)

theorem oth_own {sets line : Nat} (F : Nat → Nat × Bool) (hs : 1 ≤ sets) (i : Nat) {D : List Nat} (hD : dedF [] (tagsAhead sets line F (setOf sets line (F i).1) i) = D) :
    oth sets line F ((F i).1 / line) i [] = (((D.take (D.idxOf (tagOf sets line (F i).1))).map fun x => x * sets + setOf sets line (F i).1), decide (tagOf sets line (F i).1 ∈ D)) := by
  have h := oth_ded (line := line) (s := setOf sets line (F i).1) (t := tagOf sets line (F i).1) F (Nat.mod_lt _ hs) i [] (by simp)
  rw [hD] at h
  rw [← h]
  simp only [List.map_nil]
  congr 1
  exact (Nat.div_add_mod' _ _).symm

theorem near_hit {sets ways line : Nat} (F : Nat → Nat × Bool) (hs : 1 ≤ sets) (hw : 1 ≤ ways) (i : Nat) : nearD sets ways line F i = hitA sets line (runS sets ways line (fun _ => []) F i) (F i).1 := by
  unfold nearD hitA hitL
  obtain ⟨D, hD⟩ : ∃ D, dedF [] (tagsAhead sets line F (setOf sets line (F i).1) i) = D := ⟨_, rfl⟩
  have hr := run_tags (sets := sets) (line := line) hw F i (setOf sets line (F i).1)
  rw [oth_own F hs i hD, atT_idx, ← tags_len, hr, hD, idxOf_take]
  have h1 := List.idxOf_le_length (a := tagOf sets line (F i).1) (l := D)
  have h2 := List.idxOf_lt_length_iff (a := tagOf sets line (F i).1) (l := D)
  simp only [List.length_map, List.length_take]
  by_cases hm : tagOf sets line (F i).1 ∈ D
  · have h3 := h2.2 hm
    rw [decide_eq_true hm, Bool.true_and, decide_eq_decide]
    omega
  · have h3 : ¬ D.idxOf (tagOf sets line (F i).1) < D.length := fun h => hm (h2.1 h)
    rw [decide_eq_false hm, Bool.false_and, eq_comm, decide_eq_false_iff_not]
    omega

theorem los_dirty {sets ways line : Nat} (F : Nat → Nat × Bool) (hs : 1 ≤ sets) (hw : 1 ≤ ways) : ∀ (n s : Nat) (x : Ln), s < sets → x ∈ runS sets ways line (fun _ => []) F n s → losD sets ways line F (x.1 * sets + s) n = x.2
  | 0, s, x, hss, hx => by simp [runS] at hx
  | n + 1, s, x, hss, hx => by
    have hg : ∀ k, Good (runS sets ways line (fun _ => []) F n k) ways := Good.run (fun k => ⟨by simp [tags], by simp⟩) hw F n
    have e := Nat.div_add_mod' ((F n).1 / line) sets
    simp only [losD]
    simp only [runS, accS, setS] at hx
    by_cases e1 : s = setOf sets line (F n).1
    · rw [if_pos e1] at hx
      have ee : (F n).1 / line = tagOf sets line (F n).1 * sets + s := by rw [e1]; exact e.symm
      rw [← e1] at hx
      have hn := near_hit (line := line) F hs hw n
      unfold hitA at hn
      rw [← e1] at hn
      unfold useL at hx
      rcases List.mem_cons.1 hx with rfl | hx
      · simp only
        rw [if_pos ee, hn]
        unfold drtL
        by_cases hh : hitL (runS sets ways line (fun _ => []) F n s) (tagOf sets line (F n).1) = true
        · rw [hh]
          have hl : atT (runS sets ways line (fun _ => []) F n s) (tagOf sets line (F n).1) < (runS sets ways line (fun _ => []) F n s).length := of_decide_eq_true hh
          have ih := los_dirty (line := line) F hs hw n s _ hss (List.getElem_mem hl)
          rw [atT_get _ _ hl] at ih
          rw [ih]
          simp [List.getD_eq_getElem?_getD, hl, Bool.or_comm]
        · have hh' : hitL (runS sets ways line (fun _ => []) F n s) (tagOf sets line (F n).1) = false := by simpa using hh
          rw [hh']; simp
      · have hne : x.1 ≠ tagOf sets line (F n).1 := by
          have hg2 := ((hg s).use hw (tagOf sets line (F n).1) (F n).2).nd
          rw [tags_use] at hg2
          have := (List.nodup_cons.1 hg2).1
          intro e1
          apply this
          have : tagOf sets line (F n).1 ∈ tags ((runS sets ways line (fun _ => []) F n s).take (posL (runS sets ways line (fun _ => []) F n s) (tagOf sets line (F n).1) ways) ++ (runS sets ways line (fun _ => []) F n s).drop (posL (runS sets ways line (fun _ => []) F n s) (tagOf sets line (F n).1) ways + 1)) := List.mem_map.2 ⟨x, hx, e1⟩
          simpa [tags] using this
        rw [if_neg]
        · refine los_dirty F hs hw n s x hss ?_
          rcases List.mem_append.1 hx with h1 | h1
          · exact List.mem_of_mem_take h1
          · exact List.mem_of_mem_drop h1
        · rw [ee]
          intro h
          have h2 : tagOf sets line (F n).1 * sets = x.1 * sets := by omega
          exact hne (Nat.eq_of_mul_eq_mul_right (by omega) h2).symm
    · rw [if_neg e1] at hx
      rw [if_neg]
      · exact los_dirty F hs hw n s x hss hx
      · intro h
        apply e1
        show s = (F n).1 / line % sets
        rw [h, own_mod hss]

/-- The document's answer is what the cache comes to. -/
theorem last_tch {sets ways line : Nat} (F : Nat → Nat × Bool) (hs : 1 ≤ sets) (hw : 1 ≤ ways) (i : Nat) : lastD sets ways line F i = tch sets ways line (fun _ => []) F i := by
  have hn := near_hit (line := line) F hs hw i
  unfold lastD tch
  rw [hn]
  unfold backA backL hitA
  congr 1
  by_cases hh : hitL (runS sets ways line (fun _ => []) F i (setOf sets line (F i).1)) (tagOf sets line (F i).1) = true
  · rw [hh]; simp
  · have hh' : hitL (runS sets ways line (fun _ => []) F i (setOf sets line (F i).1)) (tagOf sets line (F i).1) = false := by simpa using hh
    rw [hh']
    simp only [Bool.not_false, Bool.true_and]
    unfold hitL at hh'
    have hh' := of_decide_eq_false hh'
    obtain ⟨D, hD⟩ : ∃ D, dedF [] (tagsAhead sets line F (setOf sets line (F i).1) i) = D := ⟨_, rfl⟩
    have hr := run_tags (sets := sets) (line := line) hw F i (setOf sets line (F i).1)
    have hlen : (runS sets ways line (fun _ => []) F i (setOf sets line (F i).1)).length = min ways D.length := by rw [← tags_len, hr, hD]; simp
    rw [hlen, atT_idx, hr, hD, idxOf_take] at hh'
    have h1 := List.idxOf_le_length (a := tagOf sets line (F i).1) (l := D)
    unfold losesD
    rw [oth_own F hs i hD, hlen]
    simp only [List.length_map, List.length_take]
    by_cases hD2 : D.length < ways
    · rw [decide_eq_false (by omega), decide_eq_false (by omega)]
      simp
    · rw [decide_eq_true (by omega), decide_eq_true (by omega)]
      simp only [Bool.true_and]
      have hl : ways - 1 < (runS sets ways line (fun _ => []) F i (setOf sets line (F i).1)).length := by omega
      have hx := los_dirty (line := line) F hs hw i (setOf sets line (F i).1) _ (Nat.mod_lt _ hs) (List.getElem_mem hl)
      have ht : ((runS sets ways line (fun _ => []) F i (setOf sets line (F i).1))[ways - 1]).1 = D[ways - 1]'(by omega) := by
        have h3 : (tags (runS sets ways line (fun _ => []) F i (setOf sets line (F i).1)))[ways - 1]'(by rw [tags_len]; exact hl) = D[ways - 1]'(by omega) := by
          simp only [hr, hD, List.getElem_take]
        simpa [tags] using h3
      rw [ht] at hx
      rw [List.getD_eq_getElem?_getD, List.getElem?_map, List.getElem?_take, if_pos (by omega), List.getElem?_eq_getElem (by omega)]
      simp only [Option.map_some, Option.getD_some]
      rw [hx, List.getD_eq_getElem?_getD, List.getElem?_eq_getElem hl]
      rfl
end Go.Proofs.Ytppcfofkneaigaa
