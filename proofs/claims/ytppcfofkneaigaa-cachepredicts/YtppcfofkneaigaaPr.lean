import Derived.Test.YtppcfofkneaigaaUd
namespace Go.Proofs.Ytppcfofkneaigaa
set_option linter.unusedVariables false

/-! Predict: the uses of a set, the last one first, and the lines among them. -/
def dedF : List Nat → List Nat → List Nat
  | acc, [] => acc
  | acc, x :: r => if x ∈ acc then dedF acc r else dedF (acc ++ [x]) r
theorem dedF_pre : ∀ (r acc : List Nat), ∃ b, dedF acc r = acc ++ b
  | [], acc => ⟨[], by simp [dedF]⟩
  | x :: r, acc => by
    unfold dedF
    split
    · exact dedF_pre r acc
    · obtain ⟨b, hb⟩ := dedF_pre r (acc ++ [x])
      exact ⟨x :: b, by rw [hb]; simp⟩
theorem dedF_nodup : ∀ (r acc : List Nat), acc.Nodup → (dedF acc r).Nodup
  | [], acc, h => h
  | x :: r, acc, h => by
    unfold dedF
    split
    · exact dedF_nodup r acc h
    · rename_i hx
      refine dedF_nodup r _ (List.nodup_append.2 ⟨h, by simp, ?_⟩)
      intro a ha b hb
      simp at hb; subst hb
      rintro rfl; exact hx ha
theorem dedF_mem : ∀ (r acc : List Nat) (x : Nat), x ∈ dedF acc r ↔ x ∈ acc ∨ x ∈ r
  | [], acc, x => by simp [dedF]
  | y :: r, acc, x => by
    unfold dedF
    split
    · rename_i hy
      rw [dedF_mem r acc x]
      constructor
      · rintro (h | h)
        · exact .inl h
        · exact .inr (by simp [h])
      · rintro (h | h)
        · exact .inl h
        · rcases List.mem_cons.1 h with rfl | h
          · exact .inl hy
          · exact .inr h
    · rw [dedF_mem r _ x]
      simp only [List.mem_append, List.mem_cons, or_assoc]
      simp
theorem dedF_cons (x : Nat) : ∀ (r acc : List Nat), dedF (x :: acc.filter (· ≠ x)) r = x :: (dedF acc r).filter (· ≠ x)
  | [], acc => by simp [dedF]
  | y :: r, acc => by
    by_cases e : y = x
    · subst e
      rw [dedF, if_pos (by simp), dedF]
      split
      · exact dedF_cons y r acc
      · have := dedF_cons y r (acc ++ [y])
        rw [← this]
        simp
    · rw [dedF]
      conv => rhs; rw [dedF]
      by_cases h : y ∈ acc
      · rw [if_pos (by simp [e, h]), if_pos h]
        exact dedF_cons x r acc
      · rw [if_neg (by simp [e, h]), if_neg h]
        have := dedF_cons x r (acc ++ [y])
        rw [← this]
        simp [e]
theorem dedF_head (x : Nat) (r : List Nat) : dedF [] (x :: r) = x :: (dedF [] r).filter (· ≠ x) := by
  have := dedF_cons x r []
  rw [dedF, if_neg (by simp)]
  simpa using this

theorem filter_idx (T : List Nat) (t : Nat) (hn : T.Nodup) : T.take (T.idxOf t) ++ T.drop (T.idxOf t + 1) = T.filter (· ≠ t) := by
  induction T with
  | nil => simp
  | cons a T ih =>
    have h2 := List.nodup_cons.1 hn
    by_cases e : a = t
    · subst e
      simp
      symm
      exact List.filter_eq_self.2 (fun y hy => by simp; rintro rfl; exact h2.1 hy)
    · have hb : (a == t) = false := by simpa using e
      simp only [List.idxOf_cons, hb, cond_false, List.take_succ_cons, List.drop_succ_cons, List.cons_append]
      rw [ih h2.2]
      simp [e]

/-- A set's lines are the first ones among its uses. -/
theorem lru_step (N : List Ln) (C : List Nat) (t n : Nat) (wr : Bool) (hn : 1 ≤ n) (h : tags N = (dedF [] C).take n) : tags (useL N t n wr) = (dedF [] (t :: C)).take n := by
  have hnd := dedF_nodup C [] (by simp)
  generalize hD : dedF [] C = D at *
  obtain ⟨W, hW⟩ : ∃ W : List Ln, W = D.map (fun x => (x, false)) := ⟨_, rfl⟩
  have ht : tags W = D := by
    rw [hW]; unfold tags; rw [List.map_map]
    exact (List.map_congr_left (g := id) (fun _ _ => rfl)).trans (List.map_id D)
  have hl : W.length = D.length := by rw [hW]; simp
  have hm : W.length ≤ max n (D.length + 1) := by omega
  have := (wider N W t n (max n (D.length + 1)) wr false hn (by omega) hm (by rw [ht]; exact h)).1
  rw [this, dedF_head, hD, tags_use, ht]
  congr 2
  have hp : posL W t (max n (D.length + 1)) = D.idxOf t := by
    unfold posL
    rw [atT_idx, ht, hl]
    have := List.idxOf_le_length (a := t) (l := D)
    split
    · rfl
    · rw [if_pos (by omega)]; omega
  rw [hp]
  exact filter_idx D t hnd

/-- From a use of a set back: the tags; 'since' is where the tag t is met first (0: nowhere). -/
inductive Seg (ut ua : Nat → Nat) (n t since : Nat) : Nat → List Nat → Prop
  | nil : since = 0 → Seg ut ua n t since 0 []
  | here (r : List Nat) : 0 < since → since < n → ut since = t → Seg ut ua n t since since (t :: r)
  | next (x : Nat) (r : List Nat) : 0 < x → x < n → x ≠ since → ut x ≠ t → ua x < x → Seg ut ua n t since (ua x) r → Seg ut ua n t since x (ut x :: r)

theorem Seg.lt {ut ua : Nat → Nat} {n t since x : Nat} {r : List Nat} (h : Seg ut ua n t since x r) (hn : 0 < n) : x < n := by
  cases h <;> omega
theorem Seg.mono {ut ua ut' ua' : Nat → Nat} {n n' t since x : Nat} {r : List Nat} (h : Seg ut ua n t since x r) (hn : n ≤ n') (h1 : ∀ i, i < n → ut' i = ut i) (h2 : ∀ i, i < n → ua' i = ua i) : Seg ut' ua' n' t since x r := by
  induction h with
  | nil h => exact .nil h
  | here r ha hb hc => exact .here r ha (by omega) (by rw [h1 _ hb]; exact hc)
  | next x r ha hb hc hd he _ ih =>
    have := Seg.next (ut := ut') (ua := ua') (n := n') x r ha (by omega) hc (by rw [h1 _ hb]; exact hd) (by rw [h2 _ hb]; exact he) (by rw [h2 _ hb]; exact ih)
    rwa [h1 _ hb] at this

theorem idx_app (t : Nat) (b : List Nat) : ∀ acc : List Nat, t ∉ acc → (acc ++ t :: b).idxOf t = acc.length
  | [], _ => by simp
  | a :: acc, h => by
    have h1 : a ≠ t := fun e => h (by simp [e])
    have hb : (a == t) = false := by simpa using h1
    have := idx_app t b acc (fun hm => h (by simp [hm]))
    simp only [List.cons_append, List.idxOf_cons, hb, cond_false, List.length_cons, this]

theorem others_end {ut ua : Nat → Nat} {n t since x ways : Nat} {r acc D : List Nat} (h : Seg ut ua n t since x r) (hD : dedF acc r = D) (ht : t ∉ acc) (hl : acc.length ≤ ways) (he : x = since ∨ acc.length = ways) : acc = (D.take ways).take ((D.take ways).idxOf t) := by
  have key : ∀ b, D = acc ++ b → acc.length = ways → acc = (D.take ways).take ((D.take ways).idxOf t) := by
    intro b hb hw
    have e : D.take ways = acc := by rw [hb, ← hw]; simp
    rw [e, List.idxOf_eq_length ht, List.take_length]
  by_cases hw : acc.length = ways
  · obtain ⟨b, hb⟩ := dedF_pre r acc
    exact key b (by rw [← hD, hb]) hw
  · have hx : x = since := he.resolve_right hw
    cases h with
    | nil h0 =>
      have e : D = acc := by rw [← hD]; rfl
      have e2 : D.take ways = acc := by rw [e]; exact List.take_of_length_le hl
      rw [e2, List.idxOf_eq_length ht, List.take_length]
    | here r' ha hb hc =>
      rw [dedF, if_neg ht] at hD
      obtain ⟨b, hb'⟩ := dedF_pre r' (acc ++ [t])
      have e : D = acc ++ t :: b := by rw [← hD, hb']; simp
      have e2 : D.take ways = acc ++ t :: (b.take (ways - acc.length - 1)) := by
        rw [e, List.take_append]
        rw [List.take_of_length_le hl]
        congr 1
        obtain ⟨k, hk⟩ : ∃ k, ways - acc.length = k + 1 := ⟨ways - acc.length - 1, by omega⟩
        rw [hk]; simp
      have e3 : (acc ++ t :: (b.take (ways - acc.length - 1))).idxOf t = acc.length := by
        exact idx_app _ _ _ ht
      rw [e2, e3]; simp
    | next x' r' ha hb hc => exact absurd hx hc

theorem others_next {ut ua : Nat → Nat} {n t since x : Nat} {r acc D : List Nat} (h : Seg ut ua n t since x r) (hD : dedF acc r = D) (ht : t ∉ acc) (hne : x ≠ since) :
    ∃ r', 0 < x ∧ x < n ∧ ua x < x ∧ Seg ut ua n t since (ua x) r' ∧ (if ut x ∈ acc then dedF acc r' = D else dedF (acc ++ [ut x]) r' = D ∧ t ∉ acc ++ [ut x]) := by
  cases h with
  | nil h0 => exact absurd h0.symm hne
  | here r' => exact absurd rfl hne
  | next x' r' ha hb hc hd he hs =>
    refine ⟨r', ha, hb, he, hs, ?_⟩
    rw [dedF] at hD
    split at hD
    · rename_i hm; rw [if_pos hm]; exact hD
    · rename_i hm
      rw [if_neg hm]
      refine ⟨hD, ?_⟩
      simp only [List.mem_append, List.mem_singleton, not_or]
      exact ⟨ht, fun e => hd e.symm⟩

/-- What Predict knows. -/
structure Pst where
  n : Nat
  ut : Nat → Nat
  ua : Nat → Nat
  la : Nat → Nat
  mp : Nat → Nat → Option (Nat × Bool)
def numO : Option (Nat × Bool) → Nat
  | none => 0
  | some x => x.1
def drtO : Option (Nat × Bool) → Bool
  | none => false
  | some x => x.2
def updN (f : Nat → Nat) (k v : Nat) : Nat → Nat := fun i => if i = k then v else f i
def Pst.step (p : Pst) (s t : Nat) (d : Bool) : Pst :=
  ⟨p.n + 1, updN p.ut p.n t, updN p.ua p.n (p.la s), updN p.la s p.n, fun a b => if a = s ∧ b = t then some (p.n, d) else p.mp a b⟩
structure PInv (ways : Nat) (st : Nat → List Ln) (p : Pst) : Prop where
  n0 : 0 < p.n
  nums : ∀ s t x, p.mp s t = some x → 0 < x.1 ∧ x.1 < p.n
  sets : ∀ s, ∃ C, tags (st s) = (dedF [] C).take ways ∧ (∀ t, Seg p.ut p.ua p.n t (numO (p.mp s t)) (p.la s) C) ∧ (∀ t, t ∈ C ↔ (p.mp s t).isSome = true)
  drt : ∀ s, ∀ x ∈ st s, ∃ k, p.mp s x.1 = some (k, x.2)

theorem PInv.first (ways : Nat) (p : Pst) (hn : p.n = 1) (hl : ∀ s, p.la s = 0) (hm : ∀ s t, p.mp s t = none) : PInv ways (fun _ => []) p :=
  ⟨by omega, fun s t x h => (by rw [hm] at h; cases h), fun s => ⟨[], by simp [tags, dedF], fun t => by rw [hl, hm]; exact .nil rfl, fun t => by rw [hm]; simp⟩, fun s x hx => by cases hx⟩

theorem PInv.step {sets ways line : Nat} {st : Nat → List Ln} {p : Pst} (h : PInv ways st p) (hw : 1 ≤ ways) (hg : ∀ k, Good (st k) ways) (a : Nat) (wr : Bool) (d : Bool)
    (hd : d = (wr || (hitA sets line st a && drtO (p.mp (setOf sets line a) (tagOf sets line a))))) : PInv ways (accS sets ways line st a wr) (p.step (setOf sets line a) (tagOf sets line a) d) := by
  unfold hitA at hd
  unfold accS
  generalize setOf sets line a = s0 at *
  generalize tagOf sets line a = t0 at *
  have hn := h.n0
  refine ⟨by simp [Pst.step], ?_, ?_, ?_⟩
  · intro s t x hx
    simp only [Pst.step] at hx ⊢
    split at hx
    · cases hx; simp; omega
    · have := h.nums s t x hx; omega
  · intro s
    obtain ⟨C, h1, h2, h3⟩ := h.sets s
    have hmono : ∀ t since, Seg p.ut p.ua p.n t since (p.la s) C → Seg (updN p.ut p.n t0) (updN p.ua p.n (p.la s0)) (p.n + 1) t since (p.la s) C := fun t since hs =>
      hs.mono (by omega) (fun i hi => by simp [updN]; omega) (fun i hi => by simp [updN]; omega)
    by_cases e : s = s0
    · subst e
      refine ⟨t0 :: C, ?_, ?_, ?_⟩
      · simp only [setS, if_true]
        exact lru_step (st s) C t0 ways wr hw h1
      · intro t
        simp only [Pst.step]
        have el : updN p.la s p.n s = p.n := by simp [updN]
        have eu : updN p.ut p.n t0 p.n = t0 := by simp [updN]
        have ea : updN p.ua p.n (p.la s) p.n = p.la s := by simp [updN]
        rw [el]
        by_cases et : t = t0
        · subst et
          simp only [true_and, if_true, numO]
          exact .here C hn (by omega) eu
        · rw [if_neg (by simp [et])]
          have hs := hmono t _ (h2 t)
          have hnum : numO (p.mp s t) ≠ p.n := by
            cases hq : p.mp s t with
            | none => simp [numO]; omega
            | some x => have := h.nums s t x hq; simp [numO]; omega
          have hla := (h2 t).lt hn
          have := Seg.next (ut := updN p.ut p.n t0) (ua := updN p.ua p.n (p.la s)) (n := p.n + 1) (t := t) (since := numO (p.mp s t)) p.n C hn (by omega) (fun e => hnum e.symm) (by rw [eu]; exact fun e => et e.symm) (by rw [ea]; exact hla) (by rw [ea]; exact hs)
          rwa [eu] at this
      · intro t
        simp only [Pst.step]
        by_cases et : t = t0
        · subst et; simp
        · rw [if_neg (by simp [et])]
          simp [et, h3 t]
    · refine ⟨C, ?_, ?_, ?_⟩
      · simp only [setS, if_neg e]; exact h1
      · intro t
        simp only [Pst.step]
        rw [if_neg (by simp [e])]
        have : updN p.la s0 p.n s = p.la s := by simp [updN, e]
        rw [this]
        exact hmono t _ (h2 t)
      · intro t
        simp only [Pst.step]
        rw [if_neg (by simp [e])]
        exact h3 t
  · intro s x hx
    simp only [Pst.step]
    by_cases e : s = s0
    · subst e
      simp only [setS, if_true] at hx
      unfold useL at hx
      rcases List.mem_cons.1 hx with rfl | hx
      · refine ⟨p.n, ?_⟩
        simp only [true_and, if_true]
        congr 2
        rw [hd]
        unfold drtL
        by_cases hh : atT (st s) t0 < (st s).length
        · have e1 : hitL (st s) t0 = true := by simp [hitL, hh]
          obtain ⟨k, hk⟩ := h.drt s _ (List.getElem_mem hh)
          rw [atT_get _ _ hh] at hk
          rw [e1, hk]
          simp [drtO, List.getD_eq_getElem?_getD, hh, Bool.or_comm]
        · have e1 : hitL (st s) t0 = false := by simp [hitL, hh]
          rw [e1]; simp
      · have hne : x.1 ≠ t0 := by
          have hg2 := ((hg s).use hw t0 wr).nd
          rw [tags_use] at hg2
          have := (List.nodup_cons.1 hg2).1
          intro e1
          apply this
          have : t0 ∈ tags ((st s).take (posL (st s) t0 ways) ++ (st s).drop (posL (st s) t0 ways + 1)) := List.mem_map.2 ⟨x, hx, e1⟩
          simpa [tags] using this
        rw [if_neg (by simp [hne])]
        refine h.drt s x ?_
        rcases List.mem_append.1 hx with h1 | h1
        · exact List.mem_of_mem_take h1
        · exact List.mem_of_mem_drop h1
    · simp only [setS, if_neg e] at hx
      rw [if_neg (by simp [e])]
      exact h.drt s x hx
end Go.Proofs.Ytppcfofkneaigaa
