import Derived.Test.YtppcfofkneaigabLo
namespace Go.Proofs.Ytppcfofkneaigab
set_option linter.unusedVariables false

/-! The document's cache: a list of lines, each with the moment of its last use. -/
abbrev HL := Nat × Nat × Bool
def inS (sets s : Nat) (e : HL) : Bool := decide (e.1 % sets = s)
def toH (sets s : Nat) (x : HL) : HL := (x.1 * sets + s, x.2.1, x.2.2)
def toL (x : HL) : Ln := (x.1, x.2.2)
def updS (su : Nat → List HL) (s : Nat) (l : List HL) : Nat → List HL := fun k => if k = s then l else su k

theorem own_mod {sets s t : Nat} (hs : s < sets) : (t * sets + s) % sets = s := by rw [Nat.mul_comm, Nat.mul_add_mod, Nat.mod_eq_of_lt hs]
theorem own_div {sets s t : Nat} (hs : s < sets) : (t * sets + s) / sets = t := by rw [Nat.mul_comm, Nat.mul_add_div (by omega), Nat.div_eq_of_lt hs, Nat.add_zero]
theorem toH_in {sets s : Nat} (hs : s < sets) (x : HL) : inS sets s (toH sets s x) = true := by simp [inS, toH, own_mod hs]
theorem toH_inj {sets s : Nat} (hs : s < sets) {x y : HL} (h : toH sets s x = toH sets s y) : x = y := by
  unfold toH at h
  have h1 := congrArg (fun p => p.1) h
  have h2 := congrArg (fun p => p.2) h
  simp only at h1 h2
  have h3 : x.1 = y.1 := by rw [← own_div (t := x.1) hs, h1, own_div hs]
  obtain ⟨x1, x2, x3⟩ := x
  obtain ⟨y1, y2, y3⟩ := y
  simp only at h3 h2
  rw [h3]
  simp at h2
  rw [h2.1, h2.2]

/-- The list and the sets know the same: 'su' has each set's lines with their moments, the last one first. -/
structure Rel (sets : Nat) (st : Nat → List Ln) (L : List HL) (now : Nat) (su : Nat → List HL) : Prop where
  st : ∀ s, s < sets → st s = (su s).map toL
  dec : ∀ s, s < sets → (su s).Pairwise (fun x y => y.2.1 < x.2.1)
  perm : ∀ s, s < sets → (L.filter (inS sets s)).Perm ((su s).map (toH sets s))
  le : ∀ e ∈ L, e.2.1 ≤ now
section
variable {sets : Nat} {st : Nat → List Ln} {L : List HL} {now : Nat} {su : Nat → List HL}
theorem Rel.len (h : Rel sets st L now su) {s : Nat} (hs : s < sets) : (L.filter (inS sets s)).length = (st s).length ∧ (su s).length = (st s).length := by
  have h1 := (h.perm s hs).length_eq
  rw [h.st s hs]
  simp at h1 ⊢
  exact h1
theorem Rel.mem (h : Rel sets st L now su) {s : Nat} (hs : s < sets) {e : HL} (he : e ∈ L) (hi : inS sets s e = true) : ∃ x ∈ su s, toH sets s x = e := by
  have := (h.perm s hs).mem_iff.1 (List.mem_filter.2 ⟨he, hi⟩)
  exact List.mem_map.1 this
theorem Rel.mem2 (h : Rel sets st L now su) {s : Nat} (hs : s < sets) {x : HL} (hx : x ∈ su s) : toH sets s x ∈ L :=
  (List.mem_filter.1 ((h.perm s hs).mem_iff.2 (List.mem_map.2 ⟨x, hx, rfl⟩))).1

/-- Where a line is. -/
def atH (L : List HL) (n : Nat) : Nat := L.findIdx (fun e => e.1 == n)
theorem atH_le (L : List HL) (n : Nat) : atH L n ≤ L.length := List.findIdx_le_length
theorem atH_get (L : List HL) (n : Nat) (h : atH L n < L.length) : (L[atH L n]).1 = n := by
  have := List.findIdx_getElem (p := fun e : HL => e.1 == n) (xs := L) (w := h)
  exact beq_iff_eq.1 this
theorem atH_ne (L : List HL) (n j : Nat) (h : j < atH L n) (hj : j < L.length) : (L[j]).1 ≠ n := by
  have := List.not_of_lt_findIdx (p := fun e : HL => e.1 == n) (xs := L) h
  simpa using this
theorem atH_mem {L : List HL} {n : Nat} {e : HL} (he : e ∈ L) (hn : e.1 = n) : atH L n < L.length := by
  unfold atH
  exact List.findIdx_lt_length.2 ⟨e, he, by simpa using hn⟩
theorem Rel.at_iff (h : Rel sets st L now su) {s t : Nat} (hs : s < sets) : atH L (t * sets + s) < L.length ↔ atT (st s) t < (st s).length := by
  constructor
  · intro hl
    have hg := atH_get L _ hl
    obtain ⟨x, hx, e⟩ := h.mem hs (List.getElem_mem hl) (by simp [inS, hg, own_mod hs])
    have hx1 : x.1 = t := by
      have : x.1 * sets + s = t * sets + s := by
        have h2 : (toH sets s x).1 = t * sets + s := by rw [e, hg]
        exact h2
      rw [← own_div (t := x.1) hs, this, own_div hs]
    unfold atT
    refine List.findIdx_lt_length.2 ⟨toL x, ?_, by simp [toL, hx1]⟩
    rw [h.st s hs]
    exact List.mem_map.2 ⟨x, hx, rfl⟩
  · intro hl
    have hg := atT_get (st s) t hl
    obtain ⟨z, hz⟩ : ∃ z, z = (st s)[atT (st s) t] := ⟨_, rfl⟩
    have hm : z ∈ st s := by rw [hz]; exact List.getElem_mem hl
    rw [← hz] at hg
    clear hz
    rw [h.st s hs] at hm
    obtain ⟨x, hx, e⟩ := List.mem_map.1 hm
    refine atH_mem (h.mem2 hs hx) ?_
    have : x.1 = t := by rw [← hg, ← e]; rfl
    rw [← this]; rfl

theorem nodup_get {l : List Nat} (h : l.Nodup) {i j : Nat} (hi : i < l.length) (hj : j < l.length) (e : l[i] = l[j]) : i = j := by
  rcases Nat.lt_trichotomy i j with h1 | h1 | h1
  · exact absurd e (List.pairwise_iff_getElem.1 h i j hi hj h1)
  · exact h1
  · exact absurd e.symm (List.pairwise_iff_getElem.1 h j i hj hi h1)

/-- What lies at a place where a tag stands. -/
theorem Rel.hit_at (h : Rel sets st L now su) {s t ways : Nat} (hs : s < sets) (hg : Good (st s) ways) (i : Nat) (hi : i < L.length) (hn : (L[i]).1 = t * sets + s) :
    ∃ p, ∃ hp : p < (su s).length, p = atT (st s) t ∧ toH sets s ((su s)[p]) = L[i] ∧ ((su s)[p]).1 = t := by
  obtain ⟨x, hx, e⟩ := h.mem hs (List.getElem_mem hi) (by simp [inS, hn, own_mod hs])
  have hx1 : x.1 = t := by
    have : x.1 * sets + s = t * sets + s := by
      have h2 : (toH sets s x).1 = t * sets + s := by rw [e, hn]
      exact h2
    rw [← own_div (t := x.1) hs, this, own_div hs]
  obtain ⟨q, hq, hqx⟩ := List.getElem_of_mem hx
  have hl := (h.len hs).2
  have hlt : atT (st s) t < (st s).length := (h.at_iff hs).1 (atH_mem (List.getElem_mem hi) hn)
  have ht : tags (st s) = (su s).map (·.1) := by
    unfold tags; rw [h.st s hs, List.map_map]; rfl
  have hnd := hg.nd
  rw [ht] at hnd
  have hq2 : q = atT (st s) t := by
    refine nodup_get hnd (by simpa using hq) (by simp; omega) ?_
    simp only [List.getElem_map]
    rw [hqx, hx1]
    have hgt := atT_get (st s) t hlt
    have h3 : (st s)[atT (st s) t]? = some (toL ((su s)[atT (st s) t]'(by omega))) := by
      have e1 : (st s)[atT (st s) t]? = ((su s).map toL)[atT (st s) t]? := by rw [← h.st s hs]
      rw [e1, List.getElem?_map, List.getElem?_eq_getElem (by omega)]; rfl
    rw [List.getElem?_eq_getElem hlt] at h3
    have h4 := Option.some.inj h3
    rw [h4] at hgt
    exact hgt.symm
  refine ⟨q, hq, hq2, by rw [hqx]; exact e, by rw [hqx]; exact hx1⟩

theorem split_at {α : Type} (l : List α) (i : Nat) (h : i < l.length) : l = l.take i ++ l[i] :: l.drop (i + 1) := by
  rw [← List.drop_eq_getElem_cons h, List.take_append_drop]
theorem perm_mid {α : Type} {A B C D : List α} {e : α} (h : (A ++ e :: B).Perm (C ++ e :: D)) (e' : α) : (A ++ e' :: B).Perm (e' :: (C ++ D)) := by
  have h1 : (e :: (A ++ B)).Perm (e :: (C ++ D)) := (List.perm_middle.symm.trans h).trans List.perm_middle
  exact List.perm_middle.trans ((List.perm_cons _).2 ((List.perm_cons _).1 h1))
theorem perm_out {α : Type} {A B C D : List α} {e : α} (h : (A ++ e :: B).Perm (C ++ e :: D)) : (A ++ B).Perm (C ++ D) := by
  have h1 : (e :: (A ++ B)).Perm (e :: (C ++ D)) := (List.perm_middle.symm.trans h).trans List.perm_middle
  exact (List.perm_cons _).1 h1

/-- A hit. -/
theorem Rel.hit (h : Rel sets st L now su) {s t ways : Nat} (hs : s < sets) (hg : Good (st s) ways) (i : Nat) (hi : i < L.length) (hn : (L[i]).1 = t * sets + s) (wr : Bool) :
    (L[i]).2.2 = drtL (st s) t ∧ ∃ su', Rel sets (setS st s (useL (st s) t ways wr)) (L.set i (t * sets + s, now + 1, (L[i]).2.2 || wr)) (now + 1) su' := by
  obtain ⟨p, hp, hpa, hpe, hpt⟩ := h.hit_at hs hg i hi hn
  have hl := (h.len hs).2
  have hlt : atT (st s) t < (st s).length := by omega
  have hdl : (L[i]).2.2 = drtL (st s) t := by
    have e1 : hitL (st s) t = true := by simp [hitL, hlt]
    rw [← hpe]
    unfold drtL
    rw [e1, ← hpa, List.getD_eq_getElem?_getD]
    have : (st s)[p]? = some (toL ((su s)[p])) := by rw [h.st s hs, List.getElem?_map, List.getElem?_eq_getElem hp]; rfl
    rw [this]; rfl
  refine ⟨hdl, updS su s ((t, now + 1, (L[i]).2.2 || wr) :: ((su s).take p ++ (su s).drop (p + 1))), ?_, ?_, ?_, ?_⟩
  · intro k hk
    unfold setS updS
    by_cases e : k = s
    · subst e
      rw [if_pos rfl, if_pos rfl]
      have hpos : posL (st k) t ways = p := by unfold posL; rw [if_pos hlt, hpa]
      rw [useL, hpos, ← hdl, h.st k hk, List.map_cons, List.map_append, List.map_take, List.map_drop]
      rfl
    · rw [if_neg e, if_neg e]; exact h.st k hk
  · intro k hk
    unfold updS
    by_cases e : k = s
    · subst e
      rw [if_pos rfl]
      have hd := h.dec k hk
      refine List.pairwise_cons.2 ⟨fun y hy => ?_, ?_⟩
      · have hy2 : y ∈ su k := by
          rcases List.mem_append.1 hy with h1 | h1
          · exact List.mem_of_mem_take h1
          · exact List.mem_of_mem_drop h1
        have := h.le _ (h.mem2 hk hy2)
        simp only [toH] at this
        show y.2.1 < now + 1
        omega
      · rw [← List.eraseIdx_eq_take_drop_succ]
        exact List.Pairwise.sublist (List.eraseIdx_sublist ..) hd
    · rw [if_neg e]; exact h.dec k hk
  · intro k hk
    have hset : L.set i (t * sets + s, now + 1, (L[i]).2.2 || wr) = L.take i ++ (t * sets + s, now + 1, (L[i]).2.2 || wr) :: L.drop (i + 1) := List.set_eq_take_append_cons_drop .. |>.trans (by rw [if_pos hi])
    have hP := h.perm k hk
    rw [split_at L i hi] at hP
    rw [hset]
    simp only [List.filter_append] at hP ⊢
    unfold updS
    by_cases e : k = s
    · subst e
      rw [if_pos rfl]
      have hin : inS sets k (L[i]) = true := by simp [inS, hn, own_mod hk]
      rw [List.filter_cons_of_pos hin, split_at (su k) p hp, List.map_append, List.map_cons, hpe] at hP
      rw [List.filter_cons_of_pos (by simp [inS, own_mod hk]), List.map_cons, List.map_append]
      exact perm_mid hP _
    · rw [if_neg e]
      have hno : ¬ inS sets k (L[i]) = true := by simp [inS, hn, own_mod hs]; exact fun x => e x.symm
      rw [List.filter_cons_of_neg hno] at hP
      rw [List.filter_cons_of_neg (by simp [inS, own_mod hs]; exact fun x => e x.symm)]
      exact hP
  · intro e he
    rcases List.mem_or_eq_of_mem_set he with h1 | h1
    · have := h.le e h1; omega
    · subst h1; exact Nat.le_refl _

/-- A line that is not there, and room. -/
theorem Rel.room (h : Rel sets st L now su) {s t ways : Nat} (hs : s < sets) (hno : ¬ atT (st s) t < (st s).length) (hr : (st s).length < ways) (wr : Bool) :
    ∃ su', Rel sets (setS st s (useL (st s) t ways wr)) (L ++ [(t * sets + s, now + 1, wr)]) (now + 1) su' := by
  refine ⟨updS su s ((t, now + 1, wr) :: su s), ?_, ?_, ?_, ?_⟩
  · intro k hk
    unfold setS updS
    by_cases e : k = s
    · subst e
      rw [if_pos rfl, if_pos rfl]
      have hpos : posL (st k) t ways = (st k).length := by unfold posL; rw [if_neg hno, if_pos hr]
      have hd : drtL (st k) t = false := by simp [drtL, hitL, hno]
      rw [useL, hpos, hd, List.take_length, List.drop_eq_nil_of_le (by omega), List.append_nil, List.map_cons, ← h.st k hk]
      simp [toL]
    · rw [if_neg e, if_neg e]; exact h.st k hk
  · intro k hk
    unfold updS
    by_cases e : k = s
    · subst e
      rw [if_pos rfl]
      refine List.pairwise_cons.2 ⟨fun y hy => ?_, h.dec k hk⟩
      have := h.le _ (h.mem2 hk hy)
      simp only [toH] at this
      show y.2.1 < now + 1
      omega
    · rw [if_neg e]; exact h.dec k hk
  · intro k hk
    unfold updS
    rw [List.filter_append]
    by_cases e : k = s
    · subst e
      rw [if_pos rfl, List.filter_cons_of_pos (by simp [inS, own_mod hk]), List.filter_nil, List.map_cons]
      exact List.perm_append_comm.trans ((List.perm_cons _).2 (h.perm k hk))
    · rw [if_neg e, List.filter_cons_of_neg (by simp [inS, own_mod hs]; exact fun x => e x.symm), List.filter_nil, List.append_nil]
      exact h.perm k hk
  · intro e he
    rcases List.mem_append.1 he with h1 | h1
    · have := h.le e h1; omega
    · simp at h1; subst h1; exact Nat.le_refl _

/-- A line that is not there, and no room: the one used longest ago goes. -/
theorem Rel.full (h : Rel sets st L now su) {s t ways : Nat} (hs : s < sets) (hw : 1 ≤ ways) (hno : ¬ atT (st s) t < (st s).length) (hr : (st s).length = ways) (o : Nat) (ho : o < L.length) (hin : inS sets s (L[o]) = true)
    (hmin : ∀ e ∈ L, inS sets s e = true → (L[o]).2.1 ≤ e.2.1) (wr : Bool) :
    (L[o]).2.2 = ((st s).getD (ways - 1) (0, false)).2 ∧ ∃ su', Rel sets (setS st s (useL (st s) t ways wr)) ((L.take o ++ L.drop (o + 1)) ++ [(t * sets + s, now + 1, wr)]) (now + 1) su' := by
  have hl := (h.len hs).2
  obtain ⟨x, hx, hxe⟩ := h.mem hs (List.getElem_mem ho) hin
  have hlast : ways - 1 < (su s).length := by omega
  have hxl : x = (su s)[ways - 1] := by
    obtain ⟨q, hq, hqx⟩ := List.getElem_of_mem hx
    have h2 := hmin _ (h.mem2 hs (List.getElem_mem hlast)) (toH_in hs _)
    rw [← hxe] at h2
    simp only [toH] at h2
    by_cases e : q = ways - 1
    · subst e; exact hqx.symm
    · have := List.pairwise_iff_getElem.1 (h.dec s hs) q (ways - 1) hq hlast (by omega)
      rw [hqx] at this
      omega
  have hLo : L[o] = toH sets s ((su s)[ways - 1]) := by rw [← hxl]; exact hxe.symm
  have hdr : (su s).drop ways = [] := List.drop_eq_nil_of_le (by omega)
  have hdr2 : (st s).drop ways = [] := List.drop_eq_nil_of_le (by omega)
  refine ⟨?_, updS su s ((t, now + 1, wr) :: (su s).take (ways - 1)), ?_, ?_, ?_, ?_⟩
  · rw [hLo, List.getD_eq_getElem?_getD]
    have : (st s)[ways - 1]? = some (toL ((su s)[ways - 1])) := by rw [h.st s hs, List.getElem?_map, List.getElem?_eq_getElem hlast]; rfl
    rw [this]; rfl
  · intro k hk
    unfold setS updS
    by_cases e : k = s
    · subst e
      rw [if_pos rfl, if_pos rfl]
      have hpos : posL (st k) t ways = ways - 1 := by unfold posL; rw [if_neg hno, if_neg (by omega)]
      have hd : drtL (st k) t = false := by simp [drtL, hitL, hno]
      have e1 : ways - 1 + 1 = ways := by omega
      rw [useL, hpos, hd, e1, hdr2, List.append_nil, List.map_cons, List.map_take, ← h.st k hk]
      simp [toL]
    · rw [if_neg e, if_neg e]; exact h.st k hk
  · intro k hk
    unfold updS
    by_cases e : k = s
    · subst e
      rw [if_pos rfl]
      refine List.pairwise_cons.2 ⟨fun y hy => ?_, List.Pairwise.sublist (List.take_sublist _ _) (h.dec k hk)⟩
      have := h.le _ (h.mem2 hk (List.mem_of_mem_take hy))
      simp only [toH] at this
      show y.2.1 < now + 1
      omega
    · rw [if_neg e]; exact h.dec k hk
  · intro k hk
    have hP := h.perm k hk
    rw [split_at L o ho] at hP
    unfold updS
    simp only [List.filter_append] at hP ⊢
    by_cases e : k = s
    · subst e
      rw [if_pos rfl, List.filter_cons_of_pos (by simp [inS, own_mod hk]), List.filter_nil, List.map_cons]
      have e1 : ways - 1 + 1 = ways := by omega
      have hsu := split_at (su k) (ways - 1) hlast
      rw [e1, hdr] at hsu
      rw [List.filter_cons_of_pos hin, hsu, List.map_append, List.map_cons, List.map_nil, ← hLo] at hP
      have h2 := perm_out hP
      rw [List.append_nil] at h2
      exact List.perm_append_comm.trans ((List.perm_cons _).2 h2)
    · have hno2 : ¬ inS sets k (L[o]) = true := by
        have : (L[o]).1 % sets = s := by simpa [inS] using hin
        simp [inS, this]; exact fun x => e x.symm
      rw [if_neg e, List.filter_cons_of_neg (by simp [inS, own_mod hs]; exact fun x => e x.symm), List.filter_nil, List.append_nil]
      rw [List.filter_cons_of_neg hno2] at hP
      exact hP
  · intro e he
    rcases List.mem_append.1 he with h1 | h1
    · have h2 : e ∈ L := by
        rcases List.mem_append.1 h1 with h3 | h3
        · exact List.mem_of_mem_take h3
        · exact List.mem_of_mem_drop h3
      have := h.le e h2; omega
    · simp at h1; subst h1; exact Nat.le_refl _
end
end Go.Proofs.Ytppcfofkneaigab
namespace Go.Proofs.Ytppcfofkneaigab
set_option linter.unusedVariables false

def d0 : HL := (0, 0, false)
/-- How many of the first lines are in a set; which was used longest ago; which was used last, ahead of a moment. -/
def scN (sets s : Nat) (L : List HL) : Nat → Nat
  | 0 => 0
  | k + 1 => if inS sets s (L.getD k d0) = true then scN sets s L k + 1 else scN sets s L k
def pickO (L : List HL) (k : Nat) : Option Nat → Option Nat
  | none => some k
  | some o => if (L.getD k d0).2.1 < (L.getD o d0).2.1 then some k else some o
def scO (sets s : Nat) (L : List HL) : Nat → Option Nat
  | 0 => none
  | k + 1 => if inS sets s (L.getD k d0) = true then pickO L k (scO sets s L k) else scO sets s L k
def pickB (L : List HL) (k : Nat) : Option Nat → Option Nat
  | none => some k
  | some o => if (L.getD o d0).2.1 < (L.getD k d0).2.1 then some k else some o
def scB (sets s below : Nat) (L : List HL) : Nat → Option Nat
  | 0 => none
  | k + 1 => if inS sets s (L.getD k d0) = true ∧ (L.getD k d0).2.1 < below then pickB L k (scB sets s below L k) else scB sets s below L k

theorem scN_take (sets s : Nat) (L : List HL) : ∀ k, k ≤ L.length → scN sets s L k = ((L.take k).filter (inS sets s)).length
  | 0, _ => rfl
  | k + 1, h => by
    have e : L.getD k d0 = L[k] := by simp [List.getD_eq_getElem?_getD, show k < L.length by omega]
    rw [scN, scN_take sets s L k (by omega), e, List.take_add_one, List.getElem?_eq_getElem (by omega), List.filter_append]
    by_cases hi : inS sets s (L[k]) = true
    · rw [if_pos hi]; simp [hi]
    · rw [if_neg hi]; simp [hi]
theorem scO_spec (sets s : Nat) (L : List HL) : ∀ k, (scO sets s L k = none → ∀ j, j < k → ¬ inS sets s (L.getD j d0) = true) ∧
    (∀ o, scO sets s L k = some o → o < k ∧ inS sets s (L.getD o d0) = true ∧ ∀ j, j < k → inS sets s (L.getD j d0) = true → (L.getD o d0).2.1 ≤ (L.getD j d0).2.1)
  | 0 => ⟨fun _ j hj => by omega, fun o h => by cases h⟩
  | k + 1 => by
    obtain ⟨i1, i2⟩ := scO_spec sets s L k
    rw [scO]
    by_cases hi : inS sets s (L.getD k d0) = true
    · rw [if_pos hi]
      cases hq : scO sets s L k with
      | none =>
        refine ⟨fun h => by simp [pickO] at h, fun o h => ?_⟩
        simp [pickO] at h
        subst h
        refine ⟨by omega, hi, fun j hj hji => ?_⟩
        by_cases e : j = k
        · subst e; exact Nat.le_refl _
        · exact absurd hji (i1 hq j (by omega))
      | some o0 =>
        obtain ⟨j1, j2, j3⟩ := i2 o0 hq
        unfold pickO
        by_cases hlt : (L.getD k d0).2.1 < (L.getD o0 d0).2.1
        · simp only [if_pos hlt]
          refine ⟨(fun h => by cases h), fun o h => ?_⟩
          cases h
          refine ⟨by omega, hi, fun j hj hji => ?_⟩
          by_cases e : j = k
          · subst e; exact Nat.le_refl _
          · have := j3 j (by omega) hji; omega
        · simp only [if_neg hlt]
          refine ⟨(fun h => by cases h), fun o h => ?_⟩
          cases h
          refine ⟨by omega, j2, fun j hj hji => ?_⟩
          by_cases e : j = k
          · subst e; omega
          · exact j3 j (by omega) hji
    · rw [if_neg hi]
      refine ⟨fun h j hj => ?_, fun o h => ?_⟩
      · by_cases e : j = k
        · subst e; exact hi
        · exact i1 h j (by omega)
      · obtain ⟨j1, j2, j3⟩ := i2 o h
        refine ⟨by omega, j2, fun j hj hji => ?_⟩
        by_cases e : j = k
        · subst e; exact absurd hji hi
        · exact j3 j (by omega) hji
theorem scB_spec (sets s below : Nat) (L : List HL) : ∀ k, (scB sets s below L k = none → ∀ j, j < k → ¬ (inS sets s (L.getD j d0) = true ∧ (L.getD j d0).2.1 < below)) ∧
    (∀ o, scB sets s below L k = some o → o < k ∧ (inS sets s (L.getD o d0) = true ∧ (L.getD o d0).2.1 < below) ∧ ∀ j, j < k → inS sets s (L.getD j d0) = true ∧ (L.getD j d0).2.1 < below → (L.getD j d0).2.1 ≤ (L.getD o d0).2.1)
  | 0 => ⟨fun _ j hj => by omega, fun o h => by cases h⟩
  | k + 1 => by
    obtain ⟨i1, i2⟩ := scB_spec sets s below L k
    rw [scB]
    by_cases hi : inS sets s (L.getD k d0) = true ∧ (L.getD k d0).2.1 < below
    · rw [if_pos hi]
      cases hq : scB sets s below L k with
      | none =>
        refine ⟨fun h => by simp [pickB] at h, fun o h => ?_⟩
        simp [pickB] at h
        subst h
        refine ⟨by omega, hi, fun j hj hji => ?_⟩
        by_cases e : j = k
        · subst e; exact Nat.le_refl _
        · exact absurd hji (i1 hq j (by omega))
      | some o0 =>
        obtain ⟨j1, j2, j3⟩ := i2 o0 hq
        unfold pickB
        by_cases hlt : (L.getD o0 d0).2.1 < (L.getD k d0).2.1
        · simp only [if_pos hlt]
          refine ⟨(fun h => by cases h), fun o h => ?_⟩
          cases h
          refine ⟨by omega, hi, fun j hj hji => ?_⟩
          by_cases e : j = k
          · subst e; exact Nat.le_refl _
          · have := j3 j (by omega) hji; omega
        · simp only [if_neg hlt]
          refine ⟨(fun h => by cases h), fun o h => ?_⟩
          cases h
          refine ⟨by omega, j2, fun j hj hji => ?_⟩
          by_cases e : j = k
          · subst e; omega
          · exact j3 j (by omega) hji
    · rw [if_neg hi]
      refine ⟨fun h j hj => ?_, fun o h => ?_⟩
      · by_cases e : j = k
        · subst e; exact hi
        · exact i1 h j (by omega)
      · obtain ⟨j1, j2, j3⟩ := i2 o h
        refine ⟨by omega, j2, fun j hj hji => ?_⟩
        by_cases e : j = k
        · subst e; exact absurd hji hi
        · exact j3 j (by omega) hji

section
variable {sets : Nat} {st : Nat → List Ln} {L : List HL} {now : Nat} {su : Nat → List HL}
theorem getD_at (L : List HL) (k : Nat) (h : k < L.length) : L.getD k d0 = L[k] := by simp [List.getD_eq_getElem?_getD, h]
/-- The set is full: which line goes. -/
theorem Rel.oldest (h : Rel sets st L now su) {s ways : Nat} (hs : s < sets) (hw : 1 ≤ ways) (hl : (st s).length = ways) : ∃ o, scO sets s L L.length = some o ∧ ∃ ho : o < L.length, inS sets s (L[o]) = true ∧ ∀ e ∈ L, inS sets s e = true → (L[o]).2.1 ≤ e.2.1 := by
  obtain ⟨i1, i2⟩ := scO_spec sets s L L.length
  cases hq : scO sets s L L.length with
  | none =>
    exfalso
    have h1 := (h.len hs).1
    have h2 : L.filter (inS sets s) = [] := by
      apply List.filter_eq_nil_iff.2
      intro e he
      obtain ⟨j, hj, rfl⟩ := List.getElem_of_mem he
      have := i1 hq j hj
      rw [getD_at L j hj] at this
      exact this
    rw [h2] at h1
    simp at h1
    omega
  | some o =>
    obtain ⟨j1, j2, j3⟩ := i2 o hq
    rw [getD_at L o j1] at j2
    refine ⟨o, rfl, j1, j2, fun e he hi => ?_⟩
    obtain ⟨j, hj, rfl⟩ := List.getElem_of_mem he
    have := j3 j hj (by rw [getD_at L j hj]; exact hi)
    rw [getD_at L j hj, getD_at L o j1] at this
    exact this

/-- The moment ahead of which the next one is looked for. -/
def belowJ (now : Nat) (l : List HL) : Nat → Nat
  | 0 => now + 1
  | j + 1 => (l.getD j d0).2.1
theorem Rel.next (h : Rel sets st L now su) {s : Nat} (hs : s < sets) (j : Nat) (hj : j < (su s).length) : ∃ o, scB sets s (belowJ now (su s) j) L L.length = some o ∧ ∃ ho : o < L.length, L[o] = toH sets s ((su s)[j]) := by
  have hbel : ∀ i (hi : i < (su s).length), ((su s)[i]).2.1 < belowJ now (su s) j ↔ j ≤ i := by
    intro i hi
    cases j with
    | zero =>
      have := h.le _ (h.mem2 hs (List.getElem_mem hi))
      simp only [toH] at this
      simp only [belowJ]
      omega
    | succ j =>
      simp only [belowJ]
      rw [getD_at _ _ (by omega)]
      have hp := List.pairwise_iff_getElem.1 (h.dec s hs)
      rcases Nat.lt_trichotomy i j with h1 | h1 | h1
      · have := hp i j hi (by omega) h1; omega
      · subst h1; omega
      · have := hp j i (by omega) hi h1; omega
  obtain ⟨i1, i2⟩ := scB_spec sets s (belowJ now (su s) j) L L.length
  obtain ⟨q, hq, hqe⟩ := List.getElem_of_mem (h.mem2 hs (List.getElem_mem hj))
  have hqual : inS sets s (L.getD q d0) = true ∧ (L.getD q d0).2.1 < belowJ now (su s) j := by
    rw [getD_at L q hq, hqe]
    exact ⟨toH_in hs _, (hbel j hj).2 (Nat.le_refl _)⟩
  cases hsc : scB sets s (belowJ now (su s) j) L L.length with
  | none => exact absurd hqual (i1 hsc q hq)
  | some o =>
    obtain ⟨j1, ⟨j2, j3⟩, j4⟩ := i2 o hsc
    have j5 := j4 q hq hqual
    rw [getD_at L o j1] at j2 j3 j5
    rw [getD_at L q hq, hqe] at j5
    obtain ⟨x, hx, hxe⟩ := h.mem hs (List.getElem_mem j1) j2
    obtain ⟨i, hi, rfl⟩ := List.getElem_of_mem hx
    rw [← hxe] at j3 j5
    simp only [toH] at j3 j5
    have hji := (hbel i hi).1 j3
    refine ⟨o, rfl, j1, ?_⟩
    have hij : i = j := by
      by_cases e : i = j
      · exact e
      · have := List.pairwise_iff_getElem.1 (h.dec s hs) j i hj hi (by omega); omega
    subst hij
    exact hxe.symm
theorem Rel.nomore (h : Rel sets st L now su) {s : Nat} (hs : s < sets) : scB sets s (belowJ now (su s) (su s).length) L L.length = none := by
  obtain ⟨i1, i2⟩ := scB_spec sets s (belowJ now (su s) (su s).length) L L.length
  cases hsc : scB sets s (belowJ now (su s) (su s).length) L L.length with
  | none => rfl
  | some o =>
    exfalso
    obtain ⟨j1, ⟨j2, j3⟩, _⟩ := i2 o hsc
    rw [getD_at L o j1] at j2 j3
    obtain ⟨x, hx, hxe⟩ := h.mem hs (List.getElem_mem j1) j2
    obtain ⟨i, hi, rfl⟩ := List.getElem_of_mem hx
    rw [← hxe] at j3
    simp only [toH] at j3
    obtain ⟨m, hm⟩ : ∃ m, (su s).length = m + 1 := ⟨(su s).length - 1, by omega⟩
    rw [hm] at j3
    simp only [belowJ] at j3
    rw [getD_at _ _ (by omega)] at j3
    by_cases e : i = m
    · subst e; omega
    · have := List.pairwise_iff_getElem.1 (h.dec s hs) i m hi (by omega) (by omega); omega

/-- How many lines are dirty. -/
def badN (L : List HL) : Nat := L.countP (fun e => e.2.2)
theorem cnt_upto (sets : Nat) (L : List HL) (n : Nat) : L.countP (fun e => e.2.2 && decide (e.1 % sets < n + 1)) = L.countP (fun e => e.2.2 && decide (e.1 % sets < n)) + (L.filter (inS sets n)).countP (fun e => e.2.2) := by
  induction L with
  | nil => simp
  | cons e L ih =>
    simp only [List.countP_cons, List.filter_cons, ih, inS]
    by_cases h1 : e.1 % sets = n
    · cases hb : e.2.2 <;> simp [h1, hb] <;> omega
    · have h2 : (e.1 % sets < n + 1) ↔ (e.1 % sets < n) := by omega
      cases hb : e.2.2 <;> simp [h1, h2] <;> omega
theorem cntD_map (sets s : Nat) : ∀ l : List HL, cntD (l.map toL) = (l.map (toH sets s)).countP (fun e => e.2.2)
  | [] => rfl
  | x :: l => by
    rw [List.map_cons, List.map_cons, cntD, List.countP_cons, cntD_map sets s l]
    simp only [toL, toH]
    rw [Nat.add_comm]
    by_cases hb : x.2.2 = true <;> simp [hb]
theorem Rel.bad (h : Rel sets st L now su) (h0 : 1 ≤ sets) : badN L = dirtyN st sets := by
  have key : ∀ n, n ≤ sets → L.countP (fun e => e.2.2 && decide (e.1 % sets < n)) = dirtyN st n := by
    intro n
    induction n with
    | zero => intro _; simp [dirtyN]
    | succ n ih =>
      intro hn
      rw [cnt_upto, ih (by omega), dirtyN, h.st n (by omega), cntD_map sets n, (h.perm n (by omega)).countP_eq]
  rw [← key sets (Nat.le_refl _)]
  unfold badN
  apply List.countP_congr
  intro e _
  have := Nat.mod_lt e.1 (show 0 < sets by omega)
  simp [this]

theorem Rel.none (now : Nat) : Rel sets (fun _ => []) [] now (fun _ => []) :=
  ⟨fun _ _ => rfl, fun _ _ => List.Pairwise.nil, fun _ _ => by simp, fun e he => by cases he⟩
/-- One more line, used longest ago. -/
theorem Rel.add (h : Rel sets st L now su) {s t c : Nat} (hs : s < sets) (hc : c ≤ now) (hall : ∀ e ∈ L, c < e.2.1) (d : Bool) : ∃ su', Rel sets (addS st (s, (t, d))) (L ++ [(t * sets + s, c, d)]) now su' := by
  refine ⟨updS su s (su s ++ [(t, c, d)]), ?_, ?_, ?_, ?_⟩
  · intro k hk
    unfold addS setS updS
    by_cases e : k = s
    · subst e; rw [if_pos rfl, if_pos rfl, h.st k hk]; simp [toL]
    · rw [if_neg e, if_neg e]; exact h.st k hk
  · intro k hk
    unfold updS
    by_cases e : k = s
    · subst e
      rw [if_pos rfl]
      refine List.pairwise_append.2 ⟨h.dec k hk, by simp, ?_⟩
      intro x hx y hy
      simp at hy
      subst hy
      have := hall _ (h.mem2 hk hx)
      simpa [toH] using this
    · rw [if_neg e]; exact h.dec k hk
  · intro k hk
    unfold updS
    rw [List.filter_append]
    by_cases e : k = s
    · subst e
      rw [if_pos rfl, List.filter_cons_of_pos (by simp [inS, own_mod hk]), List.filter_nil, List.map_append]
      exact (h.perm k hk).append_right _
    · rw [if_neg e, List.filter_cons_of_neg (by simp [inS, own_mod hs]; exact fun x => e x.symm), List.filter_nil, List.append_nil]
      exact h.perm k hk
  · intro e he
    rcases List.mem_append.1 he with h1 | h1
    · exact h.le e h1
    · simp at h1; subst h1; exact hc
end
end Go.Proofs.Ytppcfofkneaigab
