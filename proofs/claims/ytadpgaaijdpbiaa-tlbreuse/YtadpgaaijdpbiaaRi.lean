import Derived.Test.YtadpgaaijdpbiaaSn
import Derived.Test.YtadpgaaijdpbiaaFl
namespace Go.Proofs.Ytadpgaaijdpbiaa
open Go.ChangeShapes Go.WideShapes Go.ChangeAt Go.RowKit Go.Shelf
set_option linter.unusedVariables false

def uval (x : Tg) : Mp := (x.2 + 1000 * x.1.toNat, 0)
/-- The rule of reuse. -/
structure RInv (h : List (Int × Int × Int)) (n : Nat) (s : Sta) (pu : Bool) : Prop where
  hit : ∀ x ∈ s.l, ∃ A, sinceG x h [] = some A ∧ ∀ y ∈ ahd x s.l, y ∈ A
  miss : ∀ x A, sinceG x h [] = some A → x ∉ s.l → n ≤ A.length
  pure : pu = true → ∀ x ∈ s.l, ∀ A, sinceG x h [] = some A → ∀ y ∈ A, y ∈ ahd x s.l
  val : ∀ x m, s.f x = some m → m = uval x
theorem RInv.start (n : Nat) (hn : 1 ≤ n) : RInv [] n Sta.none true :=
  ⟨fun x h => by simp [Sta.none] at h, fun x A h => by simp [sinceG] at h, fun _ x h => by simp [Sta.none] at h, fun x m h => by simp [Sta.none] at h⟩

def isUse (u : Int × Int × Int) : Prop := u.2.2 ≠ 1 ∧ u.2.2 ≠ 2 ∧ u.2.2 ≠ 3
theorem since_own {u : Int × Int × Int} (hu : isUse u) (h : List (Int × Int × Int)) : sinceG (uTag u) (u :: h) [] = some [] := by
  obtain ⟨h1, h2, h3⟩ := hu
  unfold sinceG
  simp [h1, h2, h3]
theorem since_other {u : Int × Int × Int} (hu : isUse u) (h : List (Int × Int × Int)) {x : Tg} (hx : x ≠ uTag u) : (∀ A, sinceG x h [] = some A → ∃ A', sinceG x (u :: h) [] = some A' ∧ ∀ y, y ∈ A' ↔ y = uTag u ∨ y ∈ A) ∧ (∀ A', sinceG x (u :: h) [] = some A' → ∃ A, sinceG x h [] = some A ∧ ∀ y, y ∈ A' ↔ y = uTag u ∨ y ∈ A) := by
  obtain ⟨h1, h2, h3⟩ := hu
  have e : sinceG x (u :: h) [] = sinceG x h [uTag u] := by
    rw [sinceG]
    simp [h1, h2, h3, Ne.symm hx, add1]
  rw [e]
  obtain ⟨g1, g2⟩ := since_acc x h [uTag u]
  have key : ∀ A, sinceG x h [] = some A → ∃ A', sinceG x h [uTag u] = some A' ∧ ∀ y, y ∈ A' ↔ y = uTag u ∨ y ∈ A := fun A hA => by
    obtain ⟨A', e', m⟩ := g2 A hA
    exact ⟨A', e', fun y => by rw [m]; simp⟩
  refine ⟨key, fun A' hA' => ?_⟩
  cases hb : sinceG x h [] with
  | none => rw [g1 hb] at hA'; cases hA'
  | some A =>
    obtain ⟨A2, e2, m⟩ := key A hb
    rw [e2] at hA'
    cases hA'
    exact ⟨A, rfl, m⟩
theorem more_len {x : Tg} {h : List (Int × Int × Int)} {A A' : List Tg} (hA : sinceG x h [] = some A) (hs : ∀ y ∈ A, y ∈ A') : A.length ≤ A'.length := nodup_sub_len (since_nodup x h [] List.nodup_nil A hA) hs

theorem RInv.found {h : List (Int × Int × Int)} {n : Nat} {s : Sta} {pu : Bool} (hi : RInv h n s pu) (hok : s.Ok n) {u : Int × Int × Int} (hu : isUse u) (hin : uTag u ∈ s.l) : RInv (u :: h) n (s.look (uTag u)) pu := by
  have htk := uTag_ok u
  have hsm := (hok.mem _ htk).1 hin
  have e : s.look (uTag u) = ⟨s.f, mv (uTag u) s.l⟩ := by unfold Sta.look; rw [if_pos hsm]
  have hah : ∀ x, x ≠ uTag u → ahd x (mv (uTag u) s.l) = uTag u :: (ahd x s.l).filter (fun y => decide (y ≠ uTag u)) := fun x hx => by
    rw [mv_eq_filter hok.nd, ahd_cons_ne (Ne.symm hx), ahd_filter x _ (by simp [hx])]
  rw [e]
  refine ⟨fun x hx => ?_, fun x A' hA' hx => ?_, fun hp x hx A' hA' y hy => ?_, hi.val⟩
  · by_cases ht : x = uTag u
    · subst ht
      refine ⟨[], since_own hu h, fun y hy => ?_⟩
      unfold mv at hy
      rw [ahd_cons_self] at hy
      exact hy
    · rcases (mem_mv hok.nd).1 hx with h' | h'
      · exact absurd h' ht
      · obtain ⟨A, hA, hsub⟩ := hi.hit x h'
        obtain ⟨A', hA', m⟩ := (since_other hu h ht).1 A hA
        refine ⟨A', hA', fun y hy => ?_⟩
        rw [hah x ht] at hy
        rcases List.mem_cons.1 hy with h2 | h2
        · exact (m y).2 (.inl h2)
        · exact (m y).2 (.inr (hsub y (List.mem_filter.1 h2).1))
  · have hxt : x ≠ uTag u := fun e => hx ((mem_mv hok.nd).2 (.inl e))
    have hxl : x ∉ s.l := fun e => hx ((mem_mv hok.nd).2 (.inr e))
    obtain ⟨A, hA, m⟩ := (since_other hu h hxt).2 A' hA'
    exact Nat.le_trans (hi.miss x A hA hxl) (more_len hA (fun y hy => (m y).2 (.inr hy)))
  · by_cases ht : x = uTag u
    · subst ht
      rw [since_own hu h] at hA'
      cases hA'
      cases hy
    · rcases (mem_mv hok.nd).1 hx with h' | h'
      · exact absurd h' ht
      · obtain ⟨A, hA, m⟩ := (since_other hu h ht).2 A' hA'
        show y ∈ ahd x (mv (uTag u) s.l)
        rw [hah x ht]
        by_cases hyt : y = uTag u
        · rw [hyt]; simp
        · rcases (m y).1 hy with h2 | h2
          · exact absurd h2 hyt
          · exact List.mem_cons_of_mem _ (List.mem_filter.2 ⟨hi.pure hp x h' A hA y h2, by simp [hyt]⟩)

/-- Who has room is a part of what there was. -/
theorem room_part {s : Sta} {n : Nat} (hok : s.Ok n) (hn : 1 ≤ n) {t : Tg} (ht : t ∉ s.l) (htk : TOk t) : ∃ q : Tg → Bool, (s.room n t).l = s.l.filter q ∧ (∀ x, x ∈ s.l → q x = false → x = s.l.getLast?.getD (0, 0) ∧ s.l.length = n) ∧ (∀ x ∈ s.l, q x = true → ∀ y ∈ ahd x s.l, q y = true) ∧ (∀ x m, (s.room n t).f x = some m → s.f x = some m) := by
  have hfn : (s.f t).isSome = false := by
    cases h : (s.f t).isSome
    · rfl
    · exact absurd ((hok.mem t htk).2 h) ht
  unfold Sta.room
  by_cases hlt : s.l.length < n
  · rw [if_pos (by simp [hlt])]
    exact ⟨fun _ => true, (List.filter_eq_self.2 (fun _ _ => rfl)).symm, fun x _ h => (by cases h), fun _ _ _ _ _ => rfl, fun x m h => h⟩
  · rw [if_neg (by simp [hfn, hlt])]
    have hne : s.l ≠ [] := by intro e; rw [e] at hlt; simp at hlt; omega
    refine ⟨fun x => !decide (x = s.l.getLast?.getD (0, 0)), rfl, fun x hx h => ⟨by simpa using h, by have := hok.len; omega⟩, fun x hx hq y hy => ?_, fun x m h => ?_⟩
    · have hpre : ahd x s.l <+: s.l := List.takeWhile_prefix _
      have hl := ahd_lt hx
      have hmem : y ∈ s.l.dropLast := by
        rw [List.dropLast_eq_take]
        obtain ⟨r, hr⟩ := hpre
        rw [← hr, List.take_append]
        refine List.mem_append_left _ ?_
        rw [List.take_of_length_le (by rw [hr]; omega)]
        exact hy
      have e := List.dropLast_concat_getLast hne
      have e2 : s.l.getLast?.getD (0, 0) = s.l.getLast hne := by rw [List.getLast?_eq_some_getLast hne]; rfl
      have hnd := hok.nd
      rw [← e] at hnd
      have := (List.nodup_append.1 hnd).2.2 y hmem (s.l.getLast hne) (by simp)
      rw [e2]
      simp [this]
    · simp only [Sta.drop] at h
      split at h
      · cases h
      · exact h
theorem RInv.fresh {h : List (Int × Int × Int)} {n : Nat} {s : Sta} {pu : Bool} (hi : RInv h n s pu) (hok : s.Ok n) (hn : 1 ≤ n) {u : Int × Int × Int} (hu : isUse u) (hout : uTag u ∉ s.l) : RInv (u :: h) n (s.put n (uTag u) (uval (uTag u))) pu := by
  have htk := uTag_ok u
  obtain ⟨q, hq1, hq2, hq3, hq4⟩ := room_part hok hn hout htk
  have hl : (s.put n (uTag u) (uval (uTag u))).l = uTag u :: s.l.filter q := by
    show mv (uTag u) (s.room n (uTag u)).l = _
    rw [hq1]
    unfold mv
    rw [List.erase_of_not_mem (fun h => hout (List.mem_filter.1 h).1)]
  have hah : ∀ x, x ≠ uTag u → q x = true → ahd x (uTag u :: s.l.filter q) = uTag u :: (ahd x s.l).filter q := fun x hx hqx => by
    rw [ahd_cons_ne (Ne.symm hx), ahd_filter x q hqx]
  refine ⟨fun x hx => ?_, fun x A' hA' hx => ?_, fun hp x hx A' hA' y hy => ?_, fun x m hm => ?_⟩
  · rw [hl] at hx ⊢
    by_cases ht : x = uTag u
    · subst ht
      refine ⟨[], since_own hu h, fun y hy => ?_⟩
      rw [ahd_cons_self] at hy
      exact hy
    · rcases List.mem_cons.1 hx with h' | h'
      · exact absurd h' ht
      · obtain ⟨hxl, hqx⟩ := List.mem_filter.1 h'
        obtain ⟨A, hA, hsub⟩ := hi.hit x hxl
        obtain ⟨A', hA', m⟩ := (since_other hu h ht).1 A hA
        refine ⟨A', hA', fun y hy => ?_⟩
        rw [hah x ht hqx] at hy
        rcases List.mem_cons.1 hy with h2 | h2
        · exact (m y).2 (.inl h2)
        · exact (m y).2 (.inr (hsub y (List.mem_filter.1 h2).1))
  · rw [hl] at hx
    have hxt : x ≠ uTag u := fun e => hx (by rw [e]; simp)
    obtain ⟨A, hA, m⟩ := (since_other hu h hxt).2 A' hA'
    by_cases hxl : x ∈ s.l
    · have hqx : q x = false := by
        cases hqx : q x
        · rfl
        · exact absurd (List.mem_cons_of_mem _ (List.mem_filter.2 ⟨hxl, hqx⟩)) hx
      obtain ⟨ez, hlen⟩ := hq2 x hxl hqx
      obtain ⟨A2, hA2, hsub⟩ := hi.hit x hxl
      rw [hA] at hA2
      cases hA2
      have hne : s.l ≠ [] := by intro e; rw [e] at hxl; cases hxl
      have hah2 : ahd x s.l = s.l.dropLast := by rw [ez]; exact ahd_last hok.nd hne
      have hnd : (uTag u :: ahd x s.l).Nodup := by
        rw [List.nodup_cons]
        exact ⟨fun h => hout (ahd_sub x _ _ h), by rw [hah2]; exact hok.nd.sublist (List.dropLast_sublist _)⟩
      have := nodup_sub_len (m := A') hnd (fun y hy => by
        rcases List.mem_cons.1 hy with h2 | h2
        · exact (m y).2 (.inl h2)
        · exact (m y).2 (.inr (hsub y h2)))
      rw [List.length_cons, hah2, List.length_dropLast] at this
      omega
    · exact Nat.le_trans (hi.miss x A hA hxl) (more_len hA (fun y hy => (m y).2 (.inr hy)))
  · rw [hl] at hx ⊢
    by_cases ht : x = uTag u
    · subst ht
      rw [since_own hu h] at hA'
      cases hA'
      cases hy
    · rcases List.mem_cons.1 hx with h' | h'
      · exact absurd h' ht
      · obtain ⟨hxl, hqx⟩ := List.mem_filter.1 h'
        obtain ⟨A, hA, m⟩ := (since_other hu h ht).2 A' hA'
        rw [hah x ht hqx]
        rcases (m y).1 hy with h2 | h2
        · rw [h2]; simp
        · have hya := hi.pure hp x hxl A hA y h2
          exact List.mem_cons_of_mem _ (List.mem_filter.2 ⟨hya, hq3 x hxl hqx y hya⟩)
  · have hm' : (if x = uTag u then some (uval (uTag u)) else (s.room n (uTag u)).f x) = some m := hm
    by_cases e : x = uTag u
    · rw [if_pos e] at hm'; cases hm'; rw [e]
    · rw [if_neg e] at hm'; exact hi.val x m (hq4 x m hm')
theorem RInv.drop {h : List (Int × Int × Int)} {n : Nat} {s : Sta} {pu : Bool} (hi : RInv h n s pu) {u : Int × Int × Int} (p : Tg → Bool) (h1 : ∀ x, TOk x → p x = true → sinceG x (u :: h) [] = none) (h2 : ∀ x, p x = false → sinceG x (u :: h) [] = sinceG x h []) (hok : s.Ok n)
    (h3 : ∀ x A, sinceG x (u :: h) [] = some A → p x = false) : RInv (u :: h) n (s.drop p) false := by
  have hl : (s.drop p).l = s.l.filter (fun t => !p t) := rfl
  refine ⟨fun x hx => ?_, fun x A hA hx => ?_, fun hp => (by cases hp), fun x m hm => ?_⟩
  · rw [hl] at hx ⊢
    obtain ⟨hxl, hpx⟩ := List.mem_filter.1 hx
    have hpx' : p x = false := by simpa using hpx
    obtain ⟨A, hA, hsub⟩ := hi.hit x hxl
    refine ⟨A, by rw [h2 x hpx']; exact hA, fun y hy => ?_⟩
    rw [ahd_filter x (fun t => !p t) hpx] at hy
    exact hsub y (List.mem_filter.1 hy).1
  · have hpx := h3 x A hA
    rw [h2 x hpx] at hA
    refine hi.miss x A hA (fun hxl => hx ?_)
    rw [hl]
    exact List.mem_filter.2 ⟨hxl, by simp [hpx]⟩
  · simp only [Sta.drop] at hm
    split at hm
    · cases hm
    · exact hi.val x m hm

/-- What the law asks at a use. -/
theorem RInv.asks {h : List (Int × Int × Int)} {n : Nat} {s : Sta} {pu : Bool} (hi : RInv h n s pu) (hok : s.Ok n) {t : Tg} (htk : TOk t) (us : Bool) (o : Nat) (hus : us = (sinceG t h []).isSome) (ho : o = ((sinceG t h []).getD []).length) :
    ((s.f t).isSome = true → us = true ∧ s.f t = some (uval t)) ∧ (us = true → o < n → (s.f t).isSome = true) ∧ (pu = true → (s.f t).isSome = (us && decide (o < n))) := by
  have k1 : (s.f t).isSome = true → us = true ∧ s.f t = some (uval t) := fun hs => by
    obtain ⟨A, hA, _⟩ := hi.hit t ((hok.mem t htk).2 hs)
    refine ⟨by rw [hus, hA]; rfl, ?_⟩
    cases hf : s.f t with
    | none => rw [hf] at hs; cases hs
    | some m => rw [hi.val t m hf]
  have k2 : us = true → o < n → (s.f t).isSome = true := fun hu hon => by
    cases hA : sinceG t h [] with
    | none => rw [hA] at hus; rw [hus] at hu; cases hu
    | some A =>
      rw [hA] at ho
      have ho' : o = A.length := ho
      refine (hok.mem t htk).1 ?_
      refine Classical.byContradiction fun hn => ?_
      have := hi.miss t A hA hn
      omega
  refine ⟨k1, k2, fun hp => ?_⟩
  cases hs : (s.f t).isSome with
  | true =>
    have hin := (hok.mem t htk).2 hs
    obtain ⟨A, hA, _⟩ := hi.hit t hin
    have h1 := nodup_sub_len (since_nodup t h [] List.nodup_nil A hA) (hi.pure hp t hin A hA)
    have h2 := ahd_lt hin
    have h3 := hok.len
    rw [hA] at ho
    have ho' : o = A.length := ho
    rw [(k1 hs).1, decide_eq_true (by omega)]
    rfl
  | false =>
    cases hu : us with
    | false => rfl
    | true =>
      have : ¬ o < n := fun hon => by rw [k2 hu hon] at hs; cases hs
      simp [this]
end Go.Proofs.Ytadpgaaijdpbiaa
