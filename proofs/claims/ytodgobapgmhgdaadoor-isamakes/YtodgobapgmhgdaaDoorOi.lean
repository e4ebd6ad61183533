import Derived.Test.YtodgobapgmhgdaaDoorBk
namespace Go.Proofs.YtodgobapgmhgdaaDoor
open Go.ChangeShapes Go.WideShapes Go.ChangeAt Go.RowKit
set_option linter.unusedVariables false

/-- What stands before a sign that it does not hold. -/
theorem cut_at (c : UInt8) : ∀ (x x' r r' : List UInt8), c ∉ x → c ∉ x' → x ++ c :: r = x' ++ c :: r' → x = x' ∧ r = r'
  | [], [], r, r', _, _, h => ⟨rfl, by simpa using h⟩
  | [], y :: ys, r, r', _, h', h => by
    simp only [List.nil_append, List.cons_append, List.cons.injEq] at h
    exact absurd h.1 (fun e => h' (by rw [e]; simp))
  | y :: ys, [], r, r', h', _, h => by
    simp only [List.nil_append, List.cons_append, List.cons.injEq] at h
    exact absurd h.1 (fun e => h' (by rw [← e]; simp))
  | y :: ys, z :: zs, r, r', h1, h2, h => by
    simp only [List.cons_append, List.cons.injEq] at h
    obtain ⟨e1, e2⟩ := cut_at c ys zs r r' (fun m => h1 (by simp [m])) (fun m => h2 (by simp [m])) h.2
    exact ⟨by rw [h.1, e1], e2⟩
/-- Digits. -/
theorem dec_digits (u : Nat) : ∀ c ∈ Lib.decDigits u, ∃ k, k < 10 ∧ c = UInt8.ofNat (48 + k) := by
  induction u using Nat.strongRecOn with
  | _ u ih =>
    intro c hc
    rw [Lib.decDigits] at hc
    split at hc
    · rename_i h
      simp only [List.mem_singleton] at hc
      exact ⟨u, h, hc⟩
    · rename_i h
      simp only [List.mem_append, List.mem_singleton] at hc
      rcases hc with hc | hc
      · exact ih (u / 10) (by omega) c hc
      · exact ⟨u % 10, by omega, hc⟩
theorem digit_not : ∀ k : Fin 10, UInt8.ofNat (48 + k.val) ≠ 44 ∧ UInt8.ofNat (48 + k.val) ≠ 40 ∧ UInt8.ofNat (48 + k.val) ≠ 45 ∧ (UInt8.ofNat (48 + k.val)).toNat = 48 + k.val := by decide +kernel
theorem dec_not (u : Nat) : (44 : UInt8) ∉ Lib.decDigits u ∧ (40 : UInt8) ∉ Lib.decDigits u ∧ (45 : UInt8) ∉ Lib.decDigits u := by
  refine ⟨fun h => ?_, fun h => ?_, fun h => ?_⟩
  all_goals
    obtain ⟨k, hk, e⟩ := dec_digits u _ h
    have := digit_not ⟨k, hk⟩
    simp only at this
    rw [← e] at this
    simp at this
def dv (l : List UInt8) : Nat := l.foldl (fun a c => a * 10 + (c.toNat - 48)) 0
theorem dv_dec (u : Nat) : dv (Lib.decDigits u) = u := by
  induction u using Nat.strongRecOn with
  | _ u ih =>
    rw [Lib.decDigits]
    split
    · rename_i h
      have := (digit_not ⟨u, h⟩).2.2.2
      simp only at this
      simp only [dv, List.foldl_cons, List.foldl_nil, this]
      omega
    · rename_i h
      have := (digit_not ⟨u % 10, by omega⟩).2.2.2
      simp only at this
      have e := ih (u / 10) (by omega)
      simp only [dv, List.foldl_append, List.foldl_cons, List.foldl_nil, this] at e ⊢
      rw [e]
      omega
theorem itoa_not (n : Int) : (44 : UInt8) ∉ Lib.itoa n ∧ (40 : UInt8) ∉ Lib.itoa n := by
  unfold Lib.itoa
  split
  · have := dec_not n.natAbs
    simp [this]
  · have := dec_not n.toNat
    exact ⟨this.1, this.2.1⟩
theorem itoa_inj {n m : Int} (h : Lib.itoa n = Lib.itoa m) : n = m := by
  unfold Lib.itoa at h
  split at h <;> split at h
  · simp only [List.cons.injEq, true_and] at h
    have := congrArg dv h
    rw [dv_dec, dv_dec] at this
    omega
  · exact absurd (h ▸ (List.mem_cons_self : (45 : UInt8) ∈ 45 :: Lib.decDigits n.natAbs)) (dec_not m.toNat).2.2
  · exact absurd (h ▸ (List.mem_cons_self : (45 : UInt8) ∈ 45 :: Lib.decDigits m.natAbs)) (dec_not n.toNat).2.2
  · have := congrArg dv h
    rw [dv_dec, dv_dec] at this
    omega
theorem rgT_inj {a b : Nat} (h : rgT a = rgT b) : a = b := by
  unfold rgT at h
  simp only [List.cons.injEq, true_and] at h
  have := itoa_inj h
  omega
theorem rgT_not (a : Nat) : (44 : UInt8) ∉ rgT a := by
  unfold rgT
  have := (itoa_not (a : Int)).1
  simp [this]
theorem mbT_inj {a b : Nat} {n m : Int} (h : mbT a n = mbT b m) : a = b ∧ n = m := by
  unfold mbT at h
  simp only [List.append_assoc, List.cons_append, List.nil_append] at h
  obtain ⟨h1, h2⟩ := cut_at 40 _ _ _ _ (itoa_not n).2 (itoa_not m).2 h
  exact ⟨rgT_inj (List.append_cancel_right h2), itoa_inj h1⟩
theorem mbT_not (a : Nat) (n : Int) : (44 : UInt8) ∉ mbT a n := by
  unfold mbT
  have h1 := (itoa_not n).1
  have h2 := rgT_not a
  simp [h1, h2]
theorem join2 (x y x' y' : List UInt8) (h1 : (44 : UInt8) ∉ x) (h2 : (44 : UInt8) ∉ x') (h : Lib.join [x, y] [44, 32] = Lib.join [x', y'] [44, 32]) : x = x' ∧ y = y' := by
  rw [Lib.join_cons, Lib.join_cons] at h
  simp only [Lib.joinTail, List.map_cons, List.map_nil, List.flatten_cons, List.flatten_nil, List.append_nil, List.cons_append, List.nil_append] at h
  obtain ⟨e1, e2⟩ := cut_at 44 _ _ _ _ h1 h2 h
  exact ⟨e1, by simpa using e2⟩
theorem join3 (x y z x' y' z' : List UInt8) (h1 : (44 : UInt8) ∉ x) (h2 : (44 : UInt8) ∉ x') (h3 : (44 : UInt8) ∉ y) (h4 : (44 : UInt8) ∉ y') (h : Lib.join [x, y, z] [44, 32] = Lib.join [x', y', z'] [44, 32]) : x = x' ∧ y = y' ∧ z = z' := by
  rw [Lib.join_cons, Lib.join_cons] at h
  simp only [Lib.joinTail, List.map_cons, List.map_nil, List.flatten_cons, List.flatten_nil, List.append_nil, List.cons_append, List.nil_append] at h
  obtain ⟨e1, e2⟩ := cut_at 44 _ _ _ _ h1 h2 h
  simp only [List.cons.injEq, true_and] at e2
  obtain ⟨e3, e4⟩ := cut_at 44 _ _ _ _ h3 h4 e2
  exact ⟨e1, e3, by simpa using e4⟩
theorem nm_letters : ∀ k : Fin 49, (32 : UInt8) ∉ nmTab.getD k.val [] := by decide +kernel
theorem nm_no32 (op : Int) : (32 : UInt8) ∉ nm op := by
  cases h : isO op
  · rw [(fo_no h).2.2]; simp
  · obtain ⟨o0, o1⟩ := (isO_iff op).1 h
    exact nm_letters ⟨op.toNat, by omega⟩
/-- A name, and nothing or a blank behind it. -/
theorem name_cut {a b r s : List UInt8} (ha : (32 : UInt8) ∉ a) (hb : (32 : UInt8) ∉ b) (hr : r = [] ∨ ∃ t, r = 32 :: t) (hs : s = [] ∨ ∃ t, s = 32 :: t) (h : a ++ r = b ++ s) : a = b ∧ r = s := by
  rcases hr with rfl | ⟨t, rfl⟩
  · rcases hs with rfl | ⟨u, rfl⟩
    · simp only [List.append_nil] at h; exact ⟨h, rfl⟩
    · simp only [List.append_nil] at h
      exact absurd (by rw [h]; simp) ha
  · rcases hs with rfl | ⟨u, rfl⟩
    · simp only [List.append_nil] at h
      exact absurd (by rw [← h]; simp) hb
    · obtain ⟨e1, e2⟩ := cut_at 32 _ _ _ _ ha hb h
      exact ⟨e1, by rw [e2]⟩
theorem opT_form (l : List (List UInt8)) : opT l = [] ∨ ∃ t, opT l = 32 :: t := by
  unfold opT
  split
  · exact .inl rfl
  · exact .inr ⟨_, rfl⟩
theorem opT_join {l m : List (List UInt8)} (hl : l ≠ []) (hm : m ≠ []) (h : opT l = opT m) : Lib.join l [44, 32] = Lib.join m [44, 32] := by
  unfold opT at h
  rw [if_neg hl, if_neg hm] at h
  simpa using h
end Go.Proofs.YtodgobapgmhgdaaDoor
