import Derived.Test.YtfcpkcbiinbmiaaDc
namespace Go.Proofs.Ytfcpkcbiinbmiaa
open Go.ChangeShapes Go.WideShapes Go.ChangeAt Go.RowKit
set_option linter.unusedVariables false
theorem ofLe_drop (l : List Int) (j : Nat) (h : j < l.length) : ofLe (l.drop j) = (l.getD j 0).toNat + 256 * ofLe (l.drop (j + 1)) := by
  rw [List.drop_eq_getElem_cons h, List.getD_eq_getElem?_getD, List.getElem?_eq_getElem h]
  rfl
theorem ofLe_small (l : List Int) (h : ∀ n ∈ l, 0 ≤ n ∧ n ≤ 255) (hl : l.length ≤ 8) (j : Nat) : ofLe (l.drop j) < 18446744073709551616 := by
  have h1 := ofLe_lt (l.drop j) (fun n hn => h n (List.mem_of_mem_drop hn))
  refine Nat.lt_of_lt_of_le h1 ?_
  have : 2 ^ (8 * (l.drop j).length) ≤ 2 ^ 64 := Nat.pow_le_pow_right (by omega) (by simp; omega)
  simpa using this
set_option maxHeartbeats 1000000 in
set_option maxRecDepth 10000 in
/-- Number of the document's. -/
theorem dnum_any (w : World) (R : Nat) (a : Option Addr) (cap : Nat) (s : RS) (k : Nat) (hk : k ≤ 8) (h : IsD w R a cap s) :
    Calls Try.prog 74 #[.pointer (some ⟨R, 0, none⟩), .int .i64 k] w fun r w' => r = .returned (.int .u64 (s.num k : Nat)) ∧ IsD w' R a cap (s.take k).2 ∧ Chg w w' (fun k => k = R) := by
  have hlen := s.take_len k
  have hR := draw_any w R a cap s k (by omega) h
  have e : s.raw k = s.take k := by unfold RS.raw; rw [if_neg (by omega)]; simp
  rw [e] at hR
  unfold RS.num
  generalize s.take k = q at *
  clear e h
  obtain ⟨l, s1⟩ := q
  simp only at hR hlen ⊢
  go_enter Try.func74, Try.ntmps74
  go_wp2_with fail
  go_at_call 75
  refine hR.mono ?_
  rintro r w1 ⟨v, rfl, o1, hF, hI, hC⟩
  obtain ⟨a1, c1, rfl, hc1, hn1, hB⟩ := o1.shape (by omega)
  have K : Hid (IsD w1 R a cap s1 ∧ Chg w w1 (fun k => k = R) ∧ Bs w1 a1 l.length l) := ⟨hI, hC, hB⟩
  have hl8 : l.length ≤ 8 := by omega
  clear hR o1 hF hI hC hB hn1 hlen
  go_wp2_with fail
  go_loopw [6, 7] (fun n i wr => ∃ j : Nat, j ≤ l.length ∧ n = .int .u64 (ofLe (l.drop j) : Nat) ∧ i = .int .i64 ((j : Int) - 1) ∧ wr = w1) (fun n i _ => (intOf i + 1).toNat)
  case atStart => exact ⟨l.length, by omega, by simp [ofLe], rfl, rfl⟩
  case round =>
    obtain ⟨j, hj, rfl, rfl, rfl⟩ := hrel
    cases j with
    | zero =>
      simp only [List.drop_zero]
      go_wp2
      go_ret
      exact ⟨rfl, K.out.1, K.out.2.1⟩
    | succ j =>
      have ej : ((j + 1 : Nat) : Int) - 1 = (j : Nat) := by omega
      rw [ej]
      obtain ⟨q1, q2, q3, q4⟩ := K.out.2.2
      obtain ⟨b, o, e1, hc⟩ := q4.resolve_left (by omega)
      have cx := hc j (by omega)
      have d1 := ofLe_drop l j (by omega)
      have d2 := ofLe_small l q3 hl8 j
      have d3 := getD_range q3 j
      obtain ⟨x, hx⟩ : ∃ x, x = l.getD j 0 := ⟨_, rfl⟩
      rw [← hx] at cx d1 d3
      obtain ⟨y, hy⟩ : ∃ y, y = ofLe (l.drop (j + 1)) := ⟨_, rfl⟩
      rw [← hy] at d1
      obtain ⟨z, hz⟩ : ∃ z, z = ofLe (l.drop j) := ⟨_, rfl⟩
      rw [← hz] at d1 d2
      have HZ : Hid (z = ofLe (l.drop j)) := hz
      rw [← hy]
      clear hx hy hz hc q1 q2 q3 ej
      subst e1
      have w1' : IntKind.u64.wrap (256 * (y : Int)) = 256 * (y : Int) := by rw [IntKind.wrap_u64]; omega
      have w2' : IntKind.u64.wrap x = x := by rw [IntKind.wrap_u64]; omega
      have w3' : IntKind.u64.wrap (256 * (y : Int) + x) = (z : Int) := by rw [IntKind.wrap_u64]; omega
      go_wp2
      go_roundw
      case rel => exact ⟨j, by omega, (by rw [← HZ.out]; refine congrArg _ ?_; omega), by rfl, trivial⟩
      case measure => simp [intOf]
end Go.Proofs.Ytfcpkcbiinbmiaa
