import Derived.Test.YtodgobapgmhgdaaDoorRc
namespace Go.Proofs.YtodgobapgmhgdaaDoor
open Go.ChangeShapes Go.WideShapes Go.ChangeAt Go.RowKit
set_option linter.unusedVariables false

theorem rregD (w : World) (op d a b n : Int) (h : 0 ≤ d ∧ d < 256) : Calls Tryd.prog 37 #[iv op d a b n, .int .u8 68] w fun e w' => e = .returned (.int .i64 d) ∧ Kp w w' := by
  have hw : wrap64 d = d := by simp only [wrap64]; omega
  go_enter Tryd.func37, Tryd.ntmps37
  go_wp2
  go_ret
  exact ⟨rfl, (Chg.refl _ _).alloc _⟩
theorem rregA (w : World) (op d a b n : Int) (h : 0 ≤ a ∧ a < 256) : Calls Tryd.prog 37 #[iv op d a b n, .int .u8 65] w fun e w' => e = .returned (.int .i64 a) ∧ Kp w w' := by
  have hw : wrap64 a = a := by simp only [wrap64]; omega
  go_enter Tryd.func37, Tryd.ntmps37
  go_wp2
  go_ret
  exact ⟨rfl, (Chg.refl _ _).alloc _⟩
theorem rregB (w : World) (op d a b n : Int) (h : 0 ≤ b ∧ b < 256) : Calls Tryd.prog 37 #[iv op d a b n, .int .u8 66] w fun e w' => e = .returned (.int .i64 b) ∧ Kp w w' := by
  have hw : wrap64 b = b := by simp only [wrap64]; omega
  go_enter Tryd.func37, Tryd.ntmps37
  go_wp2
  go_ret
  exact ⟨rfl, (Chg.refl _ _).alloc _⟩
theorem slice_dig (m : Nat) (h : m < 10) (w : World) : (Instr.slice 9 (.string ⟨#[48, 49, 50, 51, 52, 53, 54, 55, 56, 57]⟩) (some (.int .i64 (m : Int))) (some (.int .i64 ((m : Int) + 1))) none).run Tryd.prog w = .ok (.string (sb [UInt8.ofNat (48 + m)])) w := by
  match m, h with
  | 0, _ => show _ = _; kernel_rfl
  | 1, _ => show _ = _; kernel_rfl
  | 2, _ => show _ = _; kernel_rfl
  | 3, _ => show _ = _; kernel_rfl
  | 4, _ => show _ = _; kernel_rfl
  | 5, _ => show _ = _; kernel_rfl
  | 6, _ => show _ = _; kernel_rfl
  | 7, _ => show _ = _; kernel_rfl
  | 8, _ => show _ = _; kernel_rfl
  | 9, _ => show _ = _; kernel_rfl
  | m + 10, h => omega
theorem dec_big {u : Nat} (h : ¬ u < 10) : Lib.decDigits u = Lib.decDigits (u / 10) ++ [UInt8.ofNat (48 + u % 10)] := by
  conv => lhs; rw [Lib.decDigits, dif_neg h]
set_option maxRecDepth 100000 in
theorem dec_any (u : Nat) : u < 4611686018427387904 → ∀ w, Calls Tryd.prog 39 #[.int .i64 u] w fun e w' => e = .returned (.string (sb (Lib.decDigits u))) ∧ w' = w := by
  induction u using Nat.strongRecOn with
  | _ u ih =>
    intro hu w
    have hm : (u : Int).tmod 10 = ((u % 10 : Nat) : Int) := rfl
    have hq : (u : Int).tdiv 10 = ((u / 10 : Nat) : Int) := rfl
    have hs := slice_dig (u % 10) (by omega)
    have hz0 : ¬ (u : Int) < 0 := by omega
    have hle : (Lib.decDigits (u / 10)).length ≤ 20 := by rw [Lib.decDigits_length]; exact Lib.nDigits_le20 _ (by omega)
    by_cases h10 : u < 10
    · have hz : (u : Int) < 10 := by omega
      have he : sb [UInt8.ofNat (48 + u % 10)] = sb (Lib.decDigits u) := by
        rw [Lib.decDigits_one h10, Nat.mod_eq_of_lt h10]
      have HE : Hid _ := he
      clear he
      generalize sb [UInt8.ofNat (48 + u % 10)] = t at *
      generalize sb (Lib.decDigits u) = r at *
      have hm9 : ((u % 10 : Nat) : Int) < 10 := by omega
      generalize u % 10 = m at *
      generalize u / 10 = k at *
      clear ih hle
      go_enter Tryd.func39, Tryd.ntmps39
      go_wp2
      go_ret
      exact ⟨congrArg (fun s => Ending.returned (.string s)) HE.out, rfl⟩
    · have hz : ¬ (u : Int) < 10 := by omega
      have hI := ih (u / 10) (by omega) (by omega)
      have he : sb (Lib.decDigits (u / 10)) ++ sb [UInt8.ofNat (48 + u % 10)] = sb (Lib.decDigits u) := by
        rw [(sb_app _ _).2, dec_big h10]
      have HE : Hid _ := he
      clear he
      have hwk : wrap64 ((u / 10 : Nat) : Int) = ((u / 10 : Nat) : Int) := by simp only [wrap64]; omega
      have z1 : (sb (Lib.decDigits (u / 10))).size ≤ 20 := by rw [sb_size]; exact hle
      have z2 : (sb [UInt8.ofNat (48 + u % 10)]).size = 1 := by rw [sb_size]; rfl
      generalize sb [UInt8.ofNat (48 + u % 10)] = t at *
      generalize sb (Lib.decDigits u) = r at *
      generalize sb (Lib.decDigits (u / 10)) = x at *
      have hm9 : ((u % 10 : Nat) : Int) < 10 := by omega
      generalize u % 10 = m at *
      generalize u / 10 = k at *
      have z3 : ¬ 9223372036854775807 < x.size + t.size := by omega
      clear ih hle
      go_enter Tryd.func39, Tryd.ntmps39
      go_wp2_with (go_at_call 39; refine (hI _).mono ?_; rintro e w1 ⟨rfl, rfl⟩)
      go_ret
      exact ⟨congrArg (fun s => Ending.returned (.string s)) HE.out, rfl⟩
theorem decimal_any (w : World) (n : Int) (h0 : -2147483648 ≤ n) (h1 : n ≤ 2147483647) : Calls Tryd.prog 39 #[.int .i64 n] w fun e w' => e = .returned (.string (sb (Lib.itoa n))) ∧ w' = w := by
  by_cases hn : n < 0
  · obtain ⟨u, hu⟩ : ∃ u : Nat, -n = u := ⟨n.natAbs, by omega⟩
    have hD := dec_any u (by omega)
    have HE : Hid ((⟨#[45]⟩ : ByteArray) ++ sb (Lib.decDigits u) = sb (Lib.itoa n)) := by
      rw [Lib.itoa, if_pos hn, show n.natAbs = u by omega]
      exact (sb_app [45] _).2
    have z1 : (sb (Lib.decDigits u)).size ≤ 20 := by rw [sb_size, Lib.decDigits_length]; exact Lib.nDigits_le20 _ (by omega)
    generalize sb (Lib.decDigits u) = x at *
    generalize sb (Lib.itoa n) = r at *
    have z3 : ¬ 9223372036854775807 < 1 + x.size := by omega
    go_enter Tryd.func39, Tryd.ntmps39
    go_wp2_with (go_at_call 39; refine (hD _).mono ?_; rintro e w1 ⟨rfl, rfl⟩)
    go_ret
    exact ⟨congrArg (fun s => Ending.returned (.string s)) HE.out, rfl⟩
  · obtain ⟨u, rfl⟩ : ∃ u : Nat, n = u := ⟨n.toNat, by omega⟩
    have := dec_any u (by omega) w
    rw [Lib.itoa, if_neg hn, Int.toNat_natCast]
    exact this
end Go.Proofs.YtodgobapgmhgdaaDoor
