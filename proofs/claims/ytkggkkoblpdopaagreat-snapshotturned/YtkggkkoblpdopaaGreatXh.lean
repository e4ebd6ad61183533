import Derived.Test.YtkggkkoblpdopaaGreatXg
namespace Go.Proofs.YtkggkkoblpdopaaGreat
open Go.ChangeShapes Go.WideShapes Go.ChangeAt Go.RowKit
set_option linter.unusedVariables false
set_option maxRecDepth 100000 in
theorem fit8 {w : World} {X B M : Nat} {v : Value} {x : WX} (h : IsX w X B M v x) (n : Int) (h1 : -9223372036854775808 ≤ n) (h2 : n ≤ 9223372036854775807) :
    Calls Tryz.prog 233 #[.pointer (some ⟨X, 0, none⟩), .int .i64 n, .func (.func 234) #[.pointer (some ⟨B, 0, none⟩)] #[]] w fun r w' => r = .returned (.tuple #[]) ∧ XE w w' X B M v (x.num 1 n) := by
  unfold WX.num
  by_cases hn : n < 0
  · rw [if_pos (.inl hn)]
    have c1 := h.cells.2.2
    have c2 := h.cells.2.1
    have HU : Hid (XE w (w.setCell ⟨X, 1, none⟩ (.bool true)) X B M v { x with u := true }) := h.unfit
    clear h
    go_enter Tryz.func233, Tryz.ntmps233
    go_wp2
    refine bodyPost_ret (results_none rfl _ _ _) rfl ⟨rfl, HU.out⟩
  · by_cases hb : (256 : Int) ≤ n
    · rw [if_pos (.inr (by simpa using hb))]
      have c1 := h.cells.2.2
      have c2 := h.cells.2.1
      have HU : Hid (XE w (w.setCell ⟨X, 1, none⟩ (.bool true)) X B M v { x with u := true }) := h.unfit
      clear h
      obtain ⟨m, rfl⟩ : ∃ m : Nat, n = m := ⟨n.toNat, by omega⟩
      have z1 : IntKind.u64.wrap (m : Int) = m := by simp [IntKind.wrap, IntKind.bits, IntKind.signed]; omega
      have hx8 : IntKind.u64.wrap (bits BinOp.xor IntKind.u8 (if IntKind.u8.signed = true then -1 else IntKind.u8.max) 0) = 255 := by decide +kernel
      have z2 : decide ((255 : Int) < (m : Int)) = true := decide_eq_true (by omega)
      clear hb h1 h2
      go_enter Tryz.func233, Tryz.ntmps233
      go_upto_if 15 with fail
      try rw [hx8]
      try rw [z2]
      go_wp2
      refine bodyPost_ret (results_none rfl _ _ _) rfl ⟨rfl, HU.out⟩
    · rw [if_neg (by rintro (e | e); exact hn e; exact hb (by simpa using e))]
      obtain ⟨m, rfl⟩ : ∃ m : Nat, n = m := ⟨n.toNat, by omega⟩
      have A1 := h.wrote (fun k p => pm8 p m (by omega))
      rw [Int.toNat_natCast]
      unfold WX.raw
      clear h
      have z1 : IntKind.u64.wrap (m : Int) = m := by simp [IntKind.wrap, IntKind.bits, IntKind.signed]; omega
      have hx8 : IntKind.u64.wrap (bits BinOp.xor IntKind.u8 IntKind.u8.max 0) = 255 := by decide +kernel
      have z2 : ¬ (m : Int) > 255 := by omega
      have z3 : IntKind.u8.wrap (m : Int) = m := by simp [IntKind.wrap, IntKind.bits, IntKind.signed]; omega
      generalize x.s.raw (le m 1) = s1 at *
      clear hb
      go_enter Tryz.func233, Tryz.ntmps233
      go_wp2_with fail
      go_at_call 234
      refine A1.mono ?_
      clear A1
      rintro e w1 ⟨rfl, hx⟩
      have HX : Hid (XE w w1 X B M v { x with s := s1 }) := hx
      clear hx
      go_wp2
      exact ⟨rfl, _, results_none rfl _ _ _, rfl, HX.out⟩
set_option maxRecDepth 100000 in
set_option maxRecDepth 100000 in
theorem fit32 {w : World} {X B M : Nat} {v : Value} {x : WX} (h : IsX w X B M v x) (n : Int) (h1 : -9223372036854775808 ≤ n) (h2 : n ≤ 9223372036854775807) :
    Calls Tryz.prog 235 #[.pointer (some ⟨X, 0, none⟩), .int .i64 n, .func (.func 27) #[.pointer (some ⟨B, 0, none⟩)] #[]] w fun r w' => r = .returned (.tuple #[]) ∧ XE w w' X B M v (x.num 4 n) := by
  unfold WX.num
  by_cases hn : n < 0
  · rw [if_pos (.inl hn)]
    have c1 := h.cells.2.2
    have c2 := h.cells.2.1
    have HU : Hid (XE w (w.setCell ⟨X, 1, none⟩ (.bool true)) X B M v { x with u := true }) := h.unfit
    clear h
    go_enter Tryz.func235, Tryz.ntmps235
    go_wp2
    refine bodyPost_ret (results_none rfl _ _ _) rfl ⟨rfl, HU.out⟩
  · by_cases hb : (4294967296 : Int) ≤ n
    · rw [if_pos (.inr (by simpa using hb))]
      have c1 := h.cells.2.2
      have c2 := h.cells.2.1
      have HU : Hid (XE w (w.setCell ⟨X, 1, none⟩ (.bool true)) X B M v { x with u := true }) := h.unfit
      clear h
      obtain ⟨m, rfl⟩ : ∃ m : Nat, n = m := ⟨n.toNat, by omega⟩
      have z1 : IntKind.u64.wrap (m : Int) = m := by simp [IntKind.wrap, IntKind.bits, IntKind.signed]; omega
      have hx8 : IntKind.u64.wrap (bits BinOp.xor IntKind.u32 (if IntKind.u32.signed = true then -1 else IntKind.u32.max) 0) = 4294967295 := by decide +kernel
      have z2 : decide ((4294967295 : Int) < (m : Int)) = true := decide_eq_true (by omega)
      clear hb h1 h2
      go_enter Tryz.func235, Tryz.ntmps235
      go_upto_if 15 with fail
      try rw [hx8]
      try rw [z2]
      go_wp2
      refine bodyPost_ret (results_none rfl _ _ _) rfl ⟨rfl, HU.out⟩
    · rw [if_neg (by rintro (e | e); exact hn e; exact hb (by simpa using e))]
      obtain ⟨m, rfl⟩ : ∃ m : Nat, n = m := ⟨n.toNat, by omega⟩
      have A1 := h.wrote (fun k p => pm32 p m (by omega))
      rw [Int.toNat_natCast]
      unfold WX.raw
      clear h
      have z1 : IntKind.u64.wrap (m : Int) = m := by simp [IntKind.wrap, IntKind.bits, IntKind.signed]; omega
      have hx8 : IntKind.u64.wrap (bits BinOp.xor IntKind.u32 IntKind.u32.max 0) = 4294967295 := by decide +kernel
      have z2 : ¬ (m : Int) > 4294967295 := by omega
      have z3 : IntKind.u32.wrap (m : Int) = m := by simp [IntKind.wrap, IntKind.bits, IntKind.signed]; omega
      generalize x.s.raw (le m 4) = s1 at *
      clear hb
      go_enter Tryz.func235, Tryz.ntmps235
      go_wp2_with fail
      go_at_call 27
      refine A1.mono ?_
      clear A1
      rintro e w1 ⟨rfl, hx⟩
      have HX : Hid (XE w w1 X B M v { x with s := s1 }) := hx
      clear hx
      go_wp2
      exact ⟨rfl, _, results_none rfl _ _ _, rfl, HX.out⟩
set_option maxRecDepth 100000 in
theorem fit64 {w : World} {X B M : Nat} {v : Value} {x : WX} (h : IsX w X B M v x) (n : Int) (h1 : -9223372036854775808 ≤ n) (h2 : n ≤ 9223372036854775807) :
    Calls Tryz.prog 237 #[.pointer (some ⟨X, 0, none⟩), .int .i64 n, .func (.func 236) #[.pointer (some ⟨B, 0, none⟩)] #[]] w fun r w' => r = .returned (.tuple #[]) ∧ XE w w' X B M v (x.num 8 n) := by
  unfold WX.num
  by_cases hn : n < 0
  · rw [if_pos (.inl hn)]
    have c1 := h.cells.2.2
    have c2 := h.cells.2.1
    have HU : Hid (XE w (w.setCell ⟨X, 1, none⟩ (.bool true)) X B M v { x with u := true }) := h.unfit
    clear h
    go_enter Tryz.func237, Tryz.ntmps237
    go_wp2
    refine bodyPost_ret (results_none rfl _ _ _) rfl ⟨rfl, HU.out⟩
  · rw [if_neg (by rintro (e | e); exact hn e; have e' : (18446744073709551616 : Int) ≤ n := (by simpa using e); omega)]
    obtain ⟨m, rfl⟩ : ∃ m : Nat, n = m := ⟨n.toNat, by omega⟩
    have A1 := h.wrote (fun k p => pm64 p m (by omega))
    rw [Int.toNat_natCast]
    unfold WX.raw
    clear h
    have z1 : IntKind.u64.wrap (m : Int) = m := by simp [IntKind.wrap, IntKind.bits, IntKind.signed]; omega
    have hx8 : IntKind.u64.wrap (bits BinOp.xor IntKind.u64 IntKind.u64.max 0) = 18446744073709551615 := by decide +kernel
    have z2 : ¬ (m : Int) > 18446744073709551615 := by omega
    have z3 : IntKind.u64.wrap (m : Int) = m := by simp [IntKind.wrap, IntKind.bits, IntKind.signed]; omega
    generalize x.s.raw (le m 8) = s1 at *
    go_enter Tryz.func237, Tryz.ntmps237
    go_wp2_with fail
    go_at_call 236
    refine A1.mono ?_
    clear A1
    rintro e w1 ⟨rfl, hx⟩
    have HX : Hid (XE w w1 X B M v { x with s := s1 }) := hx
    clear hx
    go_wp2
    exact ⟨rfl, _, results_none rfl _ _ _, rfl, HX.out⟩
end Go.Proofs.YtkggkkoblpdopaaGreat
