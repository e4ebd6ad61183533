import Derived.Test.YtakddfhcafpceaaBd
namespace Go.Proofs.Ytakddfhcafpceaa
open Go.ChangeShapes Go.WideShapes Go.ChangeAt Go.RowKit Go.Shelf
set_option linter.unusedVariables false
theorem run_f0 (w : World) (a : Int) (b c : Int) : (Instr.field 36 (.agg #[.int .i64 a, .int .u64 b, .int .u64 c]) 0).run Try.prog w = .ok (.int .i64 a) w := by kernel_rfl
theorem run_f1 (w : World) (a : Int) (b c : Int) : (Instr.field 36 (.agg #[.int .i64 a, .int .u64 b, .int .u64 c]) 1).run Try.prog w = .ok (.int .u64 b) w := by kernel_rfl
theorem run_f2 (w : World) (a : Int) (b c : Int) : (Instr.field 36 (.agg #[.int .i64 a, .int .u64 b, .int .u64 c]) 2).run Try.prog w = .ok (.int .u64 c) w := by kernel_rfl
attribute [local go_sem] run_f0 run_f1 run_f2
theorem inTime_any (w : World) (t : Nat) (ht : t < 18446744073709551616) : Calls Try.prog 23 #[.int .u64 (t : Nat)] w fun e w' => e = .returned (.int .u64 (mt t : Nat)) ∧ w' = w := by
  by_cases h : t < 9223372036854775807
  · have e : mt t = t := by unfold mt; omega
    have h' : (t : Int) < 9223372036854775807 := by omega
    have h'' : ¬ (9223372036854775807 : Int) < t := by omega
    rw [e]
    go_enter Try.func23, Try.ntmps23
    go_wp2
    go_ret
    exact ⟨by first | rfl | simp, rfl⟩
  · have e : mt t = 9223372036854775807 := by unfold mt; omega
    have h' : ¬ (t : Int) < 9223372036854775807 := by omega
    rw [e]
    by_cases h2 : (9223372036854775807 : Int) < t
    · go_enter Try.func23, Try.ntmps23
      go_wp2
      go_ret
      exact ⟨by first | rfl | simp, rfl⟩
    · have e2 : t = 9223372036854775807 := by omega
      subst e2
      go_enter Try.func23, Try.ntmps23
      go_wp2
      go_ret
      exact ⟨by first | rfl | simp, rfl⟩
section
variable (w : World) (B : Nat) (h : Hr) (i : IsH w B h)
theorem start_any (i : IsH w B h) (k : Nat) (hk : k < 18446744073709551616) :
    Calls Try.prog 7 #[.pointer (some ⟨B, 0, none⟩), .int .u64 (k : Nat)] w fun e w' => e = .returned (.int .u64 (h.st k : Nat)) ∧ Kp w w' := by
  have hW := window_any w B h i k hk
  unfold Hr.wn Wn.cs at hW
  clear i
  generalize (h.at k).c = qc at *
  generalize (h.at k).l = ql at *
  generalize h.st k = qs at *
  simp only at hW
  go_enter Try.func7, Try.ntmps7
  go_wp2_with fail
  go_at_call 22
  refine hW.mono ?_
  rintro e w1 ⟨rfl, k1⟩
  go_wp2
  go_ret
  exact ⟨rfl, k1⟩
theorem length_any (i : IsH w B h) (k : Nat) (hk : k < 18446744073709551616) :
    Calls Try.prog 8 #[.pointer (some ⟨B, 0, none⟩), .int .u64 (k : Nat)] w fun e w' => e = .returned (.int .u64 ((h.at k).l : Nat)) ∧ Kp w w' := by
  have hW := window_any w B h i k hk
  unfold Hr.wn Wn.cs at hW
  clear i
  generalize (h.at k).c = qc at *
  generalize (h.at k).l = ql at *
  generalize h.st k = qs at *
  simp only at hW
  go_enter Try.func8, Try.ntmps8
  go_wp2_with fail
  go_at_call 22
  refine hW.mono ?_
  rintro e w1 ⟨rfl, k1⟩
  go_wp2
  go_ret
  exact ⟨rfl, k1⟩
theorem owner_any (i : IsH w B h) (k : Nat) (hk : k < 18446744073709551616) :
    Calls Try.prog 11 #[.pointer (some ⟨B, 0, none⟩), .int .u64 (k : Nat)] w fun e w' => e = .returned (.int .i64 (h.at k).c) ∧ Kp w w' := by
  have hW := window_any w B h i k hk
  unfold Hr.wn Wn.cs at hW
  clear i
  generalize (h.at k).c = qc at *
  generalize (h.at k).l = ql at *
  generalize h.st k = qs at *
  simp only at hW
  go_enter Try.func11, Try.ntmps11
  go_wp2_with fail
  go_at_call 22
  refine hW.mono ?_
  rintro e w1 ⟨rfl, k1⟩
  go_wp2
  go_ret
  exact ⟨rfl, k1⟩
theorem mt_lt {t : Nat} : mt t < 9223372036854775808 := by unfold mt; omega
theorem next_any (i : IsH w B h) (t : Nat) (ht : t < 18446744073709551616) :
    Calls Try.prog 10 #[.pointer (some ⟨B, 0, none⟩), .int .u64 (t : Nat)] w fun e w' => e = .returned (.int .u64 (h.nx t : Nat)) ∧ Kp w w' := by
  have hA := ahead_any w B h i (mt t) (by have := mt_lt (t := t); omega)
  have hT := inTime_any w t ht
  have HE : Hid (h.nx t = h.ah (mt t)) := rfl
  generalize h.ah (mt t) = a at *
  generalize h.nx t = b at *
  clear i
  go_enter Try.func10, Try.ntmps10
  go_wp2_with fail
  go_at_call 23
  refine hT.mono ?_
  rintro e w1 ⟨rfl, rfl⟩
  go_wp2_with fail
  go_at_call 24
  refine hA.mono ?_
  rintro e w1 ⟨rfl, k1⟩
  go_wp2
  go_ret
  exact ⟨ret_int (by rw [HE.out]), k1⟩
set_option maxHeartbeats 1000000 in
theorem at_any (i : IsH w B h) (t : Nat) (ht : t < 18446744073709551616) :
    Calls Try.prog 9 #[.pointer (some ⟨B, 0, none⟩), .int .u64 (t : Nat)] w fun e w' => e = .returned (.tuple #[.int .u64 (h.aN t : Nat), .bool (h.aB t)]) ∧ Kp w w' := by
  have hm := mt_lt (t := t)
  have hA := ahead_any w B h i (mt t + 1) (by omega)
  have hle := Hr.ah_le i.ok (mt t + 1)
  have hT := inTime_any w t ht
  have hS : h.ah (mt t + 1) ≠ 0 → _ := at_st i.ok (t := mt t) (by omega)
  have HN : Hid (h.aN t = h.ah (mt t + 1) - 1) := rfl
  have HB : Hid (h.aB t = (decide (h.ah (mt t + 1) ≠ 0) && decide (mt t < h.rs (h.ah (mt t + 1) - 1) + (h.at (h.ah (mt t + 1) - 1)).l))) := rfl
  have hW : ∀ W, Kp w W → Calls Try.prog 22 #[.pointer (some ⟨B, 0, none⟩), .int .u64 ((h.ah (mt t + 1) - 1 : Nat) : Int)] W fun e w' => e = .returned (.agg (h.wn (h.ah (mt t + 1) - 1)).cs) ∧ Kp W w' := fun W k => window_any W B h (i.kp k) _ (by omega)
  unfold Hr.wn Wn.cs at hW
  simp only at hW
  have hl9 := (i.ok.at_ok (h.ah (mt t + 1) - 1)).2.2.2
  have hm9 := i.ok.m2
  clear i
  generalize h.aN t = AN at *
  generalize h.aB t = AB at *
  generalize h.ah (mt t + 1) = b at *
  generalize mt t = T at *
  generalize (h.at (b - 1)).c = qc at *
  generalize (h.at (b - 1)).l = ql at *
  generalize h.st (b - 1) = qs at *
  generalize h.rs (b - 1) = rs at *
  by_cases hb : b = 0
  · subst hb
    clear hW hS
    go_enter Try.func9, Try.ntmps9
    go_wp2_with fail
    go_at_call 23
    refine hT.mono ?_
    rintro e w1 ⟨rfl, rfl⟩
    go_wp2_with fail
    go_at_call 24
    refine hA.mono ?_
    rintro e w1 ⟨rfl, k1⟩
    go_wp2
    go_ret2
    exact ⟨by rw [HN.out, HB.out]; simp, k1⟩
  · obtain ⟨hs1, rfl⟩ := hS hb
    have hbz : ¬ (b : Int) = 0 := by omega
    have hb1 : IntKind.u64.wrap ((b : Int) - 1) = ((b - 1 : Nat) : Int) := by rw [show (b : Int) - 1 = ((b - 1 : Nat) : Int) by omega]; exact u64n (by omega)
    have hts : IntKind.u64.wrap ((T : Int) - (qs : Nat)) = ((T - qs : Nat) : Int) := by rw [show (T : Int) - (qs : Nat) = ((T - qs : Nat) : Int) by omega]; exact u64n (by omega)
    have HX : Hid (AB = decide (((T - qs : Nat) : Int) < (ql : Nat))) := by
      show AB = _
      rw [HB.out]; simp [hb]; omega
    clear hS HB
    go_enter Try.func9, Try.ntmps9
    go_wp2_with fail
    go_at_call 23
    refine hT.mono ?_
    rintro e w1 ⟨rfl, rfl⟩
    go_wp2_with fail
    go_at_call 24
    refine hA.mono ?_
    rintro e w2 ⟨rfl, k2⟩
    have hW2 := hW w2 k2
    clear hW hA hT
    go_wp2_with fail
    go_at_call 22
    refine hW2.mono ?_
    rintro e w3 ⟨rfl, k3⟩
    have HK : Hid (Kp w1 w3) := k2.trans k3
    have g7 := heap_alloc_new w3 (.cells #[.int .i64 qc, .int .u64 (qs : Nat), .int .u64 (ql : Nat)] 36)
    have s1 : (w3.alloc (.cells #[.int .i64 qc, .int .u64 (qs : Nat), .int .u64 (ql : Nat)] 36)).cell? ⟨w3.heap.size, 1, none⟩ = some (.int .u64 (qs : Nat)) := (cells_at g7 1).1
    have s2 : (w3.alloc (.cells #[.int .i64 qc, .int .u64 (qs : Nat), .int .u64 (ql : Nat)] 36)).cell? ⟨w3.heap.size, 2, none⟩ = some (.int .u64 (ql : Nat)) := (cells_at g7 2).1
    clear hW2 k2 k3
    go_upto_region 6 with fail
    go_quiet (fail)
    go_wp2
    go_ret2
    refine ⟨?_, (HK.out.trans (Kp.al _ _)).trans (Kp.drewN _ _)⟩
    rw [HN.out, HX.out]
    simp
end
end Go.Proofs.Ytakddfhcafpceaa
