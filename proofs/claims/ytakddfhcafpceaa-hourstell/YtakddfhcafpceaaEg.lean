import Derived.Test.YtakddfhcafpceaaEf
namespace Go.Proofs.Ytakddfhcafpceaa
open Go.ChangeShapes Go.WideShapes Go.ChangeAt Go.RowKit Go.Shelf
set_option linter.unusedVariables false
set_option maxHeartbeats 2000000 in
theorem ticks_any (w : World) (B F : Nat) (h : Hr) (i : IsH w B h) (j : IsH w F h) (t : Nat) (ht : t < 18446744073709551616) :
    Calls Try.prog 15 #[.pointer (some ⟨B, 0, none⟩), .pointer (some ⟨F, 0, none⟩), .int .u64 (t : Nat)] w fun e w' => e = .returned (.bool true) ∧ Kp w w' := by
  have c1 := at_any w B h i t ht
  have c2 : ∀ W, Kp w W → Calls Try.prog 27 #[.pointer (some ⟨F, 0, none⟩), .int .u64 (t : Nat)] W fun e w' => e = .returned (.tuple #[.int .u64 (h.aN t : Nat), .bool (h.aB t)]) ∧ Kp w w' := fun W k => (rat_any W F h (j.kp k) t ht).mono fun e w' ⟨x, y⟩ => ⟨x, k.trans y⟩
  have c3 : ∀ W, Kp w W → Calls Try.prog 10 #[.pointer (some ⟨B, 0, none⟩), .int .u64 (t : Nat)] W fun e w' => e = .returned (.int .u64 (h.nx t : Nat)) ∧ Kp w w' := fun W k => (next_any W B h (i.kp k) t ht).mono fun e w' ⟨x, y⟩ => ⟨x, k.trans y⟩
  have c4 : ∀ W, Kp w W → Calls Try.prog 28 #[.pointer (some ⟨F, 0, none⟩), .int .u64 (t : Nat)] W fun e w' => e = .returned (.int .u64 (h.nx t : Nat)) ∧ Kp w w' := fun W k => (rnext_any W F h (j.kp k) t ht).mono fun e w' ⟨x, y⟩ => ⟨x, by rw [y]; exact k⟩
  clear i j
  generalize h.aN t = aN at *
  generalize h.aB t = aB at *
  generalize h.nx t = nx at *
  go_enter Try.func15, Try.ntmps15
  go_wp2_with fail
  go_at_call 9
  refine c1.mono ?_
  rintro e w1 ⟨rfl, k1⟩
  go_wp2_with fail
  go_at_call 27
  refine (c2 _ k1).mono ?_
  rintro e w2 ⟨rfl, k2⟩
  go_wp2_with fail
  go_at_call 10
  refine (c3 _ k2).mono ?_
  rintro e w3 ⟨rfl, k3⟩
  go_wp2_with fail
  go_at_call 28
  refine (c4 _ k3).mono ?_
  rintro e w4 ⟨rfl, k4⟩
  go_wp2
  go_ret
  exact ⟨by first | rfl | simp, k4⟩
set_option maxHeartbeats 2000000 in
theorem windows_any (w : World) (B F : Nat) (h : Hr) (i : IsH w B h) (j : IsH w F h) (k : Nat) (hk : k < 18446744073709551616) :
    Calls Try.prog 16 #[.pointer (some ⟨B, 0, none⟩), .pointer (some ⟨F, 0, none⟩), .int .u64 (k : Nat)] w fun e w' => e = .returned (.bool true) ∧ Kp w w' := by
  have c1 := start_any w B h i k hk
  have c2 : ∀ W, Kp w W → Calls Try.prog 29 #[.pointer (some ⟨F, 0, none⟩), .int .u64 (k : Nat)] W fun e w' => e = .returned (.tuple #[.int .u64 (h.st k : Nat), .bool (decide (h.rs k ≤ 9223372036854775807))]) ∧ Kp w w' := fun W q => (rstart_any W F h (j.kp q) k hk).mono fun e w' ⟨x, y⟩ => ⟨x, q.trans y⟩
  have c3 : ∀ W, Kp w W → Calls Try.prog 30 #[.pointer (some ⟨F, 0, none⟩), .int .u64 (k : Nat)] W fun e w' => e = .returned (.agg #[.int .i64 (h.at k).c, .int .u64 ((h.at k).s : Nat), .int .u64 ((h.at k).l : Nat)]) ∧ Kp w w' := fun W q => (rwindow_any W F h (j.kp q) k hk).mono fun e w' ⟨x, y⟩ => ⟨x, q.trans y⟩
  have c4 : ∀ W, Kp w W → Calls Try.prog 8 #[.pointer (some ⟨B, 0, none⟩), .int .u64 (k : Nat)] W fun e w' => e = .returned (.int .u64 ((h.at k).l : Nat)) ∧ Kp W w' := fun W q => length_any W B h (i.kp q) k hk
  have c5 : ∀ W, Kp w W → Calls Try.prog 11 #[.pointer (some ⟨B, 0, none⟩), .int .u64 (k : Nat)] W fun e w' => e = .returned (.int .i64 (h.at k).c) ∧ Kp W w' := fun W q => owner_any W B h (i.kp q) k hk
  clear i j
  generalize decide (h.rs k ≤ 9223372036854775807) = ok at *
  generalize h.st k = st at *
  generalize (h.at k).c = qc at *
  generalize (h.at k).s = qs at *
  generalize (h.at k).l = ql at *
  go_enter Try.func16, Try.ntmps16
  go_wp2_with fail
  go_at_call 7
  refine c1.mono ?_
  rintro e w1 ⟨rfl, k1⟩
  go_wp2_with fail
  go_at_call 29
  refine (c2 _ k1).mono ?_
  rintro e w2 ⟨rfl, k2⟩
  go_wp2_with fail
  go_at_call 30
  refine (c3 _ k2).mono ?_
  rintro e w3 ⟨rfl, k3⟩
  have al := Kp.al w3 (.cells #[.int .i64 qc, .int .u64 (qs : Nat), .int .u64 (ql : Nat)] 36)
  have g := heap_alloc_new w3 (.cells #[.int .i64 qc, .int .u64 (qs : Nat), .int .u64 (ql : Nat)] 36)
  have c4' := c4 _ (k3.trans al)
  go_wp2_with fail
  go_at_call 8
  refine c4'.mono ?_
  rintro e w4 ⟨rfl, k4⟩
  have c5' := c5 w4 ((k3.trans al).trans k4)
  go_wp2_with fail
  go_at_call 11
  refine c5'.mono ?_
  rintro e w5 ⟨rfl, k5⟩
  have g5 := (k4.trans k5).heap g
  have x0 := (cells_at g5 0).1
  have x2 := (cells_at g5 2).1
  simp only [List.getElem?_toArray, List.getElem?_cons_zero, List.getElem?_cons_succ] at x0 x2
  have HK : Hid (Kp w w5) := ((k3.trans al).trans k4).trans k5
  clear k1 k2 k3 k4 k5 al g g5 c1 c2 c3 c4 c5 c4' c5'
  go_wp2
  go_ret
  exact ⟨by first | rfl | simp, HK.out⟩
end Go.Proofs.Ytakddfhcafpceaa
