import Derived.Test.YtggjfbfilidgoaaLd
namespace Go.Proofs.Ytggjfbfilidgoaa
open Go.ChangeShapes Go.WideShapes Go.ChangeAt Go.RowKit
set_option linter.unusedVariables false

theorem mptr_nil_no (b : Nat) (w : World) : (binOp BinOp.eql 24 (Value.pointer (some ⟨b, 0, none⟩)) (Value.pointer none)).run Try.prog w = .ok (.bool false) w := by
  kernel_rfl

set_option maxRecDepth 10000 in
theorem works_any (w : World) : Calls Try.prog 9 #[] w fun e w' => e = .returned (.bool true) ∧ Chg w w' (fun _ => False) := by
  have hn := mptr_nil_no
  go_enter Try.func9, Try.ntmps9
  go_wp2_with fail
  go_at_call 10
  refine (new_ok w 1 (by omega) (by omega)).mono ?_
  rintro e w1 ⟨B, M, rfl, hI, hB, hM, hC⟩
  have K1 : Hid (Chg w w1 (fun _ => False) ∧ w.heap.size ≤ B ∧ w.heap.size ≤ M) := ⟨hC, hB, hM⟩
  clear hC hB hM
  have hS := store_ok w1 B M 1 _ _ hI 0 4 67305985 (by omega) (by omega) (by omega) (by omega)
  clear hI
  go_wp2_with fail
  go_at_call 12
  refine hS.mono ?_
  rintro e w2 ⟨f', rfl, hI, hC, hF⟩
  have K2 : Hid (Chg w1 w2 (Mf B M (fun _ => none))) := hC
  have e1 : ldN (stN (fun _ => 0) 0 67305985 4) 0 1 = 1 := by decide +kernel
  have e2 : ldN (stN (fun _ => 0) 0 67305985 4) 2 2 = 1027 := by decide +kernel
  have hL1 := load_ok w2 B M 1 f' _ hI 0 1 (by omega) (by omega) (by omega)
  have hL2 := load_ok w2 B M 1 f' _ hI 2 2 (by omega) (by omega) (by omega)
  have hL3 := load_bad w2 (.pointer (some ⟨B, 0, none⟩)) 1 2 21 (by decide) (word_align w2 _ 1 2 (by omega) (by omega))
  rw [e1] at hL1
  rw [e2] at hL2
  clear hC hF hI hS e1 e2
  go_wp2_with fail
  go_at_call 13
  refine hL1.mono ?_
  rintro e w3 ⟨rfl, rfl⟩
  go_wp2_with fail
  go_at_call 13
  refine hL2.mono ?_
  rintro e w4 ⟨rfl, rfl⟩
  go_wp2_with fail
  go_at_call 13
  refine hL3.mono ?_
  rintro e w5 ⟨rfl, rfl⟩
  go_wp2
  go_ret
  refine ⟨rfl, ?_⟩
  obtain ⟨q1, q2, q3⟩ := K1.out
  refine q1.trans K2.out (fun i hi e => ?_)
  rcases e with rfl | rfl | ⟨p, hp⟩
  · omega
  · omega
  · cases hp
end Go.Proofs.Ytggjfbfilidgoaa
