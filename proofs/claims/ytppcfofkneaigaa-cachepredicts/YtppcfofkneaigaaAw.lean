import Derived.Test.YtppcfofkneaigaaSh
namespace Go.Proofs.Ytppcfofkneaigaa
open Go.ChangeShapes Go.WideShapes Go.ChangeAt Go.RowKit
set_option linter.unusedVariables false

theorem ptr_nil_no (b : Nat) (w : World) : (binOp BinOp.eql 28 (Value.pointer (some ⟨b, 0, none⟩)) (Value.pointer none)).run Try.prog w = .ok (.bool false) w := by
  kernel_rfl

set_option maxRecDepth 10000 in
theorem awake_any (w : World) : Calls Try.prog 9 #[] w fun e w' => e = .returned (.bool true) ∧ Chg w w' (fun _ => False) := by
  have hn := ptr_nil_no
  have hN : ∀ w, Calls Try.prog 12 #[.agg #[.int .i64 1, .int .i64 1, .int .i64 16]] w fun e w' => ∃ B, e = .returned (.tuple #[.pointer (some ⟨B, 0, none⟩), .int .i64 0]) ∧ IsC w' B 1 1 16 (fun _ => []) ∧ w.heap.size ≤ B ∧ Chg w w' (fun _ => False) :=
    fun w => new_yes w 1 1 16 ⟨by omega, by omega, by omega, by omega, by omega, by omega⟩ (by simp [Pow]) (by simp [Pow])
  have hA1 : ∀ w B, IsC w B 1 1 16 (fun _ => []) → Calls Try.prog 13 #[.pointer (some ⟨B, 0, none⟩), .int .u32 0, .bool true] w fun e w' => e = .returned (.agg #[.bool false, .bool false, .int .i64 12]) ∧ IsC w' B 1 1 16 (fun i => if i = 0 then [(0, true)] else []) ∧ Chg w w' (fun k => k = B) :=
    fun w B h => access_any w B 1 1 16 _ h 0 (by omega) true
  have hA2 : ∀ w B, IsC w B 1 1 16 (fun i => if i = 0 then [(0, true)] else []) → Calls Try.prog 13 #[.pointer (some ⟨B, 0, none⟩), .int .u32 15, .bool false] w fun e w' => e = .returned (.agg #[.bool true, .bool false, .int .i64 1]) ∧ IsC w' B 1 1 16 (fun i => if i = 0 then [(0, true)] else (if i = 0 then [(0, true)] else [])) ∧ Chg w w' (fun k => k = B) :=
    fun w B h => access_any w B 1 1 16 _ h 15 (by omega) false
  have hA3 : ∀ w B, IsC w B 1 1 16 (fun i => if i = 0 then [(0, true)] else (if i = 0 then [(0, true)] else [])) → Calls Try.prog 13 #[.pointer (some ⟨B, 0, none⟩), .int .u32 16, .bool false] w fun e w' => e = .returned (.agg #[.bool false, .bool true, .int .i64 20]) ∧ Chg w w' (fun k => k = B) :=
    fun w B h => (access_any w B 1 1 16 _ h 16 (by omega) false).mono (by rintro e w' ⟨rfl, h1, h2⟩; exact ⟨rfl, h2⟩)
  go_enter Try.func9, Try.ntmps9
  go_wp2_with fail
  go_at_call 12
  refine (hN _).mono ?_
  rintro e w1 ⟨B, rfl, hI, hB, hC⟩
  have hA := hA1 _ _ hI
  have K : Hid (w.heap.size ≤ B ∧ Chg w w1 (fun _ => False) ∧ B < w1.heap.size) := ⟨hB, hC, hI.lt⟩
  clear hI hB hC hN hA1
  go_wp2_with fail
  go_at_call 13
  refine hA.mono ?_
  rintro e w2 ⟨rfl, hI, hC⟩
  have hA := hA2 _ _ (hI.kept ((Chg.refl w2 (fun _ => False)).alloc (.cells #[.bool false, .bool false, .int .i64 12] 33)) (fun h => h))
  have K2 : Hid (Chg w1 w2 (fun k => k = B)) := hC
  clear hC hA2
  go_wp2_with fail
  go_at_call 13
  refine hA.mono ?_
  rintro e w3 ⟨rfl, hI3, hC3⟩
  have hBl := hI.lt
  have t1 := hC3.heap (heap_alloc_new w2 _) (show ¬ (w2.heap.size = B) by omega)
  have hA := hA3 _ _ (hI3.kept ((Chg.refl w3 (fun _ => False)).alloc (.cells #[.bool true, .bool false, .int .i64 1] 33)) (fun h => h))
  have hBl3 := hI3.lt
  have hC13 : Chg w1 w3 (fun k => k = B) := (K2.out.alloc _).trans hC3 (fun _ _ h => h)
  have K3 : Hid (Chg w1 w3 (fun k => k = B)) := hC13
  clear hI hI3 hC3 hC13 hA3
  go_wp2_with fail
  go_at_call 13
  refine hA.mono ?_
  rintro e w4 ⟨rfl, hC4⟩
  have t2 := hC4.heap (heap_alloc_new w3 _) (show ¬ (w3.heap.size = B) by omega)
  have hlt1 := (Array.getElem?_eq_some_iff.1 t1).1
  have t3 := hC4.heap (al_old (.cells #[.bool true, .bool false, .int .i64 1] 33) t1) (show ¬ (w2.heap.size = B) by omega)
  have t4 := al_old (.cells #[.bool false, .bool true, .int .i64 20] 33) t3
  have t5 := al_old (.cells #[.bool false, .bool true, .int .i64 20] 33) t2
  have c0 := (cells_at t4 0).1
  have c1 := (cells_at t4 2).1
  have c2 := (cells_at t5 0).1
  have c3 := (cells_at t5 2).1
  simp only [List.getElem?_toArray, List.getElem?_cons_zero, List.getElem?_cons_succ] at c0 c1 c2 c3
  have K4 : Hid (Chg w1 w4 (fun k => k = B)) := (K3.out.alloc _).trans hC4 (fun _ _ h => h)
  clear t1 t2 t3 t4 t5 hC4 hA
  go_wp2
  go_ret
  obtain ⟨q1, q2, q3⟩ := K.out
  refine ⟨rfl, (q2.trans K4.out (fun i hi e => ?_)).alloc _⟩
  omega
end Go.Proofs.Ytppcfofkneaigaa
