import Derived.Test.YtibpbemenjgncaaAe
namespace Go.Proofs.Ytibpbemenjgncaa
open Go.ChangeShapes Go.WideShapes Go.ChangeAt Go.RowKit
set_option linter.unusedVariables false
set_option maxHeartbeats 1000000 in
/-- Two states that are the same. -/
theorem sameState_eq (w : World) (th nt : Bool) (xs ys : List Int) (t1 t2 : Int) (v u v' u' : Value) (h1 : Bs w v xs) (h2 : Bs w u ys) (h3 : Bs w v' xs) (h4 : Bs w u' ys) :
    Calls Try.prog 18 #[.agg #[.bool th, .bool nt, v, .int .u64 t1, u, .int .u64 t2], .agg #[.bool th, .bool nt, v', .int .u64 t1, u', .int .u64 t2]] w fun e w' => e = .returned (.bool true) ∧ Kp w w' := by
  obtain ⟨a1, c1, e1⟩ := h1.vshape
  obtain ⟨a2, c2, e2⟩ := h2.vshape
  obtain ⟨a3, c3, e3⟩ := h3.vshape
  obtain ⟨a4, c4, e4⟩ := h4.vshape
  subst e1 e2 e3 e4
  have HH : Hid (Bs w (.slice a1 xs.length c1) xs ∧ Bs w (.slice a2 ys.length c2) ys ∧ Bs w (.slice a3 xs.length c3) xs ∧ Bs w (.slice a4 ys.length c4) ys) := ⟨h1, h2, h3, h4⟩
  clear h1 h2 h3 h4
  have q1 : (t1 == t1) = true := by simp
  have q2 : (t2 == t2) = true := by simp
  have q3 : (th == th) = true := by simp
  have q4 : (nt == nt) = true := by simp
  obtain ⟨W, hW⟩ : ∃ W, W = (w.alloc (.cells #[.bool th, .bool nt, .slice a1 xs.length c1, .int .u64 t1, .slice a2 ys.length c2, .int .u64 t2] 31)).alloc (.cells #[.bool th, .bool nt, .slice a3 xs.length c3, .int .u64 t1, .slice a4 ys.length c4, .int .u64 t2] 31) := ⟨_, rfl⟩
  have kW : Kp w W := by rw [hW]; exact (Kp.al _ _).alloc _
  have R1 : W.heap[w.heap.size]? = some (.cells #[.bool th, .bool nt, .slice a1 xs.length c1, .int .u64 t1, .slice a2 ys.length c2, .int .u64 t2] 31 (0, 0)) := by rw [hW]; exact al_old _ (heap_alloc_new w _)
  have R2 : W.heap[w.heap.size + 1]? = some (.cells #[.bool th, .bool nt, .slice a3 xs.length c3, .int .u64 t1, .slice a4 ys.length c4, .int .u64 t2] 31 (0, 0)) := by
    rw [hW]
    have := heap_alloc_new (w.alloc (.cells #[.bool th, .bool nt, .slice a1 xs.length c1, .int .u64 t1, .slice a2 ys.length c2, .int .u64 t2] 31)) (.cells #[.bool th, .bool nt, .slice a3 xs.length c3, .int .u64 t1, .slice a4 ys.length c4, .int .u64 t2] 31)
    simpa using this
  have KK : Hid (Kp w W ∧ W.heap[w.heap.size]? = some (.cells #[.bool th, .bool nt, .slice a1 xs.length c1, .int .u64 t1, .slice a2 ys.length c2, .int .u64 t2] 31 (0, 0)) ∧ W.heap[w.heap.size + 1]? = some (.cells #[.bool th, .bool nt, .slice a3 xs.length c3, .int .u64 t1, .slice a4 ys.length c4, .int .u64 t2] 31 (0, 0))) := ⟨kW, R1, R2⟩
  have HW : Hid (W = (w.alloc (.cells #[.bool th, .bool nt, .slice a1 xs.length c1, .int .u64 t1, .slice a2 ys.length c2, .int .u64 t2] 31)).alloc (.cells #[.bool th, .bool nt, .slice a3 xs.length c3, .int .u64 t1, .slice a4 ys.length c4, .int .u64 t2] 31)) := hW
  clear hW kW R1 R2
  go_enter Try.func18, Try.ntmps18
  go_upto_region 1 with fail
  rw [← HW.out]
  have cells : ∀ W', Kp W W' → ∀ i : Nat, W'.cell? ⟨w.heap.size, i, none⟩ = (#[.bool th, .bool nt, .slice a1 xs.length c1, .int .u64 t1, .slice a2 ys.length c2, .int .u64 t2] : Array Value)[i]? ∧ W'.cell? ⟨w.heap.size + 1, i, none⟩ = (#[.bool th, .bool nt, .slice a3 xs.length c3, .int .u64 t1, .slice a4 ys.length c4, .int .u64 t2] : Array Value)[i]? := fun W' k i =>
    ⟨(cells_at (k.heap KK.out.2.1) i).1, (cells_at (k.heap KK.out.2.2) i).1⟩
  have HC : Hid (∀ W', Kp W W' → ∀ i : Nat, W'.cell? ⟨w.heap.size, i, none⟩ = (#[.bool th, .bool nt, .slice a1 xs.length c1, .int .u64 t1, .slice a2 ys.length c2, .int .u64 t2] : Array Value)[i]? ∧ W'.cell? ⟨w.heap.size + 1, i, none⟩ = (#[.bool th, .bool nt, .slice a3 xs.length c3, .int .u64 t1, .slice a4 ys.length c4, .int .u64 t2] : Array Value)[i]?) := cells
  clear cells HW
  generalize w.heap.size = N at *
  have z2 : W.cell? ⟨N, 2, none⟩ = some (.slice a1 xs.length c1) := (HC.out W (Kp.refl _) 2).1
  have z3 : W.cell? ⟨N + 1, 2, none⟩ = some (.slice a3 xs.length c3) := (HC.out W (Kp.refl _) 2).2
  go_wp2_with fail
  go_at_call 13
  refine (same_any W _ _ xs xs (HH.out.1.kp KK.out.1) (HH.out.2.2.1.kp KK.out.1)).mono ?_
  rintro e w1 ⟨rfl, m1, hm1⟩
  have k1 : Kp W w1 := by rw [hm1]; exact Kp.drewN _ _
  have K1 : Hid (Kp W w1) := k1
  have s1 : decide (xs = xs) = true := by simp
  rw [s1]
  clear z2 z3 hm1 s1
  have z4 : w1.cell? ⟨N, 4, none⟩ = some (.slice a2 ys.length c2) := (HC.out w1 k1 4).1
  have z5 : w1.cell? ⟨N + 1, 4, none⟩ = some (.slice a4 ys.length c4) := (HC.out w1 k1 4).2
  clear k1
  go_wp2_with fail
  go_at_call 13
  refine (same_any w1 _ _ ys ys (HH.out.2.1.kp (KK.out.1.trans K1.out)) (HH.out.2.2.2.kp (KK.out.1.trans K1.out))).mono ?_
  rintro e w2 ⟨rfl, m2, hm2⟩
  have k2 : Kp W w2 := K1.out.trans (by rw [hm2]; exact Kp.drewN _ _)
  have s1 : decide (ys = ys) = true := by simp
  rw [s1]
  have y0 : w2.cell? ⟨N, 0, none⟩ = some (.bool th) := (HC.out w2 k2 0).1
  have x0 : w2.cell? ⟨N + 1, 0, none⟩ = some (.bool th) := (HC.out w2 k2 0).2
  have y1 : w2.cell? ⟨N, 1, none⟩ = some (.bool nt) := (HC.out w2 k2 1).1
  have x1 : w2.cell? ⟨N + 1, 1, none⟩ = some (.bool nt) := (HC.out w2 k2 1).2
  have y3 : w2.cell? ⟨N, 3, none⟩ = some (.int .u64 t1) := (HC.out w2 k2 3).1
  have x3 : w2.cell? ⟨N + 1, 3, none⟩ = some (.int .u64 t1) := (HC.out w2 k2 3).2
  have y5 : w2.cell? ⟨N, 5, none⟩ = some (.int .u64 t2) := (HC.out w2 k2 5).1
  have x5 : w2.cell? ⟨N + 1, 5, none⟩ = some (.int .u64 t2) := (HC.out w2 k2 5).2
  have K2 : Hid (Kp w w2) := KK.out.1.trans k2
  clear k2 hm2 z4 z5 s1 HC K1 KK
  go_wp2_with fail
  go_ret
  exact ⟨by rfl, K2.out⟩
end Go.Proofs.Ytibpbemenjgncaa
