import Derived.Test.YtghiffpolacmiabGreatDoorRb
namespace Go.Proofs.YtghiffpolacmiabGreatDoor
open Go.ChangeShapes Go.WideShapes Go.ChangeAt Go.RowKit
set_option linter.unusedVariables false

def prV (o x y z n : Int) : Value := .agg #[.int .i64 o, .int .i64 x, .int .i64 y, .int .i64 z, .int .i64 n]
set_option maxRecDepth 100000 in
set_option maxHeartbeats 2000000 in
theorem apart_a (w : World) (v : Nat) (hv : v < 4294967296) (x y z : Int) (o : Int) (hoo : -1 ≤ o ∧ o ≤ 62) (e1 : (v : Int) / 67108864 % 64 = o + 1) (e2 : (v : Int) / 4194304 % 16 = x) (e3 : (v : Int) / 262144 % 16 = y) (e4 : (v : Int) / 16384 % 16 = z) (ho : o < 0) :
    Calls Tryz.prog 15 #[.int .u32 (v : Nat)] w fun e w' => e = .returned (prV (-1) 0 0 0 0) ∧ Kp w w' := by
  have f1 := fun w => field_26_6 w v hv
  have f2 := fun w => field_22_4 w v hv
  have f3 := fun w => field_18_4 w v hv
  have f4 := fun w => field_14_4 w v hv
  have f5 := fun w => field_0_18 w v hv
  have f6 := fun w => field_0_22 w v hv
  have f7 := fun w => field_0_14 w v hv
  have f8 := fun w => field_0_26 w v hv
  rw [e1] at f1
  rw [e2] at f2
  rw [e3] at f3
  rw [e4] at f4
  have b5 : 0 ≤ (v : Int) % 262144 ∧ (v : Int) % 262144 < 262144 := by omega
  have b6 : 0 ≤ (v : Int) % 4194304 ∧ (v : Int) % 4194304 < 4194304 := by omega
  have b8 : 0 ≤ (v : Int) % 67108864 ∧ (v : Int) % 67108864 < 67108864 := by omega
  clear e1 e2 e3 e4 hv
  generalize (v : Int) % 262144 = n18 at *
  generalize (v : Int) % 4194304 = n22 at *
  generalize (v : Int) % 67108864 = n26 at *
  generalize (v : Int) % 16384 = n14 at *
  have s18 := fun w => signed_18 w n18 b5
  have s22 := fun w => signed_22 w n22 b6
  generalize (if 131072 ≤ n18 then n18 - 262144 else n18) = m18 at *
  generalize (if 2097152 ≤ n22 then n22 - 4194304 else n22) = m22 at *
  have q13 : (o == 13) = false := by simpa using (show ¬ o = 13 by omega)
  have q20 : (o == 20) = false := by simpa using (show ¬ o = 20 by omega)
  have q21 : (o == 21) = false := by simpa using (show ¬ o = 21 by omega)
  have q38 : (o == 38) = false := by simpa using (show ¬ o = 38 by omega)
  have q22 : (o == 22) = false := by simpa using (show ¬ o = 22 by omega)
  have q37 : (o == 37) = false := by simpa using (show ¬ o = 37 by omega)
  have q39 : (o == 39) = false := by simpa using (show ¬ o = 39 by omega)
  have q40 : (o == 40) = false := by simpa using (show ¬ o = 40 by omega)
  have q45 : (o == 45) = false := by simpa using (show ¬ o = 45 by omega)
  go_enter Tryz.func15, Tryz.ntmps15
  go_upto_region 3 with (first
    | (go_at_call 27; with_reducible refine (f1 _).mono ?_; rintro e w1 ⟨rfl, k1⟩)
    | (go_at_call 27; with_reducible refine (f2 _).mono ?_; rintro e w2 ⟨rfl, k2⟩)
    | (go_at_call 27; with_reducible refine (f3 _).mono ?_; rintro e w3 ⟨rfl, k3⟩)
    | (go_at_call 27; with_reducible refine (f4 _).mono ?_; rintro e w4 ⟨rfl, k4⟩))
  clear f1 f2 f3 f4
  obtain ⟨w5, hw5⟩ : ∃ w5, w5 = w4.alloc (.cells #[.int .i64 o, .int .i64 x, .int .i64 y, .int .i64 z, .int .i64 0] 62) := ⟨_, rfl⟩
  have n5 : w5.heap[w4.heap.size]? = some (.cells #[.int .i64 o, .int .i64 x, .int .i64 y, .int .i64 z, .int .i64 0] 62 (0, 0)) := by rw [hw5]; exact heap_alloc_new w4 _
  have k5 : Kp w4 w5 := by rw [hw5]; exact (Chg.refl w4 _).alloc _
  rw [← hw5]
  clear hw5
  have kz : Kp ((w.alloc (.cells #[.int .i64 0, .int .i64 0, .int .i64 0, .int .i64 0, .int .i64 0] 62)).alloc (.cells #[.int .i64 (-1), .int .i64 0, .int .i64 0, .int .i64 0, .int .i64 0] 62)) w4 := Kp.trans k1 (Kp.trans k2 (Kp.trans k3 k4))
  have z0 : w.heap.size + 2 ≤ w4.heap.size := by have := kz.size; simp at this; omega
  have zz : w4.heap[w.heap.size]? = some (.cells #[.int .i64 0, .int .i64 0, .int .i64 0, .int .i64 0, .int .i64 0] 62 (0, 0)) := Kp.heap kz (Kp.heap ((Chg.refl _ _).alloc _) (heap_alloc_new w _))
  have zn : w4.heap[w.heap.size + 1]? = some (.cells #[.int .i64 (-1), .int .i64 0, .int .i64 0, .int .i64 0, .int .i64 0] 62 (0, 0)) := Kp.heap kz (by have := heap_alloc_new (w.alloc (.cells #[.int .i64 0, .int .i64 0, .int .i64 0, .int .i64 0, .int .i64 0] 62)) (.cells #[.int .i64 (-1), .int .i64 0, .int .i64 0, .int .i64 0, .int .i64 0] 62); simpa using this)
  have kw : Kp w w4 := Kp.trans ((Chg.refl w _).alloc _ |>.alloc _) kz
  clear k1 k2 k3 k4 kz
  go_upto_region 4 with (go_at_call 27; with_reducible refine (f5 _).mono ?_; rintro e w6 ⟨rfl, k6⟩)
  go_upto_region 7 with (go_at_call 27; with_reducible refine (f6 _).mono ?_; rintro e w7 ⟨rfl, k7⟩)
  have K7 : Kp w4 w7 := Kp.trans k5 (Kp.trans k6 k7)
  have P7 := Kp.heap (Kp.trans k6 k7) n5
  have Z7 := Kp.heap K7 zz
  have N7 := Kp.heap K7 zn
  obtain ⟨c0, c1, c2, c3, c4, g0, g1, g2, g3, g4⟩ := cells5 P7
  obtain ⟨d0, d1, d2, d3, d4, _⟩ := cells5 N7
  obtain ⟨t0, t1, t2, t3, t4, u0, u1, u2, u3, u4⟩ := cells5 Z7
  have HH : Hid (Kp w w7 ∧ w.heap.size + 2 ≤ w4.heap.size ∧ w7.heap[w4.heap.size]? = some (.cells #[.int .i64 o, .int .i64 x, .int .i64 y, .int .i64 z, .int .i64 0] 62 (0, 0)) ∧ w7.heap[w.heap.size]? = some (.cells #[.int .i64 0, .int .i64 0, .int .i64 0, .int .i64 0, .int .i64 0] 62 (0, 0)) ∧ w7.heap[w.heap.size + 1]? = some (.cells #[.int .i64 (-1), .int .i64 0, .int .i64 0, .int .i64 0, .int .i64 0] 62 (0, 0))) := ⟨Kp.trans kw K7, z0, P7, Z7, N7⟩
  have e01 : ¬ w.heap.size = w4.heap.size := by omega
  have e02 : ¬ w4.heap.size = w.heap.size := by omega
  have e03 : ¬ w4.heap.size = w.heap.size + 1 := by omega
  have e04 : ¬ w.heap.size + 1 = w4.heap.size := by omega
  clear kw K7 P7 Z7 N7 zz zn n5 k5 k6 k7 f5 f6 z0
  go_wp2_with fail
  have KW : Kp w w7 := HH.out.1
  have ZW := HH.out.2.2.2.1
  have lt4 := HH.out.2.1
  refine ⟨rfl, _, ?_, rfl, ?_⟩
  · exact results_cell_row rfl _ _ w.heap.size 62 _ (0, 0) _ rfl (box5 ZW _ _ _ _ _ rfl).1 Tryz.underlying62 rfl (by kernel_rfl)
  · exact Chg.trans KW (box5 ZW _ _ _ _ _ rfl).2.2 (fun i hi e => by omega)
set_option maxRecDepth 100000 in
set_option maxHeartbeats 2000000 in
theorem apart_b (w : World) (v : Nat) (hv : v < 4294967296) (x y z : Int) (o : Int) (hoo : -1 ≤ o ∧ o ≤ 62) (e1 : (v : Int) / 67108864 % 64 = o + 1) (e2 : (v : Int) / 4194304 % 16 = x) (e3 : (v : Int) / 262144 % 16 = y) (e4 : (v : Int) / 16384 % 16 = z) (ho : 47 < o) :
    Calls Tryz.prog 15 #[.int .u32 (v : Nat)] w fun e w' => e = .returned (prV (-1) 0 0 0 0) ∧ Kp w w' := by
  have f1 := fun w => field_26_6 w v hv
  have f2 := fun w => field_22_4 w v hv
  have f3 := fun w => field_18_4 w v hv
  have f4 := fun w => field_14_4 w v hv
  have f5 := fun w => field_0_18 w v hv
  have f6 := fun w => field_0_22 w v hv
  have f7 := fun w => field_0_14 w v hv
  have f8 := fun w => field_0_26 w v hv
  rw [e1] at f1
  rw [e2] at f2
  rw [e3] at f3
  rw [e4] at f4
  have b5 : 0 ≤ (v : Int) % 262144 ∧ (v : Int) % 262144 < 262144 := by omega
  have b6 : 0 ≤ (v : Int) % 4194304 ∧ (v : Int) % 4194304 < 4194304 := by omega
  have b8 : 0 ≤ (v : Int) % 67108864 ∧ (v : Int) % 67108864 < 67108864 := by omega
  clear e1 e2 e3 e4 hv
  generalize (v : Int) % 262144 = n18 at *
  generalize (v : Int) % 4194304 = n22 at *
  generalize (v : Int) % 67108864 = n26 at *
  generalize (v : Int) % 16384 = n14 at *
  have s18 := fun w => signed_18 w n18 b5
  have s22 := fun w => signed_22 w n22 b6
  generalize (if 131072 ≤ n18 then n18 - 262144 else n18) = m18 at *
  generalize (if 2097152 ≤ n22 then n22 - 4194304 else n22) = m22 at *
  have q13 : (o == 13) = false := by simpa using (show ¬ o = 13 by omega)
  have q20 : (o == 20) = false := by simpa using (show ¬ o = 20 by omega)
  have q21 : (o == 21) = false := by simpa using (show ¬ o = 21 by omega)
  have q38 : (o == 38) = false := by simpa using (show ¬ o = 38 by omega)
  have q22 : (o == 22) = false := by simpa using (show ¬ o = 22 by omega)
  have q37 : (o == 37) = false := by simpa using (show ¬ o = 37 by omega)
  have q39 : (o == 39) = false := by simpa using (show ¬ o = 39 by omega)
  have q40 : (o == 40) = false := by simpa using (show ¬ o = 40 by omega)
  have q45 : (o == 45) = false := by simpa using (show ¬ o = 45 by omega)
  go_enter Tryz.func15, Tryz.ntmps15
  go_upto_region 3 with (first
    | (go_at_call 27; with_reducible refine (f1 _).mono ?_; rintro e w1 ⟨rfl, k1⟩)
    | (go_at_call 27; with_reducible refine (f2 _).mono ?_; rintro e w2 ⟨rfl, k2⟩)
    | (go_at_call 27; with_reducible refine (f3 _).mono ?_; rintro e w3 ⟨rfl, k3⟩)
    | (go_at_call 27; with_reducible refine (f4 _).mono ?_; rintro e w4 ⟨rfl, k4⟩))
  clear f1 f2 f3 f4
  obtain ⟨w5, hw5⟩ : ∃ w5, w5 = w4.alloc (.cells #[.int .i64 o, .int .i64 x, .int .i64 y, .int .i64 z, .int .i64 0] 62) := ⟨_, rfl⟩
  have n5 : w5.heap[w4.heap.size]? = some (.cells #[.int .i64 o, .int .i64 x, .int .i64 y, .int .i64 z, .int .i64 0] 62 (0, 0)) := by rw [hw5]; exact heap_alloc_new w4 _
  have k5 : Kp w4 w5 := by rw [hw5]; exact (Chg.refl w4 _).alloc _
  rw [← hw5]
  clear hw5
  have kz : Kp ((w.alloc (.cells #[.int .i64 0, .int .i64 0, .int .i64 0, .int .i64 0, .int .i64 0] 62)).alloc (.cells #[.int .i64 (-1), .int .i64 0, .int .i64 0, .int .i64 0, .int .i64 0] 62)) w4 := Kp.trans k1 (Kp.trans k2 (Kp.trans k3 k4))
  have z0 : w.heap.size + 2 ≤ w4.heap.size := by have := kz.size; simp at this; omega
  have zz : w4.heap[w.heap.size]? = some (.cells #[.int .i64 0, .int .i64 0, .int .i64 0, .int .i64 0, .int .i64 0] 62 (0, 0)) := Kp.heap kz (Kp.heap ((Chg.refl _ _).alloc _) (heap_alloc_new w _))
  have zn : w4.heap[w.heap.size + 1]? = some (.cells #[.int .i64 (-1), .int .i64 0, .int .i64 0, .int .i64 0, .int .i64 0] 62 (0, 0)) := Kp.heap kz (by have := heap_alloc_new (w.alloc (.cells #[.int .i64 0, .int .i64 0, .int .i64 0, .int .i64 0, .int .i64 0] 62)) (.cells #[.int .i64 (-1), .int .i64 0, .int .i64 0, .int .i64 0, .int .i64 0] 62); simpa using this)
  have kw : Kp w w4 := Kp.trans ((Chg.refl w _).alloc _ |>.alloc _) kz
  clear k1 k2 k3 k4 kz
  go_upto_region 4 with (go_at_call 27; with_reducible refine (f5 _).mono ?_; rintro e w6 ⟨rfl, k6⟩)
  go_upto_region 7 with (go_at_call 27; with_reducible refine (f6 _).mono ?_; rintro e w7 ⟨rfl, k7⟩)
  have K7 : Kp w4 w7 := Kp.trans k5 (Kp.trans k6 k7)
  have P7 := Kp.heap (Kp.trans k6 k7) n5
  have Z7 := Kp.heap K7 zz
  have N7 := Kp.heap K7 zn
  obtain ⟨c0, c1, c2, c3, c4, g0, g1, g2, g3, g4⟩ := cells5 P7
  obtain ⟨d0, d1, d2, d3, d4, _⟩ := cells5 N7
  obtain ⟨t0, t1, t2, t3, t4, u0, u1, u2, u3, u4⟩ := cells5 Z7
  have HH : Hid (Kp w w7 ∧ w.heap.size + 2 ≤ w4.heap.size ∧ w7.heap[w4.heap.size]? = some (.cells #[.int .i64 o, .int .i64 x, .int .i64 y, .int .i64 z, .int .i64 0] 62 (0, 0)) ∧ w7.heap[w.heap.size]? = some (.cells #[.int .i64 0, .int .i64 0, .int .i64 0, .int .i64 0, .int .i64 0] 62 (0, 0)) ∧ w7.heap[w.heap.size + 1]? = some (.cells #[.int .i64 (-1), .int .i64 0, .int .i64 0, .int .i64 0, .int .i64 0] 62 (0, 0))) := ⟨Kp.trans kw K7, z0, P7, Z7, N7⟩
  have e01 : ¬ w.heap.size = w4.heap.size := by omega
  have e02 : ¬ w4.heap.size = w.heap.size := by omega
  have e03 : ¬ w4.heap.size = w.heap.size + 1 := by omega
  have e04 : ¬ w.heap.size + 1 = w4.heap.size := by omega
  clear kw K7 P7 Z7 N7 zz zn n5 k5 k6 k7 f5 f6 z0
  go_wp2_with fail
  have KW : Kp w w7 := HH.out.1
  have ZW := HH.out.2.2.2.1
  have lt4 := HH.out.2.1
  refine ⟨rfl, _, ?_, rfl, ?_⟩
  · exact results_cell_row rfl _ _ w.heap.size 62 _ (0, 0) _ rfl (box5 ZW _ _ _ _ _ rfl).1 Tryz.underlying62 rfl (by kernel_rfl)
  · exact Chg.trans KW (box5 ZW _ _ _ _ _ rfl).2.2 (fun i hi e => by omega)
set_option maxRecDepth 100000 in
set_option maxHeartbeats 2000000 in
theorem apart_c (w : World) (v : Nat) (hv : v < 4294967296) (x y z : Int) (o : Int) (hoo : -1 ≤ o ∧ o ≤ 62) (e1 : (v : Int) / 67108864 % 64 = o + 1) (e2 : (v : Int) / 4194304 % 16 = x) (e3 : (v : Int) / 262144 % 16 = y) (e4 : (v : Int) / 16384 % 16 = z) (ho : 0 ≤ o ∧ o ≤ 12) (hx : (v : Int) % 16384 = 0) :
    Calls Tryz.prog 15 #[.int .u32 (v : Nat)] w fun e w' => e = .returned (prV o x y z (0)) ∧ Kp w w' := by
  have f1 := fun w => field_26_6 w v hv
  have f2 := fun w => field_22_4 w v hv
  have f3 := fun w => field_18_4 w v hv
  have f4 := fun w => field_14_4 w v hv
  have f5 := fun w => field_0_18 w v hv
  have f6 := fun w => field_0_22 w v hv
  have f7 := fun w => field_0_14 w v hv
  have f8 := fun w => field_0_26 w v hv
  rw [e1] at f1
  rw [e2] at f2
  rw [e3] at f3
  rw [e4] at f4
  have b5 : 0 ≤ (v : Int) % 262144 ∧ (v : Int) % 262144 < 262144 := by omega
  have b6 : 0 ≤ (v : Int) % 4194304 ∧ (v : Int) % 4194304 < 4194304 := by omega
  have b8 : 0 ≤ (v : Int) % 67108864 ∧ (v : Int) % 67108864 < 67108864 := by omega
  clear e1 e2 e3 e4 hv
  generalize (v : Int) % 262144 = n18 at *
  generalize (v : Int) % 4194304 = n22 at *
  generalize (v : Int) % 67108864 = n26 at *
  generalize (v : Int) % 16384 = n14 at *
  have s18 := fun w => signed_18 w n18 b5
  have s22 := fun w => signed_22 w n22 b6
  generalize (if 131072 ≤ n18 then n18 - 262144 else n18) = m18 at *
  generalize (if 2097152 ≤ n22 then n22 - 4194304 else n22) = m22 at *
  have q13 : (o == 13) = false := by simpa using (show ¬ o = 13 by omega)
  have q20 : (o == 20) = false := by simpa using (show ¬ o = 20 by omega)
  have q21 : (o == 21) = false := by simpa using (show ¬ o = 21 by omega)
  have q38 : (o == 38) = false := by simpa using (show ¬ o = 38 by omega)
  have q22 : (o == 22) = false := by simpa using (show ¬ o = 22 by omega)
  have q37 : (o == 37) = false := by simpa using (show ¬ o = 37 by omega)
  have q39 : (o == 39) = false := by simpa using (show ¬ o = 39 by omega)
  have q40 : (o == 40) = false := by simpa using (show ¬ o = 40 by omega)
  have q45 : (o == 45) = false := by simpa using (show ¬ o = 45 by omega)
  go_enter Tryz.func15, Tryz.ntmps15
  go_upto_region 3 with (first
    | (go_at_call 27; with_reducible refine (f1 _).mono ?_; rintro e w1 ⟨rfl, k1⟩)
    | (go_at_call 27; with_reducible refine (f2 _).mono ?_; rintro e w2 ⟨rfl, k2⟩)
    | (go_at_call 27; with_reducible refine (f3 _).mono ?_; rintro e w3 ⟨rfl, k3⟩)
    | (go_at_call 27; with_reducible refine (f4 _).mono ?_; rintro e w4 ⟨rfl, k4⟩))
  clear f1 f2 f3 f4
  obtain ⟨w5, hw5⟩ : ∃ w5, w5 = w4.alloc (.cells #[.int .i64 o, .int .i64 x, .int .i64 y, .int .i64 z, .int .i64 0] 62) := ⟨_, rfl⟩
  have n5 : w5.heap[w4.heap.size]? = some (.cells #[.int .i64 o, .int .i64 x, .int .i64 y, .int .i64 z, .int .i64 0] 62 (0, 0)) := by rw [hw5]; exact heap_alloc_new w4 _
  have k5 : Kp w4 w5 := by rw [hw5]; exact (Chg.refl w4 _).alloc _
  rw [← hw5]
  clear hw5
  have kz : Kp ((w.alloc (.cells #[.int .i64 0, .int .i64 0, .int .i64 0, .int .i64 0, .int .i64 0] 62)).alloc (.cells #[.int .i64 (-1), .int .i64 0, .int .i64 0, .int .i64 0, .int .i64 0] 62)) w4 := Kp.trans k1 (Kp.trans k2 (Kp.trans k3 k4))
  have z0 : w.heap.size + 2 ≤ w4.heap.size := by have := kz.size; simp at this; omega
  have zz : w4.heap[w.heap.size]? = some (.cells #[.int .i64 0, .int .i64 0, .int .i64 0, .int .i64 0, .int .i64 0] 62 (0, 0)) := Kp.heap kz (Kp.heap ((Chg.refl _ _).alloc _) (heap_alloc_new w _))
  have zn : w4.heap[w.heap.size + 1]? = some (.cells #[.int .i64 (-1), .int .i64 0, .int .i64 0, .int .i64 0, .int .i64 0] 62 (0, 0)) := Kp.heap kz (by have := heap_alloc_new (w.alloc (.cells #[.int .i64 0, .int .i64 0, .int .i64 0, .int .i64 0, .int .i64 0] 62)) (.cells #[.int .i64 (-1), .int .i64 0, .int .i64 0, .int .i64 0, .int .i64 0] 62); simpa using this)
  have kw : Kp w w4 := Kp.trans ((Chg.refl w _).alloc _ |>.alloc _) kz
  clear k1 k2 k3 k4 kz
  go_upto_region 4 with (go_at_call 27; with_reducible refine (f5 _).mono ?_; rintro e w6 ⟨rfl, k6⟩)
  go_upto_region 7 with (go_at_call 27; with_reducible refine (f6 _).mono ?_; rintro e w7 ⟨rfl, k7⟩)
  have K7 : Kp w4 w7 := Kp.trans k5 (Kp.trans k6 k7)
  have P7 := Kp.heap (Kp.trans k6 k7) n5
  have Z7 := Kp.heap K7 zz
  have N7 := Kp.heap K7 zn
  obtain ⟨c0, c1, c2, c3, c4, g0, g1, g2, g3, g4⟩ := cells5 P7
  obtain ⟨d0, d1, d2, d3, d4, _⟩ := cells5 N7
  obtain ⟨t0, t1, t2, t3, t4, u0, u1, u2, u3, u4⟩ := cells5 Z7
  have HH : Hid (Kp w w7 ∧ w.heap.size + 2 ≤ w4.heap.size ∧ w7.heap[w4.heap.size]? = some (.cells #[.int .i64 o, .int .i64 x, .int .i64 y, .int .i64 z, .int .i64 0] 62 (0, 0)) ∧ w7.heap[w.heap.size]? = some (.cells #[.int .i64 0, .int .i64 0, .int .i64 0, .int .i64 0, .int .i64 0] 62 (0, 0)) ∧ w7.heap[w.heap.size + 1]? = some (.cells #[.int .i64 (-1), .int .i64 0, .int .i64 0, .int .i64 0, .int .i64 0] 62 (0, 0))) := ⟨Kp.trans kw K7, z0, P7, Z7, N7⟩
  have e01 : ¬ w.heap.size = w4.heap.size := by omega
  have e02 : ¬ w4.heap.size = w.heap.size := by omega
  have e03 : ¬ w4.heap.size = w.heap.size + 1 := by omega
  have e04 : ¬ w.heap.size + 1 = w4.heap.size := by omega
  clear kw K7 P7 Z7 N7 zz zn n5 k5 k6 k7 f5 f6 z0
  have HC := fun (V : World) (k : Kp w7 V) => (⟨cells5 (Kp.heap k HH.out.2.2.1), cells5 (Kp.heap k HH.out.2.2.2.1), cells5 (Kp.heap k HH.out.2.2.2.2)⟩ : _ ∧ _ ∧ _)
  go_wp2_with (go_at_call 27; with_reducible refine (f7 _).mono ?_; rintro e w8 ⟨rfl, k8⟩; obtain ⟨⟨c0', c1', c2', c3', c4', g0', g1', g2', g3', g4'⟩, ⟨t0', t1', t2', t3', t4', u0', u1', u2', u3', u4'⟩, ⟨d0', d1', d2', d3', d4', _⟩⟩ := HC w8 k8; clear HC c0 c1 c2 c3 c4 g0 g1 g2 g3 g4 t0 t1 t2 t3 t4 u0 u1 u2 u3 u4 d0 d1 d2 d3 d4)
  have KW : Kp w w8 := Kp.trans HH.out.1 k8
  have ZW := Kp.heap k8 HH.out.2.2.2.1
  have lt4 := HH.out.2.1
  refine ⟨rfl, _, ?_, rfl, ?_⟩
  · exact results_cell_row rfl _ _ w.heap.size 62 _ (0, 0) _ rfl (box5 ZW _ _ _ _ _ rfl).1 Tryz.underlying62 rfl (by kernel_rfl)
  · exact Chg.trans KW (box5 ZW _ _ _ _ _ rfl).2.2 (fun i hi e => by omega)
set_option maxRecDepth 100000 in
set_option maxHeartbeats 2000000 in
theorem apart_d (w : World) (v : Nat) (hv : v < 4294967296) (x y z : Int) (o : Int) (hoo : -1 ≤ o ∧ o ≤ 62) (e1 : (v : Int) / 67108864 % 64 = o + 1) (e2 : (v : Int) / 4194304 % 16 = x) (e3 : (v : Int) / 262144 % 16 = y) (e4 : (v : Int) / 16384 % 16 = z) (ho : 0 ≤ o ∧ o ≤ 12) (hx : ¬ (v : Int) % 16384 = 0) :
    Calls Tryz.prog 15 #[.int .u32 (v : Nat)] w fun e w' => e = .returned (prV (-1) 0 0 0 0) ∧ Kp w w' := by
  have f1 := fun w => field_26_6 w v hv
  have f2 := fun w => field_22_4 w v hv
  have f3 := fun w => field_18_4 w v hv
  have f4 := fun w => field_14_4 w v hv
  have f5 := fun w => field_0_18 w v hv
  have f6 := fun w => field_0_22 w v hv
  have f7 := fun w => field_0_14 w v hv
  have f8 := fun w => field_0_26 w v hv
  rw [e1] at f1
  rw [e2] at f2
  rw [e3] at f3
  rw [e4] at f4
  have b5 : 0 ≤ (v : Int) % 262144 ∧ (v : Int) % 262144 < 262144 := by omega
  have b6 : 0 ≤ (v : Int) % 4194304 ∧ (v : Int) % 4194304 < 4194304 := by omega
  have b8 : 0 ≤ (v : Int) % 67108864 ∧ (v : Int) % 67108864 < 67108864 := by omega
  clear e1 e2 e3 e4 hv
  generalize (v : Int) % 262144 = n18 at *
  generalize (v : Int) % 4194304 = n22 at *
  generalize (v : Int) % 67108864 = n26 at *
  generalize (v : Int) % 16384 = n14 at *
  have s18 := fun w => signed_18 w n18 b5
  have s22 := fun w => signed_22 w n22 b6
  generalize (if 131072 ≤ n18 then n18 - 262144 else n18) = m18 at *
  generalize (if 2097152 ≤ n22 then n22 - 4194304 else n22) = m22 at *
  have q13 : (o == 13) = false := by simpa using (show ¬ o = 13 by omega)
  have q20 : (o == 20) = false := by simpa using (show ¬ o = 20 by omega)
  have q21 : (o == 21) = false := by simpa using (show ¬ o = 21 by omega)
  have q38 : (o == 38) = false := by simpa using (show ¬ o = 38 by omega)
  have q22 : (o == 22) = false := by simpa using (show ¬ o = 22 by omega)
  have q37 : (o == 37) = false := by simpa using (show ¬ o = 37 by omega)
  have q39 : (o == 39) = false := by simpa using (show ¬ o = 39 by omega)
  have q40 : (o == 40) = false := by simpa using (show ¬ o = 40 by omega)
  have q45 : (o == 45) = false := by simpa using (show ¬ o = 45 by omega)
  go_enter Tryz.func15, Tryz.ntmps15
  go_upto_region 3 with (first
    | (go_at_call 27; with_reducible refine (f1 _).mono ?_; rintro e w1 ⟨rfl, k1⟩)
    | (go_at_call 27; with_reducible refine (f2 _).mono ?_; rintro e w2 ⟨rfl, k2⟩)
    | (go_at_call 27; with_reducible refine (f3 _).mono ?_; rintro e w3 ⟨rfl, k3⟩)
    | (go_at_call 27; with_reducible refine (f4 _).mono ?_; rintro e w4 ⟨rfl, k4⟩))
  clear f1 f2 f3 f4
  obtain ⟨w5, hw5⟩ : ∃ w5, w5 = w4.alloc (.cells #[.int .i64 o, .int .i64 x, .int .i64 y, .int .i64 z, .int .i64 0] 62) := ⟨_, rfl⟩
  have n5 : w5.heap[w4.heap.size]? = some (.cells #[.int .i64 o, .int .i64 x, .int .i64 y, .int .i64 z, .int .i64 0] 62 (0, 0)) := by rw [hw5]; exact heap_alloc_new w4 _
  have k5 : Kp w4 w5 := by rw [hw5]; exact (Chg.refl w4 _).alloc _
  rw [← hw5]
  clear hw5
  have kz : Kp ((w.alloc (.cells #[.int .i64 0, .int .i64 0, .int .i64 0, .int .i64 0, .int .i64 0] 62)).alloc (.cells #[.int .i64 (-1), .int .i64 0, .int .i64 0, .int .i64 0, .int .i64 0] 62)) w4 := Kp.trans k1 (Kp.trans k2 (Kp.trans k3 k4))
  have z0 : w.heap.size + 2 ≤ w4.heap.size := by have := kz.size; simp at this; omega
  have zz : w4.heap[w.heap.size]? = some (.cells #[.int .i64 0, .int .i64 0, .int .i64 0, .int .i64 0, .int .i64 0] 62 (0, 0)) := Kp.heap kz (Kp.heap ((Chg.refl _ _).alloc _) (heap_alloc_new w _))
  have zn : w4.heap[w.heap.size + 1]? = some (.cells #[.int .i64 (-1), .int .i64 0, .int .i64 0, .int .i64 0, .int .i64 0] 62 (0, 0)) := Kp.heap kz (by have := heap_alloc_new (w.alloc (.cells #[.int .i64 0, .int .i64 0, .int .i64 0, .int .i64 0, .int .i64 0] 62)) (.cells #[.int .i64 (-1), .int .i64 0, .int .i64 0, .int .i64 0, .int .i64 0] 62); simpa using this)
  have kw : Kp w w4 := Kp.trans ((Chg.refl w _).alloc _ |>.alloc _) kz
  clear k1 k2 k3 k4 kz
  go_upto_region 4 with (go_at_call 27; with_reducible refine (f5 _).mono ?_; rintro e w6 ⟨rfl, k6⟩)
  go_upto_region 7 with (go_at_call 27; with_reducible refine (f6 _).mono ?_; rintro e w7 ⟨rfl, k7⟩)
  have K7 : Kp w4 w7 := Kp.trans k5 (Kp.trans k6 k7)
  have P7 := Kp.heap (Kp.trans k6 k7) n5
  have Z7 := Kp.heap K7 zz
  have N7 := Kp.heap K7 zn
  obtain ⟨c0, c1, c2, c3, c4, g0, g1, g2, g3, g4⟩ := cells5 P7
  obtain ⟨d0, d1, d2, d3, d4, _⟩ := cells5 N7
  obtain ⟨t0, t1, t2, t3, t4, u0, u1, u2, u3, u4⟩ := cells5 Z7
  have HH : Hid (Kp w w7 ∧ w.heap.size + 2 ≤ w4.heap.size ∧ w7.heap[w4.heap.size]? = some (.cells #[.int .i64 o, .int .i64 x, .int .i64 y, .int .i64 z, .int .i64 0] 62 (0, 0)) ∧ w7.heap[w.heap.size]? = some (.cells #[.int .i64 0, .int .i64 0, .int .i64 0, .int .i64 0, .int .i64 0] 62 (0, 0)) ∧ w7.heap[w.heap.size + 1]? = some (.cells #[.int .i64 (-1), .int .i64 0, .int .i64 0, .int .i64 0, .int .i64 0] 62 (0, 0))) := ⟨Kp.trans kw K7, z0, P7, Z7, N7⟩
  have e01 : ¬ w.heap.size = w4.heap.size := by omega
  have e02 : ¬ w4.heap.size = w.heap.size := by omega
  have e03 : ¬ w4.heap.size = w.heap.size + 1 := by omega
  have e04 : ¬ w.heap.size + 1 = w4.heap.size := by omega
  clear kw K7 P7 Z7 N7 zz zn n5 k5 k6 k7 f5 f6 z0
  have HC := fun (V : World) (k : Kp w7 V) => (⟨cells5 (Kp.heap k HH.out.2.2.1), cells5 (Kp.heap k HH.out.2.2.2.1), cells5 (Kp.heap k HH.out.2.2.2.2)⟩ : _ ∧ _ ∧ _)
  go_wp2_with (go_at_call 27; with_reducible refine (f7 _).mono ?_; rintro e w8 ⟨rfl, k8⟩; obtain ⟨⟨c0', c1', c2', c3', c4', g0', g1', g2', g3', g4'⟩, ⟨t0', t1', t2', t3', t4', u0', u1', u2', u3', u4'⟩, ⟨d0', d1', d2', d3', d4', _⟩⟩ := HC w8 k8; clear HC c0 c1 c2 c3 c4 g0 g1 g2 g3 g4 t0 t1 t2 t3 t4 u0 u1 u2 u3 u4 d0 d1 d2 d3 d4)
  have KW : Kp w w8 := Kp.trans HH.out.1 k8
  have ZW := Kp.heap k8 HH.out.2.2.2.1
  have lt4 := HH.out.2.1
  refine ⟨rfl, _, ?_, rfl, ?_⟩
  · exact results_cell_row rfl _ _ w.heap.size 62 _ (0, 0) _ rfl (box5 ZW _ _ _ _ _ rfl).1 Tryz.underlying62 rfl (by kernel_rfl)
  · exact Chg.trans KW (box5 ZW _ _ _ _ _ rfl).2.2 (fun i hi e => by omega)
set_option maxRecDepth 100000 in
set_option maxHeartbeats 2000000 in
theorem apart_e (w : World) (v : Nat) (hv : v < 4294967296) (x y z : Int) (e1 : (v : Int) / 67108864 % 64 = 14) (e2 : (v : Int) / 4194304 % 16 = x) (e3 : (v : Int) / 262144 % 16 = y) (e4 : (v : Int) / 16384 % 16 = z)  :
    Calls Tryz.prog 15 #[.int .u32 (v : Nat)] w fun e w' => e = .returned (prV 13 x y z (if 131072 ≤ (v : Int) % 262144 then (v : Int) % 262144 - 262144 else (v : Int) % 262144)) ∧ Kp w w' := by
  have f1 := fun w => field_26_6 w v hv
  have f2 := fun w => field_22_4 w v hv
  have f3 := fun w => field_18_4 w v hv
  have f4 := fun w => field_14_4 w v hv
  have f5 := fun w => field_0_18 w v hv
  have f6 := fun w => field_0_22 w v hv
  have f7 := fun w => field_0_14 w v hv
  have f8 := fun w => field_0_26 w v hv
  rw [e1] at f1
  rw [e2] at f2
  rw [e3] at f3
  rw [e4] at f4
  have b5 : 0 ≤ (v : Int) % 262144 ∧ (v : Int) % 262144 < 262144 := by omega
  have b6 : 0 ≤ (v : Int) % 4194304 ∧ (v : Int) % 4194304 < 4194304 := by omega
  have b8 : 0 ≤ (v : Int) % 67108864 ∧ (v : Int) % 67108864 < 67108864 := by omega
  clear e1 e2 e3 e4 hv
  generalize (v : Int) % 262144 = n18 at *
  generalize (v : Int) % 4194304 = n22 at *
  generalize (v : Int) % 67108864 = n26 at *
  generalize (v : Int) % 16384 = n14 at *
  have s18 := fun w => signed_18 w n18 b5
  have s22 := fun w => signed_22 w n22 b6
  generalize (if 131072 ≤ n18 then n18 - 262144 else n18) = m18 at *
  generalize (if 2097152 ≤ n22 then n22 - 4194304 else n22) = m22 at *
  go_enter Tryz.func15, Tryz.ntmps15
  go_upto_region 3 with (first
    | (go_at_call 27; with_reducible refine (f1 _).mono ?_; rintro e w1 ⟨rfl, k1⟩)
    | (go_at_call 27; with_reducible refine (f2 _).mono ?_; rintro e w2 ⟨rfl, k2⟩)
    | (go_at_call 27; with_reducible refine (f3 _).mono ?_; rintro e w3 ⟨rfl, k3⟩)
    | (go_at_call 27; with_reducible refine (f4 _).mono ?_; rintro e w4 ⟨rfl, k4⟩))
  clear f1 f2 f3 f4
  obtain ⟨w5, hw5⟩ : ∃ w5, w5 = w4.alloc (.cells #[.int .i64 13, .int .i64 x, .int .i64 y, .int .i64 z, .int .i64 0] 62) := ⟨_, rfl⟩
  have n5 : w5.heap[w4.heap.size]? = some (.cells #[.int .i64 13, .int .i64 x, .int .i64 y, .int .i64 z, .int .i64 0] 62 (0, 0)) := by rw [hw5]; exact heap_alloc_new w4 _
  have k5 : Kp w4 w5 := by rw [hw5]; exact (Chg.refl w4 _).alloc _
  rw [← hw5]
  clear hw5
  have kz : Kp ((w.alloc (.cells #[.int .i64 0, .int .i64 0, .int .i64 0, .int .i64 0, .int .i64 0] 62)).alloc (.cells #[.int .i64 (-1), .int .i64 0, .int .i64 0, .int .i64 0, .int .i64 0] 62)) w4 := Kp.trans k1 (Kp.trans k2 (Kp.trans k3 k4))
  have z0 : w.heap.size + 2 ≤ w4.heap.size := by have := kz.size; simp at this; omega
  have zz : w4.heap[w.heap.size]? = some (.cells #[.int .i64 0, .int .i64 0, .int .i64 0, .int .i64 0, .int .i64 0] 62 (0, 0)) := Kp.heap kz (Kp.heap ((Chg.refl _ _).alloc _) (heap_alloc_new w _))
  have zn : w4.heap[w.heap.size + 1]? = some (.cells #[.int .i64 (-1), .int .i64 0, .int .i64 0, .int .i64 0, .int .i64 0] 62 (0, 0)) := Kp.heap kz (by have := heap_alloc_new (w.alloc (.cells #[.int .i64 0, .int .i64 0, .int .i64 0, .int .i64 0, .int .i64 0] 62)) (.cells #[.int .i64 (-1), .int .i64 0, .int .i64 0, .int .i64 0, .int .i64 0] 62); simpa using this)
  have kw : Kp w w4 := Kp.trans ((Chg.refl w _).alloc _ |>.alloc _) kz
  clear k1 k2 k3 k4 kz
  go_upto_region 4 with (go_at_call 27; with_reducible refine (f5 _).mono ?_; rintro e w6 ⟨rfl, k6⟩)
  go_upto_region 7 with (go_at_call 27; with_reducible refine (f6 _).mono ?_; rintro e w7 ⟨rfl, k7⟩)
  have K7 : Kp w4 w7 := Kp.trans k5 (Kp.trans k6 k7)
  have P7 := Kp.heap (Kp.trans k6 k7) n5
  have Z7 := Kp.heap K7 zz
  have N7 := Kp.heap K7 zn
  obtain ⟨c0, c1, c2, c3, c4, g0, g1, g2, g3, g4⟩ := cells5 P7
  obtain ⟨d0, d1, d2, d3, d4, _⟩ := cells5 N7
  obtain ⟨t0, t1, t2, t3, t4, u0, u1, u2, u3, u4⟩ := cells5 Z7
  have HH : Hid (Kp w w7 ∧ w.heap.size + 2 ≤ w4.heap.size ∧ w7.heap[w4.heap.size]? = some (.cells #[.int .i64 13, .int .i64 x, .int .i64 y, .int .i64 z, .int .i64 0] 62 (0, 0)) ∧ w7.heap[w.heap.size]? = some (.cells #[.int .i64 0, .int .i64 0, .int .i64 0, .int .i64 0, .int .i64 0] 62 (0, 0)) ∧ w7.heap[w.heap.size + 1]? = some (.cells #[.int .i64 (-1), .int .i64 0, .int .i64 0, .int .i64 0, .int .i64 0] 62 (0, 0))) := ⟨Kp.trans kw K7, z0, P7, Z7, N7⟩
  have e01 : ¬ w.heap.size = w4.heap.size := by omega
  have e02 : ¬ w4.heap.size = w.heap.size := by omega
  have e03 : ¬ w4.heap.size = w.heap.size + 1 := by omega
  have e04 : ¬ w.heap.size + 1 = w4.heap.size := by omega
  clear kw K7 P7 Z7 N7 zz zn n5 k5 k6 k7 f5 f6 z0
  have HC := fun (V : World) (k : Kp w7 V) => (⟨cells5 (Kp.heap k HH.out.2.2.1), cells5 (Kp.heap k HH.out.2.2.2.1), cells5 (Kp.heap k HH.out.2.2.2.2)⟩ : _ ∧ _ ∧ _)
  go_wp2_with (go_at_call 28; with_reducible refine (s18 _).mono ?_; rintro e w8 ⟨rfl, k8⟩; obtain ⟨⟨c0', c1', c2', c3', c4', g0', g1', g2', g3', g4'⟩, ⟨t0', t1', t2', t3', t4', u0', u1', u2', u3', u4'⟩, ⟨d0', d1', d2', d3', d4', _⟩⟩ := HC w8 k8; clear HC c0 c1 c2 c3 c4 g0 g1 g2 g3 g4 t0 t1 t2 t3 t4 u0 u1 u2 u3 u4 d0 d1 d2 d3 d4)
  have KW : Kp w w8 := Kp.trans HH.out.1 k8
  have ZW := Kp.heap k8 HH.out.2.2.2.1
  have lt4 := HH.out.2.1
  have CW : Chg w8 (w8.setCell ⟨w4.heap.size, 4, none⟩ (.int .i64 m18)) (fun k => k = w4.heap.size) := Chg.setCell (S := fun k => k = w4.heap.size) (Chg.refl w8 _) (.inl rfl) _
  have ZX := CW.heap ZW (by omega)
  have KX : Kp w (w8.setCell ⟨w4.heap.size, 4, none⟩ (.int .i64 m18)) := Chg.trans KW CW (fun i hi e => by omega)
  refine ⟨rfl, _, ?_, rfl, ?_⟩
  · exact results_cell_row rfl _ _ w.heap.size 62 _ (0, 0) _ rfl (box5 ZX _ _ _ _ _ rfl).1 Tryz.underlying62 rfl (by kernel_rfl)
  · exact Chg.trans KX (box5 ZX _ _ _ _ _ rfl).2.2 (fun i hi e => by omega)
set_option maxRecDepth 100000 in
set_option maxHeartbeats 2000000 in
theorem apart_f (w : World) (v : Nat) (hv : v < 4294967296) (x y z : Int) (e1 : (v : Int) / 67108864 % 64 = 21) (e2 : (v : Int) / 4194304 % 16 = x) (e3 : (v : Int) / 262144 % 16 = y) (e4 : (v : Int) / 16384 % 16 = z)  :
    Calls Tryz.prog 15 #[.int .u32 (v : Nat)] w fun e w' => e = .returned (prV 20 x y z (if 131072 ≤ (v : Int) % 262144 then (v : Int) % 262144 - 262144 else (v : Int) % 262144)) ∧ Kp w w' := by
  have f1 := fun w => field_26_6 w v hv
  have f2 := fun w => field_22_4 w v hv
  have f3 := fun w => field_18_4 w v hv
  have f4 := fun w => field_14_4 w v hv
  have f5 := fun w => field_0_18 w v hv
  have f6 := fun w => field_0_22 w v hv
  have f7 := fun w => field_0_14 w v hv
  have f8 := fun w => field_0_26 w v hv
  rw [e1] at f1
  rw [e2] at f2
  rw [e3] at f3
  rw [e4] at f4
  have b5 : 0 ≤ (v : Int) % 262144 ∧ (v : Int) % 262144 < 262144 := by omega
  have b6 : 0 ≤ (v : Int) % 4194304 ∧ (v : Int) % 4194304 < 4194304 := by omega
  have b8 : 0 ≤ (v : Int) % 67108864 ∧ (v : Int) % 67108864 < 67108864 := by omega
  clear e1 e2 e3 e4 hv
  generalize (v : Int) % 262144 = n18 at *
  generalize (v : Int) % 4194304 = n22 at *
  generalize (v : Int) % 67108864 = n26 at *
  generalize (v : Int) % 16384 = n14 at *
  have s18 := fun w => signed_18 w n18 b5
  have s22 := fun w => signed_22 w n22 b6
  generalize (if 131072 ≤ n18 then n18 - 262144 else n18) = m18 at *
  generalize (if 2097152 ≤ n22 then n22 - 4194304 else n22) = m22 at *
  go_enter Tryz.func15, Tryz.ntmps15
  go_upto_region 3 with (first
    | (go_at_call 27; with_reducible refine (f1 _).mono ?_; rintro e w1 ⟨rfl, k1⟩)
    | (go_at_call 27; with_reducible refine (f2 _).mono ?_; rintro e w2 ⟨rfl, k2⟩)
    | (go_at_call 27; with_reducible refine (f3 _).mono ?_; rintro e w3 ⟨rfl, k3⟩)
    | (go_at_call 27; with_reducible refine (f4 _).mono ?_; rintro e w4 ⟨rfl, k4⟩))
  clear f1 f2 f3 f4
  obtain ⟨w5, hw5⟩ : ∃ w5, w5 = w4.alloc (.cells #[.int .i64 20, .int .i64 x, .int .i64 y, .int .i64 z, .int .i64 0] 62) := ⟨_, rfl⟩
  have n5 : w5.heap[w4.heap.size]? = some (.cells #[.int .i64 20, .int .i64 x, .int .i64 y, .int .i64 z, .int .i64 0] 62 (0, 0)) := by rw [hw5]; exact heap_alloc_new w4 _
  have k5 : Kp w4 w5 := by rw [hw5]; exact (Chg.refl w4 _).alloc _
  rw [← hw5]
  clear hw5
  have kz : Kp ((w.alloc (.cells #[.int .i64 0, .int .i64 0, .int .i64 0, .int .i64 0, .int .i64 0] 62)).alloc (.cells #[.int .i64 (-1), .int .i64 0, .int .i64 0, .int .i64 0, .int .i64 0] 62)) w4 := Kp.trans k1 (Kp.trans k2 (Kp.trans k3 k4))
  have z0 : w.heap.size + 2 ≤ w4.heap.size := by have := kz.size; simp at this; omega
  have zz : w4.heap[w.heap.size]? = some (.cells #[.int .i64 0, .int .i64 0, .int .i64 0, .int .i64 0, .int .i64 0] 62 (0, 0)) := Kp.heap kz (Kp.heap ((Chg.refl _ _).alloc _) (heap_alloc_new w _))
  have zn : w4.heap[w.heap.size + 1]? = some (.cells #[.int .i64 (-1), .int .i64 0, .int .i64 0, .int .i64 0, .int .i64 0] 62 (0, 0)) := Kp.heap kz (by have := heap_alloc_new (w.alloc (.cells #[.int .i64 0, .int .i64 0, .int .i64 0, .int .i64 0, .int .i64 0] 62)) (.cells #[.int .i64 (-1), .int .i64 0, .int .i64 0, .int .i64 0, .int .i64 0] 62); simpa using this)
  have kw : Kp w w4 := Kp.trans ((Chg.refl w _).alloc _ |>.alloc _) kz
  clear k1 k2 k3 k4 kz
  go_upto_region 4 with (go_at_call 27; with_reducible refine (f5 _).mono ?_; rintro e w6 ⟨rfl, k6⟩)
  go_upto_region 7 with (go_at_call 27; with_reducible refine (f6 _).mono ?_; rintro e w7 ⟨rfl, k7⟩)
  have K7 : Kp w4 w7 := Kp.trans k5 (Kp.trans k6 k7)
  have P7 := Kp.heap (Kp.trans k6 k7) n5
  have Z7 := Kp.heap K7 zz
  have N7 := Kp.heap K7 zn
  obtain ⟨c0, c1, c2, c3, c4, g0, g1, g2, g3, g4⟩ := cells5 P7
  obtain ⟨d0, d1, d2, d3, d4, _⟩ := cells5 N7
  obtain ⟨t0, t1, t2, t3, t4, u0, u1, u2, u3, u4⟩ := cells5 Z7
  have HH : Hid (Kp w w7 ∧ w.heap.size + 2 ≤ w4.heap.size ∧ w7.heap[w4.heap.size]? = some (.cells #[.int .i64 20, .int .i64 x, .int .i64 y, .int .i64 z, .int .i64 0] 62 (0, 0)) ∧ w7.heap[w.heap.size]? = some (.cells #[.int .i64 0, .int .i64 0, .int .i64 0, .int .i64 0, .int .i64 0] 62 (0, 0)) ∧ w7.heap[w.heap.size + 1]? = some (.cells #[.int .i64 (-1), .int .i64 0, .int .i64 0, .int .i64 0, .int .i64 0] 62 (0, 0))) := ⟨Kp.trans kw K7, z0, P7, Z7, N7⟩
  have e01 : ¬ w.heap.size = w4.heap.size := by omega
  have e02 : ¬ w4.heap.size = w.heap.size := by omega
  have e03 : ¬ w4.heap.size = w.heap.size + 1 := by omega
  have e04 : ¬ w.heap.size + 1 = w4.heap.size := by omega
  clear kw K7 P7 Z7 N7 zz zn n5 k5 k6 k7 f5 f6 z0
  have HC := fun (V : World) (k : Kp w7 V) => (⟨cells5 (Kp.heap k HH.out.2.2.1), cells5 (Kp.heap k HH.out.2.2.2.1), cells5 (Kp.heap k HH.out.2.2.2.2)⟩ : _ ∧ _ ∧ _)
  go_wp2_with (go_at_call 28; with_reducible refine (s18 _).mono ?_; rintro e w8 ⟨rfl, k8⟩; obtain ⟨⟨c0', c1', c2', c3', c4', g0', g1', g2', g3', g4'⟩, ⟨t0', t1', t2', t3', t4', u0', u1', u2', u3', u4'⟩, ⟨d0', d1', d2', d3', d4', _⟩⟩ := HC w8 k8; clear HC c0 c1 c2 c3 c4 g0 g1 g2 g3 g4 t0 t1 t2 t3 t4 u0 u1 u2 u3 u4 d0 d1 d2 d3 d4)
  have KW : Kp w w8 := Kp.trans HH.out.1 k8
  have ZW := Kp.heap k8 HH.out.2.2.2.1
  have lt4 := HH.out.2.1
  have CW : Chg w8 (w8.setCell ⟨w4.heap.size, 4, none⟩ (.int .i64 m18)) (fun k => k = w4.heap.size) := Chg.setCell (S := fun k => k = w4.heap.size) (Chg.refl w8 _) (.inl rfl) _
  have ZX := CW.heap ZW (by omega)
  have KX : Kp w (w8.setCell ⟨w4.heap.size, 4, none⟩ (.int .i64 m18)) := Chg.trans KW CW (fun i hi e => by omega)
  refine ⟨rfl, _, ?_, rfl, ?_⟩
  · exact results_cell_row rfl _ _ w.heap.size 62 _ (0, 0) _ rfl (box5 ZX _ _ _ _ _ rfl).1 Tryz.underlying62 rfl (by kernel_rfl)
  · exact Chg.trans KX (box5 ZX _ _ _ _ _ rfl).2.2 (fun i hi e => by omega)
set_option maxRecDepth 100000 in
set_option maxHeartbeats 2000000 in
theorem apart_g (w : World) (v : Nat) (hv : v < 4294967296) (x y z : Int) (e1 : (v : Int) / 67108864 % 64 = 22) (e2 : (v : Int) / 4194304 % 16 = x) (e3 : (v : Int) / 262144 % 16 = y) (e4 : (v : Int) / 16384 % 16 = z)  :
    Calls Tryz.prog 15 #[.int .u32 (v : Nat)] w fun e w' => e = .returned (prV 21 x y z (if 131072 ≤ (v : Int) % 262144 then (v : Int) % 262144 - 262144 else (v : Int) % 262144)) ∧ Kp w w' := by
  have f1 := fun w => field_26_6 w v hv
  have f2 := fun w => field_22_4 w v hv
  have f3 := fun w => field_18_4 w v hv
  have f4 := fun w => field_14_4 w v hv
  have f5 := fun w => field_0_18 w v hv
  have f6 := fun w => field_0_22 w v hv
  have f7 := fun w => field_0_14 w v hv
  have f8 := fun w => field_0_26 w v hv
  rw [e1] at f1
  rw [e2] at f2
  rw [e3] at f3
  rw [e4] at f4
  have b5 : 0 ≤ (v : Int) % 262144 ∧ (v : Int) % 262144 < 262144 := by omega
  have b6 : 0 ≤ (v : Int) % 4194304 ∧ (v : Int) % 4194304 < 4194304 := by omega
  have b8 : 0 ≤ (v : Int) % 67108864 ∧ (v : Int) % 67108864 < 67108864 := by omega
  clear e1 e2 e3 e4 hv
  generalize (v : Int) % 262144 = n18 at *
  generalize (v : Int) % 4194304 = n22 at *
  generalize (v : Int) % 67108864 = n26 at *
  generalize (v : Int) % 16384 = n14 at *
  have s18 := fun w => signed_18 w n18 b5
  have s22 := fun w => signed_22 w n22 b6
  generalize (if 131072 ≤ n18 then n18 - 262144 else n18) = m18 at *
  generalize (if 2097152 ≤ n22 then n22 - 4194304 else n22) = m22 at *
  go_enter Tryz.func15, Tryz.ntmps15
  go_upto_region 3 with (first
    | (go_at_call 27; with_reducible refine (f1 _).mono ?_; rintro e w1 ⟨rfl, k1⟩)
    | (go_at_call 27; with_reducible refine (f2 _).mono ?_; rintro e w2 ⟨rfl, k2⟩)
    | (go_at_call 27; with_reducible refine (f3 _).mono ?_; rintro e w3 ⟨rfl, k3⟩)
    | (go_at_call 27; with_reducible refine (f4 _).mono ?_; rintro e w4 ⟨rfl, k4⟩))
  clear f1 f2 f3 f4
  obtain ⟨w5, hw5⟩ : ∃ w5, w5 = w4.alloc (.cells #[.int .i64 21, .int .i64 x, .int .i64 y, .int .i64 z, .int .i64 0] 62) := ⟨_, rfl⟩
  have n5 : w5.heap[w4.heap.size]? = some (.cells #[.int .i64 21, .int .i64 x, .int .i64 y, .int .i64 z, .int .i64 0] 62 (0, 0)) := by rw [hw5]; exact heap_alloc_new w4 _
  have k5 : Kp w4 w5 := by rw [hw5]; exact (Chg.refl w4 _).alloc _
  rw [← hw5]
  clear hw5
  have kz : Kp ((w.alloc (.cells #[.int .i64 0, .int .i64 0, .int .i64 0, .int .i64 0, .int .i64 0] 62)).alloc (.cells #[.int .i64 (-1), .int .i64 0, .int .i64 0, .int .i64 0, .int .i64 0] 62)) w4 := Kp.trans k1 (Kp.trans k2 (Kp.trans k3 k4))
  have z0 : w.heap.size + 2 ≤ w4.heap.size := by have := kz.size; simp at this; omega
  have zz : w4.heap[w.heap.size]? = some (.cells #[.int .i64 0, .int .i64 0, .int .i64 0, .int .i64 0, .int .i64 0] 62 (0, 0)) := Kp.heap kz (Kp.heap ((Chg.refl _ _).alloc _) (heap_alloc_new w _))
  have zn : w4.heap[w.heap.size + 1]? = some (.cells #[.int .i64 (-1), .int .i64 0, .int .i64 0, .int .i64 0, .int .i64 0] 62 (0, 0)) := Kp.heap kz (by have := heap_alloc_new (w.alloc (.cells #[.int .i64 0, .int .i64 0, .int .i64 0, .int .i64 0, .int .i64 0] 62)) (.cells #[.int .i64 (-1), .int .i64 0, .int .i64 0, .int .i64 0, .int .i64 0] 62); simpa using this)
  have kw : Kp w w4 := Kp.trans ((Chg.refl w _).alloc _ |>.alloc _) kz
  clear k1 k2 k3 k4 kz
  go_upto_region 4 with (go_at_call 27; with_reducible refine (f5 _).mono ?_; rintro e w6 ⟨rfl, k6⟩)
  go_upto_region 7 with (go_at_call 27; with_reducible refine (f6 _).mono ?_; rintro e w7 ⟨rfl, k7⟩)
  have K7 : Kp w4 w7 := Kp.trans k5 (Kp.trans k6 k7)
  have P7 := Kp.heap (Kp.trans k6 k7) n5
  have Z7 := Kp.heap K7 zz
  have N7 := Kp.heap K7 zn
  obtain ⟨c0, c1, c2, c3, c4, g0, g1, g2, g3, g4⟩ := cells5 P7
  obtain ⟨d0, d1, d2, d3, d4, _⟩ := cells5 N7
  obtain ⟨t0, t1, t2, t3, t4, u0, u1, u2, u3, u4⟩ := cells5 Z7
  have HH : Hid (Kp w w7 ∧ w.heap.size + 2 ≤ w4.heap.size ∧ w7.heap[w4.heap.size]? = some (.cells #[.int .i64 21, .int .i64 x, .int .i64 y, .int .i64 z, .int .i64 0] 62 (0, 0)) ∧ w7.heap[w.heap.size]? = some (.cells #[.int .i64 0, .int .i64 0, .int .i64 0, .int .i64 0, .int .i64 0] 62 (0, 0)) ∧ w7.heap[w.heap.size + 1]? = some (.cells #[.int .i64 (-1), .int .i64 0, .int .i64 0, .int .i64 0, .int .i64 0] 62 (0, 0))) := ⟨Kp.trans kw K7, z0, P7, Z7, N7⟩
  have e01 : ¬ w.heap.size = w4.heap.size := by omega
  have e02 : ¬ w4.heap.size = w.heap.size := by omega
  have e03 : ¬ w4.heap.size = w.heap.size + 1 := by omega
  have e04 : ¬ w.heap.size + 1 = w4.heap.size := by omega
  clear kw K7 P7 Z7 N7 zz zn n5 k5 k6 k7 f5 f6 z0
  have HC := fun (V : World) (k : Kp w7 V) => (⟨cells5 (Kp.heap k HH.out.2.2.1), cells5 (Kp.heap k HH.out.2.2.2.1), cells5 (Kp.heap k HH.out.2.2.2.2)⟩ : _ ∧ _ ∧ _)
  go_wp2_with (go_at_call 28; with_reducible refine (s18 _).mono ?_; rintro e w8 ⟨rfl, k8⟩; obtain ⟨⟨c0', c1', c2', c3', c4', g0', g1', g2', g3', g4'⟩, ⟨t0', t1', t2', t3', t4', u0', u1', u2', u3', u4'⟩, ⟨d0', d1', d2', d3', d4', _⟩⟩ := HC w8 k8; clear HC c0 c1 c2 c3 c4 g0 g1 g2 g3 g4 t0 t1 t2 t3 t4 u0 u1 u2 u3 u4 d0 d1 d2 d3 d4)
  have KW : Kp w w8 := Kp.trans HH.out.1 k8
  have ZW := Kp.heap k8 HH.out.2.2.2.1
  have lt4 := HH.out.2.1
  have CW : Chg w8 (w8.setCell ⟨w4.heap.size, 4, none⟩ (.int .i64 m18)) (fun k => k = w4.heap.size) := Chg.setCell (S := fun k => k = w4.heap.size) (Chg.refl w8 _) (.inl rfl) _
  have ZX := CW.heap ZW (by omega)
  have KX : Kp w (w8.setCell ⟨w4.heap.size, 4, none⟩ (.int .i64 m18)) := Chg.trans KW CW (fun i hi e => by omega)
  refine ⟨rfl, _, ?_, rfl, ?_⟩
  · exact results_cell_row rfl _ _ w.heap.size 62 _ (0, 0) _ rfl (box5 ZX _ _ _ _ _ rfl).1 Tryz.underlying62 rfl (by kernel_rfl)
  · exact Chg.trans KX (box5 ZX _ _ _ _ _ rfl).2.2 (fun i hi e => by omega)
set_option maxRecDepth 100000 in
set_option maxHeartbeats 2000000 in
theorem apart_h (w : World) (v : Nat) (hv : v < 4294967296) (x y z : Int) (o : Int) (hoo : -1 ≤ o ∧ o ≤ 62) (e1 : (v : Int) / 67108864 % 64 = o + 1) (e2 : (v : Int) / 4194304 % 16 = x) (e3 : (v : Int) / 262144 % 16 = y) (e4 : (v : Int) / 16384 % 16 = z) (ho : 23 ≤ o ∧ o ≤ 36) :
    Calls Tryz.prog 15 #[.int .u32 (v : Nat)] w fun e w' => e = .returned (prV o x y z (if 131072 ≤ (v : Int) % 262144 then (v : Int) % 262144 - 262144 else (v : Int) % 262144)) ∧ Kp w w' := by
  have f1 := fun w => field_26_6 w v hv
  have f2 := fun w => field_22_4 w v hv
  have f3 := fun w => field_18_4 w v hv
  have f4 := fun w => field_14_4 w v hv
  have f5 := fun w => field_0_18 w v hv
  have f6 := fun w => field_0_22 w v hv
  have f7 := fun w => field_0_14 w v hv
  have f8 := fun w => field_0_26 w v hv
  rw [e1] at f1
  rw [e2] at f2
  rw [e3] at f3
  rw [e4] at f4
  have b5 : 0 ≤ (v : Int) % 262144 ∧ (v : Int) % 262144 < 262144 := by omega
  have b6 : 0 ≤ (v : Int) % 4194304 ∧ (v : Int) % 4194304 < 4194304 := by omega
  have b8 : 0 ≤ (v : Int) % 67108864 ∧ (v : Int) % 67108864 < 67108864 := by omega
  clear e1 e2 e3 e4 hv
  generalize (v : Int) % 262144 = n18 at *
  generalize (v : Int) % 4194304 = n22 at *
  generalize (v : Int) % 67108864 = n26 at *
  generalize (v : Int) % 16384 = n14 at *
  have s18 := fun w => signed_18 w n18 b5
  have s22 := fun w => signed_22 w n22 b6
  generalize (if 131072 ≤ n18 then n18 - 262144 else n18) = m18 at *
  generalize (if 2097152 ≤ n22 then n22 - 4194304 else n22) = m22 at *
  have q13 : (o == 13) = false := by simpa using (show ¬ o = 13 by omega)
  have q20 : (o == 20) = false := by simpa using (show ¬ o = 20 by omega)
  have q21 : (o == 21) = false := by simpa using (show ¬ o = 21 by omega)
  have q38 : (o == 38) = false := by simpa using (show ¬ o = 38 by omega)
  have q22 : (o == 22) = false := by simpa using (show ¬ o = 22 by omega)
  have q37 : (o == 37) = false := by simpa using (show ¬ o = 37 by omega)
  have q39 : (o == 39) = false := by simpa using (show ¬ o = 39 by omega)
  have q40 : (o == 40) = false := by simpa using (show ¬ o = 40 by omega)
  have q45 : (o == 45) = false := by simpa using (show ¬ o = 45 by omega)
  go_enter Tryz.func15, Tryz.ntmps15
  go_upto_region 3 with (first
    | (go_at_call 27; with_reducible refine (f1 _).mono ?_; rintro e w1 ⟨rfl, k1⟩)
    | (go_at_call 27; with_reducible refine (f2 _).mono ?_; rintro e w2 ⟨rfl, k2⟩)
    | (go_at_call 27; with_reducible refine (f3 _).mono ?_; rintro e w3 ⟨rfl, k3⟩)
    | (go_at_call 27; with_reducible refine (f4 _).mono ?_; rintro e w4 ⟨rfl, k4⟩))
  clear f1 f2 f3 f4
  obtain ⟨w5, hw5⟩ : ∃ w5, w5 = w4.alloc (.cells #[.int .i64 o, .int .i64 x, .int .i64 y, .int .i64 z, .int .i64 0] 62) := ⟨_, rfl⟩
  have n5 : w5.heap[w4.heap.size]? = some (.cells #[.int .i64 o, .int .i64 x, .int .i64 y, .int .i64 z, .int .i64 0] 62 (0, 0)) := by rw [hw5]; exact heap_alloc_new w4 _
  have k5 : Kp w4 w5 := by rw [hw5]; exact (Chg.refl w4 _).alloc _
  rw [← hw5]
  clear hw5
  have kz : Kp ((w.alloc (.cells #[.int .i64 0, .int .i64 0, .int .i64 0, .int .i64 0, .int .i64 0] 62)).alloc (.cells #[.int .i64 (-1), .int .i64 0, .int .i64 0, .int .i64 0, .int .i64 0] 62)) w4 := Kp.trans k1 (Kp.trans k2 (Kp.trans k3 k4))
  have z0 : w.heap.size + 2 ≤ w4.heap.size := by have := kz.size; simp at this; omega
  have zz : w4.heap[w.heap.size]? = some (.cells #[.int .i64 0, .int .i64 0, .int .i64 0, .int .i64 0, .int .i64 0] 62 (0, 0)) := Kp.heap kz (Kp.heap ((Chg.refl _ _).alloc _) (heap_alloc_new w _))
  have zn : w4.heap[w.heap.size + 1]? = some (.cells #[.int .i64 (-1), .int .i64 0, .int .i64 0, .int .i64 0, .int .i64 0] 62 (0, 0)) := Kp.heap kz (by have := heap_alloc_new (w.alloc (.cells #[.int .i64 0, .int .i64 0, .int .i64 0, .int .i64 0, .int .i64 0] 62)) (.cells #[.int .i64 (-1), .int .i64 0, .int .i64 0, .int .i64 0, .int .i64 0] 62); simpa using this)
  have kw : Kp w w4 := Kp.trans ((Chg.refl w _).alloc _ |>.alloc _) kz
  clear k1 k2 k3 k4 kz
  go_upto_region 4 with (go_at_call 27; with_reducible refine (f5 _).mono ?_; rintro e w6 ⟨rfl, k6⟩)
  go_upto_region 7 with (go_at_call 27; with_reducible refine (f6 _).mono ?_; rintro e w7 ⟨rfl, k7⟩)
  have K7 : Kp w4 w7 := Kp.trans k5 (Kp.trans k6 k7)
  have P7 := Kp.heap (Kp.trans k6 k7) n5
  have Z7 := Kp.heap K7 zz
  have N7 := Kp.heap K7 zn
  obtain ⟨c0, c1, c2, c3, c4, g0, g1, g2, g3, g4⟩ := cells5 P7
  obtain ⟨d0, d1, d2, d3, d4, _⟩ := cells5 N7
  obtain ⟨t0, t1, t2, t3, t4, u0, u1, u2, u3, u4⟩ := cells5 Z7
  have HH : Hid (Kp w w7 ∧ w.heap.size + 2 ≤ w4.heap.size ∧ w7.heap[w4.heap.size]? = some (.cells #[.int .i64 o, .int .i64 x, .int .i64 y, .int .i64 z, .int .i64 0] 62 (0, 0)) ∧ w7.heap[w.heap.size]? = some (.cells #[.int .i64 0, .int .i64 0, .int .i64 0, .int .i64 0, .int .i64 0] 62 (0, 0)) ∧ w7.heap[w.heap.size + 1]? = some (.cells #[.int .i64 (-1), .int .i64 0, .int .i64 0, .int .i64 0, .int .i64 0] 62 (0, 0))) := ⟨Kp.trans kw K7, z0, P7, Z7, N7⟩
  have e01 : ¬ w.heap.size = w4.heap.size := by omega
  have e02 : ¬ w4.heap.size = w.heap.size := by omega
  have e03 : ¬ w4.heap.size = w.heap.size + 1 := by omega
  have e04 : ¬ w.heap.size + 1 = w4.heap.size := by omega
  clear kw K7 P7 Z7 N7 zz zn n5 k5 k6 k7 f5 f6 z0
  have HC := fun (V : World) (k : Kp w7 V) => (⟨cells5 (Kp.heap k HH.out.2.2.1), cells5 (Kp.heap k HH.out.2.2.2.1), cells5 (Kp.heap k HH.out.2.2.2.2)⟩ : _ ∧ _ ∧ _)
  go_wp2_with (go_at_call 28; with_reducible refine (s18 _).mono ?_; rintro e w8 ⟨rfl, k8⟩; obtain ⟨⟨c0', c1', c2', c3', c4', g0', g1', g2', g3', g4'⟩, ⟨t0', t1', t2', t3', t4', u0', u1', u2', u3', u4'⟩, ⟨d0', d1', d2', d3', d4', _⟩⟩ := HC w8 k8; clear HC c0 c1 c2 c3 c4 g0 g1 g2 g3 g4 t0 t1 t2 t3 t4 u0 u1 u2 u3 u4 d0 d1 d2 d3 d4)
  have KW : Kp w w8 := Kp.trans HH.out.1 k8
  have ZW := Kp.heap k8 HH.out.2.2.2.1
  have lt4 := HH.out.2.1
  have CW : Chg w8 (w8.setCell ⟨w4.heap.size, 4, none⟩ (.int .i64 m18)) (fun k => k = w4.heap.size) := Chg.setCell (S := fun k => k = w4.heap.size) (Chg.refl w8 _) (.inl rfl) _
  have ZX := CW.heap ZW (by omega)
  have KX : Kp w (w8.setCell ⟨w4.heap.size, 4, none⟩ (.int .i64 m18)) := Chg.trans KW CW (fun i hi e => by omega)
  refine ⟨rfl, _, ?_, rfl, ?_⟩
  · exact results_cell_row rfl _ _ w.heap.size 62 _ (0, 0) _ rfl (box5 ZX _ _ _ _ _ rfl).1 Tryz.underlying62 rfl (by kernel_rfl)
  · exact Chg.trans KX (box5 ZX _ _ _ _ _ rfl).2.2 (fun i hi e => by omega)
set_option maxRecDepth 100000 in
set_option maxHeartbeats 2000000 in
theorem apart_i (w : World) (v : Nat) (hv : v < 4294967296) (x y z : Int) (e1 : (v : Int) / 67108864 % 64 = 39) (e2 : (v : Int) / 4194304 % 16 = x) (e3 : (v : Int) / 262144 % 16 = y) (e4 : (v : Int) / 16384 % 16 = z)  :
    Calls Tryz.prog 15 #[.int .u32 (v : Nat)] w fun e w' => e = .returned (prV 38 x y z (if 131072 ≤ (v : Int) % 262144 then (v : Int) % 262144 - 262144 else (v : Int) % 262144)) ∧ Kp w w' := by
  have f1 := fun w => field_26_6 w v hv
  have f2 := fun w => field_22_4 w v hv
  have f3 := fun w => field_18_4 w v hv
  have f4 := fun w => field_14_4 w v hv
  have f5 := fun w => field_0_18 w v hv
  have f6 := fun w => field_0_22 w v hv
  have f7 := fun w => field_0_14 w v hv
  have f8 := fun w => field_0_26 w v hv
  rw [e1] at f1
  rw [e2] at f2
  rw [e3] at f3
  rw [e4] at f4
  have b5 : 0 ≤ (v : Int) % 262144 ∧ (v : Int) % 262144 < 262144 := by omega
  have b6 : 0 ≤ (v : Int) % 4194304 ∧ (v : Int) % 4194304 < 4194304 := by omega
  have b8 : 0 ≤ (v : Int) % 67108864 ∧ (v : Int) % 67108864 < 67108864 := by omega
  clear e1 e2 e3 e4 hv
  generalize (v : Int) % 262144 = n18 at *
  generalize (v : Int) % 4194304 = n22 at *
  generalize (v : Int) % 67108864 = n26 at *
  generalize (v : Int) % 16384 = n14 at *
  have s18 := fun w => signed_18 w n18 b5
  have s22 := fun w => signed_22 w n22 b6
  generalize (if 131072 ≤ n18 then n18 - 262144 else n18) = m18 at *
  generalize (if 2097152 ≤ n22 then n22 - 4194304 else n22) = m22 at *
  go_enter Tryz.func15, Tryz.ntmps15
  go_upto_region 3 with (first
    | (go_at_call 27; with_reducible refine (f1 _).mono ?_; rintro e w1 ⟨rfl, k1⟩)
    | (go_at_call 27; with_reducible refine (f2 _).mono ?_; rintro e w2 ⟨rfl, k2⟩)
    | (go_at_call 27; with_reducible refine (f3 _).mono ?_; rintro e w3 ⟨rfl, k3⟩)
    | (go_at_call 27; with_reducible refine (f4 _).mono ?_; rintro e w4 ⟨rfl, k4⟩))
  clear f1 f2 f3 f4
  obtain ⟨w5, hw5⟩ : ∃ w5, w5 = w4.alloc (.cells #[.int .i64 38, .int .i64 x, .int .i64 y, .int .i64 z, .int .i64 0] 62) := ⟨_, rfl⟩
  have n5 : w5.heap[w4.heap.size]? = some (.cells #[.int .i64 38, .int .i64 x, .int .i64 y, .int .i64 z, .int .i64 0] 62 (0, 0)) := by rw [hw5]; exact heap_alloc_new w4 _
  have k5 : Kp w4 w5 := by rw [hw5]; exact (Chg.refl w4 _).alloc _
  rw [← hw5]
  clear hw5
  have kz : Kp ((w.alloc (.cells #[.int .i64 0, .int .i64 0, .int .i64 0, .int .i64 0, .int .i64 0] 62)).alloc (.cells #[.int .i64 (-1), .int .i64 0, .int .i64 0, .int .i64 0, .int .i64 0] 62)) w4 := Kp.trans k1 (Kp.trans k2 (Kp.trans k3 k4))
  have z0 : w.heap.size + 2 ≤ w4.heap.size := by have := kz.size; simp at this; omega
  have zz : w4.heap[w.heap.size]? = some (.cells #[.int .i64 0, .int .i64 0, .int .i64 0, .int .i64 0, .int .i64 0] 62 (0, 0)) := Kp.heap kz (Kp.heap ((Chg.refl _ _).alloc _) (heap_alloc_new w _))
  have zn : w4.heap[w.heap.size + 1]? = some (.cells #[.int .i64 (-1), .int .i64 0, .int .i64 0, .int .i64 0, .int .i64 0] 62 (0, 0)) := Kp.heap kz (by have := heap_alloc_new (w.alloc (.cells #[.int .i64 0, .int .i64 0, .int .i64 0, .int .i64 0, .int .i64 0] 62)) (.cells #[.int .i64 (-1), .int .i64 0, .int .i64 0, .int .i64 0, .int .i64 0] 62); simpa using this)
  have kw : Kp w w4 := Kp.trans ((Chg.refl w _).alloc _ |>.alloc _) kz
  clear k1 k2 k3 k4 kz
  go_upto_region 4 with (go_at_call 27; with_reducible refine (f5 _).mono ?_; rintro e w6 ⟨rfl, k6⟩)
  go_upto_region 7 with (go_at_call 27; with_reducible refine (f6 _).mono ?_; rintro e w7 ⟨rfl, k7⟩)
  have K7 : Kp w4 w7 := Kp.trans k5 (Kp.trans k6 k7)
  have P7 := Kp.heap (Kp.trans k6 k7) n5
  have Z7 := Kp.heap K7 zz
  have N7 := Kp.heap K7 zn
  obtain ⟨c0, c1, c2, c3, c4, g0, g1, g2, g3, g4⟩ := cells5 P7
  obtain ⟨d0, d1, d2, d3, d4, _⟩ := cells5 N7
  obtain ⟨t0, t1, t2, t3, t4, u0, u1, u2, u3, u4⟩ := cells5 Z7
  have HH : Hid (Kp w w7 ∧ w.heap.size + 2 ≤ w4.heap.size ∧ w7.heap[w4.heap.size]? = some (.cells #[.int .i64 38, .int .i64 x, .int .i64 y, .int .i64 z, .int .i64 0] 62 (0, 0)) ∧ w7.heap[w.heap.size]? = some (.cells #[.int .i64 0, .int .i64 0, .int .i64 0, .int .i64 0, .int .i64 0] 62 (0, 0)) ∧ w7.heap[w.heap.size + 1]? = some (.cells #[.int .i64 (-1), .int .i64 0, .int .i64 0, .int .i64 0, .int .i64 0] 62 (0, 0))) := ⟨Kp.trans kw K7, z0, P7, Z7, N7⟩
  have e01 : ¬ w.heap.size = w4.heap.size := by omega
  have e02 : ¬ w4.heap.size = w.heap.size := by omega
  have e03 : ¬ w4.heap.size = w.heap.size + 1 := by omega
  have e04 : ¬ w.heap.size + 1 = w4.heap.size := by omega
  clear kw K7 P7 Z7 N7 zz zn n5 k5 k6 k7 f5 f6 z0
  have HC := fun (V : World) (k : Kp w7 V) => (⟨cells5 (Kp.heap k HH.out.2.2.1), cells5 (Kp.heap k HH.out.2.2.2.1), cells5 (Kp.heap k HH.out.2.2.2.2)⟩ : _ ∧ _ ∧ _)
  go_wp2_with (go_at_call 28; with_reducible refine (s18 _).mono ?_; rintro e w8 ⟨rfl, k8⟩; obtain ⟨⟨c0', c1', c2', c3', c4', g0', g1', g2', g3', g4'⟩, ⟨t0', t1', t2', t3', t4', u0', u1', u2', u3', u4'⟩, ⟨d0', d1', d2', d3', d4', _⟩⟩ := HC w8 k8; clear HC c0 c1 c2 c3 c4 g0 g1 g2 g3 g4 t0 t1 t2 t3 t4 u0 u1 u2 u3 u4 d0 d1 d2 d3 d4)
  have KW : Kp w w8 := Kp.trans HH.out.1 k8
  have ZW := Kp.heap k8 HH.out.2.2.2.1
  have lt4 := HH.out.2.1
  have CW : Chg w8 (w8.setCell ⟨w4.heap.size, 4, none⟩ (.int .i64 m18)) (fun k => k = w4.heap.size) := Chg.setCell (S := fun k => k = w4.heap.size) (Chg.refl w8 _) (.inl rfl) _
  have ZX := CW.heap ZW (by omega)
  have KX : Kp w (w8.setCell ⟨w4.heap.size, 4, none⟩ (.int .i64 m18)) := Chg.trans KW CW (fun i hi e => by omega)
  refine ⟨rfl, _, ?_, rfl, ?_⟩
  · exact results_cell_row rfl _ _ w.heap.size 62 _ (0, 0) _ rfl (box5 ZX _ _ _ _ _ rfl).1 Tryz.underlying62 rfl (by kernel_rfl)
  · exact Chg.trans KX (box5 ZX _ _ _ _ _ rfl).2.2 (fun i hi e => by omega)
set_option maxRecDepth 100000 in
set_option maxHeartbeats 2000000 in
theorem apart_j (w : World) (v : Nat) (hv : v < 4294967296) (x y z : Int) (o : Int) (hoo : -1 ≤ o ∧ o ≤ 62) (e1 : (v : Int) / 67108864 % 64 = o + 1) (e2 : (v : Int) / 4194304 % 16 = x) (e3 : (v : Int) / 262144 % 16 = y) (e4 : (v : Int) / 16384 % 16 = z) (ho : 14 ≤ o ∧ o ≤ 16) :
    Calls Tryz.prog 15 #[.int .u32 (v : Nat)] w fun e w' => e = .returned (prV o x y z ((v : Int) % 262144)) ∧ Kp w w' := by
  have f1 := fun w => field_26_6 w v hv
  have f2 := fun w => field_22_4 w v hv
  have f3 := fun w => field_18_4 w v hv
  have f4 := fun w => field_14_4 w v hv
  have f5 := fun w => field_0_18 w v hv
  have f6 := fun w => field_0_22 w v hv
  have f7 := fun w => field_0_14 w v hv
  have f8 := fun w => field_0_26 w v hv
  rw [e1] at f1
  rw [e2] at f2
  rw [e3] at f3
  rw [e4] at f4
  have b5 : 0 ≤ (v : Int) % 262144 ∧ (v : Int) % 262144 < 262144 := by omega
  have b6 : 0 ≤ (v : Int) % 4194304 ∧ (v : Int) % 4194304 < 4194304 := by omega
  have b8 : 0 ≤ (v : Int) % 67108864 ∧ (v : Int) % 67108864 < 67108864 := by omega
  clear e1 e2 e3 e4 hv
  generalize (v : Int) % 262144 = n18 at *
  generalize (v : Int) % 4194304 = n22 at *
  generalize (v : Int) % 67108864 = n26 at *
  generalize (v : Int) % 16384 = n14 at *
  have s18 := fun w => signed_18 w n18 b5
  have s22 := fun w => signed_22 w n22 b6
  generalize (if 131072 ≤ n18 then n18 - 262144 else n18) = m18 at *
  generalize (if 2097152 ≤ n22 then n22 - 4194304 else n22) = m22 at *
  have q13 : (o == 13) = false := by simpa using (show ¬ o = 13 by omega)
  have q20 : (o == 20) = false := by simpa using (show ¬ o = 20 by omega)
  have q21 : (o == 21) = false := by simpa using (show ¬ o = 21 by omega)
  have q38 : (o == 38) = false := by simpa using (show ¬ o = 38 by omega)
  have q22 : (o == 22) = false := by simpa using (show ¬ o = 22 by omega)
  have q37 : (o == 37) = false := by simpa using (show ¬ o = 37 by omega)
  have q39 : (o == 39) = false := by simpa using (show ¬ o = 39 by omega)
  have q40 : (o == 40) = false := by simpa using (show ¬ o = 40 by omega)
  have q45 : (o == 45) = false := by simpa using (show ¬ o = 45 by omega)
  go_enter Tryz.func15, Tryz.ntmps15
  go_upto_region 3 with (first
    | (go_at_call 27; with_reducible refine (f1 _).mono ?_; rintro e w1 ⟨rfl, k1⟩)
    | (go_at_call 27; with_reducible refine (f2 _).mono ?_; rintro e w2 ⟨rfl, k2⟩)
    | (go_at_call 27; with_reducible refine (f3 _).mono ?_; rintro e w3 ⟨rfl, k3⟩)
    | (go_at_call 27; with_reducible refine (f4 _).mono ?_; rintro e w4 ⟨rfl, k4⟩))
  clear f1 f2 f3 f4
  obtain ⟨w5, hw5⟩ : ∃ w5, w5 = w4.alloc (.cells #[.int .i64 o, .int .i64 x, .int .i64 y, .int .i64 z, .int .i64 0] 62) := ⟨_, rfl⟩
  have n5 : w5.heap[w4.heap.size]? = some (.cells #[.int .i64 o, .int .i64 x, .int .i64 y, .int .i64 z, .int .i64 0] 62 (0, 0)) := by rw [hw5]; exact heap_alloc_new w4 _
  have k5 : Kp w4 w5 := by rw [hw5]; exact (Chg.refl w4 _).alloc _
  rw [← hw5]
  clear hw5
  have kz : Kp ((w.alloc (.cells #[.int .i64 0, .int .i64 0, .int .i64 0, .int .i64 0, .int .i64 0] 62)).alloc (.cells #[.int .i64 (-1), .int .i64 0, .int .i64 0, .int .i64 0, .int .i64 0] 62)) w4 := Kp.trans k1 (Kp.trans k2 (Kp.trans k3 k4))
  have z0 : w.heap.size + 2 ≤ w4.heap.size := by have := kz.size; simp at this; omega
  have zz : w4.heap[w.heap.size]? = some (.cells #[.int .i64 0, .int .i64 0, .int .i64 0, .int .i64 0, .int .i64 0] 62 (0, 0)) := Kp.heap kz (Kp.heap ((Chg.refl _ _).alloc _) (heap_alloc_new w _))
  have zn : w4.heap[w.heap.size + 1]? = some (.cells #[.int .i64 (-1), .int .i64 0, .int .i64 0, .int .i64 0, .int .i64 0] 62 (0, 0)) := Kp.heap kz (by have := heap_alloc_new (w.alloc (.cells #[.int .i64 0, .int .i64 0, .int .i64 0, .int .i64 0, .int .i64 0] 62)) (.cells #[.int .i64 (-1), .int .i64 0, .int .i64 0, .int .i64 0, .int .i64 0] 62); simpa using this)
  have kw : Kp w w4 := Kp.trans ((Chg.refl w _).alloc _ |>.alloc _) kz
  clear k1 k2 k3 k4 kz
  go_upto_region 4 with (go_at_call 27; with_reducible refine (f5 _).mono ?_; rintro e w6 ⟨rfl, k6⟩)
  go_upto_region 7 with (go_at_call 27; with_reducible refine (f6 _).mono ?_; rintro e w7 ⟨rfl, k7⟩)
  have K7 : Kp w4 w7 := Kp.trans k5 (Kp.trans k6 k7)
  have P7 := Kp.heap (Kp.trans k6 k7) n5
  have Z7 := Kp.heap K7 zz
  have N7 := Kp.heap K7 zn
  obtain ⟨c0, c1, c2, c3, c4, g0, g1, g2, g3, g4⟩ := cells5 P7
  obtain ⟨d0, d1, d2, d3, d4, _⟩ := cells5 N7
  obtain ⟨t0, t1, t2, t3, t4, u0, u1, u2, u3, u4⟩ := cells5 Z7
  have HH : Hid (Kp w w7 ∧ w.heap.size + 2 ≤ w4.heap.size ∧ w7.heap[w4.heap.size]? = some (.cells #[.int .i64 o, .int .i64 x, .int .i64 y, .int .i64 z, .int .i64 0] 62 (0, 0)) ∧ w7.heap[w.heap.size]? = some (.cells #[.int .i64 0, .int .i64 0, .int .i64 0, .int .i64 0, .int .i64 0] 62 (0, 0)) ∧ w7.heap[w.heap.size + 1]? = some (.cells #[.int .i64 (-1), .int .i64 0, .int .i64 0, .int .i64 0, .int .i64 0] 62 (0, 0))) := ⟨Kp.trans kw K7, z0, P7, Z7, N7⟩
  have e01 : ¬ w.heap.size = w4.heap.size := by omega
  have e02 : ¬ w4.heap.size = w.heap.size := by omega
  have e03 : ¬ w4.heap.size = w.heap.size + 1 := by omega
  have e04 : ¬ w.heap.size + 1 = w4.heap.size := by omega
  clear kw K7 P7 Z7 N7 zz zn n5 k5 k6 k7 f5 f6 z0
  go_wp2_with fail
  have KW : Kp w w7 := HH.out.1
  have ZW := HH.out.2.2.2.1
  have lt4 := HH.out.2.1
  have CW : Chg w7 (w7.setCell ⟨w4.heap.size, 4, none⟩ (.int .i64 n18)) (fun k => k = w4.heap.size) := Chg.setCell (S := fun k => k = w4.heap.size) (Chg.refl w7 _) (.inl rfl) _
  have ZX := CW.heap ZW (by omega)
  have KX : Kp w (w7.setCell ⟨w4.heap.size, 4, none⟩ (.int .i64 n18)) := Chg.trans KW CW (fun i hi e => by omega)
  refine ⟨rfl, _, ?_, rfl, ?_⟩
  · exact results_cell_row rfl _ _ w.heap.size 62 _ (0, 0) _ rfl (box5 ZX _ _ _ _ _ rfl).1 Tryz.underlying62 rfl (by kernel_rfl)
  · exact Chg.trans KX (box5 ZX _ _ _ _ _ rfl).2.2 (fun i hi e => by omega)
set_option maxRecDepth 100000 in
set_option maxHeartbeats 2000000 in
theorem apart_k (w : World) (v : Nat) (hv : v < 4294967296) (x y z : Int) (o : Int) (hoo : -1 ≤ o ∧ o ≤ 62) (e1 : (v : Int) / 67108864 % 64 = o + 1) (e2 : (v : Int) / 4194304 % 16 = x) (e3 : (v : Int) / 262144 % 16 = y) (e4 : (v : Int) / 16384 % 16 = z) (ho : 17 ≤ o ∧ o ≤ 19) (hx : (v : Int) % 262144 ≤ 31) :
    Calls Tryz.prog 15 #[.int .u32 (v : Nat)] w fun e w' => e = .returned (prV o x y z ((v : Int) % 262144)) ∧ Kp w w' := by
  have f1 := fun w => field_26_6 w v hv
  have f2 := fun w => field_22_4 w v hv
  have f3 := fun w => field_18_4 w v hv
  have f4 := fun w => field_14_4 w v hv
  have f5 := fun w => field_0_18 w v hv
  have f6 := fun w => field_0_22 w v hv
  have f7 := fun w => field_0_14 w v hv
  have f8 := fun w => field_0_26 w v hv
  rw [e1] at f1
  rw [e2] at f2
  rw [e3] at f3
  rw [e4] at f4
  have b5 : 0 ≤ (v : Int) % 262144 ∧ (v : Int) % 262144 < 262144 := by omega
  have b6 : 0 ≤ (v : Int) % 4194304 ∧ (v : Int) % 4194304 < 4194304 := by omega
  have b8 : 0 ≤ (v : Int) % 67108864 ∧ (v : Int) % 67108864 < 67108864 := by omega
  clear e1 e2 e3 e4 hv
  generalize (v : Int) % 262144 = n18 at *
  generalize (v : Int) % 4194304 = n22 at *
  generalize (v : Int) % 67108864 = n26 at *
  generalize (v : Int) % 16384 = n14 at *
  have s18 := fun w => signed_18 w n18 b5
  have s22 := fun w => signed_22 w n22 b6
  generalize (if 131072 ≤ n18 then n18 - 262144 else n18) = m18 at *
  generalize (if 2097152 ≤ n22 then n22 - 4194304 else n22) = m22 at *
  have q13 : (o == 13) = false := by simpa using (show ¬ o = 13 by omega)
  have q20 : (o == 20) = false := by simpa using (show ¬ o = 20 by omega)
  have q21 : (o == 21) = false := by simpa using (show ¬ o = 21 by omega)
  have q38 : (o == 38) = false := by simpa using (show ¬ o = 38 by omega)
  have q22 : (o == 22) = false := by simpa using (show ¬ o = 22 by omega)
  have q37 : (o == 37) = false := by simpa using (show ¬ o = 37 by omega)
  have q39 : (o == 39) = false := by simpa using (show ¬ o = 39 by omega)
  have q40 : (o == 40) = false := by simpa using (show ¬ o = 40 by omega)
  have q45 : (o == 45) = false := by simpa using (show ¬ o = 45 by omega)
  go_enter Tryz.func15, Tryz.ntmps15
  go_upto_region 3 with (first
    | (go_at_call 27; with_reducible refine (f1 _).mono ?_; rintro e w1 ⟨rfl, k1⟩)
    | (go_at_call 27; with_reducible refine (f2 _).mono ?_; rintro e w2 ⟨rfl, k2⟩)
    | (go_at_call 27; with_reducible refine (f3 _).mono ?_; rintro e w3 ⟨rfl, k3⟩)
    | (go_at_call 27; with_reducible refine (f4 _).mono ?_; rintro e w4 ⟨rfl, k4⟩))
  clear f1 f2 f3 f4
  obtain ⟨w5, hw5⟩ : ∃ w5, w5 = w4.alloc (.cells #[.int .i64 o, .int .i64 x, .int .i64 y, .int .i64 z, .int .i64 0] 62) := ⟨_, rfl⟩
  have n5 : w5.heap[w4.heap.size]? = some (.cells #[.int .i64 o, .int .i64 x, .int .i64 y, .int .i64 z, .int .i64 0] 62 (0, 0)) := by rw [hw5]; exact heap_alloc_new w4 _
  have k5 : Kp w4 w5 := by rw [hw5]; exact (Chg.refl w4 _).alloc _
  rw [← hw5]
  clear hw5
  have kz : Kp ((w.alloc (.cells #[.int .i64 0, .int .i64 0, .int .i64 0, .int .i64 0, .int .i64 0] 62)).alloc (.cells #[.int .i64 (-1), .int .i64 0, .int .i64 0, .int .i64 0, .int .i64 0] 62)) w4 := Kp.trans k1 (Kp.trans k2 (Kp.trans k3 k4))
  have z0 : w.heap.size + 2 ≤ w4.heap.size := by have := kz.size; simp at this; omega
  have zz : w4.heap[w.heap.size]? = some (.cells #[.int .i64 0, .int .i64 0, .int .i64 0, .int .i64 0, .int .i64 0] 62 (0, 0)) := Kp.heap kz (Kp.heap ((Chg.refl _ _).alloc _) (heap_alloc_new w _))
  have zn : w4.heap[w.heap.size + 1]? = some (.cells #[.int .i64 (-1), .int .i64 0, .int .i64 0, .int .i64 0, .int .i64 0] 62 (0, 0)) := Kp.heap kz (by have := heap_alloc_new (w.alloc (.cells #[.int .i64 0, .int .i64 0, .int .i64 0, .int .i64 0, .int .i64 0] 62)) (.cells #[.int .i64 (-1), .int .i64 0, .int .i64 0, .int .i64 0, .int .i64 0] 62); simpa using this)
  have kw : Kp w w4 := Kp.trans ((Chg.refl w _).alloc _ |>.alloc _) kz
  clear k1 k2 k3 k4 kz
  go_upto_region 4 with (go_at_call 27; with_reducible refine (f5 _).mono ?_; rintro e w6 ⟨rfl, k6⟩)
  go_upto_region 7 with (go_at_call 27; with_reducible refine (f6 _).mono ?_; rintro e w7 ⟨rfl, k7⟩)
  have K7 : Kp w4 w7 := Kp.trans k5 (Kp.trans k6 k7)
  have P7 := Kp.heap (Kp.trans k6 k7) n5
  have Z7 := Kp.heap K7 zz
  have N7 := Kp.heap K7 zn
  obtain ⟨c0, c1, c2, c3, c4, g0, g1, g2, g3, g4⟩ := cells5 P7
  obtain ⟨d0, d1, d2, d3, d4, _⟩ := cells5 N7
  obtain ⟨t0, t1, t2, t3, t4, u0, u1, u2, u3, u4⟩ := cells5 Z7
  have HH : Hid (Kp w w7 ∧ w.heap.size + 2 ≤ w4.heap.size ∧ w7.heap[w4.heap.size]? = some (.cells #[.int .i64 o, .int .i64 x, .int .i64 y, .int .i64 z, .int .i64 0] 62 (0, 0)) ∧ w7.heap[w.heap.size]? = some (.cells #[.int .i64 0, .int .i64 0, .int .i64 0, .int .i64 0, .int .i64 0] 62 (0, 0)) ∧ w7.heap[w.heap.size + 1]? = some (.cells #[.int .i64 (-1), .int .i64 0, .int .i64 0, .int .i64 0, .int .i64 0] 62 (0, 0))) := ⟨Kp.trans kw K7, z0, P7, Z7, N7⟩
  have e01 : ¬ w.heap.size = w4.heap.size := by omega
  have e02 : ¬ w4.heap.size = w.heap.size := by omega
  have e03 : ¬ w4.heap.size = w.heap.size + 1 := by omega
  have e04 : ¬ w.heap.size + 1 = w4.heap.size := by omega
  clear kw K7 P7 Z7 N7 zz zn n5 k5 k6 k7 f5 f6 z0
  go_wp2_with fail
  have KW : Kp w w7 := HH.out.1
  have ZW := HH.out.2.2.2.1
  have lt4 := HH.out.2.1
  have CW : Chg w7 (w7.setCell ⟨w4.heap.size, 4, none⟩ (.int .i64 n18)) (fun k => k = w4.heap.size) := Chg.setCell (S := fun k => k = w4.heap.size) (Chg.refl w7 _) (.inl rfl) _
  have ZX := CW.heap ZW (by omega)
  have KX : Kp w (w7.setCell ⟨w4.heap.size, 4, none⟩ (.int .i64 n18)) := Chg.trans KW CW (fun i hi e => by omega)
  refine ⟨rfl, _, ?_, rfl, ?_⟩
  · exact results_cell_row rfl _ _ w.heap.size 62 _ (0, 0) _ rfl (box5 ZX _ _ _ _ _ rfl).1 Tryz.underlying62 rfl (by kernel_rfl)
  · exact Chg.trans KX (box5 ZX _ _ _ _ _ rfl).2.2 (fun i hi e => by omega)
set_option maxRecDepth 100000 in
set_option maxHeartbeats 2000000 in
theorem apart_l (w : World) (v : Nat) (hv : v < 4294967296) (x y z : Int) (o : Int) (hoo : -1 ≤ o ∧ o ≤ 62) (e1 : (v : Int) / 67108864 % 64 = o + 1) (e2 : (v : Int) / 4194304 % 16 = x) (e3 : (v : Int) / 262144 % 16 = y) (e4 : (v : Int) / 16384 % 16 = z) (ho : 17 ≤ o ∧ o ≤ 19) (hx : 31 < (v : Int) % 262144) :
    Calls Tryz.prog 15 #[.int .u32 (v : Nat)] w fun e w' => e = .returned (prV (-1) 0 0 0 0) ∧ Kp w w' := by
  have f1 := fun w => field_26_6 w v hv
  have f2 := fun w => field_22_4 w v hv
  have f3 := fun w => field_18_4 w v hv
  have f4 := fun w => field_14_4 w v hv
  have f5 := fun w => field_0_18 w v hv
  have f6 := fun w => field_0_22 w v hv
  have f7 := fun w => field_0_14 w v hv
  have f8 := fun w => field_0_26 w v hv
  rw [e1] at f1
  rw [e2] at f2
  rw [e3] at f3
  rw [e4] at f4
  have b5 : 0 ≤ (v : Int) % 262144 ∧ (v : Int) % 262144 < 262144 := by omega
  have b6 : 0 ≤ (v : Int) % 4194304 ∧ (v : Int) % 4194304 < 4194304 := by omega
  have b8 : 0 ≤ (v : Int) % 67108864 ∧ (v : Int) % 67108864 < 67108864 := by omega
  clear e1 e2 e3 e4 hv
  generalize (v : Int) % 262144 = n18 at *
  generalize (v : Int) % 4194304 = n22 at *
  generalize (v : Int) % 67108864 = n26 at *
  generalize (v : Int) % 16384 = n14 at *
  have s18 := fun w => signed_18 w n18 b5
  have s22 := fun w => signed_22 w n22 b6
  generalize (if 131072 ≤ n18 then n18 - 262144 else n18) = m18 at *
  generalize (if 2097152 ≤ n22 then n22 - 4194304 else n22) = m22 at *
  have q13 : (o == 13) = false := by simpa using (show ¬ o = 13 by omega)
  have q20 : (o == 20) = false := by simpa using (show ¬ o = 20 by omega)
  have q21 : (o == 21) = false := by simpa using (show ¬ o = 21 by omega)
  have q38 : (o == 38) = false := by simpa using (show ¬ o = 38 by omega)
  have q22 : (o == 22) = false := by simpa using (show ¬ o = 22 by omega)
  have q37 : (o == 37) = false := by simpa using (show ¬ o = 37 by omega)
  have q39 : (o == 39) = false := by simpa using (show ¬ o = 39 by omega)
  have q40 : (o == 40) = false := by simpa using (show ¬ o = 40 by omega)
  have q45 : (o == 45) = false := by simpa using (show ¬ o = 45 by omega)
  go_enter Tryz.func15, Tryz.ntmps15
  go_upto_region 3 with (first
    | (go_at_call 27; with_reducible refine (f1 _).mono ?_; rintro e w1 ⟨rfl, k1⟩)
    | (go_at_call 27; with_reducible refine (f2 _).mono ?_; rintro e w2 ⟨rfl, k2⟩)
    | (go_at_call 27; with_reducible refine (f3 _).mono ?_; rintro e w3 ⟨rfl, k3⟩)
    | (go_at_call 27; with_reducible refine (f4 _).mono ?_; rintro e w4 ⟨rfl, k4⟩))
  clear f1 f2 f3 f4
  obtain ⟨w5, hw5⟩ : ∃ w5, w5 = w4.alloc (.cells #[.int .i64 o, .int .i64 x, .int .i64 y, .int .i64 z, .int .i64 0] 62) := ⟨_, rfl⟩
  have n5 : w5.heap[w4.heap.size]? = some (.cells #[.int .i64 o, .int .i64 x, .int .i64 y, .int .i64 z, .int .i64 0] 62 (0, 0)) := by rw [hw5]; exact heap_alloc_new w4 _
  have k5 : Kp w4 w5 := by rw [hw5]; exact (Chg.refl w4 _).alloc _
  rw [← hw5]
  clear hw5
  have kz : Kp ((w.alloc (.cells #[.int .i64 0, .int .i64 0, .int .i64 0, .int .i64 0, .int .i64 0] 62)).alloc (.cells #[.int .i64 (-1), .int .i64 0, .int .i64 0, .int .i64 0, .int .i64 0] 62)) w4 := Kp.trans k1 (Kp.trans k2 (Kp.trans k3 k4))
  have z0 : w.heap.size + 2 ≤ w4.heap.size := by have := kz.size; simp at this; omega
  have zz : w4.heap[w.heap.size]? = some (.cells #[.int .i64 0, .int .i64 0, .int .i64 0, .int .i64 0, .int .i64 0] 62 (0, 0)) := Kp.heap kz (Kp.heap ((Chg.refl _ _).alloc _) (heap_alloc_new w _))
  have zn : w4.heap[w.heap.size + 1]? = some (.cells #[.int .i64 (-1), .int .i64 0, .int .i64 0, .int .i64 0, .int .i64 0] 62 (0, 0)) := Kp.heap kz (by have := heap_alloc_new (w.alloc (.cells #[.int .i64 0, .int .i64 0, .int .i64 0, .int .i64 0, .int .i64 0] 62)) (.cells #[.int .i64 (-1), .int .i64 0, .int .i64 0, .int .i64 0, .int .i64 0] 62); simpa using this)
  have kw : Kp w w4 := Kp.trans ((Chg.refl w _).alloc _ |>.alloc _) kz
  clear k1 k2 k3 k4 kz
  go_upto_region 4 with (go_at_call 27; with_reducible refine (f5 _).mono ?_; rintro e w6 ⟨rfl, k6⟩)
  go_upto_region 7 with (go_at_call 27; with_reducible refine (f6 _).mono ?_; rintro e w7 ⟨rfl, k7⟩)
  have K7 : Kp w4 w7 := Kp.trans k5 (Kp.trans k6 k7)
  have P7 := Kp.heap (Kp.trans k6 k7) n5
  have Z7 := Kp.heap K7 zz
  have N7 := Kp.heap K7 zn
  obtain ⟨c0, c1, c2, c3, c4, g0, g1, g2, g3, g4⟩ := cells5 P7
  obtain ⟨d0, d1, d2, d3, d4, _⟩ := cells5 N7
  obtain ⟨t0, t1, t2, t3, t4, u0, u1, u2, u3, u4⟩ := cells5 Z7
  have HH : Hid (Kp w w7 ∧ w.heap.size + 2 ≤ w4.heap.size ∧ w7.heap[w4.heap.size]? = some (.cells #[.int .i64 o, .int .i64 x, .int .i64 y, .int .i64 z, .int .i64 0] 62 (0, 0)) ∧ w7.heap[w.heap.size]? = some (.cells #[.int .i64 0, .int .i64 0, .int .i64 0, .int .i64 0, .int .i64 0] 62 (0, 0)) ∧ w7.heap[w.heap.size + 1]? = some (.cells #[.int .i64 (-1), .int .i64 0, .int .i64 0, .int .i64 0, .int .i64 0] 62 (0, 0))) := ⟨Kp.trans kw K7, z0, P7, Z7, N7⟩
  have e01 : ¬ w.heap.size = w4.heap.size := by omega
  have e02 : ¬ w4.heap.size = w.heap.size := by omega
  have e03 : ¬ w4.heap.size = w.heap.size + 1 := by omega
  have e04 : ¬ w.heap.size + 1 = w4.heap.size := by omega
  clear kw K7 P7 Z7 N7 zz zn n5 k5 k6 k7 f5 f6 z0
  go_wp2_with fail
  have KW : Kp w w7 := HH.out.1
  have ZW := HH.out.2.2.2.1
  have lt4 := HH.out.2.1
  have CW : Chg w7 (w7.setCell ⟨w4.heap.size, 4, none⟩ (.int .i64 n18)) (fun k => k = w4.heap.size) := Chg.setCell (S := fun k => k = w4.heap.size) (Chg.refl w7 _) (.inl rfl) _
  have ZX := CW.heap ZW (by omega)
  have KX : Kp w (w7.setCell ⟨w4.heap.size, 4, none⟩ (.int .i64 n18)) := Chg.trans KW CW (fun i hi e => by omega)
  refine ⟨rfl, _, ?_, rfl, ?_⟩
  · exact results_cell_row rfl _ _ w.heap.size 62 _ (0, 0) _ rfl (box5 ZX _ _ _ _ _ rfl).1 Tryz.underlying62 rfl (by kernel_rfl)
  · exact Chg.trans KX (box5 ZX _ _ _ _ _ rfl).2.2 (fun i hi e => by omega)
set_option maxRecDepth 100000 in
set_option maxHeartbeats 2000000 in
theorem apart_m (w : World) (v : Nat) (hv : v < 4294967296) (x y z : Int) (e1 : (v : Int) / 67108864 % 64 = 23) (e2 : (v : Int) / 4194304 % 16 = x) (e3 : (v : Int) / 262144 % 16 = y) (e4 : (v : Int) / 16384 % 16 = z)  (hx : (v : Int) % 4194304 < 262144) :
    Calls Tryz.prog 15 #[.int .u32 (v : Nat)] w fun e w' => e = .returned (prV 22 x y z ((v : Int) % 4194304)) ∧ Kp w w' := by
  have f1 := fun w => field_26_6 w v hv
  have f2 := fun w => field_22_4 w v hv
  have f3 := fun w => field_18_4 w v hv
  have f4 := fun w => field_14_4 w v hv
  have f5 := fun w => field_0_18 w v hv
  have f6 := fun w => field_0_22 w v hv
  have f7 := fun w => field_0_14 w v hv
  have f8 := fun w => field_0_26 w v hv
  rw [e1] at f1
  rw [e2] at f2
  rw [e3] at f3
  rw [e4] at f4
  have b5 : 0 ≤ (v : Int) % 262144 ∧ (v : Int) % 262144 < 262144 := by omega
  have b6 : 0 ≤ (v : Int) % 4194304 ∧ (v : Int) % 4194304 < 4194304 := by omega
  have b8 : 0 ≤ (v : Int) % 67108864 ∧ (v : Int) % 67108864 < 67108864 := by omega
  clear e1 e2 e3 e4 hv
  generalize (v : Int) % 262144 = n18 at *
  generalize (v : Int) % 4194304 = n22 at *
  generalize (v : Int) % 67108864 = n26 at *
  generalize (v : Int) % 16384 = n14 at *
  have s18 := fun w => signed_18 w n18 b5
  have s22 := fun w => signed_22 w n22 b6
  generalize (if 131072 ≤ n18 then n18 - 262144 else n18) = m18 at *
  generalize (if 2097152 ≤ n22 then n22 - 4194304 else n22) = m22 at *
  go_enter Tryz.func15, Tryz.ntmps15
  go_upto_region 3 with (first
    | (go_at_call 27; with_reducible refine (f1 _).mono ?_; rintro e w1 ⟨rfl, k1⟩)
    | (go_at_call 27; with_reducible refine (f2 _).mono ?_; rintro e w2 ⟨rfl, k2⟩)
    | (go_at_call 27; with_reducible refine (f3 _).mono ?_; rintro e w3 ⟨rfl, k3⟩)
    | (go_at_call 27; with_reducible refine (f4 _).mono ?_; rintro e w4 ⟨rfl, k4⟩))
  clear f1 f2 f3 f4
  obtain ⟨w5, hw5⟩ : ∃ w5, w5 = w4.alloc (.cells #[.int .i64 22, .int .i64 x, .int .i64 y, .int .i64 z, .int .i64 0] 62) := ⟨_, rfl⟩
  have n5 : w5.heap[w4.heap.size]? = some (.cells #[.int .i64 22, .int .i64 x, .int .i64 y, .int .i64 z, .int .i64 0] 62 (0, 0)) := by rw [hw5]; exact heap_alloc_new w4 _
  have k5 : Kp w4 w5 := by rw [hw5]; exact (Chg.refl w4 _).alloc _
  rw [← hw5]
  clear hw5
  have kz : Kp ((w.alloc (.cells #[.int .i64 0, .int .i64 0, .int .i64 0, .int .i64 0, .int .i64 0] 62)).alloc (.cells #[.int .i64 (-1), .int .i64 0, .int .i64 0, .int .i64 0, .int .i64 0] 62)) w4 := Kp.trans k1 (Kp.trans k2 (Kp.trans k3 k4))
  have z0 : w.heap.size + 2 ≤ w4.heap.size := by have := kz.size; simp at this; omega
  have zz : w4.heap[w.heap.size]? = some (.cells #[.int .i64 0, .int .i64 0, .int .i64 0, .int .i64 0, .int .i64 0] 62 (0, 0)) := Kp.heap kz (Kp.heap ((Chg.refl _ _).alloc _) (heap_alloc_new w _))
  have zn : w4.heap[w.heap.size + 1]? = some (.cells #[.int .i64 (-1), .int .i64 0, .int .i64 0, .int .i64 0, .int .i64 0] 62 (0, 0)) := Kp.heap kz (by have := heap_alloc_new (w.alloc (.cells #[.int .i64 0, .int .i64 0, .int .i64 0, .int .i64 0, .int .i64 0] 62)) (.cells #[.int .i64 (-1), .int .i64 0, .int .i64 0, .int .i64 0, .int .i64 0] 62); simpa using this)
  have kw : Kp w w4 := Kp.trans ((Chg.refl w _).alloc _ |>.alloc _) kz
  clear k1 k2 k3 k4 kz
  go_upto_region 4 with (go_at_call 27; with_reducible refine (f5 _).mono ?_; rintro e w6 ⟨rfl, k6⟩)
  go_upto_region 7 with (go_at_call 27; with_reducible refine (f6 _).mono ?_; rintro e w7 ⟨rfl, k7⟩)
  have K7 : Kp w4 w7 := Kp.trans k5 (Kp.trans k6 k7)
  have P7 := Kp.heap (Kp.trans k6 k7) n5
  have Z7 := Kp.heap K7 zz
  have N7 := Kp.heap K7 zn
  obtain ⟨c0, c1, c2, c3, c4, g0, g1, g2, g3, g4⟩ := cells5 P7
  obtain ⟨d0, d1, d2, d3, d4, _⟩ := cells5 N7
  obtain ⟨t0, t1, t2, t3, t4, u0, u1, u2, u3, u4⟩ := cells5 Z7
  have HH : Hid (Kp w w7 ∧ w.heap.size + 2 ≤ w4.heap.size ∧ w7.heap[w4.heap.size]? = some (.cells #[.int .i64 22, .int .i64 x, .int .i64 y, .int .i64 z, .int .i64 0] 62 (0, 0)) ∧ w7.heap[w.heap.size]? = some (.cells #[.int .i64 0, .int .i64 0, .int .i64 0, .int .i64 0, .int .i64 0] 62 (0, 0)) ∧ w7.heap[w.heap.size + 1]? = some (.cells #[.int .i64 (-1), .int .i64 0, .int .i64 0, .int .i64 0, .int .i64 0] 62 (0, 0))) := ⟨Kp.trans kw K7, z0, P7, Z7, N7⟩
  have e01 : ¬ w.heap.size = w4.heap.size := by omega
  have e02 : ¬ w4.heap.size = w.heap.size := by omega
  have e03 : ¬ w4.heap.size = w.heap.size + 1 := by omega
  have e04 : ¬ w.heap.size + 1 = w4.heap.size := by omega
  clear kw K7 P7 Z7 N7 zz zn n5 k5 k6 k7 f5 f6 z0
  go_wp2_with fail
  have KW : Kp w w7 := HH.out.1
  have ZW := HH.out.2.2.2.1
  have lt4 := HH.out.2.1
  have CW : Chg w7 (w7.setCell ⟨w4.heap.size, 4, none⟩ (.int .i64 n22)) (fun k => k = w4.heap.size) := Chg.setCell (S := fun k => k = w4.heap.size) (Chg.refl w7 _) (.inl rfl) _
  have ZX := CW.heap ZW (by omega)
  have KX : Kp w (w7.setCell ⟨w4.heap.size, 4, none⟩ (.int .i64 n22)) := Chg.trans KW CW (fun i hi e => by omega)
  refine ⟨rfl, _, ?_, rfl, ?_⟩
  · exact results_cell_row rfl _ _ w.heap.size 62 _ (0, 0) _ rfl (box5 ZX _ _ _ _ _ rfl).1 Tryz.underlying62 rfl (by kernel_rfl)
  · exact Chg.trans KX (box5 ZX _ _ _ _ _ rfl).2.2 (fun i hi e => by omega)
set_option maxRecDepth 100000 in
set_option maxHeartbeats 2000000 in
theorem apart_n (w : World) (v : Nat) (hv : v < 4294967296) (x y z : Int) (e1 : (v : Int) / 67108864 % 64 = 23) (e2 : (v : Int) / 4194304 % 16 = x) (e3 : (v : Int) / 262144 % 16 = y) (e4 : (v : Int) / 16384 % 16 = z)  (hx : 262144 ≤ (v : Int) % 4194304) :
    Calls Tryz.prog 15 #[.int .u32 (v : Nat)] w fun e w' => e = .returned (prV (-1) 0 0 0 0) ∧ Kp w w' := by
  have f1 := fun w => field_26_6 w v hv
  have f2 := fun w => field_22_4 w v hv
  have f3 := fun w => field_18_4 w v hv
  have f4 := fun w => field_14_4 w v hv
  have f5 := fun w => field_0_18 w v hv
  have f6 := fun w => field_0_22 w v hv
  have f7 := fun w => field_0_14 w v hv
  have f8 := fun w => field_0_26 w v hv
  rw [e1] at f1
  rw [e2] at f2
  rw [e3] at f3
  rw [e4] at f4
  have b5 : 0 ≤ (v : Int) % 262144 ∧ (v : Int) % 262144 < 262144 := by omega
  have b6 : 0 ≤ (v : Int) % 4194304 ∧ (v : Int) % 4194304 < 4194304 := by omega
  have b8 : 0 ≤ (v : Int) % 67108864 ∧ (v : Int) % 67108864 < 67108864 := by omega
  clear e1 e2 e3 e4 hv
  generalize (v : Int) % 262144 = n18 at *
  generalize (v : Int) % 4194304 = n22 at *
  generalize (v : Int) % 67108864 = n26 at *
  generalize (v : Int) % 16384 = n14 at *
  have s18 := fun w => signed_18 w n18 b5
  have s22 := fun w => signed_22 w n22 b6
  generalize (if 131072 ≤ n18 then n18 - 262144 else n18) = m18 at *
  generalize (if 2097152 ≤ n22 then n22 - 4194304 else n22) = m22 at *
  go_enter Tryz.func15, Tryz.ntmps15
  go_upto_region 3 with (first
    | (go_at_call 27; with_reducible refine (f1 _).mono ?_; rintro e w1 ⟨rfl, k1⟩)
    | (go_at_call 27; with_reducible refine (f2 _).mono ?_; rintro e w2 ⟨rfl, k2⟩)
    | (go_at_call 27; with_reducible refine (f3 _).mono ?_; rintro e w3 ⟨rfl, k3⟩)
    | (go_at_call 27; with_reducible refine (f4 _).mono ?_; rintro e w4 ⟨rfl, k4⟩))
  clear f1 f2 f3 f4
  obtain ⟨w5, hw5⟩ : ∃ w5, w5 = w4.alloc (.cells #[.int .i64 22, .int .i64 x, .int .i64 y, .int .i64 z, .int .i64 0] 62) := ⟨_, rfl⟩
  have n5 : w5.heap[w4.heap.size]? = some (.cells #[.int .i64 22, .int .i64 x, .int .i64 y, .int .i64 z, .int .i64 0] 62 (0, 0)) := by rw [hw5]; exact heap_alloc_new w4 _
  have k5 : Kp w4 w5 := by rw [hw5]; exact (Chg.refl w4 _).alloc _
  rw [← hw5]
  clear hw5
  have kz : Kp ((w.alloc (.cells #[.int .i64 0, .int .i64 0, .int .i64 0, .int .i64 0, .int .i64 0] 62)).alloc (.cells #[.int .i64 (-1), .int .i64 0, .int .i64 0, .int .i64 0, .int .i64 0] 62)) w4 := Kp.trans k1 (Kp.trans k2 (Kp.trans k3 k4))
  have z0 : w.heap.size + 2 ≤ w4.heap.size := by have := kz.size; simp at this; omega
  have zz : w4.heap[w.heap.size]? = some (.cells #[.int .i64 0, .int .i64 0, .int .i64 0, .int .i64 0, .int .i64 0] 62 (0, 0)) := Kp.heap kz (Kp.heap ((Chg.refl _ _).alloc _) (heap_alloc_new w _))
  have zn : w4.heap[w.heap.size + 1]? = some (.cells #[.int .i64 (-1), .int .i64 0, .int .i64 0, .int .i64 0, .int .i64 0] 62 (0, 0)) := Kp.heap kz (by have := heap_alloc_new (w.alloc (.cells #[.int .i64 0, .int .i64 0, .int .i64 0, .int .i64 0, .int .i64 0] 62)) (.cells #[.int .i64 (-1), .int .i64 0, .int .i64 0, .int .i64 0, .int .i64 0] 62); simpa using this)
  have kw : Kp w w4 := Kp.trans ((Chg.refl w _).alloc _ |>.alloc _) kz
  clear k1 k2 k3 k4 kz
  go_upto_region 4 with (go_at_call 27; with_reducible refine (f5 _).mono ?_; rintro e w6 ⟨rfl, k6⟩)
  go_upto_region 7 with (go_at_call 27; with_reducible refine (f6 _).mono ?_; rintro e w7 ⟨rfl, k7⟩)
  have K7 : Kp w4 w7 := Kp.trans k5 (Kp.trans k6 k7)
  have P7 := Kp.heap (Kp.trans k6 k7) n5
  have Z7 := Kp.heap K7 zz
  have N7 := Kp.heap K7 zn
  obtain ⟨c0, c1, c2, c3, c4, g0, g1, g2, g3, g4⟩ := cells5 P7
  obtain ⟨d0, d1, d2, d3, d4, _⟩ := cells5 N7
  obtain ⟨t0, t1, t2, t3, t4, u0, u1, u2, u3, u4⟩ := cells5 Z7
  have HH : Hid (Kp w w7 ∧ w.heap.size + 2 ≤ w4.heap.size ∧ w7.heap[w4.heap.size]? = some (.cells #[.int .i64 22, .int .i64 x, .int .i64 y, .int .i64 z, .int .i64 0] 62 (0, 0)) ∧ w7.heap[w.heap.size]? = some (.cells #[.int .i64 0, .int .i64 0, .int .i64 0, .int .i64 0, .int .i64 0] 62 (0, 0)) ∧ w7.heap[w.heap.size + 1]? = some (.cells #[.int .i64 (-1), .int .i64 0, .int .i64 0, .int .i64 0, .int .i64 0] 62 (0, 0))) := ⟨Kp.trans kw K7, z0, P7, Z7, N7⟩
  have e01 : ¬ w.heap.size = w4.heap.size := by omega
  have e02 : ¬ w4.heap.size = w.heap.size := by omega
  have e03 : ¬ w4.heap.size = w.heap.size + 1 := by omega
  have e04 : ¬ w.heap.size + 1 = w4.heap.size := by omega
  clear kw K7 P7 Z7 N7 zz zn n5 k5 k6 k7 f5 f6 z0
  go_wp2_with fail
  have KW : Kp w w7 := HH.out.1
  have ZW := HH.out.2.2.2.1
  have lt4 := HH.out.2.1
  have CW : Chg w7 (w7.setCell ⟨w4.heap.size, 4, none⟩ (.int .i64 n22)) (fun k => k = w4.heap.size) := Chg.setCell (S := fun k => k = w4.heap.size) (Chg.refl w7 _) (.inl rfl) _
  have ZX := CW.heap ZW (by omega)
  have KX : Kp w (w7.setCell ⟨w4.heap.size, 4, none⟩ (.int .i64 n22)) := Chg.trans KW CW (fun i hi e => by omega)
  refine ⟨rfl, _, ?_, rfl, ?_⟩
  · exact results_cell_row rfl _ _ w.heap.size 62 _ (0, 0) _ rfl (box5 ZX _ _ _ _ _ rfl).1 Tryz.underlying62 rfl (by kernel_rfl)
  · exact Chg.trans KX (box5 ZX _ _ _ _ _ rfl).2.2 (fun i hi e => by omega)
set_option maxRecDepth 100000 in
set_option maxHeartbeats 2000000 in
theorem apart_o (w : World) (v : Nat) (hv : v < 4294967296) (x y z : Int) (e1 : (v : Int) / 67108864 % 64 = 38) (e2 : (v : Int) / 4194304 % 16 = x) (e3 : (v : Int) / 262144 % 16 = y) (e4 : (v : Int) / 16384 % 16 = z)  :
    Calls Tryz.prog 15 #[.int .u32 (v : Nat)] w fun e w' => e = .returned (prV 37 x y z (if 2097152 ≤ (v : Int) % 4194304 then (v : Int) % 4194304 - 4194304 else (v : Int) % 4194304)) ∧ Kp w w' := by
  have f1 := fun w => field_26_6 w v hv
  have f2 := fun w => field_22_4 w v hv
  have f3 := fun w => field_18_4 w v hv
  have f4 := fun w => field_14_4 w v hv
  have f5 := fun w => field_0_18 w v hv
  have f6 := fun w => field_0_22 w v hv
  have f7 := fun w => field_0_14 w v hv
  have f8 := fun w => field_0_26 w v hv
  rw [e1] at f1
  rw [e2] at f2
  rw [e3] at f3
  rw [e4] at f4
  have b5 : 0 ≤ (v : Int) % 262144 ∧ (v : Int) % 262144 < 262144 := by omega
  have b6 : 0 ≤ (v : Int) % 4194304 ∧ (v : Int) % 4194304 < 4194304 := by omega
  have b8 : 0 ≤ (v : Int) % 67108864 ∧ (v : Int) % 67108864 < 67108864 := by omega
  clear e1 e2 e3 e4 hv
  generalize (v : Int) % 262144 = n18 at *
  generalize (v : Int) % 4194304 = n22 at *
  generalize (v : Int) % 67108864 = n26 at *
  generalize (v : Int) % 16384 = n14 at *
  have s18 := fun w => signed_18 w n18 b5
  have s22 := fun w => signed_22 w n22 b6
  generalize (if 131072 ≤ n18 then n18 - 262144 else n18) = m18 at *
  generalize (if 2097152 ≤ n22 then n22 - 4194304 else n22) = m22 at *
  go_enter Tryz.func15, Tryz.ntmps15
  go_upto_region 3 with (first
    | (go_at_call 27; with_reducible refine (f1 _).mono ?_; rintro e w1 ⟨rfl, k1⟩)
    | (go_at_call 27; with_reducible refine (f2 _).mono ?_; rintro e w2 ⟨rfl, k2⟩)
    | (go_at_call 27; with_reducible refine (f3 _).mono ?_; rintro e w3 ⟨rfl, k3⟩)
    | (go_at_call 27; with_reducible refine (f4 _).mono ?_; rintro e w4 ⟨rfl, k4⟩))
  clear f1 f2 f3 f4
  obtain ⟨w5, hw5⟩ : ∃ w5, w5 = w4.alloc (.cells #[.int .i64 37, .int .i64 x, .int .i64 y, .int .i64 z, .int .i64 0] 62) := ⟨_, rfl⟩
  have n5 : w5.heap[w4.heap.size]? = some (.cells #[.int .i64 37, .int .i64 x, .int .i64 y, .int .i64 z, .int .i64 0] 62 (0, 0)) := by rw [hw5]; exact heap_alloc_new w4 _
  have k5 : Kp w4 w5 := by rw [hw5]; exact (Chg.refl w4 _).alloc _
  rw [← hw5]
  clear hw5
  have kz : Kp ((w.alloc (.cells #[.int .i64 0, .int .i64 0, .int .i64 0, .int .i64 0, .int .i64 0] 62)).alloc (.cells #[.int .i64 (-1), .int .i64 0, .int .i64 0, .int .i64 0, .int .i64 0] 62)) w4 := Kp.trans k1 (Kp.trans k2 (Kp.trans k3 k4))
  have z0 : w.heap.size + 2 ≤ w4.heap.size := by have := kz.size; simp at this; omega
  have zz : w4.heap[w.heap.size]? = some (.cells #[.int .i64 0, .int .i64 0, .int .i64 0, .int .i64 0, .int .i64 0] 62 (0, 0)) := Kp.heap kz (Kp.heap ((Chg.refl _ _).alloc _) (heap_alloc_new w _))
  have zn : w4.heap[w.heap.size + 1]? = some (.cells #[.int .i64 (-1), .int .i64 0, .int .i64 0, .int .i64 0, .int .i64 0] 62 (0, 0)) := Kp.heap kz (by have := heap_alloc_new (w.alloc (.cells #[.int .i64 0, .int .i64 0, .int .i64 0, .int .i64 0, .int .i64 0] 62)) (.cells #[.int .i64 (-1), .int .i64 0, .int .i64 0, .int .i64 0, .int .i64 0] 62); simpa using this)
  have kw : Kp w w4 := Kp.trans ((Chg.refl w _).alloc _ |>.alloc _) kz
  clear k1 k2 k3 k4 kz
  go_upto_region 4 with (go_at_call 27; with_reducible refine (f5 _).mono ?_; rintro e w6 ⟨rfl, k6⟩)
  go_upto_region 7 with (go_at_call 27; with_reducible refine (f6 _).mono ?_; rintro e w7 ⟨rfl, k7⟩)
  have K7 : Kp w4 w7 := Kp.trans k5 (Kp.trans k6 k7)
  have P7 := Kp.heap (Kp.trans k6 k7) n5
  have Z7 := Kp.heap K7 zz
  have N7 := Kp.heap K7 zn
  obtain ⟨c0, c1, c2, c3, c4, g0, g1, g2, g3, g4⟩ := cells5 P7
  obtain ⟨d0, d1, d2, d3, d4, _⟩ := cells5 N7
  obtain ⟨t0, t1, t2, t3, t4, u0, u1, u2, u3, u4⟩ := cells5 Z7
  have HH : Hid (Kp w w7 ∧ w.heap.size + 2 ≤ w4.heap.size ∧ w7.heap[w4.heap.size]? = some (.cells #[.int .i64 37, .int .i64 x, .int .i64 y, .int .i64 z, .int .i64 0] 62 (0, 0)) ∧ w7.heap[w.heap.size]? = some (.cells #[.int .i64 0, .int .i64 0, .int .i64 0, .int .i64 0, .int .i64 0] 62 (0, 0)) ∧ w7.heap[w.heap.size + 1]? = some (.cells #[.int .i64 (-1), .int .i64 0, .int .i64 0, .int .i64 0, .int .i64 0] 62 (0, 0))) := ⟨Kp.trans kw K7, z0, P7, Z7, N7⟩
  have e01 : ¬ w.heap.size = w4.heap.size := by omega
  have e02 : ¬ w4.heap.size = w.heap.size := by omega
  have e03 : ¬ w4.heap.size = w.heap.size + 1 := by omega
  have e04 : ¬ w.heap.size + 1 = w4.heap.size := by omega
  clear kw K7 P7 Z7 N7 zz zn n5 k5 k6 k7 f5 f6 z0
  have HC := fun (V : World) (k : Kp w7 V) => (⟨cells5 (Kp.heap k HH.out.2.2.1), cells5 (Kp.heap k HH.out.2.2.2.1), cells5 (Kp.heap k HH.out.2.2.2.2)⟩ : _ ∧ _ ∧ _)
  go_wp2_with (go_at_call 28; with_reducible refine (s22 _).mono ?_; rintro e w8 ⟨rfl, k8⟩; obtain ⟨⟨c0', c1', c2', c3', c4', g0', g1', g2', g3', g4'⟩, ⟨t0', t1', t2', t3', t4', u0', u1', u2', u3', u4'⟩, ⟨d0', d1', d2', d3', d4', _⟩⟩ := HC w8 k8; clear HC c0 c1 c2 c3 c4 g0 g1 g2 g3 g4 t0 t1 t2 t3 t4 u0 u1 u2 u3 u4 d0 d1 d2 d3 d4)
  have KW : Kp w w8 := Kp.trans HH.out.1 k8
  have ZW := Kp.heap k8 HH.out.2.2.2.1
  have lt4 := HH.out.2.1
  have CW : Chg w8 (w8.setCell ⟨w4.heap.size, 4, none⟩ (.int .i64 m22)) (fun k => k = w4.heap.size) := Chg.setCell (S := fun k => k = w4.heap.size) (Chg.refl w8 _) (.inl rfl) _
  have ZX := CW.heap ZW (by omega)
  have KX : Kp w (w8.setCell ⟨w4.heap.size, 4, none⟩ (.int .i64 m22)) := Chg.trans KW CW (fun i hi e => by omega)
  refine ⟨rfl, _, ?_, rfl, ?_⟩
  · exact results_cell_row rfl _ _ w.heap.size 62 _ (0, 0) _ rfl (box5 ZX _ _ _ _ _ rfl).1 Tryz.underlying62 rfl (by kernel_rfl)
  · exact Chg.trans KX (box5 ZX _ _ _ _ _ rfl).2.2 (fun i hi e => by omega)
set_option maxRecDepth 100000 in
set_option maxHeartbeats 2000000 in
theorem apart_p (w : World) (v : Nat) (hv : v < 4294967296) (x y z : Int) (e1 : (v : Int) / 67108864 % 64 = 40) (e2 : (v : Int) / 4194304 % 16 = x) (e3 : (v : Int) / 262144 % 16 = y) (e4 : (v : Int) / 16384 % 16 = z)  (hx : (v : Int) % 67108864 < 262144) :
    Calls Tryz.prog 15 #[.int .u32 (v : Nat)] w fun e w' => e = .returned (prV 39 x y z ((v : Int) % 67108864)) ∧ Kp w w' := by
  have f1 := fun w => field_26_6 w v hv
  have f2 := fun w => field_22_4 w v hv
  have f3 := fun w => field_18_4 w v hv
  have f4 := fun w => field_14_4 w v hv
  have f5 := fun w => field_0_18 w v hv
  have f6 := fun w => field_0_22 w v hv
  have f7 := fun w => field_0_14 w v hv
  have f8 := fun w => field_0_26 w v hv
  rw [e1] at f1
  rw [e2] at f2
  rw [e3] at f3
  rw [e4] at f4
  have b5 : 0 ≤ (v : Int) % 262144 ∧ (v : Int) % 262144 < 262144 := by omega
  have b6 : 0 ≤ (v : Int) % 4194304 ∧ (v : Int) % 4194304 < 4194304 := by omega
  have b8 : 0 ≤ (v : Int) % 67108864 ∧ (v : Int) % 67108864 < 67108864 := by omega
  clear e1 e2 e3 e4 hv
  generalize (v : Int) % 262144 = n18 at *
  generalize (v : Int) % 4194304 = n22 at *
  generalize (v : Int) % 67108864 = n26 at *
  generalize (v : Int) % 16384 = n14 at *
  have s18 := fun w => signed_18 w n18 b5
  have s22 := fun w => signed_22 w n22 b6
  generalize (if 131072 ≤ n18 then n18 - 262144 else n18) = m18 at *
  generalize (if 2097152 ≤ n22 then n22 - 4194304 else n22) = m22 at *
  go_enter Tryz.func15, Tryz.ntmps15
  go_upto_region 3 with (first
    | (go_at_call 27; with_reducible refine (f1 _).mono ?_; rintro e w1 ⟨rfl, k1⟩)
    | (go_at_call 27; with_reducible refine (f2 _).mono ?_; rintro e w2 ⟨rfl, k2⟩)
    | (go_at_call 27; with_reducible refine (f3 _).mono ?_; rintro e w3 ⟨rfl, k3⟩)
    | (go_at_call 27; with_reducible refine (f4 _).mono ?_; rintro e w4 ⟨rfl, k4⟩))
  clear f1 f2 f3 f4
  obtain ⟨w5, hw5⟩ : ∃ w5, w5 = w4.alloc (.cells #[.int .i64 39, .int .i64 x, .int .i64 y, .int .i64 z, .int .i64 0] 62) := ⟨_, rfl⟩
  have n5 : w5.heap[w4.heap.size]? = some (.cells #[.int .i64 39, .int .i64 x, .int .i64 y, .int .i64 z, .int .i64 0] 62 (0, 0)) := by rw [hw5]; exact heap_alloc_new w4 _
  have k5 : Kp w4 w5 := by rw [hw5]; exact (Chg.refl w4 _).alloc _
  rw [← hw5]
  clear hw5
  have kz : Kp ((w.alloc (.cells #[.int .i64 0, .int .i64 0, .int .i64 0, .int .i64 0, .int .i64 0] 62)).alloc (.cells #[.int .i64 (-1), .int .i64 0, .int .i64 0, .int .i64 0, .int .i64 0] 62)) w4 := Kp.trans k1 (Kp.trans k2 (Kp.trans k3 k4))
  have z0 : w.heap.size + 2 ≤ w4.heap.size := by have := kz.size; simp at this; omega
  have zz : w4.heap[w.heap.size]? = some (.cells #[.int .i64 0, .int .i64 0, .int .i64 0, .int .i64 0, .int .i64 0] 62 (0, 0)) := Kp.heap kz (Kp.heap ((Chg.refl _ _).alloc _) (heap_alloc_new w _))
  have zn : w4.heap[w.heap.size + 1]? = some (.cells #[.int .i64 (-1), .int .i64 0, .int .i64 0, .int .i64 0, .int .i64 0] 62 (0, 0)) := Kp.heap kz (by have := heap_alloc_new (w.alloc (.cells #[.int .i64 0, .int .i64 0, .int .i64 0, .int .i64 0, .int .i64 0] 62)) (.cells #[.int .i64 (-1), .int .i64 0, .int .i64 0, .int .i64 0, .int .i64 0] 62); simpa using this)
  have kw : Kp w w4 := Kp.trans ((Chg.refl w _).alloc _ |>.alloc _) kz
  clear k1 k2 k3 k4 kz
  go_upto_region 4 with (go_at_call 27; with_reducible refine (f5 _).mono ?_; rintro e w6 ⟨rfl, k6⟩)
  go_upto_region 7 with (go_at_call 27; with_reducible refine (f6 _).mono ?_; rintro e w7 ⟨rfl, k7⟩)
  have K7 : Kp w4 w7 := Kp.trans k5 (Kp.trans k6 k7)
  have P7 := Kp.heap (Kp.trans k6 k7) n5
  have Z7 := Kp.heap K7 zz
  have N7 := Kp.heap K7 zn
  obtain ⟨c0, c1, c2, c3, c4, g0, g1, g2, g3, g4⟩ := cells5 P7
  obtain ⟨d0, d1, d2, d3, d4, _⟩ := cells5 N7
  obtain ⟨t0, t1, t2, t3, t4, u0, u1, u2, u3, u4⟩ := cells5 Z7
  have HH : Hid (Kp w w7 ∧ w.heap.size + 2 ≤ w4.heap.size ∧ w7.heap[w4.heap.size]? = some (.cells #[.int .i64 39, .int .i64 x, .int .i64 y, .int .i64 z, .int .i64 0] 62 (0, 0)) ∧ w7.heap[w.heap.size]? = some (.cells #[.int .i64 0, .int .i64 0, .int .i64 0, .int .i64 0, .int .i64 0] 62 (0, 0)) ∧ w7.heap[w.heap.size + 1]? = some (.cells #[.int .i64 (-1), .int .i64 0, .int .i64 0, .int .i64 0, .int .i64 0] 62 (0, 0))) := ⟨Kp.trans kw K7, z0, P7, Z7, N7⟩
  have e01 : ¬ w.heap.size = w4.heap.size := by omega
  have e02 : ¬ w4.heap.size = w.heap.size := by omega
  have e03 : ¬ w4.heap.size = w.heap.size + 1 := by omega
  have e04 : ¬ w.heap.size + 1 = w4.heap.size := by omega
  clear kw K7 P7 Z7 N7 zz zn n5 k5 k6 k7 f5 f6 z0
  have HC := fun (V : World) (k : Kp w7 V) => (⟨cells5 (Kp.heap k HH.out.2.2.1), cells5 (Kp.heap k HH.out.2.2.2.1), cells5 (Kp.heap k HH.out.2.2.2.2)⟩ : _ ∧ _ ∧ _)
  go_wp2_with (go_at_call 27; with_reducible refine (f8 _).mono ?_; rintro e w8 ⟨rfl, k8⟩; obtain ⟨⟨c0', c1', c2', c3', c4', g0', g1', g2', g3', g4'⟩, ⟨t0', t1', t2', t3', t4', u0', u1', u2', u3', u4'⟩, ⟨d0', d1', d2', d3', d4', _⟩⟩ := HC w8 k8; clear HC c0 c1 c2 c3 c4 g0 g1 g2 g3 g4 t0 t1 t2 t3 t4 u0 u1 u2 u3 u4 d0 d1 d2 d3 d4)
  have KW : Kp w w8 := Kp.trans HH.out.1 k8
  have ZW := Kp.heap k8 HH.out.2.2.2.1
  have lt4 := HH.out.2.1
  have CW : Chg w8 (w8.setCell ⟨w4.heap.size, 4, none⟩ (.int .i64 n26)) (fun k => k = w4.heap.size) := Chg.setCell (S := fun k => k = w4.heap.size) (Chg.refl w8 _) (.inl rfl) _
  have ZX := CW.heap ZW (by omega)
  have KX : Kp w (w8.setCell ⟨w4.heap.size, 4, none⟩ (.int .i64 n26)) := Chg.trans KW CW (fun i hi e => by omega)
  refine ⟨rfl, _, ?_, rfl, ?_⟩
  · exact results_cell_row rfl _ _ w.heap.size 62 _ (0, 0) _ rfl (box5 ZX _ _ _ _ _ rfl).1 Tryz.underlying62 rfl (by kernel_rfl)
  · exact Chg.trans KX (box5 ZX _ _ _ _ _ rfl).2.2 (fun i hi e => by omega)
set_option maxRecDepth 100000 in
set_option maxHeartbeats 2000000 in
theorem apart_q (w : World) (v : Nat) (hv : v < 4294967296) (x y z : Int) (e1 : (v : Int) / 67108864 % 64 = 40) (e2 : (v : Int) / 4194304 % 16 = x) (e3 : (v : Int) / 262144 % 16 = y) (e4 : (v : Int) / 16384 % 16 = z)  (hx : 262144 ≤ (v : Int) % 67108864) :
    Calls Tryz.prog 15 #[.int .u32 (v : Nat)] w fun e w' => e = .returned (prV (-1) 0 0 0 0) ∧ Kp w w' := by
  have f1 := fun w => field_26_6 w v hv
  have f2 := fun w => field_22_4 w v hv
  have f3 := fun w => field_18_4 w v hv
  have f4 := fun w => field_14_4 w v hv
  have f5 := fun w => field_0_18 w v hv
  have f6 := fun w => field_0_22 w v hv
  have f7 := fun w => field_0_14 w v hv
  have f8 := fun w => field_0_26 w v hv
  rw [e1] at f1
  rw [e2] at f2
  rw [e3] at f3
  rw [e4] at f4
  have b5 : 0 ≤ (v : Int) % 262144 ∧ (v : Int) % 262144 < 262144 := by omega
  have b6 : 0 ≤ (v : Int) % 4194304 ∧ (v : Int) % 4194304 < 4194304 := by omega
  have b8 : 0 ≤ (v : Int) % 67108864 ∧ (v : Int) % 67108864 < 67108864 := by omega
  clear e1 e2 e3 e4 hv
  generalize (v : Int) % 262144 = n18 at *
  generalize (v : Int) % 4194304 = n22 at *
  generalize (v : Int) % 67108864 = n26 at *
  generalize (v : Int) % 16384 = n14 at *
  have s18 := fun w => signed_18 w n18 b5
  have s22 := fun w => signed_22 w n22 b6
  generalize (if 131072 ≤ n18 then n18 - 262144 else n18) = m18 at *
  generalize (if 2097152 ≤ n22 then n22 - 4194304 else n22) = m22 at *
  go_enter Tryz.func15, Tryz.ntmps15
  go_upto_region 3 with (first
    | (go_at_call 27; with_reducible refine (f1 _).mono ?_; rintro e w1 ⟨rfl, k1⟩)
    | (go_at_call 27; with_reducible refine (f2 _).mono ?_; rintro e w2 ⟨rfl, k2⟩)
    | (go_at_call 27; with_reducible refine (f3 _).mono ?_; rintro e w3 ⟨rfl, k3⟩)
    | (go_at_call 27; with_reducible refine (f4 _).mono ?_; rintro e w4 ⟨rfl, k4⟩))
  clear f1 f2 f3 f4
  obtain ⟨w5, hw5⟩ : ∃ w5, w5 = w4.alloc (.cells #[.int .i64 39, .int .i64 x, .int .i64 y, .int .i64 z, .int .i64 0] 62) := ⟨_, rfl⟩
  have n5 : w5.heap[w4.heap.size]? = some (.cells #[.int .i64 39, .int .i64 x, .int .i64 y, .int .i64 z, .int .i64 0] 62 (0, 0)) := by rw [hw5]; exact heap_alloc_new w4 _
  have k5 : Kp w4 w5 := by rw [hw5]; exact (Chg.refl w4 _).alloc _
  rw [← hw5]
  clear hw5
  have kz : Kp ((w.alloc (.cells #[.int .i64 0, .int .i64 0, .int .i64 0, .int .i64 0, .int .i64 0] 62)).alloc (.cells #[.int .i64 (-1), .int .i64 0, .int .i64 0, .int .i64 0, .int .i64 0] 62)) w4 := Kp.trans k1 (Kp.trans k2 (Kp.trans k3 k4))
  have z0 : w.heap.size + 2 ≤ w4.heap.size := by have := kz.size; simp at this; omega
  have zz : w4.heap[w.heap.size]? = some (.cells #[.int .i64 0, .int .i64 0, .int .i64 0, .int .i64 0, .int .i64 0] 62 (0, 0)) := Kp.heap kz (Kp.heap ((Chg.refl _ _).alloc _) (heap_alloc_new w _))
  have zn : w4.heap[w.heap.size + 1]? = some (.cells #[.int .i64 (-1), .int .i64 0, .int .i64 0, .int .i64 0, .int .i64 0] 62 (0, 0)) := Kp.heap kz (by have := heap_alloc_new (w.alloc (.cells #[.int .i64 0, .int .i64 0, .int .i64 0, .int .i64 0, .int .i64 0] 62)) (.cells #[.int .i64 (-1), .int .i64 0, .int .i64 0, .int .i64 0, .int .i64 0] 62); simpa using this)
  have kw : Kp w w4 := Kp.trans ((Chg.refl w _).alloc _ |>.alloc _) kz
  clear k1 k2 k3 k4 kz
  go_upto_region 4 with (go_at_call 27; with_reducible refine (f5 _).mono ?_; rintro e w6 ⟨rfl, k6⟩)
  go_upto_region 7 with (go_at_call 27; with_reducible refine (f6 _).mono ?_; rintro e w7 ⟨rfl, k7⟩)
  have K7 : Kp w4 w7 := Kp.trans k5 (Kp.trans k6 k7)
  have P7 := Kp.heap (Kp.trans k6 k7) n5
  have Z7 := Kp.heap K7 zz
  have N7 := Kp.heap K7 zn
  obtain ⟨c0, c1, c2, c3, c4, g0, g1, g2, g3, g4⟩ := cells5 P7
  obtain ⟨d0, d1, d2, d3, d4, _⟩ := cells5 N7
  obtain ⟨t0, t1, t2, t3, t4, u0, u1, u2, u3, u4⟩ := cells5 Z7
  have HH : Hid (Kp w w7 ∧ w.heap.size + 2 ≤ w4.heap.size ∧ w7.heap[w4.heap.size]? = some (.cells #[.int .i64 39, .int .i64 x, .int .i64 y, .int .i64 z, .int .i64 0] 62 (0, 0)) ∧ w7.heap[w.heap.size]? = some (.cells #[.int .i64 0, .int .i64 0, .int .i64 0, .int .i64 0, .int .i64 0] 62 (0, 0)) ∧ w7.heap[w.heap.size + 1]? = some (.cells #[.int .i64 (-1), .int .i64 0, .int .i64 0, .int .i64 0, .int .i64 0] 62 (0, 0))) := ⟨Kp.trans kw K7, z0, P7, Z7, N7⟩
  have e01 : ¬ w.heap.size = w4.heap.size := by omega
  have e02 : ¬ w4.heap.size = w.heap.size := by omega
  have e03 : ¬ w4.heap.size = w.heap.size + 1 := by omega
  have e04 : ¬ w.heap.size + 1 = w4.heap.size := by omega
  clear kw K7 P7 Z7 N7 zz zn n5 k5 k6 k7 f5 f6 z0
  have HC := fun (V : World) (k : Kp w7 V) => (⟨cells5 (Kp.heap k HH.out.2.2.1), cells5 (Kp.heap k HH.out.2.2.2.1), cells5 (Kp.heap k HH.out.2.2.2.2)⟩ : _ ∧ _ ∧ _)
  go_wp2_with (go_at_call 27; with_reducible refine (f8 _).mono ?_; rintro e w8 ⟨rfl, k8⟩; obtain ⟨⟨c0', c1', c2', c3', c4', g0', g1', g2', g3', g4'⟩, ⟨t0', t1', t2', t3', t4', u0', u1', u2', u3', u4'⟩, ⟨d0', d1', d2', d3', d4', _⟩⟩ := HC w8 k8; clear HC c0 c1 c2 c3 c4 g0 g1 g2 g3 g4 t0 t1 t2 t3 t4 u0 u1 u2 u3 u4 d0 d1 d2 d3 d4)
  have KW : Kp w w8 := Kp.trans HH.out.1 k8
  have ZW := Kp.heap k8 HH.out.2.2.2.1
  have lt4 := HH.out.2.1
  have CW : Chg w8 (w8.setCell ⟨w4.heap.size, 4, none⟩ (.int .i64 n26)) (fun k => k = w4.heap.size) := Chg.setCell (S := fun k => k = w4.heap.size) (Chg.refl w8 _) (.inl rfl) _
  have ZX := CW.heap ZW (by omega)
  have KX : Kp w (w8.setCell ⟨w4.heap.size, 4, none⟩ (.int .i64 n26)) := Chg.trans KW CW (fun i hi e => by omega)
  refine ⟨rfl, _, ?_, rfl, ?_⟩
  · exact results_cell_row rfl _ _ w.heap.size 62 _ (0, 0) _ rfl (box5 ZX _ _ _ _ _ rfl).1 Tryz.underlying62 rfl (by kernel_rfl)
  · exact Chg.trans KX (box5 ZX _ _ _ _ _ rfl).2.2 (fun i hi e => by omega)
set_option maxRecDepth 100000 in
set_option maxHeartbeats 2000000 in
theorem apart_r (w : World) (v : Nat) (hv : v < 4294967296) (x y z : Int) (e1 : (v : Int) / 67108864 % 64 = 41) (e2 : (v : Int) / 4194304 % 16 = x) (e3 : (v : Int) / 262144 % 16 = y) (e4 : (v : Int) / 16384 % 16 = z)  (hx : (v : Int) % 4194304 = 0) :
    Calls Tryz.prog 15 #[.int .u32 (v : Nat)] w fun e w' => e = .returned (prV 40 x y z (0)) ∧ Kp w w' := by
  have f1 := fun w => field_26_6 w v hv
  have f2 := fun w => field_22_4 w v hv
  have f3 := fun w => field_18_4 w v hv
  have f4 := fun w => field_14_4 w v hv
  have f5 := fun w => field_0_18 w v hv
  have f6 := fun w => field_0_22 w v hv
  have f7 := fun w => field_0_14 w v hv
  have f8 := fun w => field_0_26 w v hv
  rw [e1] at f1
  rw [e2] at f2
  rw [e3] at f3
  rw [e4] at f4
  have b5 : 0 ≤ (v : Int) % 262144 ∧ (v : Int) % 262144 < 262144 := by omega
  have b6 : 0 ≤ (v : Int) % 4194304 ∧ (v : Int) % 4194304 < 4194304 := by omega
  have b8 : 0 ≤ (v : Int) % 67108864 ∧ (v : Int) % 67108864 < 67108864 := by omega
  clear e1 e2 e3 e4 hv
  generalize (v : Int) % 262144 = n18 at *
  generalize (v : Int) % 4194304 = n22 at *
  generalize (v : Int) % 67108864 = n26 at *
  generalize (v : Int) % 16384 = n14 at *
  have s18 := fun w => signed_18 w n18 b5
  have s22 := fun w => signed_22 w n22 b6
  generalize (if 131072 ≤ n18 then n18 - 262144 else n18) = m18 at *
  generalize (if 2097152 ≤ n22 then n22 - 4194304 else n22) = m22 at *
  go_enter Tryz.func15, Tryz.ntmps15
  go_upto_region 3 with (first
    | (go_at_call 27; with_reducible refine (f1 _).mono ?_; rintro e w1 ⟨rfl, k1⟩)
    | (go_at_call 27; with_reducible refine (f2 _).mono ?_; rintro e w2 ⟨rfl, k2⟩)
    | (go_at_call 27; with_reducible refine (f3 _).mono ?_; rintro e w3 ⟨rfl, k3⟩)
    | (go_at_call 27; with_reducible refine (f4 _).mono ?_; rintro e w4 ⟨rfl, k4⟩))
  clear f1 f2 f3 f4
  obtain ⟨w5, hw5⟩ : ∃ w5, w5 = w4.alloc (.cells #[.int .i64 40, .int .i64 x, .int .i64 y, .int .i64 z, .int .i64 0] 62) := ⟨_, rfl⟩
  have n5 : w5.heap[w4.heap.size]? = some (.cells #[.int .i64 40, .int .i64 x, .int .i64 y, .int .i64 z, .int .i64 0] 62 (0, 0)) := by rw [hw5]; exact heap_alloc_new w4 _
  have k5 : Kp w4 w5 := by rw [hw5]; exact (Chg.refl w4 _).alloc _
  rw [← hw5]
  clear hw5
  have kz : Kp ((w.alloc (.cells #[.int .i64 0, .int .i64 0, .int .i64 0, .int .i64 0, .int .i64 0] 62)).alloc (.cells #[.int .i64 (-1), .int .i64 0, .int .i64 0, .int .i64 0, .int .i64 0] 62)) w4 := Kp.trans k1 (Kp.trans k2 (Kp.trans k3 k4))
  have z0 : w.heap.size + 2 ≤ w4.heap.size := by have := kz.size; simp at this; omega
  have zz : w4.heap[w.heap.size]? = some (.cells #[.int .i64 0, .int .i64 0, .int .i64 0, .int .i64 0, .int .i64 0] 62 (0, 0)) := Kp.heap kz (Kp.heap ((Chg.refl _ _).alloc _) (heap_alloc_new w _))
  have zn : w4.heap[w.heap.size + 1]? = some (.cells #[.int .i64 (-1), .int .i64 0, .int .i64 0, .int .i64 0, .int .i64 0] 62 (0, 0)) := Kp.heap kz (by have := heap_alloc_new (w.alloc (.cells #[.int .i64 0, .int .i64 0, .int .i64 0, .int .i64 0, .int .i64 0] 62)) (.cells #[.int .i64 (-1), .int .i64 0, .int .i64 0, .int .i64 0, .int .i64 0] 62); simpa using this)
  have kw : Kp w w4 := Kp.trans ((Chg.refl w _).alloc _ |>.alloc _) kz
  clear k1 k2 k3 k4 kz
  go_upto_region 4 with (go_at_call 27; with_reducible refine (f5 _).mono ?_; rintro e w6 ⟨rfl, k6⟩)
  go_upto_region 7 with (go_at_call 27; with_reducible refine (f6 _).mono ?_; rintro e w7 ⟨rfl, k7⟩)
  have K7 : Kp w4 w7 := Kp.trans k5 (Kp.trans k6 k7)
  have P7 := Kp.heap (Kp.trans k6 k7) n5
  have Z7 := Kp.heap K7 zz
  have N7 := Kp.heap K7 zn
  obtain ⟨c0, c1, c2, c3, c4, g0, g1, g2, g3, g4⟩ := cells5 P7
  obtain ⟨d0, d1, d2, d3, d4, _⟩ := cells5 N7
  obtain ⟨t0, t1, t2, t3, t4, u0, u1, u2, u3, u4⟩ := cells5 Z7
  have HH : Hid (Kp w w7 ∧ w.heap.size + 2 ≤ w4.heap.size ∧ w7.heap[w4.heap.size]? = some (.cells #[.int .i64 40, .int .i64 x, .int .i64 y, .int .i64 z, .int .i64 0] 62 (0, 0)) ∧ w7.heap[w.heap.size]? = some (.cells #[.int .i64 0, .int .i64 0, .int .i64 0, .int .i64 0, .int .i64 0] 62 (0, 0)) ∧ w7.heap[w.heap.size + 1]? = some (.cells #[.int .i64 (-1), .int .i64 0, .int .i64 0, .int .i64 0, .int .i64 0] 62 (0, 0))) := ⟨Kp.trans kw K7, z0, P7, Z7, N7⟩
  have e01 : ¬ w.heap.size = w4.heap.size := by omega
  have e02 : ¬ w4.heap.size = w.heap.size := by omega
  have e03 : ¬ w4.heap.size = w.heap.size + 1 := by omega
  have e04 : ¬ w.heap.size + 1 = w4.heap.size := by omega
  clear kw K7 P7 Z7 N7 zz zn n5 k5 k6 k7 f5 f6 z0
  go_wp2_with fail
  have KW : Kp w w7 := HH.out.1
  have ZW := HH.out.2.2.2.1
  have lt4 := HH.out.2.1
  refine ⟨rfl, _, ?_, rfl, ?_⟩
  · exact results_cell_row rfl _ _ w.heap.size 62 _ (0, 0) _ rfl (box5 ZW _ _ _ _ _ rfl).1 Tryz.underlying62 rfl (by kernel_rfl)
  · exact Chg.trans KW (box5 ZW _ _ _ _ _ rfl).2.2 (fun i hi e => by omega)
set_option maxRecDepth 100000 in
set_option maxHeartbeats 2000000 in
theorem apart_s (w : World) (v : Nat) (hv : v < 4294967296) (x y z : Int) (e1 : (v : Int) / 67108864 % 64 = 41) (e2 : (v : Int) / 4194304 % 16 = x) (e3 : (v : Int) / 262144 % 16 = y) (e4 : (v : Int) / 16384 % 16 = z)  (hx : ¬ (v : Int) % 4194304 = 0) :
    Calls Tryz.prog 15 #[.int .u32 (v : Nat)] w fun e w' => e = .returned (prV (-1) 0 0 0 0) ∧ Kp w w' := by
  have f1 := fun w => field_26_6 w v hv
  have f2 := fun w => field_22_4 w v hv
  have f3 := fun w => field_18_4 w v hv
  have f4 := fun w => field_14_4 w v hv
  have f5 := fun w => field_0_18 w v hv
  have f6 := fun w => field_0_22 w v hv
  have f7 := fun w => field_0_14 w v hv
  have f8 := fun w => field_0_26 w v hv
  rw [e1] at f1
  rw [e2] at f2
  rw [e3] at f3
  rw [e4] at f4
  have b5 : 0 ≤ (v : Int) % 262144 ∧ (v : Int) % 262144 < 262144 := by omega
  have b6 : 0 ≤ (v : Int) % 4194304 ∧ (v : Int) % 4194304 < 4194304 := by omega
  have b8 : 0 ≤ (v : Int) % 67108864 ∧ (v : Int) % 67108864 < 67108864 := by omega
  clear e1 e2 e3 e4 hv
  generalize (v : Int) % 262144 = n18 at *
  generalize (v : Int) % 4194304 = n22 at *
  generalize (v : Int) % 67108864 = n26 at *
  generalize (v : Int) % 16384 = n14 at *
  have s18 := fun w => signed_18 w n18 b5
  have s22 := fun w => signed_22 w n22 b6
  generalize (if 131072 ≤ n18 then n18 - 262144 else n18) = m18 at *
  generalize (if 2097152 ≤ n22 then n22 - 4194304 else n22) = m22 at *
  go_enter Tryz.func15, Tryz.ntmps15
  go_upto_region 3 with (first
    | (go_at_call 27; with_reducible refine (f1 _).mono ?_; rintro e w1 ⟨rfl, k1⟩)
    | (go_at_call 27; with_reducible refine (f2 _).mono ?_; rintro e w2 ⟨rfl, k2⟩)
    | (go_at_call 27; with_reducible refine (f3 _).mono ?_; rintro e w3 ⟨rfl, k3⟩)
    | (go_at_call 27; with_reducible refine (f4 _).mono ?_; rintro e w4 ⟨rfl, k4⟩))
  clear f1 f2 f3 f4
  obtain ⟨w5, hw5⟩ : ∃ w5, w5 = w4.alloc (.cells #[.int .i64 40, .int .i64 x, .int .i64 y, .int .i64 z, .int .i64 0] 62) := ⟨_, rfl⟩
  have n5 : w5.heap[w4.heap.size]? = some (.cells #[.int .i64 40, .int .i64 x, .int .i64 y, .int .i64 z, .int .i64 0] 62 (0, 0)) := by rw [hw5]; exact heap_alloc_new w4 _
  have k5 : Kp w4 w5 := by rw [hw5]; exact (Chg.refl w4 _).alloc _
  rw [← hw5]
  clear hw5
  have kz : Kp ((w.alloc (.cells #[.int .i64 0, .int .i64 0, .int .i64 0, .int .i64 0, .int .i64 0] 62)).alloc (.cells #[.int .i64 (-1), .int .i64 0, .int .i64 0, .int .i64 0, .int .i64 0] 62)) w4 := Kp.trans k1 (Kp.trans k2 (Kp.trans k3 k4))
  have z0 : w.heap.size + 2 ≤ w4.heap.size := by have := kz.size; simp at this; omega
  have zz : w4.heap[w.heap.size]? = some (.cells #[.int .i64 0, .int .i64 0, .int .i64 0, .int .i64 0, .int .i64 0] 62 (0, 0)) := Kp.heap kz (Kp.heap ((Chg.refl _ _).alloc _) (heap_alloc_new w _))
  have zn : w4.heap[w.heap.size + 1]? = some (.cells #[.int .i64 (-1), .int .i64 0, .int .i64 0, .int .i64 0, .int .i64 0] 62 (0, 0)) := Kp.heap kz (by have := heap_alloc_new (w.alloc (.cells #[.int .i64 0, .int .i64 0, .int .i64 0, .int .i64 0, .int .i64 0] 62)) (.cells #[.int .i64 (-1), .int .i64 0, .int .i64 0, .int .i64 0, .int .i64 0] 62); simpa using this)
  have kw : Kp w w4 := Kp.trans ((Chg.refl w _).alloc _ |>.alloc _) kz
  clear k1 k2 k3 k4 kz
  go_upto_region 4 with (go_at_call 27; with_reducible refine (f5 _).mono ?_; rintro e w6 ⟨rfl, k6⟩)
  go_upto_region 7 with (go_at_call 27; with_reducible refine (f6 _).mono ?_; rintro e w7 ⟨rfl, k7⟩)
  have K7 : Kp w4 w7 := Kp.trans k5 (Kp.trans k6 k7)
  have P7 := Kp.heap (Kp.trans k6 k7) n5
  have Z7 := Kp.heap K7 zz
  have N7 := Kp.heap K7 zn
  obtain ⟨c0, c1, c2, c3, c4, g0, g1, g2, g3, g4⟩ := cells5 P7
  obtain ⟨d0, d1, d2, d3, d4, _⟩ := cells5 N7
  obtain ⟨t0, t1, t2, t3, t4, u0, u1, u2, u3, u4⟩ := cells5 Z7
  have HH : Hid (Kp w w7 ∧ w.heap.size + 2 ≤ w4.heap.size ∧ w7.heap[w4.heap.size]? = some (.cells #[.int .i64 40, .int .i64 x, .int .i64 y, .int .i64 z, .int .i64 0] 62 (0, 0)) ∧ w7.heap[w.heap.size]? = some (.cells #[.int .i64 0, .int .i64 0, .int .i64 0, .int .i64 0, .int .i64 0] 62 (0, 0)) ∧ w7.heap[w.heap.size + 1]? = some (.cells #[.int .i64 (-1), .int .i64 0, .int .i64 0, .int .i64 0, .int .i64 0] 62 (0, 0))) := ⟨Kp.trans kw K7, z0, P7, Z7, N7⟩
  have e01 : ¬ w.heap.size = w4.heap.size := by omega
  have e02 : ¬ w4.heap.size = w.heap.size := by omega
  have e03 : ¬ w4.heap.size = w.heap.size + 1 := by omega
  have e04 : ¬ w.heap.size + 1 = w4.heap.size := by omega
  clear kw K7 P7 Z7 N7 zz zn n5 k5 k6 k7 f5 f6 z0
  go_wp2_with fail
  have KW : Kp w w7 := HH.out.1
  have ZW := HH.out.2.2.2.1
  have lt4 := HH.out.2.1
  refine ⟨rfl, _, ?_, rfl, ?_⟩
  · exact results_cell_row rfl _ _ w.heap.size 62 _ (0, 0) _ rfl (box5 ZW _ _ _ _ _ rfl).1 Tryz.underlying62 rfl (by kernel_rfl)
  · exact Chg.trans KW (box5 ZW _ _ _ _ _ rfl).2.2 (fun i hi e => by omega)
set_option maxRecDepth 100000 in
set_option maxHeartbeats 2000000 in
theorem apart_t (w : World) (v : Nat) (hv : v < 4294967296) (x y z : Int) (e1 : (v : Int) / 67108864 % 64 = 46) (e2 : (v : Int) / 4194304 % 16 = x) (e3 : (v : Int) / 262144 % 16 = y) (e4 : (v : Int) / 16384 % 16 = z)  (hx : (v : Int) % 4194304 = 0) :
    Calls Tryz.prog 15 #[.int .u32 (v : Nat)] w fun e w' => e = .returned (prV 45 x y z (0)) ∧ Kp w w' := by
  have f1 := fun w => field_26_6 w v hv
  have f2 := fun w => field_22_4 w v hv
  have f3 := fun w => field_18_4 w v hv
  have f4 := fun w => field_14_4 w v hv
  have f5 := fun w => field_0_18 w v hv
  have f6 := fun w => field_0_22 w v hv
  have f7 := fun w => field_0_14 w v hv
  have f8 := fun w => field_0_26 w v hv
  rw [e1] at f1
  rw [e2] at f2
  rw [e3] at f3
  rw [e4] at f4
  have b5 : 0 ≤ (v : Int) % 262144 ∧ (v : Int) % 262144 < 262144 := by omega
  have b6 : 0 ≤ (v : Int) % 4194304 ∧ (v : Int) % 4194304 < 4194304 := by omega
  have b8 : 0 ≤ (v : Int) % 67108864 ∧ (v : Int) % 67108864 < 67108864 := by omega
  clear e1 e2 e3 e4 hv
  generalize (v : Int) % 262144 = n18 at *
  generalize (v : Int) % 4194304 = n22 at *
  generalize (v : Int) % 67108864 = n26 at *
  generalize (v : Int) % 16384 = n14 at *
  have s18 := fun w => signed_18 w n18 b5
  have s22 := fun w => signed_22 w n22 b6
  generalize (if 131072 ≤ n18 then n18 - 262144 else n18) = m18 at *
  generalize (if 2097152 ≤ n22 then n22 - 4194304 else n22) = m22 at *
  go_enter Tryz.func15, Tryz.ntmps15
  go_upto_region 3 with (first
    | (go_at_call 27; with_reducible refine (f1 _).mono ?_; rintro e w1 ⟨rfl, k1⟩)
    | (go_at_call 27; with_reducible refine (f2 _).mono ?_; rintro e w2 ⟨rfl, k2⟩)
    | (go_at_call 27; with_reducible refine (f3 _).mono ?_; rintro e w3 ⟨rfl, k3⟩)
    | (go_at_call 27; with_reducible refine (f4 _).mono ?_; rintro e w4 ⟨rfl, k4⟩))
  clear f1 f2 f3 f4
  obtain ⟨w5, hw5⟩ : ∃ w5, w5 = w4.alloc (.cells #[.int .i64 45, .int .i64 x, .int .i64 y, .int .i64 z, .int .i64 0] 62) := ⟨_, rfl⟩
  have n5 : w5.heap[w4.heap.size]? = some (.cells #[.int .i64 45, .int .i64 x, .int .i64 y, .int .i64 z, .int .i64 0] 62 (0, 0)) := by rw [hw5]; exact heap_alloc_new w4 _
  have k5 : Kp w4 w5 := by rw [hw5]; exact (Chg.refl w4 _).alloc _
  rw [← hw5]
  clear hw5
  have kz : Kp ((w.alloc (.cells #[.int .i64 0, .int .i64 0, .int .i64 0, .int .i64 0, .int .i64 0] 62)).alloc (.cells #[.int .i64 (-1), .int .i64 0, .int .i64 0, .int .i64 0, .int .i64 0] 62)) w4 := Kp.trans k1 (Kp.trans k2 (Kp.trans k3 k4))
  have z0 : w.heap.size + 2 ≤ w4.heap.size := by have := kz.size; simp at this; omega
  have zz : w4.heap[w.heap.size]? = some (.cells #[.int .i64 0, .int .i64 0, .int .i64 0, .int .i64 0, .int .i64 0] 62 (0, 0)) := Kp.heap kz (Kp.heap ((Chg.refl _ _).alloc _) (heap_alloc_new w _))
  have zn : w4.heap[w.heap.size + 1]? = some (.cells #[.int .i64 (-1), .int .i64 0, .int .i64 0, .int .i64 0, .int .i64 0] 62 (0, 0)) := Kp.heap kz (by have := heap_alloc_new (w.alloc (.cells #[.int .i64 0, .int .i64 0, .int .i64 0, .int .i64 0, .int .i64 0] 62)) (.cells #[.int .i64 (-1), .int .i64 0, .int .i64 0, .int .i64 0, .int .i64 0] 62); simpa using this)
  have kw : Kp w w4 := Kp.trans ((Chg.refl w _).alloc _ |>.alloc _) kz
  clear k1 k2 k3 k4 kz
  go_upto_region 4 with (go_at_call 27; with_reducible refine (f5 _).mono ?_; rintro e w6 ⟨rfl, k6⟩)
  go_upto_region 7 with (go_at_call 27; with_reducible refine (f6 _).mono ?_; rintro e w7 ⟨rfl, k7⟩)
  have K7 : Kp w4 w7 := Kp.trans k5 (Kp.trans k6 k7)
  have P7 := Kp.heap (Kp.trans k6 k7) n5
  have Z7 := Kp.heap K7 zz
  have N7 := Kp.heap K7 zn
  obtain ⟨c0, c1, c2, c3, c4, g0, g1, g2, g3, g4⟩ := cells5 P7
  obtain ⟨d0, d1, d2, d3, d4, _⟩ := cells5 N7
  obtain ⟨t0, t1, t2, t3, t4, u0, u1, u2, u3, u4⟩ := cells5 Z7
  have HH : Hid (Kp w w7 ∧ w.heap.size + 2 ≤ w4.heap.size ∧ w7.heap[w4.heap.size]? = some (.cells #[.int .i64 45, .int .i64 x, .int .i64 y, .int .i64 z, .int .i64 0] 62 (0, 0)) ∧ w7.heap[w.heap.size]? = some (.cells #[.int .i64 0, .int .i64 0, .int .i64 0, .int .i64 0, .int .i64 0] 62 (0, 0)) ∧ w7.heap[w.heap.size + 1]? = some (.cells #[.int .i64 (-1), .int .i64 0, .int .i64 0, .int .i64 0, .int .i64 0] 62 (0, 0))) := ⟨Kp.trans kw K7, z0, P7, Z7, N7⟩
  have e01 : ¬ w.heap.size = w4.heap.size := by omega
  have e02 : ¬ w4.heap.size = w.heap.size := by omega
  have e03 : ¬ w4.heap.size = w.heap.size + 1 := by omega
  have e04 : ¬ w.heap.size + 1 = w4.heap.size := by omega
  clear kw K7 P7 Z7 N7 zz zn n5 k5 k6 k7 f5 f6 z0
  go_wp2_with fail
  have KW : Kp w w7 := HH.out.1
  have ZW := HH.out.2.2.2.1
  have lt4 := HH.out.2.1
  refine ⟨rfl, _, ?_, rfl, ?_⟩
  · exact results_cell_row rfl _ _ w.heap.size 62 _ (0, 0) _ rfl (box5 ZW _ _ _ _ _ rfl).1 Tryz.underlying62 rfl (by kernel_rfl)
  · exact Chg.trans KW (box5 ZW _ _ _ _ _ rfl).2.2 (fun i hi e => by omega)
set_option maxRecDepth 100000 in
set_option maxHeartbeats 2000000 in
theorem apart_u (w : World) (v : Nat) (hv : v < 4294967296) (x y z : Int) (e1 : (v : Int) / 67108864 % 64 = 46) (e2 : (v : Int) / 4194304 % 16 = x) (e3 : (v : Int) / 262144 % 16 = y) (e4 : (v : Int) / 16384 % 16 = z)  (hx : ¬ (v : Int) % 4194304 = 0) :
    Calls Tryz.prog 15 #[.int .u32 (v : Nat)] w fun e w' => e = .returned (prV (-1) 0 0 0 0) ∧ Kp w w' := by
  have f1 := fun w => field_26_6 w v hv
  have f2 := fun w => field_22_4 w v hv
  have f3 := fun w => field_18_4 w v hv
  have f4 := fun w => field_14_4 w v hv
  have f5 := fun w => field_0_18 w v hv
  have f6 := fun w => field_0_22 w v hv
  have f7 := fun w => field_0_14 w v hv
  have f8 := fun w => field_0_26 w v hv
  rw [e1] at f1
  rw [e2] at f2
  rw [e3] at f3
  rw [e4] at f4
  have b5 : 0 ≤ (v : Int) % 262144 ∧ (v : Int) % 262144 < 262144 := by omega
  have b6 : 0 ≤ (v : Int) % 4194304 ∧ (v : Int) % 4194304 < 4194304 := by omega
  have b8 : 0 ≤ (v : Int) % 67108864 ∧ (v : Int) % 67108864 < 67108864 := by omega
  clear e1 e2 e3 e4 hv
  generalize (v : Int) % 262144 = n18 at *
  generalize (v : Int) % 4194304 = n22 at *
  generalize (v : Int) % 67108864 = n26 at *
  generalize (v : Int) % 16384 = n14 at *
  have s18 := fun w => signed_18 w n18 b5
  have s22 := fun w => signed_22 w n22 b6
  generalize (if 131072 ≤ n18 then n18 - 262144 else n18) = m18 at *
  generalize (if 2097152 ≤ n22 then n22 - 4194304 else n22) = m22 at *
  go_enter Tryz.func15, Tryz.ntmps15
  go_upto_region 3 with (first
    | (go_at_call 27; with_reducible refine (f1 _).mono ?_; rintro e w1 ⟨rfl, k1⟩)
    | (go_at_call 27; with_reducible refine (f2 _).mono ?_; rintro e w2 ⟨rfl, k2⟩)
    | (go_at_call 27; with_reducible refine (f3 _).mono ?_; rintro e w3 ⟨rfl, k3⟩)
    | (go_at_call 27; with_reducible refine (f4 _).mono ?_; rintro e w4 ⟨rfl, k4⟩))
  clear f1 f2 f3 f4
  obtain ⟨w5, hw5⟩ : ∃ w5, w5 = w4.alloc (.cells #[.int .i64 45, .int .i64 x, .int .i64 y, .int .i64 z, .int .i64 0] 62) := ⟨_, rfl⟩
  have n5 : w5.heap[w4.heap.size]? = some (.cells #[.int .i64 45, .int .i64 x, .int .i64 y, .int .i64 z, .int .i64 0] 62 (0, 0)) := by rw [hw5]; exact heap_alloc_new w4 _
  have k5 : Kp w4 w5 := by rw [hw5]; exact (Chg.refl w4 _).alloc _
  rw [← hw5]
  clear hw5
  have kz : Kp ((w.alloc (.cells #[.int .i64 0, .int .i64 0, .int .i64 0, .int .i64 0, .int .i64 0] 62)).alloc (.cells #[.int .i64 (-1), .int .i64 0, .int .i64 0, .int .i64 0, .int .i64 0] 62)) w4 := Kp.trans k1 (Kp.trans k2 (Kp.trans k3 k4))
  have z0 : w.heap.size + 2 ≤ w4.heap.size := by have := kz.size; simp at this; omega
  have zz : w4.heap[w.heap.size]? = some (.cells #[.int .i64 0, .int .i64 0, .int .i64 0, .int .i64 0, .int .i64 0] 62 (0, 0)) := Kp.heap kz (Kp.heap ((Chg.refl _ _).alloc _) (heap_alloc_new w _))
  have zn : w4.heap[w.heap.size + 1]? = some (.cells #[.int .i64 (-1), .int .i64 0, .int .i64 0, .int .i64 0, .int .i64 0] 62 (0, 0)) := Kp.heap kz (by have := heap_alloc_new (w.alloc (.cells #[.int .i64 0, .int .i64 0, .int .i64 0, .int .i64 0, .int .i64 0] 62)) (.cells #[.int .i64 (-1), .int .i64 0, .int .i64 0, .int .i64 0, .int .i64 0] 62); simpa using this)
  have kw : Kp w w4 := Kp.trans ((Chg.refl w _).alloc _ |>.alloc _) kz
  clear k1 k2 k3 k4 kz
  go_upto_region 4 with (go_at_call 27; with_reducible refine (f5 _).mono ?_; rintro e w6 ⟨rfl, k6⟩)
  go_upto_region 7 with (go_at_call 27; with_reducible refine (f6 _).mono ?_; rintro e w7 ⟨rfl, k7⟩)
  have K7 : Kp w4 w7 := Kp.trans k5 (Kp.trans k6 k7)
  have P7 := Kp.heap (Kp.trans k6 k7) n5
  have Z7 := Kp.heap K7 zz
  have N7 := Kp.heap K7 zn
  obtain ⟨c0, c1, c2, c3, c4, g0, g1, g2, g3, g4⟩ := cells5 P7
  obtain ⟨d0, d1, d2, d3, d4, _⟩ := cells5 N7
  obtain ⟨t0, t1, t2, t3, t4, u0, u1, u2, u3, u4⟩ := cells5 Z7
  have HH : Hid (Kp w w7 ∧ w.heap.size + 2 ≤ w4.heap.size ∧ w7.heap[w4.heap.size]? = some (.cells #[.int .i64 45, .int .i64 x, .int .i64 y, .int .i64 z, .int .i64 0] 62 (0, 0)) ∧ w7.heap[w.heap.size]? = some (.cells #[.int .i64 0, .int .i64 0, .int .i64 0, .int .i64 0, .int .i64 0] 62 (0, 0)) ∧ w7.heap[w.heap.size + 1]? = some (.cells #[.int .i64 (-1), .int .i64 0, .int .i64 0, .int .i64 0, .int .i64 0] 62 (0, 0))) := ⟨Kp.trans kw K7, z0, P7, Z7, N7⟩
  have e01 : ¬ w.heap.size = w4.heap.size := by omega
  have e02 : ¬ w4.heap.size = w.heap.size := by omega
  have e03 : ¬ w4.heap.size = w.heap.size + 1 := by omega
  have e04 : ¬ w.heap.size + 1 = w4.heap.size := by omega
  clear kw K7 P7 Z7 N7 zz zn n5 k5 k6 k7 f5 f6 z0
  go_wp2_with fail
  have KW : Kp w w7 := HH.out.1
  have ZW := HH.out.2.2.2.1
  have lt4 := HH.out.2.1
  refine ⟨rfl, _, ?_, rfl, ?_⟩
  · exact results_cell_row rfl _ _ w.heap.size 62 _ (0, 0) _ rfl (box5 ZW _ _ _ _ _ rfl).1 Tryz.underlying62 rfl (by kernel_rfl)
  · exact Chg.trans KW (box5 ZW _ _ _ _ _ rfl).2.2 (fun i hi e => by omega)
set_option maxRecDepth 100000 in
set_option maxHeartbeats 2000000 in
theorem apart_v (w : World) (v : Nat) (hv : v < 4294967296) (x y z : Int) (o : Int) (hoo : -1 ≤ o ∧ o ≤ 62) (e1 : (v : Int) / 67108864 % 64 = o + 1) (e2 : (v : Int) / 4194304 % 16 = x) (e3 : (v : Int) / 262144 % 16 = y) (e4 : (v : Int) / 16384 % 16 = z) (ho : 41 ≤ o ∧ o ≤ 44) (hx : (v : Int) % 67108864 = 0) :
    Calls Tryz.prog 15 #[.int .u32 (v : Nat)] w fun e w' => e = .returned (prV o x y z (0)) ∧ Kp w w' := by
  have f1 := fun w => field_26_6 w v hv
  have f2 := fun w => field_22_4 w v hv
  have f3 := fun w => field_18_4 w v hv
  have f4 := fun w => field_14_4 w v hv
  have f5 := fun w => field_0_18 w v hv
  have f6 := fun w => field_0_22 w v hv
  have f7 := fun w => field_0_14 w v hv
  have f8 := fun w => field_0_26 w v hv
  rw [e1] at f1
  rw [e2] at f2
  rw [e3] at f3
  rw [e4] at f4
  have b5 : 0 ≤ (v : Int) % 262144 ∧ (v : Int) % 262144 < 262144 := by omega
  have b6 : 0 ≤ (v : Int) % 4194304 ∧ (v : Int) % 4194304 < 4194304 := by omega
  have b8 : 0 ≤ (v : Int) % 67108864 ∧ (v : Int) % 67108864 < 67108864 := by omega
  clear e1 e2 e3 e4 hv
  generalize (v : Int) % 262144 = n18 at *
  generalize (v : Int) % 4194304 = n22 at *
  generalize (v : Int) % 67108864 = n26 at *
  generalize (v : Int) % 16384 = n14 at *
  have s18 := fun w => signed_18 w n18 b5
  have s22 := fun w => signed_22 w n22 b6
  generalize (if 131072 ≤ n18 then n18 - 262144 else n18) = m18 at *
  generalize (if 2097152 ≤ n22 then n22 - 4194304 else n22) = m22 at *
  have q13 : (o == 13) = false := by simpa using (show ¬ o = 13 by omega)
  have q20 : (o == 20) = false := by simpa using (show ¬ o = 20 by omega)
  have q21 : (o == 21) = false := by simpa using (show ¬ o = 21 by omega)
  have q38 : (o == 38) = false := by simpa using (show ¬ o = 38 by omega)
  have q22 : (o == 22) = false := by simpa using (show ¬ o = 22 by omega)
  have q37 : (o == 37) = false := by simpa using (show ¬ o = 37 by omega)
  have q39 : (o == 39) = false := by simpa using (show ¬ o = 39 by omega)
  have q40 : (o == 40) = false := by simpa using (show ¬ o = 40 by omega)
  have q45 : (o == 45) = false := by simpa using (show ¬ o = 45 by omega)
  go_enter Tryz.func15, Tryz.ntmps15
  go_upto_region 3 with (first
    | (go_at_call 27; with_reducible refine (f1 _).mono ?_; rintro e w1 ⟨rfl, k1⟩)
    | (go_at_call 27; with_reducible refine (f2 _).mono ?_; rintro e w2 ⟨rfl, k2⟩)
    | (go_at_call 27; with_reducible refine (f3 _).mono ?_; rintro e w3 ⟨rfl, k3⟩)
    | (go_at_call 27; with_reducible refine (f4 _).mono ?_; rintro e w4 ⟨rfl, k4⟩))
  clear f1 f2 f3 f4
  obtain ⟨w5, hw5⟩ : ∃ w5, w5 = w4.alloc (.cells #[.int .i64 o, .int .i64 x, .int .i64 y, .int .i64 z, .int .i64 0] 62) := ⟨_, rfl⟩
  have n5 : w5.heap[w4.heap.size]? = some (.cells #[.int .i64 o, .int .i64 x, .int .i64 y, .int .i64 z, .int .i64 0] 62 (0, 0)) := by rw [hw5]; exact heap_alloc_new w4 _
  have k5 : Kp w4 w5 := by rw [hw5]; exact (Chg.refl w4 _).alloc _
  rw [← hw5]
  clear hw5
  have kz : Kp ((w.alloc (.cells #[.int .i64 0, .int .i64 0, .int .i64 0, .int .i64 0, .int .i64 0] 62)).alloc (.cells #[.int .i64 (-1), .int .i64 0, .int .i64 0, .int .i64 0, .int .i64 0] 62)) w4 := Kp.trans k1 (Kp.trans k2 (Kp.trans k3 k4))
  have z0 : w.heap.size + 2 ≤ w4.heap.size := by have := kz.size; simp at this; omega
  have zz : w4.heap[w.heap.size]? = some (.cells #[.int .i64 0, .int .i64 0, .int .i64 0, .int .i64 0, .int .i64 0] 62 (0, 0)) := Kp.heap kz (Kp.heap ((Chg.refl _ _).alloc _) (heap_alloc_new w _))
  have zn : w4.heap[w.heap.size + 1]? = some (.cells #[.int .i64 (-1), .int .i64 0, .int .i64 0, .int .i64 0, .int .i64 0] 62 (0, 0)) := Kp.heap kz (by have := heap_alloc_new (w.alloc (.cells #[.int .i64 0, .int .i64 0, .int .i64 0, .int .i64 0, .int .i64 0] 62)) (.cells #[.int .i64 (-1), .int .i64 0, .int .i64 0, .int .i64 0, .int .i64 0] 62); simpa using this)
  have kw : Kp w w4 := Kp.trans ((Chg.refl w _).alloc _ |>.alloc _) kz
  clear k1 k2 k3 k4 kz
  go_upto_region 4 with (go_at_call 27; with_reducible refine (f5 _).mono ?_; rintro e w6 ⟨rfl, k6⟩)
  go_upto_region 7 with (go_at_call 27; with_reducible refine (f6 _).mono ?_; rintro e w7 ⟨rfl, k7⟩)
  have K7 : Kp w4 w7 := Kp.trans k5 (Kp.trans k6 k7)
  have P7 := Kp.heap (Kp.trans k6 k7) n5
  have Z7 := Kp.heap K7 zz
  have N7 := Kp.heap K7 zn
  obtain ⟨c0, c1, c2, c3, c4, g0, g1, g2, g3, g4⟩ := cells5 P7
  obtain ⟨d0, d1, d2, d3, d4, _⟩ := cells5 N7
  obtain ⟨t0, t1, t2, t3, t4, u0, u1, u2, u3, u4⟩ := cells5 Z7
  have HH : Hid (Kp w w7 ∧ w.heap.size + 2 ≤ w4.heap.size ∧ w7.heap[w4.heap.size]? = some (.cells #[.int .i64 o, .int .i64 x, .int .i64 y, .int .i64 z, .int .i64 0] 62 (0, 0)) ∧ w7.heap[w.heap.size]? = some (.cells #[.int .i64 0, .int .i64 0, .int .i64 0, .int .i64 0, .int .i64 0] 62 (0, 0)) ∧ w7.heap[w.heap.size + 1]? = some (.cells #[.int .i64 (-1), .int .i64 0, .int .i64 0, .int .i64 0, .int .i64 0] 62 (0, 0))) := ⟨Kp.trans kw K7, z0, P7, Z7, N7⟩
  have e01 : ¬ w.heap.size = w4.heap.size := by omega
  have e02 : ¬ w4.heap.size = w.heap.size := by omega
  have e03 : ¬ w4.heap.size = w.heap.size + 1 := by omega
  have e04 : ¬ w.heap.size + 1 = w4.heap.size := by omega
  clear kw K7 P7 Z7 N7 zz zn n5 k5 k6 k7 f5 f6 z0
  have HC := fun (V : World) (k : Kp w7 V) => (⟨cells5 (Kp.heap k HH.out.2.2.1), cells5 (Kp.heap k HH.out.2.2.2.1), cells5 (Kp.heap k HH.out.2.2.2.2)⟩ : _ ∧ _ ∧ _)
  go_wp2_with (go_at_call 27; with_reducible refine (f8 _).mono ?_; rintro e w8 ⟨rfl, k8⟩; obtain ⟨⟨c0', c1', c2', c3', c4', g0', g1', g2', g3', g4'⟩, ⟨t0', t1', t2', t3', t4', u0', u1', u2', u3', u4'⟩, ⟨d0', d1', d2', d3', d4', _⟩⟩ := HC w8 k8; clear HC c0 c1 c2 c3 c4 g0 g1 g2 g3 g4 t0 t1 t2 t3 t4 u0 u1 u2 u3 u4 d0 d1 d2 d3 d4)
  have KW : Kp w w8 := Kp.trans HH.out.1 k8
  have ZW := Kp.heap k8 HH.out.2.2.2.1
  have lt4 := HH.out.2.1
  refine ⟨rfl, _, ?_, rfl, ?_⟩
  · exact results_cell_row rfl _ _ w.heap.size 62 _ (0, 0) _ rfl (box5 ZW _ _ _ _ _ rfl).1 Tryz.underlying62 rfl (by kernel_rfl)
  · exact Chg.trans KW (box5 ZW _ _ _ _ _ rfl).2.2 (fun i hi e => by omega)
set_option maxRecDepth 100000 in
set_option maxHeartbeats 2000000 in
theorem apart_w (w : World) (v : Nat) (hv : v < 4294967296) (x y z : Int) (o : Int) (hoo : -1 ≤ o ∧ o ≤ 62) (e1 : (v : Int) / 67108864 % 64 = o + 1) (e2 : (v : Int) / 4194304 % 16 = x) (e3 : (v : Int) / 262144 % 16 = y) (e4 : (v : Int) / 16384 % 16 = z) (ho : 41 ≤ o ∧ o ≤ 44) (hx : ¬ (v : Int) % 67108864 = 0) :
    Calls Tryz.prog 15 #[.int .u32 (v : Nat)] w fun e w' => e = .returned (prV (-1) 0 0 0 0) ∧ Kp w w' := by
  have f1 := fun w => field_26_6 w v hv
  have f2 := fun w => field_22_4 w v hv
  have f3 := fun w => field_18_4 w v hv
  have f4 := fun w => field_14_4 w v hv
  have f5 := fun w => field_0_18 w v hv
  have f6 := fun w => field_0_22 w v hv
  have f7 := fun w => field_0_14 w v hv
  have f8 := fun w => field_0_26 w v hv
  rw [e1] at f1
  rw [e2] at f2
  rw [e3] at f3
  rw [e4] at f4
  have b5 : 0 ≤ (v : Int) % 262144 ∧ (v : Int) % 262144 < 262144 := by omega
  have b6 : 0 ≤ (v : Int) % 4194304 ∧ (v : Int) % 4194304 < 4194304 := by omega
  have b8 : 0 ≤ (v : Int) % 67108864 ∧ (v : Int) % 67108864 < 67108864 := by omega
  clear e1 e2 e3 e4 hv
  generalize (v : Int) % 262144 = n18 at *
  generalize (v : Int) % 4194304 = n22 at *
  generalize (v : Int) % 67108864 = n26 at *
  generalize (v : Int) % 16384 = n14 at *
  have s18 := fun w => signed_18 w n18 b5
  have s22 := fun w => signed_22 w n22 b6
  generalize (if 131072 ≤ n18 then n18 - 262144 else n18) = m18 at *
  generalize (if 2097152 ≤ n22 then n22 - 4194304 else n22) = m22 at *
  have q13 : (o == 13) = false := by simpa using (show ¬ o = 13 by omega)
  have q20 : (o == 20) = false := by simpa using (show ¬ o = 20 by omega)
  have q21 : (o == 21) = false := by simpa using (show ¬ o = 21 by omega)
  have q38 : (o == 38) = false := by simpa using (show ¬ o = 38 by omega)
  have q22 : (o == 22) = false := by simpa using (show ¬ o = 22 by omega)
  have q37 : (o == 37) = false := by simpa using (show ¬ o = 37 by omega)
  have q39 : (o == 39) = false := by simpa using (show ¬ o = 39 by omega)
  have q40 : (o == 40) = false := by simpa using (show ¬ o = 40 by omega)
  have q45 : (o == 45) = false := by simpa using (show ¬ o = 45 by omega)
  go_enter Tryz.func15, Tryz.ntmps15
  go_upto_region 3 with (first
    | (go_at_call 27; with_reducible refine (f1 _).mono ?_; rintro e w1 ⟨rfl, k1⟩)
    | (go_at_call 27; with_reducible refine (f2 _).mono ?_; rintro e w2 ⟨rfl, k2⟩)
    | (go_at_call 27; with_reducible refine (f3 _).mono ?_; rintro e w3 ⟨rfl, k3⟩)
    | (go_at_call 27; with_reducible refine (f4 _).mono ?_; rintro e w4 ⟨rfl, k4⟩))
  clear f1 f2 f3 f4
  obtain ⟨w5, hw5⟩ : ∃ w5, w5 = w4.alloc (.cells #[.int .i64 o, .int .i64 x, .int .i64 y, .int .i64 z, .int .i64 0] 62) := ⟨_, rfl⟩
  have n5 : w5.heap[w4.heap.size]? = some (.cells #[.int .i64 o, .int .i64 x, .int .i64 y, .int .i64 z, .int .i64 0] 62 (0, 0)) := by rw [hw5]; exact heap_alloc_new w4 _
  have k5 : Kp w4 w5 := by rw [hw5]; exact (Chg.refl w4 _).alloc _
  rw [← hw5]
  clear hw5
  have kz : Kp ((w.alloc (.cells #[.int .i64 0, .int .i64 0, .int .i64 0, .int .i64 0, .int .i64 0] 62)).alloc (.cells #[.int .i64 (-1), .int .i64 0, .int .i64 0, .int .i64 0, .int .i64 0] 62)) w4 := Kp.trans k1 (Kp.trans k2 (Kp.trans k3 k4))
  have z0 : w.heap.size + 2 ≤ w4.heap.size := by have := kz.size; simp at this; omega
  have zz : w4.heap[w.heap.size]? = some (.cells #[.int .i64 0, .int .i64 0, .int .i64 0, .int .i64 0, .int .i64 0] 62 (0, 0)) := Kp.heap kz (Kp.heap ((Chg.refl _ _).alloc _) (heap_alloc_new w _))
  have zn : w4.heap[w.heap.size + 1]? = some (.cells #[.int .i64 (-1), .int .i64 0, .int .i64 0, .int .i64 0, .int .i64 0] 62 (0, 0)) := Kp.heap kz (by have := heap_alloc_new (w.alloc (.cells #[.int .i64 0, .int .i64 0, .int .i64 0, .int .i64 0, .int .i64 0] 62)) (.cells #[.int .i64 (-1), .int .i64 0, .int .i64 0, .int .i64 0, .int .i64 0] 62); simpa using this)
  have kw : Kp w w4 := Kp.trans ((Chg.refl w _).alloc _ |>.alloc _) kz
  clear k1 k2 k3 k4 kz
  go_upto_region 4 with (go_at_call 27; with_reducible refine (f5 _).mono ?_; rintro e w6 ⟨rfl, k6⟩)
  go_upto_region 7 with (go_at_call 27; with_reducible refine (f6 _).mono ?_; rintro e w7 ⟨rfl, k7⟩)
  have K7 : Kp w4 w7 := Kp.trans k5 (Kp.trans k6 k7)
  have P7 := Kp.heap (Kp.trans k6 k7) n5
  have Z7 := Kp.heap K7 zz
  have N7 := Kp.heap K7 zn
  obtain ⟨c0, c1, c2, c3, c4, g0, g1, g2, g3, g4⟩ := cells5 P7
  obtain ⟨d0, d1, d2, d3, d4, _⟩ := cells5 N7
  obtain ⟨t0, t1, t2, t3, t4, u0, u1, u2, u3, u4⟩ := cells5 Z7
  have HH : Hid (Kp w w7 ∧ w.heap.size + 2 ≤ w4.heap.size ∧ w7.heap[w4.heap.size]? = some (.cells #[.int .i64 o, .int .i64 x, .int .i64 y, .int .i64 z, .int .i64 0] 62 (0, 0)) ∧ w7.heap[w.heap.size]? = some (.cells #[.int .i64 0, .int .i64 0, .int .i64 0, .int .i64 0, .int .i64 0] 62 (0, 0)) ∧ w7.heap[w.heap.size + 1]? = some (.cells #[.int .i64 (-1), .int .i64 0, .int .i64 0, .int .i64 0, .int .i64 0] 62 (0, 0))) := ⟨Kp.trans kw K7, z0, P7, Z7, N7⟩
  have e01 : ¬ w.heap.size = w4.heap.size := by omega
  have e02 : ¬ w4.heap.size = w.heap.size := by omega
  have e03 : ¬ w4.heap.size = w.heap.size + 1 := by omega
  have e04 : ¬ w.heap.size + 1 = w4.heap.size := by omega
  clear kw K7 P7 Z7 N7 zz zn n5 k5 k6 k7 f5 f6 z0
  have HC := fun (V : World) (k : Kp w7 V) => (⟨cells5 (Kp.heap k HH.out.2.2.1), cells5 (Kp.heap k HH.out.2.2.2.1), cells5 (Kp.heap k HH.out.2.2.2.2)⟩ : _ ∧ _ ∧ _)
  go_wp2_with (go_at_call 27; with_reducible refine (f8 _).mono ?_; rintro e w8 ⟨rfl, k8⟩; obtain ⟨⟨c0', c1', c2', c3', c4', g0', g1', g2', g3', g4'⟩, ⟨t0', t1', t2', t3', t4', u0', u1', u2', u3', u4'⟩, ⟨d0', d1', d2', d3', d4', _⟩⟩ := HC w8 k8; clear HC c0 c1 c2 c3 c4 g0 g1 g2 g3 g4 t0 t1 t2 t3 t4 u0 u1 u2 u3 u4 d0 d1 d2 d3 d4)
  have KW : Kp w w8 := Kp.trans HH.out.1 k8
  have ZW := Kp.heap k8 HH.out.2.2.2.1
  have lt4 := HH.out.2.1
  refine ⟨rfl, _, ?_, rfl, ?_⟩
  · exact results_cell_row rfl _ _ w.heap.size 62 _ (0, 0) _ rfl (box5 ZW _ _ _ _ _ rfl).1 Tryz.underlying62 rfl (by kernel_rfl)
  · exact Chg.trans KW (box5 ZW _ _ _ _ _ rfl).2.2 (fun i hi e => by omega)
set_option maxRecDepth 100000 in
set_option maxHeartbeats 2000000 in
theorem apart_x (w : World) (v : Nat) (hv : v < 4294967296) (x y z : Int) (o : Int) (hoo : -1 ≤ o ∧ o ≤ 62) (e1 : (v : Int) / 67108864 % 64 = o + 1) (e2 : (v : Int) / 4194304 % 16 = x) (e3 : (v : Int) / 262144 % 16 = y) (e4 : (v : Int) / 16384 % 16 = z) (ho : 46 ≤ o ∧ o ≤ 47) (hx : (v : Int) % 67108864 = 0) :
    Calls Tryz.prog 15 #[.int .u32 (v : Nat)] w fun e w' => e = .returned (prV o x y z (0)) ∧ Kp w w' := by
  have f1 := fun w => field_26_6 w v hv
  have f2 := fun w => field_22_4 w v hv
  have f3 := fun w => field_18_4 w v hv
  have f4 := fun w => field_14_4 w v hv
  have f5 := fun w => field_0_18 w v hv
  have f6 := fun w => field_0_22 w v hv
  have f7 := fun w => field_0_14 w v hv
  have f8 := fun w => field_0_26 w v hv
  rw [e1] at f1
  rw [e2] at f2
  rw [e3] at f3
  rw [e4] at f4
  have b5 : 0 ≤ (v : Int) % 262144 ∧ (v : Int) % 262144 < 262144 := by omega
  have b6 : 0 ≤ (v : Int) % 4194304 ∧ (v : Int) % 4194304 < 4194304 := by omega
  have b8 : 0 ≤ (v : Int) % 67108864 ∧ (v : Int) % 67108864 < 67108864 := by omega
  clear e1 e2 e3 e4 hv
  generalize (v : Int) % 262144 = n18 at *
  generalize (v : Int) % 4194304 = n22 at *
  generalize (v : Int) % 67108864 = n26 at *
  generalize (v : Int) % 16384 = n14 at *
  have s18 := fun w => signed_18 w n18 b5
  have s22 := fun w => signed_22 w n22 b6
  generalize (if 131072 ≤ n18 then n18 - 262144 else n18) = m18 at *
  generalize (if 2097152 ≤ n22 then n22 - 4194304 else n22) = m22 at *
  have q13 : (o == 13) = false := by simpa using (show ¬ o = 13 by omega)
  have q20 : (o == 20) = false := by simpa using (show ¬ o = 20 by omega)
  have q21 : (o == 21) = false := by simpa using (show ¬ o = 21 by omega)
  have q38 : (o == 38) = false := by simpa using (show ¬ o = 38 by omega)
  have q22 : (o == 22) = false := by simpa using (show ¬ o = 22 by omega)
  have q37 : (o == 37) = false := by simpa using (show ¬ o = 37 by omega)
  have q39 : (o == 39) = false := by simpa using (show ¬ o = 39 by omega)
  have q40 : (o == 40) = false := by simpa using (show ¬ o = 40 by omega)
  have q45 : (o == 45) = false := by simpa using (show ¬ o = 45 by omega)
  go_enter Tryz.func15, Tryz.ntmps15
  go_upto_region 3 with (first
    | (go_at_call 27; with_reducible refine (f1 _).mono ?_; rintro e w1 ⟨rfl, k1⟩)
    | (go_at_call 27; with_reducible refine (f2 _).mono ?_; rintro e w2 ⟨rfl, k2⟩)
    | (go_at_call 27; with_reducible refine (f3 _).mono ?_; rintro e w3 ⟨rfl, k3⟩)
    | (go_at_call 27; with_reducible refine (f4 _).mono ?_; rintro e w4 ⟨rfl, k4⟩))
  clear f1 f2 f3 f4
  obtain ⟨w5, hw5⟩ : ∃ w5, w5 = w4.alloc (.cells #[.int .i64 o, .int .i64 x, .int .i64 y, .int .i64 z, .int .i64 0] 62) := ⟨_, rfl⟩
  have n5 : w5.heap[w4.heap.size]? = some (.cells #[.int .i64 o, .int .i64 x, .int .i64 y, .int .i64 z, .int .i64 0] 62 (0, 0)) := by rw [hw5]; exact heap_alloc_new w4 _
  have k5 : Kp w4 w5 := by rw [hw5]; exact (Chg.refl w4 _).alloc _
  rw [← hw5]
  clear hw5
  have kz : Kp ((w.alloc (.cells #[.int .i64 0, .int .i64 0, .int .i64 0, .int .i64 0, .int .i64 0] 62)).alloc (.cells #[.int .i64 (-1), .int .i64 0, .int .i64 0, .int .i64 0, .int .i64 0] 62)) w4 := Kp.trans k1 (Kp.trans k2 (Kp.trans k3 k4))
  have z0 : w.heap.size + 2 ≤ w4.heap.size := by have := kz.size; simp at this; omega
  have zz : w4.heap[w.heap.size]? = some (.cells #[.int .i64 0, .int .i64 0, .int .i64 0, .int .i64 0, .int .i64 0] 62 (0, 0)) := Kp.heap kz (Kp.heap ((Chg.refl _ _).alloc _) (heap_alloc_new w _))
  have zn : w4.heap[w.heap.size + 1]? = some (.cells #[.int .i64 (-1), .int .i64 0, .int .i64 0, .int .i64 0, .int .i64 0] 62 (0, 0)) := Kp.heap kz (by have := heap_alloc_new (w.alloc (.cells #[.int .i64 0, .int .i64 0, .int .i64 0, .int .i64 0, .int .i64 0] 62)) (.cells #[.int .i64 (-1), .int .i64 0, .int .i64 0, .int .i64 0, .int .i64 0] 62); simpa using this)
  have kw : Kp w w4 := Kp.trans ((Chg.refl w _).alloc _ |>.alloc _) kz
  clear k1 k2 k3 k4 kz
  go_upto_region 4 with (go_at_call 27; with_reducible refine (f5 _).mono ?_; rintro e w6 ⟨rfl, k6⟩)
  go_upto_region 7 with (go_at_call 27; with_reducible refine (f6 _).mono ?_; rintro e w7 ⟨rfl, k7⟩)
  have K7 : Kp w4 w7 := Kp.trans k5 (Kp.trans k6 k7)
  have P7 := Kp.heap (Kp.trans k6 k7) n5
  have Z7 := Kp.heap K7 zz
  have N7 := Kp.heap K7 zn
  obtain ⟨c0, c1, c2, c3, c4, g0, g1, g2, g3, g4⟩ := cells5 P7
  obtain ⟨d0, d1, d2, d3, d4, _⟩ := cells5 N7
  obtain ⟨t0, t1, t2, t3, t4, u0, u1, u2, u3, u4⟩ := cells5 Z7
  have HH : Hid (Kp w w7 ∧ w.heap.size + 2 ≤ w4.heap.size ∧ w7.heap[w4.heap.size]? = some (.cells #[.int .i64 o, .int .i64 x, .int .i64 y, .int .i64 z, .int .i64 0] 62 (0, 0)) ∧ w7.heap[w.heap.size]? = some (.cells #[.int .i64 0, .int .i64 0, .int .i64 0, .int .i64 0, .int .i64 0] 62 (0, 0)) ∧ w7.heap[w.heap.size + 1]? = some (.cells #[.int .i64 (-1), .int .i64 0, .int .i64 0, .int .i64 0, .int .i64 0] 62 (0, 0))) := ⟨Kp.trans kw K7, z0, P7, Z7, N7⟩
  have e01 : ¬ w.heap.size = w4.heap.size := by omega
  have e02 : ¬ w4.heap.size = w.heap.size := by omega
  have e03 : ¬ w4.heap.size = w.heap.size + 1 := by omega
  have e04 : ¬ w.heap.size + 1 = w4.heap.size := by omega
  clear kw K7 P7 Z7 N7 zz zn n5 k5 k6 k7 f5 f6 z0
  have HC := fun (V : World) (k : Kp w7 V) => (⟨cells5 (Kp.heap k HH.out.2.2.1), cells5 (Kp.heap k HH.out.2.2.2.1), cells5 (Kp.heap k HH.out.2.2.2.2)⟩ : _ ∧ _ ∧ _)
  go_wp2_with (go_at_call 27; with_reducible refine (f8 _).mono ?_; rintro e w8 ⟨rfl, k8⟩; obtain ⟨⟨c0', c1', c2', c3', c4', g0', g1', g2', g3', g4'⟩, ⟨t0', t1', t2', t3', t4', u0', u1', u2', u3', u4'⟩, ⟨d0', d1', d2', d3', d4', _⟩⟩ := HC w8 k8; clear HC c0 c1 c2 c3 c4 g0 g1 g2 g3 g4 t0 t1 t2 t3 t4 u0 u1 u2 u3 u4 d0 d1 d2 d3 d4)
  have KW : Kp w w8 := Kp.trans HH.out.1 k8
  have ZW := Kp.heap k8 HH.out.2.2.2.1
  have lt4 := HH.out.2.1
  refine ⟨rfl, _, ?_, rfl, ?_⟩
  · exact results_cell_row rfl _ _ w.heap.size 62 _ (0, 0) _ rfl (box5 ZW _ _ _ _ _ rfl).1 Tryz.underlying62 rfl (by kernel_rfl)
  · exact Chg.trans KW (box5 ZW _ _ _ _ _ rfl).2.2 (fun i hi e => by omega)
set_option maxRecDepth 100000 in
set_option maxHeartbeats 2000000 in
theorem apart_y (w : World) (v : Nat) (hv : v < 4294967296) (x y z : Int) (o : Int) (hoo : -1 ≤ o ∧ o ≤ 62) (e1 : (v : Int) / 67108864 % 64 = o + 1) (e2 : (v : Int) / 4194304 % 16 = x) (e3 : (v : Int) / 262144 % 16 = y) (e4 : (v : Int) / 16384 % 16 = z) (ho : 46 ≤ o ∧ o ≤ 47) (hx : ¬ (v : Int) % 67108864 = 0) :
    Calls Tryz.prog 15 #[.int .u32 (v : Nat)] w fun e w' => e = .returned (prV (-1) 0 0 0 0) ∧ Kp w w' := by
  have f1 := fun w => field_26_6 w v hv
  have f2 := fun w => field_22_4 w v hv
  have f3 := fun w => field_18_4 w v hv
  have f4 := fun w => field_14_4 w v hv
  have f5 := fun w => field_0_18 w v hv
  have f6 := fun w => field_0_22 w v hv
  have f7 := fun w => field_0_14 w v hv
  have f8 := fun w => field_0_26 w v hv
  rw [e1] at f1
  rw [e2] at f2
  rw [e3] at f3
  rw [e4] at f4
  have b5 : 0 ≤ (v : Int) % 262144 ∧ (v : Int) % 262144 < 262144 := by omega
  have b6 : 0 ≤ (v : Int) % 4194304 ∧ (v : Int) % 4194304 < 4194304 := by omega
  have b8 : 0 ≤ (v : Int) % 67108864 ∧ (v : Int) % 67108864 < 67108864 := by omega
  clear e1 e2 e3 e4 hv
  generalize (v : Int) % 262144 = n18 at *
  generalize (v : Int) % 4194304 = n22 at *
  generalize (v : Int) % 67108864 = n26 at *
  generalize (v : Int) % 16384 = n14 at *
  have s18 := fun w => signed_18 w n18 b5
  have s22 := fun w => signed_22 w n22 b6
  generalize (if 131072 ≤ n18 then n18 - 262144 else n18) = m18 at *
  generalize (if 2097152 ≤ n22 then n22 - 4194304 else n22) = m22 at *
  have q13 : (o == 13) = false := by simpa using (show ¬ o = 13 by omega)
  have q20 : (o == 20) = false := by simpa using (show ¬ o = 20 by omega)
  have q21 : (o == 21) = false := by simpa using (show ¬ o = 21 by omega)
  have q38 : (o == 38) = false := by simpa using (show ¬ o = 38 by omega)
  have q22 : (o == 22) = false := by simpa using (show ¬ o = 22 by omega)
  have q37 : (o == 37) = false := by simpa using (show ¬ o = 37 by omega)
  have q39 : (o == 39) = false := by simpa using (show ¬ o = 39 by omega)
  have q40 : (o == 40) = false := by simpa using (show ¬ o = 40 by omega)
  have q45 : (o == 45) = false := by simpa using (show ¬ o = 45 by omega)
  go_enter Tryz.func15, Tryz.ntmps15
  go_upto_region 3 with (first
    | (go_at_call 27; with_reducible refine (f1 _).mono ?_; rintro e w1 ⟨rfl, k1⟩)
    | (go_at_call 27; with_reducible refine (f2 _).mono ?_; rintro e w2 ⟨rfl, k2⟩)
    | (go_at_call 27; with_reducible refine (f3 _).mono ?_; rintro e w3 ⟨rfl, k3⟩)
    | (go_at_call 27; with_reducible refine (f4 _).mono ?_; rintro e w4 ⟨rfl, k4⟩))
  clear f1 f2 f3 f4
  obtain ⟨w5, hw5⟩ : ∃ w5, w5 = w4.alloc (.cells #[.int .i64 o, .int .i64 x, .int .i64 y, .int .i64 z, .int .i64 0] 62) := ⟨_, rfl⟩
  have n5 : w5.heap[w4.heap.size]? = some (.cells #[.int .i64 o, .int .i64 x, .int .i64 y, .int .i64 z, .int .i64 0] 62 (0, 0)) := by rw [hw5]; exact heap_alloc_new w4 _
  have k5 : Kp w4 w5 := by rw [hw5]; exact (Chg.refl w4 _).alloc _
  rw [← hw5]
  clear hw5
  have kz : Kp ((w.alloc (.cells #[.int .i64 0, .int .i64 0, .int .i64 0, .int .i64 0, .int .i64 0] 62)).alloc (.cells #[.int .i64 (-1), .int .i64 0, .int .i64 0, .int .i64 0, .int .i64 0] 62)) w4 := Kp.trans k1 (Kp.trans k2 (Kp.trans k3 k4))
  have z0 : w.heap.size + 2 ≤ w4.heap.size := by have := kz.size; simp at this; omega
  have zz : w4.heap[w.heap.size]? = some (.cells #[.int .i64 0, .int .i64 0, .int .i64 0, .int .i64 0, .int .i64 0] 62 (0, 0)) := Kp.heap kz (Kp.heap ((Chg.refl _ _).alloc _) (heap_alloc_new w _))
  have zn : w4.heap[w.heap.size + 1]? = some (.cells #[.int .i64 (-1), .int .i64 0, .int .i64 0, .int .i64 0, .int .i64 0] 62 (0, 0)) := Kp.heap kz (by have := heap_alloc_new (w.alloc (.cells #[.int .i64 0, .int .i64 0, .int .i64 0, .int .i64 0, .int .i64 0] 62)) (.cells #[.int .i64 (-1), .int .i64 0, .int .i64 0, .int .i64 0, .int .i64 0] 62); simpa using this)
  have kw : Kp w w4 := Kp.trans ((Chg.refl w _).alloc _ |>.alloc _) kz
  clear k1 k2 k3 k4 kz
  go_upto_region 4 with (go_at_call 27; with_reducible refine (f5 _).mono ?_; rintro e w6 ⟨rfl, k6⟩)
  go_upto_region 7 with (go_at_call 27; with_reducible refine (f6 _).mono ?_; rintro e w7 ⟨rfl, k7⟩)
  have K7 : Kp w4 w7 := Kp.trans k5 (Kp.trans k6 k7)
  have P7 := Kp.heap (Kp.trans k6 k7) n5
  have Z7 := Kp.heap K7 zz
  have N7 := Kp.heap K7 zn
  obtain ⟨c0, c1, c2, c3, c4, g0, g1, g2, g3, g4⟩ := cells5 P7
  obtain ⟨d0, d1, d2, d3, d4, _⟩ := cells5 N7
  obtain ⟨t0, t1, t2, t3, t4, u0, u1, u2, u3, u4⟩ := cells5 Z7
  have HH : Hid (Kp w w7 ∧ w.heap.size + 2 ≤ w4.heap.size ∧ w7.heap[w4.heap.size]? = some (.cells #[.int .i64 o, .int .i64 x, .int .i64 y, .int .i64 z, .int .i64 0] 62 (0, 0)) ∧ w7.heap[w.heap.size]? = some (.cells #[.int .i64 0, .int .i64 0, .int .i64 0, .int .i64 0, .int .i64 0] 62 (0, 0)) ∧ w7.heap[w.heap.size + 1]? = some (.cells #[.int .i64 (-1), .int .i64 0, .int .i64 0, .int .i64 0, .int .i64 0] 62 (0, 0))) := ⟨Kp.trans kw K7, z0, P7, Z7, N7⟩
  have e01 : ¬ w.heap.size = w4.heap.size := by omega
  have e02 : ¬ w4.heap.size = w.heap.size := by omega
  have e03 : ¬ w4.heap.size = w.heap.size + 1 := by omega
  have e04 : ¬ w.heap.size + 1 = w4.heap.size := by omega
  clear kw K7 P7 Z7 N7 zz zn n5 k5 k6 k7 f5 f6 z0
  have HC := fun (V : World) (k : Kp w7 V) => (⟨cells5 (Kp.heap k HH.out.2.2.1), cells5 (Kp.heap k HH.out.2.2.2.1), cells5 (Kp.heap k HH.out.2.2.2.2)⟩ : _ ∧ _ ∧ _)
  go_wp2_with (go_at_call 27; with_reducible refine (f8 _).mono ?_; rintro e w8 ⟨rfl, k8⟩; obtain ⟨⟨c0', c1', c2', c3', c4', g0', g1', g2', g3', g4'⟩, ⟨t0', t1', t2', t3', t4', u0', u1', u2', u3', u4'⟩, ⟨d0', d1', d2', d3', d4', _⟩⟩ := HC w8 k8; clear HC c0 c1 c2 c3 c4 g0 g1 g2 g3 g4 t0 t1 t2 t3 t4 u0 u1 u2 u3 u4 d0 d1 d2 d3 d4)
  have KW : Kp w w8 := Kp.trans HH.out.1 k8
  have ZW := Kp.heap k8 HH.out.2.2.2.1
  have lt4 := HH.out.2.1
  refine ⟨rfl, _, ?_, rfl, ?_⟩
  · exact results_cell_row rfl _ _ w.heap.size 62 _ (0, 0) _ rfl (box5 ZW _ _ _ _ _ rfl).1 Tryz.underlying62 rfl (by kernel_rfl)
  · exact Chg.trans KW (box5 ZW _ _ _ _ _ rfl).2.2 (fun i hi e => by omega)
end Go.Proofs.YtghiffpolacmiabGreatDoor
