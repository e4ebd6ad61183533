import Derived.Test.YtodgobapgmhgdaaDoorSk
import Derived.Test.YtodgobapgmhgdaaDoorSs
namespace Go.Proofs.YtodgobapgmhgdaaDoor
open Go.ChangeShapes Go.WideShapes Go.ChangeAt Go.RowKit
set_option linter.unusedVariables false

set_option maxRecDepth 100000 in
set_option maxHeartbeats 8000000 in
theorem makes_walk (w : World) (hG : Gg w) (op : Int) (d a b : Nat) (n : Int) (hop : InI op) (hd : d < 256) (ha : a < 256) (hb : b < 256) (n0 : -2147483648 ≤ n) (n1 : n ≤ 2147483647) :
    Calls Tryd.prog 8 #[iv op d a b n] w fun e w' => e = .returned (.bool true) ∧ Kp w w' := by
  have k0 : Kp w (w.alloc (.cells #[.int .i64 op, .int .u8 d, .int .u8 a, .int .u8 b, .int .i32 n] 24)) := (Chg.refl _ _).alloc _
  have hK := known_any _ (hG.keep k0)
  have hE := fun V (k : Kp w V) => Encode_any V (hG.keep k).1 op d a b n
  have hF := fun V => rEncode_any V op d a b n hd ha hb n0 n1
  have hT := fun V (k : Kp w V) => Text_any V (hG.keep k) op d a b n
  have hU := fun V (k : Kp w V) => Uses_any V (hG.keep k).1 op d a b n
  have hV := fun V => rUses_of V op d a b n hF
  have hX := fun V => rText_of V op d a b n hF
  clear hop hd ha hb n0 n1
  generalize sb (tx op d a b n) = t at *
  generalize ew op d a b n = x at *
  generalize ck op d a b n = c at *
  generalize uR op d a b n = r at *
  generalize uW op d a b n = s at *
  go_enter Tryd.func8, Tryd.ntmps8
  go_wp2_with fail
  go_at_call 9
  refine hK.mono ?_
  rintro e w1 ⟨rfl, k1⟩
  have kk1 : Kp w w1 := Kp.trans k0 k1
  obtain ⟨c0, c1, c2, c3, c4⟩ := Kp.cells5 k1 (heap_alloc_new w _)
  have hE1 := hE w1 kk1
  clear hK hE
  go_wp2_with fail
  go_at_call 10
  refine hE1.mono ?_
  rintro e w2 ⟨rfl, k2⟩
  have kk2 : Kp w w2 := Kp.trans kk1 k2
  clear c0 c1 c2 c3 c4 hE1
  obtain ⟨c0, c1, c2, c3, c4⟩ := Kp.cells5 (Kp.trans k1 k2) (heap_alloc_new w _)
  go_wp2_with fail
  go_at_call 21
  refine (hF _).mono ?_
  rintro e w3 ⟨rfl, k3⟩
  have kk3 : Kp w w3 := Kp.trans kk2 k3
  have k13 := Kp.trans (Kp.trans k1 k2) k3
  clear c0 c1 c2 c3 c4 hF
  obtain ⟨c0, c1, c2, c3, c4⟩ := Kp.cells5 k13 (heap_alloc_new w _)
  have hT3 := hT w3 kk3
  clear hT
  go_wp2_with fail
  go_at_call 11
  refine hT3.mono ?_
  rintro e w4 ⟨rfl, k4⟩
  have kk4 : Kp w w4 := Kp.trans kk3 k4
  have k14 := Kp.trans k13 k4
  clear c0 c1 c2 c3 c4 hT3
  obtain ⟨c0, c1, c2, c3, c4⟩ := Kp.cells5 k14 (heap_alloc_new w _)
  have hU4 := hU w4 kk4
  clear hU
  go_wp2_with fail
  go_at_call 16
  refine hU4.mono ?_
  rintro e w5 ⟨rfl, k5⟩
  have kk5 : Kp w w5 := Kp.trans kk4 k5
  have k15 := Kp.trans k14 k5
  clear c0 c1 c2 c3 c4 hU4
  obtain ⟨c0, c1, c2, c3, c4⟩ := Kp.cells5 k15 (heap_alloc_new w _)
  go_wp2_with fail
  go_at_call 22
  refine (hV _).mono ?_
  rintro e w6 ⟨rfl, k6⟩
  have kk6 : Kp w w6 := Kp.trans kk5 k6
  have k16 := Kp.trans k15 k6
  clear c0 c1 c2 c3 c4 hV
  obtain ⟨c0, c1, c2, c3, c4⟩ := Kp.cells5 k16 (heap_alloc_new w _)
  go_wp2_with (go_at_call 23; refine (hX _).mono ?_; rintro e w7 ⟨rfl, k7⟩)
  go_ret
  exact ⟨rfl, Kp.trans kk6 k7⟩
end Go.Proofs.YtodgobapgmhgdaaDoor
