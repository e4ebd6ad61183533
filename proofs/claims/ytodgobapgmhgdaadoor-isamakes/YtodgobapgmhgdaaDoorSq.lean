import Derived.Test.YtodgobapgmhgdaaDoorSe
import Derived.Test.YtodgobapgmhgdaaDoorSo
namespace Go.Proofs.YtodgobapgmhgdaaDoor
open Go.ChangeShapes Go.WideShapes Go.ChangeAt Go.RowKit
set_option linter.unusedVariables false

set_option maxRecDepth 100000 in
set_option maxHeartbeats 8000000 in
theorem rtxt_2o (w : World) (op d a b n x : Int) (s : ByteArray) (im uu : Int) (N td ta tb Z : ByteArray) (hd : 0 ≤ d ∧ d < 256) (ha : 0 ≤ a ∧ a < 256) (hb : 0 ≤ b ∧ b < 256) (hn : -2147483648 ≤ n ∧ n ≤ 2147483647) (him : (im == 45) = false) (hN : ∀ w, Calls Tryd.prog 39 #[.int .i64 n] w fun e w' => e = .returned (.string N) ∧ w' = w) (sN : N.size ≤ 30) (sS : s.size ≤ 5) (dd : ∀ w, Calls Tryd.prog 39 #[.int .i64 d] w fun e w' => e = .returned (.string td) ∧ w' = w) (sd : td.size ≤ 30) (da : ∀ w, Calls Tryd.prog 39 #[.int .i64 a] w fun e w' => e = .returned (.string ta) ∧ w' = w) (sa : ta.size ≤ 30) (db : ∀ w, Calls Tryd.prog 39 #[.int .i64 b] w fun e w' => e = .returned (.string tb) ∧ w' = w) (sb : tb.size ≤ 30) (eZ : s ++ ⟨#[32, 114]⟩ ++ td ++ ⟨#[44, 32]⟩ ++ N ++ ⟨#[40, 114]⟩ ++ ta ++ ⟨#[41]⟩ = Z)
    (hE : ∀ V, Calls Tryd.prog 21 #[iv op d a b n] V fun e w' => e = .returned (.tuple #[.int .u32 x, .int .i64 0]) ∧ Kp V w')
    (hO : ∀ V, Calls Tryd.prog 34 #[.int .i64 op] V fun e w' => e = .returned (.tuple #[.agg #[.string s, .int .i64 2, .int .u8 im, .int .u8 109], .bool true]) ∧ Kp V w') :
    Calls Tryd.prog 23 #[iv op d a b n] w fun e w' => e = .returned (.string Z) ∧ Kp w w' := by
  have hRD := fun V => rregD V op d a b n hd
  have hRA := fun V => rregA V op d a b n ha
  have hRB := fun V => rregB V op d a b n hb
  have wn : wrap64 n = n := w64' _ (by omega) (by omega)
  have wd' : wrap64 d = d := w64' _ (by omega) (by omega)
  have wa' : wrap64 a = a := w64' _ (by omega) (by omega)
  have wb' : wrap64 b = b := w64' _ (by omega) (by omega)
  have him' : (im != 45) = true := by simpa using him
  clear hd ha hb hn
  have HZe : Hid _ := eZ
  clear eZ
  go_enter Tryd.func23, Tryd.ntmps23
  go_wp2_with fail
  go_at_call 21
  refine (hE _).mono ?_
  rintro e w1 ⟨rfl, k1⟩
  obtain ⟨c0, c1, c2, c3, c4⟩ := Kp.cells5 k1 (heap_alloc_new w _)
  clear hE
  go_wp2_with fail
  go_at_call 34
  refine (hO _).mono ?_
  rintro e w2 ⟨rfl, k2⟩
  have S0 : Se w (w2.alloc (.cells #[.string s, .int .i64 2, .int .u8 im, .int .u8 109] 66)) w2.heap.size op d a b n #[.string s, .int .i64 2, .int .u8 im, .int .u8 109] :=
    ⟨(Kp.trans (Kp.trans ((Chg.refl _ _).alloc _) k1) k2).alloc _, al_old _ (Kp.heap (Kp.trans k1 k2) (heap_alloc_new w _)), heap_alloc_new w2 _⟩
  clear c0 c1 c2 c3 c4 hO
  go_wp2_with fail
  go_at_call 35
  refine (fields_2 _).mono ?_
  rintro e wa ⟨rfl, hwa⟩
  rw [hwa]
  clear hwa wa
  obtain ⟨W, hW⟩ : ∃ W, W = w2.alloc (.cells #[.string s, .int .i64 2, .int .u8 im, .int .u8 109] 66) := ⟨_, rfl⟩
  rw [← hW] at S0 ⊢
  generalize w2.heap.size = bk at *
  clear hW k1 k2
  obtain ⟨c0, c1, c2, c3, c4, _⟩ := cells5 S0.gi
  obtain ⟨b0, b1, b2, b3, _⟩ := cells4 S0.gk
  have HS : Hid _ := S0
  clear S0
  go_wp2_with fail
  go_at_call 39
  refine (hN _).mono ?_
  rintro e wa ⟨rfl, hwa⟩
  rw [hwa]
  clear hwa wa
  have v1 : ¬ 9223372036854775807 < s.size + 2 := by omega
  go_wp2_with fail
  go_quiet (first | (go_at_call 39; with_reducible exact Calls.quiet_of_same (dd _)) | (go_at_call 39; with_reducible exact Calls.quiet_of_same (da _)) | fail)
  go_wp2
  go_ret
  exact ⟨congrArg (fun s => Ending.returned (.string s)) HZe.out, by repeat (first | exact HS.out.kp | apply Chg.drewN | apply Chg.drew)⟩

set_option maxRecDepth 100000 in
set_option maxHeartbeats 8000000 in
theorem rtxt_3o (w : World) (op d a b n x : Int) (s : ByteArray) (im uu : Int) (N td ta tb Z : ByteArray) (hd : 0 ≤ d ∧ d < 256) (ha : 0 ≤ a ∧ a < 256) (hb : 0 ≤ b ∧ b < 256) (hn : -2147483648 ≤ n ∧ n ≤ 2147483647) (him : (im == 45) = false) (hN : ∀ w, Calls Tryd.prog 39 #[.int .i64 n] w fun e w' => e = .returned (.string N) ∧ w' = w) (sN : N.size ≤ 30) (sS : s.size ≤ 5) (dd : ∀ w, Calls Tryd.prog 39 #[.int .i64 d] w fun e w' => e = .returned (.string td) ∧ w' = w) (sd : td.size ≤ 30) (da : ∀ w, Calls Tryd.prog 39 #[.int .i64 a] w fun e w' => e = .returned (.string ta) ∧ w' = w) (sa : ta.size ≤ 30) (db : ∀ w, Calls Tryd.prog 39 #[.int .i64 b] w fun e w' => e = .returned (.string tb) ∧ w' = w) (sb : tb.size ≤ 30) (eZ : s ++ ⟨#[32, 114]⟩ ++ tb ++ ⟨#[44, 32]⟩ ++ N ++ ⟨#[40, 114]⟩ ++ ta ++ ⟨#[41]⟩ = Z)
    (hE : ∀ V, Calls Tryd.prog 21 #[iv op d a b n] V fun e w' => e = .returned (.tuple #[.int .u32 x, .int .i64 0]) ∧ Kp V w')
    (hO : ∀ V, Calls Tryd.prog 34 #[.int .i64 op] V fun e w' => e = .returned (.tuple #[.agg #[.string s, .int .i64 3, .int .u8 im, .int .u8 109], .bool true]) ∧ Kp V w') :
    Calls Tryd.prog 23 #[iv op d a b n] w fun e w' => e = .returned (.string Z) ∧ Kp w w' := by
  have hRD := fun V => rregD V op d a b n hd
  have hRA := fun V => rregA V op d a b n ha
  have hRB := fun V => rregB V op d a b n hb
  have wn : wrap64 n = n := w64' _ (by omega) (by omega)
  have wd' : wrap64 d = d := w64' _ (by omega) (by omega)
  have wa' : wrap64 a = a := w64' _ (by omega) (by omega)
  have wb' : wrap64 b = b := w64' _ (by omega) (by omega)
  have him' : (im != 45) = true := by simpa using him
  clear hd ha hb hn
  have HZe : Hid _ := eZ
  clear eZ
  go_enter Tryd.func23, Tryd.ntmps23
  go_wp2_with fail
  go_at_call 21
  refine (hE _).mono ?_
  rintro e w1 ⟨rfl, k1⟩
  obtain ⟨c0, c1, c2, c3, c4⟩ := Kp.cells5 k1 (heap_alloc_new w _)
  clear hE
  go_wp2_with fail
  go_at_call 34
  refine (hO _).mono ?_
  rintro e w2 ⟨rfl, k2⟩
  have S0 : Se w (w2.alloc (.cells #[.string s, .int .i64 3, .int .u8 im, .int .u8 109] 66)) w2.heap.size op d a b n #[.string s, .int .i64 3, .int .u8 im, .int .u8 109] :=
    ⟨(Kp.trans (Kp.trans ((Chg.refl _ _).alloc _) k1) k2).alloc _, al_old _ (Kp.heap (Kp.trans k1 k2) (heap_alloc_new w _)), heap_alloc_new w2 _⟩
  clear c0 c1 c2 c3 c4 hO
  go_wp2_with fail
  go_at_call 35
  refine (fields_3 _).mono ?_
  rintro e wa ⟨rfl, hwa⟩
  rw [hwa]
  clear hwa wa
  obtain ⟨W, hW⟩ : ∃ W, W = w2.alloc (.cells #[.string s, .int .i64 3, .int .u8 im, .int .u8 109] 66) := ⟨_, rfl⟩
  rw [← hW] at S0 ⊢
  generalize w2.heap.size = bk at *
  clear hW k1 k2
  obtain ⟨c0, c1, c2, c3, c4, _⟩ := cells5 S0.gi
  obtain ⟨b0, b1, b2, b3, _⟩ := cells4 S0.gk
  have HS : Hid _ := S0
  clear S0
  go_wp2_with fail
  go_at_call 39
  refine (hN _).mono ?_
  rintro e wa ⟨rfl, hwa⟩
  rw [hwa]
  clear hwa wa
  have v1 : ¬ 9223372036854775807 < s.size + 2 := by omega
  go_wp2_with fail
  go_quiet (first | (go_at_call 39; with_reducible exact Calls.quiet_of_same (db _)) | (go_at_call 39; with_reducible exact Calls.quiet_of_same (da _)) | fail)
  go_wp2
  go_ret
  exact ⟨congrArg (fun s => Ending.returned (.string s)) HZe.out, by repeat (first | exact HS.out.kp | apply Chg.drewN | apply Chg.drew)⟩
end Go.Proofs.YtodgobapgmhgdaaDoor
