import Derived.Test.YtodgobapgmhgdaaDoorSe
import Derived.Test.YtodgobapgmhgdaaDoorSo
namespace Go.Proofs.YtodgobapgmhgdaaDoor
open Go.ChangeShapes Go.WideShapes Go.ChangeAt Go.RowKit
set_option linter.unusedVariables false

set_option maxRecDepth 100000 in
set_option maxHeartbeats 8000000 in
theorem rtxt_1 (w : World) (op d a b n x : Int) (s : ByteArray) (sh uu : Int) (N td ta tb A1 A2 A3 Z : ByteArray) (hd : 0 ≤ d ∧ d < 256) (ha : 0 ≤ a ∧ a < 256) (hb : 0 ≤ b ∧ b < 256) (hn : -2147483648 ≤ n ∧ n ≤ 2147483647) (hsh : (sh == 109) = false) (hN : ∀ w, Calls Tryd.prog 39 #[.int .i64 n] w fun e w' => e = .returned (.string N) ∧ w' = w) (sN : N.size ≤ 30) (sS : s.size ≤ 5) (dd : ∀ w, Calls Tryd.prog 39 #[.int .i64 d] w fun e w' => e = .returned (.string td) ∧ w' = w) (sd : td.size ≤ 30) (da : ∀ w, Calls Tryd.prog 39 #[.int .i64 a] w fun e w' => e = .returned (.string ta) ∧ w' = w) (sa : ta.size ≤ 30) (db : ∀ w, Calls Tryd.prog 39 #[.int .i64 b] w fun e w' => e = .returned (.string tb) ∧ w' = w) (sb : tb.size ≤ 30) (e0 : s ++ ⟨#[32]⟩ ++ ⟨#[114]⟩ ++ td = A1) (w0 : A1.size ≤ 150) (e1 : A1 ++ ⟨#[44, 32]⟩ ++ ⟨#[114]⟩ ++ ta = A2) (w1 : A2.size ≤ 150) (e2 : A2 ++ ⟨#[44, 32]⟩ ++ ⟨#[114]⟩ ++ tb = A3) (w2 : A3.size ≤ 150) (eZ : A3 = Z)
    (hE : ∀ V, Calls Tryd.prog 21 #[iv op d a b n] V fun e w' => e = .returned (.tuple #[.int .u32 x, .int .i64 0]) ∧ Kp V w')
    (hO : ∀ V, Calls Tryd.prog 34 #[.int .i64 op] V fun e w' => e = .returned (.tuple #[.agg #[.string s, .int .i64 1, .int .u8 45, .int .u8 sh], .bool true]) ∧ Kp V w') :
    Calls Tryd.prog 23 #[iv op d a b n] w fun e w' => e = .returned (.string Z) ∧ Kp w w' := by
  have hRD := fun V => rregD V op d a b n hd
  have hRA := fun V => rregA V op d a b n ha
  have hRB := fun V => rregB V op d a b n hb
  have wn : wrap64 n = n := w64' _ (by omega) (by omega)
  have wd' : wrap64 d = d := w64' _ (by omega) (by omega)
  have wa' : wrap64 a = a := w64' _ (by omega) (by omega)
  have wb' : wrap64 b = b := w64' _ (by omega) (by omega)
  clear hd ha hb hn
  have HZe : Hid _ := eZ
  clear eZ
  go_enter Tryd.func23, Tryd.ntmps23
  go_wp2_with fail
  go_at_call 21
  refine (hE _).mono ?_
  rintro e w1 ⟨rfl, k1⟩
  obtain ⟨c0, c1, c2, c3, c4⟩ := Kp.cells5 k1 (heap_alloc_new w _)
  clear hE
  go_wp2_with fail
  go_at_call 34
  refine (hO _).mono ?_
  rintro e w2 ⟨rfl, k2⟩
  have S0 : Se w (w2.alloc (.cells #[.string s, .int .i64 1, .int .u8 45, .int .u8 sh] 66)) w2.heap.size op d a b n #[.string s, .int .i64 1, .int .u8 45, .int .u8 sh] :=
    ⟨(Kp.trans (Kp.trans ((Chg.refl _ _).alloc _) k1) k2).alloc _, al_old _ (Kp.heap (Kp.trans k1 k2) (heap_alloc_new w _)), heap_alloc_new w2 _⟩
  clear c0 c1 c2 c3 c4 hO
  go_wp2_with fail
  go_at_call 35
  refine (fields_1 _).mono ?_
  rintro e wa ⟨rfl, hwa⟩
  rw [hwa]
  clear hwa wa
  obtain ⟨W, hW⟩ : ∃ W, W = w2.alloc (.cells #[.string s, .int .i64 1, .int .u8 45, .int .u8 sh] 66) := ⟨_, rfl⟩
  rw [← hW] at S0 ⊢
  generalize w2.heap.size = bk at *
  clear hW k1 k2
  obtain ⟨c0, c1, c2, c3, c4, _⟩ := cells5 S0.gi
  obtain ⟨b0, b1, b2, b3, _⟩ := cells4 S0.gk
  have HS : Hid _ := S0
  clear S0
  go_wp2_with fail
  go_at_call 39
  refine (hN _).mono ?_
  rintro e wa ⟨rfl, hwa⟩
  rw [hwa]
  clear hwa wa
  go_wp2
  go_loopw [11, 12, 13] (fun s11 s12 s13 wr => ∃ (j : Nat) (A M : ByteArray), s11 = .string A ∧ s12 = .string M ∧ s13 = .int .i64 j ∧ Hid (Se w wr bk op d a b n #[.string s, .int .i64 1, .int .u8 45, .int .u8 sh]) ∧ Hid ((0 = j ∧ s = A ∧ ⟨#[32]⟩ = M) ∨ (1 = j ∧ A1 = A ∧ ⟨#[44, 32]⟩ = M) ∨ (2 = j ∧ A2 = A ∧ ⟨#[44, 32]⟩ = M) ∨ (3 = j ∧ A3 = A ∧ ⟨#[44, 32]⟩ = M))) (fun _ _ s13 _ => 3 - (intOf s13).toNat)
  case atStart => exact ⟨0, s, ⟨#[32]⟩, rfl, rfl, rfl, HS, .inl ⟨rfl, rfl, rfl⟩⟩
  case round =>
    obtain ⟨j, A, M, rfl, rfl, rfl, HI, HR⟩ := hrel
    clear HS c0 c1 c2 c3 c4 b0 b1 b2 b3
    rcases HR.out with ⟨rfl, rfl, rfl⟩ | ⟨rfl, rfl, rfl⟩ | ⟨rfl, rfl, rfl⟩ | ⟨rfl, rfl, rfl⟩
    · have hix : ∀ w : World, (Instr.index 9 (.string ⟨#[68, 65, 66]⟩) (.int .i64 0)).run Tryd.prog w = .ok (.int .u8 68) w := fun w => by kernel_rfl
      clear HR
      go_wp2_with fail
      refine reg23_17 wr w.heap.size op d a b n HI.out.gi ⟨#[68, 65, 66]⟩ 0 68 d s ⟨#[32]⟩ td (by omega) (by decide) sd dd hix (fun V _ => hRD V) _ (fun _ _ _ q _ h => by cases q <;> exact h) ?_
      intro V kV
      have HN := HI.out.call kV
      go_wp2
      exact ⟨⟨1, A1, ⟨#[44, 32]⟩, by first | rfl | rw [e0], rfl, by go_num, HN, .inr (.inl ⟨rfl, rfl, rfl⟩)⟩, by simp [intOf]⟩
    · have hix : ∀ w : World, (Instr.index 9 (.string ⟨#[68, 65, 66]⟩) (.int .i64 1)).run Tryd.prog w = .ok (.int .u8 65) w := fun w => by kernel_rfl
      clear HR
      go_wp2_with fail
      refine reg23_17 wr w.heap.size op d a b n HI.out.gi ⟨#[68, 65, 66]⟩ 1 65 a A1 ⟨#[44, 32]⟩ ta (by omega) (by decide) sa da hix (fun V _ => hRA V) _ (fun _ _ _ q _ h => by cases q <;> exact h) ?_
      intro V kV
      have HN := HI.out.call kV
      go_wp2
      exact ⟨⟨2, A2, ⟨#[44, 32]⟩, by first | rfl | rw [e1], rfl, by go_num, HN, .inr (.inr (.inl ⟨rfl, rfl, rfl⟩))⟩, by simp [intOf]⟩
    · have hix : ∀ w : World, (Instr.index 9 (.string ⟨#[68, 65, 66]⟩) (.int .i64 2)).run Tryd.prog w = .ok (.int .u8 66) w := fun w => by kernel_rfl
      clear HR
      go_wp2_with fail
      refine reg23_17 wr w.heap.size op d a b n HI.out.gi ⟨#[68, 65, 66]⟩ 2 66 b A2 ⟨#[44, 32]⟩ tb (by omega) (by decide) sb db hix (fun V _ => hRB V) _ (fun _ _ _ q _ h => by cases q <;> exact h) ?_
      intro V kV
      have HN := HI.out.call kV
      go_wp2
      exact ⟨⟨3, A3, ⟨#[44, 32]⟩, by first | rfl | rw [e2], rfl, by go_num, HN, .inr (.inr (.inr (⟨rfl, rfl, rfl⟩)))⟩, by simp [intOf]⟩
    · have HZ := HI.out
      obtain ⟨b0, b1, b2, b3, _⟩ := cells4 HZ.gk
      clear HI HR
      go_wp2
      go_ret
      exact ⟨congrArg (fun s => Ending.returned (.string s)) HZe.out, HZ.kp⟩

set_option maxRecDepth 100000 in
set_option maxHeartbeats 8000000 in
theorem rtxt_2 (w : World) (op d a b n x : Int) (s : ByteArray) (im sh uu : Int) (N td ta tb A1 A2 Z : ByteArray) (hd : 0 ≤ d ∧ d < 256) (ha : 0 ≤ a ∧ a < 256) (hb : 0 ≤ b ∧ b < 256) (hn : -2147483648 ≤ n ∧ n ≤ 2147483647) (hsh : (sh == 109) = false) (him : (im == 45) = false) (hN : ∀ w, Calls Tryd.prog 39 #[.int .i64 n] w fun e w' => e = .returned (.string N) ∧ w' = w) (sN : N.size ≤ 30) (sS : s.size ≤ 5) (dd : ∀ w, Calls Tryd.prog 39 #[.int .i64 d] w fun e w' => e = .returned (.string td) ∧ w' = w) (sd : td.size ≤ 30) (da : ∀ w, Calls Tryd.prog 39 #[.int .i64 a] w fun e w' => e = .returned (.string ta) ∧ w' = w) (sa : ta.size ≤ 30) (db : ∀ w, Calls Tryd.prog 39 #[.int .i64 b] w fun e w' => e = .returned (.string tb) ∧ w' = w) (sb : tb.size ≤ 30) (e0 : s ++ ⟨#[32]⟩ ++ ⟨#[114]⟩ ++ td = A1) (w0 : A1.size ≤ 150) (e1 : A1 ++ ⟨#[44, 32]⟩ ++ ⟨#[114]⟩ ++ ta = A2) (w1 : A2.size ≤ 150) (eZ : A2 ++ ⟨#[44, 32]⟩ ++ N = Z)
    (hE : ∀ V, Calls Tryd.prog 21 #[iv op d a b n] V fun e w' => e = .returned (.tuple #[.int .u32 x, .int .i64 0]) ∧ Kp V w')
    (hO : ∀ V, Calls Tryd.prog 34 #[.int .i64 op] V fun e w' => e = .returned (.tuple #[.agg #[.string s, .int .i64 2, .int .u8 im, .int .u8 sh], .bool true]) ∧ Kp V w') :
    Calls Tryd.prog 23 #[iv op d a b n] w fun e w' => e = .returned (.string Z) ∧ Kp w w' := by
  have hRD := fun V => rregD V op d a b n hd
  have hRA := fun V => rregA V op d a b n ha
  have hRB := fun V => rregB V op d a b n hb
  have wn : wrap64 n = n := w64' _ (by omega) (by omega)
  have wd' : wrap64 d = d := w64' _ (by omega) (by omega)
  have wa' : wrap64 a = a := w64' _ (by omega) (by omega)
  have wb' : wrap64 b = b := w64' _ (by omega) (by omega)
  have him' : (im != 45) = true := by simpa using him
  clear hd ha hb hn
  have HZe : Hid _ := eZ
  clear eZ
  go_enter Tryd.func23, Tryd.ntmps23
  go_wp2_with fail
  go_at_call 21
  refine (hE _).mono ?_
  rintro e w1 ⟨rfl, k1⟩
  obtain ⟨c0, c1, c2, c3, c4⟩ := Kp.cells5 k1 (heap_alloc_new w _)
  clear hE
  go_wp2_with fail
  go_at_call 34
  refine (hO _).mono ?_
  rintro e w2 ⟨rfl, k2⟩
  have S0 : Se w (w2.alloc (.cells #[.string s, .int .i64 2, .int .u8 im, .int .u8 sh] 66)) w2.heap.size op d a b n #[.string s, .int .i64 2, .int .u8 im, .int .u8 sh] :=
    ⟨(Kp.trans (Kp.trans ((Chg.refl _ _).alloc _) k1) k2).alloc _, al_old _ (Kp.heap (Kp.trans k1 k2) (heap_alloc_new w _)), heap_alloc_new w2 _⟩
  clear c0 c1 c2 c3 c4 hO
  go_wp2_with fail
  go_at_call 35
  refine (fields_2 _).mono ?_
  rintro e wa ⟨rfl, hwa⟩
  rw [hwa]
  clear hwa wa
  obtain ⟨W, hW⟩ : ∃ W, W = w2.alloc (.cells #[.string s, .int .i64 2, .int .u8 im, .int .u8 sh] 66) := ⟨_, rfl⟩
  rw [← hW] at S0 ⊢
  generalize w2.heap.size = bk at *
  clear hW k1 k2
  obtain ⟨c0, c1, c2, c3, c4, _⟩ := cells5 S0.gi
  obtain ⟨b0, b1, b2, b3, _⟩ := cells4 S0.gk
  have HS : Hid _ := S0
  clear S0
  go_wp2_with fail
  go_at_call 39
  refine (hN _).mono ?_
  rintro e wa ⟨rfl, hwa⟩
  rw [hwa]
  clear hwa wa
  go_wp2
  go_loopw [11, 12, 13] (fun s11 s12 s13 wr => ∃ (j : Nat) (A M : ByteArray), s11 = .string A ∧ s12 = .string M ∧ s13 = .int .i64 j ∧ Hid (Se w wr bk op d a b n #[.string s, .int .i64 2, .int .u8 im, .int .u8 sh]) ∧ Hid ((0 = j ∧ s = A ∧ ⟨#[32]⟩ = M) ∨ (1 = j ∧ A1 = A ∧ ⟨#[44, 32]⟩ = M) ∨ (2 = j ∧ A2 = A ∧ ⟨#[44, 32]⟩ = M))) (fun _ _ s13 _ => 2 - (intOf s13).toNat)
  case atStart => exact ⟨0, s, ⟨#[32]⟩, rfl, rfl, rfl, HS, .inl ⟨rfl, rfl, rfl⟩⟩
  case round =>
    obtain ⟨j, A, M, rfl, rfl, rfl, HI, HR⟩ := hrel
    clear HS c0 c1 c2 c3 c4 b0 b1 b2 b3
    rcases HR.out with ⟨rfl, rfl, rfl⟩ | ⟨rfl, rfl, rfl⟩ | ⟨rfl, rfl, rfl⟩
    · have hix : ∀ w : World, (Instr.index 9 (.string ⟨#[68, 65]⟩) (.int .i64 0)).run Tryd.prog w = .ok (.int .u8 68) w := fun w => by kernel_rfl
      clear HR
      go_wp2_with fail
      refine reg23_17 wr w.heap.size op d a b n HI.out.gi ⟨#[68, 65]⟩ 0 68 d s ⟨#[32]⟩ td (by omega) (by decide) sd dd hix (fun V _ => hRD V) _ (fun _ _ _ q _ h => by cases q <;> exact h) ?_
      intro V kV
      have HN := HI.out.call kV
      go_wp2
      exact ⟨⟨1, A1, ⟨#[44, 32]⟩, by first | rfl | rw [e0], rfl, by go_num, HN, .inr (.inl ⟨rfl, rfl, rfl⟩)⟩, by simp [intOf]⟩
    · have hix : ∀ w : World, (Instr.index 9 (.string ⟨#[68, 65]⟩) (.int .i64 1)).run Tryd.prog w = .ok (.int .u8 65) w := fun w => by kernel_rfl
      clear HR
      go_wp2_with fail
      refine reg23_17 wr w.heap.size op d a b n HI.out.gi ⟨#[68, 65]⟩ 1 65 a A1 ⟨#[44, 32]⟩ ta (by omega) (by decide) sa da hix (fun V _ => hRA V) _ (fun _ _ _ q _ h => by cases q <;> exact h) ?_
      intro V kV
      have HN := HI.out.call kV
      go_wp2
      exact ⟨⟨2, A2, ⟨#[44, 32]⟩, by first | rfl | rw [e1], rfl, by go_num, HN, .inr (.inr (⟨rfl, rfl, rfl⟩))⟩, by simp [intOf]⟩
    · have HZ := HI.out
      obtain ⟨b0, b1, b2, b3, _⟩ := cells4 HZ.gk
      clear HI HR
      have v1 : ¬ 9223372036854775807 < A2.size + 2 := by omega
      have v2 : ¬ 9223372036854775807 < A2.size + 2 + N.size := by omega
      have v3 : ¬ 9223372036854775807 < (A2 ++ ⟨#[44, 32]⟩).size + N.size := by
        have : (A2 ++ ⟨#[44, 32]⟩).size = A2.size + 2 := by simp [ByteArray.size_append]; rfl
        omega
      go_wp2
      go_ret
      exact ⟨congrArg (fun s => Ending.returned (.string s)) HZe.out, HZ.kp⟩

set_option maxRecDepth 100000 in
set_option maxHeartbeats 8000000 in
theorem rtxt_3 (w : World) (op d a b n x : Int) (s : ByteArray) (im sh uu : Int) (N td ta tb A1 A2 Z : ByteArray) (hd : 0 ≤ d ∧ d < 256) (ha : 0 ≤ a ∧ a < 256) (hb : 0 ≤ b ∧ b < 256) (hn : -2147483648 ≤ n ∧ n ≤ 2147483647) (hsh : (sh == 109) = false) (him : (im == 45) = false) (hN : ∀ w, Calls Tryd.prog 39 #[.int .i64 n] w fun e w' => e = .returned (.string N) ∧ w' = w) (sN : N.size ≤ 30) (sS : s.size ≤ 5) (dd : ∀ w, Calls Tryd.prog 39 #[.int .i64 d] w fun e w' => e = .returned (.string td) ∧ w' = w) (sd : td.size ≤ 30) (da : ∀ w, Calls Tryd.prog 39 #[.int .i64 a] w fun e w' => e = .returned (.string ta) ∧ w' = w) (sa : ta.size ≤ 30) (db : ∀ w, Calls Tryd.prog 39 #[.int .i64 b] w fun e w' => e = .returned (.string tb) ∧ w' = w) (sb : tb.size ≤ 30) (e0 : s ++ ⟨#[32]⟩ ++ ⟨#[114]⟩ ++ ta = A1) (w0 : A1.size ≤ 150) (e1 : A1 ++ ⟨#[44, 32]⟩ ++ ⟨#[114]⟩ ++ tb = A2) (w1 : A2.size ≤ 150) (eZ : A2 ++ ⟨#[44, 32]⟩ ++ N = Z)
    (hE : ∀ V, Calls Tryd.prog 21 #[iv op d a b n] V fun e w' => e = .returned (.tuple #[.int .u32 x, .int .i64 0]) ∧ Kp V w')
    (hO : ∀ V, Calls Tryd.prog 34 #[.int .i64 op] V fun e w' => e = .returned (.tuple #[.agg #[.string s, .int .i64 3, .int .u8 im, .int .u8 sh], .bool true]) ∧ Kp V w') :
    Calls Tryd.prog 23 #[iv op d a b n] w fun e w' => e = .returned (.string Z) ∧ Kp w w' := by
  have hRD := fun V => rregD V op d a b n hd
  have hRA := fun V => rregA V op d a b n ha
  have hRB := fun V => rregB V op d a b n hb
  have wn : wrap64 n = n := w64' _ (by omega) (by omega)
  have wd' : wrap64 d = d := w64' _ (by omega) (by omega)
  have wa' : wrap64 a = a := w64' _ (by omega) (by omega)
  have wb' : wrap64 b = b := w64' _ (by omega) (by omega)
  have him' : (im != 45) = true := by simpa using him
  clear hd ha hb hn
  have HZe : Hid _ := eZ
  clear eZ
  go_enter Tryd.func23, Tryd.ntmps23
  go_wp2_with fail
  go_at_call 21
  refine (hE _).mono ?_
  rintro e w1 ⟨rfl, k1⟩
  obtain ⟨c0, c1, c2, c3, c4⟩ := Kp.cells5 k1 (heap_alloc_new w _)
  clear hE
  go_wp2_with fail
  go_at_call 34
  refine (hO _).mono ?_
  rintro e w2 ⟨rfl, k2⟩
  have S0 : Se w (w2.alloc (.cells #[.string s, .int .i64 3, .int .u8 im, .int .u8 sh] 66)) w2.heap.size op d a b n #[.string s, .int .i64 3, .int .u8 im, .int .u8 sh] :=
    ⟨(Kp.trans (Kp.trans ((Chg.refl _ _).alloc _) k1) k2).alloc _, al_old _ (Kp.heap (Kp.trans k1 k2) (heap_alloc_new w _)), heap_alloc_new w2 _⟩
  clear c0 c1 c2 c3 c4 hO
  go_wp2_with fail
  go_at_call 35
  refine (fields_3 _).mono ?_
  rintro e wa ⟨rfl, hwa⟩
  rw [hwa]
  clear hwa wa
  obtain ⟨W, hW⟩ : ∃ W, W = w2.alloc (.cells #[.string s, .int .i64 3, .int .u8 im, .int .u8 sh] 66) := ⟨_, rfl⟩
  rw [← hW] at S0 ⊢
  generalize w2.heap.size = bk at *
  clear hW k1 k2
  obtain ⟨c0, c1, c2, c3, c4, _⟩ := cells5 S0.gi
  obtain ⟨b0, b1, b2, b3, _⟩ := cells4 S0.gk
  have HS : Hid _ := S0
  clear S0
  go_wp2_with fail
  go_at_call 39
  refine (hN _).mono ?_
  rintro e wa ⟨rfl, hwa⟩
  rw [hwa]
  clear hwa wa
  go_wp2
  go_loopw [11, 12, 13] (fun s11 s12 s13 wr => ∃ (j : Nat) (A M : ByteArray), s11 = .string A ∧ s12 = .string M ∧ s13 = .int .i64 j ∧ Hid (Se w wr bk op d a b n #[.string s, .int .i64 3, .int .u8 im, .int .u8 sh]) ∧ Hid ((0 = j ∧ s = A ∧ ⟨#[32]⟩ = M) ∨ (1 = j ∧ A1 = A ∧ ⟨#[44, 32]⟩ = M) ∨ (2 = j ∧ A2 = A ∧ ⟨#[44, 32]⟩ = M))) (fun _ _ s13 _ => 2 - (intOf s13).toNat)
  case atStart => exact ⟨0, s, ⟨#[32]⟩, rfl, rfl, rfl, HS, .inl ⟨rfl, rfl, rfl⟩⟩
  case round =>
    obtain ⟨j, A, M, rfl, rfl, rfl, HI, HR⟩ := hrel
    clear HS c0 c1 c2 c3 c4 b0 b1 b2 b3
    rcases HR.out with ⟨rfl, rfl, rfl⟩ | ⟨rfl, rfl, rfl⟩ | ⟨rfl, rfl, rfl⟩
    · have hix : ∀ w : World, (Instr.index 9 (.string ⟨#[65, 66]⟩) (.int .i64 0)).run Tryd.prog w = .ok (.int .u8 65) w := fun w => by kernel_rfl
      clear HR
      go_wp2_with fail
      refine reg23_17 wr w.heap.size op d a b n HI.out.gi ⟨#[65, 66]⟩ 0 65 a s ⟨#[32]⟩ ta (by omega) (by decide) sa da hix (fun V _ => hRA V) _ (fun _ _ _ q _ h => by cases q <;> exact h) ?_
      intro V kV
      have HN := HI.out.call kV
      go_wp2
      exact ⟨⟨1, A1, ⟨#[44, 32]⟩, by first | rfl | rw [e0], rfl, by go_num, HN, .inr (.inl ⟨rfl, rfl, rfl⟩)⟩, by simp [intOf]⟩
    · have hix : ∀ w : World, (Instr.index 9 (.string ⟨#[65, 66]⟩) (.int .i64 1)).run Tryd.prog w = .ok (.int .u8 66) w := fun w => by kernel_rfl
      clear HR
      go_wp2_with fail
      refine reg23_17 wr w.heap.size op d a b n HI.out.gi ⟨#[65, 66]⟩ 1 66 b A1 ⟨#[44, 32]⟩ tb (by omega) (by decide) sb db hix (fun V _ => hRB V) _ (fun _ _ _ q _ h => by cases q <;> exact h) ?_
      intro V kV
      have HN := HI.out.call kV
      go_wp2
      exact ⟨⟨2, A2, ⟨#[44, 32]⟩, by first | rfl | rw [e1], rfl, by go_num, HN, .inr (.inr (⟨rfl, rfl, rfl⟩))⟩, by simp [intOf]⟩
    · have HZ := HI.out
      obtain ⟨b0, b1, b2, b3, _⟩ := cells4 HZ.gk
      clear HI HR
      have v1 : ¬ 9223372036854775807 < A2.size + 2 := by omega
      have v2 : ¬ 9223372036854775807 < A2.size + 2 + N.size := by omega
      have v3 : ¬ 9223372036854775807 < (A2 ++ ⟨#[44, 32]⟩).size + N.size := by
        have : (A2 ++ ⟨#[44, 32]⟩).size = A2.size + 2 := by simp [ByteArray.size_append]; rfl
        omega
      go_wp2
      go_ret
      exact ⟨congrArg (fun s => Ending.returned (.string s)) HZe.out, HZ.kp⟩

set_option maxRecDepth 100000 in
set_option maxHeartbeats 8000000 in
theorem rtxt_4 (w : World) (op d a b n x : Int) (s : ByteArray) (im sh uu : Int) (N td ta tb A1 Z : ByteArray) (hd : 0 ≤ d ∧ d < 256) (ha : 0 ≤ a ∧ a < 256) (hb : 0 ≤ b ∧ b < 256) (hn : -2147483648 ≤ n ∧ n ≤ 2147483647) (hsh : (sh == 109) = false) (him : (im == 45) = false) (hN : ∀ w, Calls Tryd.prog 39 #[.int .i64 n] w fun e w' => e = .returned (.string N) ∧ w' = w) (sN : N.size ≤ 30) (sS : s.size ≤ 5) (dd : ∀ w, Calls Tryd.prog 39 #[.int .i64 d] w fun e w' => e = .returned (.string td) ∧ w' = w) (sd : td.size ≤ 30) (da : ∀ w, Calls Tryd.prog 39 #[.int .i64 a] w fun e w' => e = .returned (.string ta) ∧ w' = w) (sa : ta.size ≤ 30) (db : ∀ w, Calls Tryd.prog 39 #[.int .i64 b] w fun e w' => e = .returned (.string tb) ∧ w' = w) (sb : tb.size ≤ 30) (e0 : s ++ ⟨#[32]⟩ ++ ⟨#[114]⟩ ++ td = A1) (w0 : A1.size ≤ 150) (eZ : A1 ++ ⟨#[44, 32]⟩ ++ N = Z)
    (hE : ∀ V, Calls Tryd.prog 21 #[iv op d a b n] V fun e w' => e = .returned (.tuple #[.int .u32 x, .int .i64 0]) ∧ Kp V w')
    (hO : ∀ V, Calls Tryd.prog 34 #[.int .i64 op] V fun e w' => e = .returned (.tuple #[.agg #[.string s, .int .i64 4, .int .u8 im, .int .u8 sh], .bool true]) ∧ Kp V w') :
    Calls Tryd.prog 23 #[iv op d a b n] w fun e w' => e = .returned (.string Z) ∧ Kp w w' := by
  have hRD := fun V => rregD V op d a b n hd
  have hRA := fun V => rregA V op d a b n ha
  have hRB := fun V => rregB V op d a b n hb
  have wn : wrap64 n = n := w64' _ (by omega) (by omega)
  have wd' : wrap64 d = d := w64' _ (by omega) (by omega)
  have wa' : wrap64 a = a := w64' _ (by omega) (by omega)
  have wb' : wrap64 b = b := w64' _ (by omega) (by omega)
  have him' : (im != 45) = true := by simpa using him
  clear hd ha hb hn
  have HZe : Hid _ := eZ
  clear eZ
  go_enter Tryd.func23, Tryd.ntmps23
  go_wp2_with fail
  go_at_call 21
  refine (hE _).mono ?_
  rintro e w1 ⟨rfl, k1⟩
  obtain ⟨c0, c1, c2, c3, c4⟩ := Kp.cells5 k1 (heap_alloc_new w _)
  clear hE
  go_wp2_with fail
  go_at_call 34
  refine (hO _).mono ?_
  rintro e w2 ⟨rfl, k2⟩
  have S0 : Se w (w2.alloc (.cells #[.string s, .int .i64 4, .int .u8 im, .int .u8 sh] 66)) w2.heap.size op d a b n #[.string s, .int .i64 4, .int .u8 im, .int .u8 sh] :=
    ⟨(Kp.trans (Kp.trans ((Chg.refl _ _).alloc _) k1) k2).alloc _, al_old _ (Kp.heap (Kp.trans k1 k2) (heap_alloc_new w _)), heap_alloc_new w2 _⟩
  clear c0 c1 c2 c3 c4 hO
  go_wp2_with fail
  go_at_call 35
  refine (fields_4 _).mono ?_
  rintro e wa ⟨rfl, hwa⟩
  rw [hwa]
  clear hwa wa
  obtain ⟨W, hW⟩ : ∃ W, W = w2.alloc (.cells #[.string s, .int .i64 4, .int .u8 im, .int .u8 sh] 66) := ⟨_, rfl⟩
  rw [← hW] at S0 ⊢
  generalize w2.heap.size = bk at *
  clear hW k1 k2
  obtain ⟨c0, c1, c2, c3, c4, _⟩ := cells5 S0.gi
  obtain ⟨b0, b1, b2, b3, _⟩ := cells4 S0.gk
  have HS : Hid _ := S0
  clear S0
  go_wp2_with fail
  go_at_call 39
  refine (hN _).mono ?_
  rintro e wa ⟨rfl, hwa⟩
  rw [hwa]
  clear hwa wa
  go_wp2
  go_loopw [11, 12, 13] (fun s11 s12 s13 wr => ∃ (j : Nat) (A M : ByteArray), s11 = .string A ∧ s12 = .string M ∧ s13 = .int .i64 j ∧ Hid (Se w wr bk op d a b n #[.string s, .int .i64 4, .int .u8 im, .int .u8 sh]) ∧ Hid ((0 = j ∧ s = A ∧ ⟨#[32]⟩ = M) ∨ (1 = j ∧ A1 = A ∧ ⟨#[44, 32]⟩ = M))) (fun _ _ s13 _ => 1 - (intOf s13).toNat)
  case atStart => exact ⟨0, s, ⟨#[32]⟩, rfl, rfl, rfl, HS, .inl ⟨rfl, rfl, rfl⟩⟩
  case round =>
    obtain ⟨j, A, M, rfl, rfl, rfl, HI, HR⟩ := hrel
    clear HS c0 c1 c2 c3 c4 b0 b1 b2 b3
    rcases HR.out with ⟨rfl, rfl, rfl⟩ | ⟨rfl, rfl, rfl⟩
    · have hix : ∀ w : World, (Instr.index 9 (.string ⟨#[68]⟩) (.int .i64 0)).run Tryd.prog w = .ok (.int .u8 68) w := fun w => by kernel_rfl
      clear HR
      go_wp2_with fail
      refine reg23_17 wr w.heap.size op d a b n HI.out.gi ⟨#[68]⟩ 0 68 d s ⟨#[32]⟩ td (by omega) (by decide) sd dd hix (fun V _ => hRD V) _ (fun _ _ _ q _ h => by cases q <;> exact h) ?_
      intro V kV
      have HN := HI.out.call kV
      go_wp2
      exact ⟨⟨1, A1, ⟨#[44, 32]⟩, by first | rfl | rw [e0], rfl, by go_num, HN, .inr (⟨rfl, rfl, rfl⟩)⟩, by simp [intOf]⟩
    · have HZ := HI.out
      obtain ⟨b0, b1, b2, b3, _⟩ := cells4 HZ.gk
      clear HI HR
      have v1 : ¬ 9223372036854775807 < A1.size + 2 := by omega
      have v2 : ¬ 9223372036854775807 < A1.size + 2 + N.size := by omega
      have v3 : ¬ 9223372036854775807 < (A1 ++ ⟨#[44, 32]⟩).size + N.size := by
        have : (A1 ++ ⟨#[44, 32]⟩).size = A1.size + 2 := by simp [ByteArray.size_append]; rfl
        omega
      go_wp2
      go_ret
      exact ⟨congrArg (fun s => Ending.returned (.string s)) HZe.out, HZ.kp⟩

set_option maxRecDepth 100000 in
set_option maxHeartbeats 8000000 in
theorem rtxt_5 (w : World) (op d a b n x : Int) (s : ByteArray) (sh uu : Int) (N td ta tb A1 Z : ByteArray) (hd : 0 ≤ d ∧ d < 256) (ha : 0 ≤ a ∧ a < 256) (hb : 0 ≤ b ∧ b < 256) (hn : -2147483648 ≤ n ∧ n ≤ 2147483647) (hsh : (sh == 109) = false) (hN : ∀ w, Calls Tryd.prog 39 #[.int .i64 n] w fun e w' => e = .returned (.string N) ∧ w' = w) (sN : N.size ≤ 30) (sS : s.size ≤ 5) (dd : ∀ w, Calls Tryd.prog 39 #[.int .i64 d] w fun e w' => e = .returned (.string td) ∧ w' = w) (sd : td.size ≤ 30) (da : ∀ w, Calls Tryd.prog 39 #[.int .i64 a] w fun e w' => e = .returned (.string ta) ∧ w' = w) (sa : ta.size ≤ 30) (db : ∀ w, Calls Tryd.prog 39 #[.int .i64 b] w fun e w' => e = .returned (.string tb) ∧ w' = w) (sb : tb.size ≤ 30) (e0 : s ++ ⟨#[32]⟩ ++ ⟨#[114]⟩ ++ td = A1) (w0 : A1.size ≤ 150) (eZ : A1 = Z)
    (hE : ∀ V, Calls Tryd.prog 21 #[iv op d a b n] V fun e w' => e = .returned (.tuple #[.int .u32 x, .int .i64 0]) ∧ Kp V w')
    (hO : ∀ V, Calls Tryd.prog 34 #[.int .i64 op] V fun e w' => e = .returned (.tuple #[.agg #[.string s, .int .i64 5, .int .u8 45, .int .u8 sh], .bool true]) ∧ Kp V w') :
    Calls Tryd.prog 23 #[iv op d a b n] w fun e w' => e = .returned (.string Z) ∧ Kp w w' := by
  have hRD := fun V => rregD V op d a b n hd
  have hRA := fun V => rregA V op d a b n ha
  have hRB := fun V => rregB V op d a b n hb
  have wn : wrap64 n = n := w64' _ (by omega) (by omega)
  have wd' : wrap64 d = d := w64' _ (by omega) (by omega)
  have wa' : wrap64 a = a := w64' _ (by omega) (by omega)
  have wb' : wrap64 b = b := w64' _ (by omega) (by omega)
  clear hd ha hb hn
  have HZe : Hid _ := eZ
  clear eZ
  go_enter Tryd.func23, Tryd.ntmps23
  go_wp2_with fail
  go_at_call 21
  refine (hE _).mono ?_
  rintro e w1 ⟨rfl, k1⟩
  obtain ⟨c0, c1, c2, c3, c4⟩ := Kp.cells5 k1 (heap_alloc_new w _)
  clear hE
  go_wp2_with fail
  go_at_call 34
  refine (hO _).mono ?_
  rintro e w2 ⟨rfl, k2⟩
  have S0 : Se w (w2.alloc (.cells #[.string s, .int .i64 5, .int .u8 45, .int .u8 sh] 66)) w2.heap.size op d a b n #[.string s, .int .i64 5, .int .u8 45, .int .u8 sh] :=
    ⟨(Kp.trans (Kp.trans ((Chg.refl _ _).alloc _) k1) k2).alloc _, al_old _ (Kp.heap (Kp.trans k1 k2) (heap_alloc_new w _)), heap_alloc_new w2 _⟩
  clear c0 c1 c2 c3 c4 hO
  go_wp2_with fail
  go_at_call 35
  refine (fields_5 _).mono ?_
  rintro e wa ⟨rfl, hwa⟩
  rw [hwa]
  clear hwa wa
  obtain ⟨W, hW⟩ : ∃ W, W = w2.alloc (.cells #[.string s, .int .i64 5, .int .u8 45, .int .u8 sh] 66) := ⟨_, rfl⟩
  rw [← hW] at S0 ⊢
  generalize w2.heap.size = bk at *
  clear hW k1 k2
  obtain ⟨c0, c1, c2, c3, c4, _⟩ := cells5 S0.gi
  obtain ⟨b0, b1, b2, b3, _⟩ := cells4 S0.gk
  have HS : Hid _ := S0
  clear S0
  go_wp2_with fail
  go_at_call 39
  refine (hN _).mono ?_
  rintro e wa ⟨rfl, hwa⟩
  rw [hwa]
  clear hwa wa
  go_wp2
  go_loopw [11, 12, 13] (fun s11 s12 s13 wr => ∃ (j : Nat) (A M : ByteArray), s11 = .string A ∧ s12 = .string M ∧ s13 = .int .i64 j ∧ Hid (Se w wr bk op d a b n #[.string s, .int .i64 5, .int .u8 45, .int .u8 sh]) ∧ Hid ((0 = j ∧ s = A ∧ ⟨#[32]⟩ = M) ∨ (1 = j ∧ A1 = A ∧ ⟨#[44, 32]⟩ = M))) (fun _ _ s13 _ => 1 - (intOf s13).toNat)
  case atStart => exact ⟨0, s, ⟨#[32]⟩, rfl, rfl, rfl, HS, .inl ⟨rfl, rfl, rfl⟩⟩
  case round =>
    obtain ⟨j, A, M, rfl, rfl, rfl, HI, HR⟩ := hrel
    clear HS c0 c1 c2 c3 c4 b0 b1 b2 b3
    rcases HR.out with ⟨rfl, rfl, rfl⟩ | ⟨rfl, rfl, rfl⟩
    · have hix : ∀ w : World, (Instr.index 9 (.string ⟨#[68]⟩) (.int .i64 0)).run Tryd.prog w = .ok (.int .u8 68) w := fun w => by kernel_rfl
      clear HR
      go_wp2_with fail
      refine reg23_17 wr w.heap.size op d a b n HI.out.gi ⟨#[68]⟩ 0 68 d s ⟨#[32]⟩ td (by omega) (by decide) sd dd hix (fun V _ => hRD V) _ (fun _ _ _ q _ h => by cases q <;> exact h) ?_
      intro V kV
      have HN := HI.out.call kV
      go_wp2
      exact ⟨⟨1, A1, ⟨#[44, 32]⟩, by first | rfl | rw [e0], rfl, by go_num, HN, .inr (⟨rfl, rfl, rfl⟩)⟩, by simp [intOf]⟩
    · have HZ := HI.out
      obtain ⟨b0, b1, b2, b3, _⟩ := cells4 HZ.gk
      clear HI HR
      go_wp2
      go_ret
      exact ⟨congrArg (fun s => Ending.returned (.string s)) HZe.out, HZ.kp⟩

set_option maxRecDepth 100000 in
set_option maxHeartbeats 8000000 in
theorem rtxt_6 (w : World) (op d a b n x : Int) (s : ByteArray) (sh uu : Int) (N td ta tb A1 Z : ByteArray) (hd : 0 ≤ d ∧ d < 256) (ha : 0 ≤ a ∧ a < 256) (hb : 0 ≤ b ∧ b < 256) (hn : -2147483648 ≤ n ∧ n ≤ 2147483647) (hsh : (sh == 109) = false) (hN : ∀ w, Calls Tryd.prog 39 #[.int .i64 n] w fun e w' => e = .returned (.string N) ∧ w' = w) (sN : N.size ≤ 30) (sS : s.size ≤ 5) (dd : ∀ w, Calls Tryd.prog 39 #[.int .i64 d] w fun e w' => e = .returned (.string td) ∧ w' = w) (sd : td.size ≤ 30) (da : ∀ w, Calls Tryd.prog 39 #[.int .i64 a] w fun e w' => e = .returned (.string ta) ∧ w' = w) (sa : ta.size ≤ 30) (db : ∀ w, Calls Tryd.prog 39 #[.int .i64 b] w fun e w' => e = .returned (.string tb) ∧ w' = w) (sb : tb.size ≤ 30) (e0 : s ++ ⟨#[32]⟩ ++ ⟨#[114]⟩ ++ ta = A1) (w0 : A1.size ≤ 150) (eZ : A1 = Z)
    (hE : ∀ V, Calls Tryd.prog 21 #[iv op d a b n] V fun e w' => e = .returned (.tuple #[.int .u32 x, .int .i64 0]) ∧ Kp V w')
    (hO : ∀ V, Calls Tryd.prog 34 #[.int .i64 op] V fun e w' => e = .returned (.tuple #[.agg #[.string s, .int .i64 6, .int .u8 45, .int .u8 sh], .bool true]) ∧ Kp V w') :
    Calls Tryd.prog 23 #[iv op d a b n] w fun e w' => e = .returned (.string Z) ∧ Kp w w' := by
  have hRD := fun V => rregD V op d a b n hd
  have hRA := fun V => rregA V op d a b n ha
  have hRB := fun V => rregB V op d a b n hb
  have wn : wrap64 n = n := w64' _ (by omega) (by omega)
  have wd' : wrap64 d = d := w64' _ (by omega) (by omega)
  have wa' : wrap64 a = a := w64' _ (by omega) (by omega)
  have wb' : wrap64 b = b := w64' _ (by omega) (by omega)
  clear hd ha hb hn
  have HZe : Hid _ := eZ
  clear eZ
  go_enter Tryd.func23, Tryd.ntmps23
  go_wp2_with fail
  go_at_call 21
  refine (hE _).mono ?_
  rintro e w1 ⟨rfl, k1⟩
  obtain ⟨c0, c1, c2, c3, c4⟩ := Kp.cells5 k1 (heap_alloc_new w _)
  clear hE
  go_wp2_with fail
  go_at_call 34
  refine (hO _).mono ?_
  rintro e w2 ⟨rfl, k2⟩
  have S0 : Se w (w2.alloc (.cells #[.string s, .int .i64 6, .int .u8 45, .int .u8 sh] 66)) w2.heap.size op d a b n #[.string s, .int .i64 6, .int .u8 45, .int .u8 sh] :=
    ⟨(Kp.trans (Kp.trans ((Chg.refl _ _).alloc _) k1) k2).alloc _, al_old _ (Kp.heap (Kp.trans k1 k2) (heap_alloc_new w _)), heap_alloc_new w2 _⟩
  clear c0 c1 c2 c3 c4 hO
  go_wp2_with fail
  go_at_call 35
  refine (fields_6 _).mono ?_
  rintro e wa ⟨rfl, hwa⟩
  rw [hwa]
  clear hwa wa
  obtain ⟨W, hW⟩ : ∃ W, W = w2.alloc (.cells #[.string s, .int .i64 6, .int .u8 45, .int .u8 sh] 66) := ⟨_, rfl⟩
  rw [← hW] at S0 ⊢
  generalize w2.heap.size = bk at *
  clear hW k1 k2
  obtain ⟨c0, c1, c2, c3, c4, _⟩ := cells5 S0.gi
  obtain ⟨b0, b1, b2, b3, _⟩ := cells4 S0.gk
  have HS : Hid _ := S0
  clear S0
  go_wp2_with fail
  go_at_call 39
  refine (hN _).mono ?_
  rintro e wa ⟨rfl, hwa⟩
  rw [hwa]
  clear hwa wa
  go_wp2
  go_loopw [11, 12, 13] (fun s11 s12 s13 wr => ∃ (j : Nat) (A M : ByteArray), s11 = .string A ∧ s12 = .string M ∧ s13 = .int .i64 j ∧ Hid (Se w wr bk op d a b n #[.string s, .int .i64 6, .int .u8 45, .int .u8 sh]) ∧ Hid ((0 = j ∧ s = A ∧ ⟨#[32]⟩ = M) ∨ (1 = j ∧ A1 = A ∧ ⟨#[44, 32]⟩ = M))) (fun _ _ s13 _ => 1 - (intOf s13).toNat)
  case atStart => exact ⟨0, s, ⟨#[32]⟩, rfl, rfl, rfl, HS, .inl ⟨rfl, rfl, rfl⟩⟩
  case round =>
    obtain ⟨j, A, M, rfl, rfl, rfl, HI, HR⟩ := hrel
    clear HS c0 c1 c2 c3 c4 b0 b1 b2 b3
    rcases HR.out with ⟨rfl, rfl, rfl⟩ | ⟨rfl, rfl, rfl⟩
    · have hix : ∀ w : World, (Instr.index 9 (.string ⟨#[65]⟩) (.int .i64 0)).run Tryd.prog w = .ok (.int .u8 65) w := fun w => by kernel_rfl
      clear HR
      go_wp2_with fail
      refine reg23_17 wr w.heap.size op d a b n HI.out.gi ⟨#[65]⟩ 0 65 a s ⟨#[32]⟩ ta (by omega) (by decide) sa da hix (fun V _ => hRA V) _ (fun _ _ _ q _ h => by cases q <;> exact h) ?_
      intro V kV
      have HN := HI.out.call kV
      go_wp2
      exact ⟨⟨1, A1, ⟨#[44, 32]⟩, by first | rfl | rw [e0], rfl, by go_num, HN, .inr (⟨rfl, rfl, rfl⟩)⟩, by simp [intOf]⟩
    · have HZ := HI.out
      obtain ⟨b0, b1, b2, b3, _⟩ := cells4 HZ.gk
      clear HI HR
      go_wp2
      go_ret
      exact ⟨congrArg (fun s => Ending.returned (.string s)) HZe.out, HZ.kp⟩

set_option maxRecDepth 100000 in
set_option maxHeartbeats 8000000 in
theorem rtxt_7 (w : World) (op d a b n x : Int) (s : ByteArray) (im sh uu : Int) (N td ta tb Z : ByteArray) (hd : 0 ≤ d ∧ d < 256) (ha : 0 ≤ a ∧ a < 256) (hb : 0 ≤ b ∧ b < 256) (hn : -2147483648 ≤ n ∧ n ≤ 2147483647) (hsh : (sh == 109) = false) (him : (im == 45) = false) (hN : ∀ w, Calls Tryd.prog 39 #[.int .i64 n] w fun e w' => e = .returned (.string N) ∧ w' = w) (sN : N.size ≤ 30) (sS : s.size ≤ 5) (dd : ∀ w, Calls Tryd.prog 39 #[.int .i64 d] w fun e w' => e = .returned (.string td) ∧ w' = w) (sd : td.size ≤ 30) (da : ∀ w, Calls Tryd.prog 39 #[.int .i64 a] w fun e w' => e = .returned (.string ta) ∧ w' = w) (sa : ta.size ≤ 30) (db : ∀ w, Calls Tryd.prog 39 #[.int .i64 b] w fun e w' => e = .returned (.string tb) ∧ w' = w) (sb : tb.size ≤ 30) (eZ : s ++ ⟨#[32]⟩ ++ N = Z)
    (hE : ∀ V, Calls Tryd.prog 21 #[iv op d a b n] V fun e w' => e = .returned (.tuple #[.int .u32 x, .int .i64 0]) ∧ Kp V w')
    (hO : ∀ V, Calls Tryd.prog 34 #[.int .i64 op] V fun e w' => e = .returned (.tuple #[.agg #[.string s, .int .i64 7, .int .u8 im, .int .u8 sh], .bool true]) ∧ Kp V w') :
    Calls Tryd.prog 23 #[iv op d a b n] w fun e w' => e = .returned (.string Z) ∧ Kp w w' := by
  have hRD := fun V => rregD V op d a b n hd
  have hRA := fun V => rregA V op d a b n ha
  have hRB := fun V => rregB V op d a b n hb
  have wn : wrap64 n = n := w64' _ (by omega) (by omega)
  have wd' : wrap64 d = d := w64' _ (by omega) (by omega)
  have wa' : wrap64 a = a := w64' _ (by omega) (by omega)
  have wb' : wrap64 b = b := w64' _ (by omega) (by omega)
  have him' : (im != 45) = true := by simpa using him
  clear hd ha hb hn
  have HZe : Hid _ := eZ
  clear eZ
  go_enter Tryd.func23, Tryd.ntmps23
  go_wp2_with fail
  go_at_call 21
  refine (hE _).mono ?_
  rintro e w1 ⟨rfl, k1⟩
  obtain ⟨c0, c1, c2, c3, c4⟩ := Kp.cells5 k1 (heap_alloc_new w _)
  clear hE
  go_wp2_with fail
  go_at_call 34
  refine (hO _).mono ?_
  rintro e w2 ⟨rfl, k2⟩
  have S0 : Se w (w2.alloc (.cells #[.string s, .int .i64 7, .int .u8 im, .int .u8 sh] 66)) w2.heap.size op d a b n #[.string s, .int .i64 7, .int .u8 im, .int .u8 sh] :=
    ⟨(Kp.trans (Kp.trans ((Chg.refl _ _).alloc _) k1) k2).alloc _, al_old _ (Kp.heap (Kp.trans k1 k2) (heap_alloc_new w _)), heap_alloc_new w2 _⟩
  clear c0 c1 c2 c3 c4 hO
  go_wp2_with fail
  go_at_call 35
  refine (fields_7 _).mono ?_
  rintro e wa ⟨rfl, hwa⟩
  rw [hwa]
  clear hwa wa
  obtain ⟨W, hW⟩ : ∃ W, W = w2.alloc (.cells #[.string s, .int .i64 7, .int .u8 im, .int .u8 sh] 66) := ⟨_, rfl⟩
  rw [← hW] at S0 ⊢
  generalize w2.heap.size = bk at *
  clear hW k1 k2
  obtain ⟨c0, c1, c2, c3, c4, _⟩ := cells5 S0.gi
  obtain ⟨b0, b1, b2, b3, _⟩ := cells4 S0.gk
  have HS : Hid _ := S0
  clear S0
  go_wp2_with fail
  go_at_call 39
  refine (hN _).mono ?_
  rintro e wa ⟨rfl, hwa⟩
  rw [hwa]
  clear hwa wa
  go_wp2
  go_loopw [11, 12, 13] (fun s11 s12 s13 wr => ∃ (j : Nat) (A M : ByteArray), s11 = .string A ∧ s12 = .string M ∧ s13 = .int .i64 j ∧ Hid (Se w wr bk op d a b n #[.string s, .int .i64 7, .int .u8 im, .int .u8 sh]) ∧ Hid ((0 = j ∧ s = A ∧ ⟨#[32]⟩ = M))) (fun _ _ s13 _ => 0 - (intOf s13).toNat)
  case atStart => exact ⟨0, s, ⟨#[32]⟩, rfl, rfl, rfl, HS, ⟨rfl, rfl, rfl⟩⟩
  case round =>
    obtain ⟨j, A, M, rfl, rfl, rfl, HI, HR⟩ := hrel
    clear HS c0 c1 c2 c3 c4 b0 b1 b2 b3
    rcases HR.out with ⟨rfl, rfl, rfl⟩
    · have HZ := HI.out
      obtain ⟨b0, b1, b2, b3, _⟩ := cells4 HZ.gk
      clear HI HR
      have v1 : ¬ 9223372036854775807 < s.size + 1 := by omega
      have v2 : ¬ 9223372036854775807 < s.size + 1 + N.size := by omega
      have v3 : ¬ 9223372036854775807 < (s ++ ⟨#[32]⟩).size + N.size := by
        have : (s ++ ⟨#[32]⟩).size = s.size + 1 := by simp [ByteArray.size_append]; rfl
        omega
      go_wp2
      go_ret
      exact ⟨congrArg (fun s => Ending.returned (.string s)) HZe.out, HZ.kp⟩

set_option maxRecDepth 100000 in
set_option maxHeartbeats 8000000 in
theorem rtxt_8 (w : World) (op d a b n x : Int) (s : ByteArray) (sh uu : Int) (N td ta tb Z : ByteArray) (hd : 0 ≤ d ∧ d < 256) (ha : 0 ≤ a ∧ a < 256) (hb : 0 ≤ b ∧ b < 256) (hn : -2147483648 ≤ n ∧ n ≤ 2147483647) (hsh : (sh == 109) = false) (hN : ∀ w, Calls Tryd.prog 39 #[.int .i64 n] w fun e w' => e = .returned (.string N) ∧ w' = w) (sN : N.size ≤ 30) (sS : s.size ≤ 5) (dd : ∀ w, Calls Tryd.prog 39 #[.int .i64 d] w fun e w' => e = .returned (.string td) ∧ w' = w) (sd : td.size ≤ 30) (da : ∀ w, Calls Tryd.prog 39 #[.int .i64 a] w fun e w' => e = .returned (.string ta) ∧ w' = w) (sa : ta.size ≤ 30) (db : ∀ w, Calls Tryd.prog 39 #[.int .i64 b] w fun e w' => e = .returned (.string tb) ∧ w' = w) (sb : tb.size ≤ 30) (eZ : s = Z)
    (hE : ∀ V, Calls Tryd.prog 21 #[iv op d a b n] V fun e w' => e = .returned (.tuple #[.int .u32 x, .int .i64 0]) ∧ Kp V w')
    (hO : ∀ V, Calls Tryd.prog 34 #[.int .i64 op] V fun e w' => e = .returned (.tuple #[.agg #[.string s, .int .i64 8, .int .u8 45, .int .u8 sh], .bool true]) ∧ Kp V w') :
    Calls Tryd.prog 23 #[iv op d a b n] w fun e w' => e = .returned (.string Z) ∧ Kp w w' := by
  have hRD := fun V => rregD V op d a b n hd
  have hRA := fun V => rregA V op d a b n ha
  have hRB := fun V => rregB V op d a b n hb
  have wn : wrap64 n = n := w64' _ (by omega) (by omega)
  have wd' : wrap64 d = d := w64' _ (by omega) (by omega)
  have wa' : wrap64 a = a := w64' _ (by omega) (by omega)
  have wb' : wrap64 b = b := w64' _ (by omega) (by omega)
  clear hd ha hb hn
  have HZe : Hid _ := eZ
  clear eZ
  go_enter Tryd.func23, Tryd.ntmps23
  go_wp2_with fail
  go_at_call 21
  refine (hE _).mono ?_
  rintro e w1 ⟨rfl, k1⟩
  obtain ⟨c0, c1, c2, c3, c4⟩ := Kp.cells5 k1 (heap_alloc_new w _)
  clear hE
  go_wp2_with fail
  go_at_call 34
  refine (hO _).mono ?_
  rintro e w2 ⟨rfl, k2⟩
  have S0 : Se w (w2.alloc (.cells #[.string s, .int .i64 8, .int .u8 45, .int .u8 sh] 66)) w2.heap.size op d a b n #[.string s, .int .i64 8, .int .u8 45, .int .u8 sh] :=
    ⟨(Kp.trans (Kp.trans ((Chg.refl _ _).alloc _) k1) k2).alloc _, al_old _ (Kp.heap (Kp.trans k1 k2) (heap_alloc_new w _)), heap_alloc_new w2 _⟩
  clear c0 c1 c2 c3 c4 hO
  go_wp2_with fail
  go_at_call 35
  refine (fields_8 _).mono ?_
  rintro e wa ⟨rfl, hwa⟩
  rw [hwa]
  clear hwa wa
  obtain ⟨W, hW⟩ : ∃ W, W = w2.alloc (.cells #[.string s, .int .i64 8, .int .u8 45, .int .u8 sh] 66) := ⟨_, rfl⟩
  rw [← hW] at S0 ⊢
  generalize w2.heap.size = bk at *
  clear hW k1 k2
  obtain ⟨c0, c1, c2, c3, c4, _⟩ := cells5 S0.gi
  obtain ⟨b0, b1, b2, b3, _⟩ := cells4 S0.gk
  have HS : Hid _ := S0
  clear S0
  go_wp2_with fail
  go_at_call 39
  refine (hN _).mono ?_
  rintro e wa ⟨rfl, hwa⟩
  rw [hwa]
  clear hwa wa
  go_wp2
  go_loopw [11, 12, 13] (fun s11 s12 s13 wr => ∃ (j : Nat) (A M : ByteArray), s11 = .string A ∧ s12 = .string M ∧ s13 = .int .i64 j ∧ Hid (Se w wr bk op d a b n #[.string s, .int .i64 8, .int .u8 45, .int .u8 sh]) ∧ Hid ((0 = j ∧ s = A ∧ ⟨#[32]⟩ = M))) (fun _ _ s13 _ => 0 - (intOf s13).toNat)
  case atStart => exact ⟨0, s, ⟨#[32]⟩, rfl, rfl, rfl, HS, ⟨rfl, rfl, rfl⟩⟩
  case round =>
    obtain ⟨j, A, M, rfl, rfl, rfl, HI, HR⟩ := hrel
    clear HS c0 c1 c2 c3 c4 b0 b1 b2 b3
    rcases HR.out with ⟨rfl, rfl, rfl⟩
    · have HZ := HI.out
      obtain ⟨b0, b1, b2, b3, _⟩ := cells4 HZ.gk
      clear HI HR
      go_wp2
      go_ret
      exact ⟨congrArg (fun s => Ending.returned (.string s)) HZe.out, HZ.kp⟩
end Go.Proofs.YtodgobapgmhgdaaDoor
