import Derived.Test.YtodgobapgmhgdaaDoorSe
import Derived.Test.YtodgobapgmhgdaaDoorSm
namespace Go.Proofs.YtodgobapgmhgdaaDoor
open Go.ChangeShapes Go.WideShapes Go.ChangeAt Go.RowKit
set_option linter.unusedVariables false

set_option maxRecDepth 100000 in
set_option maxHeartbeats 8000000 in
theorem ruse_1 (w : World) (op d a b n x : Int) (s : ByteArray) (im sh : Int) (z0 g0 p0 z1 g1 p1 z2 g2 p2 : Int) (hd : 0 ≤ d ∧ d < 256) (ha : 0 ≤ a ∧ a < 256) (hb : 0 ≤ b ∧ b < 256) (hs : ¬ s = ⟨#[104, 99, 97, 108, 108]⟩) (h0 : ∀ w, Calls Tryd.prog 33 #[.int .i64 d] w fun e w' => e = .returned (.int .i64 p0) ∧ w' = w) (k0 : p0 % 65536 = z0) (h1 : ∀ w, Calls Tryd.prog 33 #[.int .i64 a] w fun e w' => e = .returned (.int .i64 p1) ∧ w' = w) (k1 : p1 % 65536 = z1) (h2 : ∀ w, Calls Tryd.prog 33 #[.int .i64 b] w fun e w' => e = .returned (.int .i64 p2) ∧ w' = w) (k2 : p2 % 65536 = z2) (q0 : (z0 = 1 ∧ g0 = 0) ∨ ((z0 == 1) = false ∧ bits .or .u16 0 z0 = g0)) (q1 : (z1 = 1 ∧ g1 = 0) ∨ ((z1 == 1) = false ∧ bits .or .u16 0 z1 = g1)) (q2 : (z2 = 1 ∧ g2 = g1) ∨ ((z2 == 1) = false ∧ bits .or .u16 g1 z2 = g2))
    (hE : ∀ V, Calls Tryd.prog 21 #[iv op d a b n] V fun e w' => e = .returned (.tuple #[.int .u32 x, .int .i64 0]) ∧ Kp V w')
    (hO : ∀ V, Calls Tryd.prog 34 #[.int .i64 op] V fun e w' => e = .returned (.tuple #[.agg #[.string s, .int .i64 1, .int .u8 im, .int .u8 sh], .bool true]) ∧ Kp V w') :
    Calls Tryd.prog 22 #[iv op d a b n] w fun e w' => e = .returned (.tuple #[.int .u16 g2, .int .u16 g0]) ∧ Kp w w' := by
  have hRD := fun V => rregD V op d a b n hd
  have hRA := fun V => rregA V op d a b n ha
  have hRB := fun V => rregB V op d a b n hb
  have hsb := neqS hs
  have hsc : (s.toList == [104, 99, 97, 108, 108]) = false := by
    have e : (⟨#[104, 99, 97, 108, 108]⟩ : ByteArray).toList = [104, 99, 97, 108, 108] := by rw [ByteArray.toList_eq]
    rw [← e]; exact hsb
  clear hd ha hb
  go_enter Tryd.func22, Tryd.ntmps22
  go_wp2_with fail
  go_at_call 21
  refine (hE _).mono ?_
  rintro e w1 ⟨rfl, k1⟩
  obtain ⟨c0, c1, c2, c3, c4⟩ := Kp.cells5 k1 (heap_alloc_new w _)
  clear hE
  go_wp2_with fail
  go_at_call 34
  refine (hO _).mono ?_
  rintro e w2 ⟨rfl, k2⟩
  have S0 : Se w (w2.alloc (.cells #[.string s, .int .i64 1, .int .u8 im, .int .u8 sh] 66)) w2.heap.size op d a b n #[.string s, .int .i64 1, .int .u8 im, .int .u8 sh] :=
    ⟨(Kp.trans (Kp.trans ((Chg.refl _ _).alloc _) k1) k2).alloc _, al_old _ (Kp.heap (Kp.trans k1 k2) (heap_alloc_new w _)), heap_alloc_new w2 _⟩
  clear c0 c1 c2 c3 c4 hO
  go_wp2_with fail
  go_at_call 35
  refine (fields_1 _).mono ?_
  rintro e wa ⟨rfl, hwa⟩
  rw [hwa]
  clear hwa wa
  obtain ⟨W, hW⟩ : ∃ W, W = w2.alloc (.cells #[.string s, .int .i64 1, .int .u8 im, .int .u8 sh] 66) := ⟨_, rfl⟩
  rw [← hW] at S0 ⊢
  generalize w2.heap.size = bk at *
  clear hW k1 k2
  have HS : Hid _ := S0
  clear S0
  go_wp2
  go_loopw [10, 11, 12] (fun s10 s11 s12 wr => ∃ (j : Nat) (R T : Int), s10 = .int .u16 R ∧ s11 = .int .u16 T ∧ s12 = .int .i64 j ∧ Hid (Se w wr bk op d a b n #[.string s, .int .i64 1, .int .u8 im, .int .u8 sh]) ∧ Hid ((0 = j ∧ 0 = R ∧ 0 = T) ∨ (1 = j ∧ 0 = R ∧ g0 = T) ∨ (2 = j ∧ g1 = R ∧ g0 = T) ∨ (3 = j ∧ g2 = R ∧ g0 = T))) (fun _ _ s12 _ => 3 - (intOf s12).toNat)
  case atStart => exact ⟨0, 0, 0, rfl, rfl, rfl, HS, .inl ⟨rfl, rfl, rfl⟩⟩
  case round =>
    obtain ⟨j, R, T, rfl, rfl, rfl, HI, HR⟩ := hrel
    clear HS
    rcases HR.out with ⟨rfl, rfl, rfl⟩ | ⟨rfl, rfl, rfl⟩ | ⟨rfl, rfl, rfl⟩ | ⟨rfl, rfl, rfl⟩
    · have hix : ∀ w : World, (Instr.index 9 (.string ⟨#[68, 65, 66]⟩) (.int .i64 0)).run Tryd.prog w = .ok (.int .u8 68) w := fun w => by kernel_rfl
      have eb : ∀ hb, ((((⟨#[68, 65, 66]⟩ : ByteArray)[0]'hb).toNat : Nat) : Int) = 68 := fun _ => rfl
      clear HR
      go_wp2_with fail
      refine reg22_13 wr w.heap.size op d a b n HI.out.gi ⟨#[68, 65, 66]⟩ 0 68 d p0 z0 h0 k0 hix (fun V _ => hRD V) _ (fun _ _ _ q _ h => by cases q <;> exact h) ?_
      intro V kV
      have HN := HI.out.call kV
      rcases q0 with ⟨qa, qb⟩ | ⟨qa, qb⟩
      · have HQ : Hid _ := qb
        clear qb
        go_wp2
        exact ⟨⟨1, 0, g0, by first | rfl | rw [HQ.out], by first | rfl | rw [HQ.out], by go_num, HN, .inr (.inl ⟨rfl, rfl, rfl⟩)⟩, by simp [intOf]⟩
      · go_wp2
        exact ⟨⟨1, 0, g0, by go_num, by go_num, by go_num, HN, .inr (.inl ⟨rfl, rfl, rfl⟩)⟩, by simp [intOf]⟩
    · have hix : ∀ w : World, (Instr.index 9 (.string ⟨#[68, 65, 66]⟩) (.int .i64 1)).run Tryd.prog w = .ok (.int .u8 65) w := fun w => by kernel_rfl
      have eb : ∀ hb, ((((⟨#[68, 65, 66]⟩ : ByteArray)[1]'hb).toNat : Nat) : Int) = 65 := fun _ => rfl
      clear HR
      go_wp2_with fail
      refine reg22_13 wr w.heap.size op d a b n HI.out.gi ⟨#[68, 65, 66]⟩ 1 65 a p1 z1 h1 k1 hix (fun V _ => hRA V) _ (fun _ _ _ q _ h => by cases q <;> exact h) ?_
      intro V kV
      have HN := HI.out.call kV
      rcases q1 with ⟨qa, qb⟩ | ⟨qa, qb⟩
      · have HQ : Hid _ := qb
        clear qb
        go_wp2
        exact ⟨⟨2, g1, g0, by first | rfl | rw [HQ.out], by first | rfl | rw [HQ.out], by go_num, HN, .inr (.inr (.inl ⟨rfl, rfl, rfl⟩))⟩, by simp [intOf]⟩
      · go_wp2
        exact ⟨⟨2, g1, g0, by go_num, by go_num, by go_num, HN, .inr (.inr (.inl ⟨rfl, rfl, rfl⟩))⟩, by simp [intOf]⟩
    · have hix : ∀ w : World, (Instr.index 9 (.string ⟨#[68, 65, 66]⟩) (.int .i64 2)).run Tryd.prog w = .ok (.int .u8 66) w := fun w => by kernel_rfl
      have eb : ∀ hb, ((((⟨#[68, 65, 66]⟩ : ByteArray)[2]'hb).toNat : Nat) : Int) = 66 := fun _ => rfl
      clear HR
      go_wp2_with fail
      refine reg22_13 wr w.heap.size op d a b n HI.out.gi ⟨#[68, 65, 66]⟩ 2 66 b p2 z2 h2 k2 hix (fun V _ => hRB V) _ (fun _ _ _ q _ h => by cases q <;> exact h) ?_
      intro V kV
      have HN := HI.out.call kV
      rcases q2 with ⟨qa, qb⟩ | ⟨qa, qb⟩
      · have HQ : Hid _ := qb
        clear qb
        go_wp2
        exact ⟨⟨3, g2, g0, by first | rfl | rw [HQ.out], by first | rfl | rw [HQ.out], by go_num, HN, .inr (.inr (.inr (⟨rfl, rfl, rfl⟩)))⟩, by simp [intOf]⟩
      · go_wp2
        exact ⟨⟨3, g2, g0, by go_num, by go_num, by go_num, HN, .inr (.inr (.inr (⟨rfl, rfl, rfl⟩)))⟩, by simp [intOf]⟩
    · have HZ := HI.out
      clear HI HR
      go_wp2
      go_ret2
      exact ⟨rfl, HZ.kp⟩

set_option maxRecDepth 100000 in
set_option maxHeartbeats 8000000 in
theorem ruse_2 (w : World) (op d a b n x : Int) (s : ByteArray) (im sh : Int) (z0 g0 p0 z1 g1 p1 : Int) (hd : 0 ≤ d ∧ d < 256) (ha : 0 ≤ a ∧ a < 256) (hb : 0 ≤ b ∧ b < 256) (hs : ¬ s = ⟨#[104, 99, 97, 108, 108]⟩) (h0 : ∀ w, Calls Tryd.prog 33 #[.int .i64 d] w fun e w' => e = .returned (.int .i64 p0) ∧ w' = w) (k0 : p0 % 65536 = z0) (h1 : ∀ w, Calls Tryd.prog 33 #[.int .i64 a] w fun e w' => e = .returned (.int .i64 p1) ∧ w' = w) (k1 : p1 % 65536 = z1) (q0 : (z0 = 1 ∧ g0 = 0) ∨ ((z0 == 1) = false ∧ bits .or .u16 0 z0 = g0)) (q1 : (z1 = 1 ∧ g1 = 0) ∨ ((z1 == 1) = false ∧ bits .or .u16 0 z1 = g1))
    (hE : ∀ V, Calls Tryd.prog 21 #[iv op d a b n] V fun e w' => e = .returned (.tuple #[.int .u32 x, .int .i64 0]) ∧ Kp V w')
    (hO : ∀ V, Calls Tryd.prog 34 #[.int .i64 op] V fun e w' => e = .returned (.tuple #[.agg #[.string s, .int .i64 2, .int .u8 im, .int .u8 sh], .bool true]) ∧ Kp V w') :
    Calls Tryd.prog 22 #[iv op d a b n] w fun e w' => e = .returned (.tuple #[.int .u16 g1, .int .u16 g0]) ∧ Kp w w' := by
  have hRD := fun V => rregD V op d a b n hd
  have hRA := fun V => rregA V op d a b n ha
  have hRB := fun V => rregB V op d a b n hb
  have hsb := neqS hs
  have hsc : (s.toList == [104, 99, 97, 108, 108]) = false := by
    have e : (⟨#[104, 99, 97, 108, 108]⟩ : ByteArray).toList = [104, 99, 97, 108, 108] := by rw [ByteArray.toList_eq]
    rw [← e]; exact hsb
  clear hd ha hb
  go_enter Tryd.func22, Tryd.ntmps22
  go_wp2_with fail
  go_at_call 21
  refine (hE _).mono ?_
  rintro e w1 ⟨rfl, k1⟩
  obtain ⟨c0, c1, c2, c3, c4⟩ := Kp.cells5 k1 (heap_alloc_new w _)
  clear hE
  go_wp2_with fail
  go_at_call 34
  refine (hO _).mono ?_
  rintro e w2 ⟨rfl, k2⟩
  have S0 : Se w (w2.alloc (.cells #[.string s, .int .i64 2, .int .u8 im, .int .u8 sh] 66)) w2.heap.size op d a b n #[.string s, .int .i64 2, .int .u8 im, .int .u8 sh] :=
    ⟨(Kp.trans (Kp.trans ((Chg.refl _ _).alloc _) k1) k2).alloc _, al_old _ (Kp.heap (Kp.trans k1 k2) (heap_alloc_new w _)), heap_alloc_new w2 _⟩
  clear c0 c1 c2 c3 c4 hO
  go_wp2_with fail
  go_at_call 35
  refine (fields_2 _).mono ?_
  rintro e wa ⟨rfl, hwa⟩
  rw [hwa]
  clear hwa wa
  obtain ⟨W, hW⟩ : ∃ W, W = w2.alloc (.cells #[.string s, .int .i64 2, .int .u8 im, .int .u8 sh] 66) := ⟨_, rfl⟩
  rw [← hW] at S0 ⊢
  generalize w2.heap.size = bk at *
  clear hW k1 k2
  have HS : Hid _ := S0
  clear S0
  go_wp2
  go_loopw [10, 11, 12] (fun s10 s11 s12 wr => ∃ (j : Nat) (R T : Int), s10 = .int .u16 R ∧ s11 = .int .u16 T ∧ s12 = .int .i64 j ∧ Hid (Se w wr bk op d a b n #[.string s, .int .i64 2, .int .u8 im, .int .u8 sh]) ∧ Hid ((0 = j ∧ 0 = R ∧ 0 = T) ∨ (1 = j ∧ 0 = R ∧ g0 = T) ∨ (2 = j ∧ g1 = R ∧ g0 = T))) (fun _ _ s12 _ => 2 - (intOf s12).toNat)
  case atStart => exact ⟨0, 0, 0, rfl, rfl, rfl, HS, .inl ⟨rfl, rfl, rfl⟩⟩
  case round =>
    obtain ⟨j, R, T, rfl, rfl, rfl, HI, HR⟩ := hrel
    clear HS
    rcases HR.out with ⟨rfl, rfl, rfl⟩ | ⟨rfl, rfl, rfl⟩ | ⟨rfl, rfl, rfl⟩
    · have hix : ∀ w : World, (Instr.index 9 (.string ⟨#[68, 65]⟩) (.int .i64 0)).run Tryd.prog w = .ok (.int .u8 68) w := fun w => by kernel_rfl
      have eb : ∀ hb, ((((⟨#[68, 65]⟩ : ByteArray)[0]'hb).toNat : Nat) : Int) = 68 := fun _ => rfl
      clear HR
      go_wp2_with fail
      refine reg22_13 wr w.heap.size op d a b n HI.out.gi ⟨#[68, 65]⟩ 0 68 d p0 z0 h0 k0 hix (fun V _ => hRD V) _ (fun _ _ _ q _ h => by cases q <;> exact h) ?_
      intro V kV
      have HN := HI.out.call kV
      rcases q0 with ⟨qa, qb⟩ | ⟨qa, qb⟩
      · have HQ : Hid _ := qb
        clear qb
        go_wp2
        exact ⟨⟨1, 0, g0, by first | rfl | rw [HQ.out], by first | rfl | rw [HQ.out], by go_num, HN, .inr (.inl ⟨rfl, rfl, rfl⟩)⟩, by simp [intOf]⟩
      · go_wp2
        exact ⟨⟨1, 0, g0, by go_num, by go_num, by go_num, HN, .inr (.inl ⟨rfl, rfl, rfl⟩)⟩, by simp [intOf]⟩
    · have hix : ∀ w : World, (Instr.index 9 (.string ⟨#[68, 65]⟩) (.int .i64 1)).run Tryd.prog w = .ok (.int .u8 65) w := fun w => by kernel_rfl
      have eb : ∀ hb, ((((⟨#[68, 65]⟩ : ByteArray)[1]'hb).toNat : Nat) : Int) = 65 := fun _ => rfl
      clear HR
      go_wp2_with fail
      refine reg22_13 wr w.heap.size op d a b n HI.out.gi ⟨#[68, 65]⟩ 1 65 a p1 z1 h1 k1 hix (fun V _ => hRA V) _ (fun _ _ _ q _ h => by cases q <;> exact h) ?_
      intro V kV
      have HN := HI.out.call kV
      rcases q1 with ⟨qa, qb⟩ | ⟨qa, qb⟩
      · have HQ : Hid _ := qb
        clear qb
        go_wp2
        exact ⟨⟨2, g1, g0, by first | rfl | rw [HQ.out], by first | rfl | rw [HQ.out], by go_num, HN, .inr (.inr (⟨rfl, rfl, rfl⟩))⟩, by simp [intOf]⟩
      · go_wp2
        exact ⟨⟨2, g1, g0, by go_num, by go_num, by go_num, HN, .inr (.inr (⟨rfl, rfl, rfl⟩))⟩, by simp [intOf]⟩
    · have HZ := HI.out
      clear HI HR
      go_wp2
      go_ret2
      exact ⟨rfl, HZ.kp⟩

set_option maxRecDepth 100000 in
set_option maxHeartbeats 8000000 in
theorem ruse_3 (w : World) (op d a b n x : Int) (s : ByteArray) (im sh : Int) (z0 g0 p0 z1 g1 p1 : Int) (hd : 0 ≤ d ∧ d < 256) (ha : 0 ≤ a ∧ a < 256) (hb : 0 ≤ b ∧ b < 256) (hs : ¬ s = ⟨#[104, 99, 97, 108, 108]⟩) (h0 : ∀ w, Calls Tryd.prog 33 #[.int .i64 a] w fun e w' => e = .returned (.int .i64 p0) ∧ w' = w) (k0 : p0 % 65536 = z0) (h1 : ∀ w, Calls Tryd.prog 33 #[.int .i64 b] w fun e w' => e = .returned (.int .i64 p1) ∧ w' = w) (k1 : p1 % 65536 = z1) (q0 : (z0 = 1 ∧ g0 = 0) ∨ ((z0 == 1) = false ∧ bits .or .u16 0 z0 = g0)) (q1 : (z1 = 1 ∧ g1 = g0) ∨ ((z1 == 1) = false ∧ bits .or .u16 g0 z1 = g1))
    (hE : ∀ V, Calls Tryd.prog 21 #[iv op d a b n] V fun e w' => e = .returned (.tuple #[.int .u32 x, .int .i64 0]) ∧ Kp V w')
    (hO : ∀ V, Calls Tryd.prog 34 #[.int .i64 op] V fun e w' => e = .returned (.tuple #[.agg #[.string s, .int .i64 3, .int .u8 im, .int .u8 sh], .bool true]) ∧ Kp V w') :
    Calls Tryd.prog 22 #[iv op d a b n] w fun e w' => e = .returned (.tuple #[.int .u16 g1, .int .u16 0]) ∧ Kp w w' := by
  have hRD := fun V => rregD V op d a b n hd
  have hRA := fun V => rregA V op d a b n ha
  have hRB := fun V => rregB V op d a b n hb
  have hsb := neqS hs
  have hsc : (s.toList == [104, 99, 97, 108, 108]) = false := by
    have e : (⟨#[104, 99, 97, 108, 108]⟩ : ByteArray).toList = [104, 99, 97, 108, 108] := by rw [ByteArray.toList_eq]
    rw [← e]; exact hsb
  clear hd ha hb
  go_enter Tryd.func22, Tryd.ntmps22
  go_wp2_with fail
  go_at_call 21
  refine (hE _).mono ?_
  rintro e w1 ⟨rfl, k1⟩
  obtain ⟨c0, c1, c2, c3, c4⟩ := Kp.cells5 k1 (heap_alloc_new w _)
  clear hE
  go_wp2_with fail
  go_at_call 34
  refine (hO _).mono ?_
  rintro e w2 ⟨rfl, k2⟩
  have S0 : Se w (w2.alloc (.cells #[.string s, .int .i64 3, .int .u8 im, .int .u8 sh] 66)) w2.heap.size op d a b n #[.string s, .int .i64 3, .int .u8 im, .int .u8 sh] :=
    ⟨(Kp.trans (Kp.trans ((Chg.refl _ _).alloc _) k1) k2).alloc _, al_old _ (Kp.heap (Kp.trans k1 k2) (heap_alloc_new w _)), heap_alloc_new w2 _⟩
  clear c0 c1 c2 c3 c4 hO
  go_wp2_with fail
  go_at_call 35
  refine (fields_3 _).mono ?_
  rintro e wa ⟨rfl, hwa⟩
  rw [hwa]
  clear hwa wa
  obtain ⟨W, hW⟩ : ∃ W, W = w2.alloc (.cells #[.string s, .int .i64 3, .int .u8 im, .int .u8 sh] 66) := ⟨_, rfl⟩
  rw [← hW] at S0 ⊢
  generalize w2.heap.size = bk at *
  clear hW k1 k2
  have HS : Hid _ := S0
  clear S0
  go_wp2
  go_loopw [10, 11, 12] (fun s10 s11 s12 wr => ∃ (j : Nat) (R T : Int), s10 = .int .u16 R ∧ s11 = .int .u16 T ∧ s12 = .int .i64 j ∧ Hid (Se w wr bk op d a b n #[.string s, .int .i64 3, .int .u8 im, .int .u8 sh]) ∧ Hid ((0 = j ∧ 0 = R ∧ 0 = T) ∨ (1 = j ∧ g0 = R ∧ 0 = T) ∨ (2 = j ∧ g1 = R ∧ 0 = T))) (fun _ _ s12 _ => 2 - (intOf s12).toNat)
  case atStart => exact ⟨0, 0, 0, rfl, rfl, rfl, HS, .inl ⟨rfl, rfl, rfl⟩⟩
  case round =>
    obtain ⟨j, R, T, rfl, rfl, rfl, HI, HR⟩ := hrel
    clear HS
    rcases HR.out with ⟨rfl, rfl, rfl⟩ | ⟨rfl, rfl, rfl⟩ | ⟨rfl, rfl, rfl⟩
    · have hix : ∀ w : World, (Instr.index 9 (.string ⟨#[65, 66]⟩) (.int .i64 0)).run Tryd.prog w = .ok (.int .u8 65) w := fun w => by kernel_rfl
      have eb : ∀ hb, ((((⟨#[65, 66]⟩ : ByteArray)[0]'hb).toNat : Nat) : Int) = 65 := fun _ => rfl
      clear HR
      go_wp2_with fail
      refine reg22_13 wr w.heap.size op d a b n HI.out.gi ⟨#[65, 66]⟩ 0 65 a p0 z0 h0 k0 hix (fun V _ => hRA V) _ (fun _ _ _ q _ h => by cases q <;> exact h) ?_
      intro V kV
      have HN := HI.out.call kV
      rcases q0 with ⟨qa, qb⟩ | ⟨qa, qb⟩
      · have HQ : Hid _ := qb
        clear qb
        go_wp2
        exact ⟨⟨1, g0, 0, by first | rfl | rw [HQ.out], by first | rfl | rw [HQ.out], by go_num, HN, .inr (.inl ⟨rfl, rfl, rfl⟩)⟩, by simp [intOf]⟩
      · go_wp2
        exact ⟨⟨1, g0, 0, by go_num, by go_num, by go_num, HN, .inr (.inl ⟨rfl, rfl, rfl⟩)⟩, by simp [intOf]⟩
    · have hix : ∀ w : World, (Instr.index 9 (.string ⟨#[65, 66]⟩) (.int .i64 1)).run Tryd.prog w = .ok (.int .u8 66) w := fun w => by kernel_rfl
      have eb : ∀ hb, ((((⟨#[65, 66]⟩ : ByteArray)[1]'hb).toNat : Nat) : Int) = 66 := fun _ => rfl
      clear HR
      go_wp2_with fail
      refine reg22_13 wr w.heap.size op d a b n HI.out.gi ⟨#[65, 66]⟩ 1 66 b p1 z1 h1 k1 hix (fun V _ => hRB V) _ (fun _ _ _ q _ h => by cases q <;> exact h) ?_
      intro V kV
      have HN := HI.out.call kV
      rcases q1 with ⟨qa, qb⟩ | ⟨qa, qb⟩
      · have HQ : Hid _ := qb
        clear qb
        go_wp2
        exact ⟨⟨2, g1, 0, by first | rfl | rw [HQ.out], by first | rfl | rw [HQ.out], by go_num, HN, .inr (.inr (⟨rfl, rfl, rfl⟩))⟩, by simp [intOf]⟩
      · go_wp2
        exact ⟨⟨2, g1, 0, by go_num, by go_num, by go_num, HN, .inr (.inr (⟨rfl, rfl, rfl⟩))⟩, by simp [intOf]⟩
    · have HZ := HI.out
      clear HI HR
      go_wp2
      go_ret2
      exact ⟨rfl, HZ.kp⟩

set_option maxRecDepth 100000 in
set_option maxHeartbeats 8000000 in
theorem ruse_4 (w : World) (op d a b n x : Int) (s : ByteArray) (im sh : Int) (z0 g0 p0 : Int) (hd : 0 ≤ d ∧ d < 256) (ha : 0 ≤ a ∧ a < 256) (hb : 0 ≤ b ∧ b < 256) (hs : ¬ s = ⟨#[104, 99, 97, 108, 108]⟩) (h0 : ∀ w, Calls Tryd.prog 33 #[.int .i64 d] w fun e w' => e = .returned (.int .i64 p0) ∧ w' = w) (k0 : p0 % 65536 = z0) (q0 : (z0 = 1 ∧ g0 = 0) ∨ ((z0 == 1) = false ∧ bits .or .u16 0 z0 = g0))
    (hE : ∀ V, Calls Tryd.prog 21 #[iv op d a b n] V fun e w' => e = .returned (.tuple #[.int .u32 x, .int .i64 0]) ∧ Kp V w')
    (hO : ∀ V, Calls Tryd.prog 34 #[.int .i64 op] V fun e w' => e = .returned (.tuple #[.agg #[.string s, .int .i64 4, .int .u8 im, .int .u8 sh], .bool true]) ∧ Kp V w') :
    Calls Tryd.prog 22 #[iv op d a b n] w fun e w' => e = .returned (.tuple #[.int .u16 0, .int .u16 g0]) ∧ Kp w w' := by
  have hRD := fun V => rregD V op d a b n hd
  have hRA := fun V => rregA V op d a b n ha
  have hRB := fun V => rregB V op d a b n hb
  have hsb := neqS hs
  have hsc : (s.toList == [104, 99, 97, 108, 108]) = false := by
    have e : (⟨#[104, 99, 97, 108, 108]⟩ : ByteArray).toList = [104, 99, 97, 108, 108] := by rw [ByteArray.toList_eq]
    rw [← e]; exact hsb
  clear hd ha hb
  go_enter Tryd.func22, Tryd.ntmps22
  go_wp2_with fail
  go_at_call 21
  refine (hE _).mono ?_
  rintro e w1 ⟨rfl, k1⟩
  obtain ⟨c0, c1, c2, c3, c4⟩ := Kp.cells5 k1 (heap_alloc_new w _)
  clear hE
  go_wp2_with fail
  go_at_call 34
  refine (hO _).mono ?_
  rintro e w2 ⟨rfl, k2⟩
  have S0 : Se w (w2.alloc (.cells #[.string s, .int .i64 4, .int .u8 im, .int .u8 sh] 66)) w2.heap.size op d a b n #[.string s, .int .i64 4, .int .u8 im, .int .u8 sh] :=
    ⟨(Kp.trans (Kp.trans ((Chg.refl _ _).alloc _) k1) k2).alloc _, al_old _ (Kp.heap (Kp.trans k1 k2) (heap_alloc_new w _)), heap_alloc_new w2 _⟩
  clear c0 c1 c2 c3 c4 hO
  go_wp2_with fail
  go_at_call 35
  refine (fields_4 _).mono ?_
  rintro e wa ⟨rfl, hwa⟩
  rw [hwa]
  clear hwa wa
  obtain ⟨W, hW⟩ : ∃ W, W = w2.alloc (.cells #[.string s, .int .i64 4, .int .u8 im, .int .u8 sh] 66) := ⟨_, rfl⟩
  rw [← hW] at S0 ⊢
  generalize w2.heap.size = bk at *
  clear hW k1 k2
  have HS : Hid _ := S0
  clear S0
  go_wp2
  go_loopw [10, 11, 12] (fun s10 s11 s12 wr => ∃ (j : Nat) (R T : Int), s10 = .int .u16 R ∧ s11 = .int .u16 T ∧ s12 = .int .i64 j ∧ Hid (Se w wr bk op d a b n #[.string s, .int .i64 4, .int .u8 im, .int .u8 sh]) ∧ Hid ((0 = j ∧ 0 = R ∧ 0 = T) ∨ (1 = j ∧ 0 = R ∧ g0 = T))) (fun _ _ s12 _ => 1 - (intOf s12).toNat)
  case atStart => exact ⟨0, 0, 0, rfl, rfl, rfl, HS, .inl ⟨rfl, rfl, rfl⟩⟩
  case round =>
    obtain ⟨j, R, T, rfl, rfl, rfl, HI, HR⟩ := hrel
    clear HS
    rcases HR.out with ⟨rfl, rfl, rfl⟩ | ⟨rfl, rfl, rfl⟩
    · have hix : ∀ w : World, (Instr.index 9 (.string ⟨#[68]⟩) (.int .i64 0)).run Tryd.prog w = .ok (.int .u8 68) w := fun w => by kernel_rfl
      have eb : ∀ hb, ((((⟨#[68]⟩ : ByteArray)[0]'hb).toNat : Nat) : Int) = 68 := fun _ => rfl
      clear HR
      go_wp2_with fail
      refine reg22_13 wr w.heap.size op d a b n HI.out.gi ⟨#[68]⟩ 0 68 d p0 z0 h0 k0 hix (fun V _ => hRD V) _ (fun _ _ _ q _ h => by cases q <;> exact h) ?_
      intro V kV
      have HN := HI.out.call kV
      rcases q0 with ⟨qa, qb⟩ | ⟨qa, qb⟩
      · have HQ : Hid _ := qb
        clear qb
        go_wp2
        exact ⟨⟨1, 0, g0, by first | rfl | rw [HQ.out], by first | rfl | rw [HQ.out], by go_num, HN, .inr (⟨rfl, rfl, rfl⟩)⟩, by simp [intOf]⟩
      · go_wp2
        exact ⟨⟨1, 0, g0, by go_num, by go_num, by go_num, HN, .inr (⟨rfl, rfl, rfl⟩)⟩, by simp [intOf]⟩
    · have HZ := HI.out
      clear HI HR
      go_wp2
      go_ret2
      exact ⟨rfl, HZ.kp⟩

set_option maxRecDepth 100000 in
set_option maxHeartbeats 8000000 in
theorem ruse_5 (w : World) (op d a b n x : Int) (s : ByteArray) (im sh : Int) (z0 g0 p0 : Int) (hd : 0 ≤ d ∧ d < 256) (ha : 0 ≤ a ∧ a < 256) (hb : 0 ≤ b ∧ b < 256) (hs : ¬ s = ⟨#[104, 99, 97, 108, 108]⟩) (h0 : ∀ w, Calls Tryd.prog 33 #[.int .i64 d] w fun e w' => e = .returned (.int .i64 p0) ∧ w' = w) (k0 : p0 % 65536 = z0) (q0 : (z0 = 1 ∧ g0 = 0) ∨ ((z0 == 1) = false ∧ bits .or .u16 0 z0 = g0))
    (hE : ∀ V, Calls Tryd.prog 21 #[iv op d a b n] V fun e w' => e = .returned (.tuple #[.int .u32 x, .int .i64 0]) ∧ Kp V w')
    (hO : ∀ V, Calls Tryd.prog 34 #[.int .i64 op] V fun e w' => e = .returned (.tuple #[.agg #[.string s, .int .i64 5, .int .u8 im, .int .u8 sh], .bool true]) ∧ Kp V w') :
    Calls Tryd.prog 22 #[iv op d a b n] w fun e w' => e = .returned (.tuple #[.int .u16 0, .int .u16 g0]) ∧ Kp w w' := by
  have hRD := fun V => rregD V op d a b n hd
  have hRA := fun V => rregA V op d a b n ha
  have hRB := fun V => rregB V op d a b n hb
  have hsb := neqS hs
  have hsc : (s.toList == [104, 99, 97, 108, 108]) = false := by
    have e : (⟨#[104, 99, 97, 108, 108]⟩ : ByteArray).toList = [104, 99, 97, 108, 108] := by rw [ByteArray.toList_eq]
    rw [← e]; exact hsb
  clear hd ha hb
  go_enter Tryd.func22, Tryd.ntmps22
  go_wp2_with fail
  go_at_call 21
  refine (hE _).mono ?_
  rintro e w1 ⟨rfl, k1⟩
  obtain ⟨c0, c1, c2, c3, c4⟩ := Kp.cells5 k1 (heap_alloc_new w _)
  clear hE
  go_wp2_with fail
  go_at_call 34
  refine (hO _).mono ?_
  rintro e w2 ⟨rfl, k2⟩
  have S0 : Se w (w2.alloc (.cells #[.string s, .int .i64 5, .int .u8 im, .int .u8 sh] 66)) w2.heap.size op d a b n #[.string s, .int .i64 5, .int .u8 im, .int .u8 sh] :=
    ⟨(Kp.trans (Kp.trans ((Chg.refl _ _).alloc _) k1) k2).alloc _, al_old _ (Kp.heap (Kp.trans k1 k2) (heap_alloc_new w _)), heap_alloc_new w2 _⟩
  clear c0 c1 c2 c3 c4 hO
  go_wp2_with fail
  go_at_call 35
  refine (fields_5 _).mono ?_
  rintro e wa ⟨rfl, hwa⟩
  rw [hwa]
  clear hwa wa
  obtain ⟨W, hW⟩ : ∃ W, W = w2.alloc (.cells #[.string s, .int .i64 5, .int .u8 im, .int .u8 sh] 66) := ⟨_, rfl⟩
  rw [← hW] at S0 ⊢
  generalize w2.heap.size = bk at *
  clear hW k1 k2
  have HS : Hid _ := S0
  clear S0
  go_wp2
  go_loopw [10, 11, 12] (fun s10 s11 s12 wr => ∃ (j : Nat) (R T : Int), s10 = .int .u16 R ∧ s11 = .int .u16 T ∧ s12 = .int .i64 j ∧ Hid (Se w wr bk op d a b n #[.string s, .int .i64 5, .int .u8 im, .int .u8 sh]) ∧ Hid ((0 = j ∧ 0 = R ∧ 0 = T) ∨ (1 = j ∧ 0 = R ∧ g0 = T))) (fun _ _ s12 _ => 1 - (intOf s12).toNat)
  case atStart => exact ⟨0, 0, 0, rfl, rfl, rfl, HS, .inl ⟨rfl, rfl, rfl⟩⟩
  case round =>
    obtain ⟨j, R, T, rfl, rfl, rfl, HI, HR⟩ := hrel
    clear HS
    rcases HR.out with ⟨rfl, rfl, rfl⟩ | ⟨rfl, rfl, rfl⟩
    · have hix : ∀ w : World, (Instr.index 9 (.string ⟨#[68]⟩) (.int .i64 0)).run Tryd.prog w = .ok (.int .u8 68) w := fun w => by kernel_rfl
      have eb : ∀ hb, ((((⟨#[68]⟩ : ByteArray)[0]'hb).toNat : Nat) : Int) = 68 := fun _ => rfl
      clear HR
      go_wp2_with fail
      refine reg22_13 wr w.heap.size op d a b n HI.out.gi ⟨#[68]⟩ 0 68 d p0 z0 h0 k0 hix (fun V _ => hRD V) _ (fun _ _ _ q _ h => by cases q <;> exact h) ?_
      intro V kV
      have HN := HI.out.call kV
      rcases q0 with ⟨qa, qb⟩ | ⟨qa, qb⟩
      · have HQ : Hid _ := qb
        clear qb
        go_wp2
        exact ⟨⟨1, 0, g0, by first | rfl | rw [HQ.out], by first | rfl | rw [HQ.out], by go_num, HN, .inr (⟨rfl, rfl, rfl⟩)⟩, by simp [intOf]⟩
      · go_wp2
        exact ⟨⟨1, 0, g0, by go_num, by go_num, by go_num, HN, .inr (⟨rfl, rfl, rfl⟩)⟩, by simp [intOf]⟩
    · have HZ := HI.out
      clear HI HR
      go_wp2
      go_ret2
      exact ⟨rfl, HZ.kp⟩

set_option maxRecDepth 100000 in
set_option maxHeartbeats 8000000 in
theorem ruse_6 (w : World) (op d a b n x : Int) (s : ByteArray) (im sh : Int) (z0 g0 p0 : Int) (hd : 0 ≤ d ∧ d < 256) (ha : 0 ≤ a ∧ a < 256) (hb : 0 ≤ b ∧ b < 256) (hs : ¬ s = ⟨#[104, 99, 97, 108, 108]⟩) (h0 : ∀ w, Calls Tryd.prog 33 #[.int .i64 a] w fun e w' => e = .returned (.int .i64 p0) ∧ w' = w) (k0 : p0 % 65536 = z0) (q0 : (z0 = 1 ∧ g0 = 0) ∨ ((z0 == 1) = false ∧ bits .or .u16 0 z0 = g0))
    (hE : ∀ V, Calls Tryd.prog 21 #[iv op d a b n] V fun e w' => e = .returned (.tuple #[.int .u32 x, .int .i64 0]) ∧ Kp V w')
    (hO : ∀ V, Calls Tryd.prog 34 #[.int .i64 op] V fun e w' => e = .returned (.tuple #[.agg #[.string s, .int .i64 6, .int .u8 im, .int .u8 sh], .bool true]) ∧ Kp V w') :
    Calls Tryd.prog 22 #[iv op d a b n] w fun e w' => e = .returned (.tuple #[.int .u16 g0, .int .u16 0]) ∧ Kp w w' := by
  have hRD := fun V => rregD V op d a b n hd
  have hRA := fun V => rregA V op d a b n ha
  have hRB := fun V => rregB V op d a b n hb
  have hsb := neqS hs
  have hsc : (s.toList == [104, 99, 97, 108, 108]) = false := by
    have e : (⟨#[104, 99, 97, 108, 108]⟩ : ByteArray).toList = [104, 99, 97, 108, 108] := by rw [ByteArray.toList_eq]
    rw [← e]; exact hsb
  clear hd ha hb
  go_enter Tryd.func22, Tryd.ntmps22
  go_wp2_with fail
  go_at_call 21
  refine (hE _).mono ?_
  rintro e w1 ⟨rfl, k1⟩
  obtain ⟨c0, c1, c2, c3, c4⟩ := Kp.cells5 k1 (heap_alloc_new w _)
  clear hE
  go_wp2_with fail
  go_at_call 34
  refine (hO _).mono ?_
  rintro e w2 ⟨rfl, k2⟩
  have S0 : Se w (w2.alloc (.cells #[.string s, .int .i64 6, .int .u8 im, .int .u8 sh] 66)) w2.heap.size op d a b n #[.string s, .int .i64 6, .int .u8 im, .int .u8 sh] :=
    ⟨(Kp.trans (Kp.trans ((Chg.refl _ _).alloc _) k1) k2).alloc _, al_old _ (Kp.heap (Kp.trans k1 k2) (heap_alloc_new w _)), heap_alloc_new w2 _⟩
  clear c0 c1 c2 c3 c4 hO
  go_wp2_with fail
  go_at_call 35
  refine (fields_6 _).mono ?_
  rintro e wa ⟨rfl, hwa⟩
  rw [hwa]
  clear hwa wa
  obtain ⟨W, hW⟩ : ∃ W, W = w2.alloc (.cells #[.string s, .int .i64 6, .int .u8 im, .int .u8 sh] 66) := ⟨_, rfl⟩
  rw [← hW] at S0 ⊢
  generalize w2.heap.size = bk at *
  clear hW k1 k2
  have HS : Hid _ := S0
  clear S0
  go_wp2
  go_loopw [10, 11, 12] (fun s10 s11 s12 wr => ∃ (j : Nat) (R T : Int), s10 = .int .u16 R ∧ s11 = .int .u16 T ∧ s12 = .int .i64 j ∧ Hid (Se w wr bk op d a b n #[.string s, .int .i64 6, .int .u8 im, .int .u8 sh]) ∧ Hid ((0 = j ∧ 0 = R ∧ 0 = T) ∨ (1 = j ∧ g0 = R ∧ 0 = T))) (fun _ _ s12 _ => 1 - (intOf s12).toNat)
  case atStart => exact ⟨0, 0, 0, rfl, rfl, rfl, HS, .inl ⟨rfl, rfl, rfl⟩⟩
  case round =>
    obtain ⟨j, R, T, rfl, rfl, rfl, HI, HR⟩ := hrel
    clear HS
    rcases HR.out with ⟨rfl, rfl, rfl⟩ | ⟨rfl, rfl, rfl⟩
    · have hix : ∀ w : World, (Instr.index 9 (.string ⟨#[65]⟩) (.int .i64 0)).run Tryd.prog w = .ok (.int .u8 65) w := fun w => by kernel_rfl
      have eb : ∀ hb, ((((⟨#[65]⟩ : ByteArray)[0]'hb).toNat : Nat) : Int) = 65 := fun _ => rfl
      clear HR
      go_wp2_with fail
      refine reg22_13 wr w.heap.size op d a b n HI.out.gi ⟨#[65]⟩ 0 65 a p0 z0 h0 k0 hix (fun V _ => hRA V) _ (fun _ _ _ q _ h => by cases q <;> exact h) ?_
      intro V kV
      have HN := HI.out.call kV
      rcases q0 with ⟨qa, qb⟩ | ⟨qa, qb⟩
      · have HQ : Hid _ := qb
        clear qb
        go_wp2
        exact ⟨⟨1, g0, 0, by first | rfl | rw [HQ.out], by first | rfl | rw [HQ.out], by go_num, HN, .inr (⟨rfl, rfl, rfl⟩)⟩, by simp [intOf]⟩
      · go_wp2
        exact ⟨⟨1, g0, 0, by go_num, by go_num, by go_num, HN, .inr (⟨rfl, rfl, rfl⟩)⟩, by simp [intOf]⟩
    · have HZ := HI.out
      clear HI HR
      go_wp2
      go_ret2
      exact ⟨rfl, HZ.kp⟩

set_option maxRecDepth 100000 in
set_option maxHeartbeats 8000000 in
theorem ruse_7 (w : World) (op d a b n x : Int) (s : ByteArray) (im sh : Int)  (hd : 0 ≤ d ∧ d < 256) (ha : 0 ≤ a ∧ a < 256) (hb : 0 ≤ b ∧ b < 256) (hs : ¬ s = ⟨#[104, 99, 97, 108, 108]⟩) 
    (hE : ∀ V, Calls Tryd.prog 21 #[iv op d a b n] V fun e w' => e = .returned (.tuple #[.int .u32 x, .int .i64 0]) ∧ Kp V w')
    (hO : ∀ V, Calls Tryd.prog 34 #[.int .i64 op] V fun e w' => e = .returned (.tuple #[.agg #[.string s, .int .i64 7, .int .u8 im, .int .u8 sh], .bool true]) ∧ Kp V w') :
    Calls Tryd.prog 22 #[iv op d a b n] w fun e w' => e = .returned (.tuple #[.int .u16 0, .int .u16 0]) ∧ Kp w w' := by
  have hRD := fun V => rregD V op d a b n hd
  have hRA := fun V => rregA V op d a b n ha
  have hRB := fun V => rregB V op d a b n hb
  have hsb := neqS hs
  have hsc : (s.toList == [104, 99, 97, 108, 108]) = false := by
    have e : (⟨#[104, 99, 97, 108, 108]⟩ : ByteArray).toList = [104, 99, 97, 108, 108] := by rw [ByteArray.toList_eq]
    rw [← e]; exact hsb
  clear hd ha hb
  go_enter Tryd.func22, Tryd.ntmps22
  go_wp2_with fail
  go_at_call 21
  refine (hE _).mono ?_
  rintro e w1 ⟨rfl, k1⟩
  obtain ⟨c0, c1, c2, c3, c4⟩ := Kp.cells5 k1 (heap_alloc_new w _)
  clear hE
  go_wp2_with fail
  go_at_call 34
  refine (hO _).mono ?_
  rintro e w2 ⟨rfl, k2⟩
  have S0 : Se w (w2.alloc (.cells #[.string s, .int .i64 7, .int .u8 im, .int .u8 sh] 66)) w2.heap.size op d a b n #[.string s, .int .i64 7, .int .u8 im, .int .u8 sh] :=
    ⟨(Kp.trans (Kp.trans ((Chg.refl _ _).alloc _) k1) k2).alloc _, al_old _ (Kp.heap (Kp.trans k1 k2) (heap_alloc_new w _)), heap_alloc_new w2 _⟩
  clear c0 c1 c2 c3 c4 hO
  go_wp2_with fail
  go_at_call 35
  refine (fields_7 _).mono ?_
  rintro e wa ⟨rfl, hwa⟩
  rw [hwa]
  clear hwa wa
  obtain ⟨W, hW⟩ : ∃ W, W = w2.alloc (.cells #[.string s, .int .i64 7, .int .u8 im, .int .u8 sh] 66) := ⟨_, rfl⟩
  rw [← hW] at S0 ⊢
  generalize w2.heap.size = bk at *
  clear hW k1 k2
  have HS : Hid _ := S0
  clear S0
  go_wp2
  go_loopw [10, 11, 12] (fun s10 s11 s12 wr => ∃ (j : Nat) (R T : Int), s10 = .int .u16 R ∧ s11 = .int .u16 T ∧ s12 = .int .i64 j ∧ Hid (Se w wr bk op d a b n #[.string s, .int .i64 7, .int .u8 im, .int .u8 sh]) ∧ Hid ((0 = j ∧ 0 = R ∧ 0 = T))) (fun _ _ s12 _ => 0 - (intOf s12).toNat)
  case atStart => exact ⟨0, 0, 0, rfl, rfl, rfl, HS, ⟨rfl, rfl, rfl⟩⟩
  case round =>
    obtain ⟨j, R, T, rfl, rfl, rfl, HI, HR⟩ := hrel
    clear HS
    rcases HR.out with ⟨rfl, rfl, rfl⟩
    · have HZ := HI.out
      clear HI HR
      go_wp2
      go_ret2
      exact ⟨rfl, HZ.kp⟩

set_option maxRecDepth 100000 in
set_option maxHeartbeats 8000000 in
theorem ruse_8 (w : World) (op d a b n x : Int) (s : ByteArray) (im sh : Int)  (hd : 0 ≤ d ∧ d < 256) (ha : 0 ≤ a ∧ a < 256) (hb : 0 ≤ b ∧ b < 256) (hs : ¬ s = ⟨#[104, 99, 97, 108, 108]⟩) 
    (hE : ∀ V, Calls Tryd.prog 21 #[iv op d a b n] V fun e w' => e = .returned (.tuple #[.int .u32 x, .int .i64 0]) ∧ Kp V w')
    (hO : ∀ V, Calls Tryd.prog 34 #[.int .i64 op] V fun e w' => e = .returned (.tuple #[.agg #[.string s, .int .i64 8, .int .u8 im, .int .u8 sh], .bool true]) ∧ Kp V w') :
    Calls Tryd.prog 22 #[iv op d a b n] w fun e w' => e = .returned (.tuple #[.int .u16 0, .int .u16 0]) ∧ Kp w w' := by
  have hRD := fun V => rregD V op d a b n hd
  have hRA := fun V => rregA V op d a b n ha
  have hRB := fun V => rregB V op d a b n hb
  have hsb := neqS hs
  have hsc : (s.toList == [104, 99, 97, 108, 108]) = false := by
    have e : (⟨#[104, 99, 97, 108, 108]⟩ : ByteArray).toList = [104, 99, 97, 108, 108] := by rw [ByteArray.toList_eq]
    rw [← e]; exact hsb
  clear hd ha hb
  go_enter Tryd.func22, Tryd.ntmps22
  go_wp2_with fail
  go_at_call 21
  refine (hE _).mono ?_
  rintro e w1 ⟨rfl, k1⟩
  obtain ⟨c0, c1, c2, c3, c4⟩ := Kp.cells5 k1 (heap_alloc_new w _)
  clear hE
  go_wp2_with fail
  go_at_call 34
  refine (hO _).mono ?_
  rintro e w2 ⟨rfl, k2⟩
  have S0 : Se w (w2.alloc (.cells #[.string s, .int .i64 8, .int .u8 im, .int .u8 sh] 66)) w2.heap.size op d a b n #[.string s, .int .i64 8, .int .u8 im, .int .u8 sh] :=
    ⟨(Kp.trans (Kp.trans ((Chg.refl _ _).alloc _) k1) k2).alloc _, al_old _ (Kp.heap (Kp.trans k1 k2) (heap_alloc_new w _)), heap_alloc_new w2 _⟩
  clear c0 c1 c2 c3 c4 hO
  go_wp2_with fail
  go_at_call 35
  refine (fields_8 _).mono ?_
  rintro e wa ⟨rfl, hwa⟩
  rw [hwa]
  clear hwa wa
  obtain ⟨W, hW⟩ : ∃ W, W = w2.alloc (.cells #[.string s, .int .i64 8, .int .u8 im, .int .u8 sh] 66) := ⟨_, rfl⟩
  rw [← hW] at S0 ⊢
  generalize w2.heap.size = bk at *
  clear hW k1 k2
  have HS : Hid _ := S0
  clear S0
  go_wp2
  go_loopw [10, 11, 12] (fun s10 s11 s12 wr => ∃ (j : Nat) (R T : Int), s10 = .int .u16 R ∧ s11 = .int .u16 T ∧ s12 = .int .i64 j ∧ Hid (Se w wr bk op d a b n #[.string s, .int .i64 8, .int .u8 im, .int .u8 sh]) ∧ Hid ((0 = j ∧ 0 = R ∧ 0 = T))) (fun _ _ s12 _ => 0 - (intOf s12).toNat)
  case atStart => exact ⟨0, 0, 0, rfl, rfl, rfl, HS, ⟨rfl, rfl, rfl⟩⟩
  case round =>
    obtain ⟨j, R, T, rfl, rfl, rfl, HI, HR⟩ := hrel
    clear HS
    rcases HR.out with ⟨rfl, rfl, rfl⟩
    · have HZ := HI.out
      clear HI HR
      go_wp2
      go_ret2
      exact ⟨rfl, HZ.kp⟩
end Go.Proofs.YtodgobapgmhgdaaDoor
