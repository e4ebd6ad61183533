import Derived.Test.YtgofjmhdgmfgfaaGreatDoorSe
namespace Go.Proofs.YtgofjmhdgmfgfaaGreatDoor
open Go.ChangeShapes Go.WideShapes Go.ChangeAt Go.RowKit
set_option linter.unusedVariables false

set_option maxRecDepth 100000 in
set_option maxHeartbeats 8000000 in
theorem renc_4m (w : World) (op d a b n : Int) (s : ByteArray) (im sh : Int) (y0 y1 : Int) (ho : 0 ≤ op ∧ op < 64) (hd : 0 ≤ d ∧ d < 256) (ha : 0 ≤ a ∧ a < 256) (hb : 0 ≤ b ∧ b < 256) (hnb : -2147483648 ≤ n ∧ n ≤ 2147483647) (ey : op * 67108864 = y0) (e0 : y0 + 4194304 * d = y1) (dk : ¬ 15 < d) (ak : ¬ 0 < a) (bk : ¬ 0 < b) (ht : ∀ w, Calls Tryz.prog 57 #[.int .u8 im, .int .i64 22, .int .i64 n] w fun e w' => e = .returned (.bool true) ∧ w' = w) (hn : n < 0) (v z : Int) (ev : n + 4194304 = v) (ez : y1 + v = z) (hz : 0 ≤ z ∧ z < 4294967296) 
    (hO : ∀ V, Calls Tryz.prog 55 #[.int .i64 op] V fun e w' => e = .returned (.tuple #[.agg #[.string s, .int .i64 4, .int .u8 im, .int .u8 sh], .bool true]) ∧ Kp V w') :
    Calls Tryz.prog 58 #[iv op d a b n] w fun e w' => e = .returned (.tuple #[.int .u32 z, .int .i64 0]) ∧ Kp w w' := by
  have p26 : ∀ w, Calls Tryz.prog 54 #[.int .i64 26] w fun e w' => e = .returned (.int .i64 67108864) ∧ w' = w := fun w => power_any w 26 (by decide) _ rfl
  have p22 : ∀ w, Calls Tryz.prog 54 #[.int .i64 22] w fun e w' => e = .returned (.int .i64 4194304) ∧ w' = w := fun w => power_any w 22 (by decide) _ rfl
  have pb : ∀ w, Calls Tryz.prog 54 #[.int .i64 22] w fun e w' => e = .returned (.int .i64 4194304) ∧ w' = w := fun w => power_any w 22 (by decide) _ rfl
  have hRD := fun V => rregD V op d a b n hd
  have hRA := fun V => rregA V op d a b n ha
  have hRB := fun V => rregB V op d a b n hb
  have wy0 : wrap64 y0 = y0 := w64' _ (by omega) (by omega)
  have wn : wrap64 n = n := w64' _ (by omega) (by omega)
  have wv : wrap64 v = v := w64' _ (by omega) (by omega)
  have wzv : wrap64 z = z := w64' _ (by omega) (by omega)
  have wzu : z % 4294967296 = z := by omega
  have m0 : IntKind.i64.wrap (4194304 * d) = 4194304 * d := w64 _ (by omega) (by omega)
  have p0 : IntKind.i64.wrap (y0 + 4194304 * d) = y0 + 4194304 * d := w64 _ (by omega) (by omega)
  clear ho hd ha hb hnb
  go_enter Tryz.func58, Tryz.ntmps58
  go_wp2_with fail
  go_at_call 55
  refine (hO _).mono ?_
  rintro e w2 ⟨rfl, k2⟩
  have S0 : Se w (w2.alloc (.cells #[.string s, .int .i64 4, .int .u8 im, .int .u8 sh] 116)) w2.heap.size op d a b n #[.string s, .int .i64 4, .int .u8 im, .int .u8 sh] :=
    ⟨(Kp.trans ((Chg.refl _ _).alloc _) k2).alloc _, al_old _ (Kp.heap k2 (heap_alloc_new w _)), heap_alloc_new w2 _⟩
  go_wp2_with fail
  go_at_call 56
  refine (fields_4 _).mono ?_
  rintro e wa ⟨rfl, hwa⟩
  rw [hwa]
  clear hwa wa
  obtain ⟨W, hW⟩ : ∃ W, W = w2.alloc (.cells #[.string s, .int .i64 4, .int .u8 im, .int .u8 sh] 116) := ⟨_, rfl⟩
  rw [← hW] at S0 ⊢
  generalize w2.heap.size = bk at *
  clear hW k2 hO
  obtain ⟨c0, c1, c2, c3, c4, _⟩ := cells5 S0.gi
  go_wp2_with fail
  go_quiet (first | (go_at_call 54; exact Calls.quiet_of_same (p26 _)) | fail)
  generalize hW1 : W.drewN nq = W1
  have S1 : Se w W1 bk op d a b n #[.string s, .int .i64 4, .int .u8 im, .int .u8 sh] := by rw [← hW1]; exact S0.call ((Chg.refl _ _).drewN _)
  clear hW1 S0 c0 c1 c2 c3 c4
  have HS : Hid _ := S1
  clear S1
  go_wp2_with fail
  go_at_call 54
  refine (p22 _).mono ?_
  rintro e wa ⟨rfl, hwa⟩
  rw [hwa]
  clear hwa wa p26 p22
  go_wp2
  go_loopw [8, 9, 10] (fun s8 s9 s10 wr => ∃ (j : Nat) (y u : Int), s8 = .int .i64 y ∧ s9 = .int .i64 u ∧ s10 = .int .i64 j ∧ Hid (Se w wr bk op d a b n #[.string s, .int .i64 4, .int .u8 im, .int .u8 sh]) ∧ Hid ((0 = j ∧ y0 = y ∧ 4194304 = u) ∨ (1 = j ∧ y1 = y ∧ 262144 = u))) (fun _ _ s10 _ => 1 - (intOf s10).toNat)
  case atStart => exact ⟨0, y0, 4194304, rfl, rfl, rfl, HS, .inl ⟨rfl, rfl, rfl⟩⟩
  case round =>
    obtain ⟨j, y, u, rfl, rfl, rfl, HI, HR⟩ := hrel
    clear HS
    rcases HR.out with ⟨rfl, rfl, rfl⟩ | ⟨rfl, rfl, rfl⟩
    · have hix : ∀ w : World, (Instr.index 9 (.string ⟨#[68]⟩) (.int .i64 0)).run Tryz.prog w = .ok (.int .u8 68) w := fun w => by kernel_rfl
      clear HR
      go_wp2_with fail
      refine reg21_10 wr w.heap.size op d a b n HI.out.gi ⟨#[68]⟩ 0 68 d y0 4194304 m0 p0 hix (fun V _ => hRD V) _ (fun _ _ _ q _ h => by cases q <;> exact h) ?_
      intro V kV
      have HN := HI.out.call kV
      go_wp2
      exact ⟨⟨1, y1, 262144, by go_num, by go_num, by go_num, HN, .inr (⟨rfl, rfl, rfl⟩)⟩, by simp [intOf]⟩
    · have HZ : Hid _ := HI.out
      clear HI HR
      go_wp2
      rename World => WR
      go_loopw [12] (fun s12 wx => ∃ j : Nat, s12 = .int .i64 j ∧ Hid (Se w wx bk op d a b n #[.string s, .int .i64 4, .int .u8 im, .int .u8 sh]) ∧ Hid (0 = j ∨ 1 = j ∨ 2 = j ∨ 3 = j)) (fun s12 _ => 3 - (intOf s12).toNat)
      case atStart => exact ⟨0, rfl, HZ, .inl rfl⟩
      case round =>
        obtain ⟨j, rfl, HI, HR⟩ := hrel
        rcases HR.out with rfl | rfl | rfl | rfl
        · have hix : ∀ w : World, (Instr.index 9 (.string ⟨#[68, 65, 66]⟩) (.int .i64 0)).run Tryz.prog w = .ok (.int .u8 68) w := fun w => by kernel_rfl
          have eb : ∀ hb, ((((⟨#[68, 65, 66]⟩ : ByteArray)[0]'hb).toNat : Nat) : Int) = 68 := fun _ => rfl
          have hH := fun w => has_D_D w
          clear HR HZ
          by_cases hz : 0 < d
          · go_wp2_with fail
            refine reg21_16 _ w.heap.size op d a b n HI.out.gi ⟨#[68, 65, 66]⟩ 0 68 d hix (fun V _ => hRD V) _ (fun _ _ _ q _ h => by cases q <;> exact h) ?_
            intro V kV
            have HN := HI.out.call kV
            go_wp2_with (go_at_call 104; refine (hH _).mono ?_; rintro e wa ⟨rfl, rfl⟩)
            all_goals refine ⟨?_, by simp [intOf]⟩
            all_goals first | exact ⟨_, _, .int .i64 1, ⟨1, by go_num, by first | exact HN | exact (trivial : True), .inr (.inl rfl)⟩, rfl, rfl, rfl⟩ | exact ⟨_, .int .i64 1, ⟨1, by go_num, by first | exact HN | exact (trivial : True), .inr (.inl rfl)⟩, rfl, rfl⟩ | exact ⟨.int .i64 1, ⟨1, by go_num, by first | exact HN | exact (trivial : True), .inr (.inl rfl)⟩, rfl⟩ | exact ⟨_, _, .int .i64 1, _, _, _, _, _, _, _, _, _, _, _, _, _, _, _, _, _, _, _, _, _, _, _, _, _, _, ⟨1, by go_num, by first | exact HN | exact (trivial : True), .inr (.inl rfl)⟩, rfl⟩ | exact ⟨1, by go_num, by first | exact HN | exact (trivial : True), .inr (.inl rfl)⟩
          · go_wp2_with fail
            refine reg21_16 _ w.heap.size op d a b n HI.out.gi ⟨#[68, 65, 66]⟩ 0 68 d hix (fun V _ => hRD V) _ (fun _ _ _ q _ h => by cases q <;> exact h) ?_
            intro V kV
            have HN := HI.out.call kV
            go_wp2_with (go_at_call 104; refine (hH _).mono ?_; rintro e wa ⟨rfl, rfl⟩)
            all_goals refine ⟨?_, by simp [intOf]⟩
            all_goals first | exact ⟨_, _, .int .i64 1, ⟨1, by go_num, by first | exact HN | exact (trivial : True), .inr (.inl rfl)⟩, rfl, rfl, rfl⟩ | exact ⟨_, .int .i64 1, ⟨1, by go_num, by first | exact HN | exact (trivial : True), .inr (.inl rfl)⟩, rfl, rfl⟩ | exact ⟨.int .i64 1, ⟨1, by go_num, by first | exact HN | exact (trivial : True), .inr (.inl rfl)⟩, rfl⟩ | exact ⟨_, _, .int .i64 1, _, _, _, _, _, _, _, _, _, _, _, _, _, _, _, _, _, _, _, _, _, _, _, _, _, _, ⟨1, by go_num, by first | exact HN | exact (trivial : True), .inr (.inl rfl)⟩, rfl⟩ | exact ⟨1, by go_num, by first | exact HN | exact (trivial : True), .inr (.inl rfl)⟩
        · have hix : ∀ w : World, (Instr.index 9 (.string ⟨#[68, 65, 66]⟩) (.int .i64 1)).run Tryz.prog w = .ok (.int .u8 65) w := fun w => by kernel_rfl
          have eb : ∀ hb, ((((⟨#[68, 65, 66]⟩ : ByteArray)[1]'hb).toNat : Nat) : Int) = 65 := fun _ => rfl
          have hH := fun w => has_D_A w
          clear HR HZ
          go_wp2_with fail
          refine reg21_16 _ w.heap.size op d a b n HI.out.gi ⟨#[68, 65, 66]⟩ 1 65 a hix (fun V _ => hRA V) _ (fun _ _ _ q _ h => by cases q <;> exact h) ?_
          intro V kV
          have HN := HI.out.call kV
          go_wp2_with (go_at_call 104; refine (hH _).mono ?_; rintro e wa ⟨rfl, rfl⟩)
          all_goals refine ⟨?_, by simp [intOf]⟩
          all_goals first | exact ⟨_, _, .int .i64 2, ⟨2, by go_num, by first | exact HN | exact (trivial : True), .inr (.inr (.inl rfl))⟩, rfl, rfl, rfl⟩ | exact ⟨_, .int .i64 2, ⟨2, by go_num, by first | exact HN | exact (trivial : True), .inr (.inr (.inl rfl))⟩, rfl, rfl⟩ | exact ⟨.int .i64 2, ⟨2, by go_num, by first | exact HN | exact (trivial : True), .inr (.inr (.inl rfl))⟩, rfl⟩ | exact ⟨_, _, .int .i64 2, _, _, _, _, _, _, _, _, _, _, _, _, _, _, _, _, _, _, _, _, _, _, _, _, _, _, ⟨2, by go_num, by first | exact HN | exact (trivial : True), .inr (.inr (.inl rfl))⟩, rfl⟩ | exact ⟨2, by go_num, by first | exact HN | exact (trivial : True), .inr (.inr (.inl rfl))⟩
        · have hix : ∀ w : World, (Instr.index 9 (.string ⟨#[68, 65, 66]⟩) (.int .i64 2)).run Tryz.prog w = .ok (.int .u8 66) w := fun w => by kernel_rfl
          have eb : ∀ hb, ((((⟨#[68, 65, 66]⟩ : ByteArray)[2]'hb).toNat : Nat) : Int) = 66 := fun _ => rfl
          have hH := fun w => has_D_B w
          clear HR HZ
          go_wp2_with fail
          refine reg21_16 _ w.heap.size op d a b n HI.out.gi ⟨#[68, 65, 66]⟩ 2 66 b hix (fun V _ => hRB V) _ (fun _ _ _ q _ h => by cases q <;> exact h) ?_
          intro V kV
          have HN := HI.out.call kV
          go_wp2_with (go_at_call 104; refine (hH _).mono ?_; rintro e wa ⟨rfl, rfl⟩)
          all_goals refine ⟨?_, by simp [intOf]⟩
          all_goals first | exact ⟨_, _, .int .i64 3, ⟨3, by go_num, by first | exact HN | exact (trivial : True), .inr (.inr (.inr (rfl)))⟩, rfl, rfl, rfl⟩ | exact ⟨_, .int .i64 3, ⟨3, by go_num, by first | exact HN | exact (trivial : True), .inr (.inr (.inr (rfl)))⟩, rfl, rfl⟩ | exact ⟨.int .i64 3, ⟨3, by go_num, by first | exact HN | exact (trivial : True), .inr (.inr (.inr (rfl)))⟩, rfl⟩ | exact ⟨_, _, .int .i64 3, _, _, _, _, _, _, _, _, _, _, _, _, _, _, _, _, _, _, _, _, _, _, _, _, _, _, ⟨3, by go_num, by first | exact HN | exact (trivial : True), .inr (.inr (.inr (rfl)))⟩, rfl⟩ | exact ⟨3, by go_num, by first | exact HN | exact (trivial : True), .inr (.inr (.inr (rfl)))⟩
        · have HE := HI.out
          obtain ⟨c0, c1, c2, c3, c4, _⟩ := cells5 HE.gi
          obtain ⟨k0, k1, k2, k3, _⟩ := cells4 HE.gk
          clear HR HZ HI
          go_wp2_with fail
          go_at_call 57
          refine (ht _).mono ?_
          rintro e wa ⟨rfl, hwa⟩
          rw [hwa]
          clear hwa wa
          go_wp2_with fail
          go_at_call 54
          refine (pb _).mono ?_
          rintro e wa ⟨rfl, hwa⟩
          rw [hwa]
          clear hwa wa
          go_wp2
          go_ret2
          exact ⟨rfl, HE.kp⟩

set_option maxRecDepth 100000 in
set_option maxHeartbeats 8000000 in
theorem renc_5p (w : World) (op d a b n : Int) (s : ByteArray) (im sh : Int) (y0 y1 : Int) (ho : 0 ≤ op ∧ op < 64) (hd : 0 ≤ d ∧ d < 256) (ha : 0 ≤ a ∧ a < 256) (hb : 0 ≤ b ∧ b < 256) (hnb : -2147483648 ≤ n ∧ n ≤ 2147483647) (ey : op * 67108864 = y0) (e0 : y0 + 4194304 * d = y1) (dk : ¬ 15 < d) (ak : ¬ 0 < a) (bk : ¬ 0 < b) (ht : ∀ w, Calls Tryz.prog 57 #[.int .u8 im, .int .i64 0, .int .i64 n] w fun e w' => e = .returned (.bool true) ∧ w' = w) (hn : 0 ≤ n) (z : Int) (ez : y1 + n = z) (hz : 0 ≤ z ∧ z < 4294967296) 
    (hO : ∀ V, Calls Tryz.prog 55 #[.int .i64 op] V fun e w' => e = .returned (.tuple #[.agg #[.string s, .int .i64 5, .int .u8 im, .int .u8 sh], .bool true]) ∧ Kp V w') :
    Calls Tryz.prog 58 #[iv op d a b n] w fun e w' => e = .returned (.tuple #[.int .u32 z, .int .i64 0]) ∧ Kp w w' := by
  have p26 : ∀ w, Calls Tryz.prog 54 #[.int .i64 26] w fun e w' => e = .returned (.int .i64 67108864) ∧ w' = w := fun w => power_any w 26 (by decide) _ rfl
  have p22 : ∀ w, Calls Tryz.prog 54 #[.int .i64 22] w fun e w' => e = .returned (.int .i64 4194304) ∧ w' = w := fun w => power_any w 22 (by decide) _ rfl
  have pb : ∀ w, Calls Tryz.prog 54 #[.int .i64 0] w fun e w' => e = .returned (.int .i64 1) ∧ w' = w := fun w => power_any w 0 (by decide) _ rfl
  have hRD := fun V => rregD V op d a b n hd
  have hRA := fun V => rregA V op d a b n ha
  have hRB := fun V => rregB V op d a b n hb
  have wy0 : wrap64 y0 = y0 := w64' _ (by omega) (by omega)
  have wn : wrap64 n = n := w64' _ (by omega) (by omega)
  have wzv : wrap64 z = z := w64' _ (by omega) (by omega)
  have wzu : z % 4294967296 = z := by omega
  have hn0 : ¬ n < 0 := by omega
  have m0 : IntKind.i64.wrap (4194304 * d) = 4194304 * d := w64 _ (by omega) (by omega)
  have p0 : IntKind.i64.wrap (y0 + 4194304 * d) = y0 + 4194304 * d := w64 _ (by omega) (by omega)
  clear ho hd ha hb hnb
  go_enter Tryz.func58, Tryz.ntmps58
  go_wp2_with fail
  go_at_call 55
  refine (hO _).mono ?_
  rintro e w2 ⟨rfl, k2⟩
  have S0 : Se w (w2.alloc (.cells #[.string s, .int .i64 5, .int .u8 im, .int .u8 sh] 116)) w2.heap.size op d a b n #[.string s, .int .i64 5, .int .u8 im, .int .u8 sh] :=
    ⟨(Kp.trans ((Chg.refl _ _).alloc _) k2).alloc _, al_old _ (Kp.heap k2 (heap_alloc_new w _)), heap_alloc_new w2 _⟩
  go_wp2_with fail
  go_at_call 56
  refine (fields_5 _).mono ?_
  rintro e wa ⟨rfl, hwa⟩
  rw [hwa]
  clear hwa wa
  obtain ⟨W, hW⟩ : ∃ W, W = w2.alloc (.cells #[.string s, .int .i64 5, .int .u8 im, .int .u8 sh] 116) := ⟨_, rfl⟩
  rw [← hW] at S0 ⊢
  generalize w2.heap.size = bk at *
  clear hW k2 hO
  obtain ⟨c0, c1, c2, c3, c4, _⟩ := cells5 S0.gi
  go_wp2_with fail
  go_quiet (first | (go_at_call 54; exact Calls.quiet_of_same (p26 _)) | fail)
  generalize hW1 : W.drewN nq = W1
  have S1 : Se w W1 bk op d a b n #[.string s, .int .i64 5, .int .u8 im, .int .u8 sh] := by rw [← hW1]; exact S0.call ((Chg.refl _ _).drewN _)
  clear hW1 S0 c0 c1 c2 c3 c4
  have HS : Hid _ := S1
  clear S1
  go_wp2_with fail
  go_at_call 54
  refine (p22 _).mono ?_
  rintro e wa ⟨rfl, hwa⟩
  rw [hwa]
  clear hwa wa p26 p22
  go_wp2
  go_loopw [8, 9, 10] (fun s8 s9 s10 wr => ∃ (j : Nat) (y u : Int), s8 = .int .i64 y ∧ s9 = .int .i64 u ∧ s10 = .int .i64 j ∧ Hid (Se w wr bk op d a b n #[.string s, .int .i64 5, .int .u8 im, .int .u8 sh]) ∧ Hid ((0 = j ∧ y0 = y ∧ 4194304 = u) ∨ (1 = j ∧ y1 = y ∧ 262144 = u))) (fun _ _ s10 _ => 1 - (intOf s10).toNat)
  case atStart => exact ⟨0, y0, 4194304, rfl, rfl, rfl, HS, .inl ⟨rfl, rfl, rfl⟩⟩
  case round =>
    obtain ⟨j, y, u, rfl, rfl, rfl, HI, HR⟩ := hrel
    clear HS
    rcases HR.out with ⟨rfl, rfl, rfl⟩ | ⟨rfl, rfl, rfl⟩
    · have hix : ∀ w : World, (Instr.index 9 (.string ⟨#[68]⟩) (.int .i64 0)).run Tryz.prog w = .ok (.int .u8 68) w := fun w => by kernel_rfl
      clear HR
      go_wp2_with fail
      refine reg21_10 wr w.heap.size op d a b n HI.out.gi ⟨#[68]⟩ 0 68 d y0 4194304 m0 p0 hix (fun V _ => hRD V) _ (fun _ _ _ q _ h => by cases q <;> exact h) ?_
      intro V kV
      have HN := HI.out.call kV
      go_wp2
      exact ⟨⟨1, y1, 262144, by go_num, by go_num, by go_num, HN, .inr (⟨rfl, rfl, rfl⟩)⟩, by simp [intOf]⟩
    · have HZ : Hid _ := HI.out
      clear HI HR
      go_wp2
      rename World => WR
      go_loopw [12] (fun s12 wx => ∃ j : Nat, s12 = .int .i64 j ∧ Hid (Se w wx bk op d a b n #[.string s, .int .i64 5, .int .u8 im, .int .u8 sh]) ∧ Hid (0 = j ∨ 1 = j ∨ 2 = j ∨ 3 = j)) (fun s12 _ => 3 - (intOf s12).toNat)
      case atStart => exact ⟨0, rfl, HZ, .inl rfl⟩
      case round =>
        obtain ⟨j, rfl, HI, HR⟩ := hrel
        rcases HR.out with rfl | rfl | rfl | rfl
        · have hix : ∀ w : World, (Instr.index 9 (.string ⟨#[68, 65, 66]⟩) (.int .i64 0)).run Tryz.prog w = .ok (.int .u8 68) w := fun w => by kernel_rfl
          have eb : ∀ hb, ((((⟨#[68, 65, 66]⟩ : ByteArray)[0]'hb).toNat : Nat) : Int) = 68 := fun _ => rfl
          have hH := fun w => has_D_D w
          clear HR HZ
          by_cases hz : 0 < d
          · go_wp2_with fail
            refine reg21_16 _ w.heap.size op d a b n HI.out.gi ⟨#[68, 65, 66]⟩ 0 68 d hix (fun V _ => hRD V) _ (fun _ _ _ q _ h => by cases q <;> exact h) ?_
            intro V kV
            have HN := HI.out.call kV
            go_wp2_with (go_at_call 104; refine (hH _).mono ?_; rintro e wa ⟨rfl, rfl⟩)
            all_goals refine ⟨?_, by simp [intOf]⟩
            all_goals first | exact ⟨_, _, .int .i64 1, ⟨1, by go_num, by first | exact HN | exact (trivial : True), .inr (.inl rfl)⟩, rfl, rfl, rfl⟩ | exact ⟨_, .int .i64 1, ⟨1, by go_num, by first | exact HN | exact (trivial : True), .inr (.inl rfl)⟩, rfl, rfl⟩ | exact ⟨.int .i64 1, ⟨1, by go_num, by first | exact HN | exact (trivial : True), .inr (.inl rfl)⟩, rfl⟩ | exact ⟨_, _, .int .i64 1, _, _, _, _, _, _, _, _, _, _, _, _, _, _, _, _, _, _, _, _, _, _, _, _, _, _, ⟨1, by go_num, by first | exact HN | exact (trivial : True), .inr (.inl rfl)⟩, rfl⟩ | exact ⟨1, by go_num, by first | exact HN | exact (trivial : True), .inr (.inl rfl)⟩
          · go_wp2_with fail
            refine reg21_16 _ w.heap.size op d a b n HI.out.gi ⟨#[68, 65, 66]⟩ 0 68 d hix (fun V _ => hRD V) _ (fun _ _ _ q _ h => by cases q <;> exact h) ?_
            intro V kV
            have HN := HI.out.call kV
            go_wp2_with (go_at_call 104; refine (hH _).mono ?_; rintro e wa ⟨rfl, rfl⟩)
            all_goals refine ⟨?_, by simp [intOf]⟩
            all_goals first | exact ⟨_, _, .int .i64 1, ⟨1, by go_num, by first | exact HN | exact (trivial : True), .inr (.inl rfl)⟩, rfl, rfl, rfl⟩ | exact ⟨_, .int .i64 1, ⟨1, by go_num, by first | exact HN | exact (trivial : True), .inr (.inl rfl)⟩, rfl, rfl⟩ | exact ⟨.int .i64 1, ⟨1, by go_num, by first | exact HN | exact (trivial : True), .inr (.inl rfl)⟩, rfl⟩ | exact ⟨_, _, .int .i64 1, _, _, _, _, _, _, _, _, _, _, _, _, _, _, _, _, _, _, _, _, _, _, _, _, _, _, ⟨1, by go_num, by first | exact HN | exact (trivial : True), .inr (.inl rfl)⟩, rfl⟩ | exact ⟨1, by go_num, by first | exact HN | exact (trivial : True), .inr (.inl rfl)⟩
        · have hix : ∀ w : World, (Instr.index 9 (.string ⟨#[68, 65, 66]⟩) (.int .i64 1)).run Tryz.prog w = .ok (.int .u8 65) w := fun w => by kernel_rfl
          have eb : ∀ hb, ((((⟨#[68, 65, 66]⟩ : ByteArray)[1]'hb).toNat : Nat) : Int) = 65 := fun _ => rfl
          have hH := fun w => has_D_A w
          clear HR HZ
          go_wp2_with fail
          refine reg21_16 _ w.heap.size op d a b n HI.out.gi ⟨#[68, 65, 66]⟩ 1 65 a hix (fun V _ => hRA V) _ (fun _ _ _ q _ h => by cases q <;> exact h) ?_
          intro V kV
          have HN := HI.out.call kV
          go_wp2_with (go_at_call 104; refine (hH _).mono ?_; rintro e wa ⟨rfl, rfl⟩)
          all_goals refine ⟨?_, by simp [intOf]⟩
          all_goals first | exact ⟨_, _, .int .i64 2, ⟨2, by go_num, by first | exact HN | exact (trivial : True), .inr (.inr (.inl rfl))⟩, rfl, rfl, rfl⟩ | exact ⟨_, .int .i64 2, ⟨2, by go_num, by first | exact HN | exact (trivial : True), .inr (.inr (.inl rfl))⟩, rfl, rfl⟩ | exact ⟨.int .i64 2, ⟨2, by go_num, by first | exact HN | exact (trivial : True), .inr (.inr (.inl rfl))⟩, rfl⟩ | exact ⟨_, _, .int .i64 2, _, _, _, _, _, _, _, _, _, _, _, _, _, _, _, _, _, _, _, _, _, _, _, _, _, _, ⟨2, by go_num, by first | exact HN | exact (trivial : True), .inr (.inr (.inl rfl))⟩, rfl⟩ | exact ⟨2, by go_num, by first | exact HN | exact (trivial : True), .inr (.inr (.inl rfl))⟩
        · have hix : ∀ w : World, (Instr.index 9 (.string ⟨#[68, 65, 66]⟩) (.int .i64 2)).run Tryz.prog w = .ok (.int .u8 66) w := fun w => by kernel_rfl
          have eb : ∀ hb, ((((⟨#[68, 65, 66]⟩ : ByteArray)[2]'hb).toNat : Nat) : Int) = 66 := fun _ => rfl
          have hH := fun w => has_D_B w
          clear HR HZ
          go_wp2_with fail
          refine reg21_16 _ w.heap.size op d a b n HI.out.gi ⟨#[68, 65, 66]⟩ 2 66 b hix (fun V _ => hRB V) _ (fun _ _ _ q _ h => by cases q <;> exact h) ?_
          intro V kV
          have HN := HI.out.call kV
          go_wp2_with (go_at_call 104; refine (hH _).mono ?_; rintro e wa ⟨rfl, rfl⟩)
          all_goals refine ⟨?_, by simp [intOf]⟩
          all_goals first | exact ⟨_, _, .int .i64 3, ⟨3, by go_num, by first | exact HN | exact (trivial : True), .inr (.inr (.inr (rfl)))⟩, rfl, rfl, rfl⟩ | exact ⟨_, .int .i64 3, ⟨3, by go_num, by first | exact HN | exact (trivial : True), .inr (.inr (.inr (rfl)))⟩, rfl, rfl⟩ | exact ⟨.int .i64 3, ⟨3, by go_num, by first | exact HN | exact (trivial : True), .inr (.inr (.inr (rfl)))⟩, rfl⟩ | exact ⟨_, _, .int .i64 3, _, _, _, _, _, _, _, _, _, _, _, _, _, _, _, _, _, _, _, _, _, _, _, _, _, _, ⟨3, by go_num, by first | exact HN | exact (trivial : True), .inr (.inr (.inr (rfl)))⟩, rfl⟩ | exact ⟨3, by go_num, by first | exact HN | exact (trivial : True), .inr (.inr (.inr (rfl)))⟩
        · have HE := HI.out
          obtain ⟨c0, c1, c2, c3, c4, _⟩ := cells5 HE.gi
          obtain ⟨k0, k1, k2, k3, _⟩ := cells4 HE.gk
          clear HR HZ HI
          go_wp2_with fail
          go_at_call 57
          refine (ht _).mono ?_
          rintro e wa ⟨rfl, hwa⟩
          rw [hwa]
          clear hwa wa
          go_wp2
          go_ret2
          exact ⟨rfl, HE.kp⟩

set_option maxRecDepth 100000 in
set_option maxHeartbeats 8000000 in
theorem renc_6p (w : World) (op d a b n : Int) (s : ByteArray) (im sh : Int) (y0 y1 : Int) (ho : 0 ≤ op ∧ op < 64) (hd : 0 ≤ d ∧ d < 256) (ha : 0 ≤ a ∧ a < 256) (hb : 0 ≤ b ∧ b < 256) (hnb : -2147483648 ≤ n ∧ n ≤ 2147483647) (ey : op * 67108864 = y0) (e0 : y0 + 4194304 * a = y1) (dk : ¬ 0 < d) (ak : ¬ 15 < a) (bk : ¬ 0 < b) (ht : ∀ w, Calls Tryz.prog 57 #[.int .u8 im, .int .i64 0, .int .i64 n] w fun e w' => e = .returned (.bool true) ∧ w' = w) (hn : 0 ≤ n) (z : Int) (ez : y1 + n = z) (hz : 0 ≤ z ∧ z < 4294967296) 
    (hO : ∀ V, Calls Tryz.prog 55 #[.int .i64 op] V fun e w' => e = .returned (.tuple #[.agg #[.string s, .int .i64 6, .int .u8 im, .int .u8 sh], .bool true]) ∧ Kp V w') :
    Calls Tryz.prog 58 #[iv op d a b n] w fun e w' => e = .returned (.tuple #[.int .u32 z, .int .i64 0]) ∧ Kp w w' := by
  have p26 : ∀ w, Calls Tryz.prog 54 #[.int .i64 26] w fun e w' => e = .returned (.int .i64 67108864) ∧ w' = w := fun w => power_any w 26 (by decide) _ rfl
  have p22 : ∀ w, Calls Tryz.prog 54 #[.int .i64 22] w fun e w' => e = .returned (.int .i64 4194304) ∧ w' = w := fun w => power_any w 22 (by decide) _ rfl
  have pb : ∀ w, Calls Tryz.prog 54 #[.int .i64 0] w fun e w' => e = .returned (.int .i64 1) ∧ w' = w := fun w => power_any w 0 (by decide) _ rfl
  have hRD := fun V => rregD V op d a b n hd
  have hRA := fun V => rregA V op d a b n ha
  have hRB := fun V => rregB V op d a b n hb
  have wy0 : wrap64 y0 = y0 := w64' _ (by omega) (by omega)
  have wn : wrap64 n = n := w64' _ (by omega) (by omega)
  have wzv : wrap64 z = z := w64' _ (by omega) (by omega)
  have wzu : z % 4294967296 = z := by omega
  have hn0 : ¬ n < 0 := by omega
  have m0 : IntKind.i64.wrap (4194304 * a) = 4194304 * a := w64 _ (by omega) (by omega)
  have p0 : IntKind.i64.wrap (y0 + 4194304 * a) = y0 + 4194304 * a := w64 _ (by omega) (by omega)
  clear ho hd ha hb hnb
  go_enter Tryz.func58, Tryz.ntmps58
  go_wp2_with fail
  go_at_call 55
  refine (hO _).mono ?_
  rintro e w2 ⟨rfl, k2⟩
  have S0 : Se w (w2.alloc (.cells #[.string s, .int .i64 6, .int .u8 im, .int .u8 sh] 116)) w2.heap.size op d a b n #[.string s, .int .i64 6, .int .u8 im, .int .u8 sh] :=
    ⟨(Kp.trans ((Chg.refl _ _).alloc _) k2).alloc _, al_old _ (Kp.heap k2 (heap_alloc_new w _)), heap_alloc_new w2 _⟩
  go_wp2_with fail
  go_at_call 56
  refine (fields_6 _).mono ?_
  rintro e wa ⟨rfl, hwa⟩
  rw [hwa]
  clear hwa wa
  obtain ⟨W, hW⟩ : ∃ W, W = w2.alloc (.cells #[.string s, .int .i64 6, .int .u8 im, .int .u8 sh] 116) := ⟨_, rfl⟩
  rw [← hW] at S0 ⊢
  generalize w2.heap.size = bk at *
  clear hW k2 hO
  obtain ⟨c0, c1, c2, c3, c4, _⟩ := cells5 S0.gi
  go_wp2_with fail
  go_quiet (first | (go_at_call 54; exact Calls.quiet_of_same (p26 _)) | fail)
  generalize hW1 : W.drewN nq = W1
  have S1 : Se w W1 bk op d a b n #[.string s, .int .i64 6, .int .u8 im, .int .u8 sh] := by rw [← hW1]; exact S0.call ((Chg.refl _ _).drewN _)
  clear hW1 S0 c0 c1 c2 c3 c4
  have HS : Hid _ := S1
  clear S1
  go_wp2_with fail
  go_at_call 54
  refine (p22 _).mono ?_
  rintro e wa ⟨rfl, hwa⟩
  rw [hwa]
  clear hwa wa p26 p22
  go_wp2
  go_loopw [8, 9, 10] (fun s8 s9 s10 wr => ∃ (j : Nat) (y u : Int), s8 = .int .i64 y ∧ s9 = .int .i64 u ∧ s10 = .int .i64 j ∧ Hid (Se w wr bk op d a b n #[.string s, .int .i64 6, .int .u8 im, .int .u8 sh]) ∧ Hid ((0 = j ∧ y0 = y ∧ 4194304 = u) ∨ (1 = j ∧ y1 = y ∧ 262144 = u))) (fun _ _ s10 _ => 1 - (intOf s10).toNat)
  case atStart => exact ⟨0, y0, 4194304, rfl, rfl, rfl, HS, .inl ⟨rfl, rfl, rfl⟩⟩
  case round =>
    obtain ⟨j, y, u, rfl, rfl, rfl, HI, HR⟩ := hrel
    clear HS
    rcases HR.out with ⟨rfl, rfl, rfl⟩ | ⟨rfl, rfl, rfl⟩
    · have hix : ∀ w : World, (Instr.index 9 (.string ⟨#[65]⟩) (.int .i64 0)).run Tryz.prog w = .ok (.int .u8 65) w := fun w => by kernel_rfl
      clear HR
      go_wp2_with fail
      refine reg21_10 wr w.heap.size op d a b n HI.out.gi ⟨#[65]⟩ 0 65 a y0 4194304 m0 p0 hix (fun V _ => hRA V) _ (fun _ _ _ q _ h => by cases q <;> exact h) ?_
      intro V kV
      have HN := HI.out.call kV
      go_wp2
      exact ⟨⟨1, y1, 262144, by go_num, by go_num, by go_num, HN, .inr (⟨rfl, rfl, rfl⟩)⟩, by simp [intOf]⟩
    · have HZ : Hid _ := HI.out
      clear HI HR
      go_wp2
      rename World => WR
      go_loopw [12] (fun s12 wx => ∃ j : Nat, s12 = .int .i64 j ∧ Hid (Se w wx bk op d a b n #[.string s, .int .i64 6, .int .u8 im, .int .u8 sh]) ∧ Hid (0 = j ∨ 1 = j ∨ 2 = j ∨ 3 = j)) (fun s12 _ => 3 - (intOf s12).toNat)
      case atStart => exact ⟨0, rfl, HZ, .inl rfl⟩
      case round =>
        obtain ⟨j, rfl, HI, HR⟩ := hrel
        rcases HR.out with rfl | rfl | rfl | rfl
        · have hix : ∀ w : World, (Instr.index 9 (.string ⟨#[68, 65, 66]⟩) (.int .i64 0)).run Tryz.prog w = .ok (.int .u8 68) w := fun w => by kernel_rfl
          have eb : ∀ hb, ((((⟨#[68, 65, 66]⟩ : ByteArray)[0]'hb).toNat : Nat) : Int) = 68 := fun _ => rfl
          have hH := fun w => has_A_D w
          clear HR HZ
          go_wp2_with fail
          refine reg21_16 _ w.heap.size op d a b n HI.out.gi ⟨#[68, 65, 66]⟩ 0 68 d hix (fun V _ => hRD V) _ (fun _ _ _ q _ h => by cases q <;> exact h) ?_
          intro V kV
          have HN := HI.out.call kV
          go_wp2_with (go_at_call 104; refine (hH _).mono ?_; rintro e wa ⟨rfl, rfl⟩)
          all_goals refine ⟨?_, by simp [intOf]⟩
          all_goals first | exact ⟨_, _, .int .i64 1, ⟨1, by go_num, by first | exact HN | exact (trivial : True), .inr (.inl rfl)⟩, rfl, rfl, rfl⟩ | exact ⟨_, .int .i64 1, ⟨1, by go_num, by first | exact HN | exact (trivial : True), .inr (.inl rfl)⟩, rfl, rfl⟩ | exact ⟨.int .i64 1, ⟨1, by go_num, by first | exact HN | exact (trivial : True), .inr (.inl rfl)⟩, rfl⟩ | exact ⟨_, _, .int .i64 1, _, _, _, _, _, _, _, _, _, _, _, _, _, _, _, _, _, _, _, _, _, _, _, _, _, _, ⟨1, by go_num, by first | exact HN | exact (trivial : True), .inr (.inl rfl)⟩, rfl⟩ | exact ⟨1, by go_num, by first | exact HN | exact (trivial : True), .inr (.inl rfl)⟩
        · have hix : ∀ w : World, (Instr.index 9 (.string ⟨#[68, 65, 66]⟩) (.int .i64 1)).run Tryz.prog w = .ok (.int .u8 65) w := fun w => by kernel_rfl
          have eb : ∀ hb, ((((⟨#[68, 65, 66]⟩ : ByteArray)[1]'hb).toNat : Nat) : Int) = 65 := fun _ => rfl
          have hH := fun w => has_A_A w
          clear HR HZ
          by_cases hz : 0 < a
          · go_wp2_with fail
            refine reg21_16 _ w.heap.size op d a b n HI.out.gi ⟨#[68, 65, 66]⟩ 1 65 a hix (fun V _ => hRA V) _ (fun _ _ _ q _ h => by cases q <;> exact h) ?_
            intro V kV
            have HN := HI.out.call kV
            go_wp2_with (go_at_call 104; refine (hH _).mono ?_; rintro e wa ⟨rfl, rfl⟩)
            all_goals refine ⟨?_, by simp [intOf]⟩
            all_goals first | exact ⟨_, _, .int .i64 2, ⟨2, by go_num, by first | exact HN | exact (trivial : True), .inr (.inr (.inl rfl))⟩, rfl, rfl, rfl⟩ | exact ⟨_, .int .i64 2, ⟨2, by go_num, by first | exact HN | exact (trivial : True), .inr (.inr (.inl rfl))⟩, rfl, rfl⟩ | exact ⟨.int .i64 2, ⟨2, by go_num, by first | exact HN | exact (trivial : True), .inr (.inr (.inl rfl))⟩, rfl⟩ | exact ⟨_, _, .int .i64 2, _, _, _, _, _, _, _, _, _, _, _, _, _, _, _, _, _, _, _, _, _, _, _, _, _, _, ⟨2, by go_num, by first | exact HN | exact (trivial : True), .inr (.inr (.inl rfl))⟩, rfl⟩ | exact ⟨2, by go_num, by first | exact HN | exact (trivial : True), .inr (.inr (.inl rfl))⟩
          · go_wp2_with fail
            refine reg21_16 _ w.heap.size op d a b n HI.out.gi ⟨#[68, 65, 66]⟩ 1 65 a hix (fun V _ => hRA V) _ (fun _ _ _ q _ h => by cases q <;> exact h) ?_
            intro V kV
            have HN := HI.out.call kV
            go_wp2_with (go_at_call 104; refine (hH _).mono ?_; rintro e wa ⟨rfl, rfl⟩)
            all_goals refine ⟨?_, by simp [intOf]⟩
            all_goals first | exact ⟨_, _, .int .i64 2, ⟨2, by go_num, by first | exact HN | exact (trivial : True), .inr (.inr (.inl rfl))⟩, rfl, rfl, rfl⟩ | exact ⟨_, .int .i64 2, ⟨2, by go_num, by first | exact HN | exact (trivial : True), .inr (.inr (.inl rfl))⟩, rfl, rfl⟩ | exact ⟨.int .i64 2, ⟨2, by go_num, by first | exact HN | exact (trivial : True), .inr (.inr (.inl rfl))⟩, rfl⟩ | exact ⟨_, _, .int .i64 2, _, _, _, _, _, _, _, _, _, _, _, _, _, _, _, _, _, _, _, _, _, _, _, _, _, _, ⟨2, by go_num, by first | exact HN | exact (trivial : True), .inr (.inr (.inl rfl))⟩, rfl⟩ | exact ⟨2, by go_num, by first | exact HN | exact (trivial : True), .inr (.inr (.inl rfl))⟩
        · have hix : ∀ w : World, (Instr.index 9 (.string ⟨#[68, 65, 66]⟩) (.int .i64 2)).run Tryz.prog w = .ok (.int .u8 66) w := fun w => by kernel_rfl
          have eb : ∀ hb, ((((⟨#[68, 65, 66]⟩ : ByteArray)[2]'hb).toNat : Nat) : Int) = 66 := fun _ => rfl
          have hH := fun w => has_A_B w
          clear HR HZ
          go_wp2_with fail
          refine reg21_16 _ w.heap.size op d a b n HI.out.gi ⟨#[68, 65, 66]⟩ 2 66 b hix (fun V _ => hRB V) _ (fun _ _ _ q _ h => by cases q <;> exact h) ?_
          intro V kV
          have HN := HI.out.call kV
          go_wp2_with (go_at_call 104; refine (hH _).mono ?_; rintro e wa ⟨rfl, rfl⟩)
          all_goals refine ⟨?_, by simp [intOf]⟩
          all_goals first | exact ⟨_, _, .int .i64 3, ⟨3, by go_num, by first | exact HN | exact (trivial : True), .inr (.inr (.inr (rfl)))⟩, rfl, rfl, rfl⟩ | exact ⟨_, .int .i64 3, ⟨3, by go_num, by first | exact HN | exact (trivial : True), .inr (.inr (.inr (rfl)))⟩, rfl, rfl⟩ | exact ⟨.int .i64 3, ⟨3, by go_num, by first | exact HN | exact (trivial : True), .inr (.inr (.inr (rfl)))⟩, rfl⟩ | exact ⟨_, _, .int .i64 3, _, _, _, _, _, _, _, _, _, _, _, _, _, _, _, _, _, _, _, _, _, _, _, _, _, _, ⟨3, by go_num, by first | exact HN | exact (trivial : True), .inr (.inr (.inr (rfl)))⟩, rfl⟩ | exact ⟨3, by go_num, by first | exact HN | exact (trivial : True), .inr (.inr (.inr (rfl)))⟩
        · have HE := HI.out
          obtain ⟨c0, c1, c2, c3, c4, _⟩ := cells5 HE.gi
          obtain ⟨k0, k1, k2, k3, _⟩ := cells4 HE.gk
          clear HR HZ HI
          go_wp2_with fail
          go_at_call 57
          refine (ht _).mono ?_
          rintro e wa ⟨rfl, hwa⟩
          rw [hwa]
          clear hwa wa
          go_wp2
          go_ret2
          exact ⟨rfl, HE.kp⟩
end Go.Proofs.YtgofjmhdgmfgfaaGreatDoor
