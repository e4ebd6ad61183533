import Derived.Test.YtgofjmhdgmfgfaaGreatDoorRd
namespace Go.Proofs.YtgofjmhdgmfgfaaGreatDoor
open Go.ChangeShapes Go.WideShapes Go.ChangeAt Go.RowKit
set_option linter.unusedVariables false

set_option maxRecDepth 100000 in
set_option maxHeartbeats 8000000 in
theorem rdec_50ok (w : World) (v' op : Int) (s : ByteArray) (sh : Int) (x0 x1 e1 : Int) (hv : 0 ≤ v' ∧ v' < 4294967296) (q : v'.tdiv 67108864 = op) (r : v'.tmod 67108864 = x0) (ho : 0 ≤ op ∧ op < 64) (q0 : x0.tdiv 4194304 = e1) (r0 : x0.tmod 4194304 = x1) (z0 : 0 ≤ e1 ∧ e1 < 16) (y0 : 0 ≤ x0 ∧ x0 < 67108864) (y1 : 0 ≤ x1 ∧ x1 < 67108864) (hx : x1 < 1)
    (hO : ∀ V, Calls Tryz.prog 55 #[.int .i64 op] V fun e w' => e = .returned (.tuple #[.agg #[.string s, .int .i64 5, .int .u8 45, .int .u8 sh], .bool true]) ∧ Kp V w') :
    Calls Tryz.prog 28 #[.int .u32 v'] w fun e w' => e = .returned (.tuple #[iv op e1 0 0 x1, .int .i64 0]) ∧ Kp w w' := by
  have p26 : ∀ w, Calls Tryz.prog 54 #[.int .i64 26] w fun e w' => e = .returned (.int .i64 67108864) ∧ w' = w := fun w => power_any w 26 (by decide) _ rfl
  have p22 : ∀ w, Calls Tryz.prog 54 #[.int .i64 22] w fun e w' => e = .returned (.int .i64 4194304) ∧ w' = w := fun w => power_any w 22 (by decide) _ rfl
  have pb : ∀ w, Calls Tryz.prog 54 #[.int .i64 0] w fun e w' => e = .returned (.int .i64 1) ∧ w' = w := fun w => power_any w 0 (by decide) _ rfl
  have ht : ∀ w, Calls Tryz.prog 57 #[.int .u8 45, .int .i64 0, .int .i64 x1] w fun e w' => e = .returned (.bool true) ∧ w' = w := fun w => by
    have := takes_0 w 0 x1
    rw [decide_eq_true (by omega), decide_eq_true (by omega)] at this
    exact this
  obtain ⟨hv0, hv1⟩ := hv
  obtain ⟨ho0, ho1⟩ := ho
  have ho6 : wrap64 op = op := by simp only [wrap64]; omega
  go_enter Tryz.func28, Tryz.ntmps28
  go_wp2_with fail
  go_at_call 54
  refine (p26 _).mono ?_
  rintro e wa ⟨rfl, rfl⟩
  go_wp2_with fail
  go_at_call 55
  refine (hO _).mono ?_
  rintro e w2 ⟨rfl, k2⟩
  have S0 : Sd w (w2.alloc (.cells #[.string s, .int .i64 5, .int .u8 45, .int .u8 sh] 116)) (w.heap.size + 1) w2.heap.size op 0 0 0 #[.string s, .int .i64 5, .int .u8 45, .int .u8 sh] := by
    have h1 := heap_alloc_new w (.cells #[.int .i64 0, .int .u8 0, .int .u8 0, .int .u8 0, .int .i32 0] 48)
    have h2 := heap_alloc_new (w.alloc (.cells #[.int .i64 0, .int .u8 0, .int .u8 0, .int .u8 0, .int .i32 0] 48)) (.cells #[.int .i64 op, .int .u8 0, .int .u8 0, .int .u8 0, .int .i32 0] 48)
    rw [al_size] at h2
    have h3 := hp_lt (Kp.heap k2 h2)
    exact ⟨(Kp.trans (((Chg.refl _ _).alloc _).alloc _) k2).alloc _, al_old _ (Kp.heap k2 (al_old _ h1)), al_old _ (Kp.heap k2 h2), heap_alloc_new w2 _, by omega, by omega⟩
  go_wp2_with fail
  go_at_call 54
  refine (p26 _).mono ?_
  rintro e wa ⟨rfl, hwa⟩
  rw [hwa]
  clear hwa wa
  go_wp2_with fail
  go_at_call 56
  refine (fields_5 _).mono ?_
  rintro e wa ⟨rfl, hwa⟩
  rw [hwa]
  clear hwa wa
  go_wp2_with fail
  go_at_call 54
  refine (p22 _).mono ?_
  rintro e wa ⟨rfl, hwa⟩
  rw [hwa]
  clear hwa wa
  obtain ⟨W, hW⟩ : ∃ W, W = w2.alloc (.cells #[.string s, .int .i64 5, .int .u8 45, .int .u8 sh] 116) := ⟨_, rfl⟩
  rw [← hW] at S0 ⊢
  generalize w2.heap.size = bk at *
  obtain ⟨bi, hbi⟩ : ∃ bi, bi = w.heap.size + 1 := ⟨_, rfl⟩
  rw [← hbi] at S0 ⊢
  clear hW hbi k2 p26 p22 hO
  have HS : Hid _ := S0
  clear S0
  go_wp2
  go_loopw [8, 11, 12] (fun s8 s11 s12 wr => ∃ (j : Nat) (x u D A B : Int), s8 = .int .i64 x ∧ s11 = .int .i64 u ∧ s12 = .int .i64 j ∧ Hid (Sd w wr bi bk op D A B #[.string s, .int .i64 5, .int .u8 45, .int .u8 sh]) ∧ Hid ((0 = j ∧ x0 = x ∧ 4194304 = u ∧ 0 = D ∧ 0 = A ∧ 0 = B) ∨ (1 = j ∧ x1 = x ∧ 262144 = u ∧ e1 = D ∧ 0 = A ∧ 0 = B))) (fun _ _ s12 _ => 1 - (intOf s12).toNat)
  case atStart => exact ⟨0, x0, 4194304, 0, 0, 0, rfl, rfl, rfl, HS, .inl ⟨rfl, rfl, rfl, rfl, rfl, rfl⟩⟩
  case round =>
    obtain ⟨j, x, u, D, A, B, rfl, rfl, rfl, HI, HR⟩ := hrel
    clear HS
    obtain ⟨c0, c1, c2, c3, c4, f0, f1, f2, f3, f4⟩ := cells5 HI.out.gi
    obtain ⟨k0, k1, k2, k3, _⟩ := cells4 HI.out.gk
    obtain ⟨a0, a1, a2, a3, a4, g0, g1, g2, g3, g4⟩ := cells5 HI.out.g2
    rcases HR.out with ⟨rfl, rfl, rfl, rfl, rfl, rfl⟩ | ⟨rfl, rfl, rfl, rfl, rfl, rfl⟩
    · have eb : ∀ hb, ((((⟨#[68]⟩ : ByteArray)[0]'hb).toNat : Nat) : Int) = 68 := fun _ => rfl
      have m1 : e1 % 256 = e1 := by omega
      have HN := HI.out.setD e1
      clear HI HR
      go_wp2
      exact ⟨⟨1, x1, 262144, e1, 0, 0, by go_num, by go_num, by go_num, HN, .inr (⟨rfl, rfl, rfl, rfl, rfl, rfl⟩)⟩, by simp [intOf]⟩
    · have HZ := HI.out
      clear HI HR
      obtain ⟨yy0, yy1⟩ := y1
      go_wp2_with fail
      go_at_call 54
      refine (pb _).mono ?_
      rintro e wa ⟨rfl, hwa⟩
      rw [hwa]
      clear hwa wa
      have GI := heap_setCell_same wr bi 4 _ 48 (.int .i32 x1) HZ.gi
      have cI : Chg wr (wr.setCell ⟨bi, 4, none⟩ (.int .i32 x1)) (fun k => k = bi) := Chg.setCell (S := fun k => k = bi) (Chg.refl wr _) (.inl rfl) _
      have G2 := cI.heap HZ.g2 (by have := HZ.n1; omega)
      obtain ⟨d0, d1, d2, d3, d4, _⟩ := cells5 GI
      obtain ⟨h0, h1, h2, h3, h4, i0, i1, i2, i3, i4⟩ := cells5 G2
      have hw : wrap32 x1 = x1 := by simp only [wrap32]; omega
      go_wp2_with fail
      go_at_call 57
      refine (ht _).mono ?_
      rintro e wa ⟨rfl, hwa⟩
      rw [hwa]
      clear hwa wa
      go_wp2
      obtain ⟨V, hV⟩ : ∃ V, V = ((((((wr.setCell ⟨bi, 4, none⟩ (.int .i32 x1)).setCell ⟨w.heap.size, 0, none⟩ (.int .i64 op)).setCell ⟨w.heap.size, 1, none⟩ (.int .u8 e1)).setCell ⟨w.heap.size, 2, none⟩ (.int .u8 0)).setCell ⟨w.heap.size, 3, none⟩ (.int .u8 0)).setCell ⟨w.heap.size, 4, none⟩ (.int .i32 x1)) := ⟨_, rfl⟩
      rw [← hV]
      obtain ⟨v1, v2, v3⟩ := box5 G2 _ _ _ _ _ hV
      obtain ⟨r0, r1, r2, r3, r4, _⟩ := cells5 v1
      refine bodyPost_ret (v := .tuple #[iv op e1 0 0 x1, .int .i64 0]) (by simp [results, Tryz.results28, go_sem, r0, r1, r2, r3, r4]) rfl ⟨rfl, ?_⟩
      exact Chg.trans (Chg.trans HZ.kp cI (fun i hi e => by have := HZ.n1; omega)) v3 (fun i hi e => absurd e (Nat.ne_of_lt hi))

set_option maxRecDepth 100000 in
set_option maxHeartbeats 8000000 in
theorem rdec_60stray (w : World) (v' op : Int) (s : ByteArray) (sh : Int) (x0 x1 e1 : Int) (hv : 0 ≤ v' ∧ v' < 4294967296) (q : v'.tdiv 67108864 = op) (r : v'.tmod 67108864 = x0) (ho : 0 ≤ op ∧ op < 64) (q0 : x0.tdiv 4194304 = e1) (r0 : x0.tmod 4194304 = x1) (z0 : 0 ≤ e1 ∧ e1 < 16) (y0 : 0 ≤ x0 ∧ x0 < 67108864) (y1 : 0 ≤ x1 ∧ x1 < 67108864) (hx : 1 ≤ x1)
    (hO : ∀ V, Calls Tryz.prog 55 #[.int .i64 op] V fun e w' => e = .returned (.tuple #[.agg #[.string s, .int .i64 6, .int .u8 45, .int .u8 sh], .bool true]) ∧ Kp V w') :
    Calls Tryz.prog 28 #[.int .u32 v'] w fun e w' => e = .returned (.tuple #[iv 0 0 0 0 0, .int .i64 103]) ∧ Kp w w' := by
  have p26 : ∀ w, Calls Tryz.prog 54 #[.int .i64 26] w fun e w' => e = .returned (.int .i64 67108864) ∧ w' = w := fun w => power_any w 26 (by decide) _ rfl
  have p22 : ∀ w, Calls Tryz.prog 54 #[.int .i64 22] w fun e w' => e = .returned (.int .i64 4194304) ∧ w' = w := fun w => power_any w 22 (by decide) _ rfl
  have pb : ∀ w, Calls Tryz.prog 54 #[.int .i64 0] w fun e w' => e = .returned (.int .i64 1) ∧ w' = w := fun w => power_any w 0 (by decide) _ rfl
  obtain ⟨hv0, hv1⟩ := hv
  obtain ⟨ho0, ho1⟩ := ho
  have ho6 : wrap64 op = op := by simp only [wrap64]; omega
  go_enter Tryz.func28, Tryz.ntmps28
  go_wp2_with fail
  go_at_call 54
  refine (p26 _).mono ?_
  rintro e wa ⟨rfl, rfl⟩
  go_wp2_with fail
  go_at_call 55
  refine (hO _).mono ?_
  rintro e w2 ⟨rfl, k2⟩
  have S0 : Sd w (w2.alloc (.cells #[.string s, .int .i64 6, .int .u8 45, .int .u8 sh] 116)) (w.heap.size + 1) w2.heap.size op 0 0 0 #[.string s, .int .i64 6, .int .u8 45, .int .u8 sh] := by
    have h1 := heap_alloc_new w (.cells #[.int .i64 0, .int .u8 0, .int .u8 0, .int .u8 0, .int .i32 0] 48)
    have h2 := heap_alloc_new (w.alloc (.cells #[.int .i64 0, .int .u8 0, .int .u8 0, .int .u8 0, .int .i32 0] 48)) (.cells #[.int .i64 op, .int .u8 0, .int .u8 0, .int .u8 0, .int .i32 0] 48)
    rw [al_size] at h2
    have h3 := hp_lt (Kp.heap k2 h2)
    exact ⟨(Kp.trans (((Chg.refl _ _).alloc _).alloc _) k2).alloc _, al_old _ (Kp.heap k2 (al_old _ h1)), al_old _ (Kp.heap k2 h2), heap_alloc_new w2 _, by omega, by omega⟩
  go_wp2_with fail
  go_at_call 54
  refine (p26 _).mono ?_
  rintro e wa ⟨rfl, hwa⟩
  rw [hwa]
  clear hwa wa
  go_wp2_with fail
  go_at_call 56
  refine (fields_6 _).mono ?_
  rintro e wa ⟨rfl, hwa⟩
  rw [hwa]
  clear hwa wa
  go_wp2_with fail
  go_at_call 54
  refine (p22 _).mono ?_
  rintro e wa ⟨rfl, hwa⟩
  rw [hwa]
  clear hwa wa
  obtain ⟨W, hW⟩ : ∃ W, W = w2.alloc (.cells #[.string s, .int .i64 6, .int .u8 45, .int .u8 sh] 116) := ⟨_, rfl⟩
  rw [← hW] at S0 ⊢
  generalize w2.heap.size = bk at *
  obtain ⟨bi, hbi⟩ : ∃ bi, bi = w.heap.size + 1 := ⟨_, rfl⟩
  rw [← hbi] at S0 ⊢
  clear hW hbi k2 p26 p22 hO
  have HS : Hid _ := S0
  clear S0
  go_wp2
  go_loopw [8, 11, 12] (fun s8 s11 s12 wr => ∃ (j : Nat) (x u D A B : Int), s8 = .int .i64 x ∧ s11 = .int .i64 u ∧ s12 = .int .i64 j ∧ Hid (Sd w wr bi bk op D A B #[.string s, .int .i64 6, .int .u8 45, .int .u8 sh]) ∧ Hid ((0 = j ∧ x0 = x ∧ 4194304 = u ∧ 0 = D ∧ 0 = A ∧ 0 = B) ∨ (1 = j ∧ x1 = x ∧ 262144 = u ∧ 0 = D ∧ e1 = A ∧ 0 = B))) (fun _ _ s12 _ => 1 - (intOf s12).toNat)
  case atStart => exact ⟨0, x0, 4194304, 0, 0, 0, rfl, rfl, rfl, HS, .inl ⟨rfl, rfl, rfl, rfl, rfl, rfl⟩⟩
  case round =>
    obtain ⟨j, x, u, D, A, B, rfl, rfl, rfl, HI, HR⟩ := hrel
    clear HS
    obtain ⟨c0, c1, c2, c3, c4, f0, f1, f2, f3, f4⟩ := cells5 HI.out.gi
    obtain ⟨k0, k1, k2, k3, _⟩ := cells4 HI.out.gk
    obtain ⟨a0, a1, a2, a3, a4, g0, g1, g2, g3, g4⟩ := cells5 HI.out.g2
    rcases HR.out with ⟨rfl, rfl, rfl, rfl, rfl, rfl⟩ | ⟨rfl, rfl, rfl, rfl, rfl, rfl⟩
    · have eb : ∀ hb, ((((⟨#[65]⟩ : ByteArray)[0]'hb).toNat : Nat) : Int) = 65 := fun _ => rfl
      have m1 : e1 % 256 = e1 := by omega
      have HN := HI.out.setA e1
      clear HI HR
      go_wp2
      exact ⟨⟨1, x1, 262144, 0, e1, 0, by go_num, by go_num, by go_num, HN, .inr (⟨rfl, rfl, rfl, rfl, rfl, rfl⟩)⟩, by simp [intOf]⟩
    · have HZ := HI.out
      clear HI HR
      obtain ⟨yy0, yy1⟩ := y1
      go_wp2_with fail
      go_at_call 54
      refine (pb _).mono ?_
      rintro e wa ⟨rfl, hwa⟩
      rw [hwa]
      clear hwa wa
      go_wp2
      obtain ⟨V, hV⟩ : ∃ V, V = (((((wr.setCell ⟨w.heap.size, 0, none⟩ (.int .i64 0)).setCell ⟨w.heap.size, 1, none⟩ (.int .u8 0)).setCell ⟨w.heap.size, 2, none⟩ (.int .u8 0)).setCell ⟨w.heap.size, 3, none⟩ (.int .u8 0)).setCell ⟨w.heap.size, 4, none⟩ (.int .i32 0)) := ⟨_, rfl⟩
      rw [← hV]
      obtain ⟨v1, v2, v3⟩ := box5 HZ.g2 _ _ _ _ _ hV
      obtain ⟨r0, r1, r2, r3, r4, _⟩ := cells5 v1
      refine bodyPost_ret (v := .tuple #[iv 0 0 0 0 0, .int .i64 103]) (by simp [results, Tryz.results28, go_sem, r0, r1, r2, r3, r4]) rfl ⟨rfl, ?_⟩
      exact Chg.trans HZ.kp v3 (fun i hi e => absurd e (Nat.ne_of_lt hi))

set_option maxRecDepth 100000 in
set_option maxHeartbeats 8000000 in
theorem rdec_60ok (w : World) (v' op : Int) (s : ByteArray) (sh : Int) (x0 x1 e1 : Int) (hv : 0 ≤ v' ∧ v' < 4294967296) (q : v'.tdiv 67108864 = op) (r : v'.tmod 67108864 = x0) (ho : 0 ≤ op ∧ op < 64) (q0 : x0.tdiv 4194304 = e1) (r0 : x0.tmod 4194304 = x1) (z0 : 0 ≤ e1 ∧ e1 < 16) (y0 : 0 ≤ x0 ∧ x0 < 67108864) (y1 : 0 ≤ x1 ∧ x1 < 67108864) (hx : x1 < 1)
    (hO : ∀ V, Calls Tryz.prog 55 #[.int .i64 op] V fun e w' => e = .returned (.tuple #[.agg #[.string s, .int .i64 6, .int .u8 45, .int .u8 sh], .bool true]) ∧ Kp V w') :
    Calls Tryz.prog 28 #[.int .u32 v'] w fun e w' => e = .returned (.tuple #[iv op 0 e1 0 x1, .int .i64 0]) ∧ Kp w w' := by
  have p26 : ∀ w, Calls Tryz.prog 54 #[.int .i64 26] w fun e w' => e = .returned (.int .i64 67108864) ∧ w' = w := fun w => power_any w 26 (by decide) _ rfl
  have p22 : ∀ w, Calls Tryz.prog 54 #[.int .i64 22] w fun e w' => e = .returned (.int .i64 4194304) ∧ w' = w := fun w => power_any w 22 (by decide) _ rfl
  have pb : ∀ w, Calls Tryz.prog 54 #[.int .i64 0] w fun e w' => e = .returned (.int .i64 1) ∧ w' = w := fun w => power_any w 0 (by decide) _ rfl
  have ht : ∀ w, Calls Tryz.prog 57 #[.int .u8 45, .int .i64 0, .int .i64 x1] w fun e w' => e = .returned (.bool true) ∧ w' = w := fun w => by
    have := takes_0 w 0 x1
    rw [decide_eq_true (by omega), decide_eq_true (by omega)] at this
    exact this
  obtain ⟨hv0, hv1⟩ := hv
  obtain ⟨ho0, ho1⟩ := ho
  have ho6 : wrap64 op = op := by simp only [wrap64]; omega
  go_enter Tryz.func28, Tryz.ntmps28
  go_wp2_with fail
  go_at_call 54
  refine (p26 _).mono ?_
  rintro e wa ⟨rfl, rfl⟩
  go_wp2_with fail
  go_at_call 55
  refine (hO _).mono ?_
  rintro e w2 ⟨rfl, k2⟩
  have S0 : Sd w (w2.alloc (.cells #[.string s, .int .i64 6, .int .u8 45, .int .u8 sh] 116)) (w.heap.size + 1) w2.heap.size op 0 0 0 #[.string s, .int .i64 6, .int .u8 45, .int .u8 sh] := by
    have h1 := heap_alloc_new w (.cells #[.int .i64 0, .int .u8 0, .int .u8 0, .int .u8 0, .int .i32 0] 48)
    have h2 := heap_alloc_new (w.alloc (.cells #[.int .i64 0, .int .u8 0, .int .u8 0, .int .u8 0, .int .i32 0] 48)) (.cells #[.int .i64 op, .int .u8 0, .int .u8 0, .int .u8 0, .int .i32 0] 48)
    rw [al_size] at h2
    have h3 := hp_lt (Kp.heap k2 h2)
    exact ⟨(Kp.trans (((Chg.refl _ _).alloc _).alloc _) k2).alloc _, al_old _ (Kp.heap k2 (al_old _ h1)), al_old _ (Kp.heap k2 h2), heap_alloc_new w2 _, by omega, by omega⟩
  go_wp2_with fail
  go_at_call 54
  refine (p26 _).mono ?_
  rintro e wa ⟨rfl, hwa⟩
  rw [hwa]
  clear hwa wa
  go_wp2_with fail
  go_at_call 56
  refine (fields_6 _).mono ?_
  rintro e wa ⟨rfl, hwa⟩
  rw [hwa]
  clear hwa wa
  go_wp2_with fail
  go_at_call 54
  refine (p22 _).mono ?_
  rintro e wa ⟨rfl, hwa⟩
  rw [hwa]
  clear hwa wa
  obtain ⟨W, hW⟩ : ∃ W, W = w2.alloc (.cells #[.string s, .int .i64 6, .int .u8 45, .int .u8 sh] 116) := ⟨_, rfl⟩
  rw [← hW] at S0 ⊢
  generalize w2.heap.size = bk at *
  obtain ⟨bi, hbi⟩ : ∃ bi, bi = w.heap.size + 1 := ⟨_, rfl⟩
  rw [← hbi] at S0 ⊢
  clear hW hbi k2 p26 p22 hO
  have HS : Hid _ := S0
  clear S0
  go_wp2
  go_loopw [8, 11, 12] (fun s8 s11 s12 wr => ∃ (j : Nat) (x u D A B : Int), s8 = .int .i64 x ∧ s11 = .int .i64 u ∧ s12 = .int .i64 j ∧ Hid (Sd w wr bi bk op D A B #[.string s, .int .i64 6, .int .u8 45, .int .u8 sh]) ∧ Hid ((0 = j ∧ x0 = x ∧ 4194304 = u ∧ 0 = D ∧ 0 = A ∧ 0 = B) ∨ (1 = j ∧ x1 = x ∧ 262144 = u ∧ 0 = D ∧ e1 = A ∧ 0 = B))) (fun _ _ s12 _ => 1 - (intOf s12).toNat)
  case atStart => exact ⟨0, x0, 4194304, 0, 0, 0, rfl, rfl, rfl, HS, .inl ⟨rfl, rfl, rfl, rfl, rfl, rfl⟩⟩
  case round =>
    obtain ⟨j, x, u, D, A, B, rfl, rfl, rfl, HI, HR⟩ := hrel
    clear HS
    obtain ⟨c0, c1, c2, c3, c4, f0, f1, f2, f3, f4⟩ := cells5 HI.out.gi
    obtain ⟨k0, k1, k2, k3, _⟩ := cells4 HI.out.gk
    obtain ⟨a0, a1, a2, a3, a4, g0, g1, g2, g3, g4⟩ := cells5 HI.out.g2
    rcases HR.out with ⟨rfl, rfl, rfl, rfl, rfl, rfl⟩ | ⟨rfl, rfl, rfl, rfl, rfl, rfl⟩
    · have eb : ∀ hb, ((((⟨#[65]⟩ : ByteArray)[0]'hb).toNat : Nat) : Int) = 65 := fun _ => rfl
      have m1 : e1 % 256 = e1 := by omega
      have HN := HI.out.setA e1
      clear HI HR
      go_wp2
      exact ⟨⟨1, x1, 262144, 0, e1, 0, by go_num, by go_num, by go_num, HN, .inr (⟨rfl, rfl, rfl, rfl, rfl, rfl⟩)⟩, by simp [intOf]⟩
    · have HZ := HI.out
      clear HI HR
      obtain ⟨yy0, yy1⟩ := y1
      go_wp2_with fail
      go_at_call 54
      refine (pb _).mono ?_
      rintro e wa ⟨rfl, hwa⟩
      rw [hwa]
      clear hwa wa
      have GI := heap_setCell_same wr bi 4 _ 48 (.int .i32 x1) HZ.gi
      have cI : Chg wr (wr.setCell ⟨bi, 4, none⟩ (.int .i32 x1)) (fun k => k = bi) := Chg.setCell (S := fun k => k = bi) (Chg.refl wr _) (.inl rfl) _
      have G2 := cI.heap HZ.g2 (by have := HZ.n1; omega)
      obtain ⟨d0, d1, d2, d3, d4, _⟩ := cells5 GI
      obtain ⟨h0, h1, h2, h3, h4, i0, i1, i2, i3, i4⟩ := cells5 G2
      have hw : wrap32 x1 = x1 := by simp only [wrap32]; omega
      go_wp2_with fail
      go_at_call 57
      refine (ht _).mono ?_
      rintro e wa ⟨rfl, hwa⟩
      rw [hwa]
      clear hwa wa
      go_wp2
      obtain ⟨V, hV⟩ : ∃ V, V = ((((((wr.setCell ⟨bi, 4, none⟩ (.int .i32 x1)).setCell ⟨w.heap.size, 0, none⟩ (.int .i64 op)).setCell ⟨w.heap.size, 1, none⟩ (.int .u8 0)).setCell ⟨w.heap.size, 2, none⟩ (.int .u8 e1)).setCell ⟨w.heap.size, 3, none⟩ (.int .u8 0)).setCell ⟨w.heap.size, 4, none⟩ (.int .i32 x1)) := ⟨_, rfl⟩
      rw [← hV]
      obtain ⟨v1, v2, v3⟩ := box5 G2 _ _ _ _ _ hV
      obtain ⟨r0, r1, r2, r3, r4, _⟩ := cells5 v1
      refine bodyPost_ret (v := .tuple #[iv op 0 e1 0 x1, .int .i64 0]) (by simp [results, Tryz.results28, go_sem, r0, r1, r2, r3, r4]) rfl ⟨rfl, ?_⟩
      exact Chg.trans (Chg.trans HZ.kp cI (fun i hi e => by have := HZ.n1; omega)) v3 (fun i hi e => absurd e (Nat.ne_of_lt hi))

set_option maxRecDepth 100000 in
set_option maxHeartbeats 8000000 in
theorem rdec_73bad (w : World) (v' op : Int) (s : ByteArray) (sh : Int) (x0  : Int) (hv : 0 ≤ v' ∧ v' < 4294967296) (q : v'.tdiv 67108864 = op) (r : v'.tmod 67108864 = x0) (ho : 0 ≤ op ∧ op < 64)  (y0 : 0 ≤ x0 ∧ x0 < 67108864) (hx : 262143 < x0 ∧ x0 < 67108864)
    (hO : ∀ V, Calls Tryz.prog 55 #[.int .i64 op] V fun e w' => e = .returned (.tuple #[.agg #[.string s, .int .i64 7, .int .u8 117, .int .u8 sh], .bool true]) ∧ Kp V w') :
    Calls Tryz.prog 28 #[.int .u32 v'] w fun e w' => e = .returned (.tuple #[iv 0 0 0 0 0, .int .i64 102]) ∧ Kp w w' := by
  have p26 : ∀ w, Calls Tryz.prog 54 #[.int .i64 26] w fun e w' => e = .returned (.int .i64 67108864) ∧ w' = w := fun w => power_any w 26 (by decide) _ rfl
  have p22 : ∀ w, Calls Tryz.prog 54 #[.int .i64 22] w fun e w' => e = .returned (.int .i64 4194304) ∧ w' = w := fun w => power_any w 22 (by decide) _ rfl
  have pb : ∀ w, Calls Tryz.prog 54 #[.int .i64 26] w fun e w' => e = .returned (.int .i64 67108864) ∧ w' = w := fun w => power_any w 26 (by decide) _ rfl
  have ht : ∀ w, Calls Tryz.prog 57 #[.int .u8 117, .int .i64 26, .int .i64 x0] w fun e w' => e = .returned (.bool false) ∧ w' = w := fun w => by
    have := takes_u w 26 x0
    rw [decide_eq_true (by omega), decide_eq_false (by omega)] at this
    exact this
  obtain ⟨hv0, hv1⟩ := hv
  obtain ⟨ho0, ho1⟩ := ho
  have ho6 : wrap64 op = op := by simp only [wrap64]; omega
  go_enter Tryz.func28, Tryz.ntmps28
  go_wp2_with fail
  go_at_call 54
  refine (p26 _).mono ?_
  rintro e wa ⟨rfl, rfl⟩
  go_wp2_with fail
  go_at_call 55
  refine (hO _).mono ?_
  rintro e w2 ⟨rfl, k2⟩
  have S0 : Sd w (w2.alloc (.cells #[.string s, .int .i64 7, .int .u8 117, .int .u8 sh] 116)) (w.heap.size + 1) w2.heap.size op 0 0 0 #[.string s, .int .i64 7, .int .u8 117, .int .u8 sh] := by
    have h1 := heap_alloc_new w (.cells #[.int .i64 0, .int .u8 0, .int .u8 0, .int .u8 0, .int .i32 0] 48)
    have h2 := heap_alloc_new (w.alloc (.cells #[.int .i64 0, .int .u8 0, .int .u8 0, .int .u8 0, .int .i32 0] 48)) (.cells #[.int .i64 op, .int .u8 0, .int .u8 0, .int .u8 0, .int .i32 0] 48)
    rw [al_size] at h2
    have h3 := hp_lt (Kp.heap k2 h2)
    exact ⟨(Kp.trans (((Chg.refl _ _).alloc _).alloc _) k2).alloc _, al_old _ (Kp.heap k2 (al_old _ h1)), al_old _ (Kp.heap k2 h2), heap_alloc_new w2 _, by omega, by omega⟩
  go_wp2_with fail
  go_at_call 54
  refine (p26 _).mono ?_
  rintro e wa ⟨rfl, hwa⟩
  rw [hwa]
  clear hwa wa
  go_wp2_with fail
  go_at_call 56
  refine (fields_7 _).mono ?_
  rintro e wa ⟨rfl, hwa⟩
  rw [hwa]
  clear hwa wa
  go_wp2_with fail
  go_at_call 54
  refine (p22 _).mono ?_
  rintro e wa ⟨rfl, hwa⟩
  rw [hwa]
  clear hwa wa
  obtain ⟨W, hW⟩ : ∃ W, W = w2.alloc (.cells #[.string s, .int .i64 7, .int .u8 117, .int .u8 sh] 116) := ⟨_, rfl⟩
  rw [← hW] at S0 ⊢
  generalize w2.heap.size = bk at *
  obtain ⟨bi, hbi⟩ : ∃ bi, bi = w.heap.size + 1 := ⟨_, rfl⟩
  rw [← hbi] at S0 ⊢
  clear hW hbi k2 p26 p22 hO
  have HS : Hid _ := S0
  clear S0
  go_wp2
  go_loopw [8, 11, 12] (fun s8 s11 s12 wr => ∃ (j : Nat) (x u D A B : Int), s8 = .int .i64 x ∧ s11 = .int .i64 u ∧ s12 = .int .i64 j ∧ Hid (Sd w wr bi bk op D A B #[.string s, .int .i64 7, .int .u8 117, .int .u8 sh]) ∧ Hid ((0 = j ∧ x0 = x ∧ 4194304 = u ∧ 0 = D ∧ 0 = A ∧ 0 = B))) (fun _ _ s12 _ => 0 - (intOf s12).toNat)
  case atStart => exact ⟨0, x0, 4194304, 0, 0, 0, rfl, rfl, rfl, HS, ⟨rfl, rfl, rfl, rfl, rfl, rfl⟩⟩
  case round =>
    obtain ⟨j, x, u, D, A, B, rfl, rfl, rfl, HI, HR⟩ := hrel
    clear HS
    obtain ⟨c0, c1, c2, c3, c4, f0, f1, f2, f3, f4⟩ := cells5 HI.out.gi
    obtain ⟨k0, k1, k2, k3, _⟩ := cells4 HI.out.gk
    obtain ⟨a0, a1, a2, a3, a4, g0, g1, g2, g3, g4⟩ := cells5 HI.out.g2
    rcases HR.out with ⟨rfl, rfl, rfl, rfl, rfl, rfl⟩
    · have HZ := HI.out
      clear HI HR
      obtain ⟨yy0, yy1⟩ := y0
      go_wp2_with fail
      go_at_call 54
      refine (pb _).mono ?_
      rintro e wa ⟨rfl, hwa⟩
      rw [hwa]
      clear hwa wa
      obtain ⟨hx0, hx1⟩ := hx
      go_wp2_with fail
      go_at_call 57
      refine (ht _).mono ?_
      rintro e wa ⟨rfl, hwa⟩
      rw [hwa]
      clear hwa wa
      go_wp2
      obtain ⟨V, hV⟩ : ∃ V, V = (((((wr.setCell ⟨w.heap.size, 0, none⟩ (.int .i64 0)).setCell ⟨w.heap.size, 1, none⟩ (.int .u8 0)).setCell ⟨w.heap.size, 2, none⟩ (.int .u8 0)).setCell ⟨w.heap.size, 3, none⟩ (.int .u8 0)).setCell ⟨w.heap.size, 4, none⟩ (.int .i32 0)) := ⟨_, rfl⟩
      rw [← hV]
      obtain ⟨v1, v2, v3⟩ := box5 HZ.g2 _ _ _ _ _ hV
      obtain ⟨r0, r1, r2, r3, r4, _⟩ := cells5 v1
      refine bodyPost_ret (v := .tuple #[iv 0 0 0 0 0, .int .i64 102]) (by simp [results, Tryz.results28, go_sem, r0, r1, r2, r3, r4]) rfl ⟨rfl, ?_⟩
      exact Chg.trans HZ.kp v3 (fun i hi e => absurd e (Nat.ne_of_lt hi))

set_option maxRecDepth 100000 in
set_option maxHeartbeats 8000000 in
theorem rdec_73ok (w : World) (v' op : Int) (s : ByteArray) (sh : Int) (x0  : Int) (hv : 0 ≤ v' ∧ v' < 4294967296) (q : v'.tdiv 67108864 = op) (r : v'.tmod 67108864 = x0) (ho : 0 ≤ op ∧ op < 64)  (y0 : 0 ≤ x0 ∧ x0 < 67108864) (hx : x0 ≤ 262143)
    (hO : ∀ V, Calls Tryz.prog 55 #[.int .i64 op] V fun e w' => e = .returned (.tuple #[.agg #[.string s, .int .i64 7, .int .u8 117, .int .u8 sh], .bool true]) ∧ Kp V w') :
    Calls Tryz.prog 28 #[.int .u32 v'] w fun e w' => e = .returned (.tuple #[iv op 0 0 0 x0, .int .i64 0]) ∧ Kp w w' := by
  have p26 : ∀ w, Calls Tryz.prog 54 #[.int .i64 26] w fun e w' => e = .returned (.int .i64 67108864) ∧ w' = w := fun w => power_any w 26 (by decide) _ rfl
  have p22 : ∀ w, Calls Tryz.prog 54 #[.int .i64 22] w fun e w' => e = .returned (.int .i64 4194304) ∧ w' = w := fun w => power_any w 22 (by decide) _ rfl
  have pb : ∀ w, Calls Tryz.prog 54 #[.int .i64 26] w fun e w' => e = .returned (.int .i64 67108864) ∧ w' = w := fun w => power_any w 26 (by decide) _ rfl
  have ht : ∀ w, Calls Tryz.prog 57 #[.int .u8 117, .int .i64 26, .int .i64 x0] w fun e w' => e = .returned (.bool true) ∧ w' = w := fun w => by
    have := takes_u w 26 x0
    rw [decide_eq_true (by omega), decide_eq_true (by omega)] at this
    exact this
  obtain ⟨hv0, hv1⟩ := hv
  obtain ⟨ho0, ho1⟩ := ho
  have ho6 : wrap64 op = op := by simp only [wrap64]; omega
  go_enter Tryz.func28, Tryz.ntmps28
  go_wp2_with fail
  go_at_call 54
  refine (p26 _).mono ?_
  rintro e wa ⟨rfl, rfl⟩
  go_wp2_with fail
  go_at_call 55
  refine (hO _).mono ?_
  rintro e w2 ⟨rfl, k2⟩
  have S0 : Sd w (w2.alloc (.cells #[.string s, .int .i64 7, .int .u8 117, .int .u8 sh] 116)) (w.heap.size + 1) w2.heap.size op 0 0 0 #[.string s, .int .i64 7, .int .u8 117, .int .u8 sh] := by
    have h1 := heap_alloc_new w (.cells #[.int .i64 0, .int .u8 0, .int .u8 0, .int .u8 0, .int .i32 0] 48)
    have h2 := heap_alloc_new (w.alloc (.cells #[.int .i64 0, .int .u8 0, .int .u8 0, .int .u8 0, .int .i32 0] 48)) (.cells #[.int .i64 op, .int .u8 0, .int .u8 0, .int .u8 0, .int .i32 0] 48)
    rw [al_size] at h2
    have h3 := hp_lt (Kp.heap k2 h2)
    exact ⟨(Kp.trans (((Chg.refl _ _).alloc _).alloc _) k2).alloc _, al_old _ (Kp.heap k2 (al_old _ h1)), al_old _ (Kp.heap k2 h2), heap_alloc_new w2 _, by omega, by omega⟩
  go_wp2_with fail
  go_at_call 54
  refine (p26 _).mono ?_
  rintro e wa ⟨rfl, hwa⟩
  rw [hwa]
  clear hwa wa
  go_wp2_with fail
  go_at_call 56
  refine (fields_7 _).mono ?_
  rintro e wa ⟨rfl, hwa⟩
  rw [hwa]
  clear hwa wa
  go_wp2_with fail
  go_at_call 54
  refine (p22 _).mono ?_
  rintro e wa ⟨rfl, hwa⟩
  rw [hwa]
  clear hwa wa
  obtain ⟨W, hW⟩ : ∃ W, W = w2.alloc (.cells #[.string s, .int .i64 7, .int .u8 117, .int .u8 sh] 116) := ⟨_, rfl⟩
  rw [← hW] at S0 ⊢
  generalize w2.heap.size = bk at *
  obtain ⟨bi, hbi⟩ : ∃ bi, bi = w.heap.size + 1 := ⟨_, rfl⟩
  rw [← hbi] at S0 ⊢
  clear hW hbi k2 p26 p22 hO
  have HS : Hid _ := S0
  clear S0
  go_wp2
  go_loopw [8, 11, 12] (fun s8 s11 s12 wr => ∃ (j : Nat) (x u D A B : Int), s8 = .int .i64 x ∧ s11 = .int .i64 u ∧ s12 = .int .i64 j ∧ Hid (Sd w wr bi bk op D A B #[.string s, .int .i64 7, .int .u8 117, .int .u8 sh]) ∧ Hid ((0 = j ∧ x0 = x ∧ 4194304 = u ∧ 0 = D ∧ 0 = A ∧ 0 = B))) (fun _ _ s12 _ => 0 - (intOf s12).toNat)
  case atStart => exact ⟨0, x0, 4194304, 0, 0, 0, rfl, rfl, rfl, HS, ⟨rfl, rfl, rfl, rfl, rfl, rfl⟩⟩
  case round =>
    obtain ⟨j, x, u, D, A, B, rfl, rfl, rfl, HI, HR⟩ := hrel
    clear HS
    obtain ⟨c0, c1, c2, c3, c4, f0, f1, f2, f3, f4⟩ := cells5 HI.out.gi
    obtain ⟨k0, k1, k2, k3, _⟩ := cells4 HI.out.gk
    obtain ⟨a0, a1, a2, a3, a4, g0, g1, g2, g3, g4⟩ := cells5 HI.out.g2
    rcases HR.out with ⟨rfl, rfl, rfl, rfl, rfl, rfl⟩
    · have HZ := HI.out
      clear HI HR
      obtain ⟨yy0, yy1⟩ := y0
      go_wp2_with fail
      go_at_call 54
      refine (pb _).mono ?_
      rintro e wa ⟨rfl, hwa⟩
      rw [hwa]
      clear hwa wa
      have GI := heap_setCell_same wr bi 4 _ 48 (.int .i32 x0) HZ.gi
      have cI : Chg wr (wr.setCell ⟨bi, 4, none⟩ (.int .i32 x0)) (fun k => k = bi) := Chg.setCell (S := fun k => k = bi) (Chg.refl wr _) (.inl rfl) _
      have G2 := cI.heap HZ.g2 (by have := HZ.n1; omega)
      obtain ⟨d0, d1, d2, d3, d4, _⟩ := cells5 GI
      obtain ⟨h0, h1, h2, h3, h4, i0, i1, i2, i3, i4⟩ := cells5 G2
      have hw : wrap32 x0 = x0 := by simp only [wrap32]; omega
      go_wp2_with fail
      go_at_call 57
      refine (ht _).mono ?_
      rintro e wa ⟨rfl, hwa⟩
      rw [hwa]
      clear hwa wa
      go_wp2
      obtain ⟨V, hV⟩ : ∃ V, V = ((((((wr.setCell ⟨bi, 4, none⟩ (.int .i32 x0)).setCell ⟨w.heap.size, 0, none⟩ (.int .i64 op)).setCell ⟨w.heap.size, 1, none⟩ (.int .u8 0)).setCell ⟨w.heap.size, 2, none⟩ (.int .u8 0)).setCell ⟨w.heap.size, 3, none⟩ (.int .u8 0)).setCell ⟨w.heap.size, 4, none⟩ (.int .i32 x0)) := ⟨_, rfl⟩
      rw [← hV]
      obtain ⟨v1, v2, v3⟩ := box5 G2 _ _ _ _ _ hV
      obtain ⟨r0, r1, r2, r3, r4, _⟩ := cells5 v1
      refine bodyPost_ret (v := .tuple #[iv op 0 0 0 x0, .int .i64 0]) (by simp [results, Tryz.results28, go_sem, r0, r1, r2, r3, r4]) rfl ⟨rfl, ?_⟩
      exact Chg.trans (Chg.trans HZ.kp cI (fun i hi e => by have := HZ.n1; omega)) v3 (fun i hi e => absurd e (Nat.ne_of_lt hi))

set_option maxRecDepth 100000 in
set_option maxHeartbeats 8000000 in
theorem rdec_80stray (w : World) (v' op : Int) (s : ByteArray) (sh : Int) (x0  : Int) (hv : 0 ≤ v' ∧ v' < 4294967296) (q : v'.tdiv 67108864 = op) (r : v'.tmod 67108864 = x0) (ho : 0 ≤ op ∧ op < 64)  (y0 : 0 ≤ x0 ∧ x0 < 67108864) (hx : 1 ≤ x0)
    (hO : ∀ V, Calls Tryz.prog 55 #[.int .i64 op] V fun e w' => e = .returned (.tuple #[.agg #[.string s, .int .i64 8, .int .u8 45, .int .u8 sh], .bool true]) ∧ Kp V w') :
    Calls Tryz.prog 28 #[.int .u32 v'] w fun e w' => e = .returned (.tuple #[iv 0 0 0 0 0, .int .i64 103]) ∧ Kp w w' := by
  have p26 : ∀ w, Calls Tryz.prog 54 #[.int .i64 26] w fun e w' => e = .returned (.int .i64 67108864) ∧ w' = w := fun w => power_any w 26 (by decide) _ rfl
  have p22 : ∀ w, Calls Tryz.prog 54 #[.int .i64 22] w fun e w' => e = .returned (.int .i64 4194304) ∧ w' = w := fun w => power_any w 22 (by decide) _ rfl
  have pb : ∀ w, Calls Tryz.prog 54 #[.int .i64 0] w fun e w' => e = .returned (.int .i64 1) ∧ w' = w := fun w => power_any w 0 (by decide) _ rfl
  obtain ⟨hv0, hv1⟩ := hv
  obtain ⟨ho0, ho1⟩ := ho
  have ho6 : wrap64 op = op := by simp only [wrap64]; omega
  go_enter Tryz.func28, Tryz.ntmps28
  go_wp2_with fail
  go_at_call 54
  refine (p26 _).mono ?_
  rintro e wa ⟨rfl, rfl⟩
  go_wp2_with fail
  go_at_call 55
  refine (hO _).mono ?_
  rintro e w2 ⟨rfl, k2⟩
  have S0 : Sd w (w2.alloc (.cells #[.string s, .int .i64 8, .int .u8 45, .int .u8 sh] 116)) (w.heap.size + 1) w2.heap.size op 0 0 0 #[.string s, .int .i64 8, .int .u8 45, .int .u8 sh] := by
    have h1 := heap_alloc_new w (.cells #[.int .i64 0, .int .u8 0, .int .u8 0, .int .u8 0, .int .i32 0] 48)
    have h2 := heap_alloc_new (w.alloc (.cells #[.int .i64 0, .int .u8 0, .int .u8 0, .int .u8 0, .int .i32 0] 48)) (.cells #[.int .i64 op, .int .u8 0, .int .u8 0, .int .u8 0, .int .i32 0] 48)
    rw [al_size] at h2
    have h3 := hp_lt (Kp.heap k2 h2)
    exact ⟨(Kp.trans (((Chg.refl _ _).alloc _).alloc _) k2).alloc _, al_old _ (Kp.heap k2 (al_old _ h1)), al_old _ (Kp.heap k2 h2), heap_alloc_new w2 _, by omega, by omega⟩
  go_wp2_with fail
  go_at_call 54
  refine (p26 _).mono ?_
  rintro e wa ⟨rfl, hwa⟩
  rw [hwa]
  clear hwa wa
  go_wp2_with fail
  go_at_call 56
  refine (fields_8 _).mono ?_
  rintro e wa ⟨rfl, hwa⟩
  rw [hwa]
  clear hwa wa
  go_wp2_with fail
  go_at_call 54
  refine (p22 _).mono ?_
  rintro e wa ⟨rfl, hwa⟩
  rw [hwa]
  clear hwa wa
  obtain ⟨W, hW⟩ : ∃ W, W = w2.alloc (.cells #[.string s, .int .i64 8, .int .u8 45, .int .u8 sh] 116) := ⟨_, rfl⟩
  rw [← hW] at S0 ⊢
  generalize w2.heap.size = bk at *
  obtain ⟨bi, hbi⟩ : ∃ bi, bi = w.heap.size + 1 := ⟨_, rfl⟩
  rw [← hbi] at S0 ⊢
  clear hW hbi k2 p26 p22 hO
  have HS : Hid _ := S0
  clear S0
  go_wp2
  go_loopw [8, 11, 12] (fun s8 s11 s12 wr => ∃ (j : Nat) (x u D A B : Int), s8 = .int .i64 x ∧ s11 = .int .i64 u ∧ s12 = .int .i64 j ∧ Hid (Sd w wr bi bk op D A B #[.string s, .int .i64 8, .int .u8 45, .int .u8 sh]) ∧ Hid ((0 = j ∧ x0 = x ∧ 4194304 = u ∧ 0 = D ∧ 0 = A ∧ 0 = B))) (fun _ _ s12 _ => 0 - (intOf s12).toNat)
  case atStart => exact ⟨0, x0, 4194304, 0, 0, 0, rfl, rfl, rfl, HS, ⟨rfl, rfl, rfl, rfl, rfl, rfl⟩⟩
  case round =>
    obtain ⟨j, x, u, D, A, B, rfl, rfl, rfl, HI, HR⟩ := hrel
    clear HS
    obtain ⟨c0, c1, c2, c3, c4, f0, f1, f2, f3, f4⟩ := cells5 HI.out.gi
    obtain ⟨k0, k1, k2, k3, _⟩ := cells4 HI.out.gk
    obtain ⟨a0, a1, a2, a3, a4, g0, g1, g2, g3, g4⟩ := cells5 HI.out.g2
    rcases HR.out with ⟨rfl, rfl, rfl, rfl, rfl, rfl⟩
    · have HZ := HI.out
      clear HI HR
      obtain ⟨yy0, yy1⟩ := y0
      go_wp2_with fail
      go_at_call 54
      refine (pb _).mono ?_
      rintro e wa ⟨rfl, hwa⟩
      rw [hwa]
      clear hwa wa
      go_wp2
      obtain ⟨V, hV⟩ : ∃ V, V = (((((wr.setCell ⟨w.heap.size, 0, none⟩ (.int .i64 0)).setCell ⟨w.heap.size, 1, none⟩ (.int .u8 0)).setCell ⟨w.heap.size, 2, none⟩ (.int .u8 0)).setCell ⟨w.heap.size, 3, none⟩ (.int .u8 0)).setCell ⟨w.heap.size, 4, none⟩ (.int .i32 0)) := ⟨_, rfl⟩
      rw [← hV]
      obtain ⟨v1, v2, v3⟩ := box5 HZ.g2 _ _ _ _ _ hV
      obtain ⟨r0, r1, r2, r3, r4, _⟩ := cells5 v1
      refine bodyPost_ret (v := .tuple #[iv 0 0 0 0 0, .int .i64 103]) (by simp [results, Tryz.results28, go_sem, r0, r1, r2, r3, r4]) rfl ⟨rfl, ?_⟩
      exact Chg.trans HZ.kp v3 (fun i hi e => absurd e (Nat.ne_of_lt hi))

set_option maxRecDepth 100000 in
set_option maxHeartbeats 8000000 in
theorem rdec_80ok (w : World) (v' op : Int) (s : ByteArray) (sh : Int) (x0  : Int) (hv : 0 ≤ v' ∧ v' < 4294967296) (q : v'.tdiv 67108864 = op) (r : v'.tmod 67108864 = x0) (ho : 0 ≤ op ∧ op < 64)  (y0 : 0 ≤ x0 ∧ x0 < 67108864) (hx : x0 < 1)
    (hO : ∀ V, Calls Tryz.prog 55 #[.int .i64 op] V fun e w' => e = .returned (.tuple #[.agg #[.string s, .int .i64 8, .int .u8 45, .int .u8 sh], .bool true]) ∧ Kp V w') :
    Calls Tryz.prog 28 #[.int .u32 v'] w fun e w' => e = .returned (.tuple #[iv op 0 0 0 x0, .int .i64 0]) ∧ Kp w w' := by
  have p26 : ∀ w, Calls Tryz.prog 54 #[.int .i64 26] w fun e w' => e = .returned (.int .i64 67108864) ∧ w' = w := fun w => power_any w 26 (by decide) _ rfl
  have p22 : ∀ w, Calls Tryz.prog 54 #[.int .i64 22] w fun e w' => e = .returned (.int .i64 4194304) ∧ w' = w := fun w => power_any w 22 (by decide) _ rfl
  have pb : ∀ w, Calls Tryz.prog 54 #[.int .i64 0] w fun e w' => e = .returned (.int .i64 1) ∧ w' = w := fun w => power_any w 0 (by decide) _ rfl
  have ht : ∀ w, Calls Tryz.prog 57 #[.int .u8 45, .int .i64 0, .int .i64 x0] w fun e w' => e = .returned (.bool true) ∧ w' = w := fun w => by
    have := takes_0 w 0 x0
    rw [decide_eq_true (by omega), decide_eq_true (by omega)] at this
    exact this
  obtain ⟨hv0, hv1⟩ := hv
  obtain ⟨ho0, ho1⟩ := ho
  have ho6 : wrap64 op = op := by simp only [wrap64]; omega
  go_enter Tryz.func28, Tryz.ntmps28
  go_wp2_with fail
  go_at_call 54
  refine (p26 _).mono ?_
  rintro e wa ⟨rfl, rfl⟩
  go_wp2_with fail
  go_at_call 55
  refine (hO _).mono ?_
  rintro e w2 ⟨rfl, k2⟩
  have S0 : Sd w (w2.alloc (.cells #[.string s, .int .i64 8, .int .u8 45, .int .u8 sh] 116)) (w.heap.size + 1) w2.heap.size op 0 0 0 #[.string s, .int .i64 8, .int .u8 45, .int .u8 sh] := by
    have h1 := heap_alloc_new w (.cells #[.int .i64 0, .int .u8 0, .int .u8 0, .int .u8 0, .int .i32 0] 48)
    have h2 := heap_alloc_new (w.alloc (.cells #[.int .i64 0, .int .u8 0, .int .u8 0, .int .u8 0, .int .i32 0] 48)) (.cells #[.int .i64 op, .int .u8 0, .int .u8 0, .int .u8 0, .int .i32 0] 48)
    rw [al_size] at h2
    have h3 := hp_lt (Kp.heap k2 h2)
    exact ⟨(Kp.trans (((Chg.refl _ _).alloc _).alloc _) k2).alloc _, al_old _ (Kp.heap k2 (al_old _ h1)), al_old _ (Kp.heap k2 h2), heap_alloc_new w2 _, by omega, by omega⟩
  go_wp2_with fail
  go_at_call 54
  refine (p26 _).mono ?_
  rintro e wa ⟨rfl, hwa⟩
  rw [hwa]
  clear hwa wa
  go_wp2_with fail
  go_at_call 56
  refine (fields_8 _).mono ?_
  rintro e wa ⟨rfl, hwa⟩
  rw [hwa]
  clear hwa wa
  go_wp2_with fail
  go_at_call 54
  refine (p22 _).mono ?_
  rintro e wa ⟨rfl, hwa⟩
  rw [hwa]
  clear hwa wa
  obtain ⟨W, hW⟩ : ∃ W, W = w2.alloc (.cells #[.string s, .int .i64 8, .int .u8 45, .int .u8 sh] 116) := ⟨_, rfl⟩
  rw [← hW] at S0 ⊢
  generalize w2.heap.size = bk at *
  obtain ⟨bi, hbi⟩ : ∃ bi, bi = w.heap.size + 1 := ⟨_, rfl⟩
  rw [← hbi] at S0 ⊢
  clear hW hbi k2 p26 p22 hO
  have HS : Hid _ := S0
  clear S0
  go_wp2
  go_loopw [8, 11, 12] (fun s8 s11 s12 wr => ∃ (j : Nat) (x u D A B : Int), s8 = .int .i64 x ∧ s11 = .int .i64 u ∧ s12 = .int .i64 j ∧ Hid (Sd w wr bi bk op D A B #[.string s, .int .i64 8, .int .u8 45, .int .u8 sh]) ∧ Hid ((0 = j ∧ x0 = x ∧ 4194304 = u ∧ 0 = D ∧ 0 = A ∧ 0 = B))) (fun _ _ s12 _ => 0 - (intOf s12).toNat)
  case atStart => exact ⟨0, x0, 4194304, 0, 0, 0, rfl, rfl, rfl, HS, ⟨rfl, rfl, rfl, rfl, rfl, rfl⟩⟩
  case round =>
    obtain ⟨j, x, u, D, A, B, rfl, rfl, rfl, HI, HR⟩ := hrel
    clear HS
    obtain ⟨c0, c1, c2, c3, c4, f0, f1, f2, f3, f4⟩ := cells5 HI.out.gi
    obtain ⟨k0, k1, k2, k3, _⟩ := cells4 HI.out.gk
    obtain ⟨a0, a1, a2, a3, a4, g0, g1, g2, g3, g4⟩ := cells5 HI.out.g2
    rcases HR.out with ⟨rfl, rfl, rfl, rfl, rfl, rfl⟩
    · have HZ := HI.out
      clear HI HR
      obtain ⟨yy0, yy1⟩ := y0
      go_wp2_with fail
      go_at_call 54
      refine (pb _).mono ?_
      rintro e wa ⟨rfl, hwa⟩
      rw [hwa]
      clear hwa wa
      have GI := heap_setCell_same wr bi 4 _ 48 (.int .i32 x0) HZ.gi
      have cI : Chg wr (wr.setCell ⟨bi, 4, none⟩ (.int .i32 x0)) (fun k => k = bi) := Chg.setCell (S := fun k => k = bi) (Chg.refl wr _) (.inl rfl) _
      have G2 := cI.heap HZ.g2 (by have := HZ.n1; omega)
      obtain ⟨d0, d1, d2, d3, d4, _⟩ := cells5 GI
      obtain ⟨h0, h1, h2, h3, h4, i0, i1, i2, i3, i4⟩ := cells5 G2
      have hw : wrap32 x0 = x0 := by simp only [wrap32]; omega
      go_wp2_with fail
      go_at_call 57
      refine (ht _).mono ?_
      rintro e wa ⟨rfl, hwa⟩
      rw [hwa]
      clear hwa wa
      go_wp2
      obtain ⟨V, hV⟩ : ∃ V, V = ((((((wr.setCell ⟨bi, 4, none⟩ (.int .i32 x0)).setCell ⟨w.heap.size, 0, none⟩ (.int .i64 op)).setCell ⟨w.heap.size, 1, none⟩ (.int .u8 0)).setCell ⟨w.heap.size, 2, none⟩ (.int .u8 0)).setCell ⟨w.heap.size, 3, none⟩ (.int .u8 0)).setCell ⟨w.heap.size, 4, none⟩ (.int .i32 x0)) := ⟨_, rfl⟩
      rw [← hV]
      obtain ⟨v1, v2, v3⟩ := box5 G2 _ _ _ _ _ hV
      obtain ⟨r0, r1, r2, r3, r4, _⟩ := cells5 v1
      refine bodyPost_ret (v := .tuple #[iv op 0 0 0 x0, .int .i64 0]) (by simp [results, Tryz.results28, go_sem, r0, r1, r2, r3, r4]) rfl ⟨rfl, ?_⟩
      exact Chg.trans (Chg.trans HZ.kp cI (fun i hi e => by have := HZ.n1; omega)) v3 (fun i hi e => absurd e (Nat.ne_of_lt hi))
end Go.Proofs.YtgofjmhdgmfgfaaGreatDoor
