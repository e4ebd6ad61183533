import Derived.Test.YtjmcimhklmfofabDoorRf
namespace Go.Proofs.YtjmcimhklmfofabDoor
open Go.ChangeShapes Go.WideShapes Go.ChangeAt Go.RowKit
set_option linter.unusedVariables false

theorem hex_t : ∀ n : Fin 16, (({ data := #[48, 49, 50, 51, 52, 53, 54, 55, 56, 57, 97, 98, 99, 100, 101, 102] } : ByteArray).extract n.val (n.val + 1)) = { data := #[hx n.val] } := by decide
theorem hex_at {n : Nat} (h : n < 16) : (({ data := #[48, 49, 50, 51, 52, 53, 54, 55, 56, 57, 97, 98, 99, 100, 101, 102] } : ByteArray).extract n (n + 1)) = { data := #[hx n] } := hex_t ⟨n, h⟩

theorem wr_u32 (n : Nat) (h : n < 4294967296) : IntKind.u32.wrap (n : Int) = n := wraps_u32' _ (by omega) (by omega)
theorem wr1_u32 (n : Nat) (h : n < 16) : IntKind.u32.wrap ((n : Int) + 1) = (n : Int) + 1 := wraps_u32' _ (by omega) (by omega)

theorem hex_slice {n : Nat} (h : n < 16) (W : World) : (Instr.slice 9 (.string { data := #[48, 49, 50, 51, 52, 53, 54, 55, 56, 57, 97, 98, 99, 100, 101, 102] }) (some (.int .u32 (n : Int))) (some (.int .u32 ((n : Int) + 1))) none).run Tryd.prog W = .ok (.string { data := #[hx n] }) W := by
  rw [run_slice_string W 9 { data := #[48, 49, 50, 51, 52, 53, 54, 55, 56, 57, 97, 98, 99, 100, 101, 102] } .u32 .u32 (n : Int) ((n : Int) + 1) Tryd.underlying9 (by omega) (by omega) (show (n : Int) + 1 ≤ ((16 : Nat) : Int) by omega)]
  rw [show ((n : Int)).toNat = n by omega, show ((n : Int) + 1).toNat = n + 1 by omega, hex_at h]

set_option maxRecDepth 100000 in
set_option maxHeartbeats 4000000 in
theorem refShow_none (w : World) (f : Nat) (hf : f < 4096)
    (cE : ∀ V, Calls Tryd.prog 20 #[.agg #[.int .i64 0, .int .u8 0, .int .u32 f]] V fun e w' => ∃ x, e = .returned (.tuple #[.int .u32 x, .int .i64 0]) ∧ Kp V w') :
    Calls Tryd.prog 11 #[.agg #[.int .i64 0, .int .u8 0, .int .u32 f]] w fun e w' => e = .returned (.string ⟨#[45]⟩) ∧ Kp w w' := by
  have e1 : (f : Int) / 256 = ((f / 256 : Nat) : Int) := by omega
  have e2 : (f : Int) / 16 = ((f / 16 : Nat) : Int) := by omega
  have e3 : ((f / 16 : Nat) : Int) % 16 = ((f / 16 % 16 : Nat) : Int) := by omega
  have e4 : (f : Int) % 16 = ((f % 16 : Nat) : Int) := by omega
  have a1 : f / 256 < 16 := by omega
  have a2 : f / 16 % 16 < 16 := by omega
  have a3 : f % 16 < 16 := by omega
  have a4 : f / 16 < 256 := by omega
  generalize f / 16 % 16 = b at *
  generalize f / 16 = m at *
  generalize f / 256 = a at *
  generalize f % 16 = c at *
  have u1 := wr_u32 a (by omega)
  have u2 := wr_u32 b (by omega)
  have u3 := wr_u32 c (by omega)
  have u4 := wr_u32 m (by omega)
  have v1 := wr1_u32 a (by omega)
  have v2 := wr1_u32 b (by omega)
  have v3 := wr1_u32 c (by omega)
  have s1 := hex_slice a1
  have s2 := hex_slice a2
  have s3 := hex_slice a3
  go_enter Tryd.func11, Tryd.ntmps11
  go_wp2_with fail
  go_at_call 20
  refine (cE _).mono ?_
  rintro e w1 ⟨x, rfl, k1⟩
  have kk : Kp w w1 := ((Chg.refl w (fun _ => False)).alloc _).trans k1 (fun _ _ x => x)
  obtain ⟨c0, c1, c2⟩ := cells_alloc3 k1
  go_wp2_with fail
  go_quiet (fail)
  clear e1 e2 e3 e4 u1 u2 u3 u4 v1 v2 v3 s1 s2 s3
  go_wp2
  go_ret
  exact ⟨rfl, by repeat (first | exact kk | apply Chg.drew | apply Chg.drewN)⟩

set_option maxRecDepth 100000 in
set_option maxHeartbeats 4000000 in
theorem refShow_table (w : World) (f : Nat) (hf : f < 4096)
    (cE : ∀ V, Calls Tryd.prog 20 #[.agg #[.int .i64 2, .int .u8 0, .int .u32 f]] V fun e w' => ∃ x, e = .returned (.tuple #[.int .u32 x, .int .i64 0]) ∧ Kp V w') :
    Calls Tryd.prog 11 #[.agg #[.int .i64 2, .int .u8 0, .int .u32 f]] w fun e w' => e = .returned (.string ⟨#[116, 97, 98, 32, hx (f / 256), hx (f / 16 % 16), hx (f % 16)]⟩) ∧ Kp w w' := by
  have e1 : (f : Int) / 256 = ((f / 256 : Nat) : Int) := by omega
  have e2 : (f : Int) / 16 = ((f / 16 : Nat) : Int) := by omega
  have e3 : ((f / 16 : Nat) : Int) % 16 = ((f / 16 % 16 : Nat) : Int) := by omega
  have e4 : (f : Int) % 16 = ((f % 16 : Nat) : Int) := by omega
  have a1 : f / 256 < 16 := by omega
  have a2 : f / 16 % 16 < 16 := by omega
  have a3 : f % 16 < 16 := by omega
  have a4 : f / 16 < 256 := by omega
  generalize f / 16 % 16 = b at *
  generalize f / 16 = m at *
  generalize f / 256 = a at *
  generalize f % 16 = c at *
  have u1 := wr_u32 a (by omega)
  have u2 := wr_u32 b (by omega)
  have u3 := wr_u32 c (by omega)
  have u4 := wr_u32 m (by omega)
  have v1 := wr1_u32 a (by omega)
  have v2 := wr1_u32 b (by omega)
  have v3 := wr1_u32 c (by omega)
  have s1 := hex_slice a1
  have s2 := hex_slice a2
  have s3 := hex_slice a3
  go_enter Tryd.func11, Tryd.ntmps11
  go_wp2_with fail
  go_at_call 20
  refine (cE _).mono ?_
  rintro e w1 ⟨x, rfl, k1⟩
  have kk : Kp w w1 := ((Chg.refl w (fun _ => False)).alloc _).trans k1 (fun _ _ x => x)
  obtain ⟨c0, c1, c2⟩ := cells_alloc3 k1
  go_wp2_with fail
  go_quiet (fail)
  clear e1 e2 e3 e4 u1 u2 u3 u4 v1 v2 v3 s1 s2 s3
  go_wp2
  go_ret
  exact ⟨rfl, by repeat (first | exact kk | apply Chg.drew | apply Chg.drewN)⟩

set_option maxRecDepth 100000 in
set_option maxHeartbeats 4000000 in
theorem refShow_p1 (w : World) (f : Nat) (hf : f < 4096)
    (cE : ∀ V, Calls Tryd.prog 20 #[.agg #[.int .i64 1, .int .u8 1, .int .u32 f]] V fun e w' => ∃ x, e = .returned (.tuple #[.int .u32 x, .int .i64 0]) ∧ Kp V w') :
    Calls Tryd.prog 11 #[.agg #[.int .i64 1, .int .u8 1, .int .u32 f]] w fun e w' => e = .returned (.string ⟨#[114, 45, 45, 32, hx (f / 256), hx (f / 16 % 16), hx (f % 16)]⟩) ∧ Kp w w' := by
  have e1 : (f : Int) / 256 = ((f / 256 : Nat) : Int) := by omega
  have e2 : (f : Int) / 16 = ((f / 16 : Nat) : Int) := by omega
  have e3 : ((f / 16 : Nat) : Int) % 16 = ((f / 16 % 16 : Nat) : Int) := by omega
  have e4 : (f : Int) % 16 = ((f % 16 : Nat) : Int) := by omega
  have a1 : f / 256 < 16 := by omega
  have a2 : f / 16 % 16 < 16 := by omega
  have a3 : f % 16 < 16 := by omega
  have a4 : f / 16 < 256 := by omega
  generalize f / 16 % 16 = b at *
  generalize f / 16 = m at *
  generalize f / 256 = a at *
  generalize f % 16 = c at *
  have u1 := wr_u32 a (by omega)
  have u2 := wr_u32 b (by omega)
  have u3 := wr_u32 c (by omega)
  have u4 := wr_u32 m (by omega)
  have v1 := wr1_u32 a (by omega)
  have v2 := wr1_u32 b (by omega)
  have v3 := wr1_u32 c (by omega)
  have s1 := hex_slice a1
  have s2 := hex_slice a2
  have s3 := hex_slice a3
  go_enter Tryd.func11, Tryd.ntmps11
  go_wp2_with fail
  go_at_call 20
  refine (cE _).mono ?_
  rintro e w1 ⟨x, rfl, k1⟩
  have kk : Kp w w1 := ((Chg.refl w (fun _ => False)).alloc _).trans k1 (fun _ _ x => x)
  obtain ⟨c0, c1, c2⟩ := cells_alloc3 k1
  go_wp2_with fail
  go_quiet (fail)
  clear e1 e2 e3 e4 u1 u2 u3 u4 v1 v2 v3 s1 s2 s3
  go_wp2
  refine wp_loop_rounds 4 ?_
  rw [rounds_succ]
  go_wp2
  rw [rounds_succ]
  go_wp2
  rw [rounds_succ]
  go_wp2
  rw [rounds_succ]
  go_wp2
  go_ret
  exact ⟨rfl, by repeat (first | exact kk | apply Chg.drew | apply Chg.drewN)⟩

set_option maxRecDepth 100000 in
set_option maxHeartbeats 4000000 in
theorem refShow_p3 (w : World) (f : Nat) (hf : f < 4096)
    (cE : ∀ V, Calls Tryd.prog 20 #[.agg #[.int .i64 1, .int .u8 3, .int .u32 f]] V fun e w' => ∃ x, e = .returned (.tuple #[.int .u32 x, .int .i64 0]) ∧ Kp V w') :
    Calls Tryd.prog 11 #[.agg #[.int .i64 1, .int .u8 3, .int .u32 f]] w fun e w' => e = .returned (.string ⟨#[114, 119, 45, 32, hx (f / 256), hx (f / 16 % 16), hx (f % 16)]⟩) ∧ Kp w w' := by
  have e1 : (f : Int) / 256 = ((f / 256 : Nat) : Int) := by omega
  have e2 : (f : Int) / 16 = ((f / 16 : Nat) : Int) := by omega
  have e3 : ((f / 16 : Nat) : Int) % 16 = ((f / 16 % 16 : Nat) : Int) := by omega
  have e4 : (f : Int) % 16 = ((f % 16 : Nat) : Int) := by omega
  have a1 : f / 256 < 16 := by omega
  have a2 : f / 16 % 16 < 16 := by omega
  have a3 : f % 16 < 16 := by omega
  have a4 : f / 16 < 256 := by omega
  generalize f / 16 % 16 = b at *
  generalize f / 16 = m at *
  generalize f / 256 = a at *
  generalize f % 16 = c at *
  have u1 := wr_u32 a (by omega)
  have u2 := wr_u32 b (by omega)
  have u3 := wr_u32 c (by omega)
  have u4 := wr_u32 m (by omega)
  have v1 := wr1_u32 a (by omega)
  have v2 := wr1_u32 b (by omega)
  have v3 := wr1_u32 c (by omega)
  have s1 := hex_slice a1
  have s2 := hex_slice a2
  have s3 := hex_slice a3
  go_enter Tryd.func11, Tryd.ntmps11
  go_wp2_with fail
  go_at_call 20
  refine (cE _).mono ?_
  rintro e w1 ⟨x, rfl, k1⟩
  have kk : Kp w w1 := ((Chg.refl w (fun _ => False)).alloc _).trans k1 (fun _ _ x => x)
  obtain ⟨c0, c1, c2⟩ := cells_alloc3 k1
  go_wp2_with fail
  go_quiet (fail)
  clear e1 e2 e3 e4 u1 u2 u3 u4 v1 v2 v3 s1 s2 s3
  go_wp2
  refine wp_loop_rounds 4 ?_
  rw [rounds_succ]
  go_wp2
  rw [rounds_succ]
  go_wp2
  rw [rounds_succ]
  go_wp2
  rw [rounds_succ]
  go_wp2
  go_ret
  exact ⟨rfl, by repeat (first | exact kk | apply Chg.drew | apply Chg.drewN)⟩

set_option maxRecDepth 100000 in
set_option maxHeartbeats 4000000 in
theorem refShow_p4 (w : World) (f : Nat) (hf : f < 4096)
    (cE : ∀ V, Calls Tryd.prog 20 #[.agg #[.int .i64 1, .int .u8 4, .int .u32 f]] V fun e w' => ∃ x, e = .returned (.tuple #[.int .u32 x, .int .i64 0]) ∧ Kp V w') :
    Calls Tryd.prog 11 #[.agg #[.int .i64 1, .int .u8 4, .int .u32 f]] w fun e w' => e = .returned (.string ⟨#[45, 45, 120, 32, hx (f / 256), hx (f / 16 % 16), hx (f % 16)]⟩) ∧ Kp w w' := by
  have e1 : (f : Int) / 256 = ((f / 256 : Nat) : Int) := by omega
  have e2 : (f : Int) / 16 = ((f / 16 : Nat) : Int) := by omega
  have e3 : ((f / 16 : Nat) : Int) % 16 = ((f / 16 % 16 : Nat) : Int) := by omega
  have e4 : (f : Int) % 16 = ((f % 16 : Nat) : Int) := by omega
  have a1 : f / 256 < 16 := by omega
  have a2 : f / 16 % 16 < 16 := by omega
  have a3 : f % 16 < 16 := by omega
  have a4 : f / 16 < 256 := by omega
  generalize f / 16 % 16 = b at *
  generalize f / 16 = m at *
  generalize f / 256 = a at *
  generalize f % 16 = c at *
  have u1 := wr_u32 a (by omega)
  have u2 := wr_u32 b (by omega)
  have u3 := wr_u32 c (by omega)
  have u4 := wr_u32 m (by omega)
  have v1 := wr1_u32 a (by omega)
  have v2 := wr1_u32 b (by omega)
  have v3 := wr1_u32 c (by omega)
  have s1 := hex_slice a1
  have s2 := hex_slice a2
  have s3 := hex_slice a3
  go_enter Tryd.func11, Tryd.ntmps11
  go_wp2_with fail
  go_at_call 20
  refine (cE _).mono ?_
  rintro e w1 ⟨x, rfl, k1⟩
  have kk : Kp w w1 := ((Chg.refl w (fun _ => False)).alloc _).trans k1 (fun _ _ x => x)
  obtain ⟨c0, c1, c2⟩ := cells_alloc3 k1
  go_wp2_with fail
  go_quiet (fail)
  clear e1 e2 e3 e4 u1 u2 u3 u4 v1 v2 v3 s1 s2 s3
  go_wp2
  refine wp_loop_rounds 4 ?_
  rw [rounds_succ]
  go_wp2
  rw [rounds_succ]
  go_wp2
  rw [rounds_succ]
  go_wp2
  rw [rounds_succ]
  go_wp2
  go_ret
  exact ⟨rfl, by repeat (first | exact kk | apply Chg.drew | apply Chg.drewN)⟩

set_option maxRecDepth 100000 in
set_option maxHeartbeats 4000000 in
theorem refShow_p5 (w : World) (f : Nat) (hf : f < 4096)
    (cE : ∀ V, Calls Tryd.prog 20 #[.agg #[.int .i64 1, .int .u8 5, .int .u32 f]] V fun e w' => ∃ x, e = .returned (.tuple #[.int .u32 x, .int .i64 0]) ∧ Kp V w') :
    Calls Tryd.prog 11 #[.agg #[.int .i64 1, .int .u8 5, .int .u32 f]] w fun e w' => e = .returned (.string ⟨#[114, 45, 120, 32, hx (f / 256), hx (f / 16 % 16), hx (f % 16)]⟩) ∧ Kp w w' := by
  have e1 : (f : Int) / 256 = ((f / 256 : Nat) : Int) := by omega
  have e2 : (f : Int) / 16 = ((f / 16 : Nat) : Int) := by omega
  have e3 : ((f / 16 : Nat) : Int) % 16 = ((f / 16 % 16 : Nat) : Int) := by omega
  have e4 : (f : Int) % 16 = ((f % 16 : Nat) : Int) := by omega
  have a1 : f / 256 < 16 := by omega
  have a2 : f / 16 % 16 < 16 := by omega
  have a3 : f % 16 < 16 := by omega
  have a4 : f / 16 < 256 := by omega
  generalize f / 16 % 16 = b at *
  generalize f / 16 = m at *
  generalize f / 256 = a at *
  generalize f % 16 = c at *
  have u1 := wr_u32 a (by omega)
  have u2 := wr_u32 b (by omega)
  have u3 := wr_u32 c (by omega)
  have u4 := wr_u32 m (by omega)
  have v1 := wr1_u32 a (by omega)
  have v2 := wr1_u32 b (by omega)
  have v3 := wr1_u32 c (by omega)
  have s1 := hex_slice a1
  have s2 := hex_slice a2
  have s3 := hex_slice a3
  go_enter Tryd.func11, Tryd.ntmps11
  go_wp2_with fail
  go_at_call 20
  refine (cE _).mono ?_
  rintro e w1 ⟨x, rfl, k1⟩
  have kk : Kp w w1 := ((Chg.refl w (fun _ => False)).alloc _).trans k1 (fun _ _ x => x)
  obtain ⟨c0, c1, c2⟩ := cells_alloc3 k1
  go_wp2_with fail
  go_quiet (fail)
  clear e1 e2 e3 e4 u1 u2 u3 u4 v1 v2 v3 s1 s2 s3
  go_wp2
  refine wp_loop_rounds 4 ?_
  rw [rounds_succ]
  go_wp2
  rw [rounds_succ]
  go_wp2
  rw [rounds_succ]
  go_wp2
  rw [rounds_succ]
  go_wp2
  go_ret
  exact ⟨rfl, by repeat (first | exact kk | apply Chg.drew | apply Chg.drewN)⟩

set_option maxRecDepth 100000 in
set_option maxHeartbeats 4000000 in
theorem refShow_p7 (w : World) (f : Nat) (hf : f < 4096)
    (cE : ∀ V, Calls Tryd.prog 20 #[.agg #[.int .i64 1, .int .u8 7, .int .u32 f]] V fun e w' => ∃ x, e = .returned (.tuple #[.int .u32 x, .int .i64 0]) ∧ Kp V w') :
    Calls Tryd.prog 11 #[.agg #[.int .i64 1, .int .u8 7, .int .u32 f]] w fun e w' => e = .returned (.string ⟨#[114, 119, 120, 32, hx (f / 256), hx (f / 16 % 16), hx (f % 16)]⟩) ∧ Kp w w' := by
  have e1 : (f : Int) / 256 = ((f / 256 : Nat) : Int) := by omega
  have e2 : (f : Int) / 16 = ((f / 16 : Nat) : Int) := by omega
  have e3 : ((f / 16 : Nat) : Int) % 16 = ((f / 16 % 16 : Nat) : Int) := by omega
  have e4 : (f : Int) % 16 = ((f % 16 : Nat) : Int) := by omega
  have a1 : f / 256 < 16 := by omega
  have a2 : f / 16 % 16 < 16 := by omega
  have a3 : f % 16 < 16 := by omega
  have a4 : f / 16 < 256 := by omega
  generalize f / 16 % 16 = b at *
  generalize f / 16 = m at *
  generalize f / 256 = a at *
  generalize f % 16 = c at *
  have u1 := wr_u32 a (by omega)
  have u2 := wr_u32 b (by omega)
  have u3 := wr_u32 c (by omega)
  have u4 := wr_u32 m (by omega)
  have v1 := wr1_u32 a (by omega)
  have v2 := wr1_u32 b (by omega)
  have v3 := wr1_u32 c (by omega)
  have s1 := hex_slice a1
  have s2 := hex_slice a2
  have s3 := hex_slice a3
  go_enter Tryd.func11, Tryd.ntmps11
  go_wp2_with fail
  go_at_call 20
  refine (cE _).mono ?_
  rintro e w1 ⟨x, rfl, k1⟩
  have kk : Kp w w1 := ((Chg.refl w (fun _ => False)).alloc _).trans k1 (fun _ _ x => x)
  obtain ⟨c0, c1, c2⟩ := cells_alloc3 k1
  go_wp2_with fail
  go_quiet (fail)
  clear e1 e2 e3 e4 u1 u2 u3 u4 v1 v2 v3 s1 s2 s3
  go_wp2
  refine wp_loop_rounds 4 ?_
  rw [rounds_succ]
  go_wp2
  rw [rounds_succ]
  go_wp2
  rw [rounds_succ]
  go_wp2
  rw [rounds_succ]
  go_wp2
  go_ret
  exact ⟨rfl, by repeat (first | exact kk | apply Chg.drew | apply Chg.drewN)⟩

theorem refShow_any (w : World) (k : Int) (p f : Nat) (hp : p < 256) (hf : f < 4294967296) :
    Calls Tryd.prog 11 #[.agg #[.int .i64 k, .int .u8 p, .int .u32 f]] w fun e w' => e = .returned (.string ⟨(tx k p f).toArray⟩) ∧ Kp w w' := by
  have cE : ∀ V, Calls Tryd.prog 20 #[.agg #[.int .i64 k, .int .u8 p, .int .u32 f]] V fun e w' => ∃ x, e = .returned (.tuple #[.int .u32 x, .int .i64 (ck k p f)]) ∧ Kp V w' := fun V => (refEncode_any V k p f hp hf).mono fun e w' ⟨he, hk⟩ => ⟨_, he, hk⟩
  by_cases h : ck k p f = 0
  · rw [h] at cE
    rw [show tx k p f = txv k p f by simp [tx, h]]
    rcases valid_cases h with ⟨rfl, rfl, rfl⟩ | ⟨rfl, hp1, hf1⟩ | ⟨rfl, rfl, hf1⟩
    · exact refShow_none w 0 (by omega) cE
    · rcases hp1 with rfl | rfl | rfl | rfl | rfl
      · exact refShow_p1 w f hf1 cE
      · exact refShow_p3 w f hf1 cE
      · exact refShow_p4 w f hf1 cE
      · exact refShow_p5 w f hf1 cE
      · exact refShow_p7 w f hf1 cE
    · exact refShow_table w f hf1 cE
  · rw [show tx k p f = [] by simp [tx, h]]
    generalize ck k p f = d at *
    have hb : (d == 0) = false := by simpa using h
    clear h
    go_enter Tryd.func11, Tryd.ntmps11
    go_wp2_with fail
    go_at_call 20
    refine (cE _).mono ?_
    rintro e w1 ⟨x, rfl, k1⟩
    go_wp2_with fail
    go_ret
    exact ⟨rfl, ((Chg.refl w (fun _ => False)).alloc _).trans k1 (fun _ _ x => x)⟩

end Go.Proofs.YtjmcimhklmfofabDoor
