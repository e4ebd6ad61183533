import Derived.Test.YtgofjmhdgmfgfaaGreatDoorTd
import Derived.Deep.RegionHeld3
namespace Go.Proofs.YtgofjmhdgmfgfaaGreatDoor
open Go.ChangeShapes Go.WideShapes Go.ChangeAt Go.RowKit
set_option linter.unusedVariables false

/-- The register in the bits from l on. -/
def rg (v l : Nat) : Nat := dR v l (2 ^ l)
theorem at_any (w : World) (v l : Nat) (hv : v < 4294967296) (hl : l = 0 ∨ l = 14 ∨ l = 18 ∨ l = 22) :
    Calls Tryz.prog 64 #[.int .u32 v, .int .u64 l] w fun e w' => e = .returned (.int .u8 (rg v l : Nat)) ∧ w' = w := by
  rcases hl with rfl | rfl | rfl | rfl
  · exact at_0 w v hv
  · exact at_14 w v hv
  · exact at_18 w v hv
  · exact at_22 w v hv
theorem tabsL : ∀ f : Fin 9, (lD f.val = 0 ∨ lD f.val = 14 ∨ lD f.val = 18 ∨ lD f.val = 22) ∧ (lA f.val = 0 ∨ lA f.val = 14 ∨ lA f.val = 18 ∨ lA f.val = 22) ∧ (lB f.val = 0 ∨ lB f.val = 14 ∨ lB f.val = 18 ∨ lB f.val = 22) ∧ pD f.val = 2 ^ lD f.val ∧ pA f.val = 2 ^ lA f.val ∧ pB f.val = 2 ^ lB f.val := by decide +kernel
theorem dregs (v : Nat) : dD v = rg v (lD (fo (dO v))) ∧ dA v = rg v (lA (fo (dO v))) ∧ dB v = rg v (lB (fo (dO v))) := by
  obtain ⟨_, _, _, h1, h2, h3⟩ := tabsL ⟨fo (dO v), fo_lt _⟩
  simp only at h1 h2 h3
  exact ⟨by rw [dD, rg, h1], by rw [dA, rg, h2], by rw [dB, rg, h3]⟩
theorem zero24 : (Tryz.prog.info? 48).map (fun i => (i.zero, i.size)) = some (some (.agg #[.int .i64 0, .int .u8 0, .int .u8 0, .int .u8 0, .int .i32 0]), 5) := by kernel_rfl
theorem hmx : Tryz.prog.follows .mixedOrders = true := by kernel_rfl
set_option maxHeartbeats 8000000 in
set_option maxRecDepth 100000 in
theorem instrOf_any (w : World) (hg : Gt w) (v : Nat) (hv : v < 4294967296) (ho : isO (dO v) = true) :
    Calls Tryz.prog 33 #[.int .u32 v] w fun e w' => e = .returned (iv (dO v) (dD v : Nat) (dA v : Nat) (dB v : Nat) (dI v)) ∧ Kp w w' := by
  have hL := fun w h => layoutOf_any w h (dO v)
  have hM := fun w h => immOf_any w h (dO v) ho v hv
  obtain ⟨e1, e2, e3⟩ := dregs v
  rw [e1, e2, e3, show dI v = dF (fo (dO v)) (tk (dO v)) v from rfl]
  obtain ⟨h1, h2, h3, _⟩ := tabsL ⟨fo (dO v), fo_lt _⟩
  simp only at h1 h2 h3
  have H1 := fun w => at_any w v (lD (fo (dO v))) hv h1
  have H2 := fun w => at_any w v (lA (fo (dO v))) hv h2
  have H3 := fun w => at_any w v (lB (fo (dO v))) hv h3
  clear e1 e2 e3 h1 h2 h3
  have hO : (v : Int) / 67108864 = dO v := by simp [dO]
  have hO6 : wrap64 (dO v) = dO v := by rw [← hO]; simp only [wrap64]; omega
  generalize dF (fo (dO v)) (tk (dO v)) v = n at *
  generalize rg v (lD (fo (dO v))) = d at *
  generalize rg v (lA (fo (dO v))) = a at *
  generalize rg v (lB (fo (dO v))) = b at *
  generalize lD (fo (dO v)) = y0 at *
  generalize lA (fo (dO v)) = y1 at *
  generalize lB (fo (dO v)) = y2 at *
  generalize lI (fo (dO v)) = y3 at *
  generalize dO v = op at *
  clear ho hv
  generalize (y0 : Int) = x0 at *
  generalize (y1 : Int) = x1 at *
  generalize (y2 : Int) = x2 at *
  generalize (y3 : Int) = x3 at *
  generalize (d : Int) = d' at *
  generalize (a : Int) = a' at *
  generalize (b : Int) = b' at *
  generalize (v : Int) = v' at *
  have hg1 := hg.alloc (.cells #[.int .i64 0, .int .u8 0, .int .u8 0, .int .u8 0, .int .i32 0] 48)
  go_enter Tryz.func33, Tryz.ntmps33
  go_wp2_with (first
    | (go_at_call 61; refine (hL _ hg1).mono ?_; rintro e w1 ⟨rfl, k1⟩)
    | fail)
  obtain ⟨W, hW⟩ : ∃ W, W = w1.alloc (.cells #[.int .u64 x0, .int .u64 x1, .int .u64 x2, .int .u64 x3] 127) := ⟨_, rfl⟩
  have gL : W.heap[w1.heap.size]? = some (.cells #[.int .u64 x0, .int .u64 x1, .int .u64 x2, .int .u64 x3] 127 (0, 0)) := by rw [hW]; exact heap_alloc_new _ _
  have gR : W.heap[w.heap.size]? = some (.cells #[.int .i64 0, .int .u8 0, .int .u8 0, .int .u8 0, .int .i32 0] 48 (0, 0)) := by rw [hW]; exact al_old _ (Kp.heap k1 (heap_alloc_new w _))
  have kW : Kp w W := by rw [hW]; exact (((Chg.refl _ _).alloc _).trans k1 (fun _ _ h => h)).alloc _
  rw [← hW]
  have hgW := hg.keep kW
  have HK : ∀ V, Kp W V → V.cell? ⟨w1.heap.size, 0, none⟩ = some (.int .u64 x0) ∧ V.cell? ⟨w1.heap.size, 1, none⟩ = some (.int .u64 x1) ∧ V.cell? ⟨w1.heap.size, 2, none⟩ = some (.int .u64 x2) := fun V kV => by
    obtain ⟨a0, a1, a2, _⟩ := cells4 (Kp.heap kV gL)
    exact ⟨a0, a1, a2⟩
  have HR : ∀ V, Kp W V → V.cell? ⟨w.heap.size, 0, none⟩ = some (.int .i64 0) ∧ V.cell? ⟨w.heap.size, 1, none⟩ = some (.int .u8 0) ∧ V.cell? ⟨w.heap.size, 2, none⟩ = some (.int .u8 0) ∧ V.cell? ⟨w.heap.size, 3, none⟩ = some (.int .u8 0) ∧ V.cell? ⟨w.heap.size, 4, none⟩ = some (.int .i32 0) ∧ V.frozen? ⟨w.heap.size, 0, none⟩ = false ∧ V.frozen? ⟨w.heap.size, 1, none⟩ = false ∧ V.frozen? ⟨w.heap.size, 2, none⟩ = false ∧ V.frozen? ⟨w.heap.size, 3, none⟩ = false ∧ V.frozen? ⟨w.heap.size, 4, none⟩ = false := fun V kV => cells5 (Kp.heap kV gR)
  have hne : ¬ w1.heap.size = w.heap.size := by have := k1.size; rw [al_size] at this; omega
  clear hW hg1 k1 hL
  have hM' := hM W.drew (hgW.keep (Chg.refl _ _).drew)
  refine wp_region_held_drew (S := fun w' => w'.cell? ⟨w1.heap.size, 0, none⟩ = some (.int .u64 x0) ∧ w'.cell? ⟨w1.heap.size, 1, none⟩ = some (.int .u64 x1) ∧ w'.cell? ⟨w1.heap.size, 2, none⟩ = some (.int .u64 x2)) hmx (HK _ (Chg.refl _ _).drew) (fun hS => ?_)
  refine wpAnyH_take (i := 0) (oi := { dst := some 10, op := Op.move (Operand.tmp 3), type := 46, pos := "words.go:41", after := #[], guard := none }) (v := .int .i64 op) rfl (by kernel_rfl) (by kernel_rfl) (by kernel_rfl) (fun _ _ _ h => h) (Or.inl ⟨by rfl, ?_⟩) hS ?_
  · rintro wx ⟨d0, d1, d2⟩
    go_simp
  simp only [Act.put, List.setIfInBounds_toArray, List.set_cons_zero, List.set_cons_succ]
  refine wpAnyH_take (i := 1) (oi := { dst := some 11, op := Op.move (Operand.tmp 0), type := 22, pos := "words.go:41", after := #[], guard := none }) (v := .int .u32 v') rfl (by kernel_rfl) (by kernel_rfl) (by kernel_rfl) (fun _ _ _ h => h) (Or.inl ⟨by rfl, ?_⟩) hS ?_
  · rintro wx ⟨d0, d1, d2⟩
    go_simp
  simp only [Act.put, List.setIfInBounds_toArray, List.set_cons_zero, List.set_cons_succ]
  refine wpAnyH_take (i := 2) (oi := { dst := some 12, op := Op.fieldAddr 127 (Operand.tmp 4) 0, type := 0, pos := "words.go:41", after := #[], guard := none }) (v := .pointer (some ⟨w1.heap.size, 0, none⟩)) rfl (by kernel_rfl) (by kernel_rfl) (by kernel_rfl) (fun _ _ _ h => h) (Or.inl ⟨by rfl, ?_⟩) hS ?_
  · rintro wx ⟨d0, d1, d2⟩
    go_simp
  simp only [Act.put, List.setIfInBounds_toArray, List.set_cons_zero, List.set_cons_succ]
  refine wpAnyH_take (i := 3) (oi := { dst := some 13, op := Op.load 66 (Operand.tmp 12), type := 66, pos := "words.go:41", after := #[{ on := 2, ground := Ground.data }], guard := none }) (v := .int .u64 x0) rfl (by kernel_rfl) (by kernel_rfl) (by kernel_rfl) (fun _ _ _ h => h) (Or.inl ⟨by rfl, ?_⟩) hS ?_
  · rintro wx ⟨d0, d1, d2⟩
    go_simp
  simp only [Act.put, List.setIfInBounds_toArray, List.set_cons_zero, List.set_cons_succ]
  refine wpAnyH_take (i := 5) (oi := { dst := some 15, op := Op.move (Operand.tmp 0), type := 22, pos := "words.go:41", after := #[], guard := none }) (v := .int .u32 v') rfl (by kernel_rfl) (by kernel_rfl) (by kernel_rfl) (fun _ _ _ h => h) (Or.inl ⟨by rfl, ?_⟩) hS ?_
  · rintro wx ⟨d0, d1, d2⟩
    go_simp
  simp only [Act.put, List.setIfInBounds_toArray, List.set_cons_zero, List.set_cons_succ]
  refine wpAnyH_take (i := 6) (oi := { dst := some 16, op := Op.fieldAddr 127 (Operand.tmp 4) 1, type := 0, pos := "words.go:41", after := #[], guard := none }) (v := .pointer (some ⟨w1.heap.size, 1, none⟩)) rfl (by kernel_rfl) (by kernel_rfl) (by kernel_rfl) (fun _ _ _ h => h) (Or.inl ⟨by rfl, ?_⟩) hS ?_
  · rintro wx ⟨d0, d1, d2⟩
    go_simp
  simp only [Act.put, List.setIfInBounds_toArray, List.set_cons_zero, List.set_cons_succ]
  refine wpAnyH_take (i := 7) (oi := { dst := some 17, op := Op.load 66 (Operand.tmp 16), type := 66, pos := "words.go:41", after := #[{ on := 6, ground := Ground.data }], guard := none }) (v := .int .u64 x1) rfl (by kernel_rfl) (by kernel_rfl) (by kernel_rfl) (fun _ _ _ h => h) (Or.inl ⟨by rfl, ?_⟩) hS ?_
  · rintro wx ⟨d0, d1, d2⟩
    go_simp
  simp only [Act.put, List.setIfInBounds_toArray, List.set_cons_zero, List.set_cons_succ]
  refine wpAnyH_take (i := 9) (oi := { dst := some 19, op := Op.move (Operand.tmp 0), type := 22, pos := "words.go:41", after := #[], guard := none }) (v := .int .u32 v') rfl (by kernel_rfl) (by kernel_rfl) (by kernel_rfl) (fun _ _ _ h => h) (Or.inl ⟨by rfl, ?_⟩) hS ?_
  · rintro wx ⟨d0, d1, d2⟩
    go_simp
  simp only [Act.put, List.setIfInBounds_toArray, List.set_cons_zero, List.set_cons_succ]
  refine wpAnyH_take (i := 10) (oi := { dst := some 20, op := Op.fieldAddr 127 (Operand.tmp 4) 2, type := 0, pos := "words.go:41", after := #[], guard := none }) (v := .pointer (some ⟨w1.heap.size, 2, none⟩)) rfl (by kernel_rfl) (by kernel_rfl) (by kernel_rfl) (fun _ _ _ h => h) (Or.inl ⟨by rfl, ?_⟩) hS ?_
  · rintro wx ⟨d0, d1, d2⟩
    go_simp
  simp only [Act.put, List.setIfInBounds_toArray, List.set_cons_zero, List.set_cons_succ]
  refine wpAnyH_take (i := 11) (oi := { dst := some 21, op := Op.load 66 (Operand.tmp 20), type := 66, pos := "words.go:41", after := #[{ on := 10, ground := Ground.data }], guard := none }) (v := .int .u64 x2) rfl (by kernel_rfl) (by kernel_rfl) (by kernel_rfl) (fun _ _ _ h => h) (Or.inl ⟨by rfl, ?_⟩) hS ?_
  · rintro wx ⟨d0, d1, d2⟩
    go_simp
  simp only [Act.put, List.setIfInBounds_toArray, List.set_cons_zero, List.set_cons_succ]
  refine wpAnyH_take (i := 13) (oi := { dst := some 23, op := Op.move (Operand.tmp 0), type := 22, pos := "words.go:41", after := #[], guard := none }) (v := .int .u32 v') rfl (by kernel_rfl) (by kernel_rfl) (by kernel_rfl) (fun _ _ _ h => h) (Or.inl ⟨by rfl, ?_⟩) hS ?_
  · rintro wx ⟨d0, d1, d2⟩
    go_simp
  simp only [Act.put, List.setIfInBounds_toArray, List.set_cons_zero, List.set_cons_succ]
  refine wpAnyH_take (i := 14) (oi := { dst := some 24, op := Op.move (Operand.tmp 3), type := 46, pos := "words.go:41", after := #[], guard := none }) (v := .int .i64 op) rfl (by kernel_rfl) (by kernel_rfl) (by kernel_rfl) (fun _ _ _ h => h) (Or.inl ⟨by rfl, ?_⟩) hS ?_
  · rintro wx ⟨d0, d1, d2⟩
    go_simp
  simp only [Act.put, List.setIfInBounds_toArray, List.set_cons_zero, List.set_cons_succ]
  refine wpAnyH_ready (rs := [4]) (by kernel_rfl) (by simp) ?_
  refine AllReadyH.cons (o := { dst := some 14, op := Op.call { callee := Callee.value (Operand.func 64), args := #[Operand.tmp 11, Operand.tmp 13], argTypes := #[22, 66] }, type := 5, pos := "words.go:43", after := #[{ on := 1, ground := Ground.data }, { on := 3, ground := Ground.data }], guard := none }) rfl (fun K hK => ?_) AllReadyH.nil
  rw [if_pos (by rfl)]
  go_simp
  go_at_call 64
  with_reducible refine (H1 _).mono ?_
  rintro e wz ⟨rfl, rfl⟩
  go_simp
  refine hK.out _ _ hS (fun _ => ?_)
  clear hK K
  refine wpAnyH_ready (rs := [8]) (by kernel_rfl) (by simp) ?_
  refine AllReadyH.cons (o := { dst := some 18, op := Op.call { callee := Callee.value (Operand.func 64), args := #[Operand.tmp 15, Operand.tmp 17], argTypes := #[22, 66] }, type := 5, pos := "words.go:44", after := #[{ on := 5, ground := Ground.data }, { on := 7, ground := Ground.data }, { on := 4, ground := Ground.chain }], guard := none }) rfl (fun K hK => ?_) AllReadyH.nil
  rw [if_pos (by rfl)]
  go_simp
  go_at_call 64
  with_reducible refine (H2 _).mono ?_
  rintro e wz ⟨rfl, rfl⟩
  go_simp
  refine hK.out _ _ hS (fun _ => ?_)
  clear hK K
  refine wpAnyH_ready (rs := [12]) (by kernel_rfl) (by simp) ?_
  refine AllReadyH.cons (o := { dst := some 22, op := Op.call { callee := Callee.value (Operand.func 64), args := #[Operand.tmp 19, Operand.tmp 21], argTypes := #[22, 66] }, type := 5, pos := "words.go:45", after := #[{ on := 9, ground := Ground.data }, { on := 11, ground := Ground.data }, { on := 8, ground := Ground.chain }], guard := none }) rfl (fun K hK => ?_) AllReadyH.nil
  rw [if_pos (by rfl)]
  go_simp
  go_at_call 64
  with_reducible refine (H3 _).mono ?_
  rintro e wz ⟨rfl, rfl⟩
  go_simp
  refine hK.out _ _ hS (fun _ => ?_)
  clear hK K
  refine wpAnyH_ready (rs := [15]) (by kernel_rfl) (by simp) ?_
  refine AllReadyH.cons (o := { dst := some 25, op := Op.call { callee := Callee.value (Operand.func 65), args := #[Operand.tmp 23, Operand.tmp 24], argTypes := #[22, 46] }, type := 21, pos := "words.go:46", after := #[{ on := 13, ground := Ground.data }, { on := 14, ground := Ground.data }, { on := 12, ground := Ground.chain }], guard := none }) rfl (fun K hK => ?_) AllReadyH.nil
  rw [if_pos (by rfl)]
  go_simp
  go_at_call 65
  with_reducible refine hM'.mono ?_
  rintro e w5 ⟨rfl, k5⟩
  go_simp
  have kk : Kp W w5 := (Chg.refl _ _).drew.trans k5 (fun _ _ e => e)
  refine hK.out _ _ (HK _ kk) (fun hS5 => ?_)
  clear hK K
  refine wpAnyH_take (i := 16) (oi := { dst := some 26, op := Op.build 48 #[(0, Operand.tmp 10), (1, Operand.tmp 14), (2, Operand.tmp 18), (3, Operand.tmp 22), (4, Operand.tmp 25)], type := 48, pos := "words.go:41", after := #[{ on := 0, ground := Ground.data }, { on := 4, ground := Ground.data }, { on := 8, ground := Ground.data }, { on := 12, ground := Ground.data }, { on := 15, ground := Ground.data }], guard := none }) (v := .agg #[.int .i64 op, .int .u8 d', .int .u8 a', .int .u8 b', .int .i32 n]) rfl (by kernel_rfl) (by kernel_rfl) (by kernel_rfl) (fun _ _ _ h => h) (Or.inl ⟨by rfl, ?_⟩) hS5 ?_
  · rintro wx ⟨d0, d1, d2⟩
    go_simp
  simp only [Act.put, List.setIfInBounds_toArray, List.set_cons_zero, List.set_cons_succ]
  obtain ⟨r0, r1, r2, r3, r4, f0, f1, f2, f3, f4⟩ := HR _ kk
  refine wpAnyH_ready (rs := [17]) (by kernel_rfl) (by simp) ?_
  refine AllReadyH.cons (o := { dst := none, op := Op.store 48 (Operand.tmp 2) (Operand.tmp 26), type := 0, pos := "words.go:41", after := #[{ on := 16, ground := Ground.data }, { on := 15, ground := Ground.chain }, { on := 0, ground := Ground.phase }, { on := 1, ground := Ground.phase }, { on := 2, ground := Ground.phase }, { on := 3, ground := Ground.phase }, { on := 4, ground := Ground.phase }, { on := 5, ground := Ground.phase }, { on := 6, ground := Ground.phase }, { on := 7, ground := Ground.phase }, { on := 8, ground := Ground.phase }, { on := 9, ground := Ground.phase }, { on := 10, ground := Ground.phase }, { on := 11, ground := Ground.phase }, { on := 12, ground := Ground.phase }, { on := 13, ground := Ground.phase }, { on := 14, ground := Ground.phase }, { on := 15, ground := Ground.phase }, { on := 16, ground := Ground.phase }], guard := none }) rfl (fun K hK => ?_) AllReadyH.nil
  rw [if_pos (by rfl)]
  go_simp
  obtain ⟨V, hV⟩ : ∃ V, V = (((((w5.setCell ⟨w.heap.size, 0, none⟩ (.int .i64 op)).setCell ⟨w.heap.size, 1, none⟩ (.int .u8 d')).setCell ⟨w.heap.size, 2, none⟩ (.int .u8 a')).setCell ⟨w.heap.size, 3, none⟩ (.int .u8 b')).setCell ⟨w.heap.size, 4, none⟩ (.int .i32 n)) := ⟨_, rfl⟩
  rw [← hV]
  obtain ⟨v1, v2, v3⟩ := box5 (Kp.heap kk gR) _ _ _ _ _ hV
  obtain ⟨z0, z1, z2, _⟩ := cells4 (v3.heap (Kp.heap kk gL) hne)
  refine hK.out _ _ ⟨z0, z1, z2⟩ (fun _ => ?_)
  clear hK K
  refine wpAnyH_done (by kernel_rfl) ?_ _
  obtain ⟨r0, r1, r2, r3, r4, _⟩ := cells5 v1
  go_wp2
  refine bodyPost_ret (v := .agg #[.int .i64 op, .int .u8 d', .int .u8 a', .int .u8 b', .int .i32 n]) (by simp [results, Tryz.results33, go_sem, r0, r1, r2, r3, r4]) rfl ⟨rfl, ?_⟩
  exact Chg.trans (Kp.trans kW kk) v3 (fun i hi e => absurd e (Nat.ne_of_lt hi))
end Go.Proofs.YtgofjmhdgmfgfaaGreatDoor
namespace Go.Proofs.YtgofjmhdgmfgfaaGreatDoor
open Go.ChangeShapes Go.WideShapes Go.ChangeAt Go.RowKit
set_option linter.unusedVariables false

theorem mod_toNat (n : Int) (K : Nat) (hK : 0 < K) : (((n % (K : Int)).toNat : Nat) : Int) = n % (K : Int) := Int.toNat_of_nonneg (Int.emod_nonneg _ (by omega))
theorem wordOf_any (w : World) (hg : Gt w) (op : Int) (d a b : Nat) (n : Int) (h : ck op d a b n = 0) :
    Calls Tryz.prog 150 #[iv op d a b n] w fun e w' => e = .returned (.int .u32 (wd op d a b n : Nat)) ∧ Kp w w' := by
  obtain ⟨h0, h1, h2⟩ := ck_zero h
  obtain ⟨o0, o1⟩ := (isO_iff op).1 h0
  obtain ⟨o, rfl⟩ : ∃ o : Nat, op = o := ⟨op.toNat, by omega⟩
  have ho : o < 49 := by omega
  have hm : (rm d (lD (fo o)) = true ∧ rm a (lA (fo o)) = true) ∧ rm b (lB (fo o)) = true := by simpa [rms] using h1
  have hn : lo o ≤ n ∧ n ≤ hi o := by simpa [im] using h2
  have e : ((wd o d a b n : Nat) : Int) = (o : Int) * 67108864 + (d : Int) * (pD (fo o) : Nat) + (a : Int) * (pA (fo o) : Nat) + (b : Int) * (pB (fo o) : Nat) + (((n % ((pI (fo o) : Nat) : Int)).toNat : Nat) : Int) := by
    rw [wd, wdF, Int.toNat_natCast]; simp only [Int.natCast_add, Int.natCast_mul]; rfl
  rw [e]
  clear e h h0 h1 h2
  have hp : fo o = 1 ∨ fo o = 2 ∨ fo o = 3 ∨ fo o = 4 ∨ fo o = 5 ∨ fo o = 6 ∨ fo o = 7 ∨ fo o = 8 := by
    have := fo_lt o
    have h : fo o ≠ 0 := fun h => by
      rcases op_pairs ((isO_iff (o : Int)).2 ⟨o0, o1⟩) with ⟨q, _⟩ | ⟨q, _⟩ | ⟨q, _⟩ | ⟨q, _⟩ | ⟨q, _⟩ | ⟨q, _⟩ | ⟨q, _⟩ | ⟨q, _⟩ | ⟨q, _⟩ | ⟨q, _⟩ | ⟨q, _⟩ | ⟨q, _⟩ | ⟨q, _⟩ <;> omega
    omega
  rcases hp with f | f | f | f | f | f | f | f
  · rw [f] at hm ⊢
    obtain ⟨⟨hd, ha⟩, hb⟩ := hm
    have hd' : d < 16 := by simpa [rm, lD_1] using hd
    have ha' : a < 16 := by simpa [rm, lA_1] using ha
    have hb' : b < 16 := by simpa [rm, lB_1] using hb
    obtain rfl : n = 0 := by
      have t : tk (o : Int) = 0 := by
        rcases op_pairs ((isO_iff (o : Int)).2 ⟨o0, o1⟩) with ⟨q, t⟩ | ⟨q, t⟩ | ⟨q, t⟩ | ⟨q, t⟩ | ⟨q, t⟩ | ⟨q, t⟩ | ⟨q, t⟩ | ⟨q, t⟩ | ⟨q, t⟩ | ⟨q, t⟩ | ⟨q, t⟩ | ⟨q, t⟩ | ⟨q, t⟩ <;> omega
      have e1 : lo (o : Int) = 0 := by simp [lo, loF, t]
      have e2 : hi (o : Int) = 0 := by simp [hi, hiF, t]
      rw [e1, e2] at hn; omega
    refine (word_1 w hg o ho d a b hd' ha' hb'  (by rw [f]; rfl) (by rw [f]; rfl) (by rw [f]; rfl) (by rw [f]; rfl)).mono ?_
    rintro e w' ⟨rfl, k⟩
    refine ⟨ret_int ?_, k⟩
    simp only [pD_1, pA_1, pB_1, pI_1]
    omega
  · rw [f] at hm ⊢
    obtain ⟨⟨hd, ha⟩, hb⟩ := hm
    have hd' : d < 16 := by simpa [rm, lD_2] using hd
    have ha' : a < 16 := by simpa [rm, lA_2] using ha
    obtain rfl : b = 0 := by simpa [rm, lB_2] using hb
    refine (word_2 w hg o ho d a hd' ha' n (by rw [f]; rfl) (by rw [f]; rfl) (by rw [f]; rfl) (by rw [f]; rfl)).mono ?_
    rintro e w' ⟨rfl, k⟩
    refine ⟨ret_int ?_, k⟩
    simp only [pD_2, pA_2, pB_2, pI_2]
    omega
  · rw [f] at hm ⊢
    obtain ⟨⟨hd, ha⟩, hb⟩ := hm
    obtain rfl : d = 0 := by simpa [rm, lD_3] using hd
    have ha' : a < 16 := by simpa [rm, lA_3] using ha
    have hb' : b < 16 := by simpa [rm, lB_3] using hb
    refine (word_3 w hg o ho a b ha' hb' n (by rw [f]; rfl) (by rw [f]; rfl) (by rw [f]; rfl) (by rw [f]; rfl)).mono ?_
    rintro e w' ⟨rfl, k⟩
    refine ⟨ret_int ?_, k⟩
    simp only [pD_3, pA_3, pB_3, pI_3]
    omega
  · rw [f] at hm ⊢
    obtain ⟨⟨hd, ha⟩, hb⟩ := hm
    have hd' : d < 16 := by simpa [rm, lD_4] using hd
    obtain rfl : a = 0 := by simpa [rm, lA_4] using ha
    obtain rfl : b = 0 := by simpa [rm, lB_4] using hb
    refine (word_4 w hg o ho d hd' n (by rw [f]; rfl) (by rw [f]; rfl) (by rw [f]; rfl) (by rw [f]; rfl)).mono ?_
    rintro e w' ⟨rfl, k⟩
    refine ⟨ret_int ?_, k⟩
    simp only [pD_4, pA_4, pB_4, pI_4]
    omega
  · rw [f] at hm ⊢
    obtain ⟨⟨hd, ha⟩, hb⟩ := hm
    have hd' : d < 16 := by simpa [rm, lD_5] using hd
    obtain rfl : a = 0 := by simpa [rm, lA_5] using ha
    obtain rfl : b = 0 := by simpa [rm, lB_5] using hb
    obtain rfl : n = 0 := by
      have t : tk (o : Int) = 0 := by
        rcases op_pairs ((isO_iff (o : Int)).2 ⟨o0, o1⟩) with ⟨q, t⟩ | ⟨q, t⟩ | ⟨q, t⟩ | ⟨q, t⟩ | ⟨q, t⟩ | ⟨q, t⟩ | ⟨q, t⟩ | ⟨q, t⟩ | ⟨q, t⟩ | ⟨q, t⟩ | ⟨q, t⟩ | ⟨q, t⟩ | ⟨q, t⟩ <;> omega
      have e1 : lo (o : Int) = 0 := by simp [lo, loF, t]
      have e2 : hi (o : Int) = 0 := by simp [hi, hiF, t]
      rw [e1, e2] at hn; omega
    refine (word_5 w hg o ho d hd'  (by rw [f]; rfl) (by rw [f]; rfl) (by rw [f]; rfl) (by rw [f]; rfl)).mono ?_
    rintro e w' ⟨rfl, k⟩
    refine ⟨ret_int ?_, k⟩
    simp only [pD_5, pA_5, pB_5, pI_5]
    omega
  · rw [f] at hm ⊢
    obtain ⟨⟨hd, ha⟩, hb⟩ := hm
    obtain rfl : d = 0 := by simpa [rm, lD_6] using hd
    have ha' : a < 16 := by simpa [rm, lA_6] using ha
    obtain rfl : b = 0 := by simpa [rm, lB_6] using hb
    obtain rfl : n = 0 := by
      have t : tk (o : Int) = 0 := by
        rcases op_pairs ((isO_iff (o : Int)).2 ⟨o0, o1⟩) with ⟨q, t⟩ | ⟨q, t⟩ | ⟨q, t⟩ | ⟨q, t⟩ | ⟨q, t⟩ | ⟨q, t⟩ | ⟨q, t⟩ | ⟨q, t⟩ | ⟨q, t⟩ | ⟨q, t⟩ | ⟨q, t⟩ | ⟨q, t⟩ | ⟨q, t⟩ <;> omega
      have e1 : lo (o : Int) = 0 := by simp [lo, loF, t]
      have e2 : hi (o : Int) = 0 := by simp [hi, hiF, t]
      rw [e1, e2] at hn; omega
    refine (word_6 w hg o ho a ha'  (by rw [f]; rfl) (by rw [f]; rfl) (by rw [f]; rfl) (by rw [f]; rfl)).mono ?_
    rintro e w' ⟨rfl, k⟩
    refine ⟨ret_int ?_, k⟩
    simp only [pD_6, pA_6, pB_6, pI_6]
    omega
  · rw [f] at hm ⊢
    obtain ⟨⟨hd, ha⟩, hb⟩ := hm
    obtain rfl : d = 0 := by simpa [rm, lD_7] using hd
    obtain rfl : a = 0 := by simpa [rm, lA_7] using ha
    obtain rfl : b = 0 := by simpa [rm, lB_7] using hb
    refine (word_7 w hg o ho   n (by rw [f]; rfl) (by rw [f]; rfl) (by rw [f]; rfl) (by rw [f]; rfl)).mono ?_
    rintro e w' ⟨rfl, k⟩
    refine ⟨ret_int ?_, k⟩
    simp only [pD_7, pA_7, pB_7, pI_7]
    omega
  · rw [f] at hm ⊢
    obtain ⟨⟨hd, ha⟩, hb⟩ := hm
    obtain rfl : d = 0 := by simpa [rm, lD_8] using hd
    obtain rfl : a = 0 := by simpa [rm, lA_8] using ha
    obtain rfl : b = 0 := by simpa [rm, lB_8] using hb
    obtain rfl : n = 0 := by
      have t : tk (o : Int) = 0 := by
        rcases op_pairs ((isO_iff (o : Int)).2 ⟨o0, o1⟩) with ⟨q, t⟩ | ⟨q, t⟩ | ⟨q, t⟩ | ⟨q, t⟩ | ⟨q, t⟩ | ⟨q, t⟩ | ⟨q, t⟩ | ⟨q, t⟩ | ⟨q, t⟩ | ⟨q, t⟩ | ⟨q, t⟩ | ⟨q, t⟩ | ⟨q, t⟩ <;> omega
      have e1 : lo (o : Int) = 0 := by simp [lo, loF, t]
      have e2 : hi (o : Int) = 0 := by simp [hi, hiF, t]
      rw [e1, e2] at hn; omega
    refine (word_8 w hg o ho    (by rw [f]; rfl) (by rw [f]; rfl) (by rw [f]; rfl) (by rw [f]; rfl)).mono ?_
    rintro e w' ⟨rfl, k⟩
    refine ⟨ret_int ?_, k⟩
    simp only [pD_8, pA_8, pB_8, pI_8]
    omega

theorem Encode_any (w : World) (hg : Gt w) (op : Int) (d a b : Nat) (n : Int) :
    Calls Tryz.prog 132 #[iv op d a b n] w fun e w' => e = .returned (.tuple #[.int .u32 (ew op d a b n), .int .i64 (ck op d a b n)]) ∧ Kp w w' := by
  have hC := fun w h => check_any w h op d a b n
  have hW := fun w h => wordOf_any w h op d a b n
  have HE : Hid (ew op d a b n = if ck op d a b n = 0 then (wd op d a b n : Int) else 0) := rfl
  generalize ew op d a b n = r at *
  generalize wd op d a b n = x at *
  generalize ck op d a b n = c at *
  generalize (x : Int) = x' at *
  generalize (d : Int) = d' at *
  generalize (a : Int) = a' at *
  generalize (b : Int) = b' at *
  have hg1 := hg.alloc (.cells #[.int .i64 op, .int .u8 d', .int .u8 a', .int .u8 b', .int .i32 n] 48)
  by_cases hc : c = 0
  · subst hc
    have hr : r = x' := by rw [HE.out, if_pos rfl]
    subst hr
    clear HE
    have hW' := fun w h => hW w h rfl
    clear hW
    go_enter Tryz.func132, Tryz.ntmps132
    go_wp2_with (first
      | (go_at_call 34; refine (hC _ hg1).mono ?_; rintro e w1 ⟨rfl, k1⟩; have g0 := Kp.heap k1 (heap_alloc_new w _); obtain ⟨c0, c1, c2, c3, c4, _⟩ := cells5 g0; have hg2 := hg1.keep k1)
      | (go_at_call 150; refine (hW' _ hg2).mono ?_; rintro e w2 ⟨rfl, k2⟩))
    go_ret2
    exact ⟨rfl, (((Chg.refl _ _).alloc _).trans k1 (fun _ _ h => h)).trans k2 (fun _ _ h => h)⟩
  · have hr : r = 0 := by rw [HE.out, if_neg hc]
    subst hr
    clear HE hW
    have hb : (c == 0) = false := by simpa using hc
    go_enter Tryz.func132, Tryz.ntmps132
    go_wp2_with (go_at_call 34; refine (hC _ hg1).mono ?_; rintro e w1 ⟨rfl, k1⟩)
    go_ret2
    exact ⟨rfl, ((Chg.refl _ _).alloc _).trans k1 (fun _ _ h => h)⟩
theorem named_1 (w : World) (hg : Gt w) (op : Int) (h0 : lD (fo op) = 22) (h1 : lA (fo op) = 18) (h2 : lB (fo op) = 14) (h3 : lI (fo op) = 0) :
    Calls Tryz.prog 32 #[.int .i64 op] w fun e w' => e = .returned (.int .u32 4294950912) ∧ Kp w w' := by
  have hL : ∀ w, Gt w → Calls Tryz.prog 61 #[.int .i64 op] w fun e w' => e = .returned (.agg #[.int .u64 22, .int .u64 18, .int .u64 14, .int .u64 0]) ∧ Kp w w' := fun w h => layout_at op 22 18 14 0 h0 h1 h2 h3 w h
  clear h0 h1 h2 h3
  go_enter Tryz.func32, Tryz.ntmps32
  go_wp2_with (first | (go_at_call 61; refine (hL _ hg).mono ?_; rintro e w1 ⟨rfl, k1⟩) | fail)
  go_quiet (first | (go_at_call 62; with_reducible exact Calls.quiet_of_same (mask_14 _)) | (go_at_call 62; with_reducible exact Calls.quiet_of_same (mask_18 _)) | (go_at_call 62; with_reducible exact Calls.quiet_of_same (mask_22 _)) | fail)
  go_wp2_with (fail)
  generalize hW : (w1.alloc (.cells #[.int .u64 22, .int .u64 18, .int .u64 14, .int .u64 0] 127)).drewN nq = W
  have kW : Kp w W := by rw [← hW]; exact (k1.alloc _).drewN _
  have gW : W.heap[w1.heap.size]? = some (.cells #[.int .u64 22, .int .u64 18, .int .u64 14, .int .u64 0] 127 (0, 0)) := by rw [← hW]; exact heap_alloc_new w1 _
  obtain ⟨c0, c1, c2, c3, _⟩ := cells4 gW
  clear hW
  go_quiet (first | (go_at_call 63; with_reducible exact Calls.quiet_of_same (ones_6 _)) | (go_at_call 63; with_reducible exact Calls.quiet_of_same (ones_0 _)) | fail)
  go_wp2
  go_ret
  refine ⟨ret_int (by decide), by repeat (first | exact kW | apply Chg.drew | apply Chg.drewN | apply Chg.alloc)⟩
theorem named_2 (w : World) (hg : Gt w) (op : Int) (h0 : lD (fo op) = 22) (h1 : lA (fo op) = 18) (h2 : lB (fo op) = 0) (h3 : lI (fo op) = 18) :
    Calls Tryz.prog 32 #[.int .i64 op] w fun e w' => e = .returned (.int .u32 4294967295) ∧ Kp w w' := by
  have hL : ∀ w, Gt w → Calls Tryz.prog 61 #[.int .i64 op] w fun e w' => e = .returned (.agg #[.int .u64 22, .int .u64 18, .int .u64 0, .int .u64 18]) ∧ Kp w w' := fun w h => layout_at op 22 18 0 18 h0 h1 h2 h3 w h
  clear h0 h1 h2 h3
  go_enter Tryz.func32, Tryz.ntmps32
  go_wp2_with (first | (go_at_call 61; refine (hL _ hg).mono ?_; rintro e w1 ⟨rfl, k1⟩) | fail)
  go_quiet (first | (go_at_call 62; with_reducible exact Calls.quiet_of_same (mask_0 _)) | (go_at_call 62; with_reducible exact Calls.quiet_of_same (mask_18 _)) | (go_at_call 62; with_reducible exact Calls.quiet_of_same (mask_22 _)) | fail)
  go_wp2_with (fail)
  generalize hW : (w1.alloc (.cells #[.int .u64 22, .int .u64 18, .int .u64 0, .int .u64 18] 127)).drewN nq = W
  have kW : Kp w W := by rw [← hW]; exact (k1.alloc _).drewN _
  have gW : W.heap[w1.heap.size]? = some (.cells #[.int .u64 22, .int .u64 18, .int .u64 0, .int .u64 18] 127 (0, 0)) := by rw [← hW]; exact heap_alloc_new w1 _
  obtain ⟨c0, c1, c2, c3, _⟩ := cells4 gW
  clear hW
  go_quiet (first | (go_at_call 63; with_reducible exact Calls.quiet_of_same (ones_6 _)) | (go_at_call 63; with_reducible exact Calls.quiet_of_same (ones_18 _)) | fail)
  go_wp2
  go_ret
  refine ⟨ret_int (by decide), by repeat (first | exact kW | apply Chg.drew | apply Chg.drewN | apply Chg.alloc)⟩
theorem named_3 (w : World) (hg : Gt w) (op : Int) (h0 : lD (fo op) = 0) (h1 : lA (fo op) = 22) (h2 : lB (fo op) = 18) (h3 : lI (fo op) = 18) :
    Calls Tryz.prog 32 #[.int .i64 op] w fun e w' => e = .returned (.int .u32 4294967295) ∧ Kp w w' := by
  have hL : ∀ w, Gt w → Calls Tryz.prog 61 #[.int .i64 op] w fun e w' => e = .returned (.agg #[.int .u64 0, .int .u64 22, .int .u64 18, .int .u64 18]) ∧ Kp w w' := fun w h => layout_at op 0 22 18 18 h0 h1 h2 h3 w h
  clear h0 h1 h2 h3
  go_enter Tryz.func32, Tryz.ntmps32
  go_wp2_with (first | (go_at_call 61; refine (hL _ hg).mono ?_; rintro e w1 ⟨rfl, k1⟩) | fail)
  go_quiet (first | (go_at_call 62; with_reducible exact Calls.quiet_of_same (mask_0 _)) | (go_at_call 62; with_reducible exact Calls.quiet_of_same (mask_18 _)) | (go_at_call 62; with_reducible exact Calls.quiet_of_same (mask_22 _)) | fail)
  go_wp2_with (fail)
  generalize hW : (w1.alloc (.cells #[.int .u64 0, .int .u64 22, .int .u64 18, .int .u64 18] 127)).drewN nq = W
  have kW : Kp w W := by rw [← hW]; exact (k1.alloc _).drewN _
  have gW : W.heap[w1.heap.size]? = some (.cells #[.int .u64 0, .int .u64 22, .int .u64 18, .int .u64 18] 127 (0, 0)) := by rw [← hW]; exact heap_alloc_new w1 _
  obtain ⟨c0, c1, c2, c3, _⟩ := cells4 gW
  clear hW
  go_quiet (first | (go_at_call 63; with_reducible exact Calls.quiet_of_same (ones_6 _)) | (go_at_call 63; with_reducible exact Calls.quiet_of_same (ones_18 _)) | fail)
  go_wp2
  go_ret
  refine ⟨ret_int (by decide), by repeat (first | exact kW | apply Chg.drew | apply Chg.drewN | apply Chg.alloc)⟩
theorem named_4 (w : World) (hg : Gt w) (op : Int) (h0 : lD (fo op) = 22) (h1 : lA (fo op) = 0) (h2 : lB (fo op) = 0) (h3 : lI (fo op) = 22) :
    Calls Tryz.prog 32 #[.int .i64 op] w fun e w' => e = .returned (.int .u32 4294967295) ∧ Kp w w' := by
  have hL : ∀ w, Gt w → Calls Tryz.prog 61 #[.int .i64 op] w fun e w' => e = .returned (.agg #[.int .u64 22, .int .u64 0, .int .u64 0, .int .u64 22]) ∧ Kp w w' := fun w h => layout_at op 22 0 0 22 h0 h1 h2 h3 w h
  clear h0 h1 h2 h3
  go_enter Tryz.func32, Tryz.ntmps32
  go_wp2_with (first | (go_at_call 61; refine (hL _ hg).mono ?_; rintro e w1 ⟨rfl, k1⟩) | fail)
  go_quiet (first | (go_at_call 62; with_reducible exact Calls.quiet_of_same (mask_0 _)) | (go_at_call 62; with_reducible exact Calls.quiet_of_same (mask_22 _)) | fail)
  go_wp2_with (fail)
  generalize hW : (w1.alloc (.cells #[.int .u64 22, .int .u64 0, .int .u64 0, .int .u64 22] 127)).drewN nq = W
  have kW : Kp w W := by rw [← hW]; exact (k1.alloc _).drewN _
  have gW : W.heap[w1.heap.size]? = some (.cells #[.int .u64 22, .int .u64 0, .int .u64 0, .int .u64 22] 127 (0, 0)) := by rw [← hW]; exact heap_alloc_new w1 _
  obtain ⟨c0, c1, c2, c3, _⟩ := cells4 gW
  clear hW
  go_quiet (first | (go_at_call 63; with_reducible exact Calls.quiet_of_same (ones_6 _)) | (go_at_call 63; with_reducible exact Calls.quiet_of_same (ones_22 _)) | fail)
  go_wp2
  go_ret
  refine ⟨ret_int (by decide), by repeat (first | exact kW | apply Chg.drew | apply Chg.drewN | apply Chg.alloc)⟩
theorem named_5 (w : World) (hg : Gt w) (op : Int) (h0 : lD (fo op) = 22) (h1 : lA (fo op) = 0) (h2 : lB (fo op) = 0) (h3 : lI (fo op) = 0) :
    Calls Tryz.prog 32 #[.int .i64 op] w fun e w' => e = .returned (.int .u32 4290772992) ∧ Kp w w' := by
  have hL : ∀ w, Gt w → Calls Tryz.prog 61 #[.int .i64 op] w fun e w' => e = .returned (.agg #[.int .u64 22, .int .u64 0, .int .u64 0, .int .u64 0]) ∧ Kp w w' := fun w h => layout_at op 22 0 0 0 h0 h1 h2 h3 w h
  clear h0 h1 h2 h3
  go_enter Tryz.func32, Tryz.ntmps32
  go_wp2_with (first | (go_at_call 61; refine (hL _ hg).mono ?_; rintro e w1 ⟨rfl, k1⟩) | fail)
  go_quiet (first | (go_at_call 62; with_reducible exact Calls.quiet_of_same (mask_0 _)) | (go_at_call 62; with_reducible exact Calls.quiet_of_same (mask_22 _)) | fail)
  go_wp2_with (fail)
  generalize hW : (w1.alloc (.cells #[.int .u64 22, .int .u64 0, .int .u64 0, .int .u64 0] 127)).drewN nq = W
  have kW : Kp w W := by rw [← hW]; exact (k1.alloc _).drewN _
  have gW : W.heap[w1.heap.size]? = some (.cells #[.int .u64 22, .int .u64 0, .int .u64 0, .int .u64 0] 127 (0, 0)) := by rw [← hW]; exact heap_alloc_new w1 _
  obtain ⟨c0, c1, c2, c3, _⟩ := cells4 gW
  clear hW
  go_quiet (first | (go_at_call 63; with_reducible exact Calls.quiet_of_same (ones_6 _)) | (go_at_call 63; with_reducible exact Calls.quiet_of_same (ones_0 _)) | fail)
  go_wp2
  go_ret
  refine ⟨ret_int (by decide), by repeat (first | exact kW | apply Chg.drew | apply Chg.drewN | apply Chg.alloc)⟩
theorem named_6 (w : World) (hg : Gt w) (op : Int) (h0 : lD (fo op) = 0) (h1 : lA (fo op) = 22) (h2 : lB (fo op) = 0) (h3 : lI (fo op) = 0) :
    Calls Tryz.prog 32 #[.int .i64 op] w fun e w' => e = .returned (.int .u32 4290772992) ∧ Kp w w' := by
  have hL : ∀ w, Gt w → Calls Tryz.prog 61 #[.int .i64 op] w fun e w' => e = .returned (.agg #[.int .u64 0, .int .u64 22, .int .u64 0, .int .u64 0]) ∧ Kp w w' := fun w h => layout_at op 0 22 0 0 h0 h1 h2 h3 w h
  clear h0 h1 h2 h3
  go_enter Tryz.func32, Tryz.ntmps32
  go_wp2_with (first | (go_at_call 61; refine (hL _ hg).mono ?_; rintro e w1 ⟨rfl, k1⟩) | fail)
  go_quiet (first | (go_at_call 62; with_reducible exact Calls.quiet_of_same (mask_0 _)) | (go_at_call 62; with_reducible exact Calls.quiet_of_same (mask_22 _)) | fail)
  go_wp2_with (fail)
  generalize hW : (w1.alloc (.cells #[.int .u64 0, .int .u64 22, .int .u64 0, .int .u64 0] 127)).drewN nq = W
  have kW : Kp w W := by rw [← hW]; exact (k1.alloc _).drewN _
  have gW : W.heap[w1.heap.size]? = some (.cells #[.int .u64 0, .int .u64 22, .int .u64 0, .int .u64 0] 127 (0, 0)) := by rw [← hW]; exact heap_alloc_new w1 _
  obtain ⟨c0, c1, c2, c3, _⟩ := cells4 gW
  clear hW
  go_quiet (first | (go_at_call 63; with_reducible exact Calls.quiet_of_same (ones_6 _)) | (go_at_call 63; with_reducible exact Calls.quiet_of_same (ones_0 _)) | fail)
  go_wp2
  go_ret
  refine ⟨ret_int (by decide), by repeat (first | exact kW | apply Chg.drew | apply Chg.drewN | apply Chg.alloc)⟩
theorem named_7 (w : World) (hg : Gt w) (op : Int) (h0 : lD (fo op) = 0) (h1 : lA (fo op) = 0) (h2 : lB (fo op) = 0) (h3 : lI (fo op) = 26) :
    Calls Tryz.prog 32 #[.int .i64 op] w fun e w' => e = .returned (.int .u32 4294967295) ∧ Kp w w' := by
  have hL : ∀ w, Gt w → Calls Tryz.prog 61 #[.int .i64 op] w fun e w' => e = .returned (.agg #[.int .u64 0, .int .u64 0, .int .u64 0, .int .u64 26]) ∧ Kp w w' := fun w h => layout_at op 0 0 0 26 h0 h1 h2 h3 w h
  clear h0 h1 h2 h3
  go_enter Tryz.func32, Tryz.ntmps32
  go_wp2_with (first | (go_at_call 61; refine (hL _ hg).mono ?_; rintro e w1 ⟨rfl, k1⟩) | fail)
  go_quiet (first | (go_at_call 62; with_reducible exact Calls.quiet_of_same (mask_0 _)) | fail)
  go_wp2_with (fail)
  generalize hW : (w1.alloc (.cells #[.int .u64 0, .int .u64 0, .int .u64 0, .int .u64 26] 127)).drewN nq = W
  have kW : Kp w W := by rw [← hW]; exact (k1.alloc _).drewN _
  have gW : W.heap[w1.heap.size]? = some (.cells #[.int .u64 0, .int .u64 0, .int .u64 0, .int .u64 26] 127 (0, 0)) := by rw [← hW]; exact heap_alloc_new w1 _
  obtain ⟨c0, c1, c2, c3, _⟩ := cells4 gW
  clear hW
  go_quiet (first | (go_at_call 63; with_reducible exact Calls.quiet_of_same (ones_6 _)) | (go_at_call 63; with_reducible exact Calls.quiet_of_same (ones_26 _)) | fail)
  go_wp2
  go_ret
  refine ⟨ret_int (by decide), by repeat (first | exact kW | apply Chg.drew | apply Chg.drewN | apply Chg.alloc)⟩
theorem named_8 (w : World) (hg : Gt w) (op : Int) (h0 : lD (fo op) = 0) (h1 : lA (fo op) = 0) (h2 : lB (fo op) = 0) (h3 : lI (fo op) = 0) :
    Calls Tryz.prog 32 #[.int .i64 op] w fun e w' => e = .returned (.int .u32 4227858432) ∧ Kp w w' := by
  have hL : ∀ w, Gt w → Calls Tryz.prog 61 #[.int .i64 op] w fun e w' => e = .returned (.agg #[.int .u64 0, .int .u64 0, .int .u64 0, .int .u64 0]) ∧ Kp w w' := fun w h => layout_at op 0 0 0 0 h0 h1 h2 h3 w h
  clear h0 h1 h2 h3
  go_enter Tryz.func32, Tryz.ntmps32
  go_wp2_with (first | (go_at_call 61; refine (hL _ hg).mono ?_; rintro e w1 ⟨rfl, k1⟩) | fail)
  go_quiet (first | (go_at_call 62; with_reducible exact Calls.quiet_of_same (mask_0 _)) | fail)
  go_wp2_with (fail)
  generalize hW : (w1.alloc (.cells #[.int .u64 0, .int .u64 0, .int .u64 0, .int .u64 0] 127)).drewN nq = W
  have kW : Kp w W := by rw [← hW]; exact (k1.alloc _).drewN _
  have gW : W.heap[w1.heap.size]? = some (.cells #[.int .u64 0, .int .u64 0, .int .u64 0, .int .u64 0] 127 (0, 0)) := by rw [← hW]; exact heap_alloc_new w1 _
  obtain ⟨c0, c1, c2, c3, _⟩ := cells4 gW
  clear hW
  go_quiet (first | (go_at_call 63; with_reducible exact Calls.quiet_of_same (ones_6 _)) | (go_at_call 63; with_reducible exact Calls.quiet_of_same (ones_0 _)) | fail)
  go_wp2
  go_ret
  refine ⟨ret_int (by decide), by repeat (first | exact kW | apply Chg.drew | apply Chg.drewN | apply Chg.alloc)⟩
end Go.Proofs.YtgofjmhdgmfgfaaGreatDoor
