import Derived.Test.YtghiffpolacmiabGreatDoorTd
import Derived.Deep.RegionHeld3
namespace Go.Proofs.YtghiffpolacmiabGreatDoor
open Go.ChangeShapes Go.WideShapes Go.ChangeAt Go.RowKit
set_option linter.unusedVariables false

/-- The register in the bits from l on. -/
def rg (v l : Nat) : Nat := dR v l (2 ^ l)
theorem at_any (w : World) (v l : Nat) (hv : v < 4294967296) (hl : l = 0 ∨ l = 14 ∨ l = 18 ∨ l = 22) :
    Calls Tryz.prog 99 #[.int .u32 v, .int .u64 l] w fun e w' => e = .returned (.int .u8 (rg v l : Nat)) ∧ w' = w := by
  rcases hl with rfl | rfl | rfl | rfl
  · exact at_0 w v hv
  · exact at_14 w v hv
  · exact at_18 w v hv
  · exact at_22 w v hv
theorem tabsL : ∀ f : Fin 9, (lD f.val = 0 ∨ lD f.val = 14 ∨ lD f.val = 18 ∨ lD f.val = 22) ∧ (lA f.val = 0 ∨ lA f.val = 14 ∨ lA f.val = 18 ∨ lA f.val = 22) ∧ (lB f.val = 0 ∨ lB f.val = 14 ∨ lB f.val = 18 ∨ lB f.val = 22) ∧ pD f.val = 2 ^ lD f.val ∧ pA f.val = 2 ^ lA f.val ∧ pB f.val = 2 ^ lB f.val := by decide +kernel
theorem dregs (v : Nat) : dD v = rg v (lD (fo (dO v))) ∧ dA v = rg v (lA (fo (dO v))) ∧ dB v = rg v (lB (fo (dO v))) := by
  obtain ⟨_, _, _, h1, h2, h3⟩ := tabsL ⟨fo (dO v), fo_lt _⟩
  simp only at h1 h2 h3
  exact ⟨by rw [dD, rg, h1], by rw [dA, rg, h2], by rw [dB, rg, h3]⟩
theorem zero24 : (Tryz.prog.info? 52).map (fun i => (i.zero, i.size)) = some (some (.agg #[.int .i64 0, .int .u8 0, .int .u8 0, .int .u8 0, .int .i32 0]), 5) := by kernel_rfl
theorem hmx : Tryz.prog.follows .mixedOrders = true := by kernel_rfl
set_option maxHeartbeats 8000000 in
set_option maxRecDepth 100000 in
theorem instrOf_any (w : World) (hg : Gt w) (v : Nat) (hv : v < 4294967296) (ho : isO (dO v) = true) :
    Calls Tryz.prog 78 #[.int .u32 v] w fun e w' => e = .returned (iv (dO v) (dD v : Nat) (dA v : Nat) (dB v : Nat) (dI v)) ∧ Kp w w' := by
  have hL := fun w h => layoutOf_any w h (dO v)
  have hM := fun w h => immOf_any w h (dO v) ho v hv
  obtain ⟨e1, e2, e3⟩ := dregs v
  rw [e1, e2, e3, show dI v = dF (fo (dO v)) (tk (dO v)) v from rfl]
  obtain ⟨h1, h2, h3, _⟩ := tabsL ⟨fo (dO v), fo_lt _⟩
  simp only at h1 h2 h3
  have H1 := fun w => at_any w v (lD (fo (dO v))) hv h1
  have H2 := fun w => at_any w v (lA (fo (dO v))) hv h2
  have H3 := fun w => at_any w v (lB (fo (dO v))) hv h3
  clear e1 e2 e3 h1 h2 h3
  have hO : (v : Int) / 67108864 = dO v := by simp [dO]
  have hO6 : wrap64 (dO v) = dO v := by rw [← hO]; simp only [wrap64]; omega
  generalize dF (fo (dO v)) (tk (dO v)) v = n at *
  generalize rg v (lD (fo (dO v))) = d at *
  generalize rg v (lA (fo (dO v))) = a at *
  generalize rg v (lB (fo (dO v))) = b at *
  generalize lD (fo (dO v)) = y0 at *
  generalize lA (fo (dO v)) = y1 at *
  generalize lB (fo (dO v)) = y2 at *
  generalize lI (fo (dO v)) = y3 at *
  generalize dO v = op at *
  clear ho hv
  generalize (y0 : Int) = x0 at *
  generalize (y1 : Int) = x1 at *
  generalize (y2 : Int) = x2 at *
  generalize (y3 : Int) = x3 at *
  generalize (d : Int) = d' at *
  generalize (a : Int) = a' at *
  generalize (b : Int) = b' at *
  generalize (v : Int) = v' at *
  have hg1 := hg.alloc (.cells #[.int .i64 0, .int .u8 0, .int .u8 0, .int .u8 0, .int .i32 0] 52)
  go_enter Tryz.func78, Tryz.ntmps78
  go_wp2_with (first
    | (go_at_call 96; refine (hL _ hg1).mono ?_; rintro e w1 ⟨rfl, k1⟩)
    | fail)
  obtain ⟨W, hW⟩ : ∃ W, W = w1.alloc (.cells #[.int .u64 x0, .int .u64 x1, .int .u64 x2, .int .u64 x3] 104) := ⟨_, rfl⟩
  have gL : W.heap[w1.heap.size]? = some (.cells #[.int .u64 x0, .int .u64 x1, .int .u64 x2, .int .u64 x3] 104 (0, 0)) := by rw [hW]; exact heap_alloc_new _ _
  have gR : W.heap[w.heap.size]? = some (.cells #[.int .i64 0, .int .u8 0, .int .u8 0, .int .u8 0, .int .i32 0] 52 (0, 0)) := by rw [hW]; exact al_old _ (Kp.heap k1 (heap_alloc_new w _))
  have kW : Kp w W := by rw [hW]; exact (((Chg.refl _ _).alloc _).trans k1 (fun _ _ h => h)).alloc _
  rw [← hW]
  have hgW := hg.keep kW
  have HK : ∀ V, Kp W V → V.cell? ⟨w1.heap.size, 0, none⟩ = some (.int .u64 x0) ∧ V.cell? ⟨w1.heap.size, 1, none⟩ = some (.int .u64 x1) ∧ V.cell? ⟨w1.heap.size, 2, none⟩ = some (.int .u64 x2) := fun V kV => by
    obtain ⟨a0, a1, a2, _⟩ := cells4 (Kp.heap kV gL)
    exact ⟨a0, a1, a2⟩
  have HR : ∀ V, Kp W V → V.cell? ⟨w.heap.size, 0, none⟩ = some (.int .i64 0) ∧ V.cell? ⟨w.heap.size, 1, none⟩ = some (.int .u8 0) ∧ V.cell? ⟨w.heap.size, 2, none⟩ = some (.int .u8 0) ∧ V.cell? ⟨w.heap.size, 3, none⟩ = some (.int .u8 0) ∧ V.cell? ⟨w.heap.size, 4, none⟩ = some (.int .i32 0) ∧ V.frozen? ⟨w.heap.size, 0, none⟩ = false ∧ V.frozen? ⟨w.heap.size, 1, none⟩ = false ∧ V.frozen? ⟨w.heap.size, 2, none⟩ = false ∧ V.frozen? ⟨w.heap.size, 3, none⟩ = false ∧ V.frozen? ⟨w.heap.size, 4, none⟩ = false := fun V kV => cells5 (Kp.heap kV gR)
  have hne : ¬ w1.heap.size = w.heap.size := by have := k1.size; rw [al_size] at this; omega
  clear hW hg1 k1 hL
  have hM' := hM W.drew (hgW.keep (Chg.refl _ _).drew)
  refine wp_region_held_drew (S := fun w' => w'.cell? ⟨w1.heap.size, 0, none⟩ = some (.int .u64 x0) ∧ w'.cell? ⟨w1.heap.size, 1, none⟩ = some (.int .u64 x1) ∧ w'.cell? ⟨w1.heap.size, 2, none⟩ = some (.int .u64 x2)) hmx (HK _ (Chg.refl _ _).drew) (fun hS => ?_)
  refine wpAnyH_take (i := 0) (oi := { dst := some 10, op := Op.move (Operand.tmp 3), type := 50, pos := "words.go:41", after := #[], guard := none }) (v := .int .i64 op) rfl (by kernel_rfl) (by kernel_rfl) (by kernel_rfl) (fun _ _ _ h => h) (Or.inl ⟨by rfl, ?_⟩) hS ?_
  · rintro wx ⟨d0, d1, d2⟩
    go_simp
  simp only [Act.put, List.setIfInBounds_toArray, List.set_cons_zero, List.set_cons_succ]
  refine wpAnyH_take (i := 1) (oi := { dst := some 11, op := Op.move (Operand.tmp 0), type := 22, pos := "words.go:41", after := #[], guard := none }) (v := .int .u32 v') rfl (by kernel_rfl) (by kernel_rfl) (by kernel_rfl) (fun _ _ _ h => h) (Or.inl ⟨by rfl, ?_⟩) hS ?_
  · rintro wx ⟨d0, d1, d2⟩
    go_simp
  simp only [Act.put, List.setIfInBounds_toArray, List.set_cons_zero, List.set_cons_succ]
  refine wpAnyH_take (i := 2) (oi := { dst := some 12, op := Op.fieldAddr 104 (Operand.tmp 4) 0, type := 0, pos := "words.go:41", after := #[], guard := none }) (v := .pointer (some ⟨w1.heap.size, 0, none⟩)) rfl (by kernel_rfl) (by kernel_rfl) (by kernel_rfl) (fun _ _ _ h => h) (Or.inl ⟨by rfl, ?_⟩) hS ?_
  · rintro wx ⟨d0, d1, d2⟩
    go_simp
  simp only [Act.put, List.setIfInBounds_toArray, List.set_cons_zero, List.set_cons_succ]
  refine wpAnyH_take (i := 3) (oi := { dst := some 13, op := Op.load 89 (Operand.tmp 12), type := 89, pos := "words.go:41", after := #[{ on := 2, ground := Ground.data }], guard := none }) (v := .int .u64 x0) rfl (by kernel_rfl) (by kernel_rfl) (by kernel_rfl) (fun _ _ _ h => h) (Or.inl ⟨by rfl, ?_⟩) hS ?_
  · rintro wx ⟨d0, d1, d2⟩
    go_simp
  simp only [Act.put, List.setIfInBounds_toArray, List.set_cons_zero, List.set_cons_succ]
  refine wpAnyH_take (i := 5) (oi := { dst := some 15, op := Op.move (Operand.tmp 0), type := 22, pos := "words.go:41", after := #[], guard := none }) (v := .int .u32 v') rfl (by kernel_rfl) (by kernel_rfl) (by kernel_rfl) (fun _ _ _ h => h) (Or.inl ⟨by rfl, ?_⟩) hS ?_
  · rintro wx ⟨d0, d1, d2⟩
    go_simp
  simp only [Act.put, List.setIfInBounds_toArray, List.set_cons_zero, List.set_cons_succ]
  refine wpAnyH_take (i := 6) (oi := { dst := some 16, op := Op.fieldAddr 104 (Operand.tmp 4) 1, type := 0, pos := "words.go:41", after := #[], guard := none }) (v := .pointer (some ⟨w1.heap.size, 1, none⟩)) rfl (by kernel_rfl) (by kernel_rfl) (by kernel_rfl) (fun _ _ _ h => h) (Or.inl ⟨by rfl, ?_⟩) hS ?_
  · rintro wx ⟨d0, d1, d2⟩
    go_simp
  simp only [Act.put, List.setIfInBounds_toArray, List.set_cons_zero, List.set_cons_succ]
  refine wpAnyH_take (i := 7) (oi := { dst := some 17, op := Op.load 89 (Operand.tmp 16), type := 89, pos := "words.go:41", after := #[{ on := 6, ground := Ground.data }], guard := none }) (v := .int .u64 x1) rfl (by kernel_rfl) (by kernel_rfl) (by kernel_rfl) (fun _ _ _ h => h) (Or.inl ⟨by rfl, ?_⟩) hS ?_
  · rintro wx ⟨d0, d1, d2⟩
    go_simp
  simp only [Act.put, List.setIfInBounds_toArray, List.set_cons_zero, List.set_cons_succ]
  refine wpAnyH_take (i := 9) (oi := { dst := some 19, op := Op.move (Operand.tmp 0), type := 22, pos := "words.go:41", after := #[], guard := none }) (v := .int .u32 v') rfl (by kernel_rfl) (by kernel_rfl) (by kernel_rfl) (fun _ _ _ h => h) (Or.inl ⟨by rfl, ?_⟩) hS ?_
  · rintro wx ⟨d0, d1, d2⟩
    go_simp
  simp only [Act.put, List.setIfInBounds_toArray, List.set_cons_zero, List.set_cons_succ]
  refine wpAnyH_take (i := 10) (oi := { dst := some 20, op := Op.fieldAddr 104 (Operand.tmp 4) 2, type := 0, pos := "words.go:41", after := #[], guard := none }) (v := .pointer (some ⟨w1.heap.size, 2, none⟩)) rfl (by kernel_rfl) (by kernel_rfl) (by kernel_rfl) (fun _ _ _ h => h) (Or.inl ⟨by rfl, ?_⟩) hS ?_
  · rintro wx ⟨d0, d1, d2⟩
    go_simp
  simp only [Act.put, List.setIfInBounds_toArray, List.set_cons_zero, List.set_cons_succ]
  refine wpAnyH_take (i := 11) (oi := { dst := some 21, op := Op.load 89 (Operand.tmp 20), type := 89, pos := "words.go:41", after := #[{ on := 10, ground := Ground.data }], guard := none }) (v := .int .u64 x2) rfl (by kernel_rfl) (by kernel_rfl) (by kernel_rfl) (fun _ _ _ h => h) (Or.inl ⟨by rfl, ?_⟩) hS ?_
  · rintro wx ⟨d0, d1, d2⟩
    go_simp
  simp only [Act.put, List.setIfInBounds_toArray, List.set_cons_zero, List.set_cons_succ]
  refine wpAnyH_take (i := 13) (oi := { dst := some 23, op := Op.move (Operand.tmp 0), type := 22, pos := "words.go:41", after := #[], guard := none }) (v := .int .u32 v') rfl (by kernel_rfl) (by kernel_rfl) (by kernel_rfl) (fun _ _ _ h => h) (Or.inl ⟨by rfl, ?_⟩) hS ?_
  · rintro wx ⟨d0, d1, d2⟩
    go_simp
  simp only [Act.put, List.setIfInBounds_toArray, List.set_cons_zero, List.set_cons_succ]
  refine wpAnyH_take (i := 14) (oi := { dst := some 24, op := Op.move (Operand.tmp 3), type := 50, pos := "words.go:41", after := #[], guard := none }) (v := .int .i64 op) rfl (by kernel_rfl) (by kernel_rfl) (by kernel_rfl) (fun _ _ _ h => h) (Or.inl ⟨by rfl, ?_⟩) hS ?_
  · rintro wx ⟨d0, d1, d2⟩
    go_simp
  simp only [Act.put, List.setIfInBounds_toArray, List.set_cons_zero, List.set_cons_succ]
  refine wpAnyH_ready (rs := [4]) (by kernel_rfl) (by simp) ?_
  refine AllReadyH.cons (o := { dst := some 14, op := Op.call { callee := Callee.value (Operand.func 99), args := #[Operand.tmp 11, Operand.tmp 13], argTypes := #[22, 89] }, type := 5, pos := "words.go:43", after := #[{ on := 1, ground := Ground.data }, { on := 3, ground := Ground.data }], guard := none }) rfl (fun K hK => ?_) AllReadyH.nil
  rw [if_pos (by rfl)]
  go_simp
  go_at_call 99
  with_reducible refine (H1 _).mono ?_
  rintro e wz ⟨rfl, rfl⟩
  go_simp
  refine hK.out _ _ hS (fun _ => ?_)
  clear hK K
  refine wpAnyH_ready (rs := [8]) (by kernel_rfl) (by simp) ?_
  refine AllReadyH.cons (o := { dst := some 18, op := Op.call { callee := Callee.value (Operand.func 99), args := #[Operand.tmp 15, Operand.tmp 17], argTypes := #[22, 89] }, type := 5, pos := "words.go:44", after := #[{ on := 5, ground := Ground.data }, { on := 7, ground := Ground.data }, { on := 4, ground := Ground.chain }], guard := none }) rfl (fun K hK => ?_) AllReadyH.nil
  rw [if_pos (by rfl)]
  go_simp
  go_at_call 99
  with_reducible refine (H2 _).mono ?_
  rintro e wz ⟨rfl, rfl⟩
  go_simp
  refine hK.out _ _ hS (fun _ => ?_)
  clear hK K
  refine wpAnyH_ready (rs := [12]) (by kernel_rfl) (by simp) ?_
  refine AllReadyH.cons (o := { dst := some 22, op := Op.call { callee := Callee.value (Operand.func 99), args := #[Operand.tmp 19, Operand.tmp 21], argTypes := #[22, 89] }, type := 5, pos := "words.go:45", after := #[{ on := 9, ground := Ground.data }, { on := 11, ground := Ground.data }, { on := 8, ground := Ground.chain }], guard := none }) rfl (fun K hK => ?_) AllReadyH.nil
  rw [if_pos (by rfl)]
  go_simp
  go_at_call 99
  with_reducible refine (H3 _).mono ?_
  rintro e wz ⟨rfl, rfl⟩
  go_simp
  refine hK.out _ _ hS (fun _ => ?_)
  clear hK K
  refine wpAnyH_ready (rs := [15]) (by kernel_rfl) (by simp) ?_
  refine AllReadyH.cons (o := { dst := some 25, op := Op.call { callee := Callee.value (Operand.func 100), args := #[Operand.tmp 23, Operand.tmp 24], argTypes := #[22, 50] }, type := 21, pos := "words.go:46", after := #[{ on := 13, ground := Ground.data }, { on := 14, ground := Ground.data }, { on := 12, ground := Ground.chain }], guard := none }) rfl (fun K hK => ?_) AllReadyH.nil
  rw [if_pos (by rfl)]
  go_simp
  go_at_call 100
  with_reducible refine hM'.mono ?_
  rintro e w5 ⟨rfl, k5⟩
  go_simp
  have kk : Kp W w5 := (Chg.refl _ _).drew.trans k5 (fun _ _ e => e)
  refine hK.out _ _ (HK _ kk) (fun hS5 => ?_)
  clear hK K
  refine wpAnyH_take (i := 16) (oi := { dst := some 26, op := Op.build 52 #[(0, Operand.tmp 10), (1, Operand.tmp 14), (2, Operand.tmp 18), (3, Operand.tmp 22), (4, Operand.tmp 25)], type := 52, pos := "words.go:41", after := #[{ on := 0, ground := Ground.data }, { on := 4, ground := Ground.data }, { on := 8, ground := Ground.data }, { on := 12, ground := Ground.data }, { on := 15, ground := Ground.data }], guard := none }) (v := .agg #[.int .i64 op, .int .u8 d', .int .u8 a', .int .u8 b', .int .i32 n]) rfl (by kernel_rfl) (by kernel_rfl) (by kernel_rfl) (fun _ _ _ h => h) (Or.inl ⟨by rfl, ?_⟩) hS5 ?_
  · rintro wx ⟨d0, d1, d2⟩
    go_simp
  simp only [Act.put, List.setIfInBounds_toArray, List.set_cons_zero, List.set_cons_succ]
  obtain ⟨r0, r1, r2, r3, r4, f0, f1, f2, f3, f4⟩ := HR _ kk
  refine wpAnyH_ready (rs := [17]) (by kernel_rfl) (by simp) ?_
  refine AllReadyH.cons (o := { dst := none, op := Op.store 52 (Operand.tmp 2) (Operand.tmp 26), type := 0, pos := "words.go:41", after := #[{ on := 16, ground := Ground.data }, { on := 15, ground := Ground.chain }, { on := 0, ground := Ground.phase }, { on := 1, ground := Ground.phase }, { on := 2, ground := Ground.phase }, { on := 3, ground := Ground.phase }, { on := 4, ground := Ground.phase }, { on := 5, ground := Ground.phase }, { on := 6, ground := Ground.phase }, { on := 7, ground := Ground.phase }, { on := 8, ground := Ground.phase }, { on := 9, ground := Ground.phase }, { on := 10, ground := Ground.phase }, { on := 11, ground := Ground.phase }, { on := 12, ground := Ground.phase }, { on := 13, ground := Ground.phase }, { on := 14, ground := Ground.phase }, { on := 15, ground := Ground.phase }, { on := 16, ground := Ground.phase }], guard := none }) rfl (fun K hK => ?_) AllReadyH.nil
  rw [if_pos (by rfl)]
  go_simp
  obtain ⟨V, hV⟩ : ∃ V, V = (((((w5.setCell ⟨w.heap.size, 0, none⟩ (.int .i64 op)).setCell ⟨w.heap.size, 1, none⟩ (.int .u8 d')).setCell ⟨w.heap.size, 2, none⟩ (.int .u8 a')).setCell ⟨w.heap.size, 3, none⟩ (.int .u8 b')).setCell ⟨w.heap.size, 4, none⟩ (.int .i32 n)) := ⟨_, rfl⟩
  rw [← hV]
  obtain ⟨v1, v2, v3⟩ := box5 (Kp.heap kk gR) _ _ _ _ _ hV
  obtain ⟨z0, z1, z2, _⟩ := cells4 (v3.heap (Kp.heap kk gL) hne)
  refine hK.out _ _ ⟨z0, z1, z2⟩ (fun _ => ?_)
  clear hK K
  refine wpAnyH_done (by kernel_rfl) ?_ _
  obtain ⟨r0, r1, r2, r3, r4, _⟩ := cells5 v1
  go_wp2
  refine bodyPost_ret (v := .agg #[.int .i64 op, .int .u8 d', .int .u8 a', .int .u8 b', .int .i32 n]) (by simp [results, Tryz.results78, go_sem, r0, r1, r2, r3, r4]) rfl ⟨rfl, ?_⟩
  exact Chg.trans (Kp.trans kW kk) v3 (fun i hi e => absurd e (Nat.ne_of_lt hi))
end Go.Proofs.YtghiffpolacmiabGreatDoor
namespace Go.Proofs.YtghiffpolacmiabGreatDoor
open Go.ChangeShapes Go.WideShapes Go.ChangeAt Go.RowKit
set_option linter.unusedVariables false

theorem mod_toNat (n : Int) (K : Nat) (hK : 0 < K) : (((n % (K : Int)).toNat : Nat) : Int) = n % (K : Int) := Int.toNat_of_nonneg (Int.emod_nonneg _ (by omega))
theorem named_1 (w : World) (hg : Gt w) (op : Int) (h0 : lD (fo op) = 22) (h1 : lA (fo op) = 18) (h2 : lB (fo op) = 14) (h3 : lI (fo op) = 0) :
    Calls Tryz.prog 77 #[.int .i64 op] w fun e w' => e = .returned (.int .u32 4294950912) ∧ Kp w w' := by
  have hL : ∀ w, Gt w → Calls Tryz.prog 96 #[.int .i64 op] w fun e w' => e = .returned (.agg #[.int .u64 22, .int .u64 18, .int .u64 14, .int .u64 0]) ∧ Kp w w' := fun w h => layout_at op 22 18 14 0 h0 h1 h2 h3 w h
  clear h0 h1 h2 h3
  go_enter Tryz.func77, Tryz.ntmps77
  go_wp2_with (first | (go_at_call 96; refine (hL _ hg).mono ?_; rintro e w1 ⟨rfl, k1⟩) | fail)
  go_quiet (first | (go_at_call 97; with_reducible exact Calls.quiet_of_same (mask_14 _)) | (go_at_call 97; with_reducible exact Calls.quiet_of_same (mask_18 _)) | (go_at_call 97; with_reducible exact Calls.quiet_of_same (mask_22 _)) | fail)
  go_wp2_with (fail)
  generalize hW : (w1.alloc (.cells #[.int .u64 22, .int .u64 18, .int .u64 14, .int .u64 0] 104)).drewN nq = W
  have kW : Kp w W := by rw [← hW]; exact (k1.alloc _).drewN _
  have gW : W.heap[w1.heap.size]? = some (.cells #[.int .u64 22, .int .u64 18, .int .u64 14, .int .u64 0] 104 (0, 0)) := by rw [← hW]; exact heap_alloc_new w1 _
  obtain ⟨c0, c1, c2, c3, _⟩ := cells4 gW
  clear hW
  go_quiet (first | (go_at_call 98; with_reducible exact Calls.quiet_of_same (ones_6 _)) | (go_at_call 98; with_reducible exact Calls.quiet_of_same (ones_0 _)) | fail)
  go_wp2
  go_ret
  refine ⟨ret_int (by decide), by repeat (first | exact kW | apply Chg.drew | apply Chg.drewN | apply Chg.alloc)⟩
theorem named_2 (w : World) (hg : Gt w) (op : Int) (h0 : lD (fo op) = 22) (h1 : lA (fo op) = 18) (h2 : lB (fo op) = 0) (h3 : lI (fo op) = 18) :
    Calls Tryz.prog 77 #[.int .i64 op] w fun e w' => e = .returned (.int .u32 4294967295) ∧ Kp w w' := by
  have hL : ∀ w, Gt w → Calls Tryz.prog 96 #[.int .i64 op] w fun e w' => e = .returned (.agg #[.int .u64 22, .int .u64 18, .int .u64 0, .int .u64 18]) ∧ Kp w w' := fun w h => layout_at op 22 18 0 18 h0 h1 h2 h3 w h
  clear h0 h1 h2 h3
  go_enter Tryz.func77, Tryz.ntmps77
  go_wp2_with (first | (go_at_call 96; refine (hL _ hg).mono ?_; rintro e w1 ⟨rfl, k1⟩) | fail)
  go_quiet (first | (go_at_call 97; with_reducible exact Calls.quiet_of_same (mask_0 _)) | (go_at_call 97; with_reducible exact Calls.quiet_of_same (mask_18 _)) | (go_at_call 97; with_reducible exact Calls.quiet_of_same (mask_22 _)) | fail)
  go_wp2_with (fail)
  generalize hW : (w1.alloc (.cells #[.int .u64 22, .int .u64 18, .int .u64 0, .int .u64 18] 104)).drewN nq = W
  have kW : Kp w W := by rw [← hW]; exact (k1.alloc _).drewN _
  have gW : W.heap[w1.heap.size]? = some (.cells #[.int .u64 22, .int .u64 18, .int .u64 0, .int .u64 18] 104 (0, 0)) := by rw [← hW]; exact heap_alloc_new w1 _
  obtain ⟨c0, c1, c2, c3, _⟩ := cells4 gW
  clear hW
  go_quiet (first | (go_at_call 98; with_reducible exact Calls.quiet_of_same (ones_6 _)) | (go_at_call 98; with_reducible exact Calls.quiet_of_same (ones_18 _)) | fail)
  go_wp2
  go_ret
  refine ⟨ret_int (by decide), by repeat (first | exact kW | apply Chg.drew | apply Chg.drewN | apply Chg.alloc)⟩
theorem named_3 (w : World) (hg : Gt w) (op : Int) (h0 : lD (fo op) = 0) (h1 : lA (fo op) = 22) (h2 : lB (fo op) = 18) (h3 : lI (fo op) = 18) :
    Calls Tryz.prog 77 #[.int .i64 op] w fun e w' => e = .returned (.int .u32 4294967295) ∧ Kp w w' := by
  have hL : ∀ w, Gt w → Calls Tryz.prog 96 #[.int .i64 op] w fun e w' => e = .returned (.agg #[.int .u64 0, .int .u64 22, .int .u64 18, .int .u64 18]) ∧ Kp w w' := fun w h => layout_at op 0 22 18 18 h0 h1 h2 h3 w h
  clear h0 h1 h2 h3
  go_enter Tryz.func77, Tryz.ntmps77
  go_wp2_with (first | (go_at_call 96; refine (hL _ hg).mono ?_; rintro e w1 ⟨rfl, k1⟩) | fail)
  go_quiet (first | (go_at_call 97; with_reducible exact Calls.quiet_of_same (mask_0 _)) | (go_at_call 97; with_reducible exact Calls.quiet_of_same (mask_18 _)) | (go_at_call 97; with_reducible exact Calls.quiet_of_same (mask_22 _)) | fail)
  go_wp2_with (fail)
  generalize hW : (w1.alloc (.cells #[.int .u64 0, .int .u64 22, .int .u64 18, .int .u64 18] 104)).drewN nq = W
  have kW : Kp w W := by rw [← hW]; exact (k1.alloc _).drewN _
  have gW : W.heap[w1.heap.size]? = some (.cells #[.int .u64 0, .int .u64 22, .int .u64 18, .int .u64 18] 104 (0, 0)) := by rw [← hW]; exact heap_alloc_new w1 _
  obtain ⟨c0, c1, c2, c3, _⟩ := cells4 gW
  clear hW
  go_quiet (first | (go_at_call 98; with_reducible exact Calls.quiet_of_same (ones_6 _)) | (go_at_call 98; with_reducible exact Calls.quiet_of_same (ones_18 _)) | fail)
  go_wp2
  go_ret
  refine ⟨ret_int (by decide), by repeat (first | exact kW | apply Chg.drew | apply Chg.drewN | apply Chg.alloc)⟩
theorem named_4 (w : World) (hg : Gt w) (op : Int) (h0 : lD (fo op) = 22) (h1 : lA (fo op) = 0) (h2 : lB (fo op) = 0) (h3 : lI (fo op) = 22) :
    Calls Tryz.prog 77 #[.int .i64 op] w fun e w' => e = .returned (.int .u32 4294967295) ∧ Kp w w' := by
  have hL : ∀ w, Gt w → Calls Tryz.prog 96 #[.int .i64 op] w fun e w' => e = .returned (.agg #[.int .u64 22, .int .u64 0, .int .u64 0, .int .u64 22]) ∧ Kp w w' := fun w h => layout_at op 22 0 0 22 h0 h1 h2 h3 w h
  clear h0 h1 h2 h3
  go_enter Tryz.func77, Tryz.ntmps77
  go_wp2_with (first | (go_at_call 96; refine (hL _ hg).mono ?_; rintro e w1 ⟨rfl, k1⟩) | fail)
  go_quiet (first | (go_at_call 97; with_reducible exact Calls.quiet_of_same (mask_0 _)) | (go_at_call 97; with_reducible exact Calls.quiet_of_same (mask_22 _)) | fail)
  go_wp2_with (fail)
  generalize hW : (w1.alloc (.cells #[.int .u64 22, .int .u64 0, .int .u64 0, .int .u64 22] 104)).drewN nq = W
  have kW : Kp w W := by rw [← hW]; exact (k1.alloc _).drewN _
  have gW : W.heap[w1.heap.size]? = some (.cells #[.int .u64 22, .int .u64 0, .int .u64 0, .int .u64 22] 104 (0, 0)) := by rw [← hW]; exact heap_alloc_new w1 _
  obtain ⟨c0, c1, c2, c3, _⟩ := cells4 gW
  clear hW
  go_quiet (first | (go_at_call 98; with_reducible exact Calls.quiet_of_same (ones_6 _)) | (go_at_call 98; with_reducible exact Calls.quiet_of_same (ones_22 _)) | fail)
  go_wp2
  go_ret
  refine ⟨ret_int (by decide), by repeat (first | exact kW | apply Chg.drew | apply Chg.drewN | apply Chg.alloc)⟩
theorem named_5 (w : World) (hg : Gt w) (op : Int) (h0 : lD (fo op) = 22) (h1 : lA (fo op) = 0) (h2 : lB (fo op) = 0) (h3 : lI (fo op) = 0) :
    Calls Tryz.prog 77 #[.int .i64 op] w fun e w' => e = .returned (.int .u32 4290772992) ∧ Kp w w' := by
  have hL : ∀ w, Gt w → Calls Tryz.prog 96 #[.int .i64 op] w fun e w' => e = .returned (.agg #[.int .u64 22, .int .u64 0, .int .u64 0, .int .u64 0]) ∧ Kp w w' := fun w h => layout_at op 22 0 0 0 h0 h1 h2 h3 w h
  clear h0 h1 h2 h3
  go_enter Tryz.func77, Tryz.ntmps77
  go_wp2_with (first | (go_at_call 96; refine (hL _ hg).mono ?_; rintro e w1 ⟨rfl, k1⟩) | fail)
  go_quiet (first | (go_at_call 97; with_reducible exact Calls.quiet_of_same (mask_0 _)) | (go_at_call 97; with_reducible exact Calls.quiet_of_same (mask_22 _)) | fail)
  go_wp2_with (fail)
  generalize hW : (w1.alloc (.cells #[.int .u64 22, .int .u64 0, .int .u64 0, .int .u64 0] 104)).drewN nq = W
  have kW : Kp w W := by rw [← hW]; exact (k1.alloc _).drewN _
  have gW : W.heap[w1.heap.size]? = some (.cells #[.int .u64 22, .int .u64 0, .int .u64 0, .int .u64 0] 104 (0, 0)) := by rw [← hW]; exact heap_alloc_new w1 _
  obtain ⟨c0, c1, c2, c3, _⟩ := cells4 gW
  clear hW
  go_quiet (first | (go_at_call 98; with_reducible exact Calls.quiet_of_same (ones_6 _)) | (go_at_call 98; with_reducible exact Calls.quiet_of_same (ones_0 _)) | fail)
  go_wp2
  go_ret
  refine ⟨ret_int (by decide), by repeat (first | exact kW | apply Chg.drew | apply Chg.drewN | apply Chg.alloc)⟩
theorem named_6 (w : World) (hg : Gt w) (op : Int) (h0 : lD (fo op) = 0) (h1 : lA (fo op) = 22) (h2 : lB (fo op) = 0) (h3 : lI (fo op) = 0) :
    Calls Tryz.prog 77 #[.int .i64 op] w fun e w' => e = .returned (.int .u32 4290772992) ∧ Kp w w' := by
  have hL : ∀ w, Gt w → Calls Tryz.prog 96 #[.int .i64 op] w fun e w' => e = .returned (.agg #[.int .u64 0, .int .u64 22, .int .u64 0, .int .u64 0]) ∧ Kp w w' := fun w h => layout_at op 0 22 0 0 h0 h1 h2 h3 w h
  clear h0 h1 h2 h3
  go_enter Tryz.func77, Tryz.ntmps77
  go_wp2_with (first | (go_at_call 96; refine (hL _ hg).mono ?_; rintro e w1 ⟨rfl, k1⟩) | fail)
  go_quiet (first | (go_at_call 97; with_reducible exact Calls.quiet_of_same (mask_0 _)) | (go_at_call 97; with_reducible exact Calls.quiet_of_same (mask_22 _)) | fail)
  go_wp2_with (fail)
  generalize hW : (w1.alloc (.cells #[.int .u64 0, .int .u64 22, .int .u64 0, .int .u64 0] 104)).drewN nq = W
  have kW : Kp w W := by rw [← hW]; exact (k1.alloc _).drewN _
  have gW : W.heap[w1.heap.size]? = some (.cells #[.int .u64 0, .int .u64 22, .int .u64 0, .int .u64 0] 104 (0, 0)) := by rw [← hW]; exact heap_alloc_new w1 _
  obtain ⟨c0, c1, c2, c3, _⟩ := cells4 gW
  clear hW
  go_quiet (first | (go_at_call 98; with_reducible exact Calls.quiet_of_same (ones_6 _)) | (go_at_call 98; with_reducible exact Calls.quiet_of_same (ones_0 _)) | fail)
  go_wp2
  go_ret
  refine ⟨ret_int (by decide), by repeat (first | exact kW | apply Chg.drew | apply Chg.drewN | apply Chg.alloc)⟩
theorem named_7 (w : World) (hg : Gt w) (op : Int) (h0 : lD (fo op) = 0) (h1 : lA (fo op) = 0) (h2 : lB (fo op) = 0) (h3 : lI (fo op) = 26) :
    Calls Tryz.prog 77 #[.int .i64 op] w fun e w' => e = .returned (.int .u32 4294967295) ∧ Kp w w' := by
  have hL : ∀ w, Gt w → Calls Tryz.prog 96 #[.int .i64 op] w fun e w' => e = .returned (.agg #[.int .u64 0, .int .u64 0, .int .u64 0, .int .u64 26]) ∧ Kp w w' := fun w h => layout_at op 0 0 0 26 h0 h1 h2 h3 w h
  clear h0 h1 h2 h3
  go_enter Tryz.func77, Tryz.ntmps77
  go_wp2_with (first | (go_at_call 96; refine (hL _ hg).mono ?_; rintro e w1 ⟨rfl, k1⟩) | fail)
  go_quiet (first | (go_at_call 97; with_reducible exact Calls.quiet_of_same (mask_0 _)) | fail)
  go_wp2_with (fail)
  generalize hW : (w1.alloc (.cells #[.int .u64 0, .int .u64 0, .int .u64 0, .int .u64 26] 104)).drewN nq = W
  have kW : Kp w W := by rw [← hW]; exact (k1.alloc _).drewN _
  have gW : W.heap[w1.heap.size]? = some (.cells #[.int .u64 0, .int .u64 0, .int .u64 0, .int .u64 26] 104 (0, 0)) := by rw [← hW]; exact heap_alloc_new w1 _
  obtain ⟨c0, c1, c2, c3, _⟩ := cells4 gW
  clear hW
  go_quiet (first | (go_at_call 98; with_reducible exact Calls.quiet_of_same (ones_6 _)) | (go_at_call 98; with_reducible exact Calls.quiet_of_same (ones_26 _)) | fail)
  go_wp2
  go_ret
  refine ⟨ret_int (by decide), by repeat (first | exact kW | apply Chg.drew | apply Chg.drewN | apply Chg.alloc)⟩
theorem named_8 (w : World) (hg : Gt w) (op : Int) (h0 : lD (fo op) = 0) (h1 : lA (fo op) = 0) (h2 : lB (fo op) = 0) (h3 : lI (fo op) = 0) :
    Calls Tryz.prog 77 #[.int .i64 op] w fun e w' => e = .returned (.int .u32 4227858432) ∧ Kp w w' := by
  have hL : ∀ w, Gt w → Calls Tryz.prog 96 #[.int .i64 op] w fun e w' => e = .returned (.agg #[.int .u64 0, .int .u64 0, .int .u64 0, .int .u64 0]) ∧ Kp w w' := fun w h => layout_at op 0 0 0 0 h0 h1 h2 h3 w h
  clear h0 h1 h2 h3
  go_enter Tryz.func77, Tryz.ntmps77
  go_wp2_with (first | (go_at_call 96; refine (hL _ hg).mono ?_; rintro e w1 ⟨rfl, k1⟩) | fail)
  go_quiet (first | (go_at_call 97; with_reducible exact Calls.quiet_of_same (mask_0 _)) | fail)
  go_wp2_with (fail)
  generalize hW : (w1.alloc (.cells #[.int .u64 0, .int .u64 0, .int .u64 0, .int .u64 0] 104)).drewN nq = W
  have kW : Kp w W := by rw [← hW]; exact (k1.alloc _).drewN _
  have gW : W.heap[w1.heap.size]? = some (.cells #[.int .u64 0, .int .u64 0, .int .u64 0, .int .u64 0] 104 (0, 0)) := by rw [← hW]; exact heap_alloc_new w1 _
  obtain ⟨c0, c1, c2, c3, _⟩ := cells4 gW
  clear hW
  go_quiet (first | (go_at_call 98; with_reducible exact Calls.quiet_of_same (ones_6 _)) | (go_at_call 98; with_reducible exact Calls.quiet_of_same (ones_0 _)) | fail)
  go_wp2
  go_ret
  refine ⟨ret_int (by decide), by repeat (first | exact kW | apply Chg.drew | apply Chg.drewN | apply Chg.alloc)⟩
end Go.Proofs.YtghiffpolacmiabGreatDoor
namespace Go.Proofs.YtghiffpolacmiabGreatDoor
open Go.ChangeShapes Go.WideShapes Go.ChangeAt Go.RowKit
set_option linter.unusedVariables false

theorem fo_cases {op : Int} (h : isO op = true) : fo op = 1 ∨ fo op = 2 ∨ fo op = 3 ∨ fo op = 4 ∨ fo op = 5 ∨ fo op = 6 ∨ fo op = 7 ∨ fo op = 8 := by
  rcases op_pairs h with ⟨q, _⟩ | ⟨q, _⟩ | ⟨q, _⟩ | ⟨q, _⟩ | ⟨q, _⟩ | ⟨q, _⟩ | ⟨q, _⟩ | ⟨q, _⟩ | ⟨q, _⟩ | ⟨q, _⟩ | ⟨q, _⟩ | ⟨q, _⟩ | ⟨q, _⟩ <;> omega
theorem named_any (w : World) (hg : Gt w) (op : Int) (h : isO op = true) :
    Calls Tryz.prog 77 #[.int .i64 op] w fun e w' => e = .returned (.int .u32 (4294967296 - (pU (fo op) : Nat))) ∧ Kp w w' := by
  rcases fo_cases h with f | f | f | f | f | f | f | f
  · rw [f]; exact named_1 w hg op (by rw [f]; rfl) (by rw [f]; rfl) (by rw [f]; rfl) (by rw [f]; rfl)
  · rw [f]; exact named_2 w hg op (by rw [f]; rfl) (by rw [f]; rfl) (by rw [f]; rfl) (by rw [f]; rfl)
  · rw [f]; exact named_3 w hg op (by rw [f]; rfl) (by rw [f]; rfl) (by rw [f]; rfl) (by rw [f]; rfl)
  · rw [f]; exact named_4 w hg op (by rw [f]; rfl) (by rw [f]; rfl) (by rw [f]; rfl) (by rw [f]; rfl)
  · rw [f]; exact named_5 w hg op (by rw [f]; rfl) (by rw [f]; rfl) (by rw [f]; rfl) (by rw [f]; rfl)
  · rw [f]; exact named_6 w hg op (by rw [f]; rfl) (by rw [f]; rfl) (by rw [f]; rfl) (by rw [f]; rfl)
  · rw [f]; exact named_7 w hg op (by rw [f]; rfl) (by rw [f]; rfl) (by rw [f]; rfl) (by rw [f]; rfl)
  · rw [f]; exact named_8 w hg op (by rw [f]; rfl) (by rw [f]; rfl) (by rw [f]; rfl) (by rw [f]; rfl)
/-- What is not of the highest bits. -/
theorem andNot_top (K M : Nat) (hK : K - 1 = M) (N : Int) (hn : ~~~BitVec.ofInt 32 N = BitVec.ofNat 32 M) (k : Nat) (hk : K = 2 ^ k) (h32 : K ≤ 4294967296) (v : Nat) (hv : v < 4294967296) : bits .andNot .u32 (v : Int) N = ((v % K : Nat) : Int) := by
  have h1 : (BitVec.ofInt 32 (v : Int)).toNat = v := by
    rw [BitVec.ofInt_natCast, BitVec.toNat_ofNat]; exact Nat.mod_eq_of_lt hv
  show IntKind.u32.wrap ((BitVec.ofInt 32 (v : Int) &&& ~~~BitVec.ofInt 32 N).toNat : Int) = _
  have hp : 0 < K := by rw [hk]; exact Nat.two_pow_pos k
  have hb : (BitVec.ofInt 32 (v : Int) &&& ~~~BitVec.ofInt 32 N).toNat = v % K := by
    rw [hn, BitVec.toNat_and, h1, BitVec.toNat_ofNat, Nat.mod_eq_of_lt (by omega), ← hK, hk, Nat.and_two_pow_sub_one_eq_mod]
  rw [hb]
  exact wraps_u32' _ (by omega) (by have := Nat.mod_lt v hp; omega)
theorem andNot_us (v : Nat) (hv : v < 4294967296) (f : Nat) (hf : f = 1 ∨ f = 2 ∨ f = 3 ∨ f = 4 ∨ f = 5 ∨ f = 6 ∨ f = 7 ∨ f = 8) : bits .andNot .u32 (v : Int) (4294967296 - (pU f : Nat)) = ((v % pU f : Nat) : Int) := by
  rcases hf with rfl | rfl | rfl | rfl | rfl | rfl | rfl | rfl
  · exact andNot_top 16384 16383 rfl 4294950912 (by decide) 14 rfl (by decide) v hv
  · exact andNot_top 1 0 rfl 4294967295 (by decide) 0 rfl (by decide) v hv
  · exact andNot_top 1 0 rfl 4294967295 (by decide) 0 rfl (by decide) v hv
  · exact andNot_top 1 0 rfl 4294967295 (by decide) 0 rfl (by decide) v hv
  · exact andNot_top 4194304 4194303 rfl 4290772992 (by decide) 22 rfl (by decide) v hv
  · exact andNot_top 4194304 4194303 rfl 4290772992 (by decide) 22 rfl (by decide) v hv
  · exact andNot_top 1 0 rfl 4294967295 (by decide) 0 rfl (by decide) v hv
  · exact andNot_top 67108864 67108863 rfl 4227858432 (by decide) 26 rfl (by decide) v hv

theorem Decode_any (w : World) (hg : Gt w) (v : Nat) (hv : v < 4294967296) :
    Calls Tryz.prog 35 #[.int .u32 v] w fun e w' => e = .returned (.tuple #[iv (at0 (de v) (dO v)) (at0 (de v) (dD v : Nat)) (at0 (de v) (dA v : Nat)) (at0 (de v) (dB v : Nat)) (at0 (de v) (dI v)), .int .i64 (de v)]) ∧ Kp w w' := by
  have hI := fun w => isO_any w (dO v)
  have hO : (v : Int) / 67108864 = dO v := by simp [dO]
  have hO6 : wrap64 (dO v) = dO v := by rw [← hO]; simp only [wrap64]; omega
  have HD : Hid (de v = if isO (dO v) = false then 100 else if stray v = true then 103 else ck (dO v) (dD v) (dA v) (dB v) (dI v)) := rfl
  have hg1 := hg.alloc (.cells #[.int .i64 0, .int .u8 0, .int .u8 0, .int .u8 0, .int .i32 0] 52)
  cases ho : isO (dO v)
  · rw [ho] at hI
    have hd : de v = 100 := by rw [HD.out, if_pos ho]
    rw [hd]
    have e0 : ∀ x, at0 100 x = 0 := fun x => rfl
    rw [e0, e0, e0, e0, e0]
    clear e0 hd HD ho
    generalize dO v = op at *
    generalize (v : Int) = v' at *
    go_enter Tryz.func35, Tryz.ntmps35
    go_wp2_with (go_at_call 76; refine (hI _).mono ?_; rintro e w1 ⟨rfl, rfl⟩)
    refine bodyPost_ret (v := .tuple #[iv 0 0 0 0 0, .int .i64 100]) (by simp [results, Tryz.results35, go_sem]) rfl ⟨rfl, (Chg.refl _ _).alloc _⟩
  · rw [ho] at hI
    have hN := fun w h => named_any w h (dO v) ho
    have hA := andNot_us v hv (fo (dO v)) (fo_cases ho)
    have hS : (((v % pU (fo (dO v)) : Nat) : Int) != 0) = stray v := by
      rw [stray]
      cases v % pU (fo (dO v)) <;> rfl
    rw [← hA] at hS
    clear hA
    have hM := fun w h => instrOf_any w h v hv ho
    have hC := fun w h => check_any w h (dO v) (dD v) (dA v) (dB v) (dI v)
    rw [if_neg (by rw [ho]; decide)] at HD
    generalize (4294967296 - ((pU (fo (dO v)) : Nat) : Int)) = m at *
    generalize de v = r at *
    generalize ck (dO v) (dD v) (dA v) (dB v) (dI v) = c at *
    generalize stray v = sv at *
    generalize dI v = n at *
    generalize dD v = d at *
    generalize dA v = a at *
    generalize dB v = b at *
    clear ho
    generalize dO v = op at *
    clear hv
    generalize (v : Int) = v' at *
    generalize (d : Int) = d' at *
    generalize (a : Int) = a' at *
    generalize (b : Int) = b' at *
    cases sv
    · have hr : r = c := by rw [HD.out]; rfl
      subst hr
      clear HD
      have hS' : (bits .andNot .u32 v' m == 0) = true := by simpa using hS
      by_cases hc : r = 0
      · subst hc
        have e0 : ∀ x, at0 0 x = x := fun x => rfl
        rw [e0, e0, e0, e0, e0]
        clear e0
        go_enter Tryz.func35, Tryz.ntmps35
        go_wp2_with (first
          | (go_at_call 76; refine (hI _).mono ?_; rintro e w1 ⟨rfl, rfl⟩)
          | (go_at_call 77; refine (hN _ hg1).mono ?_; rintro e w2 ⟨rfl, k2⟩; have hg2 := hg1.keep k2; have g2 := Kp.heap k2 (heap_alloc_new w _))
          | (go_at_call 78; refine (hM _ hg2).mono ?_; rintro e w3 ⟨rfl, k3⟩; have hg3 := (hg2.keep k3).alloc (.cells #[.int .i64 op, .int .u8 d', .int .u8 a', .int .u8 b', .int .i32 n] 52))
          | (go_at_call 79; refine (hC _ hg3).mono ?_; rintro e w4 ⟨rfl, k4⟩; have g4 := Kp.heap k4 (al_old _ (Kp.heap k3 g2)); have g5 := Kp.heap k4 (heap_alloc_new w3 _); obtain ⟨a0, a1, a2, a3, a4, f0, f1, f2, f3, f4⟩ := cells5 g4; obtain ⟨b0, b1, b2, b3, b4, _⟩ := cells5 g5))
        obtain ⟨V, hV⟩ : ∃ V, V = (((((w4.setCell ⟨w.heap.size, 0, none⟩ (.int .i64 op)).setCell ⟨w.heap.size, 1, none⟩ (.int .u8 d')).setCell ⟨w.heap.size, 2, none⟩ (.int .u8 a')).setCell ⟨w.heap.size, 3, none⟩ (.int .u8 b')).setCell ⟨w.heap.size, 4, none⟩ (.int .i32 n)) := ⟨_, rfl⟩
        rw [← hV]
        obtain ⟨v1, v2, v3⟩ := box5 g4 _ _ _ _ _ hV
        obtain ⟨r0, r1, r2, r3, r4, _⟩ := cells5 v1
        refine bodyPost_ret (v := .tuple #[iv op d' a' b' n, .int .i64 0]) (by simp [results, Tryz.results35, go_sem, r0, r1, r2, r3, r4]) rfl ⟨rfl, ?_⟩
        exact Chg.trans (Kp.trans (Kp.trans (Kp.trans ((Chg.refl _ _).alloc _) k2) k3) (Kp.trans ((Chg.refl _ _).alloc _) k4)) v3 (fun i hi e => absurd e (Nat.ne_of_lt hi))
      · have e0 : ∀ x, at0 r x = 0 := fun x => if_neg hc
        rw [e0, e0, e0, e0, e0]
        clear e0
        have hb : (r == 0) = false := by simpa using hc
        go_enter Tryz.func35, Tryz.ntmps35
        go_wp2_with (first
          | (go_at_call 76; refine (hI _).mono ?_; rintro e w1 ⟨rfl, rfl⟩)
          | (go_at_call 77; refine (hN _ hg1).mono ?_; rintro e w2 ⟨rfl, k2⟩; have hg2 := hg1.keep k2; have g2 := Kp.heap k2 (heap_alloc_new w _))
          | (go_at_call 78; refine (hM _ hg2).mono ?_; rintro e w3 ⟨rfl, k3⟩; have hg3 := (hg2.keep k3).alloc (.cells #[.int .i64 op, .int .u8 d', .int .u8 a', .int .u8 b', .int .i32 n] 52))
          | (go_at_call 79; refine (hC _ hg3).mono ?_; rintro e w4 ⟨rfl, k4⟩; have g4 := Kp.heap k4 (al_old _ (Kp.heap k3 g2)); obtain ⟨a0, a1, a2, a3, a4, f0, f1, f2, f3, f4⟩ := cells5 g4))
        obtain ⟨V, hV⟩ : ∃ V, V = (((((w4.setCell ⟨w.heap.size, 0, none⟩ (.int .i64 0)).setCell ⟨w.heap.size, 1, none⟩ (.int .u8 0)).setCell ⟨w.heap.size, 2, none⟩ (.int .u8 0)).setCell ⟨w.heap.size, 3, none⟩ (.int .u8 0)).setCell ⟨w.heap.size, 4, none⟩ (.int .i32 0)) := ⟨_, rfl⟩
        rw [← hV]
        obtain ⟨v1, v2, v3⟩ := box5 g4 _ _ _ _ _ hV
        obtain ⟨r0, r1, r2, r3, r4, _⟩ := cells5 v1
        refine bodyPost_ret (v := .tuple #[iv 0 0 0 0 0, .int .i64 r]) (by simp [results, Tryz.results35, go_sem, r0, r1, r2, r3, r4]) rfl ⟨rfl, ?_⟩
        exact Chg.trans (Kp.trans (Kp.trans (Kp.trans ((Chg.refl _ _).alloc _) k2) k3) (Kp.trans ((Chg.refl _ _).alloc _) k4)) v3 (fun i hi e => absurd e (Nat.ne_of_lt hi))
    · have hr : r = 103 := by rw [HD.out]; rfl
      subst hr
      have e0 : ∀ x, at0 103 x = 0 := fun x => rfl
      rw [e0, e0, e0, e0, e0]
      clear e0 HD hC hM
      have hS' : (bits .andNot .u32 v' m == 0) = false := by simpa using hS
      go_enter Tryz.func35, Tryz.ntmps35
      go_wp2_with (first
        | (go_at_call 76; refine (hI _).mono ?_; rintro e w1 ⟨rfl, rfl⟩)
        | (go_at_call 77; refine (hN _ hg1).mono ?_; rintro e w2 ⟨rfl, k2⟩; have g4 := Kp.heap k2 (heap_alloc_new w _); obtain ⟨a0, a1, a2, a3, a4, f0, f1, f2, f3, f4⟩ := cells5 g4))
      obtain ⟨V, hV⟩ : ∃ V, V = (((((w2.setCell ⟨w.heap.size, 0, none⟩ (.int .i64 0)).setCell ⟨w.heap.size, 1, none⟩ (.int .u8 0)).setCell ⟨w.heap.size, 2, none⟩ (.int .u8 0)).setCell ⟨w.heap.size, 3, none⟩ (.int .u8 0)).setCell ⟨w.heap.size, 4, none⟩ (.int .i32 0)) := ⟨_, rfl⟩
      rw [← hV]
      obtain ⟨v1, v2, v3⟩ := box5 g4 _ _ _ _ _ hV
      obtain ⟨r0, r1, r2, r3, r4, _⟩ := cells5 v1
      refine bodyPost_ret (v := .tuple #[iv 0 0 0 0 0, .int .i64 103]) (by simp [results, Tryz.results35, go_sem, r0, r1, r2, r3, r4]) rfl ⟨rfl, ?_⟩
      exact Chg.trans (Kp.trans ((Chg.refl _ _).alloc _) k2) v3 (fun i hi e => absurd e (Nat.ne_of_lt hi))
end Go.Proofs.YtghiffpolacmiabGreatDoor
