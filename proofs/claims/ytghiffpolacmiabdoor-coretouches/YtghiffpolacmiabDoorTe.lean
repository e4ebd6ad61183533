import Derived.Test.YtghiffpolacmiabDoorTd
import Derived.Deep.RegionHeld3
namespace Go.Proofs.YtghiffpolacmiabDoor
open Go.ChangeShapes Go.WideShapes Go.ChangeAt Go.RowKit
set_option linter.unusedVariables false

/-- The register in the bits from l on. -/
def rg (v l : Nat) : Nat := dR v l (2 ^ l)
theorem at_any (w : World) (v l : Nat) (hv : v < 4294967296) (hl : l = 0 ∨ l = 14 ∨ l = 18 ∨ l = 22) :
    Calls Tryd.prog 21 #[.int .u32 v, .int .u64 l] w fun e w' => e = .returned (.int .u8 (rg v l : Nat)) ∧ w' = w := by
  rcases hl with rfl | rfl | rfl | rfl
  · exact at_0 w v hv
  · exact at_14 w v hv
  · exact at_18 w v hv
  · exact at_22 w v hv
theorem tabsL : ∀ f : Fin 9, (lD f.val = 0 ∨ lD f.val = 14 ∨ lD f.val = 18 ∨ lD f.val = 22) ∧ (lA f.val = 0 ∨ lA f.val = 14 ∨ lA f.val = 18 ∨ lA f.val = 22) ∧ (lB f.val = 0 ∨ lB f.val = 14 ∨ lB f.val = 18 ∨ lB f.val = 22) ∧ pD f.val = 2 ^ lD f.val ∧ pA f.val = 2 ^ lA f.val ∧ pB f.val = 2 ^ lB f.val := by decide +kernel
theorem dregs (v : Nat) : dD v = rg v (lD (fo (dO v))) ∧ dA v = rg v (lA (fo (dO v))) ∧ dB v = rg v (lB (fo (dO v))) := by
  obtain ⟨_, _, _, h1, h2, h3⟩ := tabsL ⟨fo (dO v), fo_lt _⟩
  simp only at h1 h2 h3
  exact ⟨by rw [dD, rg, h1], by rw [dA, rg, h2], by rw [dB, rg, h3]⟩
theorem zero24 : (Tryd.prog.info? 31).map (fun i => (i.zero, i.size)) = some (some (.agg #[.int .i64 0, .int .u8 0, .int .u8 0, .int .u8 0, .int .i32 0]), 5) := by kernel_rfl
theorem hmx : Tryd.prog.follows .mixedOrders = true := by kernel_rfl
set_option maxHeartbeats 8000000 in
set_option maxRecDepth 100000 in
theorem instrOf_any (w : World) (hg : Gt w) (v : Nat) (hv : v < 4294967296) (ho : isO (dO v) = true) :
    Calls Tryd.prog 12 #[.int .u32 v] w fun e w' => e = .returned (iv (dO v) (dD v : Nat) (dA v : Nat) (dB v : Nat) (dI v)) ∧ Kp w w' := by
  have hL := fun w h => layoutOf_any w h (dO v)
  have hM := fun w h => immOf_any w h (dO v) ho v hv
  obtain ⟨e1, e2, e3⟩ := dregs v
  rw [e1, e2, e3, show dI v = dF (fo (dO v)) (tk (dO v)) v from rfl]
  obtain ⟨h1, h2, h3, _⟩ := tabsL ⟨fo (dO v), fo_lt _⟩
  simp only at h1 h2 h3
  have H1 := fun w => at_any w v (lD (fo (dO v))) hv h1
  have H2 := fun w => at_any w v (lA (fo (dO v))) hv h2
  have H3 := fun w => at_any w v (lB (fo (dO v))) hv h3
  clear e1 e2 e3 h1 h2 h3
  have hO : (v : Int) / 67108864 = dO v := by simp [dO]
  have hO6 : wrap64 (dO v) = dO v := by rw [← hO]; simp only [wrap64]; omega
  generalize dF (fo (dO v)) (tk (dO v)) v = n at *
  generalize rg v (lD (fo (dO v))) = d at *
  generalize rg v (lA (fo (dO v))) = a at *
  generalize rg v (lB (fo (dO v))) = b at *
  generalize lD (fo (dO v)) = y0 at *
  generalize lA (fo (dO v)) = y1 at *
  generalize lB (fo (dO v)) = y2 at *
  generalize lI (fo (dO v)) = y3 at *
  generalize dO v = op at *
  clear ho hv
  generalize (y0 : Int) = x0 at *
  generalize (y1 : Int) = x1 at *
  generalize (y2 : Int) = x2 at *
  generalize (y3 : Int) = x3 at *
  generalize (d : Int) = d' at *
  generalize (a : Int) = a' at *
  generalize (b : Int) = b' at *
  generalize (v : Int) = v' at *
  have hg1 := hg.alloc (.cells #[.int .i64 0, .int .u8 0, .int .u8 0, .int .u8 0, .int .i32 0] 31)
  go_enter Tryd.func12, Tryd.ntmps12
  go_wp2_with (first
    | (go_at_call 18; refine (hL _ hg1).mono ?_; rintro e w1 ⟨rfl, k1⟩)
    | fail)
  obtain ⟨W, hW⟩ : ∃ W, W = w1.alloc (.cells #[.int .u64 x0, .int .u64 x1, .int .u64 x2, .int .u64 x3] 67) := ⟨_, rfl⟩
  have gL : W.heap[w1.heap.size]? = some (.cells #[.int .u64 x0, .int .u64 x1, .int .u64 x2, .int .u64 x3] 67 (0, 0)) := by rw [hW]; exact heap_alloc_new _ _
  have gR : W.heap[w.heap.size]? = some (.cells #[.int .i64 0, .int .u8 0, .int .u8 0, .int .u8 0, .int .i32 0] 31 (0, 0)) := by rw [hW]; exact al_old _ (Kp.heap k1 (heap_alloc_new w _))
  have kW : Kp w W := by rw [hW]; exact (((Chg.refl _ _).alloc _).trans k1 (fun _ _ h => h)).alloc _
  rw [← hW]
  have hgW := hg.keep kW
  have HK : ∀ V, Kp W V → V.cell? ⟨w1.heap.size, 0, none⟩ = some (.int .u64 x0) ∧ V.cell? ⟨w1.heap.size, 1, none⟩ = some (.int .u64 x1) ∧ V.cell? ⟨w1.heap.size, 2, none⟩ = some (.int .u64 x2) := fun V kV => by
    obtain ⟨a0, a1, a2, _⟩ := cells4 (Kp.heap kV gL)
    exact ⟨a0, a1, a2⟩
  have HR : ∀ V, Kp W V → V.cell? ⟨w.heap.size, 0, none⟩ = some (.int .i64 0) ∧ V.cell? ⟨w.heap.size, 1, none⟩ = some (.int .u8 0) ∧ V.cell? ⟨w.heap.size, 2, none⟩ = some (.int .u8 0) ∧ V.cell? ⟨w.heap.size, 3, none⟩ = some (.int .u8 0) ∧ V.cell? ⟨w.heap.size, 4, none⟩ = some (.int .i32 0) ∧ V.frozen? ⟨w.heap.size, 0, none⟩ = false ∧ V.frozen? ⟨w.heap.size, 1, none⟩ = false ∧ V.frozen? ⟨w.heap.size, 2, none⟩ = false ∧ V.frozen? ⟨w.heap.size, 3, none⟩ = false ∧ V.frozen? ⟨w.heap.size, 4, none⟩ = false := fun V kV => cells5 (Kp.heap kV gR)
  have hne : ¬ w1.heap.size = w.heap.size := by have := k1.size; rw [al_size] at this; omega
  clear hW hg1 k1 hL
  have hM' := hM W.drew (hgW.keep (Chg.refl _ _).drew)
  refine wp_region_held_drew (S := fun w' => w'.cell? ⟨w1.heap.size, 0, none⟩ = some (.int .u64 x0) ∧ w'.cell? ⟨w1.heap.size, 1, none⟩ = some (.int .u64 x1) ∧ w'.cell? ⟨w1.heap.size, 2, none⟩ = some (.int .u64 x2)) hmx (HK _ (Chg.refl _ _).drew) (fun hS => ?_)
  refine wpAnyH_take (i := 0) (oi := { dst := some 10, op := Op.move (Operand.tmp 3), type := 29, pos := "words.go:41", after := #[], guard := none }) (v := .int .i64 op) rfl (by kernel_rfl) (by kernel_rfl) (by kernel_rfl) (fun _ _ _ h => h) (Or.inl ⟨by rfl, ?_⟩) hS ?_
  · rintro wx ⟨d0, d1, d2⟩
    go_simp
  simp only [Act.put, List.setIfInBounds_toArray, List.set_cons_zero, List.set_cons_succ]
  refine wpAnyH_take (i := 1) (oi := { dst := some 11, op := Op.move (Operand.tmp 0), type := 22, pos := "words.go:41", after := #[], guard := none }) (v := .int .u32 v') rfl (by kernel_rfl) (by kernel_rfl) (by kernel_rfl) (fun _ _ _ h => h) (Or.inl ⟨by rfl, ?_⟩) hS ?_
  · rintro wx ⟨d0, d1, d2⟩
    go_simp
  simp only [Act.put, List.setIfInBounds_toArray, List.set_cons_zero, List.set_cons_succ]
  refine wpAnyH_take (i := 2) (oi := { dst := some 12, op := Op.fieldAddr 67 (Operand.tmp 4) 0, type := 0, pos := "words.go:41", after := #[], guard := none }) (v := .pointer (some ⟨w1.heap.size, 0, none⟩)) rfl (by kernel_rfl) (by kernel_rfl) (by kernel_rfl) (fun _ _ _ h => h) (Or.inl ⟨by rfl, ?_⟩) hS ?_
  · rintro wx ⟨d0, d1, d2⟩
    go_simp
  simp only [Act.put, List.setIfInBounds_toArray, List.set_cons_zero, List.set_cons_succ]
  refine wpAnyH_take (i := 3) (oi := { dst := some 13, op := Op.load 53 (Operand.tmp 12), type := 53, pos := "words.go:41", after := #[{ on := 2, ground := Ground.data }], guard := none }) (v := .int .u64 x0) rfl (by kernel_rfl) (by kernel_rfl) (by kernel_rfl) (fun _ _ _ h => h) (Or.inl ⟨by rfl, ?_⟩) hS ?_
  · rintro wx ⟨d0, d1, d2⟩
    go_simp
  simp only [Act.put, List.setIfInBounds_toArray, List.set_cons_zero, List.set_cons_succ]
  refine wpAnyH_take (i := 5) (oi := { dst := some 15, op := Op.move (Operand.tmp 0), type := 22, pos := "words.go:41", after := #[], guard := none }) (v := .int .u32 v') rfl (by kernel_rfl) (by kernel_rfl) (by kernel_rfl) (fun _ _ _ h => h) (Or.inl ⟨by rfl, ?_⟩) hS ?_
  · rintro wx ⟨d0, d1, d2⟩
    go_simp
  simp only [Act.put, List.setIfInBounds_toArray, List.set_cons_zero, List.set_cons_succ]
  refine wpAnyH_take (i := 6) (oi := { dst := some 16, op := Op.fieldAddr 67 (Operand.tmp 4) 1, type := 0, pos := "words.go:41", after := #[], guard := none }) (v := .pointer (some ⟨w1.heap.size, 1, none⟩)) rfl (by kernel_rfl) (by kernel_rfl) (by kernel_rfl) (fun _ _ _ h => h) (Or.inl ⟨by rfl, ?_⟩) hS ?_
  · rintro wx ⟨d0, d1, d2⟩
    go_simp
  simp only [Act.put, List.setIfInBounds_toArray, List.set_cons_zero, List.set_cons_succ]
  refine wpAnyH_take (i := 7) (oi := { dst := some 17, op := Op.load 53 (Operand.tmp 16), type := 53, pos := "words.go:41", after := #[{ on := 6, ground := Ground.data }], guard := none }) (v := .int .u64 x1) rfl (by kernel_rfl) (by kernel_rfl) (by kernel_rfl) (fun _ _ _ h => h) (Or.inl ⟨by rfl, ?_⟩) hS ?_
  · rintro wx ⟨d0, d1, d2⟩
    go_simp
  simp only [Act.put, List.setIfInBounds_toArray, List.set_cons_zero, List.set_cons_succ]
  refine wpAnyH_take (i := 9) (oi := { dst := some 19, op := Op.move (Operand.tmp 0), type := 22, pos := "words.go:41", after := #[], guard := none }) (v := .int .u32 v') rfl (by kernel_rfl) (by kernel_rfl) (by kernel_rfl) (fun _ _ _ h => h) (Or.inl ⟨by rfl, ?_⟩) hS ?_
  · rintro wx ⟨d0, d1, d2⟩
    go_simp
  simp only [Act.put, List.setIfInBounds_toArray, List.set_cons_zero, List.set_cons_succ]
  refine wpAnyH_take (i := 10) (oi := { dst := some 20, op := Op.fieldAddr 67 (Operand.tmp 4) 2, type := 0, pos := "words.go:41", after := #[], guard := none }) (v := .pointer (some ⟨w1.heap.size, 2, none⟩)) rfl (by kernel_rfl) (by kernel_rfl) (by kernel_rfl) (fun _ _ _ h => h) (Or.inl ⟨by rfl, ?_⟩) hS ?_
  · rintro wx ⟨d0, d1, d2⟩
    go_simp
  simp only [Act.put, List.setIfInBounds_toArray, List.set_cons_zero, List.set_cons_succ]
  refine wpAnyH_take (i := 11) (oi := { dst := some 21, op := Op.load 53 (Operand.tmp 20), type := 53, pos := "words.go:41", after := #[{ on := 10, ground := Ground.data }], guard := none }) (v := .int .u64 x2) rfl (by kernel_rfl) (by kernel_rfl) (by kernel_rfl) (fun _ _ _ h => h) (Or.inl ⟨by rfl, ?_⟩) hS ?_
  · rintro wx ⟨d0, d1, d2⟩
    go_simp
  simp only [Act.put, List.setIfInBounds_toArray, List.set_cons_zero, List.set_cons_succ]
  refine wpAnyH_take (i := 13) (oi := { dst := some 23, op := Op.move (Operand.tmp 0), type := 22, pos := "words.go:41", after := #[], guard := none }) (v := .int .u32 v') rfl (by kernel_rfl) (by kernel_rfl) (by kernel_rfl) (fun _ _ _ h => h) (Or.inl ⟨by rfl, ?_⟩) hS ?_
  · rintro wx ⟨d0, d1, d2⟩
    go_simp
  simp only [Act.put, List.setIfInBounds_toArray, List.set_cons_zero, List.set_cons_succ]
  refine wpAnyH_take (i := 14) (oi := { dst := some 24, op := Op.move (Operand.tmp 3), type := 29, pos := "words.go:41", after := #[], guard := none }) (v := .int .i64 op) rfl (by kernel_rfl) (by kernel_rfl) (by kernel_rfl) (fun _ _ _ h => h) (Or.inl ⟨by rfl, ?_⟩) hS ?_
  · rintro wx ⟨d0, d1, d2⟩
    go_simp
  simp only [Act.put, List.setIfInBounds_toArray, List.set_cons_zero, List.set_cons_succ]
  refine wpAnyH_ready (rs := [4]) (by kernel_rfl) (by simp) ?_
  refine AllReadyH.cons (o := { dst := some 14, op := Op.call { callee := Callee.value (Operand.func 21), args := #[Operand.tmp 11, Operand.tmp 13], argTypes := #[22, 53] }, type := 5, pos := "words.go:43", after := #[{ on := 1, ground := Ground.data }, { on := 3, ground := Ground.data }], guard := none }) rfl (fun K hK => ?_) AllReadyH.nil
  rw [if_pos (by rfl)]
  go_simp
  go_at_call 21
  with_reducible refine (H1 _).mono ?_
  rintro e wz ⟨rfl, rfl⟩
  go_simp
  refine hK.out _ _ hS (fun _ => ?_)
  clear hK K
  refine wpAnyH_ready (rs := [8]) (by kernel_rfl) (by simp) ?_
  refine AllReadyH.cons (o := { dst := some 18, op := Op.call { callee := Callee.value (Operand.func 21), args := #[Operand.tmp 15, Operand.tmp 17], argTypes := #[22, 53] }, type := 5, pos := "words.go:44", after := #[{ on := 5, ground := Ground.data }, { on := 7, ground := Ground.data }, { on := 4, ground := Ground.chain }], guard := none }) rfl (fun K hK => ?_) AllReadyH.nil
  rw [if_pos (by rfl)]
  go_simp
  go_at_call 21
  with_reducible refine (H2 _).mono ?_
  rintro e wz ⟨rfl, rfl⟩
  go_simp
  refine hK.out _ _ hS (fun _ => ?_)
  clear hK K
  refine wpAnyH_ready (rs := [12]) (by kernel_rfl) (by simp) ?_
  refine AllReadyH.cons (o := { dst := some 22, op := Op.call { callee := Callee.value (Operand.func 21), args := #[Operand.tmp 19, Operand.tmp 21], argTypes := #[22, 53] }, type := 5, pos := "words.go:45", after := #[{ on := 9, ground := Ground.data }, { on := 11, ground := Ground.data }, { on := 8, ground := Ground.chain }], guard := none }) rfl (fun K hK => ?_) AllReadyH.nil
  rw [if_pos (by rfl)]
  go_simp
  go_at_call 21
  with_reducible refine (H3 _).mono ?_
  rintro e wz ⟨rfl, rfl⟩
  go_simp
  refine hK.out _ _ hS (fun _ => ?_)
  clear hK K
  refine wpAnyH_ready (rs := [15]) (by kernel_rfl) (by simp) ?_
  refine AllReadyH.cons (o := { dst := some 25, op := Op.call { callee := Callee.value (Operand.func 22), args := #[Operand.tmp 23, Operand.tmp 24], argTypes := #[22, 29] }, type := 21, pos := "words.go:46", after := #[{ on := 13, ground := Ground.data }, { on := 14, ground := Ground.data }, { on := 12, ground := Ground.chain }], guard := none }) rfl (fun K hK => ?_) AllReadyH.nil
  rw [if_pos (by rfl)]
  go_simp
  go_at_call 22
  with_reducible refine hM'.mono ?_
  rintro e w5 ⟨rfl, k5⟩
  go_simp
  have kk : Kp W w5 := (Chg.refl _ _).drew.trans k5 (fun _ _ e => e)
  refine hK.out _ _ (HK _ kk) (fun hS5 => ?_)
  clear hK K
  refine wpAnyH_take (i := 16) (oi := { dst := some 26, op := Op.build 31 #[(0, Operand.tmp 10), (1, Operand.tmp 14), (2, Operand.tmp 18), (3, Operand.tmp 22), (4, Operand.tmp 25)], type := 31, pos := "words.go:41", after := #[{ on := 0, ground := Ground.data }, { on := 4, ground := Ground.data }, { on := 8, ground := Ground.data }, { on := 12, ground := Ground.data }, { on := 15, ground := Ground.data }], guard := none }) (v := .agg #[.int .i64 op, .int .u8 d', .int .u8 a', .int .u8 b', .int .i32 n]) rfl (by kernel_rfl) (by kernel_rfl) (by kernel_rfl) (fun _ _ _ h => h) (Or.inl ⟨by rfl, ?_⟩) hS5 ?_
  · rintro wx ⟨d0, d1, d2⟩
    go_simp
  simp only [Act.put, List.setIfInBounds_toArray, List.set_cons_zero, List.set_cons_succ]
  obtain ⟨r0, r1, r2, r3, r4, f0, f1, f2, f3, f4⟩ := HR _ kk
  refine wpAnyH_ready (rs := [17]) (by kernel_rfl) (by simp) ?_
  refine AllReadyH.cons (o := { dst := none, op := Op.store 31 (Operand.tmp 2) (Operand.tmp 26), type := 0, pos := "words.go:41", after := #[{ on := 16, ground := Ground.data }, { on := 15, ground := Ground.chain }, { on := 0, ground := Ground.phase }, { on := 1, ground := Ground.phase }, { on := 2, ground := Ground.phase }, { on := 3, ground := Ground.phase }, { on := 4, ground := Ground.phase }, { on := 5, ground := Ground.phase }, { on := 6, ground := Ground.phase }, { on := 7, ground := Ground.phase }, { on := 8, ground := Ground.phase }, { on := 9, ground := Ground.phase }, { on := 10, ground := Ground.phase }, { on := 11, ground := Ground.phase }, { on := 12, ground := Ground.phase }, { on := 13, ground := Ground.phase }, { on := 14, ground := Ground.phase }, { on := 15, ground := Ground.phase }, { on := 16, ground := Ground.phase }], guard := none }) rfl (fun K hK => ?_) AllReadyH.nil
  rw [if_pos (by rfl)]
  go_simp
  obtain ⟨V, hV⟩ : ∃ V, V = (((((w5.setCell ⟨w.heap.size, 0, none⟩ (.int .i64 op)).setCell ⟨w.heap.size, 1, none⟩ (.int .u8 d')).setCell ⟨w.heap.size, 2, none⟩ (.int .u8 a')).setCell ⟨w.heap.size, 3, none⟩ (.int .u8 b')).setCell ⟨w.heap.size, 4, none⟩ (.int .i32 n)) := ⟨_, rfl⟩
  rw [← hV]
  obtain ⟨v1, v2, v3⟩ := box5 (Kp.heap kk gR) _ _ _ _ _ hV
  obtain ⟨z0, z1, z2, _⟩ := cells4 (v3.heap (Kp.heap kk gL) hne)
  refine hK.out _ _ ⟨z0, z1, z2⟩ (fun _ => ?_)
  clear hK K
  refine wpAnyH_done (by kernel_rfl) ?_ _
  obtain ⟨r0, r1, r2, r3, r4, _⟩ := cells5 v1
  go_wp2
  refine bodyPost_ret (v := .agg #[.int .i64 op, .int .u8 d', .int .u8 a', .int .u8 b', .int .i32 n]) (by simp [results, Tryd.results12, go_sem, r0, r1, r2, r3, r4]) rfl ⟨rfl, ?_⟩
  exact Chg.trans (Kp.trans kW kk) v3 (fun i hi e => absurd e (Nat.ne_of_lt hi))
end Go.Proofs.YtghiffpolacmiabDoor
