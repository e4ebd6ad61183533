import Derived.Test.YthgpcmickgcdhaaBg
import Derived.Shelf.SlSortCmp.KitK
namespace Go.Proofs.Ythgpcmickgcdhaa
open Go.ChangeShapes Go.WideShapes Go.ChangeAt Go.RowKit
set_option linter.unusedVariables false
def cmpI (x y : Int) : Int := if x < y then -1 else if y < x then 1 else 0
def orI (x y : Int) : Int := if x = 0 then y else x
theorem isNaN_any (w : World) (x : Int) : Calls Try.prog 63 #[.int .i64 x] w fun e w' => e = .returned (.bool false) ∧ w' = w := by
  go_enter Try.func63, Try.ntmps63
  go_wp2
  go_ret
  simp
theorem cmp_any (w : World) (x y : Int) : Calls Try.prog 44 #[.int .i64 x, .int .i64 y] w fun e w' => e = .returned (.int .i64 (cmpI x y)) ∧ w' = w := by
  have hN := fun x => isNaN_any w x
  by_cases h1 : x < y
  · have e : cmpI x y = -1 := by simp [cmpI, h1]
    rw [e]
    go_enter Try.func44, Try.ntmps44
    go_wp2_with (go_at_call 63; refine (hN _).mono ?_; rintro e w' ⟨rfl, rfl⟩)
    go_ret
    simp
  · by_cases h2 : y < x
    · have e : cmpI x y = 1 := by simp [cmpI, h1, h2]
      rw [e]
      go_enter Try.func44, Try.ntmps44
      go_wp2_with (go_at_call 63; refine (hN _).mono ?_; rintro e w' ⟨rfl, rfl⟩)
      go_ret
      simp
    · have e : cmpI x y = 0 := by simp [cmpI, h1, h2]
      rw [e]
      go_enter Try.func44, Try.ntmps44
      go_wp2_with (go_at_call 63; refine (hN _).mono ?_; rintro e w' ⟨rfl, rfl⟩)
      go_ret
      simp
set_option maxHeartbeats 1000000 in
theorem or_any (w : World) (b : Nat) (x y : Int) (h0 : w.cell? ⟨b, 0, none⟩ = some (.int .i64 x)) (h1 : w.cell? ⟨b, 1, none⟩ = some (.int .i64 y)) : Calls Try.prog 43 #[.slice (some ⟨b, 0, none⟩) 2 2] w fun e w' => e = .returned (.int .i64 (orI x y)) ∧ w' = w := by
  by_cases hx : x = 0
  · have e : orI x y = y := by simp [orI, hx]
    rw [e]
    have hxb : (x != 0) = false := by simp [hx]
    have hxe : (x == 0) = true := by simp [hx]
    subst hx
    by_cases hy : y = 0
    · subst hy
      go_enter Try.func43, Try.ntmps43
      go_wp2
      refine wp_loop_rounds 3 ?_
      rw [rounds_succ]
      go_wp2
      rw [rounds_succ]
      go_wp2
      rw [rounds_succ]
      go_wp2
      go_ret
      simp
    · have hyb : (y != 0) = true := by simp [hy]
      have hye : (y == 0) = false := by simp [hy]
      go_enter Try.func43, Try.ntmps43
      go_wp2
      refine wp_loop_rounds 3 ?_
      rw [rounds_succ]
      go_wp2
      rw [rounds_succ]
      go_wp2
      go_ret
      simp
  · have e : orI x y = x := by simp [orI, hx]
    rw [e]
    have hxb : (x != 0) = true := by simp [hx]
    have hxe : (x == 0) = false := by simp [hx]
    go_enter Try.func43, Try.ntmps43
    go_wp2
    refine wp_loop_rounds 3 ?_
    rw [rounds_succ]
    go_wp2
    go_ret
    simp
def ops29_1 : Array Oper := #[{ dst := some 5, op := Op.fieldAddr 41 (Operand.tmp 2) 0, type := 0, pos := "edges.go:41", after := #[], guard := none },
  { dst := some 6, op := Op.load 3 (Operand.tmp 5), type := 3, pos := "edges.go:41", after := #[{ on := 0, ground := Ground.data }], guard := none },
  { dst := some 7, op := Op.fieldAddr 41 (Operand.tmp 3) 0, type := 0, pos := "edges.go:41", after := #[], guard := none },
  { dst := some 8, op := Op.load 3 (Operand.tmp 7), type := 3, pos := "edges.go:41", after := #[{ on := 2, ground := Ground.data }], guard := none },
  { dst := some 9, op := Op.call { callee := Callee.value (Operand.func 44), args := #[Operand.tmp 6, Operand.tmp 8], argTypes := #[3, 3] }, type := 3, pos := "edges.go:41", after := #[{ on := 1, ground := Ground.data }, { on := 3, ground := Ground.data }], guard := none },
  { dst := some 10, op := Op.fieldAddr 41 (Operand.tmp 2) 1, type := 0, pos := "edges.go:41", after := #[], guard := none },
  { dst := some 11, op := Op.load 3 (Operand.tmp 10), type := 3, pos := "edges.go:41", after := #[{ on := 5, ground := Ground.data }], guard := none },
  { dst := some 12, op := Op.fieldAddr 41 (Operand.tmp 3) 1, type := 0, pos := "edges.go:41", after := #[], guard := none },
  { dst := some 13, op := Op.load 3 (Operand.tmp 12), type := 3, pos := "edges.go:41", after := #[{ on := 7, ground := Ground.data }], guard := none },
  { dst := some 14, op := Op.call { callee := Callee.value (Operand.func 44), args := #[Operand.tmp 11, Operand.tmp 13], argTypes := #[3, 3] }, type := 3, pos := "edges.go:41", after := #[{ on := 6, ground := Ground.data }, { on := 8, ground := Ground.data }, { on := 4, ground := Ground.chain }], guard := none },
  { dst := some 15, op := Op.buildSlice 34 2 #[(0, Operand.tmp 9), (1, Operand.tmp 14)], type := 34, pos := "edges.go:41", after := #[{ on := 4, ground := Ground.data }, { on := 9, ground := Ground.data }], guard := none },
  { dst := some 16, op := Op.call { callee := Callee.value (Operand.func 43), args := #[Operand.tmp 15], argTypes := #[34] }, type := 3, pos := "edges.go:41", after := #[{ on := 10, ground := Ground.data }, { on := 9, ground := Ground.chain }], guard := none },
  { dst := some 4, op := Op.assign (Operand.tmp 16), type := 3, pos := "edges.go:41", after := #[{ on := 11, ground := Ground.data }, { on := 11, ground := Ground.chain }, { on := 0, ground := Ground.phase }, { on := 1, ground := Ground.phase }, { on := 2, ground := Ground.phase }, { on := 3, ground := Ground.phase }, { on := 4, ground := Ground.phase }, { on := 5, ground := Ground.phase }, { on := 6, ground := Ground.phase }, { on := 7, ground := Ground.phase }, { on := 8, ground := Ground.phase }, { on := 9, ground := Ground.phase }, { on := 10, ground := Ground.phase }, { on := 11, ground := Ground.phase }], guard := none }]
set_option maxHeartbeats 4000000 in
set_option maxRecDepth 100000 in
theorem reg29_1 (W : World) (p q : Nat) (a0 a1 b0 b1 : Int) (hS : (fun w' => w'.cell? ⟨p, 0, none⟩ = some (.int .i64 a0) ∧ w'.cell? ⟨p, 1, none⟩ = some (.int .i64 a1) ∧ w'.cell? ⟨q, 0, none⟩ = some (.int .i64 b0) ∧ w'.cell? ⟨q, 1, none⟩ = some (.int .i64 b1)) W)
    (Q : Exit → Act → World → Prop) (hPan : ∀ c (a : Act) w (d : Option Tmp) v, Q (.panic c) (a.put d v) w → Q (.panic c) a w) {u0 u1 u4 u5 u6 u7 u8 u9 u10 u11 u12 u13 u14 u15 u16 : Value}
    (hQ : Q .normal ⟨#[u0, u1, .pointer (some ⟨p, 0, none⟩), .pointer (some ⟨q, 0, none⟩), .int .i64 (orI (cmpI a0 b0) (cmpI a1 b1)), .pointer (some ⟨p, 0, none⟩), .int .i64 a0, .pointer (some ⟨q, 0, none⟩), .int .i64 b0, .int .i64 (cmpI a0 b0), .pointer (some ⟨p, 1, none⟩), .int .i64 a1, .pointer (some ⟨q, 1, none⟩), .int .i64 b1, .int .i64 (cmpI a1 b1), .slice (some ⟨W.heap.size, 0, none⟩) 2 2, .int .i64 (orI (cmpI a0 b0) (cmpI a1 b1))], []⟩ (W.drew.alloc (.cells #[.int .i64 (cmpI a0 b0), .int .i64 (cmpI a1 b1)] 3))) :
    Code.wp Try.prog (Code.region 1 ops29_1 true) Q ⟨#[u0, u1, .pointer (some ⟨p, 0, none⟩), .pointer (some ⟨q, 0, none⟩), u4, u5, u6, u7, u8, u9, u10, u11, u12, u13, u14, u15, u16], []⟩ W := by
  have k0 : Kp W W.drew := (Chg.refl _ _).drew
  have hz : W.drew.heap.size = W.heap.size := rfl
  rw [← hz] at hQ
  refine wp_region_held_drew (S := fun w' => w'.cell? ⟨p, 0, none⟩ = some (.int .i64 a0) ∧ w'.cell? ⟨p, 1, none⟩ = some (.int .i64 a1) ∧ w'.cell? ⟨q, 0, none⟩ = some (.int .i64 b0) ∧ w'.cell? ⟨q, 1, none⟩ = some (.int .i64 b1)) hmx ⟨k0.cell hS.1, k0.cell hS.2.1, k0.cell hS.2.2.1, k0.cell hS.2.2.2⟩ (fun HSX => ?_)
  clear k0 hz hS
  obtain ⟨W0, hW0⟩ : ∃ W0, W0 = W.drew := ⟨_, rfl⟩
  rw [← hW0] at HSX hQ ⊢
  clear hW0
  refine wpAnyH_take (i := 0) (oi := { dst := some 5, op := Op.fieldAddr 41 (Operand.tmp 2) 0, type := 0, pos := "edges.go:41", after := #[], guard := none }) (v := .pointer (some ⟨p, 0, none⟩)) rfl (by kernel_rfl) (by kernel_rfl) (by kernel_rfl) (fun _ _ _ h => hPan _ _ _ _ _ h) (Or.inl ⟨by rfl, ?_⟩) HSX ?_
  · intro wx d0
    obtain ⟨q0, q1, q2, q3⟩ := d0
    go_simp
  simp only [Act.put, List.setIfInBounds_toArray, List.set_cons_zero, List.set_cons_succ]
  refine wpAnyH_take (i := 1) (oi := { dst := some 6, op := Op.load 3 (Operand.tmp 5), type := 3, pos := "edges.go:41", after := #[{ on := 0, ground := Ground.data }], guard := none }) (v := .int .i64 a0) rfl (by kernel_rfl) (by kernel_rfl) (by kernel_rfl) (fun _ _ _ h => hPan _ _ _ _ _ h) (Or.inl ⟨by rfl, ?_⟩) HSX ?_
  · intro wx d0
    obtain ⟨q0, q1, q2, q3⟩ := d0
    go_simp
  simp only [Act.put, List.setIfInBounds_toArray, List.set_cons_zero, List.set_cons_succ]
  refine wpAnyH_take (i := 2) (oi := { dst := some 7, op := Op.fieldAddr 41 (Operand.tmp 3) 0, type := 0, pos := "edges.go:41", after := #[], guard := none }) (v := .pointer (some ⟨q, 0, none⟩)) rfl (by kernel_rfl) (by kernel_rfl) (by kernel_rfl) (fun _ _ _ h => hPan _ _ _ _ _ h) (Or.inl ⟨by rfl, ?_⟩) HSX ?_
  · intro wx d0
    obtain ⟨q0, q1, q2, q3⟩ := d0
    go_simp
  simp only [Act.put, List.setIfInBounds_toArray, List.set_cons_zero, List.set_cons_succ]
  refine wpAnyH_take (i := 3) (oi := { dst := some 8, op := Op.load 3 (Operand.tmp 7), type := 3, pos := "edges.go:41", after := #[{ on := 2, ground := Ground.data }], guard := none }) (v := .int .i64 b0) rfl (by kernel_rfl) (by kernel_rfl) (by kernel_rfl) (fun _ _ _ h => hPan _ _ _ _ _ h) (Or.inl ⟨by rfl, ?_⟩) HSX ?_
  · intro wx d0
    obtain ⟨q0, q1, q2, q3⟩ := d0
    go_simp
  simp only [Act.put, List.setIfInBounds_toArray, List.set_cons_zero, List.set_cons_succ]
  refine wpAnyH_take (i := 5) (oi := { dst := some 10, op := Op.fieldAddr 41 (Operand.tmp 2) 1, type := 0, pos := "edges.go:41", after := #[], guard := none }) (v := .pointer (some ⟨p, 1, none⟩)) rfl (by kernel_rfl) (by kernel_rfl) (by kernel_rfl) (fun _ _ _ h => hPan _ _ _ _ _ h) (Or.inl ⟨by rfl, ?_⟩) HSX ?_
  · intro wx d0
    obtain ⟨q0, q1, q2, q3⟩ := d0
    go_simp
  simp only [Act.put, List.setIfInBounds_toArray, List.set_cons_zero, List.set_cons_succ]
  refine wpAnyH_take (i := 6) (oi := { dst := some 11, op := Op.load 3 (Operand.tmp 10), type := 3, pos := "edges.go:41", after := #[{ on := 5, ground := Ground.data }], guard := none }) (v := .int .i64 a1) rfl (by kernel_rfl) (by kernel_rfl) (by kernel_rfl) (fun _ _ _ h => hPan _ _ _ _ _ h) (Or.inl ⟨by rfl, ?_⟩) HSX ?_
  · intro wx d0
    obtain ⟨q0, q1, q2, q3⟩ := d0
    go_simp
  simp only [Act.put, List.setIfInBounds_toArray, List.set_cons_zero, List.set_cons_succ]
  refine wpAnyH_take (i := 7) (oi := { dst := some 12, op := Op.fieldAddr 41 (Operand.tmp 3) 1, type := 0, pos := "edges.go:41", after := #[], guard := none }) (v := .pointer (some ⟨q, 1, none⟩)) rfl (by kernel_rfl) (by kernel_rfl) (by kernel_rfl) (fun _ _ _ h => hPan _ _ _ _ _ h) (Or.inl ⟨by rfl, ?_⟩) HSX ?_
  · intro wx d0
    obtain ⟨q0, q1, q2, q3⟩ := d0
    go_simp
  simp only [Act.put, List.setIfInBounds_toArray, List.set_cons_zero, List.set_cons_succ]
  refine wpAnyH_take (i := 8) (oi := { dst := some 13, op := Op.load 3 (Operand.tmp 12), type := 3, pos := "edges.go:41", after := #[{ on := 7, ground := Ground.data }], guard := none }) (v := .int .i64 b1) rfl (by kernel_rfl) (by kernel_rfl) (by kernel_rfl) (fun _ _ _ h => hPan _ _ _ _ _ h) (Or.inl ⟨by rfl, ?_⟩) HSX ?_
  · intro wx d0
    obtain ⟨q0, q1, q2, q3⟩ := d0
    go_simp
  simp only [Act.put, List.setIfInBounds_toArray, List.set_cons_zero, List.set_cons_succ]
  refine wpAnyH_ready (rs := [4]) (by kernel_rfl) (by simp) ?_
  refine AllReadyH.cons (o := { dst := some 9, op := Op.call { callee := Callee.value (Operand.func 44), args := #[Operand.tmp 6, Operand.tmp 8], argTypes := #[3, 3] }, type := 3, pos := "edges.go:41", after := #[{ on := 1, ground := Ground.data }, { on := 3, ground := Ground.data }], guard := none }) rfl (fun K hK => ?_) AllReadyH.nil
  rw [if_pos (by rfl)]
  go_simp
  go_at_call 44
  refine (cmp_any _ a0 b0).mono ?_
  rintro e W0 ⟨rfl, rfl⟩
  go_simp
  refine hK.out _ _ HSX (fun HSX => ?_)
  clear hK K
  refine wpAnyH_ready (rs := [9]) (by kernel_rfl) (by simp) ?_
  refine AllReadyH.cons (o := { dst := some 14, op := Op.call { callee := Callee.value (Operand.func 44), args := #[Operand.tmp 11, Operand.tmp 13], argTypes := #[3, 3] }, type := 3, pos := "edges.go:41", after := #[{ on := 6, ground := Ground.data }, { on := 8, ground := Ground.data }, { on := 4, ground := Ground.chain }], guard := none }) rfl (fun K hK => ?_) AllReadyH.nil
  rw [if_pos (by rfl)]
  go_simp
  go_at_call 44
  refine (cmp_any _ a1 b1).mono ?_
  rintro e W0 ⟨rfl, rfl⟩
  go_simp
  refine hK.out _ _ HSX (fun HSX => ?_)
  clear hK K
  refine wpAnyH_ready (rs := [10]) (by kernel_rfl) (by simp) ?_
  refine AllReadyH.cons (o := { dst := some 15, op := Op.buildSlice 34 2 #[(0, Operand.tmp 9), (1, Operand.tmp 14)], type := 34, pos := "edges.go:41", after := #[{ on := 4, ground := Ground.data }, { on := 9, ground := Ground.data }], guard := none }) rfl (fun K hK => ?_) AllReadyH.nil
  rw [if_pos (by rfl)]
  go_simp
  have k1 : Kp W0 (W0.alloc (.cells #[.int .i64 (cmpI a0 b0), .int .i64 (cmpI a1 b1)] 3)) := (Chg.refl _ _).alloc _
  have HS2 : (fun w' => w'.cell? ⟨p, 0, none⟩ = some (.int .i64 a0) ∧ w'.cell? ⟨p, 1, none⟩ = some (.int .i64 a1) ∧ w'.cell? ⟨q, 0, none⟩ = some (.int .i64 b0) ∧ w'.cell? ⟨q, 1, none⟩ = some (.int .i64 b1)) (W0.alloc (.cells #[.int .i64 (cmpI a0 b0), .int .i64 (cmpI a1 b1)] 3)) := ⟨k1.cell HSX.1, k1.cell HSX.2.1, k1.cell HSX.2.2.1, k1.cell HSX.2.2.2⟩
  refine hK.out _ _ HS2 (fun HSX => ?_)
  clear hK K
  have g1 := heap_alloc_new W0 (.cells #[.int .i64 (cmpI a0 b0), .int .i64 (cmpI a1 b1)] 3)
  have hOr := or_any _ _ (cmpI a0 b0) (cmpI a1 b1) (by rw [(cells_at g1 0).1]; rfl) (by rw [(cells_at g1 1).1]; rfl)
  refine wpAnyH_ready (rs := [11]) (by kernel_rfl) (by simp) ?_
  refine AllReadyH.cons (o := { dst := some 16, op := Op.call { callee := Callee.value (Operand.func 43), args := #[Operand.tmp 15], argTypes := #[34] }, type := 3, pos := "edges.go:41", after := #[{ on := 10, ground := Ground.data }, { on := 9, ground := Ground.chain }], guard := none }) rfl (fun K hK => ?_) AllReadyH.nil
  rw [if_pos (by rfl)]
  go_simp
  go_at_call 43
  refine hOr.mono ?_
  rintro e w2 ⟨rfl, rfl⟩
  go_simp
  refine hK.out _ _ HSX (fun HSX => ?_)
  clear hK K
  refine wpAnyH_take (i := 12) (oi := { dst := some 4, op := Op.assign (Operand.tmp 16), type := 3, pos := "edges.go:41", after := #[{ on := 11, ground := Ground.data }, { on := 11, ground := Ground.chain }, { on := 0, ground := Ground.phase }, { on := 1, ground := Ground.phase }, { on := 2, ground := Ground.phase }, { on := 3, ground := Ground.phase }, { on := 4, ground := Ground.phase }, { on := 5, ground := Ground.phase }, { on := 6, ground := Ground.phase }, { on := 7, ground := Ground.phase }, { on := 8, ground := Ground.phase }, { on := 9, ground := Ground.phase }, { on := 10, ground := Ground.phase }, { on := 11, ground := Ground.phase }], guard := none }) (v := .int .i64 (orI (cmpI a0 b0) (cmpI a1 b1))) rfl (by kernel_rfl) (by kernel_rfl) (by kernel_rfl) (fun _ _ _ h => hPan _ _ _ _ _ h) (Or.inl ⟨by rfl, ?_⟩) HSX ?_
  · intro wx d0
    obtain ⟨q0, q1, q2, q3⟩ := d0
    go_simp
  simp only [Act.put, List.setIfInBounds_toArray, List.set_cons_zero, List.set_cons_succ]
  refine wpAnyH_done (by kernel_rfl) ?_ _
  exact hQ
set_option maxHeartbeats 1000000 in
set_option maxRecDepth 10000 in
theorem byEnds_any (W : World) (a0 a1 b0 b1 : Int) : Calls Try.prog 29 #[.agg #[.int .i64 a0, .int .i64 a1], .agg #[.int .i64 b0, .int .i64 b1]] W fun e w' => e = .returned (.int .i64 (orI (cmpI a0 b0) (cmpI a1 b1))) ∧ ∃ q os', w' = Go.Sort.grow (W.drewN q) os' := by
  obtain ⟨w1, hw1⟩ : ∃ w1, w1 = (W.alloc (.cells #[.int .i64 a0, .int .i64 a1] 41)).alloc (.cells #[.int .i64 b0, .int .i64 b1] 41) := ⟨_, rfl⟩
  have g1 : w1.heap[W.heap.size]? = some (.cells #[.int .i64 a0, .int .i64 a1] 41 (0, 0)) := by rw [hw1]; exact al_old _ (heap_alloc_new W _)
  have g2 : w1.heap[W.heap.size + 1]? = some (.cells #[.int .i64 b0, .int .i64 b1] 41 (0, 0)) := by rw [hw1]; have := heap_alloc_new (W.alloc (.cells #[.int .i64 a0, .int .i64 a1] 41)) (.cells #[.int .i64 b0, .int .i64 b1] 41); simpa using this
  have RG := fun Q hPan => @reg29_1 w1 W.heap.size (W.heap.size + 1) a0 a1 b0 b1 ⟨by rw [(cells_at g1 0).1]; rfl, by rw [(cells_at g1 1).1]; rfl, by rw [(cells_at g2 0).1]; rfl, by rw [(cells_at g2 1).1]; rfl⟩ Q hPan
  rw [hw1] at RG
  have HE : Hid ((((W.alloc (.cells #[.int .i64 a0, .int .i64 a1] 41)).alloc (.cells #[.int .i64 b0, .int .i64 b1] 41)).drew.alloc (.cells #[.int .i64 (cmpI a0 b0), .int .i64 (cmpI a1 b1)] 3)) = Go.Sort.grow (W.drewN 1) #[.cells #[.int .i64 a0, .int .i64 a1] 41, .cells #[.int .i64 b0, .int .i64 b1] 41, .cells #[.int .i64 (cmpI a0 b0), .int .i64 (cmpI a1 b1)] 3]) := by
    rw [Hid]
    rfl
  clear g1 g2 hw1
  generalize orI (cmpI a0 b0) (cmpI a1 b1) = r at *
  go_enter Try.func29, Try.ntmps29
  go_upto_region 1 with fail
  refine RG _ (fun _ _ _ q _ h => by cases q <;> exact h) ?_
  clear RG
  go_wp2_with fail
  go_ret
  exact ⟨rfl, 1, _, HE.out⟩
end Go.Proofs.Ythgpcmickgcdhaa
