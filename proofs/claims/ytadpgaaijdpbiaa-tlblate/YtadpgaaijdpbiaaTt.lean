import Derived.Test.YtadpgaaijdpbiaaWk
namespace Go.Proofs.Ytadpgaaijdpbiaa
open Go.ChangeShapes Go.WideShapes Go.ChangeAt Go.RowKit Go.Shelf
set_option linter.unusedVariables false

/-- A use's tag. -/
def uTag (u : Int × Int × Int) : Tg := (1 + ((pk u.1 4 : Nat) : Int), pk u.2.1 200)
theorem uTag_ok (u : Int × Int × Int) : TOk (uTag u) := by
  have h1 := pk_lt u.1 4 (by omega)
  have h2 := pk_lt u.2.1 200 (by omega)
  unfold TOk uTag
  refine ⟨?_, ?_, ?_⟩ <;> simp <;> omega
def uV (u : Int × Int × Int) : Value := .agg #[.int .i64 u.1, .int .i64 u.2.1, .int .i64 u.2.2]
def UOk (u : Int × Int × Int) : Prop := InI u.1 ∧ InI u.2.1 ∧ InI u.2.2
def Su (b : Nat) (u : Int × Int × Int) (wx : World) : Prop := wx.cell? ⟨b, 0, none⟩ = some (.int .i64 u.1) ∧ wx.cell? ⟨b, 1, none⟩ = some (.int .i64 u.2.1)

set_option maxHeartbeats 4000000 in
set_option maxRecDepth 100000 in
theorem tag_any (w : World) (u : Int × Int × Int) (hu : UOk u) : Calls Try.prog 15 #[uV u] w fun e w' => e = .returned (tV (uTag u)) ∧ Kp w w' := by
  obtain ⟨W1, hW1⟩ : ∃ W, W = (w.alloc (.cells #[.int .i64 u.1, .int .i64 u.2.1, .int .i64 u.2.2] 44)).alloc (.cells #[.int .i64 0, .int .u32 0] 31) := ⟨_, rfl⟩
  obtain ⟨b1, hb1⟩ : ∃ b, b = w.heap.size := ⟨_, rfl⟩
  obtain ⟨b2, hb2⟩ : ∃ b, b = w.heap.size + 1 := ⟨_, rfl⟩
  have hk1 : Kp w W1 := by rw [hW1]; exact ((Chg.refl w _).alloc _).alloc _
  have hx1 : W1.heap[b1]? = some (.cells #[.int .i64 u.1, .int .i64 u.2.1, .int .i64 u.2.2] 44 (0, 0)) := by rw [hW1, hb1]; exact al_old _ (heap_alloc_new w _)
  have hx2 : W1.drew.heap[b2]? = some (.cells #[.int .i64 0, .int .u32 0] 31 (0, 0)) := by
    have := heap_alloc_new (w.alloc (.cells #[.int .i64 u.1, .int .i64 u.2.1, .int .i64 u.2.2] 44)) (.cells #[.int .i64 0, .int .u32 0] 31)
    rw [hW1, hb2]; rw [al_size] at this; exact this
  have P1 : ∀ w, Calls Try.prog 10 #[.int .i64 u.1, .int .i64 4] w fun e w' => e = .returned (.int .i64 (pk u.1 4 : Nat)) ∧ w' = w := fun w => pick_any w u.1 4 (by omega) (by omega) hu.1
  have P2 : ∀ w, Calls Try.prog 10 #[.int .i64 u.2.1, .int .i64 200] w fun e w' => e = .returned (.int .i64 (pk u.2.1 200 : Nat)) ∧ w' = w := fun w => pick_any w u.2.1 200 (by omega) (by omega) hu.2.1
  have l1 := pk_lt u.1 4 (by omega)
  have l2 := pk_lt u.2.1 200 (by omega)
  have e0 : uTag u = (1 + ((pk u.1 4 : Nat) : Int), pk u.2.1 200) := rfl
  rw [e0]
  obtain ⟨r, hr⟩ : ∃ r, r = pk u.1 4 := ⟨_, rfl⟩
  obtain ⟨q, hq⟩ : ∃ q, q = pk u.2.1 200 := ⟨_, rfl⟩
  rw [← hr] at P1 l1 ⊢
  rw [← hq] at P2 l2 ⊢
  have hS1 : Su b1 u W1.drew := ⟨(cells3 hx1).1, (cells3 hx1).2.1⟩
  obtain ⟨r0, r1, r2, r3⟩ := cells2 (show W1.heap[b2]? = _ from hx2)
  obtain ⟨q1, q2, q3⟩ := box2 hx2 (.int .i64 (1 + (r : Int))) (.int .u32 ((q : Nat) : Int)) rfl
  obtain ⟨r4, r5, _, _⟩ := cells2 q1
  have r6 : ((W1.setCell ⟨b2, 0, none⟩ (.int .i64 (1 + (r : Int)))).setCell ⟨b2, 1, none⟩ (.int .u32 ((q : Nat) : Int))).cell? ⟨b2, 0, none⟩ = some (.int .i64 (1 + (r : Int))) := r4
  have r7 : ((W1.setCell ⟨b2, 0, none⟩ (.int .i64 (1 + (r : Int)))).setCell ⟨b2, 1, none⟩ (.int .u32 ((q : Nat) : Int))).cell? ⟨b2, 1, none⟩ = some (.int .u32 ((q : Nat) : Int)) := r5
  have hx1' := Chg.heap q3 (show W1.drew.heap[b1]? = _ from hx1) (by omega)
  have hS2 : Su b1 u ((W1.drew.setCell ⟨b2, 0, none⟩ (.int .i64 (1 + (r : Int)))).setCell ⟨b2, 1, none⟩ (.int .u32 ((q : Nat) : Int))) := ⟨(cells3 hx1').1, (cells3 hx1').2.1⟩
  have KF : Hid (Kp w ((W1.drew.setCell ⟨b2, 0, none⟩ (.int .i64 (1 + (r : Int)))).setCell ⟨b2, 1, none⟩ (.int .u32 ((q : Nat) : Int)))) := Chg.trans (Chg.drew hk1) q3 (fun i hi e => by omega)
  have w1 : IntKind.i64.wrap (1 + (r : Int)) = 1 + (r : Int) := by simp [IntKind.wrap, IntKind.bits, IntKind.signed]; omega
  have w2 : IntKind.u32.wrap (q : Int) = (q : Int) := by simp [IntKind.wrap, IntKind.bits, IntKind.signed]; omega
  clear hk1 hx1 hx2 hx1' q1 q2 q3 hr hq e0 hu
  unfold uV tV
  go_enter Try.func15, Try.ntmps15
  go_wp2_with fail
  rw [← hW1, ← hb2, ← hb1]
  clear hW1 hb1 hb2
  refine wp_region_held_drew (S := Su b1 u) hmx hS1 (fun hS => ?_)
  refine wpAnyH_take (i := 0) (oi := { dst := some 3, op := Op.fieldAddr 44 (Operand.tmp 1) 0, type := 0, pos := "law.go:292", after := #[], guard := none }) (v := .pointer (some ⟨b1, 0, none⟩)) rfl (by kernel_rfl) (by kernel_rfl) (by kernel_rfl) (fun _ _ _ h => h) (Or.inl ⟨by rfl, ?_⟩) hS ?_
  · rintro wx ⟨d0, d1⟩
    go_simp
  simp only [Act.put, List.setIfInBounds_toArray, List.set_cons_zero, List.set_cons_succ]
  refine wpAnyH_take (i := 1) (oi := { dst := some 4, op := Op.load 3 (Operand.tmp 3), type := 3, pos := "law.go:292", after := #[{ on := 0, ground := Ground.data }], guard := none }) (v := .int .i64 u.1) rfl (by kernel_rfl) (by kernel_rfl) (by kernel_rfl) (fun _ _ _ h => h) (Or.inl ⟨by rfl, ?_⟩) hS ?_
  · rintro wx ⟨d0, d1⟩
    go_simp
  simp only [Act.put, List.setIfInBounds_toArray, List.set_cons_zero, List.set_cons_succ]
  refine wpAnyH_take (i := 4) (oi := { dst := some 7, op := Op.fieldAddr 44 (Operand.tmp 1) 1, type := 0, pos := "law.go:292", after := #[], guard := none }) (v := .pointer (some ⟨b1, 1, none⟩)) rfl (by kernel_rfl) (by kernel_rfl) (by kernel_rfl) (fun _ _ _ h => h) (Or.inl ⟨by rfl, ?_⟩) hS ?_
  · rintro wx ⟨d0, d1⟩
    go_simp
  simp only [Act.put, List.setIfInBounds_toArray, List.set_cons_zero, List.set_cons_succ]
  refine wpAnyH_take (i := 5) (oi := { dst := some 8, op := Op.load 3 (Operand.tmp 7), type := 3, pos := "law.go:292", after := #[{ on := 4, ground := Ground.data }], guard := none }) (v := .int .i64 u.2.1) rfl (by kernel_rfl) (by kernel_rfl) (by kernel_rfl) (fun _ _ _ h => h) (Or.inl ⟨by rfl, ?_⟩) hS ?_
  · rintro wx ⟨d0, d1⟩
    go_simp
  simp only [Act.put, List.setIfInBounds_toArray, List.set_cons_zero, List.set_cons_succ]
  refine wpAnyH_ready (rs := [2]) (by kernel_rfl) (by simp) ?_
  refine AllReadyH.cons (o := { dst := some 5, op := Op.call { callee := Callee.value (Operand.func 10), args := #[Operand.tmp 4, Operand.const (Value.int IntKind.i64 4)], argTypes := #[3, 3] }, type := 3, pos := "law.go:292", after := #[{ on := 1, ground := Ground.data }], guard := none }) rfl (fun K hK => ?_) AllReadyH.nil
  rw [if_pos (by rfl)]
  go_simp
  refine (P1 _).mono ?_
  rintro e w' ⟨rfl, rfl⟩
  refine hK.out _ _ hS1 (fun hS3 => ?_)
  clear hK K
  refine wpAnyH_take (i := 3) (oi := { dst := some 6, op := Op.binOp BinOp.add 3 (Operand.const (Value.int IntKind.i64 1)) (Operand.tmp 5) 3, type := 3, pos := "law.go:292", after := #[{ on := 2, ground := Ground.data }], guard := none }) (v := .int .i64 (1 + (r : Int))) rfl (by kernel_rfl) (by kernel_rfl) (by kernel_rfl) (fun _ _ _ h => h) (Or.inl ⟨by rfl, ?_⟩) hS3 ?_
  · rintro wx ⟨d0, d1⟩
    go_simp
  simp only [Act.put, List.setIfInBounds_toArray, List.set_cons_zero, List.set_cons_succ]
  refine wpAnyH_ready (rs := [6]) (by kernel_rfl) (by simp) ?_
  refine AllReadyH.cons (o := { dst := some 9, op := Op.call { callee := Callee.value (Operand.func 10), args := #[Operand.tmp 8, Operand.const (Value.int IntKind.i64 200)], argTypes := #[3, 3] }, type := 3, pos := "law.go:292", after := #[{ on := 5, ground := Ground.data }, { on := 2, ground := Ground.chain }], guard := none }) rfl (fun K hK => ?_) AllReadyH.nil
  rw [if_pos (by rfl)]
  go_simp
  refine (P2 _).mono ?_
  rintro e w' ⟨rfl, rfl⟩
  refine hK.out _ _ hS1 (fun hS4 => ?_)
  clear hK K
  refine wpAnyH_take (i := 7) (oi := { dst := some 10, op := Op.convert 3 22 (Operand.tmp 9), type := 22, pos := "law.go:292", after := #[{ on := 6, ground := Ground.data }], guard := none }) (v := .int .u32 ((q : Nat) : Int)) rfl (by kernel_rfl) (by kernel_rfl) (by kernel_rfl) (fun _ _ _ h => h) (Or.inl ⟨by rfl, ?_⟩) hS4 ?_
  · rintro wx ⟨d0, d1⟩
    go_simp
  simp only [Act.put, List.setIfInBounds_toArray, List.set_cons_zero, List.set_cons_succ]
  refine wpAnyH_take (i := 8) (oi := { dst := some 11, op := Op.build 31 #[(0, Operand.tmp 6), (1, Operand.tmp 10)], type := 31, pos := "law.go:292", after := #[{ on := 3, ground := Ground.data }, { on := 7, ground := Ground.data }], guard := none }) (v := .agg #[.int .i64 (1 + (r : Int)), .int .u32 ((q : Nat) : Int)]) rfl (by kernel_rfl) (by kernel_rfl) (by kernel_rfl) (fun _ _ _ h => h) (Or.inl ⟨by rfl, ?_⟩) hS4 ?_
  · rintro wx ⟨d0, d1⟩
    go_simp
  simp only [Act.put, List.setIfInBounds_toArray, List.set_cons_zero, List.set_cons_succ]
  refine wpAnyH_ready (rs := [9]) (by kernel_rfl) (by simp) ?_
  refine AllReadyH.cons (o := { dst := none, op := Op.store 31 (Operand.tmp 2) (Operand.tmp 11), type := 0, pos := "law.go:292", after := #[{ on := 8, ground := Ground.data }, { on := 6, ground := Ground.chain }, { on := 0, ground := Ground.phase }, { on := 1, ground := Ground.phase }, { on := 2, ground := Ground.phase }, { on := 3, ground := Ground.phase }, { on := 4, ground := Ground.phase }, { on := 5, ground := Ground.phase }, { on := 6, ground := Ground.phase }, { on := 7, ground := Ground.phase }, { on := 8, ground := Ground.phase }], guard := none }) rfl (fun K hK => ?_) AllReadyH.nil
  rw [if_pos (by rfl)]
  go_simp
  refine hK.out _ _ hS2 (fun hS5 => ?_)
  clear hK K
  refine wpAnyH_done (by kernel_rfl) ?_ _
  go_wp2
  refine bodyPost_ret (v := .agg #[.int .i64 (1 + (r : Int)), .int .u32 ((q : Nat) : Int)]) (by simp [results, Try.results15, go_sem, r6, r7]) rfl ⟨rfl, KF.out⟩
end Go.Proofs.Ytadpgaaijdpbiaa
