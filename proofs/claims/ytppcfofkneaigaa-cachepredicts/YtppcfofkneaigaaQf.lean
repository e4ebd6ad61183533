import Derived.Test.YtppcfofkneaigaaQe
import Derived.Deep.RegionHeld3
import Derived.Deep.MidRow
namespace Go.Proofs.Ytppcfofkneaigaa
open Go.ChangeShapes Go.WideShapes Go.ChangeAt Go.RowKit
set_option linter.unusedVariables false
/-- A region that ends as it should. -/
def okEnd (Q : Exit → Act → World → Prop) : Exit → Act → World → Prop
  | .normal, a, w => Q .normal a w
  | _, _, _ => False
theorem wp_ok {P : Program} {c : Code} {Q : Exit → Act → World → Prop} {a : Act} {w : World} (h : c.wp P (okEnd Q) a w) : c.wp P Q a w :=
  wp_mono h (fun e a w h => by cases e <;> first | exact h | exact h.elim)
theorem okEnd_out {Q : Exit → Act → World → Prop} : ¬ LetsOut (okEnd Q) := fun ⟨_, _, h⟩ => h
end Go.Proofs.Ytppcfofkneaigaa
namespace Go.Proofs.Ytppcfofkneaigaa
open Go.ChangeShapes Go.WideShapes Go.ChangeAt Go.RowKit
set_option linter.unusedVariables false
/-- An append as one step of a region. -/
theorem step_app {P : Program} {ops : Array Oper} {o : Oper} {a : Act} {w : World} {K : Act → World → Prop} {Q : Exit → Act → World → Prop} {E : Prop}
    (hgd : o.guard = none) (s x : Operand) (t u : TypeId) (ho : o.op = .call { callee := .builtin .append, args := #[s, x], argTypes := #[t, u] }) (v y v' : Value) (w' : World)
    (hs : a.eval s = v) (hx : a.eval x = y) (hrun : (Builtin.append_ #[t, u] o.type #[v, y]).run P w = .ok v' w') (hK : K (a.put o.dst v') w') :
    if Region.wanted o (yielded ops a.tmps) = true then Oper.wp P o a w K Q else E := by
  rw [if_pos (by simp [Region.wanted, hgd])]
  unfold Oper.wp
  simp [execOp, ho, resolve, invoke, builtin, hs, hx, hrun, Result.andThen]
  exact hK

theorem hmx : Try.prog.follows .mixedOrders = true := by kernel_rfl
def ops22_8 : Array Oper := #[{ dst := some 19, op := Op.move (Operand.tmp 7), type := 39, pos := "ref.go:195", after := #[], guard := none },
  { dst := some 20, op := Op.move (Operand.tmp 6), type := 90, pos := "ref.go:195", after := #[], guard := none },
  { dst := some 21, op := Op.nilCheck (Operand.tmp 20), type := 0, pos := "ref.go:195", after := #[{ on := 1, ground := Ground.data }], guard := none },
  { dst := some 22, op := Op.fieldAddr 95 (Operand.tmp 21) 0, type := 0, pos := "ref.go:195", after := #[{ on := 2, ground := Ground.data }], guard := none },
  { dst := some 23, op := Op.load 23 (Operand.tmp 22), type := 23, pos := "ref.go:195", after := #[{ on := 3, ground := Ground.data }], guard := none },
  { dst := some 24, op := Op.move (Operand.tmp 1), type := 24, pos := "ref.go:195", after := #[], guard := none },
  { dst := some 25, op := Op.move (Operand.tmp 8), type := 3, pos := "ref.go:195", after := #[], guard := none },
  { dst := some 26, op := Op.binOp BinOp.add 3 (Operand.tmp 25) (Operand.const (Value.int IntKind.i64 1)) 3, type := 3, pos := "ref.go:195", after := #[{ on := 6, ground := Ground.data }], guard := none },
  { dst := some 27, op := Op.slice 24 (Operand.tmp 24) none (some (Operand.tmp 26)) none, type := 24, pos := "ref.go:195", after := #[{ on := 5, ground := Ground.data }, { on := 7, ground := Ground.data }], guard := none },
  { dst := some 28, op := Op.call { callee := Callee.value (Operand.func 36), args := #[Operand.tmp 23, Operand.tmp 27], argTypes := #[23, 24] }, type := 33, pos := "ref.go:195", after := #[{ on := 4, ground := Ground.data }, { on := 8, ground := Ground.data }], guard := none },
  { dst := some 29, op := Op.buildSlice 39 1 #[(0, Operand.tmp 28)], type := 39, pos := "ref.go:195", after := #[{ on := 9, ground := Ground.data }], guard := none },
  { dst := some 30, op := Op.call { callee := Callee.builtin Builtin.append, args := #[Operand.tmp 19, Operand.tmp 29], argTypes := #[39, 39] }, type := 39, pos := "ref.go:195", after := #[{ on := 0, ground := Ground.data }, { on := 10, ground := Ground.data }, { on := 9, ground := Ground.chain }], guard := none },
  { dst := some 7, op := Op.assign (Operand.tmp 30), type := 39, pos := "ref.go:195", after := #[{ on := 11, ground := Ground.data }, { on := 11, ground := Ground.chain }, { on := 0, ground := Ground.phase }, { on := 1, ground := Ground.phase }, { on := 2, ground := Ground.phase }, { on := 3, ground := Ground.phase }, { on := 4, ground := Ground.phase }, { on := 5, ground := Ground.phase }, { on := 6, ground := Ground.phase }, { on := 7, ground := Ground.phase }, { on := 8, ground := Ground.phase }, { on := 9, ground := Ground.phase }, { on := 10, ground := Ground.phase }, { on := 11, ground := Ground.phase }], guard := none }]
set_option maxHeartbeats 8000000 in
set_option maxRecDepth 100000 in
theorem reg22_8 (W : World) (B sets ways line j len cap b off : Nat) (lv : Value) (hit back : Bool) (hj : j < 1048576) (hcap : (j : Int) + 1 ≤ (cap : Int)) (PO : World → Prop) (PZ : Value → World → Prop) (hS : (fun w' => w'.cell? ⟨B, 0, none⟩ = some (.int .i64 ((sets : Nat) : Int)) ∧ w'.cell? ⟨B, 1, none⟩ = some (.int .i64 ((ways : Nat) : Int)) ∧ w'.cell? ⟨B, 2, none⟩ = some (.int .i64 ((line : Nat) : Int))) W.drew)
    (hcall : Calls Try.prog 36 #[.agg #[.int .i64 ((sets : Nat) : Int), .int .i64 ((ways : Nat) : Int), .int .i64 ((line : Nat) : Int)], .slice (some ⟨b, off, none⟩) (j + 1) cap] W.drew fun e w1 => e = .returned (.agg #[.bool hit, .bool back, .int .i64 (cyc hit back)]) ∧ (fun w' => w'.cell? ⟨B, 0, none⟩ = some (.int .i64 ((sets : Nat) : Int)) ∧ w'.cell? ⟨B, 1, none⟩ = some (.int .i64 ((ways : Nat) : Int)) ∧ w'.cell? ⟨B, 2, none⟩ = some (.int .i64 ((line : Nat) : Int))) w1 ∧ PO w1)
    (hfin : ∀ wa, PO wa → ∃ v' w', (Builtin.append_ #[39, 39] 39 #[lv, .slice (some ⟨wa.heap.size, 0, none⟩) 1 1]).run Try.prog (wa.alloc (.cells #[.bool hit, .bool back, .int .i64 (cyc hit back)] 33)) = .ok v' w' ∧ (fun w' => w'.cell? ⟨B, 0, none⟩ = some (.int .i64 ((sets : Nat) : Int)) ∧ w'.cell? ⟨B, 1, none⟩ = some (.int .i64 ((ways : Nat) : Int)) ∧ w'.cell? ⟨B, 2, none⟩ = some (.int .i64 ((line : Nat) : Int))) (wa.alloc (.cells #[.bool hit, .bool back, .int .i64 (cyc hit back)] 33)) ∧ (fun w' => w'.cell? ⟨B, 0, none⟩ = some (.int .i64 ((sets : Nat) : Int)) ∧ w'.cell? ⟨B, 1, none⟩ = some (.int .i64 ((ways : Nat) : Int)) ∧ w'.cell? ⟨B, 2, none⟩ = some (.int .i64 ((line : Nat) : Int))) w' ∧ PZ v' w')
    (Q : Exit → Act → World → Prop) (hPan : ∀ c (a : Act) w (d : Option Tmp) v, Q (.panic c) (a.put d v) w → Q (.panic c) a w) {u0 u2 u3 u4 u5 u9 u10 u11 u12 u13 u14 u15 u16 u17 u18 u19 u20 u21 u22 u23 u24 u25 u26 u27 u28 u29 u30 u31 : Value}
    (hQ : ∀ z v' w1, PZ v' w1 → Q .normal ⟨#[u0, .slice (some ⟨b, off, none⟩) len cap, u2, u3, u4, u5, .pointer (some ⟨B, 0, none⟩), v', .int .i64 ((j : Nat) : Int), u9, u10, u11, u12, u13, u14, u15, u16, u17, u18, lv, .pointer (some ⟨B, 0, none⟩), .pointer (some ⟨B, 0, none⟩), .pointer (some ⟨B, 0, none⟩), .agg #[.int .i64 ((sets : Nat) : Int), .int .i64 ((ways : Nat) : Int), .int .i64 ((line : Nat) : Int)], .slice (some ⟨b, off, none⟩) len cap, .int .i64 ((j : Nat) : Int), .int .i64 (((j : Nat) : Int) + 1), .slice (some ⟨b, off, none⟩) (j + 1) cap, .agg #[.bool hit, .bool back, .int .i64 (cyc hit back)], .slice (some ⟨z, 0, none⟩) 1 1, v', u31], []⟩ w1) :
    Code.wp Try.prog (Code.region 8 ops22_8 true) Q ⟨#[u0, .slice (some ⟨b, off, none⟩) len cap, u2, u3, u4, u5, .pointer (some ⟨B, 0, none⟩), lv, .int .i64 ((j : Nat) : Int), u9, u10, u11, u12, u13, u14, u15, u16, u17, u18, u19, u20, u21, u22, u23, u24, u25, u26, u27, u28, u29, u30, u31], []⟩ W := by
  refine wp_region_held_drew (S := fun w' => w'.cell? ⟨B, 0, none⟩ = some (.int .i64 ((sets : Nat) : Int)) ∧ w'.cell? ⟨B, 1, none⟩ = some (.int .i64 ((ways : Nat) : Int)) ∧ w'.cell? ⟨B, 2, none⟩ = some (.int .i64 ((line : Nat) : Int))) hmx hS (fun HSX => ?_)
  clear hS
  obtain ⟨W0, hW0⟩ : ∃ W0, W0 = W.drew := ⟨_, rfl⟩
  rw [← hW0] at HSX hcall ⊢
  clear hW0
  refine wpAnyH_take (i := 0) (oi := { dst := some 19, op := Op.move (Operand.tmp 7), type := 39, pos := "ref.go:195", after := #[], guard := none }) (v := lv) rfl (by kernel_rfl) (by kernel_rfl) (by kernel_rfl) (fun _ _ _ h => hPan _ _ _ _ _ h) (Or.inl ⟨by rfl, ?_⟩) HSX ?_
  · intro wx d0
    obtain ⟨s1, s2, s3⟩ := d0
    go_simp
  simp only [Act.put, List.setIfInBounds_toArray, List.set_cons_zero, List.set_cons_succ]
  refine wpAnyH_take (i := 1) (oi := { dst := some 20, op := Op.move (Operand.tmp 6), type := 90, pos := "ref.go:195", after := #[], guard := none }) (v := .pointer (some ⟨B, 0, none⟩)) rfl (by kernel_rfl) (by kernel_rfl) (by kernel_rfl) (fun _ _ _ h => hPan _ _ _ _ _ h) (Or.inl ⟨by rfl, ?_⟩) HSX ?_
  · intro wx d0
    obtain ⟨s1, s2, s3⟩ := d0
    go_simp
  simp only [Act.put, List.setIfInBounds_toArray, List.set_cons_zero, List.set_cons_succ]
  refine wpAnyH_take (i := 2) (oi := { dst := some 21, op := Op.nilCheck (Operand.tmp 20), type := 0, pos := "ref.go:195", after := #[{ on := 1, ground := Ground.data }], guard := none }) (v := .pointer (some ⟨B, 0, none⟩)) rfl (by kernel_rfl) (by kernel_rfl) (by kernel_rfl) (fun _ _ _ h => hPan _ _ _ _ _ h) (Or.inl ⟨by rfl, ?_⟩) HSX ?_
  · intro wx d0
    obtain ⟨s1, s2, s3⟩ := d0
    go_simp
  simp only [Act.put, List.setIfInBounds_toArray, List.set_cons_zero, List.set_cons_succ]
  refine wpAnyH_take (i := 3) (oi := { dst := some 22, op := Op.fieldAddr 95 (Operand.tmp 21) 0, type := 0, pos := "ref.go:195", after := #[{ on := 2, ground := Ground.data }], guard := none }) (v := .pointer (some ⟨B, 0, none⟩)) rfl (by kernel_rfl) (by kernel_rfl) (by kernel_rfl) (fun _ _ _ h => hPan _ _ _ _ _ h) (Or.inl ⟨by rfl, ?_⟩) HSX ?_
  · intro wx d0
    obtain ⟨s1, s2, s3⟩ := d0
    go_simp
  simp only [Act.put, List.setIfInBounds_toArray, List.set_cons_zero, List.set_cons_succ]
  refine wpAnyH_take (i := 4) (oi := { dst := some 23, op := Op.load 23 (Operand.tmp 22), type := 23, pos := "ref.go:195", after := #[{ on := 3, ground := Ground.data }], guard := none }) (v := .agg #[.int .i64 ((sets : Nat) : Int), .int .i64 ((ways : Nat) : Int), .int .i64 ((line : Nat) : Int)]) rfl (by kernel_rfl) (by kernel_rfl) (by kernel_rfl) (fun _ _ _ h => hPan _ _ _ _ _ h) (Or.inl ⟨by rfl, ?_⟩) HSX ?_
  · intro wx d0
    obtain ⟨s1, s2, s3⟩ := d0
    go_simp
  simp only [Act.put, List.setIfInBounds_toArray, List.set_cons_zero, List.set_cons_succ]
  refine wpAnyH_take (i := 5) (oi := { dst := some 24, op := Op.move (Operand.tmp 1), type := 24, pos := "ref.go:195", after := #[], guard := none }) (v := .slice (some ⟨b, off, none⟩) len cap) rfl (by kernel_rfl) (by kernel_rfl) (by kernel_rfl) (fun _ _ _ h => hPan _ _ _ _ _ h) (Or.inl ⟨by rfl, ?_⟩) HSX ?_
  · intro wx d0
    obtain ⟨s1, s2, s3⟩ := d0
    go_simp
  simp only [Act.put, List.setIfInBounds_toArray, List.set_cons_zero, List.set_cons_succ]
  refine wpAnyH_take (i := 6) (oi := { dst := some 25, op := Op.move (Operand.tmp 8), type := 3, pos := "ref.go:195", after := #[], guard := none }) (v := .int .i64 ((j : Nat) : Int)) rfl (by kernel_rfl) (by kernel_rfl) (by kernel_rfl) (fun _ _ _ h => hPan _ _ _ _ _ h) (Or.inl ⟨by rfl, ?_⟩) HSX ?_
  · intro wx d0
    obtain ⟨s1, s2, s3⟩ := d0
    go_simp
  simp only [Act.put, List.setIfInBounds_toArray, List.set_cons_zero, List.set_cons_succ]
  refine wpAnyH_take (i := 7) (oi := { dst := some 26, op := Op.binOp BinOp.add 3 (Operand.tmp 25) (Operand.const (Value.int IntKind.i64 1)) 3, type := 3, pos := "ref.go:195", after := #[{ on := 6, ground := Ground.data }], guard := none }) (v := .int .i64 (((j : Nat) : Int) + 1)) rfl (by kernel_rfl) (by kernel_rfl) (by kernel_rfl) (fun _ _ _ h => hPan _ _ _ _ _ h) (Or.inl ⟨by rfl, ?_⟩) HSX ?_
  · intro wx d0
    obtain ⟨s1, s2, s3⟩ := d0
    go_simp
    simp [IntKind.wrap, IntKind.bits, IntKind.signed]; omega
  simp only [Act.put, List.setIfInBounds_toArray, List.set_cons_zero, List.set_cons_succ]
  refine wpAnyH_take (i := 8) (oi := { dst := some 27, op := Op.slice 24 (Operand.tmp 24) none (some (Operand.tmp 26)) none, type := 24, pos := "ref.go:195", after := #[{ on := 5, ground := Ground.data }, { on := 7, ground := Ground.data }], guard := none }) (v := .slice (some ⟨b, off, none⟩) (j + 1) cap) rfl (by kernel_rfl) (by kernel_rfl) (by kernel_rfl) (fun _ _ _ h => hPan _ _ _ _ _ h) (Or.inl ⟨by rfl, ?_⟩) HSX ?_
  · intro wx d0
    obtain ⟨s1, s2, s3⟩ := d0
    go_simp
    intro h; omega
  simp only [Act.put, List.setIfInBounds_toArray, List.set_cons_zero, List.set_cons_succ]
  refine wpAnyH_ready (rs := [9]) (by kernel_rfl) (by simp) ?_
  refine AllReadyH.cons (o := { dst := some 28, op := Op.call { callee := Callee.value (Operand.func 36), args := #[Operand.tmp 23, Operand.tmp 27], argTypes := #[23, 24] }, type := 33, pos := "ref.go:195", after := #[{ on := 4, ground := Ground.data }, { on := 8, ground := Ground.data }], guard := none }) rfl (fun K hK => ?_) AllReadyH.nil
  rw [if_pos (by rfl)]
  go_simp
  go_at_call 36
  refine hcall.mono ?_
  rintro e wa ⟨rfl, HS1, hP⟩
  obtain ⟨v', w', hrun, HS2, HS3, hZ⟩ := hfin wa hP
  have KZ : Hid (PZ v' w') := hZ
  clear hP hZ
  go_simp
  refine hK.out _ _ HS1 (fun HSX => ?_)
  clear hK K
  refine wpAnyH_ready (rs := [10]) (by kernel_rfl) (by simp) ?_
  refine AllReadyH.cons (o := { dst := some 29, op := Op.buildSlice 39 1 #[(0, Operand.tmp 28)], type := 39, pos := "ref.go:195", after := #[{ on := 9, ground := Ground.data }], guard := none }) rfl (fun K hK => ?_) AllReadyH.nil
  rw [if_pos (by rfl)]
  go_simp
  refine hK.out _ _ HS2 (fun HSX => ?_)
  clear hK K
  refine wpAnyH_ready (rs := [11]) (by kernel_rfl) (by simp) ?_
  refine AllReadyH.cons (o := { dst := some 30, op := Op.call { callee := Callee.builtin Builtin.append, args := #[Operand.tmp 19, Operand.tmp 29], argTypes := #[39, 39] }, type := 39, pos := "ref.go:195", after := #[{ on := 0, ground := Ground.data }, { on := 10, ground := Ground.data }, { on := 9, ground := Ground.chain }], guard := none }) rfl (fun K hK => ?_) AllReadyH.nil
  refine step_app rfl (.tmp 19) (.tmp 29) 39 39 rfl _ _ v' w' rfl rfl hrun ?_
  simp only [Act.put, List.setIfInBounds_toArray, List.set_cons_zero, List.set_cons_succ]
  refine hK.out _ _ HS3 (fun HSX => ?_)
  clear hK K
  refine wpAnyH_take (i := 12) (oi := { dst := some 7, op := Op.assign (Operand.tmp 30), type := 39, pos := "ref.go:195", after := #[{ on := 11, ground := Ground.data }, { on := 11, ground := Ground.chain }, { on := 0, ground := Ground.phase }, { on := 1, ground := Ground.phase }, { on := 2, ground := Ground.phase }, { on := 3, ground := Ground.phase }, { on := 4, ground := Ground.phase }, { on := 5, ground := Ground.phase }, { on := 6, ground := Ground.phase }, { on := 7, ground := Ground.phase }, { on := 8, ground := Ground.phase }, { on := 9, ground := Ground.phase }, { on := 10, ground := Ground.phase }, { on := 11, ground := Ground.phase }], guard := none }) (v := v') rfl (by kernel_rfl) (by kernel_rfl) (by kernel_rfl) (fun _ _ _ h => hPan _ _ _ _ _ h) (Or.inl ⟨by rfl, ?_⟩) HSX ?_
  · intro wx d0
    obtain ⟨s1, s2, s3⟩ := d0
    go_simp
  simp only [Act.put, List.setIfInBounds_toArray, List.set_cons_zero, List.set_cons_succ]
  refine wpAnyH_done (by kernel_rfl) ?_ _
  exact hQ _ _ _ KZ.out
end Go.Proofs.Ytppcfofkneaigaa
