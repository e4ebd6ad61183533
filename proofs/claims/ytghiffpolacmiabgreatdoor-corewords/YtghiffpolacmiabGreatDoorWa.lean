import Derived.Test.YtghiffpolacmiabGreatDoorUy
import Derived.Deep.RegionHeld3
import Derived.Shelf.Abstract
namespace Go.Proofs.YtghiffpolacmiabGreatDoor
open Go.ChangeShapes Go.WideShapes Go.ChangeAt Go.RowKit
set_option linter.unusedVariables false

/-- An append as one step of a region. -/
theorem step_app {P : Program} {ops : Array Oper} {o : Oper} {a : Act} {w : World} {K : Act → World → Prop} {Q : Exit → Act → World → Prop} {E : Prop}
    (hgd : o.guard = none) (s x : Operand) (t u : TypeId) (ho : o.op = .call { callee := .builtin .append, args := #[s, x], argTypes := #[t, u] }) (v y v' : Value) (w' : World)
    (hs : a.eval s = v) (hx : a.eval x = y) (hrun : (Builtin.append_ #[t, u] o.type #[v, y]).run P w = .ok v' w') (hK : K (a.put o.dst v') w') :
    if Region.wanted o (yielded ops a.tmps) = true then Oper.wp P o a w K Q else E := by
  rw [if_pos (by simp [Region.wanted, hgd])]
  unfold Oper.wp
  simp [execOp, ho, resolve, invoke, builtin, hs, hx, hrun, Result.andThen]
  exact hK
def ops10_1 : Array Oper := #[{ dst := some 4, op := Op.move (Operand.tmp 0), type := 33, pos := "ref.go:102", after := #[], guard := none },
  { dst := some 5, op := Op.nilCheck (Operand.tmp 4), type := 0, pos := "ref.go:102", after := #[{ on := 0, ground := Ground.data }], guard := none },
  { dst := some 6, op := Op.fieldAddr 36 (Operand.tmp 5) 4, type := 0, pos := "ref.go:102", after := #[{ on := 1, ground := Ground.data }], guard := none },
  { dst := some 7, op := Op.load 29 (Operand.tmp 6), type := 29, pos := "ref.go:102", after := #[{ on := 2, ground := Ground.data }], guard := none },
  { dst := some 8, op := Op.move (Operand.tmp 0), type := 33, pos := "ref.go:102", after := #[], guard := none },
  { dst := some 9, op := Op.nilCheck (Operand.tmp 8), type := 0, pos := "ref.go:102", after := #[{ on := 4, ground := Ground.data }], guard := none },
  { dst := some 10, op := Op.fieldAddr 36 (Operand.tmp 9) 5, type := 0, pos := "ref.go:102", after := #[{ on := 5, ground := Ground.data }], guard := none },
  { dst := some 11, op := Op.load 3 (Operand.tmp 10), type := 3, pos := "ref.go:102", after := #[{ on := 6, ground := Ground.data }], guard := none },
  { dst := some 12, op := Op.move (Operand.tmp 0), type := 33, pos := "ref.go:102", after := #[], guard := none },
  { dst := some 13, op := Op.nilCheck (Operand.tmp 12), type := 0, pos := "ref.go:102", after := #[{ on := 8, ground := Ground.data }], guard := none },
  { dst := some 14, op := Op.fieldAddr 36 (Operand.tmp 13) 6, type := 0, pos := "ref.go:102", after := #[{ on := 9, ground := Ground.data }], guard := none },
  { dst := some 15, op := Op.load 4 (Operand.tmp 14), type := 4, pos := "ref.go:102", after := #[{ on := 10, ground := Ground.data }], guard := none },
  { dst := some 16, op := Op.move (Operand.tmp 0), type := 33, pos := "ref.go:102", after := #[], guard := none },
  { dst := some 17, op := Op.nilCheck (Operand.tmp 16), type := 0, pos := "ref.go:102", after := #[{ on := 12, ground := Ground.data }], guard := none },
  { dst := some 18, op := Op.fieldAddr 36 (Operand.tmp 17) 8, type := 0, pos := "ref.go:102", after := #[{ on := 13, ground := Ground.data }], guard := none },
  { dst := some 19, op := Op.load 3 (Operand.tmp 18), type := 3, pos := "ref.go:102", after := #[{ on := 14, ground := Ground.data }], guard := none },
  { dst := some 20, op := Op.move (Operand.tmp 0), type := 33, pos := "ref.go:102", after := #[], guard := none },
  { dst := some 21, op := Op.nilCheck (Operand.tmp 20), type := 0, pos := "ref.go:102", after := #[{ on := 16, ground := Ground.data }], guard := none },
  { dst := some 22, op := Op.fieldAddr 36 (Operand.tmp 21) 9, type := 0, pos := "ref.go:102", after := #[{ on := 17, ground := Ground.data }], guard := none },
  { dst := some 23, op := Op.load 3 (Operand.tmp 22), type := 3, pos := "ref.go:102", after := #[{ on := 18, ground := Ground.data }], guard := none },
  { dst := some 24, op := Op.move (Operand.tmp 0), type := 33, pos := "ref.go:102", after := #[], guard := none },
  { dst := some 25, op := Op.nilCheck (Operand.tmp 24), type := 0, pos := "ref.go:102", after := #[{ on := 20, ground := Ground.data }], guard := none },
  { dst := some 26, op := Op.fieldAddr 36 (Operand.tmp 25) 10, type := 0, pos := "ref.go:102", after := #[{ on := 21, ground := Ground.data }], guard := none },
  { dst := some 27, op := Op.load 3 (Operand.tmp 26), type := 3, pos := "ref.go:102", after := #[{ on := 22, ground := Ground.data }], guard := none },
  { dst := some 28, op := Op.move (Operand.tmp 0), type := 33, pos := "ref.go:102", after := #[], guard := none },
  { dst := some 29, op := Op.nilCheck (Operand.tmp 28), type := 0, pos := "ref.go:102", after := #[{ on := 24, ground := Ground.data }], guard := none },
  { dst := some 30, op := Op.fieldAddr 36 (Operand.tmp 29) 11, type := 0, pos := "ref.go:102", after := #[{ on := 25, ground := Ground.data }], guard := none },
  { dst := some 31, op := Op.load 3 (Operand.tmp 30), type := 3, pos := "ref.go:102", after := #[{ on := 26, ground := Ground.data }], guard := none },
  { dst := some 32, op := Op.build 36 #[(4, Operand.tmp 7), (5, Operand.tmp 11), (6, Operand.tmp 15), (8, Operand.tmp 19), (9, Operand.tmp 23), (10, Operand.tmp 27), (11, Operand.tmp 31)], type := 36, pos := "ref.go:102", after := #[{ on := 3, ground := Ground.data }, { on := 7, ground := Ground.data }, { on := 11, ground := Ground.data }, { on := 15, ground := Ground.data }, { on := 19, ground := Ground.data }, { on := 23, ground := Ground.data }, { on := 27, ground := Ground.data }], guard := none },
  { dst := some 33, op := Op.box 36 (Operand.tmp 32), type := 33, pos := "ref.go:102", after := #[{ on := 28, ground := Ground.data }], guard := none },
  { dst := some 3, op := Op.assign (Operand.tmp 33), type := 33, pos := "ref.go:102", after := #[{ on := 29, ground := Ground.data }, { on := 0, ground := Ground.phase }, { on := 1, ground := Ground.phase }, { on := 2, ground := Ground.phase }, { on := 3, ground := Ground.phase }, { on := 4, ground := Ground.phase }, { on := 5, ground := Ground.phase }, { on := 6, ground := Ground.phase }, { on := 7, ground := Ground.phase }, { on := 8, ground := Ground.phase }, { on := 9, ground := Ground.phase }, { on := 10, ground := Ground.phase }, { on := 11, ground := Ground.phase }, { on := 12, ground := Ground.phase }, { on := 13, ground := Ground.phase }, { on := 14, ground := Ground.phase }, { on := 15, ground := Ground.phase }, { on := 16, ground := Ground.phase }, { on := 17, ground := Ground.phase }, { on := 18, ground := Ground.phase }, { on := 19, ground := Ground.phase }, { on := 20, ground := Ground.phase }, { on := 21, ground := Ground.phase }, { on := 22, ground := Ground.phase }, { on := 23, ground := Ground.phase }, { on := 24, ground := Ground.phase }, { on := 25, ground := Ground.phase }, { on := 26, ground := Ground.phase }, { on := 27, ground := Ground.phase }, { on := 28, ground := Ground.phase }, { on := 29, ground := Ground.phase }], guard := none }]
set_option maxHeartbeats 4000000 in
set_option maxRecDepth 100000 in
theorem reg10_1 (W : World) (bb : Nat) (tm ln iw iv ic jf : Int) (od : Bool) (BX : Array Value) (hS : (fun w' => w'.cell? ⟨bb, 4, none⟩ = some (.int .u64 tm) ∧ w'.cell? ⟨bb, 5, none⟩ = some (.int .i64 ln) ∧ w'.cell? ⟨bb, 6, none⟩ = some (.bool od) ∧ w'.cell? ⟨bb, 8, none⟩ = some (.int .i64 iw) ∧ w'.cell? ⟨bb, 9, none⟩ = some (.int .i64 iv) ∧ w'.cell? ⟨bb, 10, none⟩ = some (.int .i64 ic) ∧ w'.cell? ⟨bb, 11, none⟩ = some (.int .i64 jf)) W)
    (hb : #[.slice none 0 0, .slice none 0 0, .slice none 0 0, .slice none 0 0, .int .u64 tm, .int .i64 ln, .bool od, .slice none 0 0, .int .i64 iw, .int .i64 iv, .int .i64 ic, .int .i64 jf] = BX)
    (Q : Exit → Act → World → Prop) (hPan : ∀ c (a : Act) w (d : Option Tmp) v, Q (.panic c) (a.put d v) w → Q (.panic c) a w) {u1 u2 u3 u4 u5 u6 u7 u8 u9 u10 u11 u12 u13 u14 u15 u16 u17 u18 u19 u20 u21 u22 u23 u24 u25 u26 u27 u28 u29 u30 u31 u32 u33 u34 u35 u36 u37 u38 u39 u40 u41 u42 u43 u44 u45 u46 u47 u48 u49 u50 u51 u52 u53 u54 u55 u56 u57 u58 u59 u60 u61 u62 u63 u64 u65 u66 u67 u68 u69 u70 u71 u72 u73 u74 u75 u76 u77 u78 u79 u80 u81 u82 u83 u84 u85 u86 u87 u88 u89 u90 u91 u92 u93 u94 : Value}
    (hQ : Q .normal ⟨#[.pointer (some ⟨bb, 0, none⟩), u1, u2, .pointer (some ⟨W.heap.size, 0, none⟩), .pointer (some ⟨bb, 0, none⟩), .pointer (some ⟨bb, 0, none⟩), .pointer (some ⟨bb, 4, none⟩), .int .u64 tm, .pointer (some ⟨bb, 0, none⟩), .pointer (some ⟨bb, 0, none⟩), .pointer (some ⟨bb, 5, none⟩), .int .i64 ln, .pointer (some ⟨bb, 0, none⟩), .pointer (some ⟨bb, 0, none⟩), .pointer (some ⟨bb, 6, none⟩), .bool od, .pointer (some ⟨bb, 0, none⟩), .pointer (some ⟨bb, 0, none⟩), .pointer (some ⟨bb, 8, none⟩), .int .i64 iw, .pointer (some ⟨bb, 0, none⟩), .pointer (some ⟨bb, 0, none⟩), .pointer (some ⟨bb, 9, none⟩), .int .i64 iv, .pointer (some ⟨bb, 0, none⟩), .pointer (some ⟨bb, 0, none⟩), .pointer (some ⟨bb, 10, none⟩), .int .i64 ic, .pointer (some ⟨bb, 0, none⟩), .pointer (some ⟨bb, 0, none⟩), .pointer (some ⟨bb, 11, none⟩), .int .i64 jf, .agg BX, .pointer (some ⟨W.heap.size, 0, none⟩), u34, u35, u36, u37, u38, u39, u40, u41, u42, u43, u44, u45, u46, u47, u48, u49, u50, u51, u52, u53, u54, u55, u56, u57, u58, u59, u60, u61, u62, u63, u64, u65, u66, u67, u68, u69, u70, u71, u72, u73, u74, u75, u76, u77, u78, u79, u80, u81, u82, u83, u84, u85, u86, u87, u88, u89, u90, u91, u92, u93, u94], []⟩ (W.drew.alloc (.cells BX 36))) :
    Code.wp Tryz.prog (Code.region 1 ops10_1 true) Q ⟨#[.pointer (some ⟨bb, 0, none⟩), u1, u2, u3, u4, u5, u6, u7, u8, u9, u10, u11, u12, u13, u14, u15, u16, u17, u18, u19, u20, u21, u22, u23, u24, u25, u26, u27, u28, u29, u30, u31, u32, u33, u34, u35, u36, u37, u38, u39, u40, u41, u42, u43, u44, u45, u46, u47, u48, u49, u50, u51, u52, u53, u54, u55, u56, u57, u58, u59, u60, u61, u62, u63, u64, u65, u66, u67, u68, u69, u70, u71, u72, u73, u74, u75, u76, u77, u78, u79, u80, u81, u82, u83, u84, u85, u86, u87, u88, u89, u90, u91, u92, u93, u94], []⟩ W := by
  have k0 : Kp W W.drew := (Chg.refl _ _).drew
  have hz : W.drew.heap.size = W.heap.size := rfl
  rw [← hz] at hQ
  clear hz
  obtain ⟨q0, q1, q2, q3, q4, q5, q6⟩ := hS
  have HS0 : (fun w' => w'.cell? ⟨bb, 4, none⟩ = some (.int .u64 tm) ∧ w'.cell? ⟨bb, 5, none⟩ = some (.int .i64 ln) ∧ w'.cell? ⟨bb, 6, none⟩ = some (.bool od) ∧ w'.cell? ⟨bb, 8, none⟩ = some (.int .i64 iw) ∧ w'.cell? ⟨bb, 9, none⟩ = some (.int .i64 iv) ∧ w'.cell? ⟨bb, 10, none⟩ = some (.int .i64 ic) ∧ w'.cell? ⟨bb, 11, none⟩ = some (.int .i64 jf)) W.drew := ⟨Kp.cell k0 q0, Kp.cell k0 q1, Kp.cell k0 q2, Kp.cell k0 q3, Kp.cell k0 q4, Kp.cell k0 q5, Kp.cell k0 q6⟩
  refine wp_region_held_drew (S := fun w' => w'.cell? ⟨bb, 4, none⟩ = some (.int .u64 tm) ∧ w'.cell? ⟨bb, 5, none⟩ = some (.int .i64 ln) ∧ w'.cell? ⟨bb, 6, none⟩ = some (.bool od) ∧ w'.cell? ⟨bb, 8, none⟩ = some (.int .i64 iw) ∧ w'.cell? ⟨bb, 9, none⟩ = some (.int .i64 iv) ∧ w'.cell? ⟨bb, 10, none⟩ = some (.int .i64 ic) ∧ w'.cell? ⟨bb, 11, none⟩ = some (.int .i64 jf)) hmx HS0 (fun HSX => ?_)
  clear HS0 q0 q1 q2 q3 q4 q5 q6 k0
  obtain ⟨W0, hW0⟩ : ∃ W0, W0 = W.drew := ⟨_, rfl⟩
  rw [← hW0] at HSX hQ ⊢
  clear hW0
  refine wpAnyH_take (i := 0) (oi := { dst := some 4, op := Op.move (Operand.tmp 0), type := 33, pos := "ref.go:102", after := #[], guard := none }) (v := .pointer (some ⟨bb, 0, none⟩)) rfl (by kernel_rfl) (by kernel_rfl) (by kernel_rfl) (fun _ _ _ h => hPan _ _ _ _ _ h) (Or.inl ⟨by rfl, ?_⟩) HSX ?_
  · intro wx d0
    go_simp
  simp only [Act.put, List.setIfInBounds_toArray, List.set_cons_zero, List.set_cons_succ]
  refine wpAnyH_take (i := 1) (oi := { dst := some 5, op := Op.nilCheck (Operand.tmp 4), type := 0, pos := "ref.go:102", after := #[{ on := 0, ground := Ground.data }], guard := none }) (v := .pointer (some ⟨bb, 0, none⟩)) rfl (by kernel_rfl) (by kernel_rfl) (by kernel_rfl) (fun _ _ _ h => hPan _ _ _ _ _ h) (Or.inl ⟨by rfl, ?_⟩) HSX ?_
  · intro wx d0
    go_simp
  simp only [Act.put, List.setIfInBounds_toArray, List.set_cons_zero, List.set_cons_succ]
  refine wpAnyH_take (i := 2) (oi := { dst := some 6, op := Op.fieldAddr 36 (Operand.tmp 5) 4, type := 0, pos := "ref.go:102", after := #[{ on := 1, ground := Ground.data }], guard := none }) (v := .pointer (some ⟨bb, 4, none⟩)) rfl (by kernel_rfl) (by kernel_rfl) (by kernel_rfl) (fun _ _ _ h => hPan _ _ _ _ _ h) (Or.inl ⟨by rfl, ?_⟩) HSX ?_
  · intro wx d0
    go_simp
  simp only [Act.put, List.setIfInBounds_toArray, List.set_cons_zero, List.set_cons_succ]
  refine wpAnyH_take (i := 3) (oi := { dst := some 7, op := Op.load 29 (Operand.tmp 6), type := 29, pos := "ref.go:102", after := #[{ on := 2, ground := Ground.data }], guard := none }) (v := .int .u64 tm) rfl (by kernel_rfl) (by kernel_rfl) (by kernel_rfl) (fun _ _ _ h => hPan _ _ _ _ _ h) (Or.inl ⟨by rfl, ?_⟩) HSX ?_
  · intro wx d0
    obtain ⟨q0, q1, q2, q3, q4, q5, q6⟩ := d0
    go_simp
  simp only [Act.put, List.setIfInBounds_toArray, List.set_cons_zero, List.set_cons_succ]
  refine wpAnyH_take (i := 4) (oi := { dst := some 8, op := Op.move (Operand.tmp 0), type := 33, pos := "ref.go:102", after := #[], guard := none }) (v := .pointer (some ⟨bb, 0, none⟩)) rfl (by kernel_rfl) (by kernel_rfl) (by kernel_rfl) (fun _ _ _ h => hPan _ _ _ _ _ h) (Or.inl ⟨by rfl, ?_⟩) HSX ?_
  · intro wx d0
    go_simp
  simp only [Act.put, List.setIfInBounds_toArray, List.set_cons_zero, List.set_cons_succ]
  refine wpAnyH_take (i := 5) (oi := { dst := some 9, op := Op.nilCheck (Operand.tmp 8), type := 0, pos := "ref.go:102", after := #[{ on := 4, ground := Ground.data }], guard := none }) (v := .pointer (some ⟨bb, 0, none⟩)) rfl (by kernel_rfl) (by kernel_rfl) (by kernel_rfl) (fun _ _ _ h => hPan _ _ _ _ _ h) (Or.inl ⟨by rfl, ?_⟩) HSX ?_
  · intro wx d0
    go_simp
  simp only [Act.put, List.setIfInBounds_toArray, List.set_cons_zero, List.set_cons_succ]
  refine wpAnyH_take (i := 6) (oi := { dst := some 10, op := Op.fieldAddr 36 (Operand.tmp 9) 5, type := 0, pos := "ref.go:102", after := #[{ on := 5, ground := Ground.data }], guard := none }) (v := .pointer (some ⟨bb, 5, none⟩)) rfl (by kernel_rfl) (by kernel_rfl) (by kernel_rfl) (fun _ _ _ h => hPan _ _ _ _ _ h) (Or.inl ⟨by rfl, ?_⟩) HSX ?_
  · intro wx d0
    go_simp
  simp only [Act.put, List.setIfInBounds_toArray, List.set_cons_zero, List.set_cons_succ]
  refine wpAnyH_take (i := 7) (oi := { dst := some 11, op := Op.load 3 (Operand.tmp 10), type := 3, pos := "ref.go:102", after := #[{ on := 6, ground := Ground.data }], guard := none }) (v := .int .i64 ln) rfl (by kernel_rfl) (by kernel_rfl) (by kernel_rfl) (fun _ _ _ h => hPan _ _ _ _ _ h) (Or.inl ⟨by rfl, ?_⟩) HSX ?_
  · intro wx d0
    obtain ⟨q0, q1, q2, q3, q4, q5, q6⟩ := d0
    go_simp
  simp only [Act.put, List.setIfInBounds_toArray, List.set_cons_zero, List.set_cons_succ]
  refine wpAnyH_take (i := 8) (oi := { dst := some 12, op := Op.move (Operand.tmp 0), type := 33, pos := "ref.go:102", after := #[], guard := none }) (v := .pointer (some ⟨bb, 0, none⟩)) rfl (by kernel_rfl) (by kernel_rfl) (by kernel_rfl) (fun _ _ _ h => hPan _ _ _ _ _ h) (Or.inl ⟨by rfl, ?_⟩) HSX ?_
  · intro wx d0
    go_simp
  simp only [Act.put, List.setIfInBounds_toArray, List.set_cons_zero, List.set_cons_succ]
  refine wpAnyH_take (i := 9) (oi := { dst := some 13, op := Op.nilCheck (Operand.tmp 12), type := 0, pos := "ref.go:102", after := #[{ on := 8, ground := Ground.data }], guard := none }) (v := .pointer (some ⟨bb, 0, none⟩)) rfl (by kernel_rfl) (by kernel_rfl) (by kernel_rfl) (fun _ _ _ h => hPan _ _ _ _ _ h) (Or.inl ⟨by rfl, ?_⟩) HSX ?_
  · intro wx d0
    go_simp
  simp only [Act.put, List.setIfInBounds_toArray, List.set_cons_zero, List.set_cons_succ]
  refine wpAnyH_take (i := 10) (oi := { dst := some 14, op := Op.fieldAddr 36 (Operand.tmp 13) 6, type := 0, pos := "ref.go:102", after := #[{ on := 9, ground := Ground.data }], guard := none }) (v := .pointer (some ⟨bb, 6, none⟩)) rfl (by kernel_rfl) (by kernel_rfl) (by kernel_rfl) (fun _ _ _ h => hPan _ _ _ _ _ h) (Or.inl ⟨by rfl, ?_⟩) HSX ?_
  · intro wx d0
    go_simp
  simp only [Act.put, List.setIfInBounds_toArray, List.set_cons_zero, List.set_cons_succ]
  refine wpAnyH_take (i := 11) (oi := { dst := some 15, op := Op.load 4 (Operand.tmp 14), type := 4, pos := "ref.go:102", after := #[{ on := 10, ground := Ground.data }], guard := none }) (v := .bool od) rfl (by kernel_rfl) (by kernel_rfl) (by kernel_rfl) (fun _ _ _ h => hPan _ _ _ _ _ h) (Or.inl ⟨by rfl, ?_⟩) HSX ?_
  · intro wx d0
    obtain ⟨q0, q1, q2, q3, q4, q5, q6⟩ := d0
    go_simp
  simp only [Act.put, List.setIfInBounds_toArray, List.set_cons_zero, List.set_cons_succ]
  refine wpAnyH_take (i := 12) (oi := { dst := some 16, op := Op.move (Operand.tmp 0), type := 33, pos := "ref.go:102", after := #[], guard := none }) (v := .pointer (some ⟨bb, 0, none⟩)) rfl (by kernel_rfl) (by kernel_rfl) (by kernel_rfl) (fun _ _ _ h => hPan _ _ _ _ _ h) (Or.inl ⟨by rfl, ?_⟩) HSX ?_
  · intro wx d0
    go_simp
  simp only [Act.put, List.setIfInBounds_toArray, List.set_cons_zero, List.set_cons_succ]
  refine wpAnyH_take (i := 13) (oi := { dst := some 17, op := Op.nilCheck (Operand.tmp 16), type := 0, pos := "ref.go:102", after := #[{ on := 12, ground := Ground.data }], guard := none }) (v := .pointer (some ⟨bb, 0, none⟩)) rfl (by kernel_rfl) (by kernel_rfl) (by kernel_rfl) (fun _ _ _ h => hPan _ _ _ _ _ h) (Or.inl ⟨by rfl, ?_⟩) HSX ?_
  · intro wx d0
    go_simp
  simp only [Act.put, List.setIfInBounds_toArray, List.set_cons_zero, List.set_cons_succ]
  refine wpAnyH_take (i := 14) (oi := { dst := some 18, op := Op.fieldAddr 36 (Operand.tmp 17) 8, type := 0, pos := "ref.go:102", after := #[{ on := 13, ground := Ground.data }], guard := none }) (v := .pointer (some ⟨bb, 8, none⟩)) rfl (by kernel_rfl) (by kernel_rfl) (by kernel_rfl) (fun _ _ _ h => hPan _ _ _ _ _ h) (Or.inl ⟨by rfl, ?_⟩) HSX ?_
  · intro wx d0
    go_simp
  simp only [Act.put, List.setIfInBounds_toArray, List.set_cons_zero, List.set_cons_succ]
  refine wpAnyH_take (i := 15) (oi := { dst := some 19, op := Op.load 3 (Operand.tmp 18), type := 3, pos := "ref.go:102", after := #[{ on := 14, ground := Ground.data }], guard := none }) (v := .int .i64 iw) rfl (by kernel_rfl) (by kernel_rfl) (by kernel_rfl) (fun _ _ _ h => hPan _ _ _ _ _ h) (Or.inl ⟨by rfl, ?_⟩) HSX ?_
  · intro wx d0
    obtain ⟨q0, q1, q2, q3, q4, q5, q6⟩ := d0
    go_simp
  simp only [Act.put, List.setIfInBounds_toArray, List.set_cons_zero, List.set_cons_succ]
  refine wpAnyH_take (i := 16) (oi := { dst := some 20, op := Op.move (Operand.tmp 0), type := 33, pos := "ref.go:102", after := #[], guard := none }) (v := .pointer (some ⟨bb, 0, none⟩)) rfl (by kernel_rfl) (by kernel_rfl) (by kernel_rfl) (fun _ _ _ h => hPan _ _ _ _ _ h) (Or.inl ⟨by rfl, ?_⟩) HSX ?_
  · intro wx d0
    go_simp
  simp only [Act.put, List.setIfInBounds_toArray, List.set_cons_zero, List.set_cons_succ]
  refine wpAnyH_take (i := 17) (oi := { dst := some 21, op := Op.nilCheck (Operand.tmp 20), type := 0, pos := "ref.go:102", after := #[{ on := 16, ground := Ground.data }], guard := none }) (v := .pointer (some ⟨bb, 0, none⟩)) rfl (by kernel_rfl) (by kernel_rfl) (by kernel_rfl) (fun _ _ _ h => hPan _ _ _ _ _ h) (Or.inl ⟨by rfl, ?_⟩) HSX ?_
  · intro wx d0
    go_simp
  simp only [Act.put, List.setIfInBounds_toArray, List.set_cons_zero, List.set_cons_succ]
  refine wpAnyH_take (i := 18) (oi := { dst := some 22, op := Op.fieldAddr 36 (Operand.tmp 21) 9, type := 0, pos := "ref.go:102", after := #[{ on := 17, ground := Ground.data }], guard := none }) (v := .pointer (some ⟨bb, 9, none⟩)) rfl (by kernel_rfl) (by kernel_rfl) (by kernel_rfl) (fun _ _ _ h => hPan _ _ _ _ _ h) (Or.inl ⟨by rfl, ?_⟩) HSX ?_
  · intro wx d0
    go_simp
  simp only [Act.put, List.setIfInBounds_toArray, List.set_cons_zero, List.set_cons_succ]
  refine wpAnyH_take (i := 19) (oi := { dst := some 23, op := Op.load 3 (Operand.tmp 22), type := 3, pos := "ref.go:102", after := #[{ on := 18, ground := Ground.data }], guard := none }) (v := .int .i64 iv) rfl (by kernel_rfl) (by kernel_rfl) (by kernel_rfl) (fun _ _ _ h => hPan _ _ _ _ _ h) (Or.inl ⟨by rfl, ?_⟩) HSX ?_
  · intro wx d0
    obtain ⟨q0, q1, q2, q3, q4, q5, q6⟩ := d0
    go_simp
  simp only [Act.put, List.setIfInBounds_toArray, List.set_cons_zero, List.set_cons_succ]
  refine wpAnyH_take (i := 20) (oi := { dst := some 24, op := Op.move (Operand.tmp 0), type := 33, pos := "ref.go:102", after := #[], guard := none }) (v := .pointer (some ⟨bb, 0, none⟩)) rfl (by kernel_rfl) (by kernel_rfl) (by kernel_rfl) (fun _ _ _ h => hPan _ _ _ _ _ h) (Or.inl ⟨by rfl, ?_⟩) HSX ?_
  · intro wx d0
    go_simp
  simp only [Act.put, List.setIfInBounds_toArray, List.set_cons_zero, List.set_cons_succ]
  refine wpAnyH_take (i := 21) (oi := { dst := some 25, op := Op.nilCheck (Operand.tmp 24), type := 0, pos := "ref.go:102", after := #[{ on := 20, ground := Ground.data }], guard := none }) (v := .pointer (some ⟨bb, 0, none⟩)) rfl (by kernel_rfl) (by kernel_rfl) (by kernel_rfl) (fun _ _ _ h => hPan _ _ _ _ _ h) (Or.inl ⟨by rfl, ?_⟩) HSX ?_
  · intro wx d0
    go_simp
  simp only [Act.put, List.setIfInBounds_toArray, List.set_cons_zero, List.set_cons_succ]
  refine wpAnyH_take (i := 22) (oi := { dst := some 26, op := Op.fieldAddr 36 (Operand.tmp 25) 10, type := 0, pos := "ref.go:102", after := #[{ on := 21, ground := Ground.data }], guard := none }) (v := .pointer (some ⟨bb, 10, none⟩)) rfl (by kernel_rfl) (by kernel_rfl) (by kernel_rfl) (fun _ _ _ h => hPan _ _ _ _ _ h) (Or.inl ⟨by rfl, ?_⟩) HSX ?_
  · intro wx d0
    go_simp
  simp only [Act.put, List.setIfInBounds_toArray, List.set_cons_zero, List.set_cons_succ]
  refine wpAnyH_take (i := 23) (oi := { dst := some 27, op := Op.load 3 (Operand.tmp 26), type := 3, pos := "ref.go:102", after := #[{ on := 22, ground := Ground.data }], guard := none }) (v := .int .i64 ic) rfl (by kernel_rfl) (by kernel_rfl) (by kernel_rfl) (fun _ _ _ h => hPan _ _ _ _ _ h) (Or.inl ⟨by rfl, ?_⟩) HSX ?_
  · intro wx d0
    obtain ⟨q0, q1, q2, q3, q4, q5, q6⟩ := d0
    go_simp
  simp only [Act.put, List.setIfInBounds_toArray, List.set_cons_zero, List.set_cons_succ]
  refine wpAnyH_take (i := 24) (oi := { dst := some 28, op := Op.move (Operand.tmp 0), type := 33, pos := "ref.go:102", after := #[], guard := none }) (v := .pointer (some ⟨bb, 0, none⟩)) rfl (by kernel_rfl) (by kernel_rfl) (by kernel_rfl) (fun _ _ _ h => hPan _ _ _ _ _ h) (Or.inl ⟨by rfl, ?_⟩) HSX ?_
  · intro wx d0
    go_simp
  simp only [Act.put, List.setIfInBounds_toArray, List.set_cons_zero, List.set_cons_succ]
  refine wpAnyH_take (i := 25) (oi := { dst := some 29, op := Op.nilCheck (Operand.tmp 28), type := 0, pos := "ref.go:102", after := #[{ on := 24, ground := Ground.data }], guard := none }) (v := .pointer (some ⟨bb, 0, none⟩)) rfl (by kernel_rfl) (by kernel_rfl) (by kernel_rfl) (fun _ _ _ h => hPan _ _ _ _ _ h) (Or.inl ⟨by rfl, ?_⟩) HSX ?_
  · intro wx d0
    go_simp
  simp only [Act.put, List.setIfInBounds_toArray, List.set_cons_zero, List.set_cons_succ]
  refine wpAnyH_take (i := 26) (oi := { dst := some 30, op := Op.fieldAddr 36 (Operand.tmp 29) 11, type := 0, pos := "ref.go:102", after := #[{ on := 25, ground := Ground.data }], guard := none }) (v := .pointer (some ⟨bb, 11, none⟩)) rfl (by kernel_rfl) (by kernel_rfl) (by kernel_rfl) (fun _ _ _ h => hPan _ _ _ _ _ h) (Or.inl ⟨by rfl, ?_⟩) HSX ?_
  · intro wx d0
    go_simp
  simp only [Act.put, List.setIfInBounds_toArray, List.set_cons_zero, List.set_cons_succ]
  refine wpAnyH_take (i := 27) (oi := { dst := some 31, op := Op.load 3 (Operand.tmp 30), type := 3, pos := "ref.go:102", after := #[{ on := 26, ground := Ground.data }], guard := none }) (v := .int .i64 jf) rfl (by kernel_rfl) (by kernel_rfl) (by kernel_rfl) (fun _ _ _ h => hPan _ _ _ _ _ h) (Or.inl ⟨by rfl, ?_⟩) HSX ?_
  · intro wx d0
    obtain ⟨q0, q1, q2, q3, q4, q5, q6⟩ := d0
    go_simp
  simp only [Act.put, List.setIfInBounds_toArray, List.set_cons_zero, List.set_cons_succ]
  refine wpAnyH_take (i := 28) (oi := { dst := some 32, op := Op.build 36 #[(4, Operand.tmp 7), (5, Operand.tmp 11), (6, Operand.tmp 15), (8, Operand.tmp 19), (9, Operand.tmp 23), (10, Operand.tmp 27), (11, Operand.tmp 31)], type := 36, pos := "ref.go:102", after := #[{ on := 3, ground := Ground.data }, { on := 7, ground := Ground.data }, { on := 11, ground := Ground.data }, { on := 15, ground := Ground.data }, { on := 19, ground := Ground.data }, { on := 23, ground := Ground.data }, { on := 27, ground := Ground.data }], guard := none }) (v := .agg BX) rfl (by kernel_rfl) (by kernel_rfl) (by kernel_rfl) (fun _ _ _ h => hPan _ _ _ _ _ h) (Or.inl ⟨by rfl, ?_⟩) HSX ?_
  · intro wx d0
    go_simp
  simp only [Act.put, List.setIfInBounds_toArray, List.set_cons_zero, List.set_cons_succ]
  refine wpAnyH_ready (rs := [29]) (by kernel_rfl) (by simp) ?_
  refine AllReadyH.cons (o := { dst := some 33, op := Op.box 36 (Operand.tmp 32), type := 33, pos := "ref.go:102", after := #[{ on := 28, ground := Ground.data }], guard := none }) rfl (fun K hK => ?_) AllReadyH.nil
  rw [if_pos (by rfl)]
  unfold Oper.wp
  simp [execOp, Instr.box, Act.eval, newVar, newRow, Value.cells, Result.andThen]
  try simp only [Act.put, List.setIfInBounds_toArray, List.set_cons_zero, List.set_cons_succ]
  have k1 : Kp W0 (W0.alloc (.cells BX 36)) := (Chg.refl _ _).alloc _
  obtain ⟨q0, q1, q2, q3, q4, q5, q6⟩ := HSX
  refine hK.out _ _ ⟨Kp.cell k1 q0, Kp.cell k1 q1, Kp.cell k1 q2, Kp.cell k1 q3, Kp.cell k1 q4, Kp.cell k1 q5, Kp.cell k1 q6⟩ (fun HSX => ?_)
  clear hK K
  refine wpAnyH_take (i := 30) (oi := { dst := some 3, op := Op.assign (Operand.tmp 33), type := 33, pos := "ref.go:102", after := #[{ on := 29, ground := Ground.data }, { on := 0, ground := Ground.phase }, { on := 1, ground := Ground.phase }, { on := 2, ground := Ground.phase }, { on := 3, ground := Ground.phase }, { on := 4, ground := Ground.phase }, { on := 5, ground := Ground.phase }, { on := 6, ground := Ground.phase }, { on := 7, ground := Ground.phase }, { on := 8, ground := Ground.phase }, { on := 9, ground := Ground.phase }, { on := 10, ground := Ground.phase }, { on := 11, ground := Ground.phase }, { on := 12, ground := Ground.phase }, { on := 13, ground := Ground.phase }, { on := 14, ground := Ground.phase }, { on := 15, ground := Ground.phase }, { on := 16, ground := Ground.phase }, { on := 17, ground := Ground.phase }, { on := 18, ground := Ground.phase }, { on := 19, ground := Ground.phase }, { on := 20, ground := Ground.phase }, { on := 21, ground := Ground.phase }, { on := 22, ground := Ground.phase }, { on := 23, ground := Ground.phase }, { on := 24, ground := Ground.phase }, { on := 25, ground := Ground.phase }, { on := 26, ground := Ground.phase }, { on := 27, ground := Ground.phase }, { on := 28, ground := Ground.phase }, { on := 29, ground := Ground.phase }], guard := none }) (v := .pointer (some ⟨W0.heap.size, 0, none⟩)) rfl (by kernel_rfl) (by kernel_rfl) (by kernel_rfl) (fun _ _ _ h => hPan _ _ _ _ _ h) (Or.inl ⟨by rfl, ?_⟩) HSX ?_
  · intro wx d0
    go_simp
  simp only [Act.put, List.setIfInBounds_toArray, List.set_cons_zero, List.set_cons_succ]
  refine wpAnyH_done (by kernel_rfl) ?_ _
  exact hQ
def ops10_2 : Array Oper := #[{ dst := some 34, op := Op.move (Operand.tmp 3), type := 33, pos := "ref.go:103", after := #[], guard := none },
  { dst := some 35, op := Op.move (Operand.tmp 3), type := 33, pos := "ref.go:103", after := #[], guard := none },
  { dst := some 36, op := Op.nilCheck (Operand.tmp 35), type := 0, pos := "ref.go:103", after := #[{ on := 1, ground := Ground.data }], guard := none },
  { dst := some 37, op := Op.fieldAddr 36 (Operand.tmp 36) 0, type := 0, pos := "ref.go:103", after := #[{ on := 2, ground := Ground.data }], guard := none },
  { dst := some 38, op := Op.load 26 (Operand.tmp 37), type := 26, pos := "ref.go:103", after := #[{ on := 3, ground := Ground.data }], guard := none },
  { dst := some 39, op := Op.move (Operand.tmp 0), type := 33, pos := "ref.go:103", after := #[], guard := none },
  { dst := some 40, op := Op.nilCheck (Operand.tmp 39), type := 0, pos := "ref.go:103", after := #[{ on := 5, ground := Ground.data }], guard := none },
  { dst := some 41, op := Op.fieldAddr 36 (Operand.tmp 40) 0, type := 0, pos := "ref.go:103", after := #[{ on := 6, ground := Ground.data }], guard := none },
  { dst := some 42, op := Op.load 26 (Operand.tmp 41), type := 26, pos := "ref.go:103", after := #[{ on := 7, ground := Ground.data }], guard := none },
  { dst := some 43, op := Op.call { callee := Callee.builtin Builtin.append, args := #[Operand.tmp 38, Operand.tmp 42], argTypes := #[26, 26] }, type := 26, pos := "ref.go:103", after := #[{ on := 4, ground := Ground.data }, { on := 8, ground := Ground.data }], guard := none },
  { dst := some 44, op := Op.nilCheck (Operand.tmp 34), type := 0, pos := "ref.go:103", after := #[{ on := 0, ground := Ground.data }, { on := 0, ground := Ground.phase }, { on := 1, ground := Ground.phase }, { on := 2, ground := Ground.phase }, { on := 3, ground := Ground.phase }, { on := 4, ground := Ground.phase }, { on := 5, ground := Ground.phase }, { on := 6, ground := Ground.phase }, { on := 7, ground := Ground.phase }, { on := 8, ground := Ground.phase }, { on := 9, ground := Ground.phase }], guard := none },
  { dst := some 45, op := Op.fieldAddr 36 (Operand.tmp 44) 0, type := 0, pos := "ref.go:103", after := #[{ on := 10, ground := Ground.data }, { on := 0, ground := Ground.phase }, { on := 1, ground := Ground.phase }, { on := 2, ground := Ground.phase }, { on := 3, ground := Ground.phase }, { on := 4, ground := Ground.phase }, { on := 5, ground := Ground.phase }, { on := 6, ground := Ground.phase }, { on := 7, ground := Ground.phase }, { on := 8, ground := Ground.phase }, { on := 9, ground := Ground.phase }], guard := none },
  { dst := none, op := Op.store 26 (Operand.tmp 45) (Operand.tmp 43), type := 0, pos := "ref.go:103", after := #[{ on := 11, ground := Ground.data }, { on := 9, ground := Ground.data }, { on := 9, ground := Ground.chain }, { on := 0, ground := Ground.phase }, { on := 1, ground := Ground.phase }, { on := 2, ground := Ground.phase }, { on := 3, ground := Ground.phase }, { on := 4, ground := Ground.phase }, { on := 5, ground := Ground.phase }, { on := 6, ground := Ground.phase }, { on := 7, ground := Ground.phase }, { on := 8, ground := Ground.phase }, { on := 9, ground := Ground.phase }], guard := none }]
set_option maxHeartbeats 4000000 in
set_option maxRecDepth 100000 in
theorem reg10_2 (W wa : World) (bb cb : Nat) (src v' : Value) (g n c : Nat) (hne : cb ≠ bb) (hs : W.cell? ⟨bb, 0, none⟩ = some src) (hc : W.cell? ⟨cb, 0, none⟩ = some (.slice none 0 0)) (hfr : W.frozen? ⟨cb, 0, none⟩ = false)
    (hr : (Builtin.append_ #[26, 26] 26 #[.slice none 0 0, src]).run Tryz.prog W.drew = .ok v' wa) (hk : Kp W wa) (hv : v' = .slice none 0 0 ∨ v' = .slice (some ⟨g, 0, none⟩) n c)
    (Q : Exit → Act → World → Prop) (hPan : ∀ c (a : Act) w (d : Option Tmp) v, Q (.panic c) (a.put d v) w → Q (.panic c) a w) {u1 u2 u4 u5 u6 u7 u8 u9 u10 u11 u12 u13 u14 u15 u16 u17 u18 u19 u20 u21 u22 u23 u24 u25 u26 u27 u28 u29 u30 u31 u32 u33 u34 u35 u36 u37 u38 u39 u40 u41 u42 u43 u44 u45 u46 u47 u48 u49 u50 u51 u52 u53 u54 u55 u56 u57 u58 u59 u60 u61 u62 u63 u64 u65 u66 u67 u68 u69 u70 u71 u72 u73 u74 u75 u76 u77 u78 u79 u80 u81 u82 u83 u84 u85 u86 u87 u88 u89 u90 u91 u92 u93 u94 : Value}
    (hQ : Q .normal ⟨#[.pointer (some ⟨bb, 0, none⟩), u1, u2, .pointer (some ⟨cb, 0, none⟩), u4, u5, u6, u7, u8, u9, u10, u11, u12, u13, u14, u15, u16, u17, u18, u19, u20, u21, u22, u23, u24, u25, u26, u27, u28, u29, u30, u31, u32, u33, .pointer (some ⟨cb, 0, none⟩), .pointer (some ⟨cb, 0, none⟩), .pointer (some ⟨cb, 0, none⟩), .pointer (some ⟨cb, 0, none⟩), .slice none 0 0, .pointer (some ⟨bb, 0, none⟩), .pointer (some ⟨bb, 0, none⟩), .pointer (some ⟨bb, 0, none⟩), src, v', .pointer (some ⟨cb, 0, none⟩), .pointer (some ⟨cb, 0, none⟩), u46, u47, u48, u49, u50, u51, u52, u53, u54, u55, u56, u57, u58, u59, u60, u61, u62, u63, u64, u65, u66, u67, u68, u69, u70, u71, u72, u73, u74, u75, u76, u77, u78, u79, u80, u81, u82, u83, u84, u85, u86, u87, u88, u89, u90, u91, u92, u93, u94], []⟩ (wa.setCell ⟨cb, 0, none⟩ v')) :
    Code.wp Tryz.prog (Code.region 2 ops10_2 true) Q ⟨#[.pointer (some ⟨bb, 0, none⟩), u1, u2, .pointer (some ⟨cb, 0, none⟩), u4, u5, u6, u7, u8, u9, u10, u11, u12, u13, u14, u15, u16, u17, u18, u19, u20, u21, u22, u23, u24, u25, u26, u27, u28, u29, u30, u31, u32, u33, u34, u35, u36, u37, u38, u39, u40, u41, u42, u43, u44, u45, u46, u47, u48, u49, u50, u51, u52, u53, u54, u55, u56, u57, u58, u59, u60, u61, u62, u63, u64, u65, u66, u67, u68, u69, u70, u71, u72, u73, u74, u75, u76, u77, u78, u79, u80, u81, u82, u83, u84, u85, u86, u87, u88, u89, u90, u91, u92, u93, u94], []⟩ W := by
  have k0 : Kp W W.drew := (Chg.refl _ _).drew
  have d1 := Kp.cell k0 hc
  have d2 := Kp.cell hk hc
  have d3 : wa.frozen? ⟨cb, 0, none⟩ = false := by rw [Chg.frozen hk (World.block_lt_of_cell? W ⟨cb, 0, none⟩ hc) (fun x => x)]; exact hfr
  have e1 := Kp.cell hk hs
  refine wp_region_held_drew (S := fun w' => w'.cell? ⟨bb, 0, none⟩ = some src) hmx (Kp.cell k0 hs) (fun HSX => ?_)
  clear k0
  obtain ⟨W0, hW0⟩ : ∃ W0, W0 = W.drew := ⟨_, rfl⟩
  rw [← hW0] at HSX d1 hr ⊢
  clear hW0
  refine wpAnyH_take (i := 0) (oi := { dst := some 34, op := Op.move (Operand.tmp 3), type := 33, pos := "ref.go:103", after := #[], guard := none }) (v := .pointer (some ⟨cb, 0, none⟩)) rfl (by kernel_rfl) (by kernel_rfl) (by kernel_rfl) (fun _ _ _ h => hPan _ _ _ _ _ h) (Or.inl ⟨by rfl, ?_⟩) HSX ?_
  · intro wx d0
    go_simp
  simp only [Act.put, List.setIfInBounds_toArray, List.set_cons_zero, List.set_cons_succ]
  refine wpAnyH_take (i := 1) (oi := { dst := some 35, op := Op.move (Operand.tmp 3), type := 33, pos := "ref.go:103", after := #[], guard := none }) (v := .pointer (some ⟨cb, 0, none⟩)) rfl (by kernel_rfl) (by kernel_rfl) (by kernel_rfl) (fun _ _ _ h => hPan _ _ _ _ _ h) (Or.inl ⟨by rfl, ?_⟩) HSX ?_
  · intro wx d0
    go_simp
  simp only [Act.put, List.setIfInBounds_toArray, List.set_cons_zero, List.set_cons_succ]
  refine wpAnyH_take (i := 2) (oi := { dst := some 36, op := Op.nilCheck (Operand.tmp 35), type := 0, pos := "ref.go:103", after := #[{ on := 1, ground := Ground.data }], guard := none }) (v := .pointer (some ⟨cb, 0, none⟩)) rfl (by kernel_rfl) (by kernel_rfl) (by kernel_rfl) (fun _ _ _ h => hPan _ _ _ _ _ h) (Or.inl ⟨by rfl, ?_⟩) HSX ?_
  · intro wx d0
    go_simp
  simp only [Act.put, List.setIfInBounds_toArray, List.set_cons_zero, List.set_cons_succ]
  refine wpAnyH_take (i := 3) (oi := { dst := some 37, op := Op.fieldAddr 36 (Operand.tmp 36) 0, type := 0, pos := "ref.go:103", after := #[{ on := 2, ground := Ground.data }], guard := none }) (v := .pointer (some ⟨cb, 0, none⟩)) rfl (by kernel_rfl) (by kernel_rfl) (by kernel_rfl) (fun _ _ _ h => hPan _ _ _ _ _ h) (Or.inl ⟨by rfl, ?_⟩) HSX ?_
  · intro wx d0
    go_simp
  simp only [Act.put, List.setIfInBounds_toArray, List.set_cons_zero, List.set_cons_succ]
  refine wpAnyH_take (i := 5) (oi := { dst := some 39, op := Op.move (Operand.tmp 0), type := 33, pos := "ref.go:103", after := #[], guard := none }) (v := .pointer (some ⟨bb, 0, none⟩)) rfl (by kernel_rfl) (by kernel_rfl) (by kernel_rfl) (fun _ _ _ h => hPan _ _ _ _ _ h) (Or.inl ⟨by rfl, ?_⟩) HSX ?_
  · intro wx d0
    go_simp
  simp only [Act.put, List.setIfInBounds_toArray, List.set_cons_zero, List.set_cons_succ]
  refine wpAnyH_take (i := 6) (oi := { dst := some 40, op := Op.nilCheck (Operand.tmp 39), type := 0, pos := "ref.go:103", after := #[{ on := 5, ground := Ground.data }], guard := none }) (v := .pointer (some ⟨bb, 0, none⟩)) rfl (by kernel_rfl) (by kernel_rfl) (by kernel_rfl) (fun _ _ _ h => hPan _ _ _ _ _ h) (Or.inl ⟨by rfl, ?_⟩) HSX ?_
  · intro wx d0
    go_simp
  simp only [Act.put, List.setIfInBounds_toArray, List.set_cons_zero, List.set_cons_succ]
  refine wpAnyH_take (i := 7) (oi := { dst := some 41, op := Op.fieldAddr 36 (Operand.tmp 40) 0, type := 0, pos := "ref.go:103", after := #[{ on := 6, ground := Ground.data }], guard := none }) (v := .pointer (some ⟨bb, 0, none⟩)) rfl (by kernel_rfl) (by kernel_rfl) (by kernel_rfl) (fun _ _ _ h => hPan _ _ _ _ _ h) (Or.inl ⟨by rfl, ?_⟩) HSX ?_
  · intro wx d0
    go_simp
  simp only [Act.put, List.setIfInBounds_toArray, List.set_cons_zero, List.set_cons_succ]
  refine wpAnyH_take (i := 8) (oi := { dst := some 42, op := Op.load 26 (Operand.tmp 41), type := 26, pos := "ref.go:103", after := #[{ on := 7, ground := Ground.data }], guard := none }) (v := src) rfl (by kernel_rfl) (by kernel_rfl) (by kernel_rfl) (fun _ _ _ h => hPan _ _ _ _ _ h) (Or.inl ⟨by rfl, ?_⟩) HSX ?_
  · intro wx d0
    go_simp
  simp only [Act.put, List.setIfInBounds_toArray, List.set_cons_zero, List.set_cons_succ]
  refine wpAnyH_ready (rs := [4]) (by kernel_rfl) (by simp) ?_
  refine AllReadyH.cons (o := { dst := some 38, op := Op.load 26 (Operand.tmp 37), type := 26, pos := "ref.go:103", after := #[{ on := 3, ground := Ground.data }], guard := none }) rfl (fun K hK => ?_) AllReadyH.nil
  rw [if_pos (by rfl)]
  go_simp
  refine hK.out _ _ HSX (fun HSX => ?_)
  clear hK K
  refine wpAnyH_ready (rs := [9]) (by kernel_rfl) (by simp) ?_
  refine AllReadyH.cons (o := { dst := some 43, op := Op.call { callee := Callee.builtin Builtin.append, args := #[Operand.tmp 38, Operand.tmp 42], argTypes := #[26, 26] }, type := 26, pos := "ref.go:103", after := #[{ on := 4, ground := Ground.data }, { on := 8, ground := Ground.data }], guard := none }) rfl (fun K hK => ?_) AllReadyH.nil
  refine step_app rfl (.tmp 38) (.tmp 42) 26 26 rfl (.slice none 0 0) src v' wa rfl rfl hr ?_
  simp only [Act.put, List.setIfInBounds_toArray, List.set_cons_zero, List.set_cons_succ]
  refine hK.out _ _ e1 (fun HSX => ?_)
  clear hK K
  refine wpAnyH_take (i := 10) (oi := { dst := some 44, op := Op.nilCheck (Operand.tmp 34), type := 0, pos := "ref.go:103", after := #[{ on := 0, ground := Ground.data }, { on := 0, ground := Ground.phase }, { on := 1, ground := Ground.phase }, { on := 2, ground := Ground.phase }, { on := 3, ground := Ground.phase }, { on := 4, ground := Ground.phase }, { on := 5, ground := Ground.phase }, { on := 6, ground := Ground.phase }, { on := 7, ground := Ground.phase }, { on := 8, ground := Ground.phase }, { on := 9, ground := Ground.phase }], guard := none }) (v := .pointer (some ⟨cb, 0, none⟩)) rfl (by kernel_rfl) (by kernel_rfl) (by kernel_rfl) (fun _ _ _ h => hPan _ _ _ _ _ h) (Or.inl ⟨by rfl, ?_⟩) HSX ?_
  · intro wx d0
    go_simp
  simp only [Act.put, List.setIfInBounds_toArray, List.set_cons_zero, List.set_cons_succ]
  refine wpAnyH_take (i := 11) (oi := { dst := some 45, op := Op.fieldAddr 36 (Operand.tmp 44) 0, type := 0, pos := "ref.go:103", after := #[{ on := 10, ground := Ground.data }, { on := 0, ground := Ground.phase }, { on := 1, ground := Ground.phase }, { on := 2, ground := Ground.phase }, { on := 3, ground := Ground.phase }, { on := 4, ground := Ground.phase }, { on := 5, ground := Ground.phase }, { on := 6, ground := Ground.phase }, { on := 7, ground := Ground.phase }, { on := 8, ground := Ground.phase }, { on := 9, ground := Ground.phase }], guard := none }) (v := .pointer (some ⟨cb, 0, none⟩)) rfl (by kernel_rfl) (by kernel_rfl) (by kernel_rfl) (fun _ _ _ h => hPan _ _ _ _ _ h) (Or.inl ⟨by rfl, ?_⟩) HSX ?_
  · intro wx d0
    go_simp
  simp only [Act.put, List.setIfInBounds_toArray, List.set_cons_zero, List.set_cons_succ]
  rcases hv with rfl | rfl
  all_goals (
    refine wpAnyH_ready (rs := [12]) (by kernel_rfl) (by simp) ?_
    refine AllReadyH.cons (o := { dst := none, op := Op.store 26 (Operand.tmp 45) (Operand.tmp 43), type := 0, pos := "ref.go:103", after := #[{ on := 11, ground := Ground.data }, { on := 9, ground := Ground.data }, { on := 9, ground := Ground.chain }, { on := 0, ground := Ground.phase }, { on := 1, ground := Ground.phase }, { on := 2, ground := Ground.phase }, { on := 3, ground := Ground.phase }, { on := 4, ground := Ground.phase }, { on := 5, ground := Ground.phase }, { on := 6, ground := Ground.phase }, { on := 7, ground := Ground.phase }, { on := 8, ground := Ground.phase }, { on := 9, ground := Ground.phase }], guard := none }) rfl (fun K hK => ?_) AllReadyH.nil
    rw [if_pos (by rfl)]
    go_simp
    refine hK.out _ _ (by rw [World.cell?_setCell_far _ _ _ _ (fun e => hne e)]; exact e1) (fun HSX => ?_)
    clear hK K
    refine wpAnyH_done (by kernel_rfl) ?_ _
    exact hQ)
def ops10_3 : Array Oper := #[{ dst := some 46, op := Op.move (Operand.tmp 3), type := 33, pos := "ref.go:104", after := #[], guard := none },
  { dst := some 47, op := Op.move (Operand.tmp 3), type := 33, pos := "ref.go:104", after := #[], guard := none },
  { dst := some 48, op := Op.nilCheck (Operand.tmp 47), type := 0, pos := "ref.go:104", after := #[{ on := 1, ground := Ground.data }], guard := none },
  { dst := some 49, op := Op.fieldAddr 36 (Operand.tmp 48) 1, type := 0, pos := "ref.go:104", after := #[{ on := 2, ground := Ground.data }], guard := none },
  { dst := some 50, op := Op.load 26 (Operand.tmp 49), type := 26, pos := "ref.go:104", after := #[{ on := 3, ground := Ground.data }], guard := none },
  { dst := some 51, op := Op.move (Operand.tmp 0), type := 33, pos := "ref.go:104", after := #[], guard := none },
  { dst := some 52, op := Op.nilCheck (Operand.tmp 51), type := 0, pos := "ref.go:104", after := #[{ on := 5, ground := Ground.data }], guard := none },
  { dst := some 53, op := Op.fieldAddr 36 (Operand.tmp 52) 1, type := 0, pos := "ref.go:104", after := #[{ on := 6, ground := Ground.data }], guard := none },
  { dst := some 54, op := Op.load 26 (Operand.tmp 53), type := 26, pos := "ref.go:104", after := #[{ on := 7, ground := Ground.data }], guard := none },
  { dst := some 55, op := Op.call { callee := Callee.builtin Builtin.append, args := #[Operand.tmp 50, Operand.tmp 54], argTypes := #[26, 26] }, type := 26, pos := "ref.go:104", after := #[{ on := 4, ground := Ground.data }, { on := 8, ground := Ground.data }], guard := none },
  { dst := some 56, op := Op.nilCheck (Operand.tmp 46), type := 0, pos := "ref.go:104", after := #[{ on := 0, ground := Ground.data }, { on := 0, ground := Ground.phase }, { on := 1, ground := Ground.phase }, { on := 2, ground := Ground.phase }, { on := 3, ground := Ground.phase }, { on := 4, ground := Ground.phase }, { on := 5, ground := Ground.phase }, { on := 6, ground := Ground.phase }, { on := 7, ground := Ground.phase }, { on := 8, ground := Ground.phase }, { on := 9, ground := Ground.phase }], guard := none },
  { dst := some 57, op := Op.fieldAddr 36 (Operand.tmp 56) 1, type := 0, pos := "ref.go:104", after := #[{ on := 10, ground := Ground.data }, { on := 0, ground := Ground.phase }, { on := 1, ground := Ground.phase }, { on := 2, ground := Ground.phase }, { on := 3, ground := Ground.phase }, { on := 4, ground := Ground.phase }, { on := 5, ground := Ground.phase }, { on := 6, ground := Ground.phase }, { on := 7, ground := Ground.phase }, { on := 8, ground := Ground.phase }, { on := 9, ground := Ground.phase }], guard := none },
  { dst := none, op := Op.store 26 (Operand.tmp 57) (Operand.tmp 55), type := 0, pos := "ref.go:104", after := #[{ on := 11, ground := Ground.data }, { on := 9, ground := Ground.data }, { on := 9, ground := Ground.chain }, { on := 0, ground := Ground.phase }, { on := 1, ground := Ground.phase }, { on := 2, ground := Ground.phase }, { on := 3, ground := Ground.phase }, { on := 4, ground := Ground.phase }, { on := 5, ground := Ground.phase }, { on := 6, ground := Ground.phase }, { on := 7, ground := Ground.phase }, { on := 8, ground := Ground.phase }, { on := 9, ground := Ground.phase }], guard := none }]
set_option maxHeartbeats 4000000 in
set_option maxRecDepth 100000 in
theorem reg10_3 (W wa : World) (bb cb : Nat) (src v' : Value) (g n c : Nat) (hne : cb ≠ bb) (hs : W.cell? ⟨bb, 1, none⟩ = some src) (hc : W.cell? ⟨cb, 1, none⟩ = some (.slice none 0 0)) (hfr : W.frozen? ⟨cb, 1, none⟩ = false)
    (hr : (Builtin.append_ #[26, 26] 26 #[.slice none 0 0, src]).run Tryz.prog W.drew = .ok v' wa) (hk : Kp W wa) (hv : v' = .slice none 0 0 ∨ v' = .slice (some ⟨g, 0, none⟩) n c)
    (Q : Exit → Act → World → Prop) (hPan : ∀ c (a : Act) w (d : Option Tmp) v, Q (.panic c) (a.put d v) w → Q (.panic c) a w) {u1 u2 u4 u5 u6 u7 u8 u9 u10 u11 u12 u13 u14 u15 u16 u17 u18 u19 u20 u21 u22 u23 u24 u25 u26 u27 u28 u29 u30 u31 u32 u33 u34 u35 u36 u37 u38 u39 u40 u41 u42 u43 u44 u45 u46 u47 u48 u49 u50 u51 u52 u53 u54 u55 u56 u57 u58 u59 u60 u61 u62 u63 u64 u65 u66 u67 u68 u69 u70 u71 u72 u73 u74 u75 u76 u77 u78 u79 u80 u81 u82 u83 u84 u85 u86 u87 u88 u89 u90 u91 u92 u93 u94 : Value}
    (hQ : Q .normal ⟨#[.pointer (some ⟨bb, 0, none⟩), u1, u2, .pointer (some ⟨cb, 0, none⟩), u4, u5, u6, u7, u8, u9, u10, u11, u12, u13, u14, u15, u16, u17, u18, u19, u20, u21, u22, u23, u24, u25, u26, u27, u28, u29, u30, u31, u32, u33, u34, u35, u36, u37, u38, u39, u40, u41, u42, u43, u44, u45, .pointer (some ⟨cb, 0, none⟩), .pointer (some ⟨cb, 0, none⟩), .pointer (some ⟨cb, 0, none⟩), .pointer (some ⟨cb, 1, none⟩), .slice none 0 0, .pointer (some ⟨bb, 0, none⟩), .pointer (some ⟨bb, 0, none⟩), .pointer (some ⟨bb, 1, none⟩), src, v', .pointer (some ⟨cb, 0, none⟩), .pointer (some ⟨cb, 1, none⟩), u58, u59, u60, u61, u62, u63, u64, u65, u66, u67, u68, u69, u70, u71, u72, u73, u74, u75, u76, u77, u78, u79, u80, u81, u82, u83, u84, u85, u86, u87, u88, u89, u90, u91, u92, u93, u94], []⟩ (wa.setCell ⟨cb, 1, none⟩ v')) :
    Code.wp Tryz.prog (Code.region 3 ops10_3 true) Q ⟨#[.pointer (some ⟨bb, 0, none⟩), u1, u2, .pointer (some ⟨cb, 0, none⟩), u4, u5, u6, u7, u8, u9, u10, u11, u12, u13, u14, u15, u16, u17, u18, u19, u20, u21, u22, u23, u24, u25, u26, u27, u28, u29, u30, u31, u32, u33, u34, u35, u36, u37, u38, u39, u40, u41, u42, u43, u44, u45, u46, u47, u48, u49, u50, u51, u52, u53, u54, u55, u56, u57, u58, u59, u60, u61, u62, u63, u64, u65, u66, u67, u68, u69, u70, u71, u72, u73, u74, u75, u76, u77, u78, u79, u80, u81, u82, u83, u84, u85, u86, u87, u88, u89, u90, u91, u92, u93, u94], []⟩ W := by
  have k0 : Kp W W.drew := (Chg.refl _ _).drew
  have d1 := Kp.cell k0 hc
  have d2 := Kp.cell hk hc
  have d3 : wa.frozen? ⟨cb, 1, none⟩ = false := by rw [Chg.frozen hk (World.block_lt_of_cell? W ⟨cb, 1, none⟩ hc) (fun x => x)]; exact hfr
  have e1 := Kp.cell hk hs
  refine wp_region_held_drew (S := fun w' => w'.cell? ⟨bb, 1, none⟩ = some src) hmx (Kp.cell k0 hs) (fun HSX => ?_)
  clear k0
  obtain ⟨W0, hW0⟩ : ∃ W0, W0 = W.drew := ⟨_, rfl⟩
  rw [← hW0] at HSX d1 hr ⊢
  clear hW0
  refine wpAnyH_take (i := 0) (oi := { dst := some 46, op := Op.move (Operand.tmp 3), type := 33, pos := "ref.go:104", after := #[], guard := none }) (v := .pointer (some ⟨cb, 0, none⟩)) rfl (by kernel_rfl) (by kernel_rfl) (by kernel_rfl) (fun _ _ _ h => hPan _ _ _ _ _ h) (Or.inl ⟨by rfl, ?_⟩) HSX ?_
  · intro wx d0
    go_simp
  simp only [Act.put, List.setIfInBounds_toArray, List.set_cons_zero, List.set_cons_succ]
  refine wpAnyH_take (i := 1) (oi := { dst := some 47, op := Op.move (Operand.tmp 3), type := 33, pos := "ref.go:104", after := #[], guard := none }) (v := .pointer (some ⟨cb, 0, none⟩)) rfl (by kernel_rfl) (by kernel_rfl) (by kernel_rfl) (fun _ _ _ h => hPan _ _ _ _ _ h) (Or.inl ⟨by rfl, ?_⟩) HSX ?_
  · intro wx d0
    go_simp
  simp only [Act.put, List.setIfInBounds_toArray, List.set_cons_zero, List.set_cons_succ]
  refine wpAnyH_take (i := 2) (oi := { dst := some 48, op := Op.nilCheck (Operand.tmp 47), type := 0, pos := "ref.go:104", after := #[{ on := 1, ground := Ground.data }], guard := none }) (v := .pointer (some ⟨cb, 0, none⟩)) rfl (by kernel_rfl) (by kernel_rfl) (by kernel_rfl) (fun _ _ _ h => hPan _ _ _ _ _ h) (Or.inl ⟨by rfl, ?_⟩) HSX ?_
  · intro wx d0
    go_simp
  simp only [Act.put, List.setIfInBounds_toArray, List.set_cons_zero, List.set_cons_succ]
  refine wpAnyH_take (i := 3) (oi := { dst := some 49, op := Op.fieldAddr 36 (Operand.tmp 48) 1, type := 0, pos := "ref.go:104", after := #[{ on := 2, ground := Ground.data }], guard := none }) (v := .pointer (some ⟨cb, 1, none⟩)) rfl (by kernel_rfl) (by kernel_rfl) (by kernel_rfl) (fun _ _ _ h => hPan _ _ _ _ _ h) (Or.inl ⟨by rfl, ?_⟩) HSX ?_
  · intro wx d0
    go_simp
  simp only [Act.put, List.setIfInBounds_toArray, List.set_cons_zero, List.set_cons_succ]
  refine wpAnyH_take (i := 5) (oi := { dst := some 51, op := Op.move (Operand.tmp 0), type := 33, pos := "ref.go:104", after := #[], guard := none }) (v := .pointer (some ⟨bb, 0, none⟩)) rfl (by kernel_rfl) (by kernel_rfl) (by kernel_rfl) (fun _ _ _ h => hPan _ _ _ _ _ h) (Or.inl ⟨by rfl, ?_⟩) HSX ?_
  · intro wx d0
    go_simp
  simp only [Act.put, List.setIfInBounds_toArray, List.set_cons_zero, List.set_cons_succ]
  refine wpAnyH_take (i := 6) (oi := { dst := some 52, op := Op.nilCheck (Operand.tmp 51), type := 0, pos := "ref.go:104", after := #[{ on := 5, ground := Ground.data }], guard := none }) (v := .pointer (some ⟨bb, 0, none⟩)) rfl (by kernel_rfl) (by kernel_rfl) (by kernel_rfl) (fun _ _ _ h => hPan _ _ _ _ _ h) (Or.inl ⟨by rfl, ?_⟩) HSX ?_
  · intro wx d0
    go_simp
  simp only [Act.put, List.setIfInBounds_toArray, List.set_cons_zero, List.set_cons_succ]
  refine wpAnyH_take (i := 7) (oi := { dst := some 53, op := Op.fieldAddr 36 (Operand.tmp 52) 1, type := 0, pos := "ref.go:104", after := #[{ on := 6, ground := Ground.data }], guard := none }) (v := .pointer (some ⟨bb, 1, none⟩)) rfl (by kernel_rfl) (by kernel_rfl) (by kernel_rfl) (fun _ _ _ h => hPan _ _ _ _ _ h) (Or.inl ⟨by rfl, ?_⟩) HSX ?_
  · intro wx d0
    go_simp
  simp only [Act.put, List.setIfInBounds_toArray, List.set_cons_zero, List.set_cons_succ]
  refine wpAnyH_take (i := 8) (oi := { dst := some 54, op := Op.load 26 (Operand.tmp 53), type := 26, pos := "ref.go:104", after := #[{ on := 7, ground := Ground.data }], guard := none }) (v := src) rfl (by kernel_rfl) (by kernel_rfl) (by kernel_rfl) (fun _ _ _ h => hPan _ _ _ _ _ h) (Or.inl ⟨by rfl, ?_⟩) HSX ?_
  · intro wx d0
    go_simp
  simp only [Act.put, List.setIfInBounds_toArray, List.set_cons_zero, List.set_cons_succ]
  refine wpAnyH_ready (rs := [4]) (by kernel_rfl) (by simp) ?_
  refine AllReadyH.cons (o := { dst := some 50, op := Op.load 26 (Operand.tmp 49), type := 26, pos := "ref.go:104", after := #[{ on := 3, ground := Ground.data }], guard := none }) rfl (fun K hK => ?_) AllReadyH.nil
  rw [if_pos (by rfl)]
  go_simp
  refine hK.out _ _ HSX (fun HSX => ?_)
  clear hK K
  refine wpAnyH_ready (rs := [9]) (by kernel_rfl) (by simp) ?_
  refine AllReadyH.cons (o := { dst := some 55, op := Op.call { callee := Callee.builtin Builtin.append, args := #[Operand.tmp 50, Operand.tmp 54], argTypes := #[26, 26] }, type := 26, pos := "ref.go:104", after := #[{ on := 4, ground := Ground.data }, { on := 8, ground := Ground.data }], guard := none }) rfl (fun K hK => ?_) AllReadyH.nil
  refine step_app rfl (.tmp 50) (.tmp 54) 26 26 rfl (.slice none 0 0) src v' wa rfl rfl hr ?_
  simp only [Act.put, List.setIfInBounds_toArray, List.set_cons_zero, List.set_cons_succ]
  refine hK.out _ _ e1 (fun HSX => ?_)
  clear hK K
  refine wpAnyH_take (i := 10) (oi := { dst := some 56, op := Op.nilCheck (Operand.tmp 46), type := 0, pos := "ref.go:104", after := #[{ on := 0, ground := Ground.data }, { on := 0, ground := Ground.phase }, { on := 1, ground := Ground.phase }, { on := 2, ground := Ground.phase }, { on := 3, ground := Ground.phase }, { on := 4, ground := Ground.phase }, { on := 5, ground := Ground.phase }, { on := 6, ground := Ground.phase }, { on := 7, ground := Ground.phase }, { on := 8, ground := Ground.phase }, { on := 9, ground := Ground.phase }], guard := none }) (v := .pointer (some ⟨cb, 0, none⟩)) rfl (by kernel_rfl) (by kernel_rfl) (by kernel_rfl) (fun _ _ _ h => hPan _ _ _ _ _ h) (Or.inl ⟨by rfl, ?_⟩) HSX ?_
  · intro wx d0
    go_simp
  simp only [Act.put, List.setIfInBounds_toArray, List.set_cons_zero, List.set_cons_succ]
  refine wpAnyH_take (i := 11) (oi := { dst := some 57, op := Op.fieldAddr 36 (Operand.tmp 56) 1, type := 0, pos := "ref.go:104", after := #[{ on := 10, ground := Ground.data }, { on := 0, ground := Ground.phase }, { on := 1, ground := Ground.phase }, { on := 2, ground := Ground.phase }, { on := 3, ground := Ground.phase }, { on := 4, ground := Ground.phase }, { on := 5, ground := Ground.phase }, { on := 6, ground := Ground.phase }, { on := 7, ground := Ground.phase }, { on := 8, ground := Ground.phase }, { on := 9, ground := Ground.phase }], guard := none }) (v := .pointer (some ⟨cb, 1, none⟩)) rfl (by kernel_rfl) (by kernel_rfl) (by kernel_rfl) (fun _ _ _ h => hPan _ _ _ _ _ h) (Or.inl ⟨by rfl, ?_⟩) HSX ?_
  · intro wx d0
    go_simp
  simp only [Act.put, List.setIfInBounds_toArray, List.set_cons_zero, List.set_cons_succ]
  rcases hv with rfl | rfl
  all_goals (
    refine wpAnyH_ready (rs := [12]) (by kernel_rfl) (by simp) ?_
    refine AllReadyH.cons (o := { dst := none, op := Op.store 26 (Operand.tmp 57) (Operand.tmp 55), type := 0, pos := "ref.go:104", after := #[{ on := 11, ground := Ground.data }, { on := 9, ground := Ground.data }, { on := 9, ground := Ground.chain }, { on := 0, ground := Ground.phase }, { on := 1, ground := Ground.phase }, { on := 2, ground := Ground.phase }, { on := 3, ground := Ground.phase }, { on := 4, ground := Ground.phase }, { on := 5, ground := Ground.phase }, { on := 6, ground := Ground.phase }, { on := 7, ground := Ground.phase }, { on := 8, ground := Ground.phase }, { on := 9, ground := Ground.phase }], guard := none }) rfl (fun K hK => ?_) AllReadyH.nil
    rw [if_pos (by rfl)]
    go_simp
    refine hK.out _ _ (by rw [World.cell?_setCell_far _ _ _ _ (fun e => hne e)]; exact e1) (fun HSX => ?_)
    clear hK K
    refine wpAnyH_done (by kernel_rfl) ?_ _
    exact hQ)
def ops10_4 : Array Oper := #[{ dst := some 58, op := Op.move (Operand.tmp 3), type := 33, pos := "ref.go:105", after := #[], guard := none },
  { dst := some 59, op := Op.move (Operand.tmp 3), type := 33, pos := "ref.go:105", after := #[], guard := none },
  { dst := some 60, op := Op.nilCheck (Operand.tmp 59), type := 0, pos := "ref.go:105", after := #[{ on := 1, ground := Ground.data }], guard := none },
  { dst := some 61, op := Op.fieldAddr 36 (Operand.tmp 60) 2, type := 0, pos := "ref.go:105", after := #[{ on := 2, ground := Ground.data }], guard := none },
  { dst := some 62, op := Op.load 27 (Operand.tmp 61), type := 27, pos := "ref.go:105", after := #[{ on := 3, ground := Ground.data }], guard := none },
  { dst := some 63, op := Op.move (Operand.tmp 0), type := 33, pos := "ref.go:105", after := #[], guard := none },
  { dst := some 64, op := Op.nilCheck (Operand.tmp 63), type := 0, pos := "ref.go:105", after := #[{ on := 5, ground := Ground.data }], guard := none },
  { dst := some 65, op := Op.fieldAddr 36 (Operand.tmp 64) 2, type := 0, pos := "ref.go:105", after := #[{ on := 6, ground := Ground.data }], guard := none },
  { dst := some 66, op := Op.load 27 (Operand.tmp 65), type := 27, pos := "ref.go:105", after := #[{ on := 7, ground := Ground.data }], guard := none },
  { dst := some 67, op := Op.call { callee := Callee.builtin Builtin.append, args := #[Operand.tmp 62, Operand.tmp 66], argTypes := #[27, 27] }, type := 27, pos := "ref.go:105", after := #[{ on := 4, ground := Ground.data }, { on := 8, ground := Ground.data }], guard := none },
  { dst := some 68, op := Op.nilCheck (Operand.tmp 58), type := 0, pos := "ref.go:105", after := #[{ on := 0, ground := Ground.data }, { on := 0, ground := Ground.phase }, { on := 1, ground := Ground.phase }, { on := 2, ground := Ground.phase }, { on := 3, ground := Ground.phase }, { on := 4, ground := Ground.phase }, { on := 5, ground := Ground.phase }, { on := 6, ground := Ground.phase }, { on := 7, ground := Ground.phase }, { on := 8, ground := Ground.phase }, { on := 9, ground := Ground.phase }], guard := none },
  { dst := some 69, op := Op.fieldAddr 36 (Operand.tmp 68) 2, type := 0, pos := "ref.go:105", after := #[{ on := 10, ground := Ground.data }, { on := 0, ground := Ground.phase }, { on := 1, ground := Ground.phase }, { on := 2, ground := Ground.phase }, { on := 3, ground := Ground.phase }, { on := 4, ground := Ground.phase }, { on := 5, ground := Ground.phase }, { on := 6, ground := Ground.phase }, { on := 7, ground := Ground.phase }, { on := 8, ground := Ground.phase }, { on := 9, ground := Ground.phase }], guard := none },
  { dst := none, op := Op.store 27 (Operand.tmp 69) (Operand.tmp 67), type := 0, pos := "ref.go:105", after := #[{ on := 11, ground := Ground.data }, { on := 9, ground := Ground.data }, { on := 9, ground := Ground.chain }, { on := 0, ground := Ground.phase }, { on := 1, ground := Ground.phase }, { on := 2, ground := Ground.phase }, { on := 3, ground := Ground.phase }, { on := 4, ground := Ground.phase }, { on := 5, ground := Ground.phase }, { on := 6, ground := Ground.phase }, { on := 7, ground := Ground.phase }, { on := 8, ground := Ground.phase }, { on := 9, ground := Ground.phase }], guard := none }]
set_option maxHeartbeats 4000000 in
set_option maxRecDepth 100000 in
theorem reg10_4 (W wa : World) (bb cb : Nat) (src v' : Value) (g n c : Nat) (hne : cb ≠ bb) (hs : W.cell? ⟨bb, 2, none⟩ = some src) (hc : W.cell? ⟨cb, 2, none⟩ = some (.slice none 0 0)) (hfr : W.frozen? ⟨cb, 2, none⟩ = false)
    (hr : (Builtin.append_ #[27, 27] 27 #[.slice none 0 0, src]).run Tryz.prog W.drew = .ok v' wa) (hk : Kp W wa) (hv : v' = .slice none 0 0 ∨ v' = .slice (some ⟨g, 0, none⟩) n c)
    (Q : Exit → Act → World → Prop) (hPan : ∀ c (a : Act) w (d : Option Tmp) v, Q (.panic c) (a.put d v) w → Q (.panic c) a w) {u1 u2 u4 u5 u6 u7 u8 u9 u10 u11 u12 u13 u14 u15 u16 u17 u18 u19 u20 u21 u22 u23 u24 u25 u26 u27 u28 u29 u30 u31 u32 u33 u34 u35 u36 u37 u38 u39 u40 u41 u42 u43 u44 u45 u46 u47 u48 u49 u50 u51 u52 u53 u54 u55 u56 u57 u58 u59 u60 u61 u62 u63 u64 u65 u66 u67 u68 u69 u70 u71 u72 u73 u74 u75 u76 u77 u78 u79 u80 u81 u82 u83 u84 u85 u86 u87 u88 u89 u90 u91 u92 u93 u94 : Value}
    (hQ : Q .normal ⟨#[.pointer (some ⟨bb, 0, none⟩), u1, u2, .pointer (some ⟨cb, 0, none⟩), u4, u5, u6, u7, u8, u9, u10, u11, u12, u13, u14, u15, u16, u17, u18, u19, u20, u21, u22, u23, u24, u25, u26, u27, u28, u29, u30, u31, u32, u33, u34, u35, u36, u37, u38, u39, u40, u41, u42, u43, u44, u45, u46, u47, u48, u49, u50, u51, u52, u53, u54, u55, u56, u57, .pointer (some ⟨cb, 0, none⟩), .pointer (some ⟨cb, 0, none⟩), .pointer (some ⟨cb, 0, none⟩), .pointer (some ⟨cb, 2, none⟩), .slice none 0 0, .pointer (some ⟨bb, 0, none⟩), .pointer (some ⟨bb, 0, none⟩), .pointer (some ⟨bb, 2, none⟩), src, v', .pointer (some ⟨cb, 0, none⟩), .pointer (some ⟨cb, 2, none⟩), u70, u71, u72, u73, u74, u75, u76, u77, u78, u79, u80, u81, u82, u83, u84, u85, u86, u87, u88, u89, u90, u91, u92, u93, u94], []⟩ (wa.setCell ⟨cb, 2, none⟩ v')) :
    Code.wp Tryz.prog (Code.region 4 ops10_4 true) Q ⟨#[.pointer (some ⟨bb, 0, none⟩), u1, u2, .pointer (some ⟨cb, 0, none⟩), u4, u5, u6, u7, u8, u9, u10, u11, u12, u13, u14, u15, u16, u17, u18, u19, u20, u21, u22, u23, u24, u25, u26, u27, u28, u29, u30, u31, u32, u33, u34, u35, u36, u37, u38, u39, u40, u41, u42, u43, u44, u45, u46, u47, u48, u49, u50, u51, u52, u53, u54, u55, u56, u57, u58, u59, u60, u61, u62, u63, u64, u65, u66, u67, u68, u69, u70, u71, u72, u73, u74, u75, u76, u77, u78, u79, u80, u81, u82, u83, u84, u85, u86, u87, u88, u89, u90, u91, u92, u93, u94], []⟩ W := by
  have k0 : Kp W W.drew := (Chg.refl _ _).drew
  have d1 := Kp.cell k0 hc
  have d2 := Kp.cell hk hc
  have d3 : wa.frozen? ⟨cb, 2, none⟩ = false := by rw [Chg.frozen hk (World.block_lt_of_cell? W ⟨cb, 2, none⟩ hc) (fun x => x)]; exact hfr
  have e1 := Kp.cell hk hs
  refine wp_region_held_drew (S := fun w' => w'.cell? ⟨bb, 2, none⟩ = some src) hmx (Kp.cell k0 hs) (fun HSX => ?_)
  clear k0
  obtain ⟨W0, hW0⟩ : ∃ W0, W0 = W.drew := ⟨_, rfl⟩
  rw [← hW0] at HSX d1 hr ⊢
  clear hW0
  refine wpAnyH_take (i := 0) (oi := { dst := some 58, op := Op.move (Operand.tmp 3), type := 33, pos := "ref.go:105", after := #[], guard := none }) (v := .pointer (some ⟨cb, 0, none⟩)) rfl (by kernel_rfl) (by kernel_rfl) (by kernel_rfl) (fun _ _ _ h => hPan _ _ _ _ _ h) (Or.inl ⟨by rfl, ?_⟩) HSX ?_
  · intro wx d0
    go_simp
  simp only [Act.put, List.setIfInBounds_toArray, List.set_cons_zero, List.set_cons_succ]
  refine wpAnyH_take (i := 1) (oi := { dst := some 59, op := Op.move (Operand.tmp 3), type := 33, pos := "ref.go:105", after := #[], guard := none }) (v := .pointer (some ⟨cb, 0, none⟩)) rfl (by kernel_rfl) (by kernel_rfl) (by kernel_rfl) (fun _ _ _ h => hPan _ _ _ _ _ h) (Or.inl ⟨by rfl, ?_⟩) HSX ?_
  · intro wx d0
    go_simp
  simp only [Act.put, List.setIfInBounds_toArray, List.set_cons_zero, List.set_cons_succ]
  refine wpAnyH_take (i := 2) (oi := { dst := some 60, op := Op.nilCheck (Operand.tmp 59), type := 0, pos := "ref.go:105", after := #[{ on := 1, ground := Ground.data }], guard := none }) (v := .pointer (some ⟨cb, 0, none⟩)) rfl (by kernel_rfl) (by kernel_rfl) (by kernel_rfl) (fun _ _ _ h => hPan _ _ _ _ _ h) (Or.inl ⟨by rfl, ?_⟩) HSX ?_
  · intro wx d0
    go_simp
  simp only [Act.put, List.setIfInBounds_toArray, List.set_cons_zero, List.set_cons_succ]
  refine wpAnyH_take (i := 3) (oi := { dst := some 61, op := Op.fieldAddr 36 (Operand.tmp 60) 2, type := 0, pos := "ref.go:105", after := #[{ on := 2, ground := Ground.data }], guard := none }) (v := .pointer (some ⟨cb, 2, none⟩)) rfl (by kernel_rfl) (by kernel_rfl) (by kernel_rfl) (fun _ _ _ h => hPan _ _ _ _ _ h) (Or.inl ⟨by rfl, ?_⟩) HSX ?_
  · intro wx d0
    go_simp
  simp only [Act.put, List.setIfInBounds_toArray, List.set_cons_zero, List.set_cons_succ]
  refine wpAnyH_take (i := 5) (oi := { dst := some 63, op := Op.move (Operand.tmp 0), type := 33, pos := "ref.go:105", after := #[], guard := none }) (v := .pointer (some ⟨bb, 0, none⟩)) rfl (by kernel_rfl) (by kernel_rfl) (by kernel_rfl) (fun _ _ _ h => hPan _ _ _ _ _ h) (Or.inl ⟨by rfl, ?_⟩) HSX ?_
  · intro wx d0
    go_simp
  simp only [Act.put, List.setIfInBounds_toArray, List.set_cons_zero, List.set_cons_succ]
  refine wpAnyH_take (i := 6) (oi := { dst := some 64, op := Op.nilCheck (Operand.tmp 63), type := 0, pos := "ref.go:105", after := #[{ on := 5, ground := Ground.data }], guard := none }) (v := .pointer (some ⟨bb, 0, none⟩)) rfl (by kernel_rfl) (by kernel_rfl) (by kernel_rfl) (fun _ _ _ h => hPan _ _ _ _ _ h) (Or.inl ⟨by rfl, ?_⟩) HSX ?_
  · intro wx d0
    go_simp
  simp only [Act.put, List.setIfInBounds_toArray, List.set_cons_zero, List.set_cons_succ]
  refine wpAnyH_take (i := 7) (oi := { dst := some 65, op := Op.fieldAddr 36 (Operand.tmp 64) 2, type := 0, pos := "ref.go:105", after := #[{ on := 6, ground := Ground.data }], guard := none }) (v := .pointer (some ⟨bb, 2, none⟩)) rfl (by kernel_rfl) (by kernel_rfl) (by kernel_rfl) (fun _ _ _ h => hPan _ _ _ _ _ h) (Or.inl ⟨by rfl, ?_⟩) HSX ?_
  · intro wx d0
    go_simp
  simp only [Act.put, List.setIfInBounds_toArray, List.set_cons_zero, List.set_cons_succ]
  refine wpAnyH_take (i := 8) (oi := { dst := some 66, op := Op.load 27 (Operand.tmp 65), type := 27, pos := "ref.go:105", after := #[{ on := 7, ground := Ground.data }], guard := none }) (v := src) rfl (by kernel_rfl) (by kernel_rfl) (by kernel_rfl) (fun _ _ _ h => hPan _ _ _ _ _ h) (Or.inl ⟨by rfl, ?_⟩) HSX ?_
  · intro wx d0
    go_simp
  simp only [Act.put, List.setIfInBounds_toArray, List.set_cons_zero, List.set_cons_succ]
  refine wpAnyH_ready (rs := [4]) (by kernel_rfl) (by simp) ?_
  refine AllReadyH.cons (o := { dst := some 62, op := Op.load 27 (Operand.tmp 61), type := 27, pos := "ref.go:105", after := #[{ on := 3, ground := Ground.data }], guard := none }) rfl (fun K hK => ?_) AllReadyH.nil
  rw [if_pos (by rfl)]
  go_simp
  refine hK.out _ _ HSX (fun HSX => ?_)
  clear hK K
  refine wpAnyH_ready (rs := [9]) (by kernel_rfl) (by simp) ?_
  refine AllReadyH.cons (o := { dst := some 67, op := Op.call { callee := Callee.builtin Builtin.append, args := #[Operand.tmp 62, Operand.tmp 66], argTypes := #[27, 27] }, type := 27, pos := "ref.go:105", after := #[{ on := 4, ground := Ground.data }, { on := 8, ground := Ground.data }], guard := none }) rfl (fun K hK => ?_) AllReadyH.nil
  refine step_app rfl (.tmp 62) (.tmp 66) 27 27 rfl (.slice none 0 0) src v' wa rfl rfl hr ?_
  simp only [Act.put, List.setIfInBounds_toArray, List.set_cons_zero, List.set_cons_succ]
  refine hK.out _ _ e1 (fun HSX => ?_)
  clear hK K
  refine wpAnyH_take (i := 10) (oi := { dst := some 68, op := Op.nilCheck (Operand.tmp 58), type := 0, pos := "ref.go:105", after := #[{ on := 0, ground := Ground.data }, { on := 0, ground := Ground.phase }, { on := 1, ground := Ground.phase }, { on := 2, ground := Ground.phase }, { on := 3, ground := Ground.phase }, { on := 4, ground := Ground.phase }, { on := 5, ground := Ground.phase }, { on := 6, ground := Ground.phase }, { on := 7, ground := Ground.phase }, { on := 8, ground := Ground.phase }, { on := 9, ground := Ground.phase }], guard := none }) (v := .pointer (some ⟨cb, 0, none⟩)) rfl (by kernel_rfl) (by kernel_rfl) (by kernel_rfl) (fun _ _ _ h => hPan _ _ _ _ _ h) (Or.inl ⟨by rfl, ?_⟩) HSX ?_
  · intro wx d0
    go_simp
  simp only [Act.put, List.setIfInBounds_toArray, List.set_cons_zero, List.set_cons_succ]
  refine wpAnyH_take (i := 11) (oi := { dst := some 69, op := Op.fieldAddr 36 (Operand.tmp 68) 2, type := 0, pos := "ref.go:105", after := #[{ on := 10, ground := Ground.data }, { on := 0, ground := Ground.phase }, { on := 1, ground := Ground.phase }, { on := 2, ground := Ground.phase }, { on := 3, ground := Ground.phase }, { on := 4, ground := Ground.phase }, { on := 5, ground := Ground.phase }, { on := 6, ground := Ground.phase }, { on := 7, ground := Ground.phase }, { on := 8, ground := Ground.phase }, { on := 9, ground := Ground.phase }], guard := none }) (v := .pointer (some ⟨cb, 2, none⟩)) rfl (by kernel_rfl) (by kernel_rfl) (by kernel_rfl) (fun _ _ _ h => hPan _ _ _ _ _ h) (Or.inl ⟨by rfl, ?_⟩) HSX ?_
  · intro wx d0
    go_simp
  simp only [Act.put, List.setIfInBounds_toArray, List.set_cons_zero, List.set_cons_succ]
  rcases hv with rfl | rfl
  all_goals (
    refine wpAnyH_ready (rs := [12]) (by kernel_rfl) (by simp) ?_
    refine AllReadyH.cons (o := { dst := none, op := Op.store 27 (Operand.tmp 69) (Operand.tmp 67), type := 0, pos := "ref.go:105", after := #[{ on := 11, ground := Ground.data }, { on := 9, ground := Ground.data }, { on := 9, ground := Ground.chain }, { on := 0, ground := Ground.phase }, { on := 1, ground := Ground.phase }, { on := 2, ground := Ground.phase }, { on := 3, ground := Ground.phase }, { on := 4, ground := Ground.phase }, { on := 5, ground := Ground.phase }, { on := 6, ground := Ground.phase }, { on := 7, ground := Ground.phase }, { on := 8, ground := Ground.phase }, { on := 9, ground := Ground.phase }], guard := none }) rfl (fun K hK => ?_) AllReadyH.nil
    rw [if_pos (by rfl)]
    go_simp
    refine hK.out _ _ (by rw [World.cell?_setCell_far _ _ _ _ (fun e => hne e)]; exact e1) (fun HSX => ?_)
    clear hK K
    refine wpAnyH_done (by kernel_rfl) ?_ _
    exact hQ)
def ops10_5 : Array Oper := #[{ dst := some 70, op := Op.move (Operand.tmp 3), type := 33, pos := "ref.go:106", after := #[], guard := none },
  { dst := some 71, op := Op.move (Operand.tmp 3), type := 33, pos := "ref.go:106", after := #[], guard := none },
  { dst := some 72, op := Op.nilCheck (Operand.tmp 71), type := 0, pos := "ref.go:106", after := #[{ on := 1, ground := Ground.data }], guard := none },
  { dst := some 73, op := Op.fieldAddr 36 (Operand.tmp 72) 3, type := 0, pos := "ref.go:106", after := #[{ on := 2, ground := Ground.data }], guard := none },
  { dst := some 74, op := Op.load 28 (Operand.tmp 73), type := 28, pos := "ref.go:106", after := #[{ on := 3, ground := Ground.data }], guard := none },
  { dst := some 75, op := Op.move (Operand.tmp 0), type := 33, pos := "ref.go:106", after := #[], guard := none },
  { dst := some 76, op := Op.nilCheck (Operand.tmp 75), type := 0, pos := "ref.go:106", after := #[{ on := 5, ground := Ground.data }], guard := none },
  { dst := some 77, op := Op.fieldAddr 36 (Operand.tmp 76) 3, type := 0, pos := "ref.go:106", after := #[{ on := 6, ground := Ground.data }], guard := none },
  { dst := some 78, op := Op.load 28 (Operand.tmp 77), type := 28, pos := "ref.go:106", after := #[{ on := 7, ground := Ground.data }], guard := none },
  { dst := some 79, op := Op.call { callee := Callee.builtin Builtin.append, args := #[Operand.tmp 74, Operand.tmp 78], argTypes := #[28, 28] }, type := 28, pos := "ref.go:106", after := #[{ on := 4, ground := Ground.data }, { on := 8, ground := Ground.data }], guard := none },
  { dst := some 80, op := Op.nilCheck (Operand.tmp 70), type := 0, pos := "ref.go:106", after := #[{ on := 0, ground := Ground.data }, { on := 0, ground := Ground.phase }, { on := 1, ground := Ground.phase }, { on := 2, ground := Ground.phase }, { on := 3, ground := Ground.phase }, { on := 4, ground := Ground.phase }, { on := 5, ground := Ground.phase }, { on := 6, ground := Ground.phase }, { on := 7, ground := Ground.phase }, { on := 8, ground := Ground.phase }, { on := 9, ground := Ground.phase }], guard := none },
  { dst := some 81, op := Op.fieldAddr 36 (Operand.tmp 80) 3, type := 0, pos := "ref.go:106", after := #[{ on := 10, ground := Ground.data }, { on := 0, ground := Ground.phase }, { on := 1, ground := Ground.phase }, { on := 2, ground := Ground.phase }, { on := 3, ground := Ground.phase }, { on := 4, ground := Ground.phase }, { on := 5, ground := Ground.phase }, { on := 6, ground := Ground.phase }, { on := 7, ground := Ground.phase }, { on := 8, ground := Ground.phase }, { on := 9, ground := Ground.phase }], guard := none },
  { dst := none, op := Op.store 28 (Operand.tmp 81) (Operand.tmp 79), type := 0, pos := "ref.go:106", after := #[{ on := 11, ground := Ground.data }, { on := 9, ground := Ground.data }, { on := 9, ground := Ground.chain }, { on := 0, ground := Ground.phase }, { on := 1, ground := Ground.phase }, { on := 2, ground := Ground.phase }, { on := 3, ground := Ground.phase }, { on := 4, ground := Ground.phase }, { on := 5, ground := Ground.phase }, { on := 6, ground := Ground.phase }, { on := 7, ground := Ground.phase }, { on := 8, ground := Ground.phase }, { on := 9, ground := Ground.phase }], guard := none }]
set_option maxHeartbeats 4000000 in
set_option maxRecDepth 100000 in
theorem reg10_5 (W wa : World) (bb cb : Nat) (src v' : Value) (g n c : Nat) (hne : cb ≠ bb) (hs : W.cell? ⟨bb, 3, none⟩ = some src) (hc : W.cell? ⟨cb, 3, none⟩ = some (.slice none 0 0)) (hfr : W.frozen? ⟨cb, 3, none⟩ = false)
    (hr : (Builtin.append_ #[28, 28] 28 #[.slice none 0 0, src]).run Tryz.prog W.drew = .ok v' wa) (hk : Kp W wa) (hv : v' = .slice none 0 0 ∨ v' = .slice (some ⟨g, 0, none⟩) n c)
    (Q : Exit → Act → World → Prop) (hPan : ∀ c (a : Act) w (d : Option Tmp) v, Q (.panic c) (a.put d v) w → Q (.panic c) a w) {u1 u2 u4 u5 u6 u7 u8 u9 u10 u11 u12 u13 u14 u15 u16 u17 u18 u19 u20 u21 u22 u23 u24 u25 u26 u27 u28 u29 u30 u31 u32 u33 u34 u35 u36 u37 u38 u39 u40 u41 u42 u43 u44 u45 u46 u47 u48 u49 u50 u51 u52 u53 u54 u55 u56 u57 u58 u59 u60 u61 u62 u63 u64 u65 u66 u67 u68 u69 u70 u71 u72 u73 u74 u75 u76 u77 u78 u79 u80 u81 u82 u83 u84 u85 u86 u87 u88 u89 u90 u91 u92 u93 u94 : Value}
    (hQ : Q .normal ⟨#[.pointer (some ⟨bb, 0, none⟩), u1, u2, .pointer (some ⟨cb, 0, none⟩), u4, u5, u6, u7, u8, u9, u10, u11, u12, u13, u14, u15, u16, u17, u18, u19, u20, u21, u22, u23, u24, u25, u26, u27, u28, u29, u30, u31, u32, u33, u34, u35, u36, u37, u38, u39, u40, u41, u42, u43, u44, u45, u46, u47, u48, u49, u50, u51, u52, u53, u54, u55, u56, u57, u58, u59, u60, u61, u62, u63, u64, u65, u66, u67, u68, u69, .pointer (some ⟨cb, 0, none⟩), .pointer (some ⟨cb, 0, none⟩), .pointer (some ⟨cb, 0, none⟩), .pointer (some ⟨cb, 3, none⟩), .slice none 0 0, .pointer (some ⟨bb, 0, none⟩), .pointer (some ⟨bb, 0, none⟩), .pointer (some ⟨bb, 3, none⟩), src, v', .pointer (some ⟨cb, 0, none⟩), .pointer (some ⟨cb, 3, none⟩), u82, u83, u84, u85, u86, u87, u88, u89, u90, u91, u92, u93, u94], []⟩ (wa.setCell ⟨cb, 3, none⟩ v')) :
    Code.wp Tryz.prog (Code.region 5 ops10_5 true) Q ⟨#[.pointer (some ⟨bb, 0, none⟩), u1, u2, .pointer (some ⟨cb, 0, none⟩), u4, u5, u6, u7, u8, u9, u10, u11, u12, u13, u14, u15, u16, u17, u18, u19, u20, u21, u22, u23, u24, u25, u26, u27, u28, u29, u30, u31, u32, u33, u34, u35, u36, u37, u38, u39, u40, u41, u42, u43, u44, u45, u46, u47, u48, u49, u50, u51, u52, u53, u54, u55, u56, u57, u58, u59, u60, u61, u62, u63, u64, u65, u66, u67, u68, u69, u70, u71, u72, u73, u74, u75, u76, u77, u78, u79, u80, u81, u82, u83, u84, u85, u86, u87, u88, u89, u90, u91, u92, u93, u94], []⟩ W := by
  have k0 : Kp W W.drew := (Chg.refl _ _).drew
  have d1 := Kp.cell k0 hc
  have d2 := Kp.cell hk hc
  have d3 : wa.frozen? ⟨cb, 3, none⟩ = false := by rw [Chg.frozen hk (World.block_lt_of_cell? W ⟨cb, 3, none⟩ hc) (fun x => x)]; exact hfr
  have e1 := Kp.cell hk hs
  refine wp_region_held_drew (S := fun w' => w'.cell? ⟨bb, 3, none⟩ = some src) hmx (Kp.cell k0 hs) (fun HSX => ?_)
  clear k0
  obtain ⟨W0, hW0⟩ : ∃ W0, W0 = W.drew := ⟨_, rfl⟩
  rw [← hW0] at HSX d1 hr ⊢
  clear hW0
  refine wpAnyH_take (i := 0) (oi := { dst := some 70, op := Op.move (Operand.tmp 3), type := 33, pos := "ref.go:106", after := #[], guard := none }) (v := .pointer (some ⟨cb, 0, none⟩)) rfl (by kernel_rfl) (by kernel_rfl) (by kernel_rfl) (fun _ _ _ h => hPan _ _ _ _ _ h) (Or.inl ⟨by rfl, ?_⟩) HSX ?_
  · intro wx d0
    go_simp
  simp only [Act.put, List.setIfInBounds_toArray, List.set_cons_zero, List.set_cons_succ]
  refine wpAnyH_take (i := 1) (oi := { dst := some 71, op := Op.move (Operand.tmp 3), type := 33, pos := "ref.go:106", after := #[], guard := none }) (v := .pointer (some ⟨cb, 0, none⟩)) rfl (by kernel_rfl) (by kernel_rfl) (by kernel_rfl) (fun _ _ _ h => hPan _ _ _ _ _ h) (Or.inl ⟨by rfl, ?_⟩) HSX ?_
  · intro wx d0
    go_simp
  simp only [Act.put, List.setIfInBounds_toArray, List.set_cons_zero, List.set_cons_succ]
  refine wpAnyH_take (i := 2) (oi := { dst := some 72, op := Op.nilCheck (Operand.tmp 71), type := 0, pos := "ref.go:106", after := #[{ on := 1, ground := Ground.data }], guard := none }) (v := .pointer (some ⟨cb, 0, none⟩)) rfl (by kernel_rfl) (by kernel_rfl) (by kernel_rfl) (fun _ _ _ h => hPan _ _ _ _ _ h) (Or.inl ⟨by rfl, ?_⟩) HSX ?_
  · intro wx d0
    go_simp
  simp only [Act.put, List.setIfInBounds_toArray, List.set_cons_zero, List.set_cons_succ]
  refine wpAnyH_take (i := 3) (oi := { dst := some 73, op := Op.fieldAddr 36 (Operand.tmp 72) 3, type := 0, pos := "ref.go:106", after := #[{ on := 2, ground := Ground.data }], guard := none }) (v := .pointer (some ⟨cb, 3, none⟩)) rfl (by kernel_rfl) (by kernel_rfl) (by kernel_rfl) (fun _ _ _ h => hPan _ _ _ _ _ h) (Or.inl ⟨by rfl, ?_⟩) HSX ?_
  · intro wx d0
    go_simp
  simp only [Act.put, List.setIfInBounds_toArray, List.set_cons_zero, List.set_cons_succ]
  refine wpAnyH_take (i := 5) (oi := { dst := some 75, op := Op.move (Operand.tmp 0), type := 33, pos := "ref.go:106", after := #[], guard := none }) (v := .pointer (some ⟨bb, 0, none⟩)) rfl (by kernel_rfl) (by kernel_rfl) (by kernel_rfl) (fun _ _ _ h => hPan _ _ _ _ _ h) (Or.inl ⟨by rfl, ?_⟩) HSX ?_
  · intro wx d0
    go_simp
  simp only [Act.put, List.setIfInBounds_toArray, List.set_cons_zero, List.set_cons_succ]
  refine wpAnyH_take (i := 6) (oi := { dst := some 76, op := Op.nilCheck (Operand.tmp 75), type := 0, pos := "ref.go:106", after := #[{ on := 5, ground := Ground.data }], guard := none }) (v := .pointer (some ⟨bb, 0, none⟩)) rfl (by kernel_rfl) (by kernel_rfl) (by kernel_rfl) (fun _ _ _ h => hPan _ _ _ _ _ h) (Or.inl ⟨by rfl, ?_⟩) HSX ?_
  · intro wx d0
    go_simp
  simp only [Act.put, List.setIfInBounds_toArray, List.set_cons_zero, List.set_cons_succ]
  refine wpAnyH_take (i := 7) (oi := { dst := some 77, op := Op.fieldAddr 36 (Operand.tmp 76) 3, type := 0, pos := "ref.go:106", after := #[{ on := 6, ground := Ground.data }], guard := none }) (v := .pointer (some ⟨bb, 3, none⟩)) rfl (by kernel_rfl) (by kernel_rfl) (by kernel_rfl) (fun _ _ _ h => hPan _ _ _ _ _ h) (Or.inl ⟨by rfl, ?_⟩) HSX ?_
  · intro wx d0
    go_simp
  simp only [Act.put, List.setIfInBounds_toArray, List.set_cons_zero, List.set_cons_succ]
  refine wpAnyH_take (i := 8) (oi := { dst := some 78, op := Op.load 28 (Operand.tmp 77), type := 28, pos := "ref.go:106", after := #[{ on := 7, ground := Ground.data }], guard := none }) (v := src) rfl (by kernel_rfl) (by kernel_rfl) (by kernel_rfl) (fun _ _ _ h => hPan _ _ _ _ _ h) (Or.inl ⟨by rfl, ?_⟩) HSX ?_
  · intro wx d0
    go_simp
  simp only [Act.put, List.setIfInBounds_toArray, List.set_cons_zero, List.set_cons_succ]
  refine wpAnyH_ready (rs := [4]) (by kernel_rfl) (by simp) ?_
  refine AllReadyH.cons (o := { dst := some 74, op := Op.load 28 (Operand.tmp 73), type := 28, pos := "ref.go:106", after := #[{ on := 3, ground := Ground.data }], guard := none }) rfl (fun K hK => ?_) AllReadyH.nil
  rw [if_pos (by rfl)]
  go_simp
  refine hK.out _ _ HSX (fun HSX => ?_)
  clear hK K
  refine wpAnyH_ready (rs := [9]) (by kernel_rfl) (by simp) ?_
  refine AllReadyH.cons (o := { dst := some 79, op := Op.call { callee := Callee.builtin Builtin.append, args := #[Operand.tmp 74, Operand.tmp 78], argTypes := #[28, 28] }, type := 28, pos := "ref.go:106", after := #[{ on := 4, ground := Ground.data }, { on := 8, ground := Ground.data }], guard := none }) rfl (fun K hK => ?_) AllReadyH.nil
  refine step_app rfl (.tmp 74) (.tmp 78) 28 28 rfl (.slice none 0 0) src v' wa rfl rfl hr ?_
  simp only [Act.put, List.setIfInBounds_toArray, List.set_cons_zero, List.set_cons_succ]
  refine hK.out _ _ e1 (fun HSX => ?_)
  clear hK K
  refine wpAnyH_take (i := 10) (oi := { dst := some 80, op := Op.nilCheck (Operand.tmp 70), type := 0, pos := "ref.go:106", after := #[{ on := 0, ground := Ground.data }, { on := 0, ground := Ground.phase }, { on := 1, ground := Ground.phase }, { on := 2, ground := Ground.phase }, { on := 3, ground := Ground.phase }, { on := 4, ground := Ground.phase }, { on := 5, ground := Ground.phase }, { on := 6, ground := Ground.phase }, { on := 7, ground := Ground.phase }, { on := 8, ground := Ground.phase }, { on := 9, ground := Ground.phase }], guard := none }) (v := .pointer (some ⟨cb, 0, none⟩)) rfl (by kernel_rfl) (by kernel_rfl) (by kernel_rfl) (fun _ _ _ h => hPan _ _ _ _ _ h) (Or.inl ⟨by rfl, ?_⟩) HSX ?_
  · intro wx d0
    go_simp
  simp only [Act.put, List.setIfInBounds_toArray, List.set_cons_zero, List.set_cons_succ]
  refine wpAnyH_take (i := 11) (oi := { dst := some 81, op := Op.fieldAddr 36 (Operand.tmp 80) 3, type := 0, pos := "ref.go:106", after := #[{ on := 10, ground := Ground.data }, { on := 0, ground := Ground.phase }, { on := 1, ground := Ground.phase }, { on := 2, ground := Ground.phase }, { on := 3, ground := Ground.phase }, { on := 4, ground := Ground.phase }, { on := 5, ground := Ground.phase }, { on := 6, ground := Ground.phase }, { on := 7, ground := Ground.phase }, { on := 8, ground := Ground.phase }, { on := 9, ground := Ground.phase }], guard := none }) (v := .pointer (some ⟨cb, 3, none⟩)) rfl (by kernel_rfl) (by kernel_rfl) (by kernel_rfl) (fun _ _ _ h => hPan _ _ _ _ _ h) (Or.inl ⟨by rfl, ?_⟩) HSX ?_
  · intro wx d0
    go_simp
  simp only [Act.put, List.setIfInBounds_toArray, List.set_cons_zero, List.set_cons_succ]
  rcases hv with rfl | rfl
  all_goals (
    refine wpAnyH_ready (rs := [12]) (by kernel_rfl) (by simp) ?_
    refine AllReadyH.cons (o := { dst := none, op := Op.store 28 (Operand.tmp 81) (Operand.tmp 79), type := 0, pos := "ref.go:106", after := #[{ on := 11, ground := Ground.data }, { on := 9, ground := Ground.data }, { on := 9, ground := Ground.chain }, { on := 0, ground := Ground.phase }, { on := 1, ground := Ground.phase }, { on := 2, ground := Ground.phase }, { on := 3, ground := Ground.phase }, { on := 4, ground := Ground.phase }, { on := 5, ground := Ground.phase }, { on := 6, ground := Ground.phase }, { on := 7, ground := Ground.phase }, { on := 8, ground := Ground.phase }, { on := 9, ground := Ground.phase }], guard := none }) rfl (fun K hK => ?_) AllReadyH.nil
    rw [if_pos (by rfl)]
    go_simp
    refine hK.out _ _ (by rw [World.cell?_setCell_far _ _ _ _ (fun e => hne e)]; exact e1) (fun HSX => ?_)
    clear hK K
    refine wpAnyH_done (by kernel_rfl) ?_ _
    exact hQ)
def ops10_6 : Array Oper := #[{ dst := some 82, op := Op.move (Operand.tmp 3), type := 33, pos := "ref.go:107", after := #[], guard := none },
  { dst := some 83, op := Op.move (Operand.tmp 3), type := 33, pos := "ref.go:107", after := #[], guard := none },
  { dst := some 84, op := Op.nilCheck (Operand.tmp 83), type := 0, pos := "ref.go:107", after := #[{ on := 1, ground := Ground.data }], guard := none },
  { dst := some 85, op := Op.fieldAddr 36 (Operand.tmp 84) 7, type := 0, pos := "ref.go:107", after := #[{ on := 2, ground := Ground.data }], guard := none },
  { dst := some 86, op := Op.load 34 (Operand.tmp 85), type := 34, pos := "ref.go:107", after := #[{ on := 3, ground := Ground.data }], guard := none },
  { dst := some 87, op := Op.move (Operand.tmp 0), type := 33, pos := "ref.go:107", after := #[], guard := none },
  { dst := some 88, op := Op.nilCheck (Operand.tmp 87), type := 0, pos := "ref.go:107", after := #[{ on := 5, ground := Ground.data }], guard := none },
  { dst := some 89, op := Op.fieldAddr 36 (Operand.tmp 88) 7, type := 0, pos := "ref.go:107", after := #[{ on := 6, ground := Ground.data }], guard := none },
  { dst := some 90, op := Op.load 34 (Operand.tmp 89), type := 34, pos := "ref.go:107", after := #[{ on := 7, ground := Ground.data }], guard := none },
  { dst := some 91, op := Op.call { callee := Callee.builtin Builtin.append, args := #[Operand.tmp 86, Operand.tmp 90], argTypes := #[34, 34] }, type := 34, pos := "ref.go:107", after := #[{ on := 4, ground := Ground.data }, { on := 8, ground := Ground.data }], guard := none },
  { dst := some 92, op := Op.nilCheck (Operand.tmp 82), type := 0, pos := "ref.go:107", after := #[{ on := 0, ground := Ground.data }, { on := 0, ground := Ground.phase }, { on := 1, ground := Ground.phase }, { on := 2, ground := Ground.phase }, { on := 3, ground := Ground.phase }, { on := 4, ground := Ground.phase }, { on := 5, ground := Ground.phase }, { on := 6, ground := Ground.phase }, { on := 7, ground := Ground.phase }, { on := 8, ground := Ground.phase }, { on := 9, ground := Ground.phase }], guard := none },
  { dst := some 93, op := Op.fieldAddr 36 (Operand.tmp 92) 7, type := 0, pos := "ref.go:107", after := #[{ on := 10, ground := Ground.data }, { on := 0, ground := Ground.phase }, { on := 1, ground := Ground.phase }, { on := 2, ground := Ground.phase }, { on := 3, ground := Ground.phase }, { on := 4, ground := Ground.phase }, { on := 5, ground := Ground.phase }, { on := 6, ground := Ground.phase }, { on := 7, ground := Ground.phase }, { on := 8, ground := Ground.phase }, { on := 9, ground := Ground.phase }], guard := none },
  { dst := none, op := Op.store 34 (Operand.tmp 93) (Operand.tmp 91), type := 0, pos := "ref.go:107", after := #[{ on := 11, ground := Ground.data }, { on := 9, ground := Ground.data }, { on := 9, ground := Ground.chain }, { on := 0, ground := Ground.phase }, { on := 1, ground := Ground.phase }, { on := 2, ground := Ground.phase }, { on := 3, ground := Ground.phase }, { on := 4, ground := Ground.phase }, { on := 5, ground := Ground.phase }, { on := 6, ground := Ground.phase }, { on := 7, ground := Ground.phase }, { on := 8, ground := Ground.phase }, { on := 9, ground := Ground.phase }], guard := none }]
set_option maxHeartbeats 4000000 in
set_option maxRecDepth 100000 in
theorem reg10_6 (W wa : World) (bb cb : Nat) (src v' : Value) (g n c : Nat) (hne : cb ≠ bb) (hs : W.cell? ⟨bb, 7, none⟩ = some src) (hc : W.cell? ⟨cb, 7, none⟩ = some (.slice none 0 0)) (hfr : W.frozen? ⟨cb, 7, none⟩ = false)
    (hr : (Builtin.append_ #[34, 34] 34 #[.slice none 0 0, src]).run Tryz.prog W.drew = .ok v' wa) (hk : Kp W wa) (hv : v' = .slice none 0 0 ∨ v' = .slice (some ⟨g, 0, none⟩) n c)
    (Q : Exit → Act → World → Prop) (hPan : ∀ c (a : Act) w (d : Option Tmp) v, Q (.panic c) (a.put d v) w → Q (.panic c) a w) {u1 u2 u4 u5 u6 u7 u8 u9 u10 u11 u12 u13 u14 u15 u16 u17 u18 u19 u20 u21 u22 u23 u24 u25 u26 u27 u28 u29 u30 u31 u32 u33 u34 u35 u36 u37 u38 u39 u40 u41 u42 u43 u44 u45 u46 u47 u48 u49 u50 u51 u52 u53 u54 u55 u56 u57 u58 u59 u60 u61 u62 u63 u64 u65 u66 u67 u68 u69 u70 u71 u72 u73 u74 u75 u76 u77 u78 u79 u80 u81 u82 u83 u84 u85 u86 u87 u88 u89 u90 u91 u92 u93 u94 : Value}
    (hQ : Q .normal ⟨#[.pointer (some ⟨bb, 0, none⟩), u1, u2, .pointer (some ⟨cb, 0, none⟩), u4, u5, u6, u7, u8, u9, u10, u11, u12, u13, u14, u15, u16, u17, u18, u19, u20, u21, u22, u23, u24, u25, u26, u27, u28, u29, u30, u31, u32, u33, u34, u35, u36, u37, u38, u39, u40, u41, u42, u43, u44, u45, u46, u47, u48, u49, u50, u51, u52, u53, u54, u55, u56, u57, u58, u59, u60, u61, u62, u63, u64, u65, u66, u67, u68, u69, u70, u71, u72, u73, u74, u75, u76, u77, u78, u79, u80, u81, .pointer (some ⟨cb, 0, none⟩), .pointer (some ⟨cb, 0, none⟩), .pointer (some ⟨cb, 0, none⟩), .pointer (some ⟨cb, 7, none⟩), .slice none 0 0, .pointer (some ⟨bb, 0, none⟩), .pointer (some ⟨bb, 0, none⟩), .pointer (some ⟨bb, 7, none⟩), src, v', .pointer (some ⟨cb, 0, none⟩), .pointer (some ⟨cb, 7, none⟩), u94], []⟩ (wa.setCell ⟨cb, 7, none⟩ v')) :
    Code.wp Tryz.prog (Code.region 6 ops10_6 true) Q ⟨#[.pointer (some ⟨bb, 0, none⟩), u1, u2, .pointer (some ⟨cb, 0, none⟩), u4, u5, u6, u7, u8, u9, u10, u11, u12, u13, u14, u15, u16, u17, u18, u19, u20, u21, u22, u23, u24, u25, u26, u27, u28, u29, u30, u31, u32, u33, u34, u35, u36, u37, u38, u39, u40, u41, u42, u43, u44, u45, u46, u47, u48, u49, u50, u51, u52, u53, u54, u55, u56, u57, u58, u59, u60, u61, u62, u63, u64, u65, u66, u67, u68, u69, u70, u71, u72, u73, u74, u75, u76, u77, u78, u79, u80, u81, u82, u83, u84, u85, u86, u87, u88, u89, u90, u91, u92, u93, u94], []⟩ W := by
  have k0 : Kp W W.drew := (Chg.refl _ _).drew
  have d1 := Kp.cell k0 hc
  have d2 := Kp.cell hk hc
  have d3 : wa.frozen? ⟨cb, 7, none⟩ = false := by rw [Chg.frozen hk (World.block_lt_of_cell? W ⟨cb, 7, none⟩ hc) (fun x => x)]; exact hfr
  have e1 := Kp.cell hk hs
  refine wp_region_held_drew (S := fun w' => w'.cell? ⟨bb, 7, none⟩ = some src) hmx (Kp.cell k0 hs) (fun HSX => ?_)
  clear k0
  obtain ⟨W0, hW0⟩ : ∃ W0, W0 = W.drew := ⟨_, rfl⟩
  rw [← hW0] at HSX d1 hr ⊢
  clear hW0
  refine wpAnyH_take (i := 0) (oi := { dst := some 82, op := Op.move (Operand.tmp 3), type := 33, pos := "ref.go:107", after := #[], guard := none }) (v := .pointer (some ⟨cb, 0, none⟩)) rfl (by kernel_rfl) (by kernel_rfl) (by kernel_rfl) (fun _ _ _ h => hPan _ _ _ _ _ h) (Or.inl ⟨by rfl, ?_⟩) HSX ?_
  · intro wx d0
    go_simp
  simp only [Act.put, List.setIfInBounds_toArray, List.set_cons_zero, List.set_cons_succ]
  refine wpAnyH_take (i := 1) (oi := { dst := some 83, op := Op.move (Operand.tmp 3), type := 33, pos := "ref.go:107", after := #[], guard := none }) (v := .pointer (some ⟨cb, 0, none⟩)) rfl (by kernel_rfl) (by kernel_rfl) (by kernel_rfl) (fun _ _ _ h => hPan _ _ _ _ _ h) (Or.inl ⟨by rfl, ?_⟩) HSX ?_
  · intro wx d0
    go_simp
  simp only [Act.put, List.setIfInBounds_toArray, List.set_cons_zero, List.set_cons_succ]
  refine wpAnyH_take (i := 2) (oi := { dst := some 84, op := Op.nilCheck (Operand.tmp 83), type := 0, pos := "ref.go:107", after := #[{ on := 1, ground := Ground.data }], guard := none }) (v := .pointer (some ⟨cb, 0, none⟩)) rfl (by kernel_rfl) (by kernel_rfl) (by kernel_rfl) (fun _ _ _ h => hPan _ _ _ _ _ h) (Or.inl ⟨by rfl, ?_⟩) HSX ?_
  · intro wx d0
    go_simp
  simp only [Act.put, List.setIfInBounds_toArray, List.set_cons_zero, List.set_cons_succ]
  refine wpAnyH_take (i := 3) (oi := { dst := some 85, op := Op.fieldAddr 36 (Operand.tmp 84) 7, type := 0, pos := "ref.go:107", after := #[{ on := 2, ground := Ground.data }], guard := none }) (v := .pointer (some ⟨cb, 7, none⟩)) rfl (by kernel_rfl) (by kernel_rfl) (by kernel_rfl) (fun _ _ _ h => hPan _ _ _ _ _ h) (Or.inl ⟨by rfl, ?_⟩) HSX ?_
  · intro wx d0
    go_simp
  simp only [Act.put, List.setIfInBounds_toArray, List.set_cons_zero, List.set_cons_succ]
  refine wpAnyH_take (i := 5) (oi := { dst := some 87, op := Op.move (Operand.tmp 0), type := 33, pos := "ref.go:107", after := #[], guard := none }) (v := .pointer (some ⟨bb, 0, none⟩)) rfl (by kernel_rfl) (by kernel_rfl) (by kernel_rfl) (fun _ _ _ h => hPan _ _ _ _ _ h) (Or.inl ⟨by rfl, ?_⟩) HSX ?_
  · intro wx d0
    go_simp
  simp only [Act.put, List.setIfInBounds_toArray, List.set_cons_zero, List.set_cons_succ]
  refine wpAnyH_take (i := 6) (oi := { dst := some 88, op := Op.nilCheck (Operand.tmp 87), type := 0, pos := "ref.go:107", after := #[{ on := 5, ground := Ground.data }], guard := none }) (v := .pointer (some ⟨bb, 0, none⟩)) rfl (by kernel_rfl) (by kernel_rfl) (by kernel_rfl) (fun _ _ _ h => hPan _ _ _ _ _ h) (Or.inl ⟨by rfl, ?_⟩) HSX ?_
  · intro wx d0
    go_simp
  simp only [Act.put, List.setIfInBounds_toArray, List.set_cons_zero, List.set_cons_succ]
  refine wpAnyH_take (i := 7) (oi := { dst := some 89, op := Op.fieldAddr 36 (Operand.tmp 88) 7, type := 0, pos := "ref.go:107", after := #[{ on := 6, ground := Ground.data }], guard := none }) (v := .pointer (some ⟨bb, 7, none⟩)) rfl (by kernel_rfl) (by kernel_rfl) (by kernel_rfl) (fun _ _ _ h => hPan _ _ _ _ _ h) (Or.inl ⟨by rfl, ?_⟩) HSX ?_
  · intro wx d0
    go_simp
  simp only [Act.put, List.setIfInBounds_toArray, List.set_cons_zero, List.set_cons_succ]
  refine wpAnyH_take (i := 8) (oi := { dst := some 90, op := Op.load 34 (Operand.tmp 89), type := 34, pos := "ref.go:107", after := #[{ on := 7, ground := Ground.data }], guard := none }) (v := src) rfl (by kernel_rfl) (by kernel_rfl) (by kernel_rfl) (fun _ _ _ h => hPan _ _ _ _ _ h) (Or.inl ⟨by rfl, ?_⟩) HSX ?_
  · intro wx d0
    go_simp
  simp only [Act.put, List.setIfInBounds_toArray, List.set_cons_zero, List.set_cons_succ]
  refine wpAnyH_ready (rs := [4]) (by kernel_rfl) (by simp) ?_
  refine AllReadyH.cons (o := { dst := some 86, op := Op.load 34 (Operand.tmp 85), type := 34, pos := "ref.go:107", after := #[{ on := 3, ground := Ground.data }], guard := none }) rfl (fun K hK => ?_) AllReadyH.nil
  rw [if_pos (by rfl)]
  go_simp
  refine hK.out _ _ HSX (fun HSX => ?_)
  clear hK K
  refine wpAnyH_ready (rs := [9]) (by kernel_rfl) (by simp) ?_
  refine AllReadyH.cons (o := { dst := some 91, op := Op.call { callee := Callee.builtin Builtin.append, args := #[Operand.tmp 86, Operand.tmp 90], argTypes := #[34, 34] }, type := 34, pos := "ref.go:107", after := #[{ on := 4, ground := Ground.data }, { on := 8, ground := Ground.data }], guard := none }) rfl (fun K hK => ?_) AllReadyH.nil
  refine step_app rfl (.tmp 86) (.tmp 90) 34 34 rfl (.slice none 0 0) src v' wa rfl rfl hr ?_
  simp only [Act.put, List.setIfInBounds_toArray, List.set_cons_zero, List.set_cons_succ]
  refine hK.out _ _ e1 (fun HSX => ?_)
  clear hK K
  refine wpAnyH_take (i := 10) (oi := { dst := some 92, op := Op.nilCheck (Operand.tmp 82), type := 0, pos := "ref.go:107", after := #[{ on := 0, ground := Ground.data }, { on := 0, ground := Ground.phase }, { on := 1, ground := Ground.phase }, { on := 2, ground := Ground.phase }, { on := 3, ground := Ground.phase }, { on := 4, ground := Ground.phase }, { on := 5, ground := Ground.phase }, { on := 6, ground := Ground.phase }, { on := 7, ground := Ground.phase }, { on := 8, ground := Ground.phase }, { on := 9, ground := Ground.phase }], guard := none }) (v := .pointer (some ⟨cb, 0, none⟩)) rfl (by kernel_rfl) (by kernel_rfl) (by kernel_rfl) (fun _ _ _ h => hPan _ _ _ _ _ h) (Or.inl ⟨by rfl, ?_⟩) HSX ?_
  · intro wx d0
    go_simp
  simp only [Act.put, List.setIfInBounds_toArray, List.set_cons_zero, List.set_cons_succ]
  refine wpAnyH_take (i := 11) (oi := { dst := some 93, op := Op.fieldAddr 36 (Operand.tmp 92) 7, type := 0, pos := "ref.go:107", after := #[{ on := 10, ground := Ground.data }, { on := 0, ground := Ground.phase }, { on := 1, ground := Ground.phase }, { on := 2, ground := Ground.phase }, { on := 3, ground := Ground.phase }, { on := 4, ground := Ground.phase }, { on := 5, ground := Ground.phase }, { on := 6, ground := Ground.phase }, { on := 7, ground := Ground.phase }, { on := 8, ground := Ground.phase }, { on := 9, ground := Ground.phase }], guard := none }) (v := .pointer (some ⟨cb, 7, none⟩)) rfl (by kernel_rfl) (by kernel_rfl) (by kernel_rfl) (fun _ _ _ h => hPan _ _ _ _ _ h) (Or.inl ⟨by rfl, ?_⟩) HSX ?_
  · intro wx d0
    go_simp
  simp only [Act.put, List.setIfInBounds_toArray, List.set_cons_zero, List.set_cons_succ]
  rcases hv with rfl | rfl
  all_goals (
    refine wpAnyH_ready (rs := [12]) (by kernel_rfl) (by simp) ?_
    refine AllReadyH.cons (o := { dst := none, op := Op.store 34 (Operand.tmp 93) (Operand.tmp 91), type := 0, pos := "ref.go:107", after := #[{ on := 11, ground := Ground.data }, { on := 9, ground := Ground.data }, { on := 9, ground := Ground.chain }, { on := 0, ground := Ground.phase }, { on := 1, ground := Ground.phase }, { on := 2, ground := Ground.phase }, { on := 3, ground := Ground.phase }, { on := 4, ground := Ground.phase }, { on := 5, ground := Ground.phase }, { on := 6, ground := Ground.phase }, { on := 7, ground := Ground.phase }, { on := 8, ground := Ground.phase }, { on := 9, ground := Ground.phase }], guard := none }) rfl (fun K hK => ?_) AllReadyH.nil
    rw [if_pos (by rfl)]
    go_simp
    refine hK.out _ _ (by rw [World.cell?_setCell_far _ _ _ _ (fun e => hne e)]; exact e1) (fun HSX => ?_)
    clear hK K
    refine wpAnyH_done (by kernel_rfl) ?_ _
    exact hQ)
end Go.Proofs.YtghiffpolacmiabGreatDoor
