import Derived.Test.YtodgobapgmhgdaaDoorSb
namespace Go.Proofs.YtodgobapgmhgdaaDoor
open Go.ChangeShapes Go.WideShapes Go.ChangeAt Go.RowKit
set_option linter.unusedVariables false

def ops23_17 : Array Oper := #[{ dst := some 72, op := Op.move (Operand.tmp 11), type := 9, pos := "ref.go:250", after := #[], guard := none },
  { dst := some 73, op := Op.move (Operand.tmp 12), type := 9, pos := "ref.go:250", after := #[], guard := none },
  { dst := some 74, op := Op.binOp BinOp.add 9 (Operand.tmp 72) (Operand.tmp 73) 9, type := 9, pos := "ref.go:250", after := #[{ on := 0, ground := Ground.data }, { on := 1, ground := Ground.data }], guard := none },
  { dst := some 75, op := Op.binOp BinOp.add 9 (Operand.tmp 74) (Operand.const (Value.string { data := #[114] })) 9, type := 9, pos := "ref.go:250", after := #[{ on := 2, ground := Ground.data }], guard := none },
  { dst := some 76, op := Op.load 24 (Operand.tmp 1), type := 24, pos := "ref.go:250", after := #[], guard := none },
  { dst := some 77, op := Op.move (Operand.tmp 7), type := 9, pos := "ref.go:250", after := #[], guard := none },
  { dst := some 78, op := Op.move (Operand.tmp 13), type := 3, pos := "ref.go:250", after := #[], guard := none },
  { dst := some 79, op := Op.index 9 (Operand.tmp 77) (Operand.tmp 78), type := 5, pos := "ref.go:250", after := #[{ on := 5, ground := Ground.data }, { on := 6, ground := Ground.data }], guard := none },
  { dst := some 80, op := Op.call { callee := Callee.value (Operand.func 37), args := #[Operand.tmp 76, Operand.tmp 79], argTypes := #[24, 5] }, type := 3, pos := "ref.go:250", after := #[{ on := 4, ground := Ground.data }, { on := 7, ground := Ground.data }], guard := none },
  { dst := some 81, op := Op.call { callee := Callee.value (Operand.func 39), args := #[Operand.tmp 80], argTypes := #[2] }, type := 9, pos := "ref.go:250", after := #[{ on := 8, ground := Ground.data }, { on := 8, ground := Ground.chain }], guard := none },
  { dst := some 82, op := Op.binOp BinOp.add 9 (Operand.tmp 75) (Operand.tmp 81) 9, type := 9, pos := "ref.go:250", after := #[{ on := 3, ground := Ground.data }, { on := 9, ground := Ground.data }], guard := none },
  { dst := some 11, op := Op.assign (Operand.tmp 82), type := 9, pos := "ref.go:250", after := #[{ on := 10, ground := Ground.data }, { on := 9, ground := Ground.chain }, { on := 0, ground := Ground.phase }, { on := 1, ground := Ground.phase }, { on := 2, ground := Ground.phase }, { on := 3, ground := Ground.phase }, { on := 4, ground := Ground.phase }, { on := 5, ground := Ground.phase }, { on := 6, ground := Ground.phase }, { on := 7, ground := Ground.phase }, { on := 8, ground := Ground.phase }, { on := 9, ground := Ground.phase }, { on := 10, ground := Ground.phase }], guard := none }]
set_option maxHeartbeats 4000000 in
set_option maxRecDepth 100000 in
theorem reg23_17 (W : World) (B : Nat) (op d a b n : Int) (gB : W.heap[B]? = some (.cells #[.int .i64 op, .int .u8 d, .int .u8 a, .int .u8 b, .int .i32 n] 24 (0, 0))) (l : ByteArray) (j : Int) (c x : Int) (A M T : ByteArray) (s1 : A.size ≤ 200) (s2 : M.size ≤ 2) (s3 : T.size ≤ 30) (hP : ∀ w, Calls Tryd.prog 39 #[.int .i64 x] w fun e w' => e = .returned (.string T) ∧ w' = w)
    (hix : ∀ w : World, (Instr.index 9 (.string l) (.int .i64 j)).run Tryd.prog w = .ok (.int .u8 c) w)
    (hR : ∀ V, Kp W V → Calls Tryd.prog 37 #[iv op d a b n, .int .u8 c] V fun e w' => e = .returned (.int .i64 x) ∧ Kp V w')
    (Q : Exit → Act → World → Prop) (hPan : ∀ c (a : Act) w (d : Option Tmp) v, Q (.panic c) (a.put d v) w → Q (.panic c) a w) {u0 u2 u3 u4 u5 u6 u8 u9 u10 u14 u15 u16 u17 u18 u19 u20 u21 u22 u23 u24 u25 u26 u27 u28 u29 u30 u31 u32 u33 u34 u35 u36 u37 u38 u39 u40 u41 u42 u43 u44 u45 u46 u47 u48 u49 u50 u51 u52 u53 u54 u55 u56 u57 u58 u59 u60 u61 u62 u63 u64 u65 u66 u67 u68 u69 u70 u71 u72 u73 u74 u75 u76 u77 u78 u79 u80 u81 u82 u83 u84 u85 u86 u87 u88 u89 u90 u91 : Value}
    (hQ : ∀ V, Kp W V → Q .normal ⟨#[u0, .pointer (some ⟨B, 0, none⟩), u2, u3, u4, u5, u6, .string l, u8, u9, u10, .string (A ++ M ++ ⟨#[114]⟩ ++ T), .string M, .int .i64 j, u14, u15, u16, u17, u18, u19, u20, u21, u22, u23, u24, u25, u26, u27, u28, u29, u30, u31, u32, u33, u34, u35, u36, u37, u38, u39, u40, u41, u42, u43, u44, u45, u46, u47, u48, u49, u50, u51, u52, u53, u54, u55, u56, u57, u58, u59, u60, u61, u62, u63, u64, u65, u66, u67, u68, u69, u70, u71, .string A, .string M, .string (A ++ M), .string (A ++ M ++ ⟨#[114]⟩), .agg #[.int .i64 op, .int .u8 d, .int .u8 a, .int .u8 b, .int .i32 n], .string l, .int .i64 j, .int .u8 c, .int .i64 x, .string T, .string (A ++ M ++ ⟨#[114]⟩ ++ T), u83, u84, u85, u86, u87, u88, u89, u90, u91], []⟩ V) :
    Code.wp Tryd.prog (Code.region 17 ops23_17 true) Q ⟨#[u0, .pointer (some ⟨B, 0, none⟩), u2, u3, u4, u5, u6, .string l, u8, u9, u10, .string A, .string M, .int .i64 j, u14, u15, u16, u17, u18, u19, u20, u21, u22, u23, u24, u25, u26, u27, u28, u29, u30, u31, u32, u33, u34, u35, u36, u37, u38, u39, u40, u41, u42, u43, u44, u45, u46, u47, u48, u49, u50, u51, u52, u53, u54, u55, u56, u57, u58, u59, u60, u61, u62, u63, u64, u65, u66, u67, u68, u69, u70, u71, u72, u73, u74, u75, u76, u77, u78, u79, u80, u81, u82, u83, u84, u85, u86, u87, u88, u89, u90, u91], []⟩ W := by
  have HS : ∀ V, Kp W V → (fun w' => w'.cell? ⟨B, 0, none⟩ = some (.int .i64 op) ∧ w'.cell? ⟨B, 1, none⟩ = some (.int .u8 d) ∧ w'.cell? ⟨B, 2, none⟩ = some (.int .u8 a) ∧ w'.cell? ⟨B, 3, none⟩ = some (.int .u8 b) ∧ w'.cell? ⟨B, 4, none⟩ = some (.int .i32 n)) V := fun V k => Kp.cells5 k gB
  have z1 : ¬ 9223372036854775807 < A.size + M.size := by omega
  refine wp_region_held_drew (S := fun w' => w'.cell? ⟨B, 0, none⟩ = some (.int .i64 op) ∧ w'.cell? ⟨B, 1, none⟩ = some (.int .u8 d) ∧ w'.cell? ⟨B, 2, none⟩ = some (.int .u8 a) ∧ w'.cell? ⟨B, 3, none⟩ = some (.int .u8 b) ∧ w'.cell? ⟨B, 4, none⟩ = some (.int .i32 n)) hmx (HS _ (Chg.refl _ _).drew) (fun hS => ?_)
  refine wpAnyH_take (i := 0) (oi := { dst := some 72, op := Op.move (Operand.tmp 11), type := 9, pos := "ref.go:250", after := #[], guard := none }) (v := .string A) rfl (by kernel_rfl) (by kernel_rfl) (by kernel_rfl) (fun _ _ _ h => hPan _ _ _ _ _ h) (Or.inl ⟨by rfl, ?_⟩) hS ?_
  · rintro wx ⟨d0, d1, d2, d3, d4⟩
    go_simp
  simp only [Act.put, List.setIfInBounds_toArray, List.set_cons_zero, List.set_cons_succ]
  refine wpAnyH_take (i := 1) (oi := { dst := some 73, op := Op.move (Operand.tmp 12), type := 9, pos := "ref.go:250", after := #[], guard := none }) (v := .string M) rfl (by kernel_rfl) (by kernel_rfl) (by kernel_rfl) (fun _ _ _ h => hPan _ _ _ _ _ h) (Or.inl ⟨by rfl, ?_⟩) hS ?_
  · rintro wx ⟨d0, d1, d2, d3, d4⟩
    go_simp
  simp only [Act.put, List.setIfInBounds_toArray, List.set_cons_zero, List.set_cons_succ]
  refine wpAnyH_take (i := 2) (oi := { dst := some 74, op := Op.binOp BinOp.add 9 (Operand.tmp 72) (Operand.tmp 73) 9, type := 9, pos := "ref.go:250", after := #[{ on := 0, ground := Ground.data }, { on := 1, ground := Ground.data }], guard := none }) (v := .string (A ++ M)) rfl (by kernel_rfl) (by kernel_rfl) (by kernel_rfl) (fun _ _ _ h => hPan _ _ _ _ _ h) (Or.inl ⟨by rfl, ?_⟩) hS ?_
  · rintro wx ⟨d0, d1, d2, d3, d4⟩
    go_simp
  simp only [Act.put, List.setIfInBounds_toArray, List.set_cons_zero, List.set_cons_succ]
  refine wpAnyH_take (i := 3) (oi := { dst := some 75, op := Op.binOp BinOp.add 9 (Operand.tmp 74) (Operand.const (Value.string { data := #[114] })) 9, type := 9, pos := "ref.go:250", after := #[{ on := 2, ground := Ground.data }], guard := none }) (v := .string (A ++ M ++ ⟨#[114]⟩)) rfl (by kernel_rfl) (by kernel_rfl) (by kernel_rfl) (fun _ _ _ h => hPan _ _ _ _ _ h) (Or.inl ⟨by rfl, ?_⟩) hS ?_
  · rintro wx ⟨d0, d1, d2, d3, d4⟩
    go_simp
    first | done | omega
  simp only [Act.put, List.setIfInBounds_toArray, List.set_cons_zero, List.set_cons_succ]
  refine wpAnyH_take (i := 4) (oi := { dst := some 76, op := Op.load 24 (Operand.tmp 1), type := 24, pos := "ref.go:250", after := #[], guard := none }) (v := .agg #[.int .i64 op, .int .u8 d, .int .u8 a, .int .u8 b, .int .i32 n]) rfl (by kernel_rfl) (by kernel_rfl) (by kernel_rfl) (fun _ _ _ h => hPan _ _ _ _ _ h) (Or.inl ⟨by rfl, ?_⟩) hS ?_
  · rintro wx ⟨d0, d1, d2, d3, d4⟩
    go_simp
  simp only [Act.put, List.setIfInBounds_toArray, List.set_cons_zero, List.set_cons_succ]
  refine wpAnyH_take (i := 5) (oi := { dst := some 77, op := Op.move (Operand.tmp 7), type := 9, pos := "ref.go:250", after := #[], guard := none }) (v := .string l) rfl (by kernel_rfl) (by kernel_rfl) (by kernel_rfl) (fun _ _ _ h => hPan _ _ _ _ _ h) (Or.inl ⟨by rfl, ?_⟩) hS ?_
  · rintro wx ⟨d0, d1, d2, d3, d4⟩
    go_simp
  simp only [Act.put, List.setIfInBounds_toArray, List.set_cons_zero, List.set_cons_succ]
  refine wpAnyH_take (i := 6) (oi := { dst := some 78, op := Op.move (Operand.tmp 13), type := 3, pos := "ref.go:250", after := #[], guard := none }) (v := .int .i64 j) rfl (by kernel_rfl) (by kernel_rfl) (by kernel_rfl) (fun _ _ _ h => hPan _ _ _ _ _ h) (Or.inl ⟨by rfl, ?_⟩) hS ?_
  · rintro wx ⟨d0, d1, d2, d3, d4⟩
    go_simp
  simp only [Act.put, List.setIfInBounds_toArray, List.set_cons_zero, List.set_cons_succ]
  refine wpAnyH_take (i := 7) (oi := { dst := some 79, op := Op.index 9 (Operand.tmp 77) (Operand.tmp 78), type := 5, pos := "ref.go:250", after := #[{ on := 5, ground := Ground.data }, { on := 6, ground := Ground.data }], guard := none }) (v := .int .u8 c) rfl (by kernel_rfl) (by kernel_rfl) (by kernel_rfl) (fun _ _ _ h => hPan _ _ _ _ _ h) (Or.inl ⟨by rfl, ?_⟩) hS ?_
  · rintro wx ⟨d0, d1, d2, d3, d4⟩
    go_simp
  simp only [Act.put, List.setIfInBounds_toArray, List.set_cons_zero, List.set_cons_succ]
  refine wpAnyH_ready (rs := [8]) (by kernel_rfl) (by simp) ?_
  refine AllReadyH.cons (o := { dst := some 80, op := Op.call { callee := Callee.value (Operand.func 37), args := #[Operand.tmp 76, Operand.tmp 79], argTypes := #[24, 5] }, type := 3, pos := "ref.go:250", after := #[{ on := 4, ground := Ground.data }, { on := 7, ground := Ground.data }], guard := none }) rfl (fun K hK => ?_) AllReadyH.nil
  rw [if_pos (by rfl)]
  go_simp
  go_at_call 37
  with_reducible refine (hR _ (Chg.refl W _).drew).mono ?_
  rintro e w1 ⟨rfl, k1⟩
  go_simp
  have kk1 : Kp W w1 := Kp.trans ((Chg.refl W _).drew) k1
  refine hK.out _ _ (HS _ kk1) (fun hS1 => ?_)
  clear hK K
  refine wpAnyH_ready (rs := [9]) (by kernel_rfl) (by simp) ?_
  refine AllReadyH.cons (o := { dst := some 81, op := Op.call { callee := Callee.value (Operand.func 39), args := #[Operand.tmp 80], argTypes := #[2] }, type := 9, pos := "ref.go:250", after := #[{ on := 8, ground := Ground.data }, { on := 8, ground := Ground.chain }], guard := none }) rfl (fun K hK => ?_) AllReadyH.nil
  rw [if_pos (by rfl)]
  go_simp
  go_at_call 39
  with_reducible refine (hP _).mono ?_
  rintro e w2 ⟨rfl, hw2⟩
  rw [hw2]
  clear hw2 w2
  go_simp
  refine hK.out _ _ (HS _ kk1) (fun _ => ?_)
  clear hK K
  refine wpAnyH_take (i := 10) (oi := { dst := some 82, op := Op.binOp BinOp.add 9 (Operand.tmp 75) (Operand.tmp 81) 9, type := 9, pos := "ref.go:250", after := #[{ on := 3, ground := Ground.data }, { on := 9, ground := Ground.data }], guard := none }) (v := .string (A ++ M ++ ⟨#[114]⟩ ++ T)) rfl (by kernel_rfl) (by kernel_rfl) (by kernel_rfl) (fun _ _ _ h => hPan _ _ _ _ _ h) (Or.inl ⟨by rfl, ?_⟩) hS1 ?_
  · rintro wx ⟨d0, d1, d2, d3, d4⟩
    go_simp
    first | done | omega
  simp only [Act.put, List.setIfInBounds_toArray, List.set_cons_zero, List.set_cons_succ]
  refine wpAnyH_take (i := 11) (oi := { dst := some 11, op := Op.assign (Operand.tmp 82), type := 9, pos := "ref.go:250", after := #[{ on := 10, ground := Ground.data }, { on := 9, ground := Ground.chain }, { on := 0, ground := Ground.phase }, { on := 1, ground := Ground.phase }, { on := 2, ground := Ground.phase }, { on := 3, ground := Ground.phase }, { on := 4, ground := Ground.phase }, { on := 5, ground := Ground.phase }, { on := 6, ground := Ground.phase }, { on := 7, ground := Ground.phase }, { on := 8, ground := Ground.phase }, { on := 9, ground := Ground.phase }, { on := 10, ground := Ground.phase }], guard := none }) (v := .string (A ++ M ++ ⟨#[114]⟩ ++ T)) rfl (by kernel_rfl) (by kernel_rfl) (by kernel_rfl) (fun _ _ _ h => hPan _ _ _ _ _ h) (Or.inl ⟨by rfl, ?_⟩) hS1 ?_
  · rintro wx ⟨d0, d1, d2, d3, d4⟩
    go_simp
  simp only [Act.put, List.setIfInBounds_toArray, List.set_cons_zero, List.set_cons_succ]
  refine wpAnyH_done (by kernel_rfl) ?_ _
  exact hQ w1 kk1
end Go.Proofs.YtodgobapgmhgdaaDoor
