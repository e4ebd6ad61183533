import Derived.Test.YtodgobapgmhgdaaDoorSa
namespace Go.Proofs.YtodgobapgmhgdaaDoor
open Go.ChangeShapes Go.WideShapes Go.ChangeAt Go.RowKit
set_option linter.unusedVariables false

def ops21_10 : Array Oper := #[{ dst := some 42, op := Op.move (Operand.tmp 8), type := 2, pos := "ref.go:138", after := #[], guard := none },
  { dst := some 43, op := Op.move (Operand.tmp 9), type := 2, pos := "ref.go:138", after := #[], guard := none },
  { dst := some 44, op := Op.load 24 (Operand.tmp 1), type := 24, pos := "ref.go:138", after := #[], guard := none },
  { dst := some 45, op := Op.move (Operand.tmp 6), type := 9, pos := "ref.go:138", after := #[], guard := none },
  { dst := some 46, op := Op.move (Operand.tmp 10), type := 3, pos := "ref.go:138", after := #[], guard := none },
  { dst := some 47, op := Op.index 9 (Operand.tmp 45) (Operand.tmp 46), type := 5, pos := "ref.go:138", after := #[{ on := 3, ground := Ground.data }, { on := 4, ground := Ground.data }], guard := none },
  { dst := some 48, op := Op.call { callee := Callee.value (Operand.func 37), args := #[Operand.tmp 44, Operand.tmp 47], argTypes := #[24, 5] }, type := 3, pos := "ref.go:138", after := #[{ on := 2, ground := Ground.data }, { on := 5, ground := Ground.data }], guard := none },
  { dst := some 49, op := Op.binOp BinOp.mul 2 (Operand.tmp 43) (Operand.tmp 48) 2, type := 2, pos := "ref.go:138", after := #[{ on := 1, ground := Ground.data }, { on := 6, ground := Ground.data }], guard := none },
  { dst := some 50, op := Op.binOp BinOp.add 2 (Operand.tmp 42) (Operand.tmp 49) 2, type := 2, pos := "ref.go:138", after := #[{ on := 0, ground := Ground.data }, { on := 7, ground := Ground.data }], guard := none },
  { dst := some 8, op := Op.assign (Operand.tmp 50), type := 2, pos := "ref.go:138", after := #[{ on := 8, ground := Ground.data }, { on := 6, ground := Ground.chain }, { on := 0, ground := Ground.phase }, { on := 1, ground := Ground.phase }, { on := 2, ground := Ground.phase }, { on := 3, ground := Ground.phase }, { on := 4, ground := Ground.phase }, { on := 5, ground := Ground.phase }, { on := 6, ground := Ground.phase }, { on := 7, ground := Ground.phase }, { on := 8, ground := Ground.phase }], guard := none }]
set_option maxHeartbeats 4000000 in
set_option maxRecDepth 100000 in
theorem reg21_10 (W : World) (B : Nat) (op d a b n : Int) (gB : W.heap[B]? = some (.cells #[.int .i64 op, .int .u8 d, .int .u8 a, .int .u8 b, .int .i32 n] 24 (0, 0))) (l : ByteArray) (j : Int) (c x : Int) (y u : Int) (m1 : IntKind.i64.wrap (u * x) = u * x) (m2 : IntKind.i64.wrap (y + u * x) = y + u * x)
    (hix : ∀ w : World, (Instr.index 9 (.string l) (.int .i64 j)).run Tryd.prog w = .ok (.int .u8 c) w)
    (hR : ∀ V, Kp W V → Calls Tryd.prog 37 #[iv op d a b n, .int .u8 c] V fun e w' => e = .returned (.int .i64 x) ∧ Kp V w')
    (Q : Exit → Act → World → Prop) (hPan : ∀ c (a : Act) w (d : Option Tmp) v, Q (.panic c) (a.put d v) w → Q (.panic c) a w) {u0 u2 u3 u4 u5 u7 u11 u12 u13 u14 u15 u16 u17 u18 u19 u20 u21 u22 u23 u24 u25 u26 u27 u28 u29 u30 u31 u32 u33 u34 u35 u36 u37 u38 u39 u40 u41 u42 u43 u44 u45 u46 u47 u48 u49 u50 u51 u52 u53 u54 u55 u56 u57 u58 u59 u60 u61 u62 u63 u64 u65 u66 u67 u68 u69 u70 u71 u72 u73 u74 u75 u76 u77 u78 u79 u80 u81 u82 u83 u84 u85 u86 u87 u88 u89 u90 u91 u92 u93 u94 u95 u96 : Value}
    (hQ : ∀ V, Kp W V → Q .normal ⟨#[u0, .pointer (some ⟨B, 0, none⟩), u2, u3, u4, u5, .string l, u7, .int .i64 (y + u * x), .int .i64 u, .int .i64 j, u11, u12, u13, u14, u15, u16, u17, u18, u19, u20, u21, u22, u23, u24, u25, u26, u27, u28, u29, u30, u31, u32, u33, u34, u35, u36, u37, u38, u39, u40, u41, .int .i64 y, .int .i64 u, .agg #[.int .i64 op, .int .u8 d, .int .u8 a, .int .u8 b, .int .i32 n], .string l, .int .i64 j, .int .u8 c, .int .i64 x, .int .i64 (u * x), .int .i64 (y + u * x), u51, u52, u53, u54, u55, u56, u57, u58, u59, u60, u61, u62, u63, u64, u65, u66, u67, u68, u69, u70, u71, u72, u73, u74, u75, u76, u77, u78, u79, u80, u81, u82, u83, u84, u85, u86, u87, u88, u89, u90, u91, u92, u93, u94, u95, u96], []⟩ V) :
    Code.wp Tryd.prog (Code.region 10 ops21_10 true) Q ⟨#[u0, .pointer (some ⟨B, 0, none⟩), u2, u3, u4, u5, .string l, u7, .int .i64 y, .int .i64 u, .int .i64 j, u11, u12, u13, u14, u15, u16, u17, u18, u19, u20, u21, u22, u23, u24, u25, u26, u27, u28, u29, u30, u31, u32, u33, u34, u35, u36, u37, u38, u39, u40, u41, u42, u43, u44, u45, u46, u47, u48, u49, u50, u51, u52, u53, u54, u55, u56, u57, u58, u59, u60, u61, u62, u63, u64, u65, u66, u67, u68, u69, u70, u71, u72, u73, u74, u75, u76, u77, u78, u79, u80, u81, u82, u83, u84, u85, u86, u87, u88, u89, u90, u91, u92, u93, u94, u95, u96], []⟩ W := by
  have HS : ∀ V, Kp W V → (fun w' => w'.cell? ⟨B, 0, none⟩ = some (.int .i64 op) ∧ w'.cell? ⟨B, 1, none⟩ = some (.int .u8 d) ∧ w'.cell? ⟨B, 2, none⟩ = some (.int .u8 a) ∧ w'.cell? ⟨B, 3, none⟩ = some (.int .u8 b) ∧ w'.cell? ⟨B, 4, none⟩ = some (.int .i32 n)) V := fun V k => Kp.cells5 k gB
  refine wp_region_held_drew (S := fun w' => w'.cell? ⟨B, 0, none⟩ = some (.int .i64 op) ∧ w'.cell? ⟨B, 1, none⟩ = some (.int .u8 d) ∧ w'.cell? ⟨B, 2, none⟩ = some (.int .u8 a) ∧ w'.cell? ⟨B, 3, none⟩ = some (.int .u8 b) ∧ w'.cell? ⟨B, 4, none⟩ = some (.int .i32 n)) hmx (HS _ (Chg.refl _ _).drew) (fun hS => ?_)
  refine wpAnyH_take (i := 0) (oi := { dst := some 42, op := Op.move (Operand.tmp 8), type := 2, pos := "ref.go:138", after := #[], guard := none }) (v := .int .i64 y) rfl (by kernel_rfl) (by kernel_rfl) (by kernel_rfl) (fun _ _ _ h => hPan _ _ _ _ _ h) (Or.inl ⟨by rfl, ?_⟩) hS ?_
  · rintro wx ⟨d0, d1, d2, d3, d4⟩
    go_simp
  simp only [Act.put, List.setIfInBounds_toArray, List.set_cons_zero, List.set_cons_succ]
  refine wpAnyH_take (i := 1) (oi := { dst := some 43, op := Op.move (Operand.tmp 9), type := 2, pos := "ref.go:138", after := #[], guard := none }) (v := .int .i64 u) rfl (by kernel_rfl) (by kernel_rfl) (by kernel_rfl) (fun _ _ _ h => hPan _ _ _ _ _ h) (Or.inl ⟨by rfl, ?_⟩) hS ?_
  · rintro wx ⟨d0, d1, d2, d3, d4⟩
    go_simp
  simp only [Act.put, List.setIfInBounds_toArray, List.set_cons_zero, List.set_cons_succ]
  refine wpAnyH_take (i := 2) (oi := { dst := some 44, op := Op.load 24 (Operand.tmp 1), type := 24, pos := "ref.go:138", after := #[], guard := none }) (v := .agg #[.int .i64 op, .int .u8 d, .int .u8 a, .int .u8 b, .int .i32 n]) rfl (by kernel_rfl) (by kernel_rfl) (by kernel_rfl) (fun _ _ _ h => hPan _ _ _ _ _ h) (Or.inl ⟨by rfl, ?_⟩) hS ?_
  · rintro wx ⟨d0, d1, d2, d3, d4⟩
    go_simp
  simp only [Act.put, List.setIfInBounds_toArray, List.set_cons_zero, List.set_cons_succ]
  refine wpAnyH_take (i := 3) (oi := { dst := some 45, op := Op.move (Operand.tmp 6), type := 9, pos := "ref.go:138", after := #[], guard := none }) (v := .string l) rfl (by kernel_rfl) (by kernel_rfl) (by kernel_rfl) (fun _ _ _ h => hPan _ _ _ _ _ h) (Or.inl ⟨by rfl, ?_⟩) hS ?_
  · rintro wx ⟨d0, d1, d2, d3, d4⟩
    go_simp
  simp only [Act.put, List.setIfInBounds_toArray, List.set_cons_zero, List.set_cons_succ]
  refine wpAnyH_take (i := 4) (oi := { dst := some 46, op := Op.move (Operand.tmp 10), type := 3, pos := "ref.go:138", after := #[], guard := none }) (v := .int .i64 j) rfl (by kernel_rfl) (by kernel_rfl) (by kernel_rfl) (fun _ _ _ h => hPan _ _ _ _ _ h) (Or.inl ⟨by rfl, ?_⟩) hS ?_
  · rintro wx ⟨d0, d1, d2, d3, d4⟩
    go_simp
  simp only [Act.put, List.setIfInBounds_toArray, List.set_cons_zero, List.set_cons_succ]
  refine wpAnyH_take (i := 5) (oi := { dst := some 47, op := Op.index 9 (Operand.tmp 45) (Operand.tmp 46), type := 5, pos := "ref.go:138", after := #[{ on := 3, ground := Ground.data }, { on := 4, ground := Ground.data }], guard := none }) (v := .int .u8 c) rfl (by kernel_rfl) (by kernel_rfl) (by kernel_rfl) (fun _ _ _ h => hPan _ _ _ _ _ h) (Or.inl ⟨by rfl, ?_⟩) hS ?_
  · rintro wx ⟨d0, d1, d2, d3, d4⟩
    go_simp
  simp only [Act.put, List.setIfInBounds_toArray, List.set_cons_zero, List.set_cons_succ]
  refine wpAnyH_ready (rs := [6]) (by kernel_rfl) (by simp) ?_
  refine AllReadyH.cons (o := { dst := some 48, op := Op.call { callee := Callee.value (Operand.func 37), args := #[Operand.tmp 44, Operand.tmp 47], argTypes := #[24, 5] }, type := 3, pos := "ref.go:138", after := #[{ on := 2, ground := Ground.data }, { on := 5, ground := Ground.data }], guard := none }) rfl (fun K hK => ?_) AllReadyH.nil
  rw [if_pos (by rfl)]
  go_simp
  go_at_call 37
  with_reducible refine (hR _ (Chg.refl W _).drew).mono ?_
  rintro e w1 ⟨rfl, k1⟩
  go_simp
  have kk1 : Kp W w1 := Kp.trans ((Chg.refl W _).drew) k1
  refine hK.out _ _ (HS _ kk1) (fun hS1 => ?_)
  clear hK K
  refine wpAnyH_take (i := 7) (oi := { dst := some 49, op := Op.binOp BinOp.mul 2 (Operand.tmp 43) (Operand.tmp 48) 2, type := 2, pos := "ref.go:138", after := #[{ on := 1, ground := Ground.data }, { on := 6, ground := Ground.data }], guard := none }) (v := .int .i64 (u * x)) rfl (by kernel_rfl) (by kernel_rfl) (by kernel_rfl) (fun _ _ _ h => hPan _ _ _ _ _ h) (Or.inl ⟨by rfl, ?_⟩) hS1 ?_
  · rintro wx ⟨d0, d1, d2, d3, d4⟩
    go_simp
    first | done | exact m1
  simp only [Act.put, List.setIfInBounds_toArray, List.set_cons_zero, List.set_cons_succ]
  refine wpAnyH_take (i := 8) (oi := { dst := some 50, op := Op.binOp BinOp.add 2 (Operand.tmp 42) (Operand.tmp 49) 2, type := 2, pos := "ref.go:138", after := #[{ on := 0, ground := Ground.data }, { on := 7, ground := Ground.data }], guard := none }) (v := .int .i64 (y + u * x)) rfl (by kernel_rfl) (by kernel_rfl) (by kernel_rfl) (fun _ _ _ h => hPan _ _ _ _ _ h) (Or.inl ⟨by rfl, ?_⟩) hS1 ?_
  · rintro wx ⟨d0, d1, d2, d3, d4⟩
    go_simp
    first | done | exact m2
  simp only [Act.put, List.setIfInBounds_toArray, List.set_cons_zero, List.set_cons_succ]
  refine wpAnyH_take (i := 9) (oi := { dst := some 8, op := Op.assign (Operand.tmp 50), type := 2, pos := "ref.go:138", after := #[{ on := 8, ground := Ground.data }, { on := 6, ground := Ground.chain }, { on := 0, ground := Ground.phase }, { on := 1, ground := Ground.phase }, { on := 2, ground := Ground.phase }, { on := 3, ground := Ground.phase }, { on := 4, ground := Ground.phase }, { on := 5, ground := Ground.phase }, { on := 6, ground := Ground.phase }, { on := 7, ground := Ground.phase }, { on := 8, ground := Ground.phase }], guard := none }) (v := .int .i64 (y + u * x)) rfl (by kernel_rfl) (by kernel_rfl) (by kernel_rfl) (fun _ _ _ h => hPan _ _ _ _ _ h) (Or.inl ⟨by rfl, ?_⟩) hS1 ?_
  · rintro wx ⟨d0, d1, d2, d3, d4⟩
    go_simp
  simp only [Act.put, List.setIfInBounds_toArray, List.set_cons_zero, List.set_cons_succ]
  refine wpAnyH_done (by kernel_rfl) ?_ _
  exact hQ w1 kk1
def ops21_16 : Array Oper := #[{ dst := some 57, op := Op.load 24 (Operand.tmp 1), type := 24, pos := "ref.go:143", after := #[], guard := none },
  { dst := some 58, op := Op.move (Operand.tmp 11), type := 9, pos := "ref.go:143", after := #[], guard := none },
  { dst := some 59, op := Op.move (Operand.tmp 12), type := 3, pos := "ref.go:143", after := #[], guard := none },
  { dst := some 60, op := Op.index 9 (Operand.tmp 58) (Operand.tmp 59), type := 5, pos := "ref.go:143", after := #[{ on := 1, ground := Ground.data }, { on := 2, ground := Ground.data }], guard := none },
  { dst := some 61, op := Op.call { callee := Callee.value (Operand.func 37), args := #[Operand.tmp 57, Operand.tmp 60], argTypes := #[24, 5] }, type := 3, pos := "ref.go:143", after := #[{ on := 0, ground := Ground.data }, { on := 3, ground := Ground.data }], guard := none },
  { dst := some 13, op := Op.assign (Operand.tmp 61), type := 3, pos := "ref.go:143", after := #[{ on := 4, ground := Ground.data }, { on := 4, ground := Ground.chain }, { on := 0, ground := Ground.phase }, { on := 1, ground := Ground.phase }, { on := 2, ground := Ground.phase }, { on := 3, ground := Ground.phase }, { on := 4, ground := Ground.phase }], guard := none }]
set_option maxHeartbeats 4000000 in
set_option maxRecDepth 100000 in
theorem reg21_16 (W : World) (B : Nat) (op d a b n : Int) (gB : W.heap[B]? = some (.cells #[.int .i64 op, .int .u8 d, .int .u8 a, .int .u8 b, .int .i32 n] 24 (0, 0))) (l : ByteArray) (j : Int) (c x : Int) 
    (hix : ∀ w : World, (Instr.index 9 (.string l) (.int .i64 j)).run Tryd.prog w = .ok (.int .u8 c) w)
    (hR : ∀ V, Kp W V → Calls Tryd.prog 37 #[iv op d a b n, .int .u8 c] V fun e w' => e = .returned (.int .i64 x) ∧ Kp V w')
    (Q : Exit → Act → World → Prop) (hPan : ∀ c (a : Act) w (d : Option Tmp) v, Q (.panic c) (a.put d v) w → Q (.panic c) a w) {u0 u2 u3 u4 u5 u6 u7 u8 u9 u10 u13 u14 u15 u16 u17 u18 u19 u20 u21 u22 u23 u24 u25 u26 u27 u28 u29 u30 u31 u32 u33 u34 u35 u36 u37 u38 u39 u40 u41 u42 u43 u44 u45 u46 u47 u48 u49 u50 u51 u52 u53 u54 u55 u56 u57 u58 u59 u60 u61 u62 u63 u64 u65 u66 u67 u68 u69 u70 u71 u72 u73 u74 u75 u76 u77 u78 u79 u80 u81 u82 u83 u84 u85 u86 u87 u88 u89 u90 u91 u92 u93 u94 u95 u96 : Value}
    (hQ : ∀ V, Kp W V → Q .normal ⟨#[u0, .pointer (some ⟨B, 0, none⟩), u2, u3, u4, u5, u6, u7, u8, u9, u10, .string l, .int .i64 j, .int .i64 x, u14, u15, u16, u17, u18, u19, u20, u21, u22, u23, u24, u25, u26, u27, u28, u29, u30, u31, u32, u33, u34, u35, u36, u37, u38, u39, u40, u41, u42, u43, u44, u45, u46, u47, u48, u49, u50, u51, u52, u53, u54, u55, u56, .agg #[.int .i64 op, .int .u8 d, .int .u8 a, .int .u8 b, .int .i32 n], .string l, .int .i64 j, .int .u8 c, .int .i64 x, u62, u63, u64, u65, u66, u67, u68, u69, u70, u71, u72, u73, u74, u75, u76, u77, u78, u79, u80, u81, u82, u83, u84, u85, u86, u87, u88, u89, u90, u91, u92, u93, u94, u95, u96], []⟩ V) :
    Code.wp Tryd.prog (Code.region 16 ops21_16 true) Q ⟨#[u0, .pointer (some ⟨B, 0, none⟩), u2, u3, u4, u5, u6, u7, u8, u9, u10, .string l, .int .i64 j, u13, u14, u15, u16, u17, u18, u19, u20, u21, u22, u23, u24, u25, u26, u27, u28, u29, u30, u31, u32, u33, u34, u35, u36, u37, u38, u39, u40, u41, u42, u43, u44, u45, u46, u47, u48, u49, u50, u51, u52, u53, u54, u55, u56, u57, u58, u59, u60, u61, u62, u63, u64, u65, u66, u67, u68, u69, u70, u71, u72, u73, u74, u75, u76, u77, u78, u79, u80, u81, u82, u83, u84, u85, u86, u87, u88, u89, u90, u91, u92, u93, u94, u95, u96], []⟩ W := by
  have HS : ∀ V, Kp W V → (fun w' => w'.cell? ⟨B, 0, none⟩ = some (.int .i64 op) ∧ w'.cell? ⟨B, 1, none⟩ = some (.int .u8 d) ∧ w'.cell? ⟨B, 2, none⟩ = some (.int .u8 a) ∧ w'.cell? ⟨B, 3, none⟩ = some (.int .u8 b) ∧ w'.cell? ⟨B, 4, none⟩ = some (.int .i32 n)) V := fun V k => Kp.cells5 k gB
  refine wp_region_held_drew (S := fun w' => w'.cell? ⟨B, 0, none⟩ = some (.int .i64 op) ∧ w'.cell? ⟨B, 1, none⟩ = some (.int .u8 d) ∧ w'.cell? ⟨B, 2, none⟩ = some (.int .u8 a) ∧ w'.cell? ⟨B, 3, none⟩ = some (.int .u8 b) ∧ w'.cell? ⟨B, 4, none⟩ = some (.int .i32 n)) hmx (HS _ (Chg.refl _ _).drew) (fun hS => ?_)
  refine wpAnyH_take (i := 0) (oi := { dst := some 57, op := Op.load 24 (Operand.tmp 1), type := 24, pos := "ref.go:143", after := #[], guard := none }) (v := .agg #[.int .i64 op, .int .u8 d, .int .u8 a, .int .u8 b, .int .i32 n]) rfl (by kernel_rfl) (by kernel_rfl) (by kernel_rfl) (fun _ _ _ h => hPan _ _ _ _ _ h) (Or.inl ⟨by rfl, ?_⟩) hS ?_
  · rintro wx ⟨d0, d1, d2, d3, d4⟩
    go_simp
  simp only [Act.put, List.setIfInBounds_toArray, List.set_cons_zero, List.set_cons_succ]
  refine wpAnyH_take (i := 1) (oi := { dst := some 58, op := Op.move (Operand.tmp 11), type := 9, pos := "ref.go:143", after := #[], guard := none }) (v := .string l) rfl (by kernel_rfl) (by kernel_rfl) (by kernel_rfl) (fun _ _ _ h => hPan _ _ _ _ _ h) (Or.inl ⟨by rfl, ?_⟩) hS ?_
  · rintro wx ⟨d0, d1, d2, d3, d4⟩
    go_simp
  simp only [Act.put, List.setIfInBounds_toArray, List.set_cons_zero, List.set_cons_succ]
  refine wpAnyH_take (i := 2) (oi := { dst := some 59, op := Op.move (Operand.tmp 12), type := 3, pos := "ref.go:143", after := #[], guard := none }) (v := .int .i64 j) rfl (by kernel_rfl) (by kernel_rfl) (by kernel_rfl) (fun _ _ _ h => hPan _ _ _ _ _ h) (Or.inl ⟨by rfl, ?_⟩) hS ?_
  · rintro wx ⟨d0, d1, d2, d3, d4⟩
    go_simp
  simp only [Act.put, List.setIfInBounds_toArray, List.set_cons_zero, List.set_cons_succ]
  refine wpAnyH_take (i := 3) (oi := { dst := some 60, op := Op.index 9 (Operand.tmp 58) (Operand.tmp 59), type := 5, pos := "ref.go:143", after := #[{ on := 1, ground := Ground.data }, { on := 2, ground := Ground.data }], guard := none }) (v := .int .u8 c) rfl (by kernel_rfl) (by kernel_rfl) (by kernel_rfl) (fun _ _ _ h => hPan _ _ _ _ _ h) (Or.inl ⟨by rfl, ?_⟩) hS ?_
  · rintro wx ⟨d0, d1, d2, d3, d4⟩
    go_simp
  simp only [Act.put, List.setIfInBounds_toArray, List.set_cons_zero, List.set_cons_succ]
  refine wpAnyH_ready (rs := [4]) (by kernel_rfl) (by simp) ?_
  refine AllReadyH.cons (o := { dst := some 61, op := Op.call { callee := Callee.value (Operand.func 37), args := #[Operand.tmp 57, Operand.tmp 60], argTypes := #[24, 5] }, type := 3, pos := "ref.go:143", after := #[{ on := 0, ground := Ground.data }, { on := 3, ground := Ground.data }], guard := none }) rfl (fun K hK => ?_) AllReadyH.nil
  rw [if_pos (by rfl)]
  go_simp
  go_at_call 37
  with_reducible refine (hR _ (Chg.refl W _).drew).mono ?_
  rintro e w1 ⟨rfl, k1⟩
  go_simp
  have kk1 : Kp W w1 := Kp.trans ((Chg.refl W _).drew) k1
  refine hK.out _ _ (HS _ kk1) (fun hS1 => ?_)
  clear hK K
  refine wpAnyH_take (i := 5) (oi := { dst := some 13, op := Op.assign (Operand.tmp 61), type := 3, pos := "ref.go:143", after := #[{ on := 4, ground := Ground.data }, { on := 4, ground := Ground.chain }, { on := 0, ground := Ground.phase }, { on := 1, ground := Ground.phase }, { on := 2, ground := Ground.phase }, { on := 3, ground := Ground.phase }, { on := 4, ground := Ground.phase }], guard := none }) (v := .int .i64 x) rfl (by kernel_rfl) (by kernel_rfl) (by kernel_rfl) (fun _ _ _ h => hPan _ _ _ _ _ h) (Or.inl ⟨by rfl, ?_⟩) hS1 ?_
  · rintro wx ⟨d0, d1, d2, d3, d4⟩
    go_simp
  simp only [Act.put, List.setIfInBounds_toArray, List.set_cons_zero, List.set_cons_succ]
  refine wpAnyH_done (by kernel_rfl) ?_ _
  exact hQ w1 kk1
end Go.Proofs.YtodgobapgmhgdaaDoor
