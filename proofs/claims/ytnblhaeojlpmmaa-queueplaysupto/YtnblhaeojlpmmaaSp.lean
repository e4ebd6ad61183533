import Derived.Test.YtnblhaeojlpmmaaSl
namespace Go.Proofs.Ytnblhaeojlpmmaa
open Go.ChangeShapes Go.WideShapes Go.ChangeAt Go.RowKit
set_option linter.unusedVariables false
def ops38_7 : Array Oper := #[{ dst := some 26, op := Op.move (Operand.tmp 0), type := 88, pos := "law.go:123", after := #[], guard := none },
  { dst := some 27, op := Op.nilCheck (Operand.tmp 26), type := 0, pos := "law.go:123", after := #[{ on := 0, ground := Ground.data }], guard := none },
  { dst := some 28, op := Op.fieldAddr 58 (Operand.tmp 27) 6, type := 0, pos := "law.go:123", after := #[{ on := 1, ground := Ground.data }], guard := none },
  { dst := some 29, op := Op.load 55 (Operand.tmp 28), type := 55, pos := "law.go:123", after := #[{ on := 2, ground := Ground.data }], guard := none },
  { dst := some 30, op := Op.move (Operand.tmp 3), type := 3, pos := "law.go:123", after := #[], guard := none },
  { dst := some 31, op := Op.indexAddr 55 (Operand.tmp 29) (Operand.tmp 30), type := 0, pos := "law.go:123", after := #[{ on := 3, ground := Ground.data }, { on := 4, ground := Ground.data }], guard := none },
  { dst := some 32, op := Op.load 62 (Operand.tmp 31), type := 62, pos := "law.go:123", after := #[{ on := 5, ground := Ground.data }], guard := none },
  { dst := some 33, op := Op.move (Operand.tmp 4), type := 3, pos := "law.go:123", after := #[], guard := none },
  { dst := some 34, op := Op.indexAddr 62 (Operand.tmp 32) (Operand.tmp 33), type := 0, pos := "law.go:123", after := #[{ on := 6, ground := Ground.data }, { on := 7, ground := Ground.data }], guard := none },
  { dst := some 35, op := Op.fieldAddr 75 (Operand.tmp 34) 1, type := 0, pos := "law.go:123", after := #[{ on := 8, ground := Ground.data }], guard := none },
  { dst := some 36, op := Op.load 38 (Operand.tmp 35), type := 38, pos := "law.go:123", after := #[{ on := 9, ground := Ground.data }], guard := none },
  { dst := some 37, op := Op.move (Operand.tmp 0), type := 88, pos := "law.go:123", after := #[], guard := none },
  { dst := some 38, op := Op.nilCheck (Operand.tmp 37), type := 0, pos := "law.go:123", after := #[{ on := 11, ground := Ground.data }], guard := none },
  { dst := some 39, op := Op.fieldAddr 58 (Operand.tmp 38) 7, type := 0, pos := "law.go:123", after := #[{ on := 12, ground := Ground.data }], guard := none },
  { dst := some 40, op := Op.load 55 (Operand.tmp 39), type := 55, pos := "law.go:123", after := #[{ on := 13, ground := Ground.data }], guard := none },
  { dst := some 41, op := Op.move (Operand.tmp 3), type := 3, pos := "law.go:123", after := #[], guard := none },
  { dst := some 42, op := Op.indexAddr 55 (Operand.tmp 40) (Operand.tmp 41), type := 0, pos := "law.go:123", after := #[{ on := 14, ground := Ground.data }, { on := 15, ground := Ground.data }], guard := none },
  { dst := some 43, op := Op.load 62 (Operand.tmp 42), type := 62, pos := "law.go:123", after := #[{ on := 16, ground := Ground.data }], guard := none },
  { dst := some 44, op := Op.move (Operand.tmp 4), type := 3, pos := "law.go:123", after := #[], guard := none },
  { dst := some 45, op := Op.indexAddr 62 (Operand.tmp 43) (Operand.tmp 44), type := 0, pos := "law.go:123", after := #[{ on := 17, ground := Ground.data }, { on := 18, ground := Ground.data }], guard := none },
  { dst := some 46, op := Op.fieldAddr 75 (Operand.tmp 45) 1, type := 0, pos := "law.go:123", after := #[{ on := 19, ground := Ground.data }], guard := none },
  { dst := some 47, op := Op.load 38 (Operand.tmp 46), type := 38, pos := "law.go:123", after := #[{ on := 20, ground := Ground.data }], guard := none },
  { dst := some 48, op := Op.binOp BinOp.neq 38 (Operand.tmp 36) (Operand.tmp 47) 38, type := 4, pos := "law.go:123", after := #[{ on := 10, ground := Ground.data }, { on := 21, ground := Ground.data }], guard := none },
  { dst := some 49, op := Op.move (Operand.tmp 48), type := 4, pos := "law.go:123", after := #[{ on := 22, ground := Ground.data }], guard := none },
  { dst := some 50, op := Op.move (Operand.tmp 0), type := 88, pos := "law.go:123", after := #[{ on := 23, ground := Ground.guard }], guard := some (23, false) },
  { dst := some 51, op := Op.nilCheck (Operand.tmp 50), type := 0, pos := "law.go:123", after := #[{ on := 24, ground := Ground.data }, { on := 23, ground := Ground.guard }], guard := some (23, false) },
  { dst := some 52, op := Op.fieldAddr 58 (Operand.tmp 51) 6, type := 0, pos := "law.go:123", after := #[{ on := 25, ground := Ground.data }, { on := 23, ground := Ground.guard }], guard := some (23, false) },
  { dst := some 53, op := Op.load 55 (Operand.tmp 52), type := 55, pos := "law.go:123", after := #[{ on := 26, ground := Ground.data }, { on := 23, ground := Ground.guard }], guard := some (23, false) },
  { dst := some 54, op := Op.move (Operand.tmp 3), type := 3, pos := "law.go:123", after := #[{ on := 23, ground := Ground.guard }], guard := some (23, false) },
  { dst := some 55, op := Op.indexAddr 55 (Operand.tmp 53) (Operand.tmp 54), type := 0, pos := "law.go:123", after := #[{ on := 27, ground := Ground.data }, { on := 28, ground := Ground.data }, { on := 23, ground := Ground.guard }], guard := some (23, false) },
  { dst := some 56, op := Op.load 62 (Operand.tmp 55), type := 62, pos := "law.go:123", after := #[{ on := 29, ground := Ground.data }, { on := 23, ground := Ground.guard }], guard := some (23, false) },
  { dst := some 57, op := Op.move (Operand.tmp 4), type := 3, pos := "law.go:123", after := #[{ on := 23, ground := Ground.guard }], guard := some (23, false) },
  { dst := some 58, op := Op.indexAddr 62 (Operand.tmp 56) (Operand.tmp 57), type := 0, pos := "law.go:123", after := #[{ on := 30, ground := Ground.data }, { on := 31, ground := Ground.data }, { on := 23, ground := Ground.guard }], guard := some (23, false) },
  { dst := some 59, op := Op.fieldAddr 75 (Operand.tmp 58) 0, type := 0, pos := "law.go:123", after := #[{ on := 32, ground := Ground.data }, { on := 23, ground := Ground.guard }], guard := some (23, false) },
  { dst := some 60, op := Op.load 37 (Operand.tmp 59), type := 37, pos := "law.go:123", after := #[{ on := 33, ground := Ground.data }, { on := 23, ground := Ground.guard }], guard := some (23, false) },
  { dst := some 61, op := Op.call { callee := Callee.builtin Builtin.len, args := #[Operand.tmp 60], argTypes := #[37] }, type := 3, pos := "law.go:123", after := #[{ on := 34, ground := Ground.data }, { on := 23, ground := Ground.guard }], guard := some (23, false) },
  { dst := some 62, op := Op.move (Operand.tmp 0), type := 88, pos := "law.go:123", after := #[{ on := 23, ground := Ground.guard }], guard := some (23, false) },
  { dst := some 63, op := Op.nilCheck (Operand.tmp 62), type := 0, pos := "law.go:123", after := #[{ on := 36, ground := Ground.data }, { on := 23, ground := Ground.guard }], guard := some (23, false) },
  { dst := some 64, op := Op.fieldAddr 58 (Operand.tmp 63) 7, type := 0, pos := "law.go:123", after := #[{ on := 37, ground := Ground.data }, { on := 23, ground := Ground.guard }], guard := some (23, false) },
  { dst := some 65, op := Op.load 55 (Operand.tmp 64), type := 55, pos := "law.go:123", after := #[{ on := 38, ground := Ground.data }, { on := 23, ground := Ground.guard }], guard := some (23, false) },
  { dst := some 66, op := Op.move (Operand.tmp 3), type := 3, pos := "law.go:123", after := #[{ on := 23, ground := Ground.guard }], guard := some (23, false) },
  { dst := some 67, op := Op.indexAddr 55 (Operand.tmp 65) (Operand.tmp 66), type := 0, pos := "law.go:123", after := #[{ on := 39, ground := Ground.data }, { on := 40, ground := Ground.data }, { on := 23, ground := Ground.guard }], guard := some (23, false) },
  { dst := some 68, op := Op.load 62 (Operand.tmp 67), type := 62, pos := "law.go:123", after := #[{ on := 41, ground := Ground.data }, { on := 23, ground := Ground.guard }], guard := some (23, false) },
  { dst := some 69, op := Op.move (Operand.tmp 4), type := 3, pos := "law.go:123", after := #[{ on := 23, ground := Ground.guard }], guard := some (23, false) },
  { dst := some 70, op := Op.indexAddr 62 (Operand.tmp 68) (Operand.tmp 69), type := 0, pos := "law.go:123", after := #[{ on := 42, ground := Ground.data }, { on := 43, ground := Ground.data }, { on := 23, ground := Ground.guard }], guard := some (23, false) },
  { dst := some 71, op := Op.fieldAddr 75 (Operand.tmp 70) 0, type := 0, pos := "law.go:123", after := #[{ on := 44, ground := Ground.data }, { on := 23, ground := Ground.guard }], guard := some (23, false) },
  { dst := some 72, op := Op.load 37 (Operand.tmp 71), type := 37, pos := "law.go:123", after := #[{ on := 45, ground := Ground.data }, { on := 23, ground := Ground.guard }], guard := some (23, false) },
  { dst := some 73, op := Op.call { callee := Callee.builtin Builtin.len, args := #[Operand.tmp 72], argTypes := #[37] }, type := 3, pos := "law.go:123", after := #[{ on := 46, ground := Ground.data }, { on := 23, ground := Ground.guard }], guard := some (23, false) },
  { dst := some 74, op := Op.binOp BinOp.neq 3 (Operand.tmp 61) (Operand.tmp 73) 3, type := 4, pos := "law.go:123", after := #[{ on := 35, ground := Ground.data }, { on := 47, ground := Ground.data }, { on := 23, ground := Ground.guard }], guard := some (23, false) },
  { dst := some 75, op := Op.pick (Operand.tmp 49) (Operand.const (Value.bool true)) (Operand.tmp 74), type := 4, pos := "law.go:123", after := #[{ on := 23, ground := Ground.data }, { on := 48, ground := Ground.data }], guard := none }]
set_option maxHeartbeats 8000000 in
set_option maxRecDepth 100000 in
theorem reg38_7 (W : World) (K g p i n c d x y r xc yc k dn dc : Nat) (da : Option Addr) (tk : Int) (hi : i < n) (hk : k < r) (hS : (fun w' => w'.cell? ⟨K, 14, none⟩ = some (.slice (some ⟨g, 0, none⟩) n c) ∧ w'.cell? ⟨g, i, none⟩ = some (.slice (some ⟨x, 0, none⟩) r xc) ∧ w'.cell? ⟨x, k * 2, none⟩ = some (.slice da dn dc) ∧ w'.cell? ⟨x, k * 2 + 1, none⟩ = some (.int .u64 tk) ∧ w'.cell? ⟨K, 15, none⟩ = some (.slice (some ⟨p, 0, none⟩) n d) ∧ w'.cell? ⟨p, i, none⟩ = some (.slice (some ⟨y, 0, none⟩) r yc) ∧ w'.cell? ⟨y, k * 2, none⟩ = some (.slice da dn dc) ∧ w'.cell? ⟨y, k * 2 + 1, none⟩ = some (.int .u64 tk)) W.drew)
    (Q : Exit → Act → World → Prop) (hPan : ∀ c (a : Act) w (d : Option Tmp) v, Q (.panic c) (a.put d v) w → Q (.panic c) a w) {u1 u2 u5 u6 u7 u8 u9 u10 u11 u12 u13 u14 u15 u16 u17 u18 u19 u20 u21 u22 u23 u24 u25 u26 u27 u28 u29 u30 u31 u32 u33 u34 u35 u36 u37 u38 u39 u40 u41 u42 u43 u44 u45 u46 u47 u48 u49 u50 u51 u52 u53 u54 u55 u56 u57 u58 u59 u60 u61 u62 u63 u64 u65 u66 u67 u68 u69 u70 u71 u72 u73 u74 u75 : Value}
    (hQ : Q .normal ⟨#[.pointer (some ⟨K, 8, none⟩), u1,u2, .int .i64 (i : Nat), .int .i64 (k : Nat), u5,u6,u7,u8,u9,u10,u11,u12,u13,u14,u15,u16,u17,u18,u19,u20,u21,u22,u23,u24,u25, .pointer (some ⟨K, 8, none⟩), .pointer (some ⟨K, 8, none⟩), .pointer (some ⟨K, 14, none⟩), .slice (some ⟨g, 0, none⟩) n c, .int .i64 (i : Nat), .pointer (some ⟨g, i, none⟩), .slice (some ⟨x, 0, none⟩) r xc, .int .i64 (k : Nat), .pointer (some ⟨x, k * 2, none⟩), .pointer (some ⟨x, k * 2 + 1, none⟩), .int .u64 tk, .pointer (some ⟨K, 8, none⟩), .pointer (some ⟨K, 8, none⟩), .pointer (some ⟨K, 15, none⟩), .slice (some ⟨p, 0, none⟩) n d, .int .i64 (i : Nat), .pointer (some ⟨p, i, none⟩), .slice (some ⟨y, 0, none⟩) r yc, .int .i64 (k : Nat), .pointer (some ⟨y, k * 2, none⟩), .pointer (some ⟨y, k * 2 + 1, none⟩), .int .u64 tk, .bool false, .bool false, .pointer (some ⟨K, 8, none⟩), .pointer (some ⟨K, 8, none⟩), .pointer (some ⟨K, 14, none⟩), .slice (some ⟨g, 0, none⟩) n c, .int .i64 (i : Nat), .pointer (some ⟨g, i, none⟩), .slice (some ⟨x, 0, none⟩) r xc, .int .i64 (k : Nat), .pointer (some ⟨x, k * 2, none⟩), .pointer (some ⟨x, k * 2, none⟩), .slice da dn dc, .int .i64 (dn : Nat), .pointer (some ⟨K, 8, none⟩), .pointer (some ⟨K, 8, none⟩), .pointer (some ⟨K, 15, none⟩), .slice (some ⟨p, 0, none⟩) n d, .int .i64 (i : Nat), .pointer (some ⟨p, i, none⟩), .slice (some ⟨y, 0, none⟩) r yc, .int .i64 (k : Nat), .pointer (some ⟨y, k * 2, none⟩), .pointer (some ⟨y, k * 2, none⟩), .slice da dn dc, .int .i64 (dn : Nat), .bool false, .bool false], []⟩ W.drew) :
    Code.wp Try.prog (Code.region 7 ops38_7 true) Q ⟨#[.pointer (some ⟨K, 8, none⟩), u1,u2, .int .i64 (i : Nat), .int .i64 (k : Nat), u5,u6,u7,u8,u9,u10,u11,u12,u13,u14,u15,u16,u17,u18,u19,u20,u21,u22,u23,u24,u25,u26,u27,u28,u29,u30,u31,u32,u33,u34,u35,u36,u37,u38,u39,u40,u41,u42,u43,u44,u45,u46,u47,u48,u49,u50,u51,u52,u53,u54,u55,u56,u57,u58,u59,u60,u61,u62,u63,u64,u65,u66,u67,u68,u69,u70,u71,u72,u73,u74,u75], []⟩ W := by
  have hiz : (i : Int) < (n : Int) := by omega
  have hkz : (k : Int) < (r : Int) := by omega
  refine wp_region_held_drew (S := fun w' => w'.cell? ⟨K, 14, none⟩ = some (.slice (some ⟨g, 0, none⟩) n c) ∧ w'.cell? ⟨g, i, none⟩ = some (.slice (some ⟨x, 0, none⟩) r xc) ∧ w'.cell? ⟨x, k * 2, none⟩ = some (.slice da dn dc) ∧ w'.cell? ⟨x, k * 2 + 1, none⟩ = some (.int .u64 tk) ∧ w'.cell? ⟨K, 15, none⟩ = some (.slice (some ⟨p, 0, none⟩) n d) ∧ w'.cell? ⟨p, i, none⟩ = some (.slice (some ⟨y, 0, none⟩) r yc) ∧ w'.cell? ⟨y, k * 2, none⟩ = some (.slice da dn dc) ∧ w'.cell? ⟨y, k * 2 + 1, none⟩ = some (.int .u64 tk)) hmx hS (fun HSX => ?_)
  clear hS
  obtain ⟨W0, hW0⟩ : ∃ W0,W0 = W.drew := ⟨_, rfl⟩
  rw [← hW0] at HSX hQ ⊢
  clear hW0
  refine wpAnyH_take (i := 0) (oi := { dst := some 26, op := Op.move (Operand.tmp 0), type := 88, pos := "law.go:123", after := #[], guard := none }) (v := .pointer (some ⟨K, 8, none⟩)) rfl (by kernel_rfl) (by kernel_rfl) (by kernel_rfl) (fun _ _ _ h => hPan _ _ _ _ _ h) (Or.inl ⟨by rfl, ?_⟩) HSX ?_
  · intro wx d0
    obtain ⟨s1, s2, s3, s4, s5, s6, s7, s8⟩ := d0
    go_simp
  simp only [Act.put, List.setIfInBounds_toArray, List.set_cons_zero, List.set_cons_succ]
  refine wpAnyH_take (i := 1) (oi := { dst := some 27, op := Op.nilCheck (Operand.tmp 26), type := 0, pos := "law.go:123", after := #[{ on := 0, ground := Ground.data }], guard := none }) (v := .pointer (some ⟨K, 8, none⟩)) rfl (by kernel_rfl) (by kernel_rfl) (by kernel_rfl) (fun _ _ _ h => hPan _ _ _ _ _ h) (Or.inl ⟨by rfl, ?_⟩) HSX ?_
  · intro wx d0
    obtain ⟨s1, s2, s3, s4, s5, s6, s7, s8⟩ := d0
    go_simp
  simp only [Act.put, List.setIfInBounds_toArray, List.set_cons_zero, List.set_cons_succ]
  refine wpAnyH_take (i := 2) (oi := { dst := some 28, op := Op.fieldAddr 58 (Operand.tmp 27) 6, type := 0, pos := "law.go:123", after := #[{ on := 1, ground := Ground.data }], guard := none }) (v := .pointer (some ⟨K, 14, none⟩)) rfl (by kernel_rfl) (by kernel_rfl) (by kernel_rfl) (fun _ _ _ h => hPan _ _ _ _ _ h) (Or.inl ⟨by rfl, ?_⟩) HSX ?_
  · intro wx d0
    obtain ⟨s1, s2, s3, s4, s5, s6, s7, s8⟩ := d0
    go_simp
  simp only [Act.put, List.setIfInBounds_toArray, List.set_cons_zero, List.set_cons_succ]
  refine wpAnyH_take (i := 3) (oi := { dst := some 29, op := Op.load 55 (Operand.tmp 28), type := 55, pos := "law.go:123", after := #[{ on := 2, ground := Ground.data }], guard := none }) (v := .slice (some ⟨g, 0, none⟩) n c) rfl (by kernel_rfl) (by kernel_rfl) (by kernel_rfl) (fun _ _ _ h => hPan _ _ _ _ _ h) (Or.inl ⟨by rfl, ?_⟩) HSX ?_
  · intro wx d0
    obtain ⟨s1, s2, s3, s4, s5, s6, s7, s8⟩ := d0
    go_simp
  simp only [Act.put, List.setIfInBounds_toArray, List.set_cons_zero, List.set_cons_succ]
  refine wpAnyH_take (i := 4) (oi := { dst := some 30, op := Op.move (Operand.tmp 3), type := 3, pos := "law.go:123", after := #[], guard := none }) (v := .int .i64 (i : Nat)) rfl (by kernel_rfl) (by kernel_rfl) (by kernel_rfl) (fun _ _ _ h => hPan _ _ _ _ _ h) (Or.inl ⟨by rfl, ?_⟩) HSX ?_
  · intro wx d0
    obtain ⟨s1, s2, s3, s4, s5, s6, s7, s8⟩ := d0
    go_simp
  simp only [Act.put, List.setIfInBounds_toArray, List.set_cons_zero, List.set_cons_succ]
  refine wpAnyH_take (i := 5) (oi := { dst := some 31, op := Op.indexAddr 55 (Operand.tmp 29) (Operand.tmp 30), type := 0, pos := "law.go:123", after := #[{ on := 3, ground := Ground.data }, { on := 4, ground := Ground.data }], guard := none }) (v := .pointer (some ⟨g, i, none⟩)) rfl (by kernel_rfl) (by kernel_rfl) (by kernel_rfl) (fun _ _ _ h => hPan _ _ _ _ _ h) (Or.inl ⟨by rfl, ?_⟩) HSX ?_
  · intro wx d0
    obtain ⟨s1, s2, s3, s4, s5, s6, s7, s8⟩ := d0
    go_simp
  simp only [Act.put, List.setIfInBounds_toArray, List.set_cons_zero, List.set_cons_succ]
  refine wpAnyH_take (i := 6) (oi := { dst := some 32, op := Op.load 62 (Operand.tmp 31), type := 62, pos := "law.go:123", after := #[{ on := 5, ground := Ground.data }], guard := none }) (v := .slice (some ⟨x, 0, none⟩) r xc) rfl (by kernel_rfl) (by kernel_rfl) (by kernel_rfl) (fun _ _ _ h => hPan _ _ _ _ _ h) (Or.inl ⟨by rfl, ?_⟩) HSX ?_
  · intro wx d0
    obtain ⟨s1, s2, s3, s4, s5, s6, s7, s8⟩ := d0
    go_simp
  simp only [Act.put, List.setIfInBounds_toArray, List.set_cons_zero, List.set_cons_succ]
  refine wpAnyH_take (i := 7) (oi := { dst := some 33, op := Op.move (Operand.tmp 4), type := 3, pos := "law.go:123", after := #[], guard := none }) (v := .int .i64 (k : Nat)) rfl (by kernel_rfl) (by kernel_rfl) (by kernel_rfl) (fun _ _ _ h => hPan _ _ _ _ _ h) (Or.inl ⟨by rfl, ?_⟩) HSX ?_
  · intro wx d0
    obtain ⟨s1, s2, s3, s4, s5, s6, s7, s8⟩ := d0
    go_simp
  simp only [Act.put, List.setIfInBounds_toArray, List.set_cons_zero, List.set_cons_succ]
  refine wpAnyH_take (i := 8) (oi := { dst := some 34, op := Op.indexAddr 62 (Operand.tmp 32) (Operand.tmp 33), type := 0, pos := "law.go:123", after := #[{ on := 6, ground := Ground.data }, { on := 7, ground := Ground.data }], guard := none }) (v := .pointer (some ⟨x, k * 2, none⟩)) rfl (by kernel_rfl) (by kernel_rfl) (by kernel_rfl) (fun _ _ _ h => hPan _ _ _ _ _ h) (Or.inl ⟨by rfl, ?_⟩) HSX ?_
  · intro wx d0
    obtain ⟨s1, s2, s3, s4, s5, s6, s7, s8⟩ := d0
    go_simp
  simp only [Act.put, List.setIfInBounds_toArray, List.set_cons_zero, List.set_cons_succ]
  refine wpAnyH_take (i := 9) (oi := { dst := some 35, op := Op.fieldAddr 75 (Operand.tmp 34) 1, type := 0, pos := "law.go:123", after := #[{ on := 8, ground := Ground.data }], guard := none }) (v := .pointer (some ⟨x, k * 2 + 1, none⟩)) rfl (by kernel_rfl) (by kernel_rfl) (by kernel_rfl) (fun _ _ _ h => hPan _ _ _ _ _ h) (Or.inl ⟨by rfl, ?_⟩) HSX ?_
  · intro wx d0
    obtain ⟨s1, s2, s3, s4, s5, s6, s7, s8⟩ := d0
    go_simp
  simp only [Act.put, List.setIfInBounds_toArray, List.set_cons_zero, List.set_cons_succ]
  refine wpAnyH_take (i := 10) (oi := { dst := some 36, op := Op.load 38 (Operand.tmp 35), type := 38, pos := "law.go:123", after := #[{ on := 9, ground := Ground.data }], guard := none }) (v := .int .u64 tk) rfl (by kernel_rfl) (by kernel_rfl) (by kernel_rfl) (fun _ _ _ h => hPan _ _ _ _ _ h) (Or.inl ⟨by rfl, ?_⟩) HSX ?_
  · intro wx d0
    obtain ⟨s1, s2, s3, s4, s5, s6, s7, s8⟩ := d0
    go_simp
  simp only [Act.put, List.setIfInBounds_toArray, List.set_cons_zero, List.set_cons_succ]
  refine wpAnyH_take (i := 11) (oi := { dst := some 37, op := Op.move (Operand.tmp 0), type := 88, pos := "law.go:123", after := #[], guard := none }) (v := .pointer (some ⟨K, 8, none⟩)) rfl (by kernel_rfl) (by kernel_rfl) (by kernel_rfl) (fun _ _ _ h => hPan _ _ _ _ _ h) (Or.inl ⟨by rfl, ?_⟩) HSX ?_
  · intro wx d0
    obtain ⟨s1, s2, s3, s4, s5, s6, s7, s8⟩ := d0
    go_simp
  simp only [Act.put, List.setIfInBounds_toArray, List.set_cons_zero, List.set_cons_succ]
  refine wpAnyH_take (i := 12) (oi := { dst := some 38, op := Op.nilCheck (Operand.tmp 37), type := 0, pos := "law.go:123", after := #[{ on := 11, ground := Ground.data }], guard := none }) (v := .pointer (some ⟨K, 8, none⟩)) rfl (by kernel_rfl) (by kernel_rfl) (by kernel_rfl) (fun _ _ _ h => hPan _ _ _ _ _ h) (Or.inl ⟨by rfl, ?_⟩) HSX ?_
  · intro wx d0
    obtain ⟨s1, s2, s3, s4, s5, s6, s7, s8⟩ := d0
    go_simp
  simp only [Act.put, List.setIfInBounds_toArray, List.set_cons_zero, List.set_cons_succ]
  refine wpAnyH_take (i := 13) (oi := { dst := some 39, op := Op.fieldAddr 58 (Operand.tmp 38) 7, type := 0, pos := "law.go:123", after := #[{ on := 12, ground := Ground.data }], guard := none }) (v := .pointer (some ⟨K, 15, none⟩)) rfl (by kernel_rfl) (by kernel_rfl) (by kernel_rfl) (fun _ _ _ h => hPan _ _ _ _ _ h) (Or.inl ⟨by rfl, ?_⟩) HSX ?_
  · intro wx d0
    obtain ⟨s1, s2, s3, s4, s5, s6, s7, s8⟩ := d0
    go_simp
  simp only [Act.put, List.setIfInBounds_toArray, List.set_cons_zero, List.set_cons_succ]
  refine wpAnyH_take (i := 14) (oi := { dst := some 40, op := Op.load 55 (Operand.tmp 39), type := 55, pos := "law.go:123", after := #[{ on := 13, ground := Ground.data }], guard := none }) (v := .slice (some ⟨p, 0, none⟩) n d) rfl (by kernel_rfl) (by kernel_rfl) (by kernel_rfl) (fun _ _ _ h => hPan _ _ _ _ _ h) (Or.inl ⟨by rfl, ?_⟩) HSX ?_
  · intro wx d0
    obtain ⟨s1, s2, s3, s4, s5, s6, s7, s8⟩ := d0
    go_simp
  simp only [Act.put, List.setIfInBounds_toArray, List.set_cons_zero, List.set_cons_succ]
  refine wpAnyH_take (i := 15) (oi := { dst := some 41, op := Op.move (Operand.tmp 3), type := 3, pos := "law.go:123", after := #[], guard := none }) (v := .int .i64 (i : Nat)) rfl (by kernel_rfl) (by kernel_rfl) (by kernel_rfl) (fun _ _ _ h => hPan _ _ _ _ _ h) (Or.inl ⟨by rfl, ?_⟩) HSX ?_
  · intro wx d0
    obtain ⟨s1, s2, s3, s4, s5, s6, s7, s8⟩ := d0
    go_simp
  simp only [Act.put, List.setIfInBounds_toArray, List.set_cons_zero, List.set_cons_succ]
  refine wpAnyH_take (i := 16) (oi := { dst := some 42, op := Op.indexAddr 55 (Operand.tmp 40) (Operand.tmp 41), type := 0, pos := "law.go:123", after := #[{ on := 14, ground := Ground.data }, { on := 15, ground := Ground.data }], guard := none }) (v := .pointer (some ⟨p, i, none⟩)) rfl (by kernel_rfl) (by kernel_rfl) (by kernel_rfl) (fun _ _ _ h => hPan _ _ _ _ _ h) (Or.inl ⟨by rfl, ?_⟩) HSX ?_
  · intro wx d0
    obtain ⟨s1, s2, s3, s4, s5, s6, s7, s8⟩ := d0
    go_simp
  simp only [Act.put, List.setIfInBounds_toArray, List.set_cons_zero, List.set_cons_succ]
  refine wpAnyH_take (i := 17) (oi := { dst := some 43, op := Op.load 62 (Operand.tmp 42), type := 62, pos := "law.go:123", after := #[{ on := 16, ground := Ground.data }], guard := none }) (v := .slice (some ⟨y, 0, none⟩) r yc) rfl (by kernel_rfl) (by kernel_rfl) (by kernel_rfl) (fun _ _ _ h => hPan _ _ _ _ _ h) (Or.inl ⟨by rfl, ?_⟩) HSX ?_
  · intro wx d0
    obtain ⟨s1, s2, s3, s4, s5, s6, s7, s8⟩ := d0
    go_simp
  simp only [Act.put, List.setIfInBounds_toArray, List.set_cons_zero, List.set_cons_succ]
  refine wpAnyH_take (i := 18) (oi := { dst := some 44, op := Op.move (Operand.tmp 4), type := 3, pos := "law.go:123", after := #[], guard := none }) (v := .int .i64 (k : Nat)) rfl (by kernel_rfl) (by kernel_rfl) (by kernel_rfl) (fun _ _ _ h => hPan _ _ _ _ _ h) (Or.inl ⟨by rfl, ?_⟩) HSX ?_
  · intro wx d0
    obtain ⟨s1, s2, s3, s4, s5, s6, s7, s8⟩ := d0
    go_simp
  simp only [Act.put, List.setIfInBounds_toArray, List.set_cons_zero, List.set_cons_succ]
  refine wpAnyH_take (i := 19) (oi := { dst := some 45, op := Op.indexAddr 62 (Operand.tmp 43) (Operand.tmp 44), type := 0, pos := "law.go:123", after := #[{ on := 17, ground := Ground.data }, { on := 18, ground := Ground.data }], guard := none }) (v := .pointer (some ⟨y, k * 2, none⟩)) rfl (by kernel_rfl) (by kernel_rfl) (by kernel_rfl) (fun _ _ _ h => hPan _ _ _ _ _ h) (Or.inl ⟨by rfl, ?_⟩) HSX ?_
  · intro wx d0
    obtain ⟨s1, s2, s3, s4, s5, s6, s7, s8⟩ := d0
    go_simp
  simp only [Act.put, List.setIfInBounds_toArray, List.set_cons_zero, List.set_cons_succ]
  refine wpAnyH_take (i := 20) (oi := { dst := some 46, op := Op.fieldAddr 75 (Operand.tmp 45) 1, type := 0, pos := "law.go:123", after := #[{ on := 19, ground := Ground.data }], guard := none }) (v := .pointer (some ⟨y, k * 2 + 1, none⟩)) rfl (by kernel_rfl) (by kernel_rfl) (by kernel_rfl) (fun _ _ _ h => hPan _ _ _ _ _ h) (Or.inl ⟨by rfl, ?_⟩) HSX ?_
  · intro wx d0
    obtain ⟨s1, s2, s3, s4, s5, s6, s7, s8⟩ := d0
    go_simp
  simp only [Act.put, List.setIfInBounds_toArray, List.set_cons_zero, List.set_cons_succ]
  refine wpAnyH_take (i := 21) (oi := { dst := some 47, op := Op.load 38 (Operand.tmp 46), type := 38, pos := "law.go:123", after := #[{ on := 20, ground := Ground.data }], guard := none }) (v := .int .u64 tk) rfl (by kernel_rfl) (by kernel_rfl) (by kernel_rfl) (fun _ _ _ h => hPan _ _ _ _ _ h) (Or.inl ⟨by rfl, ?_⟩) HSX ?_
  · intro wx d0
    obtain ⟨s1, s2, s3, s4, s5, s6, s7, s8⟩ := d0
    go_simp
  simp only [Act.put, List.setIfInBounds_toArray, List.set_cons_zero, List.set_cons_succ]
  refine wpAnyH_take (i := 22) (oi := { dst := some 48, op := Op.binOp BinOp.neq 38 (Operand.tmp 36) (Operand.tmp 47) 38, type := 4, pos := "law.go:123", after := #[{ on := 10, ground := Ground.data }, { on := 21, ground := Ground.data }], guard := none }) (v := .bool false) rfl (by kernel_rfl) (by kernel_rfl) (by kernel_rfl) (fun _ _ _ h => hPan _ _ _ _ _ h) (Or.inl ⟨by rfl, ?_⟩) HSX ?_
  · intro wx d0
    obtain ⟨s1, s2, s3, s4, s5, s6, s7, s8⟩ := d0
    go_simp
  simp only [Act.put, List.setIfInBounds_toArray, List.set_cons_zero, List.set_cons_succ]
  refine wpAnyH_take (i := 23) (oi := { dst := some 49, op := Op.move (Operand.tmp 48), type := 4, pos := "law.go:123", after := #[{ on := 22, ground := Ground.data }], guard := none }) (v := .bool false) rfl (by kernel_rfl) (by kernel_rfl) (by kernel_rfl) (fun _ _ _ h => hPan _ _ _ _ _ h) (Or.inl ⟨by rfl, ?_⟩) HSX ?_
  · intro wx d0
    obtain ⟨s1, s2, s3, s4, s5, s6, s7, s8⟩ := d0
    go_simp
  simp only [Act.put, List.setIfInBounds_toArray, List.set_cons_zero, List.set_cons_succ]
  refine wpAnyH_take (i := 24) (oi := { dst := some 50, op := Op.move (Operand.tmp 0), type := 88, pos := "law.go:123", after := #[{ on := 23, ground := Ground.guard }], guard := some (23, false) }) (v := .pointer (some ⟨K, 8, none⟩)) rfl (by kernel_rfl) (by kernel_rfl) (by kernel_rfl) (fun _ _ _ h => hPan _ _ _ _ _ h) (Or.inl ⟨by rfl, ?_⟩) HSX ?_
  · intro wx d0
    obtain ⟨s1, s2, s3, s4, s5, s6, s7, s8⟩ := d0
    go_simp
  simp only [Act.put, List.setIfInBounds_toArray, List.set_cons_zero, List.set_cons_succ]
  refine wpAnyH_take (i := 25) (oi := { dst := some 51, op := Op.nilCheck (Operand.tmp 50), type := 0, pos := "law.go:123", after := #[{ on := 24, ground := Ground.data }, { on := 23, ground := Ground.guard }], guard := some (23, false) }) (v := .pointer (some ⟨K, 8, none⟩)) rfl (by kernel_rfl) (by kernel_rfl) (by kernel_rfl) (fun _ _ _ h => hPan _ _ _ _ _ h) (Or.inl ⟨by rfl, ?_⟩) HSX ?_
  · intro wx d0
    obtain ⟨s1, s2, s3, s4, s5, s6, s7, s8⟩ := d0
    go_simp
  simp only [Act.put, List.setIfInBounds_toArray, List.set_cons_zero, List.set_cons_succ]
  refine wpAnyH_take (i := 26) (oi := { dst := some 52, op := Op.fieldAddr 58 (Operand.tmp 51) 6, type := 0, pos := "law.go:123", after := #[{ on := 25, ground := Ground.data }, { on := 23, ground := Ground.guard }], guard := some (23, false) }) (v := .pointer (some ⟨K, 14, none⟩)) rfl (by kernel_rfl) (by kernel_rfl) (by kernel_rfl) (fun _ _ _ h => hPan _ _ _ _ _ h) (Or.inl ⟨by rfl, ?_⟩) HSX ?_
  · intro wx d0
    obtain ⟨s1, s2, s3, s4, s5, s6, s7, s8⟩ := d0
    go_simp
  simp only [Act.put, List.setIfInBounds_toArray, List.set_cons_zero, List.set_cons_succ]
  refine wpAnyH_take (i := 27) (oi := { dst := some 53, op := Op.load 55 (Operand.tmp 52), type := 55, pos := "law.go:123", after := #[{ on := 26, ground := Ground.data }, { on := 23, ground := Ground.guard }], guard := some (23, false) }) (v := .slice (some ⟨g, 0, none⟩) n c) rfl (by kernel_rfl) (by kernel_rfl) (by kernel_rfl) (fun _ _ _ h => hPan _ _ _ _ _ h) (Or.inl ⟨by rfl, ?_⟩) HSX ?_
  · intro wx d0
    obtain ⟨s1, s2, s3, s4, s5, s6, s7, s8⟩ := d0
    go_simp
  simp only [Act.put, List.setIfInBounds_toArray, List.set_cons_zero, List.set_cons_succ]
  refine wpAnyH_take (i := 28) (oi := { dst := some 54, op := Op.move (Operand.tmp 3), type := 3, pos := "law.go:123", after := #[{ on := 23, ground := Ground.guard }], guard := some (23, false) }) (v := .int .i64 (i : Nat)) rfl (by kernel_rfl) (by kernel_rfl) (by kernel_rfl) (fun _ _ _ h => hPan _ _ _ _ _ h) (Or.inl ⟨by rfl, ?_⟩) HSX ?_
  · intro wx d0
    obtain ⟨s1, s2, s3, s4, s5, s6, s7, s8⟩ := d0
    go_simp
  simp only [Act.put, List.setIfInBounds_toArray, List.set_cons_zero, List.set_cons_succ]
  refine wpAnyH_take (i := 29) (oi := { dst := some 55, op := Op.indexAddr 55 (Operand.tmp 53) (Operand.tmp 54), type := 0, pos := "law.go:123", after := #[{ on := 27, ground := Ground.data }, { on := 28, ground := Ground.data }, { on := 23, ground := Ground.guard }], guard := some (23, false) }) (v := .pointer (some ⟨g, i, none⟩)) rfl (by kernel_rfl) (by kernel_rfl) (by kernel_rfl) (fun _ _ _ h => hPan _ _ _ _ _ h) (Or.inl ⟨by rfl, ?_⟩) HSX ?_
  · intro wx d0
    obtain ⟨s1, s2, s3, s4, s5, s6, s7, s8⟩ := d0
    go_simp
  simp only [Act.put, List.setIfInBounds_toArray, List.set_cons_zero, List.set_cons_succ]
  refine wpAnyH_take (i := 30) (oi := { dst := some 56, op := Op.load 62 (Operand.tmp 55), type := 62, pos := "law.go:123", after := #[{ on := 29, ground := Ground.data }, { on := 23, ground := Ground.guard }], guard := some (23, false) }) (v := .slice (some ⟨x, 0, none⟩) r xc) rfl (by kernel_rfl) (by kernel_rfl) (by kernel_rfl) (fun _ _ _ h => hPan _ _ _ _ _ h) (Or.inl ⟨by rfl, ?_⟩) HSX ?_
  · intro wx d0
    obtain ⟨s1, s2, s3, s4, s5, s6, s7, s8⟩ := d0
    go_simp
  simp only [Act.put, List.setIfInBounds_toArray, List.set_cons_zero, List.set_cons_succ]
  refine wpAnyH_take (i := 31) (oi := { dst := some 57, op := Op.move (Operand.tmp 4), type := 3, pos := "law.go:123", after := #[{ on := 23, ground := Ground.guard }], guard := some (23, false) }) (v := .int .i64 (k : Nat)) rfl (by kernel_rfl) (by kernel_rfl) (by kernel_rfl) (fun _ _ _ h => hPan _ _ _ _ _ h) (Or.inl ⟨by rfl, ?_⟩) HSX ?_
  · intro wx d0
    obtain ⟨s1, s2, s3, s4, s5, s6, s7, s8⟩ := d0
    go_simp
  simp only [Act.put, List.setIfInBounds_toArray, List.set_cons_zero, List.set_cons_succ]
  refine wpAnyH_take (i := 32) (oi := { dst := some 58, op := Op.indexAddr 62 (Operand.tmp 56) (Operand.tmp 57), type := 0, pos := "law.go:123", after := #[{ on := 30, ground := Ground.data }, { on := 31, ground := Ground.data }, { on := 23, ground := Ground.guard }], guard := some (23, false) }) (v := .pointer (some ⟨x, k * 2, none⟩)) rfl (by kernel_rfl) (by kernel_rfl) (by kernel_rfl) (fun _ _ _ h => hPan _ _ _ _ _ h) (Or.inl ⟨by rfl, ?_⟩) HSX ?_
  · intro wx d0
    obtain ⟨s1, s2, s3, s4, s5, s6, s7, s8⟩ := d0
    go_simp
  simp only [Act.put, List.setIfInBounds_toArray, List.set_cons_zero, List.set_cons_succ]
  refine wpAnyH_take (i := 33) (oi := { dst := some 59, op := Op.fieldAddr 75 (Operand.tmp 58) 0, type := 0, pos := "law.go:123", after := #[{ on := 32, ground := Ground.data }, { on := 23, ground := Ground.guard }], guard := some (23, false) }) (v := .pointer (some ⟨x, k * 2, none⟩)) rfl (by kernel_rfl) (by kernel_rfl) (by kernel_rfl) (fun _ _ _ h => hPan _ _ _ _ _ h) (Or.inl ⟨by rfl, ?_⟩) HSX ?_
  · intro wx d0
    obtain ⟨s1, s2, s3, s4, s5, s6, s7, s8⟩ := d0
    go_simp
  simp only [Act.put, List.setIfInBounds_toArray, List.set_cons_zero, List.set_cons_succ]
  refine wpAnyH_take (i := 34) (oi := { dst := some 60, op := Op.load 37 (Operand.tmp 59), type := 37, pos := "law.go:123", after := #[{ on := 33, ground := Ground.data }, { on := 23, ground := Ground.guard }], guard := some (23, false) }) (v := .slice da dn dc) rfl (by kernel_rfl) (by kernel_rfl) (by kernel_rfl) (fun _ _ _ h => hPan _ _ _ _ _ h) (Or.inl ⟨by rfl, ?_⟩) HSX ?_
  · intro wx d0
    obtain ⟨s1, s2, s3, s4, s5, s6, s7, s8⟩ := d0
    go_simp
  simp only [Act.put, List.setIfInBounds_toArray, List.set_cons_zero, List.set_cons_succ]
  refine wpAnyH_take (i := 35) (oi := { dst := some 61, op := Op.call { callee := Callee.builtin Builtin.len, args := #[Operand.tmp 60], argTypes := #[37] }, type := 3, pos := "law.go:123", after := #[{ on := 34, ground := Ground.data }, { on := 23, ground := Ground.guard }], guard := some (23, false) }) (v := .int .i64 (dn : Nat)) rfl (by kernel_rfl) (by kernel_rfl) (by kernel_rfl) (fun _ _ _ h => hPan _ _ _ _ _ h) (Or.inl ⟨by rfl, ?_⟩) HSX ?_
  · intro wx d0
    obtain ⟨s1, s2, s3, s4, s5, s6, s7, s8⟩ := d0
    go_simp
  simp only [Act.put, List.setIfInBounds_toArray, List.set_cons_zero, List.set_cons_succ]
  refine wpAnyH_take (i := 36) (oi := { dst := some 62, op := Op.move (Operand.tmp 0), type := 88, pos := "law.go:123", after := #[{ on := 23, ground := Ground.guard }], guard := some (23, false) }) (v := .pointer (some ⟨K, 8, none⟩)) rfl (by kernel_rfl) (by kernel_rfl) (by kernel_rfl) (fun _ _ _ h => hPan _ _ _ _ _ h) (Or.inl ⟨by rfl, ?_⟩) HSX ?_
  · intro wx d0
    obtain ⟨s1, s2, s3, s4, s5, s6, s7, s8⟩ := d0
    go_simp
  simp only [Act.put, List.setIfInBounds_toArray, List.set_cons_zero, List.set_cons_succ]
  refine wpAnyH_take (i := 37) (oi := { dst := some 63, op := Op.nilCheck (Operand.tmp 62), type := 0, pos := "law.go:123", after := #[{ on := 36, ground := Ground.data }, { on := 23, ground := Ground.guard }], guard := some (23, false) }) (v := .pointer (some ⟨K, 8, none⟩)) rfl (by kernel_rfl) (by kernel_rfl) (by kernel_rfl) (fun _ _ _ h => hPan _ _ _ _ _ h) (Or.inl ⟨by rfl, ?_⟩) HSX ?_
  · intro wx d0
    obtain ⟨s1, s2, s3, s4, s5, s6, s7, s8⟩ := d0
    go_simp
  simp only [Act.put, List.setIfInBounds_toArray, List.set_cons_zero, List.set_cons_succ]
  refine wpAnyH_take (i := 38) (oi := { dst := some 64, op := Op.fieldAddr 58 (Operand.tmp 63) 7, type := 0, pos := "law.go:123", after := #[{ on := 37, ground := Ground.data }, { on := 23, ground := Ground.guard }], guard := some (23, false) }) (v := .pointer (some ⟨K, 15, none⟩)) rfl (by kernel_rfl) (by kernel_rfl) (by kernel_rfl) (fun _ _ _ h => hPan _ _ _ _ _ h) (Or.inl ⟨by rfl, ?_⟩) HSX ?_
  · intro wx d0
    obtain ⟨s1, s2, s3, s4, s5, s6, s7, s8⟩ := d0
    go_simp
  simp only [Act.put, List.setIfInBounds_toArray, List.set_cons_zero, List.set_cons_succ]
  refine wpAnyH_take (i := 39) (oi := { dst := some 65, op := Op.load 55 (Operand.tmp 64), type := 55, pos := "law.go:123", after := #[{ on := 38, ground := Ground.data }, { on := 23, ground := Ground.guard }], guard := some (23, false) }) (v := .slice (some ⟨p, 0, none⟩) n d) rfl (by kernel_rfl) (by kernel_rfl) (by kernel_rfl) (fun _ _ _ h => hPan _ _ _ _ _ h) (Or.inl ⟨by rfl, ?_⟩) HSX ?_
  · intro wx d0
    obtain ⟨s1, s2, s3, s4, s5, s6, s7, s8⟩ := d0
    go_simp
  simp only [Act.put, List.setIfInBounds_toArray, List.set_cons_zero, List.set_cons_succ]
  refine wpAnyH_take (i := 40) (oi := { dst := some 66, op := Op.move (Operand.tmp 3), type := 3, pos := "law.go:123", after := #[{ on := 23, ground := Ground.guard }], guard := some (23, false) }) (v := .int .i64 (i : Nat)) rfl (by kernel_rfl) (by kernel_rfl) (by kernel_rfl) (fun _ _ _ h => hPan _ _ _ _ _ h) (Or.inl ⟨by rfl, ?_⟩) HSX ?_
  · intro wx d0
    obtain ⟨s1, s2, s3, s4, s5, s6, s7, s8⟩ := d0
    go_simp
  simp only [Act.put, List.setIfInBounds_toArray, List.set_cons_zero, List.set_cons_succ]
  refine wpAnyH_take (i := 41) (oi := { dst := some 67, op := Op.indexAddr 55 (Operand.tmp 65) (Operand.tmp 66), type := 0, pos := "law.go:123", after := #[{ on := 39, ground := Ground.data }, { on := 40, ground := Ground.data }, { on := 23, ground := Ground.guard }], guard := some (23, false) }) (v := .pointer (some ⟨p, i, none⟩)) rfl (by kernel_rfl) (by kernel_rfl) (by kernel_rfl) (fun _ _ _ h => hPan _ _ _ _ _ h) (Or.inl ⟨by rfl, ?_⟩) HSX ?_
  · intro wx d0
    obtain ⟨s1, s2, s3, s4, s5, s6, s7, s8⟩ := d0
    go_simp
  simp only [Act.put, List.setIfInBounds_toArray, List.set_cons_zero, List.set_cons_succ]
  refine wpAnyH_take (i := 42) (oi := { dst := some 68, op := Op.load 62 (Operand.tmp 67), type := 62, pos := "law.go:123", after := #[{ on := 41, ground := Ground.data }, { on := 23, ground := Ground.guard }], guard := some (23, false) }) (v := .slice (some ⟨y, 0, none⟩) r yc) rfl (by kernel_rfl) (by kernel_rfl) (by kernel_rfl) (fun _ _ _ h => hPan _ _ _ _ _ h) (Or.inl ⟨by rfl, ?_⟩) HSX ?_
  · intro wx d0
    obtain ⟨s1, s2, s3, s4, s5, s6, s7, s8⟩ := d0
    go_simp
  simp only [Act.put, List.setIfInBounds_toArray, List.set_cons_zero, List.set_cons_succ]
  refine wpAnyH_take (i := 43) (oi := { dst := some 69, op := Op.move (Operand.tmp 4), type := 3, pos := "law.go:123", after := #[{ on := 23, ground := Ground.guard }], guard := some (23, false) }) (v := .int .i64 (k : Nat)) rfl (by kernel_rfl) (by kernel_rfl) (by kernel_rfl) (fun _ _ _ h => hPan _ _ _ _ _ h) (Or.inl ⟨by rfl, ?_⟩) HSX ?_
  · intro wx d0
    obtain ⟨s1, s2, s3, s4, s5, s6, s7, s8⟩ := d0
    go_simp
  simp only [Act.put, List.setIfInBounds_toArray, List.set_cons_zero, List.set_cons_succ]
  refine wpAnyH_take (i := 44) (oi := { dst := some 70, op := Op.indexAddr 62 (Operand.tmp 68) (Operand.tmp 69), type := 0, pos := "law.go:123", after := #[{ on := 42, ground := Ground.data }, { on := 43, ground := Ground.data }, { on := 23, ground := Ground.guard }], guard := some (23, false) }) (v := .pointer (some ⟨y, k * 2, none⟩)) rfl (by kernel_rfl) (by kernel_rfl) (by kernel_rfl) (fun _ _ _ h => hPan _ _ _ _ _ h) (Or.inl ⟨by rfl, ?_⟩) HSX ?_
  · intro wx d0
    obtain ⟨s1, s2, s3, s4, s5, s6, s7, s8⟩ := d0
    go_simp
  simp only [Act.put, List.setIfInBounds_toArray, List.set_cons_zero, List.set_cons_succ]
  refine wpAnyH_take (i := 45) (oi := { dst := some 71, op := Op.fieldAddr 75 (Operand.tmp 70) 0, type := 0, pos := "law.go:123", after := #[{ on := 44, ground := Ground.data }, { on := 23, ground := Ground.guard }], guard := some (23, false) }) (v := .pointer (some ⟨y, k * 2, none⟩)) rfl (by kernel_rfl) (by kernel_rfl) (by kernel_rfl) (fun _ _ _ h => hPan _ _ _ _ _ h) (Or.inl ⟨by rfl, ?_⟩) HSX ?_
  · intro wx d0
    obtain ⟨s1, s2, s3, s4, s5, s6, s7, s8⟩ := d0
    go_simp
  simp only [Act.put, List.setIfInBounds_toArray, List.set_cons_zero, List.set_cons_succ]
  refine wpAnyH_take (i := 46) (oi := { dst := some 72, op := Op.load 37 (Operand.tmp 71), type := 37, pos := "law.go:123", after := #[{ on := 45, ground := Ground.data }, { on := 23, ground := Ground.guard }], guard := some (23, false) }) (v := .slice da dn dc) rfl (by kernel_rfl) (by kernel_rfl) (by kernel_rfl) (fun _ _ _ h => hPan _ _ _ _ _ h) (Or.inl ⟨by rfl, ?_⟩) HSX ?_
  · intro wx d0
    obtain ⟨s1, s2, s3, s4, s5, s6, s7, s8⟩ := d0
    go_simp
  simp only [Act.put, List.setIfInBounds_toArray, List.set_cons_zero, List.set_cons_succ]
  refine wpAnyH_take (i := 47) (oi := { dst := some 73, op := Op.call { callee := Callee.builtin Builtin.len, args := #[Operand.tmp 72], argTypes := #[37] }, type := 3, pos := "law.go:123", after := #[{ on := 46, ground := Ground.data }, { on := 23, ground := Ground.guard }], guard := some (23, false) }) (v := .int .i64 (dn : Nat)) rfl (by kernel_rfl) (by kernel_rfl) (by kernel_rfl) (fun _ _ _ h => hPan _ _ _ _ _ h) (Or.inl ⟨by rfl, ?_⟩) HSX ?_
  · intro wx d0
    obtain ⟨s1, s2, s3, s4, s5, s6, s7, s8⟩ := d0
    go_simp
  simp only [Act.put, List.setIfInBounds_toArray, List.set_cons_zero, List.set_cons_succ]
  refine wpAnyH_take (i := 48) (oi := { dst := some 74, op := Op.binOp BinOp.neq 3 (Operand.tmp 61) (Operand.tmp 73) 3, type := 4, pos := "law.go:123", after := #[{ on := 35, ground := Ground.data }, { on := 47, ground := Ground.data }, { on := 23, ground := Ground.guard }], guard := some (23, false) }) (v := .bool false) rfl (by kernel_rfl) (by kernel_rfl) (by kernel_rfl) (fun _ _ _ h => hPan _ _ _ _ _ h) (Or.inl ⟨by rfl, ?_⟩) HSX ?_
  · intro wx d0
    obtain ⟨s1, s2, s3, s4, s5, s6, s7, s8⟩ := d0
    go_simp
  simp only [Act.put, List.setIfInBounds_toArray, List.set_cons_zero, List.set_cons_succ]
  refine wpAnyH_take (i := 49) (oi := { dst := some 75, op := Op.pick (Operand.tmp 49) (Operand.const (Value.bool true)) (Operand.tmp 74), type := 4, pos := "law.go:123", after := #[{ on := 23, ground := Ground.data }, { on := 48, ground := Ground.data }], guard := none }) (v := .bool false) rfl (by kernel_rfl) (by kernel_rfl) (by kernel_rfl) (fun _ _ _ h => hPan _ _ _ _ _ h) (Or.inl ⟨by rfl, ?_⟩) HSX ?_
  · intro wx d0
    obtain ⟨s1, s2, s3, s4, s5, s6, s7, s8⟩ := d0
    go_simp
  simp only [Act.put, List.setIfInBounds_toArray, List.set_cons_zero, List.set_cons_succ]
  refine wpAnyH_done (by kernel_rfl) ?_ _
  exact hQ
end Go.Proofs.Ytnblhaeojlpmmaa
namespace Go.Proofs.Ytnblhaeojlpmmaa
open Go.ChangeShapes Go.WideShapes Go.ChangeAt Go.RowKit
set_option linter.unusedVariables false
/-- A message in a row. -/
theorem om_cell {w : World} {v : Value} {l : List Mg} (h : OM w v l) {k : Nat} (hk : k < l.length) : ∃ x c, v = .slice (some ⟨x, 0, none⟩) l.length c ∧ w.cell? ⟨x, k * 2, none⟩ = some l[k].v ∧ w.cell? ⟨x, k * 2 + 1, none⟩ = some (.int .u64 l[k].tk) := by
  rcases h.2 with ⟨_, e'⟩ | ⟨x, cap, cur, e', _⟩
  · omega
  · have h2 := h
    unfold OM at h2
    rw [e'] at h2
    obtain ⟨m1, m2⟩ := mcs_at l k l[k] (by simp)
    have c1 := h2.cells (g := x) rfl _ _ m1
    have c2 := h2.cells (g := x) rfl _ _ m2
    rw [Addr.add_lit, Nat.zero_add] at c1 c2
    exact ⟨x, cap, e', c1, c2⟩
section
variable {w : World} {σ : Nat → Nat × Nat} {K : Nat} {U V : Nat → Value} {X : Nat → List Value} {G H : List (List Int)} {O R : List (Nat × Nat × Int)} {L D E : List (List Mg)}
/-- What rowsKept reads of a lent row. -/
theorem BkC.lat (h : BkC w σ K U V X G O R L) {i : Nat} (hi : i < L.length) : ∃ g c p d v1 v2, V 6 = .slice (some ⟨g, 0, none⟩) L.length c ∧ V 7 = .slice (some ⟨p, 0, none⟩) L.length d ∧ w.cell? ⟨g, i, none⟩ = some v1 ∧ w.cell? ⟨p, i, none⟩ = some v2 ∧ OM w v1 L[i] ∧ OM w v2 L[i] := by
  have l6 : (X 6).length = L.length := by have := h.l.len; simpa using this
  have l7 : (X 7).length = L.length := by have := h.lw.len; simpa using this
  obtain ⟨g, c, e1, c1⟩ := own_at (h.m.own 6 (by omega) (by omega)).1 (i := i) (by omega)
  obtain ⟨p, d, e2, c2⟩ := own_at (h.m.own 7 (by omega) (by omega)).1 (i := i) (by omega)
  have o1 : OM w (X 6)[i] L[i] := (h.l.rw i (X 6)[i] (eM i L[i]) (by simp) (by simp [hi])).1
  have o2 : OM w (X 7)[i] L[i] := (h.lw.rw i (X 7)[i] (eM i L[i]) (by simp) (by simp [hi])).1
  rw [l6] at e1
  rw [l7] at e2
  exact ⟨g, c, p, d, _, _, e1, e2, c1, c2, o1, o2⟩
theorem BkC.shp6 (h : BkC w σ K U V X G O R L) : ∃ a c, V 6 = .slice a L.length c := by
  have l6 : (X 6).length = L.length := by have := h.l.len; simpa using this
  rcases (h.m.own 6 (by omega) (by omega)).1.2 with ⟨e, e'⟩ | ⟨g', cap, cur, e, _⟩
  · exact ⟨none, 0, by rw [e, ← l6, e']⟩
  · exact ⟨_, _, by rw [← l6]; exact e⟩
end
set_option maxHeartbeats 4000000 in
set_option maxRecDepth 10000 in
/-- Lent rows are as they were. -/
theorem rowsKept_any (w : World) (σ : Nat → Nat × Nat) (K : Nat) (U V : Nat → Value) (X : Nat → List Value) (G H : List (List Int)) (O R : List (Nat × Nat × Int)) (L D E : List (List Mg)) (h : BkC w σ K U V X G O R L) (hL : L.length < 1000000000) (hLl : ∀ l ∈ L, l.length ≤ 140737488355328) :
    Calls Try.prog 38 #[.pointer (some ⟨K, 8, none⟩)] w fun e w' => e = .returned (.bool true) ∧ Kp w w' := by
  obtain ⟨a6, c6, e6⟩ := h.shp6
  have HB : Hid (BkC w σ K U V X G O R L) := h
  have HLL : Hid (∀ l ∈ L, l.length ≤ 140737488355328) := hLl
  have d6 : Hid (w.cell? ⟨K, 14, none⟩ = some (.slice a6 L.length c6)) := by have := (h.m.cell (i := 6) (by omega)).1; rw [e6] at this; exact this
  have d7 : Hid (w.cell? ⟨K, 15, none⟩ = some (V 7)) := (h.m.cell (i := 7) (by omega)).1
  clear h hLl
  go_enter Try.func38, Try.ntmps38
  go_wp2_with fail
  go_loopw [3] (fun s3 wr => ∃ i : Nat, s3 = .int .i64 (i : Nat) ∧ i ≤ L.length ∧ Hid (Kp w wr)) (fun s3 _ => L.length - nI s3)
  case atStart => exact ⟨0, rfl, by omega, Kp.refl _⟩
  case round =>
    obtain ⟨i, rfl, hi, HK⟩ := hrel
    have x6 := HK.out.cell d6.out
    by_cases hlt : i < L.length
    · have hz : (i : Int) < (L.length : Nat) := by omega
      obtain ⟨g, c, p, d, v1, v2, q1, q2, q3, q4, o1, o2⟩ := HB.out.lat hlt
      obtain ⟨rfl, rfl⟩ : a6 = some ⟨g, 0, none⟩ ∧ c6 = c := by rw [e6] at q1; simpa using q1
      have hll := HLL.out _ (List.getElem_mem hlt)
      have hsv := HB.out.lv _ (List.getElem_mem hlt)
      obtain ⟨l, hl⟩ : ∃ l, l = L[i] := ⟨_, rfl⟩
      rw [← hl] at o1 o2 hll hsv
      obtain ⟨ra, rc, e1⟩ := o1.shape
      subst e1
      have x7 := d7.out
      rw [q2] at x7
      have H7 : Hid (w.cell? ⟨K, 15, none⟩ = some (.slice (some ⟨p, 0, none⟩) L.length d) ∧ w.cell? ⟨g, i, none⟩ = some (.slice ra l.length rc) ∧ w.cell? ⟨p, i, none⟩ = some v2 ∧ OM w (.slice ra l.length rc) l ∧ OM w v2 l ∧ ∀ m ∈ l, ∃ a n c, m.v = .slice a n c) := ⟨x7, q3, q4, o1, o2, hsv⟩
      clear x7 q1 q2 o1 o2 hsv q4 hl
      go_wp2_with fail
      rename World => w1
      go_loopw [4] (fun s4 wr => ∃ k : Nat, s4 = .int .i64 (k : Nat) ∧ k ≤ l.length ∧ Hid (Kp w wr)) (fun s4 _ => l.length - nI s4)
      case atStart => exact ⟨0, rfl, by omega, HK⟩
      case round =>
        obtain ⟨k, rfl, hk, HK2⟩ := hrel
        rename World => w2
        have y6 := HK2.out.cell d6.out
        have y3 := HK2.out.cell q3
        by_cases hlt2 : k < l.length
        · have hz2 : (k : Int) < (l.length : Nat) := by omega
          have kd : Kp w w2.drew := HK2.out.trans (Kp.drew w2)
          obtain ⟨h1, h2, h3, h4, h5, h6⟩ := H7.out
          obtain ⟨x, xc, f1, f2, f3⟩ := om_cell h4 hlt2
          obtain ⟨y, yc, f4, f5, f6⟩ := om_cell h5 hlt2
          obtain ⟨rfl, rfl⟩ : ra = some ⟨x, 0, none⟩ ∧ rc = xc := by simpa using f1
          rw [f4] at h3
          obtain ⟨da, dn, dc, f7⟩ := h6 _ (List.getElem_mem hlt2)
          rw [f7] at f2 f5
          have hS := And.intro (kd.cell d6.out) (And.intro (kd.cell h2) (And.intro (kd.cell f2) (And.intro (kd.cell f3) (And.intro (kd.cell h1) (And.intro (kd.cell h3) (And.intro (kd.cell f5) (kd.cell f6)))))))
          have HK1 : Hid (Kp w w2.drew) := kd
          clear h1 h2 h3 h4 h5 h6 f1 f2 f3 f4 f5 f6 f7 kd
          generalize l[k].tk = tk at hS
          go_upto_region 7 with fail
          refine reg38_7 w2 K g p i L.length c6 d x y l.length rc yc k dn dc da tk hlt hlt2 hS _ (fun _ _ _ q _ h => by cases q <;> exact h) ?_
          clear hS
          go_wp2_with fail
          exact ⟨⟨k + 1, by go_num, by omega, HK1.out⟩, by simp [nI]; omega⟩
        · have hz2 : ¬ (k : Int) < (l.length : Nat) := by omega
          go_wp2_with fail
          exact ⟨⟨i + 1, by go_num, by omega, HK2⟩, by simp [nI]; omega⟩
    · have hz : ¬ (i : Int) < (L.length : Nat) := by omega
      go_wp2_with fail
      go_ret
      exact ⟨rfl, HK.out⟩
end Go.Proofs.Ytnblhaeojlpmmaa
