import Derived.Test.YtnblhaeojlpmmaaRk
namespace Go.Proofs.Ytnblhaeojlpmmaa
open Go.ChangeShapes Go.WideShapes Go.ChangeAt Go.RowKit
set_option linter.unusedVariables false
def ops54_6 : Array Oper := #[{ dst := some 17, op := Op.move (Operand.tmp 0), type := 62, pos := "law.go:236", after := #[], guard := none },
  { dst := some 18, op := Op.move (Operand.tmp 5), type := 3, pos := "law.go:236", after := #[], guard := none },
  { dst := some 19, op := Op.indexAddr 62 (Operand.tmp 17) (Operand.tmp 18), type := 0, pos := "law.go:236", after := #[{ on := 0, ground := Ground.data }, { on := 1, ground := Ground.data }], guard := none },
  { dst := some 20, op := Op.fieldAddr 75 (Operand.tmp 19) 1, type := 0, pos := "law.go:236", after := #[{ on := 2, ground := Ground.data }], guard := none },
  { dst := some 21, op := Op.load 38 (Operand.tmp 20), type := 38, pos := "law.go:236", after := #[{ on := 3, ground := Ground.data }], guard := none },
  { dst := some 22, op := Op.move (Operand.tmp 1), type := 62, pos := "law.go:236", after := #[], guard := none },
  { dst := some 23, op := Op.move (Operand.tmp 5), type := 3, pos := "law.go:236", after := #[], guard := none },
  { dst := some 24, op := Op.indexAddr 62 (Operand.tmp 22) (Operand.tmp 23), type := 0, pos := "law.go:236", after := #[{ on := 5, ground := Ground.data }, { on := 6, ground := Ground.data }], guard := none },
  { dst := some 25, op := Op.fieldAddr 75 (Operand.tmp 24) 1, type := 0, pos := "law.go:236", after := #[{ on := 7, ground := Ground.data }], guard := none },
  { dst := some 26, op := Op.load 38 (Operand.tmp 25), type := 38, pos := "law.go:236", after := #[{ on := 8, ground := Ground.data }], guard := none },
  { dst := some 27, op := Op.binOp BinOp.neq 38 (Operand.tmp 21) (Operand.tmp 26) 38, type := 4, pos := "law.go:236", after := #[{ on := 4, ground := Ground.data }, { on := 9, ground := Ground.data }], guard := none },
  { dst := some 28, op := Op.move (Operand.tmp 27), type := 4, pos := "law.go:236", after := #[{ on := 10, ground := Ground.data }], guard := none },
  { dst := some 29, op := Op.move (Operand.tmp 0), type := 62, pos := "law.go:236", after := #[{ on := 11, ground := Ground.guard }], guard := some (11, false) },
  { dst := some 30, op := Op.move (Operand.tmp 5), type := 3, pos := "law.go:236", after := #[{ on := 11, ground := Ground.guard }], guard := some (11, false) },
  { dst := some 31, op := Op.indexAddr 62 (Operand.tmp 29) (Operand.tmp 30), type := 0, pos := "law.go:236", after := #[{ on := 12, ground := Ground.data }, { on := 13, ground := Ground.data }, { on := 11, ground := Ground.guard }], guard := some (11, false) },
  { dst := some 32, op := Op.fieldAddr 75 (Operand.tmp 31) 0, type := 0, pos := "law.go:236", after := #[{ on := 14, ground := Ground.data }, { on := 11, ground := Ground.guard }], guard := some (11, false) },
  { dst := some 33, op := Op.load 37 (Operand.tmp 32), type := 37, pos := "law.go:236", after := #[{ on := 15, ground := Ground.data }, { on := 11, ground := Ground.guard }], guard := some (11, false) },
  { dst := some 34, op := Op.convert 37 9 (Operand.tmp 33), type := 9, pos := "law.go:236", after := #[{ on := 16, ground := Ground.data }, { on := 11, ground := Ground.guard }], guard := some (11, false) },
  { dst := some 35, op := Op.move (Operand.tmp 1), type := 62, pos := "law.go:236", after := #[{ on := 11, ground := Ground.guard }], guard := some (11, false) },
  { dst := some 36, op := Op.move (Operand.tmp 5), type := 3, pos := "law.go:236", after := #[{ on := 11, ground := Ground.guard }], guard := some (11, false) },
  { dst := some 37, op := Op.indexAddr 62 (Operand.tmp 35) (Operand.tmp 36), type := 0, pos := "law.go:236", after := #[{ on := 18, ground := Ground.data }, { on := 19, ground := Ground.data }, { on := 11, ground := Ground.guard }], guard := some (11, false) },
  { dst := some 38, op := Op.fieldAddr 75 (Operand.tmp 37) 0, type := 0, pos := "law.go:236", after := #[{ on := 20, ground := Ground.data }, { on := 11, ground := Ground.guard }], guard := some (11, false) },
  { dst := some 39, op := Op.load 37 (Operand.tmp 38), type := 37, pos := "law.go:236", after := #[{ on := 21, ground := Ground.data }, { on := 11, ground := Ground.guard }], guard := some (11, false) },
  { dst := some 40, op := Op.convert 37 9 (Operand.tmp 39), type := 9, pos := "law.go:236", after := #[{ on := 22, ground := Ground.data }, { on := 11, ground := Ground.guard }], guard := some (11, false) },
  { dst := some 41, op := Op.binOp BinOp.neq 9 (Operand.tmp 34) (Operand.tmp 40) 9, type := 4, pos := "law.go:236", after := #[{ on := 17, ground := Ground.data }, { on := 23, ground := Ground.data }, { on := 11, ground := Ground.guard }], guard := some (11, false) },
  { dst := some 42, op := Op.pick (Operand.tmp 28) (Operand.const (Value.bool true)) (Operand.tmp 41), type := 4, pos := "law.go:236", after := #[{ on := 11, ground := Ground.data }, { on := 24, ground := Ground.data }], guard := none }]
set_option maxHeartbeats 4000000 in
set_option maxRecDepth 100000 in
theorem reg54_6 (W : World) (g o k p i n c d xn xc yn yc : Nat) (xa ya : Option Addr) (tk : Int) (st : ByteArray) (hi : i < n) (hS : (fun w' => w'.cell? ⟨g, o + i * 2, none⟩ = some (.slice xa xn xc) ∧ w'.cell? ⟨g, o + i * 2 + 1, none⟩ = some (.int .u64 tk) ∧ w'.cell? ⟨k, p + i * 2, none⟩ = some (.slice ya yn yc) ∧ w'.cell? ⟨k, p + i * 2 + 1, none⟩ = some (.int .u64 tk) ∧ (convert 37 9 (.slice xa xn xc)).run Try.prog w' = .ok (.string st) w' ∧ (convert 37 9 (.slice ya yn yc)).run Try.prog w' = .ok (.string st) w') W.drew)
    (Q : Exit → Act → World → Prop) (hPan : ∀ c (a : Act) w (d : Option Tmp) v, Q (.panic c) (a.put d v) w → Q (.panic c) a w) {u2 u3 u4 u6 u7 u8 u9 u10 u11 u12 u13 u14 u15 u16 u17 u18 u19 u20 u21 u22 u23 u24 u25 u26 u27 u28 u29 u30 u31 u32 u33 u34 u35 u36 u37 u38 u39 u40 u41 u42 : Value}
    (hQ : Q .normal ⟨#[.slice (some ⟨g, o, none⟩) n c, .slice (some ⟨k, p, none⟩) n d, u2,u3,u4, .int .i64 (i : Nat), u6,u7,u8,u9,u10,u11,u12,u13,u14,u15,u16, .slice (some ⟨g, o, none⟩) n c, .int .i64 (i : Nat), .pointer (some ⟨g, o + i * 2, none⟩), .pointer (some ⟨g, o + i * 2 + 1, none⟩), .int .u64 tk, .slice (some ⟨k, p, none⟩) n d, .int .i64 (i : Nat), .pointer (some ⟨k, p + i * 2, none⟩), .pointer (some ⟨k, p + i * 2 + 1, none⟩), .int .u64 tk, .bool false, .bool false, .slice (some ⟨g, o, none⟩) n c, .int .i64 (i : Nat), .pointer (some ⟨g, o + i * 2, none⟩), .pointer (some ⟨g, o + i * 2, none⟩), .slice xa xn xc, .string st, .slice (some ⟨k, p, none⟩) n d, .int .i64 (i : Nat), .pointer (some ⟨k, p + i * 2, none⟩), .pointer (some ⟨k, p + i * 2, none⟩), .slice ya yn yc, .string st, .bool false, .bool false], []⟩ W.drew) :
    Code.wp Try.prog (Code.region 6 ops54_6 true) Q ⟨#[.slice (some ⟨g, o, none⟩) n c, .slice (some ⟨k, p, none⟩) n d, u2,u3,u4, .int .i64 (i : Nat), u6,u7,u8,u9,u10,u11,u12,u13,u14,u15,u16,u17,u18,u19,u20,u21,u22,u23,u24,u25,u26,u27,u28,u29,u30,u31,u32,u33,u34,u35,u36,u37,u38,u39,u40,u41,u42], []⟩ W := by
  have hiz : (i : Int) < (n : Int) := by omega
  refine wp_region_held_drew (S := fun w' => w'.cell? ⟨g, o + i * 2, none⟩ = some (.slice xa xn xc) ∧ w'.cell? ⟨g, o + i * 2 + 1, none⟩ = some (.int .u64 tk) ∧ w'.cell? ⟨k, p + i * 2, none⟩ = some (.slice ya yn yc) ∧ w'.cell? ⟨k, p + i * 2 + 1, none⟩ = some (.int .u64 tk) ∧ (convert 37 9 (.slice xa xn xc)).run Try.prog w' = .ok (.string st) w' ∧ (convert 37 9 (.slice ya yn yc)).run Try.prog w' = .ok (.string st) w') hmx hS (fun HSX => ?_)
  clear hS
  obtain ⟨W0, hW0⟩ : ∃ W0,W0 = W.drew := ⟨_, rfl⟩
  rw [← hW0] at HSX hQ ⊢
  clear hW0
  refine wpAnyH_take (i := 0) (oi := { dst := some 17, op := Op.move (Operand.tmp 0), type := 62, pos := "law.go:236", after := #[], guard := none }) (v := .slice (some ⟨g, o, none⟩) n c) rfl (by kernel_rfl) (by kernel_rfl) (by kernel_rfl) (fun _ _ _ h => hPan _ _ _ _ _ h) (Or.inl ⟨by rfl, ?_⟩) HSX ?_
  · intro wx d0
    obtain ⟨s1, s2, s3, s4, s5, s6⟩ := d0
    go_simp
  simp only [Act.put, List.setIfInBounds_toArray, List.set_cons_zero, List.set_cons_succ]
  refine wpAnyH_take (i := 1) (oi := { dst := some 18, op := Op.move (Operand.tmp 5), type := 3, pos := "law.go:236", after := #[], guard := none }) (v := .int .i64 (i : Nat)) rfl (by kernel_rfl) (by kernel_rfl) (by kernel_rfl) (fun _ _ _ h => hPan _ _ _ _ _ h) (Or.inl ⟨by rfl, ?_⟩) HSX ?_
  · intro wx d0
    obtain ⟨s1, s2, s3, s4, s5, s6⟩ := d0
    go_simp
  simp only [Act.put, List.setIfInBounds_toArray, List.set_cons_zero, List.set_cons_succ]
  refine wpAnyH_take (i := 2) (oi := { dst := some 19, op := Op.indexAddr 62 (Operand.tmp 17) (Operand.tmp 18), type := 0, pos := "law.go:236", after := #[{ on := 0, ground := Ground.data }, { on := 1, ground := Ground.data }], guard := none }) (v := .pointer (some ⟨g, o + i * 2, none⟩)) rfl (by kernel_rfl) (by kernel_rfl) (by kernel_rfl) (fun _ _ _ h => hPan _ _ _ _ _ h) (Or.inl ⟨by rfl, ?_⟩) HSX ?_
  · intro wx d0
    obtain ⟨s1, s2, s3, s4, s5, s6⟩ := d0
    go_simp
  simp only [Act.put, List.setIfInBounds_toArray, List.set_cons_zero, List.set_cons_succ]
  refine wpAnyH_take (i := 3) (oi := { dst := some 20, op := Op.fieldAddr 75 (Operand.tmp 19) 1, type := 0, pos := "law.go:236", after := #[{ on := 2, ground := Ground.data }], guard := none }) (v := .pointer (some ⟨g, o + i * 2 + 1, none⟩)) rfl (by kernel_rfl) (by kernel_rfl) (by kernel_rfl) (fun _ _ _ h => hPan _ _ _ _ _ h) (Or.inl ⟨by rfl, ?_⟩) HSX ?_
  · intro wx d0
    obtain ⟨s1, s2, s3, s4, s5, s6⟩ := d0
    go_simp
  simp only [Act.put, List.setIfInBounds_toArray, List.set_cons_zero, List.set_cons_succ]
  refine wpAnyH_take (i := 4) (oi := { dst := some 21, op := Op.load 38 (Operand.tmp 20), type := 38, pos := "law.go:236", after := #[{ on := 3, ground := Ground.data }], guard := none }) (v := .int .u64 tk) rfl (by kernel_rfl) (by kernel_rfl) (by kernel_rfl) (fun _ _ _ h => hPan _ _ _ _ _ h) (Or.inl ⟨by rfl, ?_⟩) HSX ?_
  · intro wx d0
    obtain ⟨s1, s2, s3, s4, s5, s6⟩ := d0
    go_simp
  simp only [Act.put, List.setIfInBounds_toArray, List.set_cons_zero, List.set_cons_succ]
  refine wpAnyH_take (i := 5) (oi := { dst := some 22, op := Op.move (Operand.tmp 1), type := 62, pos := "law.go:236", after := #[], guard := none }) (v := .slice (some ⟨k, p, none⟩) n d) rfl (by kernel_rfl) (by kernel_rfl) (by kernel_rfl) (fun _ _ _ h => hPan _ _ _ _ _ h) (Or.inl ⟨by rfl, ?_⟩) HSX ?_
  · intro wx d0
    obtain ⟨s1, s2, s3, s4, s5, s6⟩ := d0
    go_simp
  simp only [Act.put, List.setIfInBounds_toArray, List.set_cons_zero, List.set_cons_succ]
  refine wpAnyH_take (i := 6) (oi := { dst := some 23, op := Op.move (Operand.tmp 5), type := 3, pos := "law.go:236", after := #[], guard := none }) (v := .int .i64 (i : Nat)) rfl (by kernel_rfl) (by kernel_rfl) (by kernel_rfl) (fun _ _ _ h => hPan _ _ _ _ _ h) (Or.inl ⟨by rfl, ?_⟩) HSX ?_
  · intro wx d0
    obtain ⟨s1, s2, s3, s4, s5, s6⟩ := d0
    go_simp
  simp only [Act.put, List.setIfInBounds_toArray, List.set_cons_zero, List.set_cons_succ]
  refine wpAnyH_take (i := 7) (oi := { dst := some 24, op := Op.indexAddr 62 (Operand.tmp 22) (Operand.tmp 23), type := 0, pos := "law.go:236", after := #[{ on := 5, ground := Ground.data }, { on := 6, ground := Ground.data }], guard := none }) (v := .pointer (some ⟨k, p + i * 2, none⟩)) rfl (by kernel_rfl) (by kernel_rfl) (by kernel_rfl) (fun _ _ _ h => hPan _ _ _ _ _ h) (Or.inl ⟨by rfl, ?_⟩) HSX ?_
  · intro wx d0
    obtain ⟨s1, s2, s3, s4, s5, s6⟩ := d0
    go_simp
  simp only [Act.put, List.setIfInBounds_toArray, List.set_cons_zero, List.set_cons_succ]
  refine wpAnyH_take (i := 8) (oi := { dst := some 25, op := Op.fieldAddr 75 (Operand.tmp 24) 1, type := 0, pos := "law.go:236", after := #[{ on := 7, ground := Ground.data }], guard := none }) (v := .pointer (some ⟨k, p + i * 2 + 1, none⟩)) rfl (by kernel_rfl) (by kernel_rfl) (by kernel_rfl) (fun _ _ _ h => hPan _ _ _ _ _ h) (Or.inl ⟨by rfl, ?_⟩) HSX ?_
  · intro wx d0
    obtain ⟨s1, s2, s3, s4, s5, s6⟩ := d0
    go_simp
  simp only [Act.put, List.setIfInBounds_toArray, List.set_cons_zero, List.set_cons_succ]
  refine wpAnyH_take (i := 9) (oi := { dst := some 26, op := Op.load 38 (Operand.tmp 25), type := 38, pos := "law.go:236", after := #[{ on := 8, ground := Ground.data }], guard := none }) (v := .int .u64 tk) rfl (by kernel_rfl) (by kernel_rfl) (by kernel_rfl) (fun _ _ _ h => hPan _ _ _ _ _ h) (Or.inl ⟨by rfl, ?_⟩) HSX ?_
  · intro wx d0
    obtain ⟨s1, s2, s3, s4, s5, s6⟩ := d0
    go_simp
  simp only [Act.put, List.setIfInBounds_toArray, List.set_cons_zero, List.set_cons_succ]
  refine wpAnyH_take (i := 10) (oi := { dst := some 27, op := Op.binOp BinOp.neq 38 (Operand.tmp 21) (Operand.tmp 26) 38, type := 4, pos := "law.go:236", after := #[{ on := 4, ground := Ground.data }, { on := 9, ground := Ground.data }], guard := none }) (v := .bool false) rfl (by kernel_rfl) (by kernel_rfl) (by kernel_rfl) (fun _ _ _ h => hPan _ _ _ _ _ h) (Or.inl ⟨by rfl, ?_⟩) HSX ?_
  · intro wx d0
    obtain ⟨s1, s2, s3, s4, s5, s6⟩ := d0
    go_simp
  simp only [Act.put, List.setIfInBounds_toArray, List.set_cons_zero, List.set_cons_succ]
  refine wpAnyH_take (i := 11) (oi := { dst := some 28, op := Op.move (Operand.tmp 27), type := 4, pos := "law.go:236", after := #[{ on := 10, ground := Ground.data }], guard := none }) (v := .bool false) rfl (by kernel_rfl) (by kernel_rfl) (by kernel_rfl) (fun _ _ _ h => hPan _ _ _ _ _ h) (Or.inl ⟨by rfl, ?_⟩) HSX ?_
  · intro wx d0
    obtain ⟨s1, s2, s3, s4, s5, s6⟩ := d0
    go_simp
  simp only [Act.put, List.setIfInBounds_toArray, List.set_cons_zero, List.set_cons_succ]
  refine wpAnyH_take (i := 12) (oi := { dst := some 29, op := Op.move (Operand.tmp 0), type := 62, pos := "law.go:236", after := #[{ on := 11, ground := Ground.guard }], guard := some (11, false) }) (v := .slice (some ⟨g, o, none⟩) n c) rfl (by kernel_rfl) (by kernel_rfl) (by kernel_rfl) (fun _ _ _ h => hPan _ _ _ _ _ h) (Or.inl ⟨by rfl, ?_⟩) HSX ?_
  · intro wx d0
    obtain ⟨s1, s2, s3, s4, s5, s6⟩ := d0
    go_simp
  simp only [Act.put, List.setIfInBounds_toArray, List.set_cons_zero, List.set_cons_succ]
  refine wpAnyH_take (i := 13) (oi := { dst := some 30, op := Op.move (Operand.tmp 5), type := 3, pos := "law.go:236", after := #[{ on := 11, ground := Ground.guard }], guard := some (11, false) }) (v := .int .i64 (i : Nat)) rfl (by kernel_rfl) (by kernel_rfl) (by kernel_rfl) (fun _ _ _ h => hPan _ _ _ _ _ h) (Or.inl ⟨by rfl, ?_⟩) HSX ?_
  · intro wx d0
    obtain ⟨s1, s2, s3, s4, s5, s6⟩ := d0
    go_simp
  simp only [Act.put, List.setIfInBounds_toArray, List.set_cons_zero, List.set_cons_succ]
  refine wpAnyH_take (i := 14) (oi := { dst := some 31, op := Op.indexAddr 62 (Operand.tmp 29) (Operand.tmp 30), type := 0, pos := "law.go:236", after := #[{ on := 12, ground := Ground.data }, { on := 13, ground := Ground.data }, { on := 11, ground := Ground.guard }], guard := some (11, false) }) (v := .pointer (some ⟨g, o + i * 2, none⟩)) rfl (by kernel_rfl) (by kernel_rfl) (by kernel_rfl) (fun _ _ _ h => hPan _ _ _ _ _ h) (Or.inl ⟨by rfl, ?_⟩) HSX ?_
  · intro wx d0
    obtain ⟨s1, s2, s3, s4, s5, s6⟩ := d0
    go_simp
  simp only [Act.put, List.setIfInBounds_toArray, List.set_cons_zero, List.set_cons_succ]
  refine wpAnyH_take (i := 15) (oi := { dst := some 32, op := Op.fieldAddr 75 (Operand.tmp 31) 0, type := 0, pos := "law.go:236", after := #[{ on := 14, ground := Ground.data }, { on := 11, ground := Ground.guard }], guard := some (11, false) }) (v := .pointer (some ⟨g, o + i * 2, none⟩)) rfl (by kernel_rfl) (by kernel_rfl) (by kernel_rfl) (fun _ _ _ h => hPan _ _ _ _ _ h) (Or.inl ⟨by rfl, ?_⟩) HSX ?_
  · intro wx d0
    obtain ⟨s1, s2, s3, s4, s5, s6⟩ := d0
    go_simp
  simp only [Act.put, List.setIfInBounds_toArray, List.set_cons_zero, List.set_cons_succ]
  refine wpAnyH_take (i := 16) (oi := { dst := some 33, op := Op.load 37 (Operand.tmp 32), type := 37, pos := "law.go:236", after := #[{ on := 15, ground := Ground.data }, { on := 11, ground := Ground.guard }], guard := some (11, false) }) (v := .slice xa xn xc) rfl (by kernel_rfl) (by kernel_rfl) (by kernel_rfl) (fun _ _ _ h => hPan _ _ _ _ _ h) (Or.inl ⟨by rfl, ?_⟩) HSX ?_
  · intro wx d0
    obtain ⟨s1, s2, s3, s4, s5, s6⟩ := d0
    go_simp
  simp only [Act.put, List.setIfInBounds_toArray, List.set_cons_zero, List.set_cons_succ]
  refine wpAnyH_take (i := 17) (oi := { dst := some 34, op := Op.convert 37 9 (Operand.tmp 33), type := 9, pos := "law.go:236", after := #[{ on := 16, ground := Ground.data }, { on := 11, ground := Ground.guard }], guard := some (11, false) }) (v := .string st) rfl (by kernel_rfl) (by kernel_rfl) (by kernel_rfl) (fun _ _ _ h => hPan _ _ _ _ _ h) (Or.inl ⟨by rfl, ?_⟩) HSX ?_
  · intro wx d0
    obtain ⟨s1, s2, s3, s4, s5, s6⟩ := d0
    go_simp
  simp only [Act.put, List.setIfInBounds_toArray, List.set_cons_zero, List.set_cons_succ]
  refine wpAnyH_take (i := 18) (oi := { dst := some 35, op := Op.move (Operand.tmp 1), type := 62, pos := "law.go:236", after := #[{ on := 11, ground := Ground.guard }], guard := some (11, false) }) (v := .slice (some ⟨k, p, none⟩) n d) rfl (by kernel_rfl) (by kernel_rfl) (by kernel_rfl) (fun _ _ _ h => hPan _ _ _ _ _ h) (Or.inl ⟨by rfl, ?_⟩) HSX ?_
  · intro wx d0
    obtain ⟨s1, s2, s3, s4, s5, s6⟩ := d0
    go_simp
  simp only [Act.put, List.setIfInBounds_toArray, List.set_cons_zero, List.set_cons_succ]
  refine wpAnyH_take (i := 19) (oi := { dst := some 36, op := Op.move (Operand.tmp 5), type := 3, pos := "law.go:236", after := #[{ on := 11, ground := Ground.guard }], guard := some (11, false) }) (v := .int .i64 (i : Nat)) rfl (by kernel_rfl) (by kernel_rfl) (by kernel_rfl) (fun _ _ _ h => hPan _ _ _ _ _ h) (Or.inl ⟨by rfl, ?_⟩) HSX ?_
  · intro wx d0
    obtain ⟨s1, s2, s3, s4, s5, s6⟩ := d0
    go_simp
  simp only [Act.put, List.setIfInBounds_toArray, List.set_cons_zero, List.set_cons_succ]
  refine wpAnyH_take (i := 20) (oi := { dst := some 37, op := Op.indexAddr 62 (Operand.tmp 35) (Operand.tmp 36), type := 0, pos := "law.go:236", after := #[{ on := 18, ground := Ground.data }, { on := 19, ground := Ground.data }, { on := 11, ground := Ground.guard }], guard := some (11, false) }) (v := .pointer (some ⟨k, p + i * 2, none⟩)) rfl (by kernel_rfl) (by kernel_rfl) (by kernel_rfl) (fun _ _ _ h => hPan _ _ _ _ _ h) (Or.inl ⟨by rfl, ?_⟩) HSX ?_
  · intro wx d0
    obtain ⟨s1, s2, s3, s4, s5, s6⟩ := d0
    go_simp
  simp only [Act.put, List.setIfInBounds_toArray, List.set_cons_zero, List.set_cons_succ]
  refine wpAnyH_take (i := 21) (oi := { dst := some 38, op := Op.fieldAddr 75 (Operand.tmp 37) 0, type := 0, pos := "law.go:236", after := #[{ on := 20, ground := Ground.data }, { on := 11, ground := Ground.guard }], guard := some (11, false) }) (v := .pointer (some ⟨k, p + i * 2, none⟩)) rfl (by kernel_rfl) (by kernel_rfl) (by kernel_rfl) (fun _ _ _ h => hPan _ _ _ _ _ h) (Or.inl ⟨by rfl, ?_⟩) HSX ?_
  · intro wx d0
    obtain ⟨s1, s2, s3, s4, s5, s6⟩ := d0
    go_simp
  simp only [Act.put, List.setIfInBounds_toArray, List.set_cons_zero, List.set_cons_succ]
  refine wpAnyH_take (i := 22) (oi := { dst := some 39, op := Op.load 37 (Operand.tmp 38), type := 37, pos := "law.go:236", after := #[{ on := 21, ground := Ground.data }, { on := 11, ground := Ground.guard }], guard := some (11, false) }) (v := .slice ya yn yc) rfl (by kernel_rfl) (by kernel_rfl) (by kernel_rfl) (fun _ _ _ h => hPan _ _ _ _ _ h) (Or.inl ⟨by rfl, ?_⟩) HSX ?_
  · intro wx d0
    obtain ⟨s1, s2, s3, s4, s5, s6⟩ := d0
    go_simp
  simp only [Act.put, List.setIfInBounds_toArray, List.set_cons_zero, List.set_cons_succ]
  refine wpAnyH_take (i := 23) (oi := { dst := some 40, op := Op.convert 37 9 (Operand.tmp 39), type := 9, pos := "law.go:236", after := #[{ on := 22, ground := Ground.data }, { on := 11, ground := Ground.guard }], guard := some (11, false) }) (v := .string st) rfl (by kernel_rfl) (by kernel_rfl) (by kernel_rfl) (fun _ _ _ h => hPan _ _ _ _ _ h) (Or.inl ⟨by rfl, ?_⟩) HSX ?_
  · intro wx d0
    obtain ⟨s1, s2, s3, s4, s5, s6⟩ := d0
    go_simp
  simp only [Act.put, List.setIfInBounds_toArray, List.set_cons_zero, List.set_cons_succ]
  refine wpAnyH_take (i := 24) (oi := { dst := some 41, op := Op.binOp BinOp.neq 9 (Operand.tmp 34) (Operand.tmp 40) 9, type := 4, pos := "law.go:236", after := #[{ on := 17, ground := Ground.data }, { on := 23, ground := Ground.data }, { on := 11, ground := Ground.guard }], guard := some (11, false) }) (v := .bool false) rfl (by kernel_rfl) (by kernel_rfl) (by kernel_rfl) (fun _ _ _ h => hPan _ _ _ _ _ h) (Or.inl ⟨by rfl, ?_⟩) HSX ?_
  · intro wx d0
    obtain ⟨s1, s2, s3, s4, s5, s6⟩ := d0
    go_simp
  simp only [Act.put, List.setIfInBounds_toArray, List.set_cons_zero, List.set_cons_succ]
  refine wpAnyH_take (i := 25) (oi := { dst := some 42, op := Op.pick (Operand.tmp 28) (Operand.const (Value.bool true)) (Operand.tmp 41), type := 4, pos := "law.go:236", after := #[{ on := 11, ground := Ground.data }, { on := 24, ground := Ground.data }], guard := none }) (v := .bool false) rfl (by kernel_rfl) (by kernel_rfl) (by kernel_rfl) (fun _ _ _ h => hPan _ _ _ _ _ h) (Or.inl ⟨by rfl, ?_⟩) HSX ?_
  · intro wx d0
    obtain ⟨s1, s2, s3, s4, s5, s6⟩ := d0
    go_simp
  simp only [Act.put, List.setIfInBounds_toArray, List.set_cons_zero, List.set_cons_succ]
  refine wpAnyH_done (by kernel_rfl) ?_ _
  exact hQ
set_option maxHeartbeats 4000000 in
set_option maxRecDepth 10000 in
/-- The same messages. -/
theorem sameM (w : World) (v1 v2 : Value) (l1 l2 : List Mg) (h1 : RdL w v1 l1) (h2 : RdL w v2 l2) (hs : Sm l1 l2) :
    Calls Try.prog 54 #[v1, v2] w fun e w' => e = .returned (.bool true) ∧ Kp w w' := by
  obtain ⟨a1, p1, rfl, hc1⟩ := h1.ex
  obtain ⟨a2, p2, rfl, hc2⟩ := h2.ex
  have hn := hs.len
  have hl := h1.ln
  have HH : Hid (RdL w (.slice a1 l1.length p1) l1 ∧ RdL w (.slice a2 l2.length p2) l2 ∧ Sm l1 l2) := ⟨h1, h2, hs⟩
  have HC : Hid ((l1 = [] ∨ ∃ b o, a1 = some ⟨b, o, none⟩ ∧ ∀ i (h : i < l1.length), w.cell? ⟨b, o + i * 2, none⟩ = some l1[i].v ∧ w.cell? ⟨b, o + i * 2 + 1, none⟩ = some (.int .u64 l1[i].tk)) ∧ (l2 = [] ∨ ∃ b o, a2 = some ⟨b, o, none⟩ ∧ ∀ i (h : i < l2.length), w.cell? ⟨b, o + i * 2, none⟩ = some l2[i].v ∧ w.cell? ⟨b, o + i * 2 + 1, none⟩ = some (.int .u64 l2[i].tk))) := ⟨hc1, hc2⟩
  clear h1 h2 hs hc1 hc2
  rw [hn]
  obtain ⟨n, hN⟩ : ∃ n, l1.length = n := ⟨_, rfl⟩
  have HN : Hid (l1.length = n ∧ l2.length = n) := ⟨hN, by rw [hn, hN]⟩
  rw [hN] at hl ⊢
  clear hn hN
  go_enter Try.func54, Try.ntmps54
  go_wp2_with fail
  go_loopw [5] (fun s5 wr => ∃ i : Nat, s5 = .int .i64 i ∧ i ≤ n ∧ Hid (Kp w wr)) (fun s5 _ => n - nI s5)
  case atStart => exact ⟨0, rfl, by omega, Kp.refl _⟩
  case round =>
    obtain ⟨i, rfl, hi, HK⟩ := hrel
    by_cases hlt : i < n
    · have hz : (i : Int) < (n : Int) := by omega
      obtain ⟨c1, c2⟩ := HC.out
      obtain ⟨n1, n2⟩ := HN.out
      have i1 : i < l1.length := by omega
      have i2 : i < l2.length := by omega
      rcases c1 with rfl | ⟨g, o, rfl, c1⟩
      · simp at i1
      rcases c2 with rfl | ⟨k, p, rfl, c2⟩
      · simp at i2
      obtain ⟨x0, x1⟩ := c1 i i1
      obtain ⟨y0, y1⟩ := c2 i i2
      have kd := HK.out.trans (Kp.drew wr)
      have B1 := (HH.out.1.b l1[i] (List.getElem_mem i1)).kp kd
      have B2 := (HH.out.2.1.b l2[i] (List.getElem_mem i2)).kp kd
      have he : (l2[i].bs, l2[i].tk) = (l1[i].bs, l1[i].tk) := by
        have h := HH.out.2.2
        unfold Sm at h
        have h3 : (l2.map (fun m => (m.bs, m.tk)))[i]'(by simpa using i2) = (l1.map (fun m => (m.bs, m.tk)))[i]'(by simpa using i1) := by simp only [h]
        simpa using h3
      obtain ⟨eb, et⟩ := Prod.mk.inj he
      obtain ⟨xa, xc, hx⟩ := B1.vshape
      obtain ⟨ya, yc, hy⟩ := B2.vshape
      have t1 := conv_str _ _ _ B1
      have t2 := conv_str _ _ _ B2
      rw [eb] at t2
      rw [hx] at t1 x0
      rw [hy] at t2 y0
      rw [et] at y1
      have hS := And.intro (kd.cell x0) (And.intro (kd.cell x1) (And.intro (kd.cell y0) (And.intro (kd.cell y1) (And.intro t1 t2))))
      have HK1 : Hid (Kp w wr.drew) := kd
      clear x0 x1 y0 y1 t1 t2 B1 B2 he eb et hx hy c1 c2 kd HC
      go_upto_region 6 with fail
      refine reg54_6 wr g o k p i n p1 p2 _ xc _ yc xa ya _ _ hlt hS _ (fun _ _ _ q _ h => by cases q <;> exact h) ?_
      clear hS
      go_wp2_with fail
      exact ⟨⟨i + 1, by go_num, by omega, HK1.out⟩, by simp [nI]; omega⟩
    · have hz : ¬ (i : Int) < (n : Int) := by omega
      go_wp2_with fail
      go_ret
      exact ⟨rfl, HK.out⟩
end Go.Proofs.Ytnblhaeojlpmmaa
namespace Go.Proofs.Ytnblhaeojlpmmaa
open Go.ChangeShapes Go.WideShapes Go.ChangeAt Go.RowKit
set_option linter.unusedVariables false
set_option maxHeartbeats 4000000 in
set_option maxRecDepth 10000 in
/-- The same state. -/
theorem sameS (w : World) (ac rc q t lo : Int) (v1 v2 v3 v4 : Value) (l1 l2 l3 l4 : List Mg) (h1 : RdL w v1 l1) (h2 : RdL w v2 l2) (h3 : RdL w v3 l3) (h4 : RdL w v4 l4) (e1 : Sm l1 l3) (e2 : Sm l2 l4) :
    Calls Try.prog 39 #[.agg #[.int .i64 ac, .int .i64 rc, .int .i64 q, .int .i64 t, .int .i64 lo, v1, v2], .agg #[.int .i64 ac, .int .i64 rc, .int .i64 q, .int .i64 t, .int .i64 lo, v3, v4]] w fun e w' => e = .returned (.bool true) ∧ Kp w w' := by
  obtain ⟨a1, p1, rfl⟩ := h1.vshape
  obtain ⟨a2, p2, rfl⟩ := h2.vshape
  obtain ⟨a3, p3, rfl⟩ := h3.vshape
  obtain ⟨a4, p4, rfl⟩ := h4.vshape
  have kA := Kp.al w (.cells #[.int .i64 ac, .int .i64 rc, .int .i64 q, .int .i64 t, .int .i64 lo, .slice a1 l1.length p1, .slice a2 l2.length p2] 64)
  have b1 := heap_alloc_new w (.cells #[.int .i64 ac, .int .i64 rc, .int .i64 q, .int .i64 t, .int .i64 lo, .slice a1 l1.length p1, .slice a2 l2.length p2] 64)
  have kB := Kp.al (w.alloc (.cells #[.int .i64 ac, .int .i64 rc, .int .i64 q, .int .i64 t, .int .i64 lo, .slice a1 l1.length p1, .slice a2 l2.length p2] 64)) (.cells #[.int .i64 ac, .int .i64 rc, .int .i64 q, .int .i64 t, .int .i64 lo, .slice a3 l3.length p3, .slice a4 l4.length p4] 64)
  have b2 := heap_alloc_new (w.alloc (.cells #[.int .i64 ac, .int .i64 rc, .int .i64 q, .int .i64 t, .int .i64 lo, .slice a1 l1.length p1, .slice a2 l2.length p2] 64)) (.cells #[.int .i64 ac, .int .i64 rc, .int .i64 q, .int .i64 t, .int .i64 lo, .slice a3 l3.length p3, .slice a4 l4.length p4] 64)
  have hsz : (w.alloc (.cells #[.int .i64 ac, .int .i64 rc, .int .i64 q, .int .i64 t, .int .i64 lo, .slice a1 l1.length p1, .slice a2 l2.length p2] 64)).heap.size = w.heap.size + 1 := by simp
  rw [hsz] at b2
  have b1 := kB.heap b1
  have HA : Hid (Kp w ((w.alloc (.cells #[.int .i64 ac, .int .i64 rc, .int .i64 q, .int .i64 t, .int .i64 lo, .slice a1 l1.length p1, .slice a2 l2.length p2] 64)).alloc (.cells #[.int .i64 ac, .int .i64 rc, .int .i64 q, .int .i64 t, .int .i64 lo, .slice a3 l3.length p3, .slice a4 l4.length p4] 64))) := kA.trans kB
  have cQ : ∀ W, Kp w W → Calls Try.prog 54 #[.slice a1 l1.length p1, .slice a3 l3.length p3] W fun e w' => e = .returned (.bool true) ∧ Kp W w' := fun W k => sameM W _ _ l1 l3 (h1.kp k) (h3.kp k) e1
  have cS : ∀ W, Kp w W → Calls Try.prog 54 #[.slice a2 l2.length p2, .slice a4 l4.length p4] W fun e w' => e = .returned (.bool true) ∧ Kp W w' := fun W k => sameM W _ _ l2 l4 (h2.kp k) (h4.kp k) e2
  clear h1 h2 h3 h4 e1 e2 kA kB hsz
  go_enter Try.func39, Try.ntmps39
  go_upto_region 1 with fail
  generalize ((w.alloc (.cells #[.int .i64 ac, .int .i64 rc, .int .i64 q, .int .i64 t, .int .i64 lo, .slice a1 l1.length p1, .slice a2 l2.length p2] 64)).alloc (.cells #[.int .i64 ac, .int .i64 rc, .int .i64 q, .int .i64 t, .int .i64 lo, .slice a3 l3.length p3, .slice a4 l4.length p4] 64)) = W at *
  generalize w.heap.size = N at *
  have x5 : W.cell? ⟨N, 5, none⟩ = some (.slice a1 l1.length p1) := (cells_at b1 5).1
  have y5 : W.cell? ⟨N + 1, 5, none⟩ = some (.slice a3 l3.length p3) := (cells_at b2 5).1
  go_wp2_with fail
  go_at_call 54
  refine (cQ W HA.out).mono ?_
  rintro e w2 ⟨rfl, k2⟩
  have HB : Hid (Kp w w2) := HA.out.trans k2
  have c1 := k2.heap b1
  have c2 := k2.heap b2
  clear x5 y5 b1 b2 k2 HA cQ
  have x6 : w2.cell? ⟨N, 6, none⟩ = some (.slice a2 l2.length p2) := (cells_at c1 6).1
  have y6 : w2.cell? ⟨N + 1, 6, none⟩ = some (.slice a4 l4.length p4) := (cells_at c2 6).1
  go_wp2_with fail
  go_at_call 54
  refine (cS w2 HB.out).mono ?_
  rintro e w3 ⟨rfl, k3⟩
  have HC : Hid (Kp w w3) := HB.out.trans k3
  have d1 := k3.heap c1
  have d2 := k3.heap c2
  clear x6 y6 c1 c2 k3 HB cS
  have x0 : w3.cell? ⟨N, 0, none⟩ = some (.int .i64 ac) := (cells_at d1 0).1
  have x1 : w3.cell? ⟨N, 1, none⟩ = some (.int .i64 rc) := (cells_at d1 1).1
  have x2 : w3.cell? ⟨N, 2, none⟩ = some (.int .i64 q) := (cells_at d1 2).1
  have x3 : w3.cell? ⟨N, 3, none⟩ = some (.int .i64 t) := (cells_at d1 3).1
  have x4 : w3.cell? ⟨N, 4, none⟩ = some (.int .i64 lo) := (cells_at d1 4).1
  have y0 : w3.cell? ⟨N + 1, 0, none⟩ = some (.int .i64 ac) := (cells_at d2 0).1
  have y1 : w3.cell? ⟨N + 1, 1, none⟩ = some (.int .i64 rc) := (cells_at d2 1).1
  have y2 : w3.cell? ⟨N + 1, 2, none⟩ = some (.int .i64 q) := (cells_at d2 2).1
  have y3 : w3.cell? ⟨N + 1, 3, none⟩ = some (.int .i64 t) := (cells_at d2 3).1
  have y4 : w3.cell? ⟨N + 1, 4, none⟩ = some (.int .i64 lo) := (cells_at d2 4).1
  clear d1 d2
  go_wp2_with fail
  go_ret
  exact ⟨rfl, HC.out⟩
end Go.Proofs.Ytnblhaeojlpmmaa
