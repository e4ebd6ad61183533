import Derived.Test.YtnblhaeojlpmmaaSj
import Derived.Test.YtnblhaeojlpmmaaRm
namespace Go.Proofs.Ytnblhaeojlpmmaa
open Go.ChangeShapes Go.WideShapes Go.ChangeAt Go.RowKit
set_option linter.unusedVariables false
def ops37_4 : Array Oper := #[{ dst := some 15, op := Op.move (Operand.tmp 0), type := 88, pos := "law.go:68", after := #[], guard := none },
  { dst := some 16, op := Op.nilCheck (Operand.tmp 15), type := 0, pos := "law.go:68", after := #[{ on := 0, ground := Ground.data }], guard := none },
  { dst := some 17, op := Op.fieldAddr 58 (Operand.tmp 16) 9, type := 0, pos := "law.go:68", after := #[{ on := 1, ground := Ground.data }], guard := none },
  { dst := some 18, op := Op.load 53 (Operand.tmp 17), type := 53, pos := "law.go:68", after := #[{ on := 2, ground := Ground.data }], guard := none },
  { dst := some 19, op := Op.move (Operand.tmp 3), type := 3, pos := "law.go:68", after := #[], guard := none },
  { dst := some 20, op := Op.indexAddr 53 (Operand.tmp 18) (Operand.tmp 19), type := 0, pos := "law.go:68", after := #[{ on := 3, ground := Ground.data }, { on := 4, ground := Ground.data }], guard := none },
  { dst := some 21, op := Op.load 37 (Operand.tmp 20), type := 37, pos := "law.go:68", after := #[{ on := 5, ground := Ground.data }], guard := none },
  { dst := some 22, op := Op.convert 37 9 (Operand.tmp 21), type := 9, pos := "law.go:68", after := #[{ on := 6, ground := Ground.data }], guard := none },
  { dst := some 23, op := Op.move (Operand.tmp 0), type := 88, pos := "law.go:68", after := #[], guard := none },
  { dst := some 24, op := Op.nilCheck (Operand.tmp 23), type := 0, pos := "law.go:68", after := #[{ on := 8, ground := Ground.data }], guard := none },
  { dst := some 25, op := Op.fieldAddr 58 (Operand.tmp 24) 10, type := 0, pos := "law.go:68", after := #[{ on := 9, ground := Ground.data }], guard := none },
  { dst := some 26, op := Op.load 54 (Operand.tmp 25), type := 54, pos := "law.go:68", after := #[{ on := 10, ground := Ground.data }], guard := none },
  { dst := some 27, op := Op.move (Operand.tmp 3), type := 3, pos := "law.go:68", after := #[], guard := none },
  { dst := some 28, op := Op.indexAddr 54 (Operand.tmp 26) (Operand.tmp 27), type := 0, pos := "law.go:68", after := #[{ on := 11, ground := Ground.data }, { on := 12, ground := Ground.data }], guard := none },
  { dst := some 29, op := Op.load 9 (Operand.tmp 28), type := 9, pos := "law.go:68", after := #[{ on := 13, ground := Ground.data }], guard := none },
  { dst := some 30, op := Op.binOp BinOp.neq 9 (Operand.tmp 22) (Operand.tmp 29) 9, type := 4, pos := "law.go:68", after := #[{ on := 7, ground := Ground.data }, { on := 14, ground := Ground.data }], guard := none }]
set_option maxHeartbeats 4000000 in
set_option maxRecDepth 100000 in
theorem reg37_4 (W : World) (K g p i n c d xn xc : Nat) (xa : Option Addr) (st : ByteArray) (hi : i < n) (hS : (fun w' => w'.cell? ⟨K, 17, none⟩ = some (.slice (some ⟨g, 0, none⟩) n c) ∧ w'.cell? ⟨g, i, none⟩ = some (.slice xa xn xc) ∧ (convert 37 9 (.slice xa xn xc)).run Try.prog w' = .ok (.string st) w' ∧ w'.cell? ⟨K, 18, none⟩ = some (.slice (some ⟨p, 0, none⟩) n d) ∧ w'.cell? ⟨p, i, none⟩ = some (.string st)) W.drew)
    (Q : Exit → Act → World → Prop) (hPan : ∀ c (a : Act) w (d : Option Tmp) v, Q (.panic c) (a.put d v) w → Q (.panic c) a w) {u1 u2 u4 u5 u6 u7 u8 u9 u10 u11 u12 u13 u14 u15 u16 u17 u18 u19 u20 u21 u22 u23 u24 u25 u26 u27 u28 u29 u30 u31 u32 u33 u34 u35 u36 u37 u38 u39 u40 u41 u42 u43 u44 u45 u46 u47 u48 u49 u50 u51 u52 u53 u54 u55 u56 : Value}
    (hQ : Q .normal ⟨#[.pointer (some ⟨K, 8, none⟩), u1,u2, .int .i64 (i : Nat), u4,u5,u6,u7,u8,u9,u10,u11,u12,u13,u14, .pointer (some ⟨K, 8, none⟩), .pointer (some ⟨K, 8, none⟩), .pointer (some ⟨K, 17, none⟩), .slice (some ⟨g, 0, none⟩) n c, .int .i64 (i : Nat), .pointer (some ⟨g, i, none⟩), .slice xa xn xc, .string st, .pointer (some ⟨K, 8, none⟩), .pointer (some ⟨K, 8, none⟩), .pointer (some ⟨K, 18, none⟩), .slice (some ⟨p, 0, none⟩) n d, .int .i64 (i : Nat), .pointer (some ⟨p, i, none⟩), .string st, .bool false, u31,u32,u33,u34,u35,u36,u37,u38,u39,u40,u41,u42,u43,u44,u45,u46,u47,u48,u49,u50,u51,u52,u53,u54,u55,u56], []⟩ W.drew) :
    Code.wp Try.prog (Code.region 4 ops37_4 true) Q ⟨#[.pointer (some ⟨K, 8, none⟩), u1,u2, .int .i64 (i : Nat), u4,u5,u6,u7,u8,u9,u10,u11,u12,u13,u14,u15,u16,u17,u18,u19,u20,u21,u22,u23,u24,u25,u26,u27,u28,u29,u30,u31,u32,u33,u34,u35,u36,u37,u38,u39,u40,u41,u42,u43,u44,u45,u46,u47,u48,u49,u50,u51,u52,u53,u54,u55,u56], []⟩ W := by
  have hiz : (i : Int) < (n : Int) := by omega
  refine wp_region_held_drew (S := fun w' => w'.cell? ⟨K, 17, none⟩ = some (.slice (some ⟨g, 0, none⟩) n c) ∧ w'.cell? ⟨g, i, none⟩ = some (.slice xa xn xc) ∧ (convert 37 9 (.slice xa xn xc)).run Try.prog w' = .ok (.string st) w' ∧ w'.cell? ⟨K, 18, none⟩ = some (.slice (some ⟨p, 0, none⟩) n d) ∧ w'.cell? ⟨p, i, none⟩ = some (.string st)) hmx hS (fun HSX => ?_)
  clear hS
  obtain ⟨W0, hW0⟩ : ∃ W0,W0 = W.drew := ⟨_, rfl⟩
  rw [← hW0] at HSX hQ ⊢
  clear hW0
  refine wpAnyH_take (i := 0) (oi := { dst := some 15, op := Op.move (Operand.tmp 0), type := 88, pos := "law.go:68", after := #[], guard := none }) (v := .pointer (some ⟨K, 8, none⟩)) rfl (by kernel_rfl) (by kernel_rfl) (by kernel_rfl) (fun _ _ _ h => hPan _ _ _ _ _ h) (Or.inl ⟨by rfl, ?_⟩) HSX ?_
  · intro wx d0
    obtain ⟨s1, s2, s3, s4, s5⟩ := d0
    go_simp
  simp only [Act.put, List.setIfInBounds_toArray, List.set_cons_zero, List.set_cons_succ]
  refine wpAnyH_take (i := 1) (oi := { dst := some 16, op := Op.nilCheck (Operand.tmp 15), type := 0, pos := "law.go:68", after := #[{ on := 0, ground := Ground.data }], guard := none }) (v := .pointer (some ⟨K, 8, none⟩)) rfl (by kernel_rfl) (by kernel_rfl) (by kernel_rfl) (fun _ _ _ h => hPan _ _ _ _ _ h) (Or.inl ⟨by rfl, ?_⟩) HSX ?_
  · intro wx d0
    obtain ⟨s1, s2, s3, s4, s5⟩ := d0
    go_simp
  simp only [Act.put, List.setIfInBounds_toArray, List.set_cons_zero, List.set_cons_succ]
  refine wpAnyH_take (i := 2) (oi := { dst := some 17, op := Op.fieldAddr 58 (Operand.tmp 16) 9, type := 0, pos := "law.go:68", after := #[{ on := 1, ground := Ground.data }], guard := none }) (v := .pointer (some ⟨K, 17, none⟩)) rfl (by kernel_rfl) (by kernel_rfl) (by kernel_rfl) (fun _ _ _ h => hPan _ _ _ _ _ h) (Or.inl ⟨by rfl, ?_⟩) HSX ?_
  · intro wx d0
    obtain ⟨s1, s2, s3, s4, s5⟩ := d0
    go_simp
  simp only [Act.put, List.setIfInBounds_toArray, List.set_cons_zero, List.set_cons_succ]
  refine wpAnyH_take (i := 3) (oi := { dst := some 18, op := Op.load 53 (Operand.tmp 17), type := 53, pos := "law.go:68", after := #[{ on := 2, ground := Ground.data }], guard := none }) (v := .slice (some ⟨g, 0, none⟩) n c) rfl (by kernel_rfl) (by kernel_rfl) (by kernel_rfl) (fun _ _ _ h => hPan _ _ _ _ _ h) (Or.inl ⟨by rfl, ?_⟩) HSX ?_
  · intro wx d0
    obtain ⟨s1, s2, s3, s4, s5⟩ := d0
    go_simp
  simp only [Act.put, List.setIfInBounds_toArray, List.set_cons_zero, List.set_cons_succ]
  refine wpAnyH_take (i := 4) (oi := { dst := some 19, op := Op.move (Operand.tmp 3), type := 3, pos := "law.go:68", after := #[], guard := none }) (v := .int .i64 (i : Nat)) rfl (by kernel_rfl) (by kernel_rfl) (by kernel_rfl) (fun _ _ _ h => hPan _ _ _ _ _ h) (Or.inl ⟨by rfl, ?_⟩) HSX ?_
  · intro wx d0
    obtain ⟨s1, s2, s3, s4, s5⟩ := d0
    go_simp
  simp only [Act.put, List.setIfInBounds_toArray, List.set_cons_zero, List.set_cons_succ]
  refine wpAnyH_take (i := 5) (oi := { dst := some 20, op := Op.indexAddr 53 (Operand.tmp 18) (Operand.tmp 19), type := 0, pos := "law.go:68", after := #[{ on := 3, ground := Ground.data }, { on := 4, ground := Ground.data }], guard := none }) (v := .pointer (some ⟨g, i, none⟩)) rfl (by kernel_rfl) (by kernel_rfl) (by kernel_rfl) (fun _ _ _ h => hPan _ _ _ _ _ h) (Or.inl ⟨by rfl, ?_⟩) HSX ?_
  · intro wx d0
    obtain ⟨s1, s2, s3, s4, s5⟩ := d0
    go_simp
  simp only [Act.put, List.setIfInBounds_toArray, List.set_cons_zero, List.set_cons_succ]
  refine wpAnyH_take (i := 6) (oi := { dst := some 21, op := Op.load 37 (Operand.tmp 20), type := 37, pos := "law.go:68", after := #[{ on := 5, ground := Ground.data }], guard := none }) (v := .slice xa xn xc) rfl (by kernel_rfl) (by kernel_rfl) (by kernel_rfl) (fun _ _ _ h => hPan _ _ _ _ _ h) (Or.inl ⟨by rfl, ?_⟩) HSX ?_
  · intro wx d0
    obtain ⟨s1, s2, s3, s4, s5⟩ := d0
    go_simp
  simp only [Act.put, List.setIfInBounds_toArray, List.set_cons_zero, List.set_cons_succ]
  refine wpAnyH_take (i := 7) (oi := { dst := some 22, op := Op.convert 37 9 (Operand.tmp 21), type := 9, pos := "law.go:68", after := #[{ on := 6, ground := Ground.data }], guard := none }) (v := .string st) rfl (by kernel_rfl) (by kernel_rfl) (by kernel_rfl) (fun _ _ _ h => hPan _ _ _ _ _ h) (Or.inl ⟨by rfl, ?_⟩) HSX ?_
  · intro wx d0
    obtain ⟨s1, s2, s3, s4, s5⟩ := d0
    go_simp
  simp only [Act.put, List.setIfInBounds_toArray, List.set_cons_zero, List.set_cons_succ]
  refine wpAnyH_take (i := 8) (oi := { dst := some 23, op := Op.move (Operand.tmp 0), type := 88, pos := "law.go:68", after := #[], guard := none }) (v := .pointer (some ⟨K, 8, none⟩)) rfl (by kernel_rfl) (by kernel_rfl) (by kernel_rfl) (fun _ _ _ h => hPan _ _ _ _ _ h) (Or.inl ⟨by rfl, ?_⟩) HSX ?_
  · intro wx d0
    obtain ⟨s1, s2, s3, s4, s5⟩ := d0
    go_simp
  simp only [Act.put, List.setIfInBounds_toArray, List.set_cons_zero, List.set_cons_succ]
  refine wpAnyH_take (i := 9) (oi := { dst := some 24, op := Op.nilCheck (Operand.tmp 23), type := 0, pos := "law.go:68", after := #[{ on := 8, ground := Ground.data }], guard := none }) (v := .pointer (some ⟨K, 8, none⟩)) rfl (by kernel_rfl) (by kernel_rfl) (by kernel_rfl) (fun _ _ _ h => hPan _ _ _ _ _ h) (Or.inl ⟨by rfl, ?_⟩) HSX ?_
  · intro wx d0
    obtain ⟨s1, s2, s3, s4, s5⟩ := d0
    go_simp
  simp only [Act.put, List.setIfInBounds_toArray, List.set_cons_zero, List.set_cons_succ]
  refine wpAnyH_take (i := 10) (oi := { dst := some 25, op := Op.fieldAddr 58 (Operand.tmp 24) 10, type := 0, pos := "law.go:68", after := #[{ on := 9, ground := Ground.data }], guard := none }) (v := .pointer (some ⟨K, 18, none⟩)) rfl (by kernel_rfl) (by kernel_rfl) (by kernel_rfl) (fun _ _ _ h => hPan _ _ _ _ _ h) (Or.inl ⟨by rfl, ?_⟩) HSX ?_
  · intro wx d0
    obtain ⟨s1, s2, s3, s4, s5⟩ := d0
    go_simp
  simp only [Act.put, List.setIfInBounds_toArray, List.set_cons_zero, List.set_cons_succ]
  refine wpAnyH_take (i := 11) (oi := { dst := some 26, op := Op.load 54 (Operand.tmp 25), type := 54, pos := "law.go:68", after := #[{ on := 10, ground := Ground.data }], guard := none }) (v := .slice (some ⟨p, 0, none⟩) n d) rfl (by kernel_rfl) (by kernel_rfl) (by kernel_rfl) (fun _ _ _ h => hPan _ _ _ _ _ h) (Or.inl ⟨by rfl, ?_⟩) HSX ?_
  · intro wx d0
    obtain ⟨s1, s2, s3, s4, s5⟩ := d0
    go_simp
  simp only [Act.put, List.setIfInBounds_toArray, List.set_cons_zero, List.set_cons_succ]
  refine wpAnyH_take (i := 12) (oi := { dst := some 27, op := Op.move (Operand.tmp 3), type := 3, pos := "law.go:68", after := #[], guard := none }) (v := .int .i64 (i : Nat)) rfl (by kernel_rfl) (by kernel_rfl) (by kernel_rfl) (fun _ _ _ h => hPan _ _ _ _ _ h) (Or.inl ⟨by rfl, ?_⟩) HSX ?_
  · intro wx d0
    obtain ⟨s1, s2, s3, s4, s5⟩ := d0
    go_simp
  simp only [Act.put, List.setIfInBounds_toArray, List.set_cons_zero, List.set_cons_succ]
  refine wpAnyH_take (i := 13) (oi := { dst := some 28, op := Op.indexAddr 54 (Operand.tmp 26) (Operand.tmp 27), type := 0, pos := "law.go:68", after := #[{ on := 11, ground := Ground.data }, { on := 12, ground := Ground.data }], guard := none }) (v := .pointer (some ⟨p, i, none⟩)) rfl (by kernel_rfl) (by kernel_rfl) (by kernel_rfl) (fun _ _ _ h => hPan _ _ _ _ _ h) (Or.inl ⟨by rfl, ?_⟩) HSX ?_
  · intro wx d0
    obtain ⟨s1, s2, s3, s4, s5⟩ := d0
    go_simp
  simp only [Act.put, List.setIfInBounds_toArray, List.set_cons_zero, List.set_cons_succ]
  refine wpAnyH_take (i := 14) (oi := { dst := some 29, op := Op.load 9 (Operand.tmp 28), type := 9, pos := "law.go:68", after := #[{ on := 13, ground := Ground.data }], guard := none }) (v := .string st) rfl (by kernel_rfl) (by kernel_rfl) (by kernel_rfl) (fun _ _ _ h => hPan _ _ _ _ _ h) (Or.inl ⟨by rfl, ?_⟩) HSX ?_
  · intro wx d0
    obtain ⟨s1, s2, s3, s4, s5⟩ := d0
    go_simp
  simp only [Act.put, List.setIfInBounds_toArray, List.set_cons_zero, List.set_cons_succ]
  refine wpAnyH_take (i := 15) (oi := { dst := some 30, op := Op.binOp BinOp.neq 9 (Operand.tmp 22) (Operand.tmp 29) 9, type := 4, pos := "law.go:68", after := #[{ on := 7, ground := Ground.data }, { on := 14, ground := Ground.data }], guard := none }) (v := .bool false) rfl (by kernel_rfl) (by kernel_rfl) (by kernel_rfl) (fun _ _ _ h => hPan _ _ _ _ _ h) (Or.inl ⟨by rfl, ?_⟩) HSX ?_
  · intro wx d0
    obtain ⟨s1, s2, s3, s4, s5⟩ := d0
    go_simp
  simp only [Act.put, List.setIfInBounds_toArray, List.set_cons_zero, List.set_cons_succ]
  refine wpAnyH_done (by kernel_rfl) ?_ _
  exact hQ
def ops37_9 : Array Oper := #[{ dst := some 40, op := Op.move (Operand.tmp 0), type := 88, pos := "law.go:73", after := #[], guard := none },
  { dst := some 41, op := Op.nilCheck (Operand.tmp 40), type := 0, pos := "law.go:73", after := #[{ on := 0, ground := Ground.data }], guard := none },
  { dst := some 42, op := Op.fieldAddr 58 (Operand.tmp 41) 11, type := 0, pos := "law.go:73", after := #[{ on := 1, ground := Ground.data }], guard := none },
  { dst := some 43, op := Op.load 55 (Operand.tmp 42), type := 55, pos := "law.go:73", after := #[{ on := 2, ground := Ground.data }], guard := none },
  { dst := some 44, op := Op.move (Operand.tmp 4), type := 3, pos := "law.go:73", after := #[], guard := none },
  { dst := some 45, op := Op.indexAddr 55 (Operand.tmp 43) (Operand.tmp 44), type := 0, pos := "law.go:73", after := #[{ on := 3, ground := Ground.data }, { on := 4, ground := Ground.data }], guard := none },
  { dst := some 46, op := Op.load 62 (Operand.tmp 45), type := 62, pos := "law.go:73", after := #[{ on := 5, ground := Ground.data }], guard := none },
  { dst := some 47, op := Op.move (Operand.tmp 0), type := 88, pos := "law.go:73", after := #[], guard := none },
  { dst := some 48, op := Op.nilCheck (Operand.tmp 47), type := 0, pos := "law.go:73", after := #[{ on := 7, ground := Ground.data }], guard := none },
  { dst := some 49, op := Op.fieldAddr 58 (Operand.tmp 48) 12, type := 0, pos := "law.go:73", after := #[{ on := 8, ground := Ground.data }], guard := none },
  { dst := some 50, op := Op.load 55 (Operand.tmp 49), type := 55, pos := "law.go:73", after := #[{ on := 9, ground := Ground.data }], guard := none },
  { dst := some 51, op := Op.move (Operand.tmp 4), type := 3, pos := "law.go:73", after := #[], guard := none },
  { dst := some 52, op := Op.indexAddr 55 (Operand.tmp 50) (Operand.tmp 51), type := 0, pos := "law.go:73", after := #[{ on := 10, ground := Ground.data }, { on := 11, ground := Ground.data }], guard := none },
  { dst := some 53, op := Op.load 62 (Operand.tmp 52), type := 62, pos := "law.go:73", after := #[{ on := 12, ground := Ground.data }], guard := none },
  { dst := some 54, op := Op.call { callee := Callee.value (Operand.func 54), args := #[Operand.tmp 46, Operand.tmp 53], argTypes := #[62, 62] }, type := 4, pos := "law.go:73", after := #[{ on := 6, ground := Ground.data }, { on := 13, ground := Ground.data }], guard := none },
  { dst := some 5, op := Op.assign (Operand.tmp 54), type := 4, pos := "law.go:73", after := #[{ on := 14, ground := Ground.data }, { on := 14, ground := Ground.chain }, { on := 0, ground := Ground.phase }, { on := 1, ground := Ground.phase }, { on := 2, ground := Ground.phase }, { on := 3, ground := Ground.phase }, { on := 4, ground := Ground.phase }, { on := 5, ground := Ground.phase }, { on := 6, ground := Ground.phase }, { on := 7, ground := Ground.phase }, { on := 8, ground := Ground.phase }, { on := 9, ground := Ground.phase }, { on := 10, ground := Ground.phase }, { on := 11, ground := Ground.phase }, { on := 12, ground := Ground.phase }, { on := 13, ground := Ground.phase }, { on := 14, ground := Ground.phase }], guard := none }]
set_option maxHeartbeats 4000000 in
set_option maxRecDepth 100000 in
theorem reg37_9 (W : World) (KK g p i n c d xn xc yn yc : Nat) (xa ya : Option Addr) (hi : i < n) (hS : (fun w' => w'.cell? ⟨KK, 19, none⟩ = some (.slice (some ⟨g, 0, none⟩) n c) ∧ w'.cell? ⟨g, i, none⟩ = some (.slice xa xn xc) ∧ w'.cell? ⟨KK, 20, none⟩ = some (.slice (some ⟨p, 0, none⟩) n d) ∧ w'.cell? ⟨p, i, none⟩ = some (.slice ya yn yc)) W.drew)
    (hcall : Calls Try.prog 54 #[.slice xa xn xc, .slice ya yn yc] W.drew fun e w' => e = .returned (.bool true) ∧ Kp W.drew w')
    (Q : Exit → Act → World → Prop) (hPan : ∀ c (a : Act) w (d : Option Tmp) v, Q (.panic c) (a.put d v) w → Q (.panic c) a w) {u1 u2 u3 u5 u6 u7 u8 u9 u10 u11 u12 u13 u14 u15 u16 u17 u18 u19 u20 u21 u22 u23 u24 u25 u26 u27 u28 u29 u30 u31 u32 u33 u34 u35 u36 u37 u38 u39 u40 u41 u42 u43 u44 u45 u46 u47 u48 u49 u50 u51 u52 u53 u54 u55 u56 : Value}
    (hQ : ∀ w1, Kp W.drew w1 → Q .normal ⟨#[.pointer (some ⟨KK, 8, none⟩), u1,u2,u3, .int .i64 (i : Nat), .bool true, u6,u7,u8,u9,u10,u11,u12,u13,u14,u15,u16,u17,u18,u19,u20,u21,u22,u23,u24,u25,u26,u27,u28,u29,u30,u31,u32,u33,u34,u35,u36,u37,u38,u39, .pointer (some ⟨KK, 8, none⟩), .pointer (some ⟨KK, 8, none⟩), .pointer (some ⟨KK, 19, none⟩), .slice (some ⟨g, 0, none⟩) n c, .int .i64 (i : Nat), .pointer (some ⟨g, i, none⟩), .slice xa xn xc, .pointer (some ⟨KK, 8, none⟩), .pointer (some ⟨KK, 8, none⟩), .pointer (some ⟨KK, 20, none⟩), .slice (some ⟨p, 0, none⟩) n d, .int .i64 (i : Nat), .pointer (some ⟨p, i, none⟩), .slice ya yn yc, .bool true, u55,u56], []⟩ w1) :
    Code.wp Try.prog (Code.region 9 ops37_9 true) Q ⟨#[.pointer (some ⟨KK, 8, none⟩), u1,u2,u3, .int .i64 (i : Nat), u5,u6,u7,u8,u9,u10,u11,u12,u13,u14,u15,u16,u17,u18,u19,u20,u21,u22,u23,u24,u25,u26,u27,u28,u29,u30,u31,u32,u33,u34,u35,u36,u37,u38,u39,u40,u41,u42,u43,u44,u45,u46,u47,u48,u49,u50,u51,u52,u53,u54,u55,u56], []⟩ W := by
  have hiz : (i : Int) < (n : Int) := by omega
  refine wp_region_held_drew (S := fun w' => w'.cell? ⟨KK, 19, none⟩ = some (.slice (some ⟨g, 0, none⟩) n c) ∧ w'.cell? ⟨g, i, none⟩ = some (.slice xa xn xc) ∧ w'.cell? ⟨KK, 20, none⟩ = some (.slice (some ⟨p, 0, none⟩) n d) ∧ w'.cell? ⟨p, i, none⟩ = some (.slice ya yn yc)) hmx hS (fun HSX => ?_)
  clear hS
  obtain ⟨W0, hW0⟩ : ∃ W0,W0 = W.drew := ⟨_, rfl⟩
  rw [← hW0] at HSX hQ hcall ⊢
  clear hW0
  refine wpAnyH_take (i := 0) (oi := { dst := some 40, op := Op.move (Operand.tmp 0), type := 88, pos := "law.go:73", after := #[], guard := none }) (v := .pointer (some ⟨KK, 8, none⟩)) rfl (by kernel_rfl) (by kernel_rfl) (by kernel_rfl) (fun _ _ _ h => hPan _ _ _ _ _ h) (Or.inl ⟨by rfl, ?_⟩) HSX ?_
  · intro wx d0
    obtain ⟨s1, s2, s3, s4⟩ := d0
    go_simp
  simp only [Act.put, List.setIfInBounds_toArray, List.set_cons_zero, List.set_cons_succ]
  refine wpAnyH_take (i := 1) (oi := { dst := some 41, op := Op.nilCheck (Operand.tmp 40), type := 0, pos := "law.go:73", after := #[{ on := 0, ground := Ground.data }], guard := none }) (v := .pointer (some ⟨KK, 8, none⟩)) rfl (by kernel_rfl) (by kernel_rfl) (by kernel_rfl) (fun _ _ _ h => hPan _ _ _ _ _ h) (Or.inl ⟨by rfl, ?_⟩) HSX ?_
  · intro wx d0
    obtain ⟨s1, s2, s3, s4⟩ := d0
    go_simp
  simp only [Act.put, List.setIfInBounds_toArray, List.set_cons_zero, List.set_cons_succ]
  refine wpAnyH_take (i := 2) (oi := { dst := some 42, op := Op.fieldAddr 58 (Operand.tmp 41) 11, type := 0, pos := "law.go:73", after := #[{ on := 1, ground := Ground.data }], guard := none }) (v := .pointer (some ⟨KK, 19, none⟩)) rfl (by kernel_rfl) (by kernel_rfl) (by kernel_rfl) (fun _ _ _ h => hPan _ _ _ _ _ h) (Or.inl ⟨by rfl, ?_⟩) HSX ?_
  · intro wx d0
    obtain ⟨s1, s2, s3, s4⟩ := d0
    go_simp
  simp only [Act.put, List.setIfInBounds_toArray, List.set_cons_zero, List.set_cons_succ]
  refine wpAnyH_take (i := 3) (oi := { dst := some 43, op := Op.load 55 (Operand.tmp 42), type := 55, pos := "law.go:73", after := #[{ on := 2, ground := Ground.data }], guard := none }) (v := .slice (some ⟨g, 0, none⟩) n c) rfl (by kernel_rfl) (by kernel_rfl) (by kernel_rfl) (fun _ _ _ h => hPan _ _ _ _ _ h) (Or.inl ⟨by rfl, ?_⟩) HSX ?_
  · intro wx d0
    obtain ⟨s1, s2, s3, s4⟩ := d0
    go_simp
  simp only [Act.put, List.setIfInBounds_toArray, List.set_cons_zero, List.set_cons_succ]
  refine wpAnyH_take (i := 4) (oi := { dst := some 44, op := Op.move (Operand.tmp 4), type := 3, pos := "law.go:73", after := #[], guard := none }) (v := .int .i64 (i : Nat)) rfl (by kernel_rfl) (by kernel_rfl) (by kernel_rfl) (fun _ _ _ h => hPan _ _ _ _ _ h) (Or.inl ⟨by rfl, ?_⟩) HSX ?_
  · intro wx d0
    obtain ⟨s1, s2, s3, s4⟩ := d0
    go_simp
  simp only [Act.put, List.setIfInBounds_toArray, List.set_cons_zero, List.set_cons_succ]
  refine wpAnyH_take (i := 5) (oi := { dst := some 45, op := Op.indexAddr 55 (Operand.tmp 43) (Operand.tmp 44), type := 0, pos := "law.go:73", after := #[{ on := 3, ground := Ground.data }, { on := 4, ground := Ground.data }], guard := none }) (v := .pointer (some ⟨g, i, none⟩)) rfl (by kernel_rfl) (by kernel_rfl) (by kernel_rfl) (fun _ _ _ h => hPan _ _ _ _ _ h) (Or.inl ⟨by rfl, ?_⟩) HSX ?_
  · intro wx d0
    obtain ⟨s1, s2, s3, s4⟩ := d0
    go_simp
  simp only [Act.put, List.setIfInBounds_toArray, List.set_cons_zero, List.set_cons_succ]
  refine wpAnyH_take (i := 6) (oi := { dst := some 46, op := Op.load 62 (Operand.tmp 45), type := 62, pos := "law.go:73", after := #[{ on := 5, ground := Ground.data }], guard := none }) (v := .slice xa xn xc) rfl (by kernel_rfl) (by kernel_rfl) (by kernel_rfl) (fun _ _ _ h => hPan _ _ _ _ _ h) (Or.inl ⟨by rfl, ?_⟩) HSX ?_
  · intro wx d0
    obtain ⟨s1, s2, s3, s4⟩ := d0
    go_simp
  simp only [Act.put, List.setIfInBounds_toArray, List.set_cons_zero, List.set_cons_succ]
  refine wpAnyH_take (i := 7) (oi := { dst := some 47, op := Op.move (Operand.tmp 0), type := 88, pos := "law.go:73", after := #[], guard := none }) (v := .pointer (some ⟨KK, 8, none⟩)) rfl (by kernel_rfl) (by kernel_rfl) (by kernel_rfl) (fun _ _ _ h => hPan _ _ _ _ _ h) (Or.inl ⟨by rfl, ?_⟩) HSX ?_
  · intro wx d0
    obtain ⟨s1, s2, s3, s4⟩ := d0
    go_simp
  simp only [Act.put, List.setIfInBounds_toArray, List.set_cons_zero, List.set_cons_succ]
  refine wpAnyH_take (i := 8) (oi := { dst := some 48, op := Op.nilCheck (Operand.tmp 47), type := 0, pos := "law.go:73", after := #[{ on := 7, ground := Ground.data }], guard := none }) (v := .pointer (some ⟨KK, 8, none⟩)) rfl (by kernel_rfl) (by kernel_rfl) (by kernel_rfl) (fun _ _ _ h => hPan _ _ _ _ _ h) (Or.inl ⟨by rfl, ?_⟩) HSX ?_
  · intro wx d0
    obtain ⟨s1, s2, s3, s4⟩ := d0
    go_simp
  simp only [Act.put, List.setIfInBounds_toArray, List.set_cons_zero, List.set_cons_succ]
  refine wpAnyH_take (i := 9) (oi := { dst := some 49, op := Op.fieldAddr 58 (Operand.tmp 48) 12, type := 0, pos := "law.go:73", after := #[{ on := 8, ground := Ground.data }], guard := none }) (v := .pointer (some ⟨KK, 20, none⟩)) rfl (by kernel_rfl) (by kernel_rfl) (by kernel_rfl) (fun _ _ _ h => hPan _ _ _ _ _ h) (Or.inl ⟨by rfl, ?_⟩) HSX ?_
  · intro wx d0
    obtain ⟨s1, s2, s3, s4⟩ := d0
    go_simp
  simp only [Act.put, List.setIfInBounds_toArray, List.set_cons_zero, List.set_cons_succ]
  refine wpAnyH_take (i := 10) (oi := { dst := some 50, op := Op.load 55 (Operand.tmp 49), type := 55, pos := "law.go:73", after := #[{ on := 9, ground := Ground.data }], guard := none }) (v := .slice (some ⟨p, 0, none⟩) n d) rfl (by kernel_rfl) (by kernel_rfl) (by kernel_rfl) (fun _ _ _ h => hPan _ _ _ _ _ h) (Or.inl ⟨by rfl, ?_⟩) HSX ?_
  · intro wx d0
    obtain ⟨s1, s2, s3, s4⟩ := d0
    go_simp
  simp only [Act.put, List.setIfInBounds_toArray, List.set_cons_zero, List.set_cons_succ]
  refine wpAnyH_take (i := 11) (oi := { dst := some 51, op := Op.move (Operand.tmp 4), type := 3, pos := "law.go:73", after := #[], guard := none }) (v := .int .i64 (i : Nat)) rfl (by kernel_rfl) (by kernel_rfl) (by kernel_rfl) (fun _ _ _ h => hPan _ _ _ _ _ h) (Or.inl ⟨by rfl, ?_⟩) HSX ?_
  · intro wx d0
    obtain ⟨s1, s2, s3, s4⟩ := d0
    go_simp
  simp only [Act.put, List.setIfInBounds_toArray, List.set_cons_zero, List.set_cons_succ]
  refine wpAnyH_take (i := 12) (oi := { dst := some 52, op := Op.indexAddr 55 (Operand.tmp 50) (Operand.tmp 51), type := 0, pos := "law.go:73", after := #[{ on := 10, ground := Ground.data }, { on := 11, ground := Ground.data }], guard := none }) (v := .pointer (some ⟨p, i, none⟩)) rfl (by kernel_rfl) (by kernel_rfl) (by kernel_rfl) (fun _ _ _ h => hPan _ _ _ _ _ h) (Or.inl ⟨by rfl, ?_⟩) HSX ?_
  · intro wx d0
    obtain ⟨s1, s2, s3, s4⟩ := d0
    go_simp
  simp only [Act.put, List.setIfInBounds_toArray, List.set_cons_zero, List.set_cons_succ]
  refine wpAnyH_take (i := 13) (oi := { dst := some 53, op := Op.load 62 (Operand.tmp 52), type := 62, pos := "law.go:73", after := #[{ on := 12, ground := Ground.data }], guard := none }) (v := .slice ya yn yc) rfl (by kernel_rfl) (by kernel_rfl) (by kernel_rfl) (fun _ _ _ h => hPan _ _ _ _ _ h) (Or.inl ⟨by rfl, ?_⟩) HSX ?_
  · intro wx d0
    obtain ⟨s1, s2, s3, s4⟩ := d0
    go_simp
  simp only [Act.put, List.setIfInBounds_toArray, List.set_cons_zero, List.set_cons_succ]
  refine wpAnyH_ready (rs := [14]) (by kernel_rfl) (by simp) ?_
  refine AllReadyH.cons (o := { dst := some 54, op := Op.call { callee := Callee.value (Operand.func 54), args := #[Operand.tmp 46, Operand.tmp 53], argTypes := #[62, 62] }, type := 4, pos := "law.go:73", after := #[{ on := 6, ground := Ground.data }, { on := 13, ground := Ground.data }], guard := none }) rfl (fun K hK => ?_) AllReadyH.nil
  rw [if_pos (by rfl)]
  go_simp
  go_at_call 54
  refine hcall.mono ?_
  rintro e w1 ⟨rfl, k1⟩
  go_simp
  refine hK.out _ _ ⟨k1.cell HSX.1, k1.cell HSX.2.1, k1.cell HSX.2.2.1, k1.cell HSX.2.2.2⟩ (fun HSX => ?_)
  clear hK K
  refine wpAnyH_take (i := 15) (oi := { dst := some 5, op := Op.assign (Operand.tmp 54), type := 4, pos := "law.go:73", after := #[{ on := 14, ground := Ground.data }, { on := 14, ground := Ground.chain }, { on := 0, ground := Ground.phase }, { on := 1, ground := Ground.phase }, { on := 2, ground := Ground.phase }, { on := 3, ground := Ground.phase }, { on := 4, ground := Ground.phase }, { on := 5, ground := Ground.phase }, { on := 6, ground := Ground.phase }, { on := 7, ground := Ground.phase }, { on := 8, ground := Ground.phase }, { on := 9, ground := Ground.phase }, { on := 10, ground := Ground.phase }, { on := 11, ground := Ground.phase }, { on := 12, ground := Ground.phase }, { on := 13, ground := Ground.phase }, { on := 14, ground := Ground.phase }], guard := none }) (v := .bool true) rfl (by kernel_rfl) (by kernel_rfl) (by kernel_rfl) (fun _ _ _ h => hPan _ _ _ _ _ h) (Or.inl ⟨by rfl, ?_⟩) HSX ?_
  · intro wx d0
    obtain ⟨s1, s2, s3, s4⟩ := d0
    go_simp
  simp only [Act.put, List.setIfInBounds_toArray, List.set_cons_zero, List.set_cons_succ]
  refine wpAnyH_done (by kernel_rfl) ?_ _
  exact hQ _ k1
end Go.Proofs.Ytnblhaeojlpmmaa
namespace Go.Proofs.Ytnblhaeojlpmmaa
open Go.ChangeShapes Go.WideShapes Go.ChangeAt Go.RowKit
set_option linter.unusedVariables false
/-- A place in a list of the book. -/
theorem own_at {w : World} {e : Nat} {v : Value} {xs : List Value} (h : w.ownsRow 0 e 1 v xs.length xs) {i : Nat} (hi : i < xs.length) : ∃ g c, v = .slice (some ⟨g, 0, none⟩) xs.length c ∧ w.cell? ⟨g, i, none⟩ = some xs[i] := by
  rcases h.2 with ⟨_, e'⟩ | ⟨g, cap, cur, e', _⟩
  · omega
  · refine ⟨g, cap, e', ?_⟩
    have h2 := h
    rw [e'] at h2
    have := h2.cells (g := g) rfl i xs[i] (by simp)
    rw [Addr.add_lit, Nat.zero_add] at this
    exact this
section
variable {w : World} {σ : Nat → Nat × Nat} {K : Nat} {U V : Nat → Value} {X : Nat → List Value} {G H : List (List Int)} {O R : List (Nat × Nat × Int)} {L D E : List (List Mg)}
/-- What holds reads of a list that lies untouched. -/
theorem Bk.hat (h : Bk w σ K U V X G O H R L D E) {i : Nat} (hi : i < H.length) : ∃ g c p d xa xn xc, V 9 = .slice (some ⟨g, 0, none⟩) H.length c ∧ V 10 = .slice (some ⟨p, 0, none⟩) H.length d ∧ w.cell? ⟨g, i, none⟩ = some (.slice xa xn xc) ∧ OB w (.slice xa xn xc) H[i] ∧ w.cell? ⟨p, i, none⟩ = some (.string (strOf H[i])) := by
  have l9 : (X 9).length = H.length := by have := h.h.len; simpa using this
  have l10 : (X 10).length = H.length := by rw [h.hs]; simp
  obtain ⟨g, c, e1, c1⟩ := own_at (h.m.own 9 (by omega) (by omega)).1 (i := i) (by omega)
  obtain ⟨p, d, e2, c2⟩ := own_at (h.m.own 10 (by omega) (by omega)).1 (i := i) (by omega)
  have ho := (h.h.rw i (X 9)[i] (eB i H[i]) (by simp) (by simp [hi])).1
  have ho' : OB w (X 9)[i] H[i] := ho
  obtain ⟨xa, xc, e3⟩ := ho'.shape
  rw [e3] at ho' c1
  rw [l9] at e1
  rw [l10] at e2
  refine ⟨g, c, p, d, xa, _, xc, e1, e2, c1, ho', ?_⟩
  rw [c2]
  simp [h.hs]
/-- What holds reads of a row that lies untouched. -/
theorem Bk.dat (h : Bk w σ K U V X G O H R L D E) (hd : ∀ l ∈ D, l.length ≤ 1000 ∧ ∀ m ∈ l, m.bs.length ≤ 1000) {i : Nat} (hi : i < D.length) : ∃ g c p d xa xn xc ya yn yc l1 l2, V 11 = .slice (some ⟨g, 0, none⟩) D.length c ∧ V 12 = .slice (some ⟨p, 0, none⟩) D.length d ∧ w.cell? ⟨g, i, none⟩ = some (.slice xa xn xc) ∧ w.cell? ⟨p, i, none⟩ = some (.slice ya yn yc) ∧ RdL w (.slice xa xn xc) l1 ∧ RdL w (.slice ya yn yc) l2 ∧ Sm l1 l2 := by
  have lDE : E.length = D.length := by have := congrArg List.length h.de; simpa using this.symm
  have l11 : (X 11).length = D.length := by have := h.d.len; simpa using this
  have l12 : (X 12).length = D.length := by have := h.e.len; simp at this; omega
  have hiE : i < E.length := by omega
  obtain ⟨g, c, e1, c1⟩ := own_at (h.m.own 11 (by omega) (by omega)).1 (i := i) (by omega)
  obtain ⟨p, d, e2, c2⟩ := own_at (h.m.own 12 (by omega) (by omega)).1 (i := i) (by omega)
  have o1 : OM w (X 11)[i] D[i] := (h.d.rw i (X 11)[i] (eM i D[i]) (by simp) (by simp [hi])).1
  have o2 : OM w (X 12)[i] E[i] := (h.e.rw i (X 12)[i] (eM i E[i]) (by simp) (by simp [hiE])).1
  have hde : D[i].map (fun m => (m.bs, m.tk)) = E[i].map (fun m => (m.bs, m.tk)) := by
    have h3 : (D.map (fun l => l.map fun m => (m.bs, m.tk)))[i]'(by simpa using hi) = (E.map (fun l => l.map fun m => (m.bs, m.tk)))[i]'(by simpa using hiE) := by simp only [h.de]
    simpa using h3
  have hDi := hd D[i] (List.getElem_mem hi)
  have hEl : E[i].length = D[i].length := by have := congrArg List.length hde; simpa using this.symm
  have hEb : ∀ m ∈ E[i], m.bs.length ≤ 1000 := fun m hm => by
    have : (m.bs, m.tk) ∈ D[i].map (fun m => (m.bs, m.tk)) := by rw [hde]; exact List.mem_map.2 ⟨m, hm, rfl⟩
    obtain ⟨m', hm', e⟩ := List.mem_map.1 this
    have := hDi.2 m' hm'
    rw [← (Prod.mk.inj e).1]; exact this
  have r1 := o1.rd (fun m hm => (h.db _ (List.getElem_mem hi) m hm).1) hDi.1 hDi.2
  have r2 := o2.rd (fun m hm => (h.eb _ (List.getElem_mem hiE) m hm).1) (by omega) hEb
  obtain ⟨xa, xc, e3⟩ := o1.shape
  obtain ⟨ya, yc, e4⟩ := o2.shape
  rw [e3] at r1 c1
  rw [e4] at r2 c2
  rw [l11] at e1
  rw [l12] at e2
  exact ⟨g, c, p, d, xa, _, xc, ya, _, yc, _, _, e1, e2, c1, c2, r1, r2, by unfold Sm; first | exact hde | exact hde.symm⟩
theorem Bk.shp (h : Bk w σ K U V X G O H R L D E) : (∃ a c, V 9 = .slice a H.length c) ∧ ∃ a c, V 11 = .slice a D.length c := by
  have l9 : (X 9).length = H.length := by have := h.h.len; simpa using this
  have l11 : (X 11).length = D.length := by have := h.d.len; simpa using this
  refine ⟨?_, ?_⟩
  · rcases (h.m.own 9 (by omega) (by omega)).1.2 with ⟨e, e'⟩ | ⟨g', cap, cur, e, _⟩
    · exact ⟨none, 0, by rw [e, ← l9, e']⟩
    · exact ⟨_, _, by rw [← l9]; exact e⟩
  · rcases (h.m.own 11 (by omega) (by omega)).1.2 with ⟨e, e'⟩ | ⟨g', cap, cur, e, _⟩
    · exact ⟨none, 0, by rw [e, ← l11, e']⟩
    · exact ⟨_, _, by rw [← l11]; exact e⟩
end
set_option maxHeartbeats 4000000 in
set_option maxRecDepth 10000 in
/-- What lies untouched is as it came. -/
theorem holds_any (w : World) (σ : Nat → Nat × Nat) (K : Nat) (U V : Nat → Value) (X : Nat → List Value) (G H : List (List Int)) (O R : List (Nat × Nat × Int)) (L D E : List (List Mg)) (h : Bk w σ K U V X G O H R L D E) (hd : ∀ l ∈ D, l.length ≤ 1000 ∧ ∀ m ∈ l, m.bs.length ≤ 1000) (hH : H.length < 1000000000) (hD : D.length < 1000000000) :
    Calls Try.prog 37 #[.pointer (some ⟨K, 8, none⟩)] w fun e w' => e = .returned (.bool true) ∧ Kp w w' := by
  obtain ⟨⟨a9, c9, e9⟩, a11, c11, e11⟩ := h.shp
  have HB : Hid (Bk w σ K U V X G O H R L D E) := h
  have HD : Hid (∀ l ∈ D, l.length ≤ 1000 ∧ ∀ m ∈ l, m.bs.length ≤ 1000) := hd
  have d9 : Hid (w.cell? ⟨K, 17, none⟩ = some (.slice a9 H.length c9)) := by have := (h.m.cell (i := 9) (by omega)).1; rw [e9] at this; exact this
  have d11 : Hid (w.cell? ⟨K, 19, none⟩ = some (.slice a11 D.length c11)) := by have := (h.m.cell (i := 11) (by omega)).1; rw [e11] at this; exact this
  have d10 : Hid (w.cell? ⟨K, 18, none⟩ = some (V 10)) := (h.m.cell (i := 10) (by omega)).1
  have d12 : Hid (w.cell? ⟨K, 20, none⟩ = some (V 12)) := (h.m.cell (i := 12) (by omega)).1
  clear h hd
  go_enter Try.func37, Try.ntmps37
  go_wp2_with fail
  go_loopw [3] (fun s3 wr => ∃ i : Nat, s3 = .int .i64 (i : Nat) ∧ i ≤ H.length ∧ Hid (Kp w wr)) (fun s3 _ => H.length - nI s3)
  case atStart => exact ⟨0, rfl, by omega, Kp.refl _⟩
  case round =>
    obtain ⟨i, rfl, hi, HK⟩ := hrel
    have x9 := HK.out.cell d9.out
    by_cases hlt : i < H.length
    · have hz : (i : Int) < (H.length : Nat) := by omega
      obtain ⟨g, c, p, d, xa, xn, xc, q1, q2, q3, q4, q5⟩ := HB.out.hat hlt
      have kd : Kp w wr.drew := HK.out.trans (Kp.drew wr)
      obtain ⟨rfl, rfl⟩ : a9 = some ⟨g, 0, none⟩ ∧ c9 = c := by rw [e9] at q1; simpa using q1
      have x10 := d10.out
      rw [q2] at x10
      have hS := And.intro (kd.cell d9.out) (And.intro (kd.cell q3) (And.intro (conv_own _ _ _ (Chg.owns kd q4 (fun _ _ h => h))) (And.intro (kd.cell x10) (kd.cell q5))))
      have HK1 : Hid (Kp w wr.drew) := kd
      clear q3 q4 q5 x10 kd q1 q2
      generalize strOf H[i] = st at hS
      go_upto_region 4 with fail
      refine reg37_4 wr K g p i H.length c9 d xn xc xa _ hlt hS _ (fun _ _ _ q _ h => by cases q <;> exact h) ?_
      clear hS
      go_wp2_with fail
      exact ⟨⟨i + 1, by go_num, by omega, HK1.out⟩, by simp [nI]; omega⟩
    · have hz : ¬ (i : Int) < (H.length : Nat) := by omega
      have y11 := HK.out.cell d11.out
      go_wp2_with fail
      rename World => w1
      go_loopw [4] (fun s4 wr => ∃ i : Nat, s4 = .int .i64 (i : Nat) ∧ i ≤ D.length ∧ Hid (Kp w wr)) (fun s4 _ => D.length - nI s4)
      case atStart => exact ⟨0, rfl, by omega, HK⟩
      case round =>
        obtain ⟨k, rfl, hk, HK2⟩ := hrel
        have x11 := HK2.out.cell d11.out
        by_cases hlt2 : k < D.length
        · have hz2 : (k : Int) < (D.length : Nat) := by omega
          obtain ⟨g, c, p, d, xa, xn, xc, ya, yn, yc, l1, l2, q1, q2, q3, q4, q5, q6, q7⟩ := HB.out.dat HD.out hlt2
          rename World => w2
          have kd : Kp w w2.drew := HK2.out.trans (Kp.drew w2)
          obtain ⟨rfl, rfl⟩ : a11 = some ⟨g, 0, none⟩ ∧ c11 = c := by rw [e11] at q1; simpa using q1
          have x12 := d12.out
          rw [q2] at x12
          have hS := And.intro (kd.cell d11.out) (And.intro (kd.cell q3) (And.intro (kd.cell x12) (kd.cell q4)))
          have hc := sameM _ _ _ l1 l2 (q5.kp kd) (q6.kp kd) q7
          have HK1 : Hid (Kp w w2.drew) := kd
          clear q3 q4 q5 q6 q7 x12 kd q1 q2
          go_upto_region 9 with fail
          refine reg37_9 w2 K g p k D.length c11 d xn xc yn yc xa ya hlt2 hS hc _ (fun _ _ _ q _ h => by cases q <;> exact h) ?_
          intro w3 k3
          have HK3 : Hid (Kp w w3) := HK1.out.trans k3
          clear hS hc k3
          go_wp2_with fail
          exact ⟨⟨k + 1, by go_num, by omega, HK3⟩, by simp [nI]; omega⟩
        · have hz2 : ¬ (k : Int) < (D.length : Nat) := by omega
          go_wp2_with fail
          go_ret
          exact ⟨rfl, HK2.out⟩
end Go.Proofs.Ytnblhaeojlpmmaa
