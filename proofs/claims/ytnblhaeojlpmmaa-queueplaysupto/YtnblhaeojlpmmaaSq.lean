import Derived.Test.YtnblhaeojlpmmaaSp
namespace Go.Proofs.Ytnblhaeojlpmmaa
open Go.ChangeShapes Go.WideShapes Go.ChangeAt Go.RowKit
set_option linter.unusedVariables false
def ops18_7 : Array Oper := #[{ dst := some 31, op := Op.move (Operand.tmp 0), type := 88, pos := "law.go:186", after := #[], guard := none },
  { dst := some 32, op := Op.nilCheck (Operand.tmp 31), type := 0, pos := "law.go:186", after := #[{ on := 0, ground := Ground.data }], guard := none },
  { dst := some 33, op := Op.fieldAddr 58 (Operand.tmp 32) 0, type := 0, pos := "law.go:186", after := #[{ on := 1, ground := Ground.data }], guard := none },
  { dst := some 34, op := Op.load 53 (Operand.tmp 33), type := 53, pos := "law.go:186", after := #[{ on := 2, ground := Ground.data }], guard := none },
  { dst := some 35, op := Op.move (Operand.tmp 3), type := 3, pos := "law.go:186", after := #[], guard := none },
  { dst := some 36, op := Op.indexAddr 53 (Operand.tmp 34) (Operand.tmp 35), type := 0, pos := "law.go:186", after := #[{ on := 3, ground := Ground.data }, { on := 4, ground := Ground.data }], guard := none },
  { dst := some 37, op := Op.load 37 (Operand.tmp 36), type := 37, pos := "law.go:186", after := #[{ on := 5, ground := Ground.data }], guard := none },
  { dst := some 38, op := Op.move (Operand.tmp 4), type := 3, pos := "law.go:186", after := #[], guard := none },
  { dst := some 39, op := Op.indexAddr 37 (Operand.tmp 37) (Operand.tmp 38), type := 0, pos := "law.go:186", after := #[{ on := 6, ground := Ground.data }, { on := 7, ground := Ground.data }], guard := none },
  { dst := some 40, op := Op.load 5 (Operand.tmp 39), type := 5, pos := "law.go:186", after := #[{ on := 8, ground := Ground.data }], guard := none },
  { dst := some 41, op := Op.move (Operand.tmp 0), type := 88, pos := "law.go:186", after := #[], guard := none },
  { dst := some 42, op := Op.nilCheck (Operand.tmp 41), type := 0, pos := "law.go:186", after := #[{ on := 10, ground := Ground.data }], guard := none },
  { dst := some 43, op := Op.fieldAddr 58 (Operand.tmp 42) 1, type := 0, pos := "law.go:186", after := #[{ on := 11, ground := Ground.data }], guard := none },
  { dst := some 44, op := Op.load 37 (Operand.tmp 43), type := 37, pos := "law.go:186", after := #[{ on := 12, ground := Ground.data }], guard := none },
  { dst := some 45, op := Op.move (Operand.tmp 3), type := 3, pos := "law.go:186", after := #[], guard := none },
  { dst := some 46, op := Op.indexAddr 37 (Operand.tmp 44) (Operand.tmp 45), type := 0, pos := "law.go:186", after := #[{ on := 13, ground := Ground.data }, { on := 14, ground := Ground.data }], guard := none },
  { dst := some 47, op := Op.load 5 (Operand.tmp 46), type := 5, pos := "law.go:186", after := #[{ on := 15, ground := Ground.data }], guard := none },
  { dst := some 48, op := Op.binOp BinOp.neq 5 (Operand.tmp 40) (Operand.tmp 47) 5, type := 4, pos := "law.go:186", after := #[{ on := 9, ground := Ground.data }, { on := 16, ground := Ground.data }], guard := none }]
set_option maxHeartbeats 8000000 in
set_option maxRecDepth 100000 in
theorem reg18_7 (W : World) (K g p i n c d x r xc k : Nat) (m : Int) (hi : i < n) (hk : k < r) (hS : (fun w' => w'.cell? ⟨K, 8, none⟩ = some (.slice (some ⟨g, 0, none⟩) n c) ∧ w'.cell? ⟨g, i, none⟩ = some (.slice (some ⟨x, 0, none⟩) r xc) ∧ w'.cell? ⟨x, k, none⟩ = some (.int .u8 m) ∧ w'.cell? ⟨K, 9, none⟩ = some (.slice (some ⟨p, 0, none⟩) n d) ∧ w'.cell? ⟨p, i, none⟩ = some (.int .u8 m)) W.drew)
    (Q : Exit → Act → World → Prop) (hPan : ∀ c (a : Act) w (d : Option Tmp) v, Q (.panic c) (a.put d v) w → Q (.panic c) a w) {u1 u2 u5 u6 u7 u8 u9 u10 u11 u12 u13 u14 u15 u16 u17 u18 u19 u20 u21 u22 u23 u24 u25 u26 u27 u28 u29 u30 u31 u32 u33 u34 u35 u36 u37 u38 u39 u40 u41 u42 u43 u44 u45 u46 u47 u48 u49 u50 u51 u52 u53 u54 u55 u56 u57 u58 u59 u60 u61 u62 u63 u64 u65 u66 u67 u68 u69 u70 u71 u72 u73 u74 u75 u76 u77 u78 u79 u80 u81 u82 u83 u84 u85 u86 u87 u88 u89 u90 u91 u92 u93 u94 u95 u96 u97 u98 u99 A0 A1 A2 A3 A4 A5 A6 A7 A8 A9 B0 B1 B2 B3 B4 B5 B6 B7 B8 B9 C0 C1 C2 C3 C4 C5 C6 C7 C8 C9 D0 D1 D2 D3 D4 D5 D6 : Value}
    (hQ : Q .normal ⟨#[.pointer (some ⟨K, 8, none⟩), u1,u2, .int .i64 (i : Nat), .int .i64 (k : Nat), u5,u6,u7,u8,u9,u10,u11,u12,u13,u14,u15,u16,u17,u18,u19,u20,u21,u22,u23,u24,u25,u26,u27,u28,u29,u30, .pointer (some ⟨K, 8, none⟩), .pointer (some ⟨K, 8, none⟩), .pointer (some ⟨K, 8, none⟩), .slice (some ⟨g, 0, none⟩) n c, .int .i64 (i : Nat), .pointer (some ⟨g, i, none⟩), .slice (some ⟨x, 0, none⟩) r xc, .int .i64 (k : Nat), .pointer (some ⟨x, k, none⟩), .int .u8 m, .pointer (some ⟨K, 8, none⟩), .pointer (some ⟨K, 8, none⟩), .pointer (some ⟨K, 9, none⟩), .slice (some ⟨p, 0, none⟩) n d, .int .i64 (i : Nat), .pointer (some ⟨p, i, none⟩), .int .u8 m, .bool false, u49,u50,u51,u52,u53,u54,u55,u56,u57,u58,u59,u60,u61,u62,u63,u64,u65,u66,u67,u68,u69,u70,u71,u72,u73,u74,u75,u76,u77,u78,u79,u80,u81,u82,u83,u84,u85,u86,u87,u88,u89,u90,u91,u92,u93,u94,u95,u96,u97,u98,u99,A0,A1,A2,A3,A4,A5,A6,A7,A8,A9,B0,B1,B2,B3,B4,B5,B6,B7,B8,B9,C0,C1,C2,C3,C4,C5,C6,C7,C8,C9,D0,D1,D2,D3,D4,D5,D6], []⟩ W.drew) :
    Code.wp Try.prog (Code.region 7 ops18_7 true) Q ⟨#[.pointer (some ⟨K, 8, none⟩), u1,u2, .int .i64 (i : Nat), .int .i64 (k : Nat), u5,u6,u7,u8,u9,u10,u11,u12,u13,u14,u15,u16,u17,u18,u19,u20,u21,u22,u23,u24,u25,u26,u27,u28,u29,u30,u31,u32,u33,u34,u35,u36,u37,u38,u39,u40,u41,u42,u43,u44,u45,u46,u47,u48,u49,u50,u51,u52,u53,u54,u55,u56,u57,u58,u59,u60,u61,u62,u63,u64,u65,u66,u67,u68,u69,u70,u71,u72,u73,u74,u75,u76,u77,u78,u79,u80,u81,u82,u83,u84,u85,u86,u87,u88,u89,u90,u91,u92,u93,u94,u95,u96,u97,u98,u99,A0,A1,A2,A3,A4,A5,A6,A7,A8,A9,B0,B1,B2,B3,B4,B5,B6,B7,B8,B9,C0,C1,C2,C3,C4,C5,C6,C7,C8,C9,D0,D1,D2,D3,D4,D5,D6], []⟩ W := by
  have hiz : (i : Int) < (n : Int) := by omega
  have hkz : (k : Int) < (r : Int) := by omega
  refine wp_region_held_drew (S := fun w' => w'.cell? ⟨K, 8, none⟩ = some (.slice (some ⟨g, 0, none⟩) n c) ∧ w'.cell? ⟨g, i, none⟩ = some (.slice (some ⟨x, 0, none⟩) r xc) ∧ w'.cell? ⟨x, k, none⟩ = some (.int .u8 m) ∧ w'.cell? ⟨K, 9, none⟩ = some (.slice (some ⟨p, 0, none⟩) n d) ∧ w'.cell? ⟨p, i, none⟩ = some (.int .u8 m)) hmx hS (fun HSX => ?_)
  clear hS
  obtain ⟨W0, hW0⟩ : ∃ W0,W0 = W.drew := ⟨_, rfl⟩
  rw [← hW0] at HSX hQ ⊢
  clear hW0
  refine wpAnyH_take (i := 0) (oi := { dst := some 31, op := Op.move (Operand.tmp 0), type := 88, pos := "law.go:186", after := #[], guard := none }) (v := .pointer (some ⟨K, 8, none⟩)) rfl (by kernel_rfl) (by kernel_rfl) (by kernel_rfl) (fun _ _ _ h => hPan _ _ _ _ _ h) (Or.inl ⟨by rfl, ?_⟩) HSX ?_
  · intro wx d0
    obtain ⟨s1, s2, s3, s4, s5⟩ := d0
    go_simp
  simp only [Act.put, List.setIfInBounds_toArray, List.set_cons_zero, List.set_cons_succ]
  refine wpAnyH_take (i := 1) (oi := { dst := some 32, op := Op.nilCheck (Operand.tmp 31), type := 0, pos := "law.go:186", after := #[{ on := 0, ground := Ground.data }], guard := none }) (v := .pointer (some ⟨K, 8, none⟩)) rfl (by kernel_rfl) (by kernel_rfl) (by kernel_rfl) (fun _ _ _ h => hPan _ _ _ _ _ h) (Or.inl ⟨by rfl, ?_⟩) HSX ?_
  · intro wx d0
    obtain ⟨s1, s2, s3, s4, s5⟩ := d0
    go_simp
  simp only [Act.put, List.setIfInBounds_toArray, List.set_cons_zero, List.set_cons_succ]
  refine wpAnyH_take (i := 2) (oi := { dst := some 33, op := Op.fieldAddr 58 (Operand.tmp 32) 0, type := 0, pos := "law.go:186", after := #[{ on := 1, ground := Ground.data }], guard := none }) (v := .pointer (some ⟨K, 8, none⟩)) rfl (by kernel_rfl) (by kernel_rfl) (by kernel_rfl) (fun _ _ _ h => hPan _ _ _ _ _ h) (Or.inl ⟨by rfl, ?_⟩) HSX ?_
  · intro wx d0
    obtain ⟨s1, s2, s3, s4, s5⟩ := d0
    go_simp
  simp only [Act.put, List.setIfInBounds_toArray, List.set_cons_zero, List.set_cons_succ]
  refine wpAnyH_take (i := 3) (oi := { dst := some 34, op := Op.load 53 (Operand.tmp 33), type := 53, pos := "law.go:186", after := #[{ on := 2, ground := Ground.data }], guard := none }) (v := .slice (some ⟨g, 0, none⟩) n c) rfl (by kernel_rfl) (by kernel_rfl) (by kernel_rfl) (fun _ _ _ h => hPan _ _ _ _ _ h) (Or.inl ⟨by rfl, ?_⟩) HSX ?_
  · intro wx d0
    obtain ⟨s1, s2, s3, s4, s5⟩ := d0
    go_simp
  simp only [Act.put, List.setIfInBounds_toArray, List.set_cons_zero, List.set_cons_succ]
  refine wpAnyH_take (i := 4) (oi := { dst := some 35, op := Op.move (Operand.tmp 3), type := 3, pos := "law.go:186", after := #[], guard := none }) (v := .int .i64 (i : Nat)) rfl (by kernel_rfl) (by kernel_rfl) (by kernel_rfl) (fun _ _ _ h => hPan _ _ _ _ _ h) (Or.inl ⟨by rfl, ?_⟩) HSX ?_
  · intro wx d0
    obtain ⟨s1, s2, s3, s4, s5⟩ := d0
    go_simp
  simp only [Act.put, List.setIfInBounds_toArray, List.set_cons_zero, List.set_cons_succ]
  refine wpAnyH_take (i := 5) (oi := { dst := some 36, op := Op.indexAddr 53 (Operand.tmp 34) (Operand.tmp 35), type := 0, pos := "law.go:186", after := #[{ on := 3, ground := Ground.data }, { on := 4, ground := Ground.data }], guard := none }) (v := .pointer (some ⟨g, i, none⟩)) rfl (by kernel_rfl) (by kernel_rfl) (by kernel_rfl) (fun _ _ _ h => hPan _ _ _ _ _ h) (Or.inl ⟨by rfl, ?_⟩) HSX ?_
  · intro wx d0
    obtain ⟨s1, s2, s3, s4, s5⟩ := d0
    go_simp
  simp only [Act.put, List.setIfInBounds_toArray, List.set_cons_zero, List.set_cons_succ]
  refine wpAnyH_take (i := 6) (oi := { dst := some 37, op := Op.load 37 (Operand.tmp 36), type := 37, pos := "law.go:186", after := #[{ on := 5, ground := Ground.data }], guard := none }) (v := .slice (some ⟨x, 0, none⟩) r xc) rfl (by kernel_rfl) (by kernel_rfl) (by kernel_rfl) (fun _ _ _ h => hPan _ _ _ _ _ h) (Or.inl ⟨by rfl, ?_⟩) HSX ?_
  · intro wx d0
    obtain ⟨s1, s2, s3, s4, s5⟩ := d0
    go_simp
  simp only [Act.put, List.setIfInBounds_toArray, List.set_cons_zero, List.set_cons_succ]
  refine wpAnyH_take (i := 7) (oi := { dst := some 38, op := Op.move (Operand.tmp 4), type := 3, pos := "law.go:186", after := #[], guard := none }) (v := .int .i64 (k : Nat)) rfl (by kernel_rfl) (by kernel_rfl) (by kernel_rfl) (fun _ _ _ h => hPan _ _ _ _ _ h) (Or.inl ⟨by rfl, ?_⟩) HSX ?_
  · intro wx d0
    obtain ⟨s1, s2, s3, s4, s5⟩ := d0
    go_simp
  simp only [Act.put, List.setIfInBounds_toArray, List.set_cons_zero, List.set_cons_succ]
  refine wpAnyH_take (i := 8) (oi := { dst := some 39, op := Op.indexAddr 37 (Operand.tmp 37) (Operand.tmp 38), type := 0, pos := "law.go:186", after := #[{ on := 6, ground := Ground.data }, { on := 7, ground := Ground.data }], guard := none }) (v := .pointer (some ⟨x, k, none⟩)) rfl (by kernel_rfl) (by kernel_rfl) (by kernel_rfl) (fun _ _ _ h => hPan _ _ _ _ _ h) (Or.inl ⟨by rfl, ?_⟩) HSX ?_
  · intro wx d0
    obtain ⟨s1, s2, s3, s4, s5⟩ := d0
    go_simp
  simp only [Act.put, List.setIfInBounds_toArray, List.set_cons_zero, List.set_cons_succ]
  refine wpAnyH_take (i := 9) (oi := { dst := some 40, op := Op.load 5 (Operand.tmp 39), type := 5, pos := "law.go:186", after := #[{ on := 8, ground := Ground.data }], guard := none }) (v := .int .u8 m) rfl (by kernel_rfl) (by kernel_rfl) (by kernel_rfl) (fun _ _ _ h => hPan _ _ _ _ _ h) (Or.inl ⟨by rfl, ?_⟩) HSX ?_
  · intro wx d0
    obtain ⟨s1, s2, s3, s4, s5⟩ := d0
    go_simp
  simp only [Act.put, List.setIfInBounds_toArray, List.set_cons_zero, List.set_cons_succ]
  refine wpAnyH_take (i := 10) (oi := { dst := some 41, op := Op.move (Operand.tmp 0), type := 88, pos := "law.go:186", after := #[], guard := none }) (v := .pointer (some ⟨K, 8, none⟩)) rfl (by kernel_rfl) (by kernel_rfl) (by kernel_rfl) (fun _ _ _ h => hPan _ _ _ _ _ h) (Or.inl ⟨by rfl, ?_⟩) HSX ?_
  · intro wx d0
    obtain ⟨s1, s2, s3, s4, s5⟩ := d0
    go_simp
  simp only [Act.put, List.setIfInBounds_toArray, List.set_cons_zero, List.set_cons_succ]
  refine wpAnyH_take (i := 11) (oi := { dst := some 42, op := Op.nilCheck (Operand.tmp 41), type := 0, pos := "law.go:186", after := #[{ on := 10, ground := Ground.data }], guard := none }) (v := .pointer (some ⟨K, 8, none⟩)) rfl (by kernel_rfl) (by kernel_rfl) (by kernel_rfl) (fun _ _ _ h => hPan _ _ _ _ _ h) (Or.inl ⟨by rfl, ?_⟩) HSX ?_
  · intro wx d0
    obtain ⟨s1, s2, s3, s4, s5⟩ := d0
    go_simp
  simp only [Act.put, List.setIfInBounds_toArray, List.set_cons_zero, List.set_cons_succ]
  refine wpAnyH_take (i := 12) (oi := { dst := some 43, op := Op.fieldAddr 58 (Operand.tmp 42) 1, type := 0, pos := "law.go:186", after := #[{ on := 11, ground := Ground.data }], guard := none }) (v := .pointer (some ⟨K, 9, none⟩)) rfl (by kernel_rfl) (by kernel_rfl) (by kernel_rfl) (fun _ _ _ h => hPan _ _ _ _ _ h) (Or.inl ⟨by rfl, ?_⟩) HSX ?_
  · intro wx d0
    obtain ⟨s1, s2, s3, s4, s5⟩ := d0
    go_simp
  simp only [Act.put, List.setIfInBounds_toArray, List.set_cons_zero, List.set_cons_succ]
  refine wpAnyH_take (i := 13) (oi := { dst := some 44, op := Op.load 37 (Operand.tmp 43), type := 37, pos := "law.go:186", after := #[{ on := 12, ground := Ground.data }], guard := none }) (v := .slice (some ⟨p, 0, none⟩) n d) rfl (by kernel_rfl) (by kernel_rfl) (by kernel_rfl) (fun _ _ _ h => hPan _ _ _ _ _ h) (Or.inl ⟨by rfl, ?_⟩) HSX ?_
  · intro wx d0
    obtain ⟨s1, s2, s3, s4, s5⟩ := d0
    go_simp
  simp only [Act.put, List.setIfInBounds_toArray, List.set_cons_zero, List.set_cons_succ]
  refine wpAnyH_take (i := 14) (oi := { dst := some 45, op := Op.move (Operand.tmp 3), type := 3, pos := "law.go:186", after := #[], guard := none }) (v := .int .i64 (i : Nat)) rfl (by kernel_rfl) (by kernel_rfl) (by kernel_rfl) (fun _ _ _ h => hPan _ _ _ _ _ h) (Or.inl ⟨by rfl, ?_⟩) HSX ?_
  · intro wx d0
    obtain ⟨s1, s2, s3, s4, s5⟩ := d0
    go_simp
  simp only [Act.put, List.setIfInBounds_toArray, List.set_cons_zero, List.set_cons_succ]
  refine wpAnyH_take (i := 15) (oi := { dst := some 46, op := Op.indexAddr 37 (Operand.tmp 44) (Operand.tmp 45), type := 0, pos := "law.go:186", after := #[{ on := 13, ground := Ground.data }, { on := 14, ground := Ground.data }], guard := none }) (v := .pointer (some ⟨p, i, none⟩)) rfl (by kernel_rfl) (by kernel_rfl) (by kernel_rfl) (fun _ _ _ h => hPan _ _ _ _ _ h) (Or.inl ⟨by rfl, ?_⟩) HSX ?_
  · intro wx d0
    obtain ⟨s1, s2, s3, s4, s5⟩ := d0
    go_simp
  simp only [Act.put, List.setIfInBounds_toArray, List.set_cons_zero, List.set_cons_succ]
  refine wpAnyH_take (i := 16) (oi := { dst := some 47, op := Op.load 5 (Operand.tmp 46), type := 5, pos := "law.go:186", after := #[{ on := 15, ground := Ground.data }], guard := none }) (v := .int .u8 m) rfl (by kernel_rfl) (by kernel_rfl) (by kernel_rfl) (fun _ _ _ h => hPan _ _ _ _ _ h) (Or.inl ⟨by rfl, ?_⟩) HSX ?_
  · intro wx d0
    obtain ⟨s1, s2, s3, s4, s5⟩ := d0
    go_simp
  simp only [Act.put, List.setIfInBounds_toArray, List.set_cons_zero, List.set_cons_succ]
  refine wpAnyH_take (i := 17) (oi := { dst := some 48, op := Op.binOp BinOp.neq 5 (Operand.tmp 40) (Operand.tmp 47) 5, type := 4, pos := "law.go:186", after := #[{ on := 9, ground := Ground.data }, { on := 16, ground := Ground.data }], guard := none }) (v := .bool false) rfl (by kernel_rfl) (by kernel_rfl) (by kernel_rfl) (fun _ _ _ h => hPan _ _ _ _ _ h) (Or.inl ⟨by rfl, ?_⟩) HSX ?_
  · intro wx d0
    obtain ⟨s1, s2, s3, s4, s5⟩ := d0
    go_simp
  simp only [Act.put, List.setIfInBounds_toArray, List.set_cons_zero, List.set_cons_succ]
  refine wpAnyH_done (by kernel_rfl) ?_ _
  exact hQ
def ops18_12 : Array Oper := #[{ dst := some 58, op := Op.move (Operand.tmp 0), type := 88, pos := "law.go:192", after := #[], guard := none },
  { dst := some 59, op := Op.nilCheck (Operand.tmp 58), type := 0, pos := "law.go:192", after := #[{ on := 0, ground := Ground.data }], guard := none },
  { dst := some 60, op := Op.fieldAddr 58 (Operand.tmp 59) 2, type := 0, pos := "law.go:192", after := #[{ on := 1, ground := Ground.data }], guard := none },
  { dst := some 61, op := Op.load 53 (Operand.tmp 60), type := 53, pos := "law.go:192", after := #[{ on := 2, ground := Ground.data }], guard := none },
  { dst := some 62, op := Op.move (Operand.tmp 5), type := 3, pos := "law.go:192", after := #[], guard := none },
  { dst := some 63, op := Op.indexAddr 53 (Operand.tmp 61) (Operand.tmp 62), type := 0, pos := "law.go:192", after := #[{ on := 3, ground := Ground.data }, { on := 4, ground := Ground.data }], guard := none },
  { dst := some 64, op := Op.load 37 (Operand.tmp 63), type := 37, pos := "law.go:192", after := #[{ on := 5, ground := Ground.data }], guard := none },
  { dst := some 65, op := Op.convert 37 9 (Operand.tmp 64), type := 9, pos := "law.go:192", after := #[{ on := 6, ground := Ground.data }], guard := none },
  { dst := some 66, op := Op.move (Operand.tmp 0), type := 88, pos := "law.go:192", after := #[], guard := none },
  { dst := some 67, op := Op.nilCheck (Operand.tmp 66), type := 0, pos := "law.go:192", after := #[{ on := 8, ground := Ground.data }], guard := none },
  { dst := some 68, op := Op.fieldAddr 58 (Operand.tmp 67) 3, type := 0, pos := "law.go:192", after := #[{ on := 9, ground := Ground.data }], guard := none },
  { dst := some 69, op := Op.load 54 (Operand.tmp 68), type := 54, pos := "law.go:192", after := #[{ on := 10, ground := Ground.data }], guard := none },
  { dst := some 70, op := Op.move (Operand.tmp 5), type := 3, pos := "law.go:192", after := #[], guard := none },
  { dst := some 71, op := Op.indexAddr 54 (Operand.tmp 69) (Operand.tmp 70), type := 0, pos := "law.go:192", after := #[{ on := 11, ground := Ground.data }, { on := 12, ground := Ground.data }], guard := none },
  { dst := some 72, op := Op.load 9 (Operand.tmp 71), type := 9, pos := "law.go:192", after := #[{ on := 13, ground := Ground.data }], guard := none },
  { dst := some 73, op := Op.binOp BinOp.neq 9 (Operand.tmp 65) (Operand.tmp 72) 9, type := 4, pos := "law.go:192", after := #[{ on := 7, ground := Ground.data }, { on := 14, ground := Ground.data }], guard := none }]
set_option maxHeartbeats 8000000 in
set_option maxRecDepth 100000 in
theorem reg18_12 (W : World) (K g p i n c d xn xc : Nat) (xa : Option Addr) (st : ByteArray) (hi : i < n) (hS : (fun w' => w'.cell? ⟨K, 10, none⟩ = some (.slice (some ⟨g, 0, none⟩) n c) ∧ w'.cell? ⟨g, i, none⟩ = some (.slice xa xn xc) ∧ (convert 37 9 (.slice xa xn xc)).run Try.prog w' = .ok (.string st) w' ∧ w'.cell? ⟨K, 11, none⟩ = some (.slice (some ⟨p, 0, none⟩) n d) ∧ w'.cell? ⟨p, i, none⟩ = some (.string st)) W.drew)
    (Q : Exit → Act → World → Prop) (hPan : ∀ c (a : Act) w (d : Option Tmp) v, Q (.panic c) (a.put d v) w → Q (.panic c) a w) {u1 u2 u3 u4 u6 u7 u8 u9 u10 u11 u12 u13 u14 u15 u16 u17 u18 u19 u20 u21 u22 u23 u24 u25 u26 u27 u28 u29 u30 u31 u32 u33 u34 u35 u36 u37 u38 u39 u40 u41 u42 u43 u44 u45 u46 u47 u48 u49 u50 u51 u52 u53 u54 u55 u56 u57 u58 u59 u60 u61 u62 u63 u64 u65 u66 u67 u68 u69 u70 u71 u72 u73 u74 u75 u76 u77 u78 u79 u80 u81 u82 u83 u84 u85 u86 u87 u88 u89 u90 u91 u92 u93 u94 u95 u96 u97 u98 u99 A0 A1 A2 A3 A4 A5 A6 A7 A8 A9 B0 B1 B2 B3 B4 B5 B6 B7 B8 B9 C0 C1 C2 C3 C4 C5 C6 C7 C8 C9 D0 D1 D2 D3 D4 D5 D6 : Value}
    (hQ : Q .normal ⟨#[.pointer (some ⟨K, 8, none⟩), u1,u2,u3,u4, .int .i64 (i : Nat), u6,u7,u8,u9,u10,u11,u12,u13,u14,u15,u16,u17,u18,u19,u20,u21,u22,u23,u24,u25,u26,u27,u28,u29,u30,u31,u32,u33,u34,u35,u36,u37,u38,u39,u40,u41,u42,u43,u44,u45,u46,u47,u48,u49,u50,u51,u52,u53,u54,u55,u56,u57, .pointer (some ⟨K, 8, none⟩), .pointer (some ⟨K, 8, none⟩), .pointer (some ⟨K, 10, none⟩), .slice (some ⟨g, 0, none⟩) n c, .int .i64 (i : Nat), .pointer (some ⟨g, i, none⟩), .slice xa xn xc, .string st, .pointer (some ⟨K, 8, none⟩), .pointer (some ⟨K, 8, none⟩), .pointer (some ⟨K, 11, none⟩), .slice (some ⟨p, 0, none⟩) n d, .int .i64 (i : Nat), .pointer (some ⟨p, i, none⟩), .string st, .bool false, u74,u75,u76,u77,u78,u79,u80,u81,u82,u83,u84,u85,u86,u87,u88,u89,u90,u91,u92,u93,u94,u95,u96,u97,u98,u99,A0,A1,A2,A3,A4,A5,A6,A7,A8,A9,B0,B1,B2,B3,B4,B5,B6,B7,B8,B9,C0,C1,C2,C3,C4,C5,C6,C7,C8,C9,D0,D1,D2,D3,D4,D5,D6], []⟩ W.drew) :
    Code.wp Try.prog (Code.region 12 ops18_12 true) Q ⟨#[.pointer (some ⟨K, 8, none⟩), u1,u2,u3,u4, .int .i64 (i : Nat), u6,u7,u8,u9,u10,u11,u12,u13,u14,u15,u16,u17,u18,u19,u20,u21,u22,u23,u24,u25,u26,u27,u28,u29,u30,u31,u32,u33,u34,u35,u36,u37,u38,u39,u40,u41,u42,u43,u44,u45,u46,u47,u48,u49,u50,u51,u52,u53,u54,u55,u56,u57,u58,u59,u60,u61,u62,u63,u64,u65,u66,u67,u68,u69,u70,u71,u72,u73,u74,u75,u76,u77,u78,u79,u80,u81,u82,u83,u84,u85,u86,u87,u88,u89,u90,u91,u92,u93,u94,u95,u96,u97,u98,u99,A0,A1,A2,A3,A4,A5,A6,A7,A8,A9,B0,B1,B2,B3,B4,B5,B6,B7,B8,B9,C0,C1,C2,C3,C4,C5,C6,C7,C8,C9,D0,D1,D2,D3,D4,D5,D6], []⟩ W := by
  have hiz : (i : Int) < (n : Int) := by omega
  refine wp_region_held_drew (S := fun w' => w'.cell? ⟨K, 10, none⟩ = some (.slice (some ⟨g, 0, none⟩) n c) ∧ w'.cell? ⟨g, i, none⟩ = some (.slice xa xn xc) ∧ (convert 37 9 (.slice xa xn xc)).run Try.prog w' = .ok (.string st) w' ∧ w'.cell? ⟨K, 11, none⟩ = some (.slice (some ⟨p, 0, none⟩) n d) ∧ w'.cell? ⟨p, i, none⟩ = some (.string st)) hmx hS (fun HSX => ?_)
  clear hS
  obtain ⟨W0, hW0⟩ : ∃ W0,W0 = W.drew := ⟨_, rfl⟩
  rw [← hW0] at HSX hQ ⊢
  clear hW0
  refine wpAnyH_take (i := 0) (oi := { dst := some 58, op := Op.move (Operand.tmp 0), type := 88, pos := "law.go:192", after := #[], guard := none }) (v := .pointer (some ⟨K, 8, none⟩)) rfl (by kernel_rfl) (by kernel_rfl) (by kernel_rfl) (fun _ _ _ h => hPan _ _ _ _ _ h) (Or.inl ⟨by rfl, ?_⟩) HSX ?_
  · intro wx d0
    obtain ⟨s1, s2, s3, s4, s5⟩ := d0
    go_simp
  simp only [Act.put, List.setIfInBounds_toArray, List.set_cons_zero, List.set_cons_succ]
  refine wpAnyH_take (i := 1) (oi := { dst := some 59, op := Op.nilCheck (Operand.tmp 58), type := 0, pos := "law.go:192", after := #[{ on := 0, ground := Ground.data }], guard := none }) (v := .pointer (some ⟨K, 8, none⟩)) rfl (by kernel_rfl) (by kernel_rfl) (by kernel_rfl) (fun _ _ _ h => hPan _ _ _ _ _ h) (Or.inl ⟨by rfl, ?_⟩) HSX ?_
  · intro wx d0
    obtain ⟨s1, s2, s3, s4, s5⟩ := d0
    go_simp
  simp only [Act.put, List.setIfInBounds_toArray, List.set_cons_zero, List.set_cons_succ]
  refine wpAnyH_take (i := 2) (oi := { dst := some 60, op := Op.fieldAddr 58 (Operand.tmp 59) 2, type := 0, pos := "law.go:192", after := #[{ on := 1, ground := Ground.data }], guard := none }) (v := .pointer (some ⟨K, 10, none⟩)) rfl (by kernel_rfl) (by kernel_rfl) (by kernel_rfl) (fun _ _ _ h => hPan _ _ _ _ _ h) (Or.inl ⟨by rfl, ?_⟩) HSX ?_
  · intro wx d0
    obtain ⟨s1, s2, s3, s4, s5⟩ := d0
    go_simp
  simp only [Act.put, List.setIfInBounds_toArray, List.set_cons_zero, List.set_cons_succ]
  refine wpAnyH_take (i := 3) (oi := { dst := some 61, op := Op.load 53 (Operand.tmp 60), type := 53, pos := "law.go:192", after := #[{ on := 2, ground := Ground.data }], guard := none }) (v := .slice (some ⟨g, 0, none⟩) n c) rfl (by kernel_rfl) (by kernel_rfl) (by kernel_rfl) (fun _ _ _ h => hPan _ _ _ _ _ h) (Or.inl ⟨by rfl, ?_⟩) HSX ?_
  · intro wx d0
    obtain ⟨s1, s2, s3, s4, s5⟩ := d0
    go_simp
  simp only [Act.put, List.setIfInBounds_toArray, List.set_cons_zero, List.set_cons_succ]
  refine wpAnyH_take (i := 4) (oi := { dst := some 62, op := Op.move (Operand.tmp 5), type := 3, pos := "law.go:192", after := #[], guard := none }) (v := .int .i64 (i : Nat)) rfl (by kernel_rfl) (by kernel_rfl) (by kernel_rfl) (fun _ _ _ h => hPan _ _ _ _ _ h) (Or.inl ⟨by rfl, ?_⟩) HSX ?_
  · intro wx d0
    obtain ⟨s1, s2, s3, s4, s5⟩ := d0
    go_simp
  simp only [Act.put, List.setIfInBounds_toArray, List.set_cons_zero, List.set_cons_succ]
  refine wpAnyH_take (i := 5) (oi := { dst := some 63, op := Op.indexAddr 53 (Operand.tmp 61) (Operand.tmp 62), type := 0, pos := "law.go:192", after := #[{ on := 3, ground := Ground.data }, { on := 4, ground := Ground.data }], guard := none }) (v := .pointer (some ⟨g, i, none⟩)) rfl (by kernel_rfl) (by kernel_rfl) (by kernel_rfl) (fun _ _ _ h => hPan _ _ _ _ _ h) (Or.inl ⟨by rfl, ?_⟩) HSX ?_
  · intro wx d0
    obtain ⟨s1, s2, s3, s4, s5⟩ := d0
    go_simp
  simp only [Act.put, List.setIfInBounds_toArray, List.set_cons_zero, List.set_cons_succ]
  refine wpAnyH_take (i := 6) (oi := { dst := some 64, op := Op.load 37 (Operand.tmp 63), type := 37, pos := "law.go:192", after := #[{ on := 5, ground := Ground.data }], guard := none }) (v := .slice xa xn xc) rfl (by kernel_rfl) (by kernel_rfl) (by kernel_rfl) (fun _ _ _ h => hPan _ _ _ _ _ h) (Or.inl ⟨by rfl, ?_⟩) HSX ?_
  · intro wx d0
    obtain ⟨s1, s2, s3, s4, s5⟩ := d0
    go_simp
  simp only [Act.put, List.setIfInBounds_toArray, List.set_cons_zero, List.set_cons_succ]
  refine wpAnyH_take (i := 7) (oi := { dst := some 65, op := Op.convert 37 9 (Operand.tmp 64), type := 9, pos := "law.go:192", after := #[{ on := 6, ground := Ground.data }], guard := none }) (v := .string st) rfl (by kernel_rfl) (by kernel_rfl) (by kernel_rfl) (fun _ _ _ h => hPan _ _ _ _ _ h) (Or.inl ⟨by rfl, ?_⟩) HSX ?_
  · intro wx d0
    obtain ⟨s1, s2, s3, s4, s5⟩ := d0
    go_simp
  simp only [Act.put, List.setIfInBounds_toArray, List.set_cons_zero, List.set_cons_succ]
  refine wpAnyH_take (i := 8) (oi := { dst := some 66, op := Op.move (Operand.tmp 0), type := 88, pos := "law.go:192", after := #[], guard := none }) (v := .pointer (some ⟨K, 8, none⟩)) rfl (by kernel_rfl) (by kernel_rfl) (by kernel_rfl) (fun _ _ _ h => hPan _ _ _ _ _ h) (Or.inl ⟨by rfl, ?_⟩) HSX ?_
  · intro wx d0
    obtain ⟨s1, s2, s3, s4, s5⟩ := d0
    go_simp
  simp only [Act.put, List.setIfInBounds_toArray, List.set_cons_zero, List.set_cons_succ]
  refine wpAnyH_take (i := 9) (oi := { dst := some 67, op := Op.nilCheck (Operand.tmp 66), type := 0, pos := "law.go:192", after := #[{ on := 8, ground := Ground.data }], guard := none }) (v := .pointer (some ⟨K, 8, none⟩)) rfl (by kernel_rfl) (by kernel_rfl) (by kernel_rfl) (fun _ _ _ h => hPan _ _ _ _ _ h) (Or.inl ⟨by rfl, ?_⟩) HSX ?_
  · intro wx d0
    obtain ⟨s1, s2, s3, s4, s5⟩ := d0
    go_simp
  simp only [Act.put, List.setIfInBounds_toArray, List.set_cons_zero, List.set_cons_succ]
  refine wpAnyH_take (i := 10) (oi := { dst := some 68, op := Op.fieldAddr 58 (Operand.tmp 67) 3, type := 0, pos := "law.go:192", after := #[{ on := 9, ground := Ground.data }], guard := none }) (v := .pointer (some ⟨K, 11, none⟩)) rfl (by kernel_rfl) (by kernel_rfl) (by kernel_rfl) (fun _ _ _ h => hPan _ _ _ _ _ h) (Or.inl ⟨by rfl, ?_⟩) HSX ?_
  · intro wx d0
    obtain ⟨s1, s2, s3, s4, s5⟩ := d0
    go_simp
  simp only [Act.put, List.setIfInBounds_toArray, List.set_cons_zero, List.set_cons_succ]
  refine wpAnyH_take (i := 11) (oi := { dst := some 69, op := Op.load 54 (Operand.tmp 68), type := 54, pos := "law.go:192", after := #[{ on := 10, ground := Ground.data }], guard := none }) (v := .slice (some ⟨p, 0, none⟩) n d) rfl (by kernel_rfl) (by kernel_rfl) (by kernel_rfl) (fun _ _ _ h => hPan _ _ _ _ _ h) (Or.inl ⟨by rfl, ?_⟩) HSX ?_
  · intro wx d0
    obtain ⟨s1, s2, s3, s4, s5⟩ := d0
    go_simp
  simp only [Act.put, List.setIfInBounds_toArray, List.set_cons_zero, List.set_cons_succ]
  refine wpAnyH_take (i := 12) (oi := { dst := some 70, op := Op.move (Operand.tmp 5), type := 3, pos := "law.go:192", after := #[], guard := none }) (v := .int .i64 (i : Nat)) rfl (by kernel_rfl) (by kernel_rfl) (by kernel_rfl) (fun _ _ _ h => hPan _ _ _ _ _ h) (Or.inl ⟨by rfl, ?_⟩) HSX ?_
  · intro wx d0
    obtain ⟨s1, s2, s3, s4, s5⟩ := d0
    go_simp
  simp only [Act.put, List.setIfInBounds_toArray, List.set_cons_zero, List.set_cons_succ]
  refine wpAnyH_take (i := 13) (oi := { dst := some 71, op := Op.indexAddr 54 (Operand.tmp 69) (Operand.tmp 70), type := 0, pos := "law.go:192", after := #[{ on := 11, ground := Ground.data }, { on := 12, ground := Ground.data }], guard := none }) (v := .pointer (some ⟨p, i, none⟩)) rfl (by kernel_rfl) (by kernel_rfl) (by kernel_rfl) (fun _ _ _ h => hPan _ _ _ _ _ h) (Or.inl ⟨by rfl, ?_⟩) HSX ?_
  · intro wx d0
    obtain ⟨s1, s2, s3, s4, s5⟩ := d0
    go_simp
  simp only [Act.put, List.setIfInBounds_toArray, List.set_cons_zero, List.set_cons_succ]
  refine wpAnyH_take (i := 14) (oi := { dst := some 72, op := Op.load 9 (Operand.tmp 71), type := 9, pos := "law.go:192", after := #[{ on := 13, ground := Ground.data }], guard := none }) (v := .string st) rfl (by kernel_rfl) (by kernel_rfl) (by kernel_rfl) (fun _ _ _ h => hPan _ _ _ _ _ h) (Or.inl ⟨by rfl, ?_⟩) HSX ?_
  · intro wx d0
    obtain ⟨s1, s2, s3, s4, s5⟩ := d0
    go_simp
  simp only [Act.put, List.setIfInBounds_toArray, List.set_cons_zero, List.set_cons_succ]
  refine wpAnyH_take (i := 15) (oi := { dst := some 73, op := Op.binOp BinOp.neq 9 (Operand.tmp 65) (Operand.tmp 72) 9, type := 4, pos := "law.go:192", after := #[{ on := 7, ground := Ground.data }, { on := 14, ground := Ground.data }], guard := none }) (v := .bool false) rfl (by kernel_rfl) (by kernel_rfl) (by kernel_rfl) (fun _ _ _ h => hPan _ _ _ _ _ h) (Or.inl ⟨by rfl, ?_⟩) HSX ?_
  · intro wx d0
    obtain ⟨s1, s2, s3, s4, s5⟩ := d0
    go_simp
  simp only [Act.put, List.setIfInBounds_toArray, List.set_cons_zero, List.set_cons_succ]
  refine wpAnyH_done (by kernel_rfl) ?_ _
  exact hQ
def ops18_26 : Array Oper := #[{ dst := some 103, op := Op.move (Operand.tmp 0), type := 88, pos := "law.go:206", after := #[], guard := none },
  { dst := some 104, op := Op.nilCheck (Operand.tmp 103), type := 0, pos := "law.go:206", after := #[{ on := 0, ground := Ground.data }], guard := none },
  { dst := some 105, op := Op.fieldAddr 58 (Operand.tmp 104) 4, type := 0, pos := "law.go:206", after := #[{ on := 1, ground := Ground.data }], guard := none },
  { dst := some 106, op := Op.load 55 (Operand.tmp 105), type := 55, pos := "law.go:206", after := #[{ on := 2, ground := Ground.data }], guard := none },
  { dst := some 107, op := Op.move (Operand.tmp 8), type := 3, pos := "law.go:206", after := #[], guard := none },
  { dst := some 108, op := Op.indexAddr 55 (Operand.tmp 106) (Operand.tmp 107), type := 0, pos := "law.go:206", after := #[{ on := 3, ground := Ground.data }, { on := 4, ground := Ground.data }], guard := none },
  { dst := some 109, op := Op.load 62 (Operand.tmp 108), type := 62, pos := "law.go:206", after := #[{ on := 5, ground := Ground.data }], guard := none },
  { dst := some 110, op := Op.move (Operand.tmp 9), type := 3, pos := "law.go:206", after := #[], guard := none },
  { dst := some 111, op := Op.indexAddr 62 (Operand.tmp 109) (Operand.tmp 110), type := 0, pos := "law.go:206", after := #[{ on := 6, ground := Ground.data }, { on := 7, ground := Ground.data }], guard := none },
  { dst := some 112, op := Op.fieldAddr 75 (Operand.tmp 111) 1, type := 0, pos := "law.go:206", after := #[{ on := 8, ground := Ground.data }], guard := none },
  { dst := some 113, op := Op.load 38 (Operand.tmp 112), type := 38, pos := "law.go:206", after := #[{ on := 9, ground := Ground.data }], guard := none },
  { dst := some 114, op := Op.move (Operand.tmp 0), type := 88, pos := "law.go:206", after := #[], guard := none },
  { dst := some 115, op := Op.nilCheck (Operand.tmp 114), type := 0, pos := "law.go:206", after := #[{ on := 11, ground := Ground.data }], guard := none },
  { dst := some 116, op := Op.fieldAddr 58 (Operand.tmp 115) 5, type := 0, pos := "law.go:206", after := #[{ on := 12, ground := Ground.data }], guard := none },
  { dst := some 117, op := Op.load 56 (Operand.tmp 116), type := 56, pos := "law.go:206", after := #[{ on := 13, ground := Ground.data }], guard := none },
  { dst := some 118, op := Op.move (Operand.tmp 8), type := 3, pos := "law.go:206", after := #[], guard := none },
  { dst := some 119, op := Op.indexAddr 56 (Operand.tmp 117) (Operand.tmp 118), type := 0, pos := "law.go:206", after := #[{ on := 14, ground := Ground.data }, { on := 15, ground := Ground.data }], guard := none },
  { dst := some 120, op := Op.load 38 (Operand.tmp 119), type := 38, pos := "law.go:206", after := #[{ on := 16, ground := Ground.data }], guard := none },
  { dst := some 121, op := Op.binOp BinOp.neq 38 (Operand.tmp 113) (Operand.tmp 120) 38, type := 4, pos := "law.go:206", after := #[{ on := 10, ground := Ground.data }, { on := 17, ground := Ground.data }], guard := none },
  { dst := some 122, op := Op.move (Operand.tmp 121), type := 4, pos := "law.go:206", after := #[{ on := 18, ground := Ground.data }], guard := none },
  { dst := some 123, op := Op.move (Operand.tmp 0), type := 88, pos := "law.go:206", after := #[{ on := 19, ground := Ground.guard }], guard := some (19, false) },
  { dst := some 124, op := Op.nilCheck (Operand.tmp 123), type := 0, pos := "law.go:206", after := #[{ on := 20, ground := Ground.data }, { on := 19, ground := Ground.guard }], guard := some (19, false) },
  { dst := some 125, op := Op.fieldAddr 58 (Operand.tmp 124) 4, type := 0, pos := "law.go:206", after := #[{ on := 21, ground := Ground.data }, { on := 19, ground := Ground.guard }], guard := some (19, false) },
  { dst := some 126, op := Op.load 55 (Operand.tmp 125), type := 55, pos := "law.go:206", after := #[{ on := 22, ground := Ground.data }, { on := 19, ground := Ground.guard }], guard := some (19, false) },
  { dst := some 127, op := Op.move (Operand.tmp 8), type := 3, pos := "law.go:206", after := #[{ on := 19, ground := Ground.guard }], guard := some (19, false) },
  { dst := some 128, op := Op.indexAddr 55 (Operand.tmp 126) (Operand.tmp 127), type := 0, pos := "law.go:206", after := #[{ on := 23, ground := Ground.data }, { on := 24, ground := Ground.data }, { on := 19, ground := Ground.guard }], guard := some (19, false) },
  { dst := some 129, op := Op.load 62 (Operand.tmp 128), type := 62, pos := "law.go:206", after := #[{ on := 25, ground := Ground.data }, { on := 19, ground := Ground.guard }], guard := some (19, false) },
  { dst := some 130, op := Op.move (Operand.tmp 9), type := 3, pos := "law.go:206", after := #[{ on := 19, ground := Ground.guard }], guard := some (19, false) },
  { dst := some 131, op := Op.indexAddr 62 (Operand.tmp 129) (Operand.tmp 130), type := 0, pos := "law.go:206", after := #[{ on := 26, ground := Ground.data }, { on := 27, ground := Ground.data }, { on := 19, ground := Ground.guard }], guard := some (19, false) },
  { dst := some 132, op := Op.fieldAddr 75 (Operand.tmp 131) 0, type := 0, pos := "law.go:206", after := #[{ on := 28, ground := Ground.data }, { on := 19, ground := Ground.guard }], guard := some (19, false) },
  { dst := some 133, op := Op.load 37 (Operand.tmp 132), type := 37, pos := "law.go:206", after := #[{ on := 29, ground := Ground.data }, { on := 19, ground := Ground.guard }], guard := some (19, false) },
  { dst := some 134, op := Op.call { callee := Callee.builtin Builtin.len, args := #[Operand.tmp 133], argTypes := #[37] }, type := 3, pos := "law.go:206", after := #[{ on := 30, ground := Ground.data }, { on := 19, ground := Ground.guard }], guard := some (19, false) },
  { dst := some 135, op := Op.binOp BinOp.gtr 3 (Operand.tmp 134) (Operand.const (Value.int IntKind.i64 0)) 3, type := 4, pos := "law.go:206", after := #[{ on := 31, ground := Ground.data }, { on := 19, ground := Ground.guard }], guard := some (19, false) },
  { dst := some 136, op := Op.pick (Operand.tmp 122) (Operand.const (Value.bool true)) (Operand.tmp 135), type := 4, pos := "law.go:206", after := #[{ on := 19, ground := Ground.data }, { on := 32, ground := Ground.data }], guard := none }]
set_option maxHeartbeats 8000000 in
set_option maxRecDepth 100000 in
theorem reg18_26 (W : World) (K g p i n c d x r xc k : Nat) (tk : Int) (hi : i < n) (hk : k < r) (hS : (fun w' => w'.cell? ⟨K, 12, none⟩ = some (.slice (some ⟨g, 0, none⟩) n c) ∧ w'.cell? ⟨g, i, none⟩ = some (.slice (some ⟨x, 0, none⟩) r xc) ∧ w'.cell? ⟨x, k * 2, none⟩ = some (.slice none 0 0) ∧ w'.cell? ⟨x, k * 2 + 1, none⟩ = some (.int .u64 tk) ∧ w'.cell? ⟨K, 13, none⟩ = some (.slice (some ⟨p, 0, none⟩) n d) ∧ w'.cell? ⟨p, i, none⟩ = some (.int .u64 tk)) W.drew)
    (Q : Exit → Act → World → Prop) (hPan : ∀ c (a : Act) w (d : Option Tmp) v, Q (.panic c) (a.put d v) w → Q (.panic c) a w) {u1 u2 u3 u4 u5 u6 u7 u10 u11 u12 u13 u14 u15 u16 u17 u18 u19 u20 u21 u22 u23 u24 u25 u26 u27 u28 u29 u30 u31 u32 u33 u34 u35 u36 u37 u38 u39 u40 u41 u42 u43 u44 u45 u46 u47 u48 u49 u50 u51 u52 u53 u54 u55 u56 u57 u58 u59 u60 u61 u62 u63 u64 u65 u66 u67 u68 u69 u70 u71 u72 u73 u74 u75 u76 u77 u78 u79 u80 u81 u82 u83 u84 u85 u86 u87 u88 u89 u90 u91 u92 u93 u94 u95 u96 u97 u98 u99 A0 A1 A2 A3 A4 A5 A6 A7 A8 A9 B0 B1 B2 B3 B4 B5 B6 B7 B8 B9 C0 C1 C2 C3 C4 C5 C6 C7 C8 C9 D0 D1 D2 D3 D4 D5 D6 : Value}
    (hQ : Q .normal ⟨#[.pointer (some ⟨K, 8, none⟩), u1,u2,u3,u4,u5,u6,u7, .int .i64 (i : Nat), .int .i64 (k : Nat), u10,u11,u12,u13,u14,u15,u16,u17,u18,u19,u20,u21,u22,u23,u24,u25,u26,u27,u28,u29,u30,u31,u32,u33,u34,u35,u36,u37,u38,u39,u40,u41,u42,u43,u44,u45,u46,u47,u48,u49,u50,u51,u52,u53,u54,u55,u56,u57,u58,u59,u60,u61,u62,u63,u64,u65,u66,u67,u68,u69,u70,u71,u72,u73,u74,u75,u76,u77,u78,u79,u80,u81,u82,u83,u84,u85,u86,u87,u88,u89,u90,u91,u92,u93,u94,u95,u96,u97,u98,u99,A0,A1,A2, .pointer (some ⟨K, 8, none⟩), .pointer (some ⟨K, 8, none⟩), .pointer (some ⟨K, 12, none⟩), .slice (some ⟨g, 0, none⟩) n c, .int .i64 (i : Nat), .pointer (some ⟨g, i, none⟩), .slice (some ⟨x, 0, none⟩) r xc, .int .i64 (k : Nat), .pointer (some ⟨x, k * 2, none⟩), .pointer (some ⟨x, k * 2 + 1, none⟩), .int .u64 tk, .pointer (some ⟨K, 8, none⟩), .pointer (some ⟨K, 8, none⟩), .pointer (some ⟨K, 13, none⟩), .slice (some ⟨p, 0, none⟩) n d, .int .i64 (i : Nat), .pointer (some ⟨p, i, none⟩), .int .u64 tk, .bool false, .bool false, .pointer (some ⟨K, 8, none⟩), .pointer (some ⟨K, 8, none⟩), .pointer (some ⟨K, 12, none⟩), .slice (some ⟨g, 0, none⟩) n c, .int .i64 (i : Nat), .pointer (some ⟨g, i, none⟩), .slice (some ⟨x, 0, none⟩) r xc, .int .i64 (k : Nat), .pointer (some ⟨x, k * 2, none⟩), .pointer (some ⟨x, k * 2, none⟩), .slice none 0 0, .int .i64 0, .bool false, .bool false], []⟩ W.drew) :
    Code.wp Try.prog (Code.region 26 ops18_26 true) Q ⟨#[.pointer (some ⟨K, 8, none⟩), u1,u2,u3,u4,u5,u6,u7, .int .i64 (i : Nat), .int .i64 (k : Nat), u10,u11,u12,u13,u14,u15,u16,u17,u18,u19,u20,u21,u22,u23,u24,u25,u26,u27,u28,u29,u30,u31,u32,u33,u34,u35,u36,u37,u38,u39,u40,u41,u42,u43,u44,u45,u46,u47,u48,u49,u50,u51,u52,u53,u54,u55,u56,u57,u58,u59,u60,u61,u62,u63,u64,u65,u66,u67,u68,u69,u70,u71,u72,u73,u74,u75,u76,u77,u78,u79,u80,u81,u82,u83,u84,u85,u86,u87,u88,u89,u90,u91,u92,u93,u94,u95,u96,u97,u98,u99,A0,A1,A2,A3,A4,A5,A6,A7,A8,A9,B0,B1,B2,B3,B4,B5,B6,B7,B8,B9,C0,C1,C2,C3,C4,C5,C6,C7,C8,C9,D0,D1,D2,D3,D4,D5,D6], []⟩ W := by
  have hiz : (i : Int) < (n : Int) := by omega
  have hkz : (k : Int) < (r : Int) := by omega
  refine wp_region_held_drew (S := fun w' => w'.cell? ⟨K, 12, none⟩ = some (.slice (some ⟨g, 0, none⟩) n c) ∧ w'.cell? ⟨g, i, none⟩ = some (.slice (some ⟨x, 0, none⟩) r xc) ∧ w'.cell? ⟨x, k * 2, none⟩ = some (.slice none 0 0) ∧ w'.cell? ⟨x, k * 2 + 1, none⟩ = some (.int .u64 tk) ∧ w'.cell? ⟨K, 13, none⟩ = some (.slice (some ⟨p, 0, none⟩) n d) ∧ w'.cell? ⟨p, i, none⟩ = some (.int .u64 tk)) hmx hS (fun HSX => ?_)
  clear hS
  obtain ⟨W0, hW0⟩ : ∃ W0,W0 = W.drew := ⟨_, rfl⟩
  rw [← hW0] at HSX hQ ⊢
  clear hW0
  refine wpAnyH_take (i := 0) (oi := { dst := some 103, op := Op.move (Operand.tmp 0), type := 88, pos := "law.go:206", after := #[], guard := none }) (v := .pointer (some ⟨K, 8, none⟩)) rfl (by kernel_rfl) (by kernel_rfl) (by kernel_rfl) (fun _ _ _ h => hPan _ _ _ _ _ h) (Or.inl ⟨by rfl, ?_⟩) HSX ?_
  · intro wx d0
    obtain ⟨s1, s2, s3, s4, s5, s6⟩ := d0
    go_simp
  simp only [Act.put, List.setIfInBounds_toArray, List.set_cons_zero, List.set_cons_succ]
  refine wpAnyH_take (i := 1) (oi := { dst := some 104, op := Op.nilCheck (Operand.tmp 103), type := 0, pos := "law.go:206", after := #[{ on := 0, ground := Ground.data }], guard := none }) (v := .pointer (some ⟨K, 8, none⟩)) rfl (by kernel_rfl) (by kernel_rfl) (by kernel_rfl) (fun _ _ _ h => hPan _ _ _ _ _ h) (Or.inl ⟨by rfl, ?_⟩) HSX ?_
  · intro wx d0
    obtain ⟨s1, s2, s3, s4, s5, s6⟩ := d0
    go_simp
  simp only [Act.put, List.setIfInBounds_toArray, List.set_cons_zero, List.set_cons_succ]
  refine wpAnyH_take (i := 2) (oi := { dst := some 105, op := Op.fieldAddr 58 (Operand.tmp 104) 4, type := 0, pos := "law.go:206", after := #[{ on := 1, ground := Ground.data }], guard := none }) (v := .pointer (some ⟨K, 12, none⟩)) rfl (by kernel_rfl) (by kernel_rfl) (by kernel_rfl) (fun _ _ _ h => hPan _ _ _ _ _ h) (Or.inl ⟨by rfl, ?_⟩) HSX ?_
  · intro wx d0
    obtain ⟨s1, s2, s3, s4, s5, s6⟩ := d0
    go_simp
  simp only [Act.put, List.setIfInBounds_toArray, List.set_cons_zero, List.set_cons_succ]
  refine wpAnyH_take (i := 3) (oi := { dst := some 106, op := Op.load 55 (Operand.tmp 105), type := 55, pos := "law.go:206", after := #[{ on := 2, ground := Ground.data }], guard := none }) (v := .slice (some ⟨g, 0, none⟩) n c) rfl (by kernel_rfl) (by kernel_rfl) (by kernel_rfl) (fun _ _ _ h => hPan _ _ _ _ _ h) (Or.inl ⟨by rfl, ?_⟩) HSX ?_
  · intro wx d0
    obtain ⟨s1, s2, s3, s4, s5, s6⟩ := d0
    go_simp
  simp only [Act.put, List.setIfInBounds_toArray, List.set_cons_zero, List.set_cons_succ]
  refine wpAnyH_take (i := 4) (oi := { dst := some 107, op := Op.move (Operand.tmp 8), type := 3, pos := "law.go:206", after := #[], guard := none }) (v := .int .i64 (i : Nat)) rfl (by kernel_rfl) (by kernel_rfl) (by kernel_rfl) (fun _ _ _ h => hPan _ _ _ _ _ h) (Or.inl ⟨by rfl, ?_⟩) HSX ?_
  · intro wx d0
    obtain ⟨s1, s2, s3, s4, s5, s6⟩ := d0
    go_simp
  simp only [Act.put, List.setIfInBounds_toArray, List.set_cons_zero, List.set_cons_succ]
  refine wpAnyH_take (i := 5) (oi := { dst := some 108, op := Op.indexAddr 55 (Operand.tmp 106) (Operand.tmp 107), type := 0, pos := "law.go:206", after := #[{ on := 3, ground := Ground.data }, { on := 4, ground := Ground.data }], guard := none }) (v := .pointer (some ⟨g, i, none⟩)) rfl (by kernel_rfl) (by kernel_rfl) (by kernel_rfl) (fun _ _ _ h => hPan _ _ _ _ _ h) (Or.inl ⟨by rfl, ?_⟩) HSX ?_
  · intro wx d0
    obtain ⟨s1, s2, s3, s4, s5, s6⟩ := d0
    go_simp
  simp only [Act.put, List.setIfInBounds_toArray, List.set_cons_zero, List.set_cons_succ]
  refine wpAnyH_take (i := 6) (oi := { dst := some 109, op := Op.load 62 (Operand.tmp 108), type := 62, pos := "law.go:206", after := #[{ on := 5, ground := Ground.data }], guard := none }) (v := .slice (some ⟨x, 0, none⟩) r xc) rfl (by kernel_rfl) (by kernel_rfl) (by kernel_rfl) (fun _ _ _ h => hPan _ _ _ _ _ h) (Or.inl ⟨by rfl, ?_⟩) HSX ?_
  · intro wx d0
    obtain ⟨s1, s2, s3, s4, s5, s6⟩ := d0
    go_simp
  simp only [Act.put, List.setIfInBounds_toArray, List.set_cons_zero, List.set_cons_succ]
  refine wpAnyH_take (i := 7) (oi := { dst := some 110, op := Op.move (Operand.tmp 9), type := 3, pos := "law.go:206", after := #[], guard := none }) (v := .int .i64 (k : Nat)) rfl (by kernel_rfl) (by kernel_rfl) (by kernel_rfl) (fun _ _ _ h => hPan _ _ _ _ _ h) (Or.inl ⟨by rfl, ?_⟩) HSX ?_
  · intro wx d0
    obtain ⟨s1, s2, s3, s4, s5, s6⟩ := d0
    go_simp
  simp only [Act.put, List.setIfInBounds_toArray, List.set_cons_zero, List.set_cons_succ]
  refine wpAnyH_take (i := 8) (oi := { dst := some 111, op := Op.indexAddr 62 (Operand.tmp 109) (Operand.tmp 110), type := 0, pos := "law.go:206", after := #[{ on := 6, ground := Ground.data }, { on := 7, ground := Ground.data }], guard := none }) (v := .pointer (some ⟨x, k * 2, none⟩)) rfl (by kernel_rfl) (by kernel_rfl) (by kernel_rfl) (fun _ _ _ h => hPan _ _ _ _ _ h) (Or.inl ⟨by rfl, ?_⟩) HSX ?_
  · intro wx d0
    obtain ⟨s1, s2, s3, s4, s5, s6⟩ := d0
    go_simp
  simp only [Act.put, List.setIfInBounds_toArray, List.set_cons_zero, List.set_cons_succ]
  refine wpAnyH_take (i := 9) (oi := { dst := some 112, op := Op.fieldAddr 75 (Operand.tmp 111) 1, type := 0, pos := "law.go:206", after := #[{ on := 8, ground := Ground.data }], guard := none }) (v := .pointer (some ⟨x, k * 2 + 1, none⟩)) rfl (by kernel_rfl) (by kernel_rfl) (by kernel_rfl) (fun _ _ _ h => hPan _ _ _ _ _ h) (Or.inl ⟨by rfl, ?_⟩) HSX ?_
  · intro wx d0
    obtain ⟨s1, s2, s3, s4, s5, s6⟩ := d0
    go_simp
  simp only [Act.put, List.setIfInBounds_toArray, List.set_cons_zero, List.set_cons_succ]
  refine wpAnyH_take (i := 10) (oi := { dst := some 113, op := Op.load 38 (Operand.tmp 112), type := 38, pos := "law.go:206", after := #[{ on := 9, ground := Ground.data }], guard := none }) (v := .int .u64 tk) rfl (by kernel_rfl) (by kernel_rfl) (by kernel_rfl) (fun _ _ _ h => hPan _ _ _ _ _ h) (Or.inl ⟨by rfl, ?_⟩) HSX ?_
  · intro wx d0
    obtain ⟨s1, s2, s3, s4, s5, s6⟩ := d0
    go_simp
  simp only [Act.put, List.setIfInBounds_toArray, List.set_cons_zero, List.set_cons_succ]
  refine wpAnyH_take (i := 11) (oi := { dst := some 114, op := Op.move (Operand.tmp 0), type := 88, pos := "law.go:206", after := #[], guard := none }) (v := .pointer (some ⟨K, 8, none⟩)) rfl (by kernel_rfl) (by kernel_rfl) (by kernel_rfl) (fun _ _ _ h => hPan _ _ _ _ _ h) (Or.inl ⟨by rfl, ?_⟩) HSX ?_
  · intro wx d0
    obtain ⟨s1, s2, s3, s4, s5, s6⟩ := d0
    go_simp
  simp only [Act.put, List.setIfInBounds_toArray, List.set_cons_zero, List.set_cons_succ]
  refine wpAnyH_take (i := 12) (oi := { dst := some 115, op := Op.nilCheck (Operand.tmp 114), type := 0, pos := "law.go:206", after := #[{ on := 11, ground := Ground.data }], guard := none }) (v := .pointer (some ⟨K, 8, none⟩)) rfl (by kernel_rfl) (by kernel_rfl) (by kernel_rfl) (fun _ _ _ h => hPan _ _ _ _ _ h) (Or.inl ⟨by rfl, ?_⟩) HSX ?_
  · intro wx d0
    obtain ⟨s1, s2, s3, s4, s5, s6⟩ := d0
    go_simp
  simp only [Act.put, List.setIfInBounds_toArray, List.set_cons_zero, List.set_cons_succ]
  refine wpAnyH_take (i := 13) (oi := { dst := some 116, op := Op.fieldAddr 58 (Operand.tmp 115) 5, type := 0, pos := "law.go:206", after := #[{ on := 12, ground := Ground.data }], guard := none }) (v := .pointer (some ⟨K, 13, none⟩)) rfl (by kernel_rfl) (by kernel_rfl) (by kernel_rfl) (fun _ _ _ h => hPan _ _ _ _ _ h) (Or.inl ⟨by rfl, ?_⟩) HSX ?_
  · intro wx d0
    obtain ⟨s1, s2, s3, s4, s5, s6⟩ := d0
    go_simp
  simp only [Act.put, List.setIfInBounds_toArray, List.set_cons_zero, List.set_cons_succ]
  refine wpAnyH_take (i := 14) (oi := { dst := some 117, op := Op.load 56 (Operand.tmp 116), type := 56, pos := "law.go:206", after := #[{ on := 13, ground := Ground.data }], guard := none }) (v := .slice (some ⟨p, 0, none⟩) n d) rfl (by kernel_rfl) (by kernel_rfl) (by kernel_rfl) (fun _ _ _ h => hPan _ _ _ _ _ h) (Or.inl ⟨by rfl, ?_⟩) HSX ?_
  · intro wx d0
    obtain ⟨s1, s2, s3, s4, s5, s6⟩ := d0
    go_simp
  simp only [Act.put, List.setIfInBounds_toArray, List.set_cons_zero, List.set_cons_succ]
  refine wpAnyH_take (i := 15) (oi := { dst := some 118, op := Op.move (Operand.tmp 8), type := 3, pos := "law.go:206", after := #[], guard := none }) (v := .int .i64 (i : Nat)) rfl (by kernel_rfl) (by kernel_rfl) (by kernel_rfl) (fun _ _ _ h => hPan _ _ _ _ _ h) (Or.inl ⟨by rfl, ?_⟩) HSX ?_
  · intro wx d0
    obtain ⟨s1, s2, s3, s4, s5, s6⟩ := d0
    go_simp
  simp only [Act.put, List.setIfInBounds_toArray, List.set_cons_zero, List.set_cons_succ]
  refine wpAnyH_take (i := 16) (oi := { dst := some 119, op := Op.indexAddr 56 (Operand.tmp 117) (Operand.tmp 118), type := 0, pos := "law.go:206", after := #[{ on := 14, ground := Ground.data }, { on := 15, ground := Ground.data }], guard := none }) (v := .pointer (some ⟨p, i, none⟩)) rfl (by kernel_rfl) (by kernel_rfl) (by kernel_rfl) (fun _ _ _ h => hPan _ _ _ _ _ h) (Or.inl ⟨by rfl, ?_⟩) HSX ?_
  · intro wx d0
    obtain ⟨s1, s2, s3, s4, s5, s6⟩ := d0
    go_simp
  simp only [Act.put, List.setIfInBounds_toArray, List.set_cons_zero, List.set_cons_succ]
  refine wpAnyH_take (i := 17) (oi := { dst := some 120, op := Op.load 38 (Operand.tmp 119), type := 38, pos := "law.go:206", after := #[{ on := 16, ground := Ground.data }], guard := none }) (v := .int .u64 tk) rfl (by kernel_rfl) (by kernel_rfl) (by kernel_rfl) (fun _ _ _ h => hPan _ _ _ _ _ h) (Or.inl ⟨by rfl, ?_⟩) HSX ?_
  · intro wx d0
    obtain ⟨s1, s2, s3, s4, s5, s6⟩ := d0
    go_simp
  simp only [Act.put, List.setIfInBounds_toArray, List.set_cons_zero, List.set_cons_succ]
  refine wpAnyH_take (i := 18) (oi := { dst := some 121, op := Op.binOp BinOp.neq 38 (Operand.tmp 113) (Operand.tmp 120) 38, type := 4, pos := "law.go:206", after := #[{ on := 10, ground := Ground.data }, { on := 17, ground := Ground.data }], guard := none }) (v := .bool false) rfl (by kernel_rfl) (by kernel_rfl) (by kernel_rfl) (fun _ _ _ h => hPan _ _ _ _ _ h) (Or.inl ⟨by rfl, ?_⟩) HSX ?_
  · intro wx d0
    obtain ⟨s1, s2, s3, s4, s5, s6⟩ := d0
    go_simp
  simp only [Act.put, List.setIfInBounds_toArray, List.set_cons_zero, List.set_cons_succ]
  refine wpAnyH_take (i := 19) (oi := { dst := some 122, op := Op.move (Operand.tmp 121), type := 4, pos := "law.go:206", after := #[{ on := 18, ground := Ground.data }], guard := none }) (v := .bool false) rfl (by kernel_rfl) (by kernel_rfl) (by kernel_rfl) (fun _ _ _ h => hPan _ _ _ _ _ h) (Or.inl ⟨by rfl, ?_⟩) HSX ?_
  · intro wx d0
    obtain ⟨s1, s2, s3, s4, s5, s6⟩ := d0
    go_simp
  simp only [Act.put, List.setIfInBounds_toArray, List.set_cons_zero, List.set_cons_succ]
  refine wpAnyH_take (i := 20) (oi := { dst := some 123, op := Op.move (Operand.tmp 0), type := 88, pos := "law.go:206", after := #[{ on := 19, ground := Ground.guard }], guard := some (19, false) }) (v := .pointer (some ⟨K, 8, none⟩)) rfl (by kernel_rfl) (by kernel_rfl) (by kernel_rfl) (fun _ _ _ h => hPan _ _ _ _ _ h) (Or.inl ⟨by rfl, ?_⟩) HSX ?_
  · intro wx d0
    obtain ⟨s1, s2, s3, s4, s5, s6⟩ := d0
    go_simp
  simp only [Act.put, List.setIfInBounds_toArray, List.set_cons_zero, List.set_cons_succ]
  refine wpAnyH_take (i := 21) (oi := { dst := some 124, op := Op.nilCheck (Operand.tmp 123), type := 0, pos := "law.go:206", after := #[{ on := 20, ground := Ground.data }, { on := 19, ground := Ground.guard }], guard := some (19, false) }) (v := .pointer (some ⟨K, 8, none⟩)) rfl (by kernel_rfl) (by kernel_rfl) (by kernel_rfl) (fun _ _ _ h => hPan _ _ _ _ _ h) (Or.inl ⟨by rfl, ?_⟩) HSX ?_
  · intro wx d0
    obtain ⟨s1, s2, s3, s4, s5, s6⟩ := d0
    go_simp
  simp only [Act.put, List.setIfInBounds_toArray, List.set_cons_zero, List.set_cons_succ]
  refine wpAnyH_take (i := 22) (oi := { dst := some 125, op := Op.fieldAddr 58 (Operand.tmp 124) 4, type := 0, pos := "law.go:206", after := #[{ on := 21, ground := Ground.data }, { on := 19, ground := Ground.guard }], guard := some (19, false) }) (v := .pointer (some ⟨K, 12, none⟩)) rfl (by kernel_rfl) (by kernel_rfl) (by kernel_rfl) (fun _ _ _ h => hPan _ _ _ _ _ h) (Or.inl ⟨by rfl, ?_⟩) HSX ?_
  · intro wx d0
    obtain ⟨s1, s2, s3, s4, s5, s6⟩ := d0
    go_simp
  simp only [Act.put, List.setIfInBounds_toArray, List.set_cons_zero, List.set_cons_succ]
  refine wpAnyH_take (i := 23) (oi := { dst := some 126, op := Op.load 55 (Operand.tmp 125), type := 55, pos := "law.go:206", after := #[{ on := 22, ground := Ground.data }, { on := 19, ground := Ground.guard }], guard := some (19, false) }) (v := .slice (some ⟨g, 0, none⟩) n c) rfl (by kernel_rfl) (by kernel_rfl) (by kernel_rfl) (fun _ _ _ h => hPan _ _ _ _ _ h) (Or.inl ⟨by rfl, ?_⟩) HSX ?_
  · intro wx d0
    obtain ⟨s1, s2, s3, s4, s5, s6⟩ := d0
    go_simp
  simp only [Act.put, List.setIfInBounds_toArray, List.set_cons_zero, List.set_cons_succ]
  refine wpAnyH_take (i := 24) (oi := { dst := some 127, op := Op.move (Operand.tmp 8), type := 3, pos := "law.go:206", after := #[{ on := 19, ground := Ground.guard }], guard := some (19, false) }) (v := .int .i64 (i : Nat)) rfl (by kernel_rfl) (by kernel_rfl) (by kernel_rfl) (fun _ _ _ h => hPan _ _ _ _ _ h) (Or.inl ⟨by rfl, ?_⟩) HSX ?_
  · intro wx d0
    obtain ⟨s1, s2, s3, s4, s5, s6⟩ := d0
    go_simp
  simp only [Act.put, List.setIfInBounds_toArray, List.set_cons_zero, List.set_cons_succ]
  refine wpAnyH_take (i := 25) (oi := { dst := some 128, op := Op.indexAddr 55 (Operand.tmp 126) (Operand.tmp 127), type := 0, pos := "law.go:206", after := #[{ on := 23, ground := Ground.data }, { on := 24, ground := Ground.data }, { on := 19, ground := Ground.guard }], guard := some (19, false) }) (v := .pointer (some ⟨g, i, none⟩)) rfl (by kernel_rfl) (by kernel_rfl) (by kernel_rfl) (fun _ _ _ h => hPan _ _ _ _ _ h) (Or.inl ⟨by rfl, ?_⟩) HSX ?_
  · intro wx d0
    obtain ⟨s1, s2, s3, s4, s5, s6⟩ := d0
    go_simp
  simp only [Act.put, List.setIfInBounds_toArray, List.set_cons_zero, List.set_cons_succ]
  refine wpAnyH_take (i := 26) (oi := { dst := some 129, op := Op.load 62 (Operand.tmp 128), type := 62, pos := "law.go:206", after := #[{ on := 25, ground := Ground.data }, { on := 19, ground := Ground.guard }], guard := some (19, false) }) (v := .slice (some ⟨x, 0, none⟩) r xc) rfl (by kernel_rfl) (by kernel_rfl) (by kernel_rfl) (fun _ _ _ h => hPan _ _ _ _ _ h) (Or.inl ⟨by rfl, ?_⟩) HSX ?_
  · intro wx d0
    obtain ⟨s1, s2, s3, s4, s5, s6⟩ := d0
    go_simp
  simp only [Act.put, List.setIfInBounds_toArray, List.set_cons_zero, List.set_cons_succ]
  refine wpAnyH_take (i := 27) (oi := { dst := some 130, op := Op.move (Operand.tmp 9), type := 3, pos := "law.go:206", after := #[{ on := 19, ground := Ground.guard }], guard := some (19, false) }) (v := .int .i64 (k : Nat)) rfl (by kernel_rfl) (by kernel_rfl) (by kernel_rfl) (fun _ _ _ h => hPan _ _ _ _ _ h) (Or.inl ⟨by rfl, ?_⟩) HSX ?_
  · intro wx d0
    obtain ⟨s1, s2, s3, s4, s5, s6⟩ := d0
    go_simp
  simp only [Act.put, List.setIfInBounds_toArray, List.set_cons_zero, List.set_cons_succ]
  refine wpAnyH_take (i := 28) (oi := { dst := some 131, op := Op.indexAddr 62 (Operand.tmp 129) (Operand.tmp 130), type := 0, pos := "law.go:206", after := #[{ on := 26, ground := Ground.data }, { on := 27, ground := Ground.data }, { on := 19, ground := Ground.guard }], guard := some (19, false) }) (v := .pointer (some ⟨x, k * 2, none⟩)) rfl (by kernel_rfl) (by kernel_rfl) (by kernel_rfl) (fun _ _ _ h => hPan _ _ _ _ _ h) (Or.inl ⟨by rfl, ?_⟩) HSX ?_
  · intro wx d0
    obtain ⟨s1, s2, s3, s4, s5, s6⟩ := d0
    go_simp
  simp only [Act.put, List.setIfInBounds_toArray, List.set_cons_zero, List.set_cons_succ]
  refine wpAnyH_take (i := 29) (oi := { dst := some 132, op := Op.fieldAddr 75 (Operand.tmp 131) 0, type := 0, pos := "law.go:206", after := #[{ on := 28, ground := Ground.data }, { on := 19, ground := Ground.guard }], guard := some (19, false) }) (v := .pointer (some ⟨x, k * 2, none⟩)) rfl (by kernel_rfl) (by kernel_rfl) (by kernel_rfl) (fun _ _ _ h => hPan _ _ _ _ _ h) (Or.inl ⟨by rfl, ?_⟩) HSX ?_
  · intro wx d0
    obtain ⟨s1, s2, s3, s4, s5, s6⟩ := d0
    go_simp
  simp only [Act.put, List.setIfInBounds_toArray, List.set_cons_zero, List.set_cons_succ]
  refine wpAnyH_take (i := 30) (oi := { dst := some 133, op := Op.load 37 (Operand.tmp 132), type := 37, pos := "law.go:206", after := #[{ on := 29, ground := Ground.data }, { on := 19, ground := Ground.guard }], guard := some (19, false) }) (v := .slice none 0 0) rfl (by kernel_rfl) (by kernel_rfl) (by kernel_rfl) (fun _ _ _ h => hPan _ _ _ _ _ h) (Or.inl ⟨by rfl, ?_⟩) HSX ?_
  · intro wx d0
    obtain ⟨s1, s2, s3, s4, s5, s6⟩ := d0
    go_simp
  simp only [Act.put, List.setIfInBounds_toArray, List.set_cons_zero, List.set_cons_succ]
  refine wpAnyH_take (i := 31) (oi := { dst := some 134, op := Op.call { callee := Callee.builtin Builtin.len, args := #[Operand.tmp 133], argTypes := #[37] }, type := 3, pos := "law.go:206", after := #[{ on := 30, ground := Ground.data }, { on := 19, ground := Ground.guard }], guard := some (19, false) }) (v := .int .i64 0) rfl (by kernel_rfl) (by kernel_rfl) (by kernel_rfl) (fun _ _ _ h => hPan _ _ _ _ _ h) (Or.inl ⟨by rfl, ?_⟩) HSX ?_
  · intro wx d0
    obtain ⟨s1, s2, s3, s4, s5, s6⟩ := d0
    go_simp
  simp only [Act.put, List.setIfInBounds_toArray, List.set_cons_zero, List.set_cons_succ]
  refine wpAnyH_take (i := 32) (oi := { dst := some 135, op := Op.binOp BinOp.gtr 3 (Operand.tmp 134) (Operand.const (Value.int IntKind.i64 0)) 3, type := 4, pos := "law.go:206", after := #[{ on := 31, ground := Ground.data }, { on := 19, ground := Ground.guard }], guard := some (19, false) }) (v := .bool false) rfl (by kernel_rfl) (by kernel_rfl) (by kernel_rfl) (fun _ _ _ h => hPan _ _ _ _ _ h) (Or.inl ⟨by rfl, ?_⟩) HSX ?_
  · intro wx d0
    obtain ⟨s1, s2, s3, s4, s5, s6⟩ := d0
    go_simp
  simp only [Act.put, List.setIfInBounds_toArray, List.set_cons_zero, List.set_cons_succ]
  refine wpAnyH_take (i := 33) (oi := { dst := some 136, op := Op.pick (Operand.tmp 122) (Operand.const (Value.bool true)) (Operand.tmp 135), type := 4, pos := "law.go:206", after := #[{ on := 19, ground := Ground.data }, { on := 32, ground := Ground.data }], guard := none }) (v := .bool false) rfl (by kernel_rfl) (by kernel_rfl) (by kernel_rfl) (fun _ _ _ h => hPan _ _ _ _ _ h) (Or.inl ⟨by rfl, ?_⟩) HSX ?_
  · intro wx d0
    obtain ⟨s1, s2, s3, s4, s5, s6⟩ := d0
    go_simp
  simp only [Act.put, List.setIfInBounds_toArray, List.set_cons_zero, List.set_cons_succ]
  refine wpAnyH_done (by kernel_rfl) ?_ _
  exact hQ
end Go.Proofs.Ytnblhaeojlpmmaa
