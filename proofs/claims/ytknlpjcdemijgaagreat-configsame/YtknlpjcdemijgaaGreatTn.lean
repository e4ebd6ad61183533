import Derived.Test.YtknlpjcdemijgaaGreatTl
namespace Go.Proofs.YtknlpjcdemijgaaGreat
open Go.ChangeShapes Go.WideShapes Go.ChangeAt Go.RowKit
set_option linter.unusedVariables false
def ops6_5 : Array Oper := #[⟨some 20, Op.move (.tmp 6), 44, "law.go:368", #[], none⟩,
 ⟨some 21, Op.nilCheck (.tmp 20), 0, "law.go:368", #[gd' 0], none⟩,
 ⟨some 22, Op.fieldAddr 49 (.tmp 21) 0, 0, "law.go:368", #[gd' 1], none⟩,
 ⟨some 23, Op.load 31 (.tmp 22), 31, "law.go:368", #[gd' 2], none⟩,
 ⟨some 24, Op.move (.tmp 7), 44, "law.go:368", #[], none⟩,
 ⟨some 25, Op.nilCheck (.tmp 24), 0, "law.go:368", #[gd' 4], none⟩,
 ⟨some 26, Op.fieldAddr 49 (.tmp 25) 0, 0, "law.go:368", #[gd' 5], none⟩,
 ⟨some 27, Op.load 31 (.tmp 26), 31, "law.go:368", #[gd' 6], none⟩,
 ⟨some 28, Op.call { callee := Callee.value (Operand.func 13), args := #[Operand.tmp 23, Operand.tmp 27], argTypes := #[31, 31] }, 4, "law.go:368", #[gd' 3, gd' 7], none⟩,
 ⟨some 9, Op.assign (.tmp 28), 4, "law.go:368", #[gd' 8, gc' 8, gp' 0, gp' 1, gp' 2, gp' 3, gp' 4, gp' 5, gp' 6, gp' 7, gp' 8], none⟩]
set_option maxHeartbeats 8000000 in
set_option maxRecDepth 100000 in
theorem reg6_5 (W : World) (X Y : Nat) (m n : Mc) (g1 g2 g3 g4 h1 h2 h3 h4 : Value) (rv : Bool) (hS : (fun w' => w'.cell? ⟨X, 0, none⟩ = some (.int .i64 m.pg) ∧ w'.cell? ⟨X, 1, none⟩ = some (.int .u32 m.ob) ∧ w'.cell? ⟨X, 2, none⟩ = some (.int .i64 m.op) ∧ w'.cell? ⟨X, 3, none⟩ = some (.int .i64 m.st) ∧ w'.cell? ⟨X, 4, none⟩ = some (.int .i64 m.wy) ∧ w'.cell? ⟨X, 5, none⟩ = some (.int .i64 m.li) ∧ w'.cell? ⟨X, 6, none⟩ = some (.int .i64 m.sl) ∧ w'.cell? ⟨X, 7, none⟩ = some (.int .u64 m.mj) ∧ w'.cell? ⟨X, 8, none⟩ = some (g1) ∧ w'.cell? ⟨X, 9, none⟩ = some (g2) ∧ w'.cell? ⟨X, 10, none⟩ = some (g3) ∧ w'.cell? ⟨X, 11, none⟩ = some (g4) ∧ w'.cell? ⟨Y, 0, none⟩ = some (.int .i64 n.pg) ∧ w'.cell? ⟨Y, 1, none⟩ = some (.int .u32 n.ob) ∧ w'.cell? ⟨Y, 2, none⟩ = some (.int .i64 n.op) ∧ w'.cell? ⟨Y, 3, none⟩ = some (.int .i64 n.st) ∧ w'.cell? ⟨Y, 4, none⟩ = some (.int .i64 n.wy) ∧ w'.cell? ⟨Y, 5, none⟩ = some (.int .i64 n.li) ∧ w'.cell? ⟨Y, 6, none⟩ = some (.int .i64 n.sl) ∧ w'.cell? ⟨Y, 7, none⟩ = some (.int .u64 n.mj) ∧ w'.cell? ⟨Y, 8, none⟩ = some (h1) ∧ w'.cell? ⟨Y, 9, none⟩ = some (h2) ∧ w'.cell? ⟨Y, 10, none⟩ = some (h3) ∧ w'.cell? ⟨Y, 11, none⟩ = some (h4)) W.drew) (P : World → Prop) (hcall : Calls Tryz.prog 13 #[.agg #[.int .i64 m.pg, .int .u32 m.ob, .int .i64 m.op, .int .i64 m.st, .int .i64 m.wy, .int .i64 m.li, .int .i64 m.sl, .int .u64 m.mj, g1, g2, g3, g4], .agg #[.int .i64 n.pg, .int .u32 n.ob, .int .i64 n.op, .int .i64 n.st, .int .i64 n.wy, .int .i64 n.li, .int .i64 n.sl, .int .u64 n.mj, h1, h2, h3, h4]] W.drew fun e x1 => e = .returned (.bool rv) ∧ (x1.cell? ⟨X, 0, none⟩ = some (.int .i64 m.pg) ∧ x1.cell? ⟨X, 1, none⟩ = some (.int .u32 m.ob) ∧ x1.cell? ⟨X, 2, none⟩ = some (.int .i64 m.op) ∧ x1.cell? ⟨X, 3, none⟩ = some (.int .i64 m.st) ∧ x1.cell? ⟨X, 4, none⟩ = some (.int .i64 m.wy) ∧ x1.cell? ⟨X, 5, none⟩ = some (.int .i64 m.li) ∧ x1.cell? ⟨X, 6, none⟩ = some (.int .i64 m.sl) ∧ x1.cell? ⟨X, 7, none⟩ = some (.int .u64 m.mj) ∧ x1.cell? ⟨X, 8, none⟩ = some (g1) ∧ x1.cell? ⟨X, 9, none⟩ = some (g2) ∧ x1.cell? ⟨X, 10, none⟩ = some (g3) ∧ x1.cell? ⟨X, 11, none⟩ = some (g4) ∧ x1.cell? ⟨Y, 0, none⟩ = some (.int .i64 n.pg) ∧ x1.cell? ⟨Y, 1, none⟩ = some (.int .u32 n.ob) ∧ x1.cell? ⟨Y, 2, none⟩ = some (.int .i64 n.op) ∧ x1.cell? ⟨Y, 3, none⟩ = some (.int .i64 n.st) ∧ x1.cell? ⟨Y, 4, none⟩ = some (.int .i64 n.wy) ∧ x1.cell? ⟨Y, 5, none⟩ = some (.int .i64 n.li) ∧ x1.cell? ⟨Y, 6, none⟩ = some (.int .i64 n.sl) ∧ x1.cell? ⟨Y, 7, none⟩ = some (.int .u64 n.mj) ∧ x1.cell? ⟨Y, 8, none⟩ = some (h1) ∧ x1.cell? ⟨Y, 9, none⟩ = some (h2) ∧ x1.cell? ⟨Y, 10, none⟩ = some (h3) ∧ x1.cell? ⟨Y, 11, none⟩ = some (h4)) ∧ P  x1)
  (Q : Exit → Act → World → Prop) (hPan : ∀ c (a : Act) w (d : Option Tmp) v, Q (.panic c) (a.put d v) w → Q (.panic c) a w) {u0 u1 u2 u3 u4 u5 u8 u9 u10 u11 u12 u13 u14 u15 u16 u17 u18 u19 u20 u21 u22 u23 u24 u25 u26 u27 u28 u29 u30 u31 u32 u33 u34 u35 u36 u37 u38 u39 u40 u41 u42 u43 u44 u45 u46 u47 u48 u49 u50 u51 u52 u53 u54 u55 u56 u57 u58 : Value}
  (hQ : ∀  w1, P  w1 → Q .normal ⟨#[u0,u1,u2,u3,u4,u5, .pointer (some ⟨X, 0, none⟩), .pointer (some ⟨Y, 0, none⟩), u8, .bool rv, u10,u11,u12,u13,u14,u15,u16,u17,u18,u19, .pointer (some ⟨X, 0, none⟩), .pointer (some ⟨X, 0, none⟩), .pointer (some ⟨X, 0, none⟩), .agg #[.int .i64 m.pg, .int .u32 m.ob, .int .i64 m.op, .int .i64 m.st, .int .i64 m.wy, .int .i64 m.li, .int .i64 m.sl, .int .u64 m.mj, g1, g2, g3, g4], .pointer (some ⟨Y, 0, none⟩), .pointer (some ⟨Y, 0, none⟩), .pointer (some ⟨Y, 0, none⟩), .agg #[.int .i64 n.pg, .int .u32 n.ob, .int .i64 n.op, .int .i64 n.st, .int .i64 n.wy, .int .i64 n.li, .int .i64 n.sl, .int .u64 n.mj, h1, h2, h3, h4], .bool rv, u29,u30,u31,u32,u33,u34,u35,u36,u37,u38,u39,u40,u41,u42,u43,u44,u45,u46,u47,u48,u49,u50,u51,u52,u53,u54,u55,u56,u57,u58], []⟩ w1) :
  Code.wp Tryz.prog (Code.region 5 ops6_5 true) Q ⟨#[u0,u1,u2,u3,u4,u5, .pointer (some ⟨X, 0, none⟩), .pointer (some ⟨Y, 0, none⟩), u8,u9,u10,u11,u12,u13,u14,u15,u16,u17,u18,u19,u20,u21,u22,u23,u24,u25,u26,u27,u28,u29,u30,u31,u32,u33,u34,u35,u36,u37,u38,u39,u40,u41,u42,u43,u44,u45,u46,u47,u48,u49,u50,u51,u52,u53,u54,u55,u56,u57,u58], []⟩ W := by
 refine wp_region_held_drew (S := fun w' => w'.cell? ⟨X, 0, none⟩ = some (.int .i64 m.pg) ∧ w'.cell? ⟨X, 1, none⟩ = some (.int .u32 m.ob) ∧ w'.cell? ⟨X, 2, none⟩ = some (.int .i64 m.op) ∧ w'.cell? ⟨X, 3, none⟩ = some (.int .i64 m.st) ∧ w'.cell? ⟨X, 4, none⟩ = some (.int .i64 m.wy) ∧ w'.cell? ⟨X, 5, none⟩ = some (.int .i64 m.li) ∧ w'.cell? ⟨X, 6, none⟩ = some (.int .i64 m.sl) ∧ w'.cell? ⟨X, 7, none⟩ = some (.int .u64 m.mj) ∧ w'.cell? ⟨X, 8, none⟩ = some (g1) ∧ w'.cell? ⟨X, 9, none⟩ = some (g2) ∧ w'.cell? ⟨X, 10, none⟩ = some (g3) ∧ w'.cell? ⟨X, 11, none⟩ = some (g4) ∧ w'.cell? ⟨Y, 0, none⟩ = some (.int .i64 n.pg) ∧ w'.cell? ⟨Y, 1, none⟩ = some (.int .u32 n.ob) ∧ w'.cell? ⟨Y, 2, none⟩ = some (.int .i64 n.op) ∧ w'.cell? ⟨Y, 3, none⟩ = some (.int .i64 n.st) ∧ w'.cell? ⟨Y, 4, none⟩ = some (.int .i64 n.wy) ∧ w'.cell? ⟨Y, 5, none⟩ = some (.int .i64 n.li) ∧ w'.cell? ⟨Y, 6, none⟩ = some (.int .i64 n.sl) ∧ w'.cell? ⟨Y, 7, none⟩ = some (.int .u64 n.mj) ∧ w'.cell? ⟨Y, 8, none⟩ = some (h1) ∧ w'.cell? ⟨Y, 9, none⟩ = some (h2) ∧ w'.cell? ⟨Y, 10, none⟩ = some (h3) ∧ w'.cell? ⟨Y, 11, none⟩ = some (h4)) hmx hS (fun HSX => ?_)
 clear hS
 obtain ⟨W0, hW0⟩ : ∃ W0,W0 = W.drew := ⟨_, rfl⟩
 rw [← hW0] at HSX hcall ⊢
 clear hW0
 refine tk hPan (i := 0) (oi := ⟨some 20, Op.move (.tmp 6), 44, "law.go:368", #[], none⟩) (v := .pointer (some ⟨X, 0, none⟩)) rfl (by kernel_rfl) (.inl ⟨by rfl, ?_⟩) HSX ?_
 ·intro wx d0
  obtain ⟨s1, s2, s3, s4, s5, s6, s7, s8, s9, s10, s11, s12, s13, s14, s15, s16, s17, s18, s19, s20, s21, s22, s23, s24⟩ := d0
  go_simp
 simp only [Act.put, sl0', sl1', sl2']
 refine tk hPan (i := 1) (oi := ⟨some 21, Op.nilCheck (.tmp 20), 0, "law.go:368", #[gd' 0], none⟩) (v := .pointer (some ⟨X, 0, none⟩)) rfl (by kernel_rfl) (.inl ⟨by rfl, ?_⟩) HSX ?_
 ·intro wx d0
  obtain ⟨s1, s2, s3, s4, s5, s6, s7, s8, s9, s10, s11, s12, s13, s14, s15, s16, s17, s18, s19, s20, s21, s22, s23, s24⟩ := d0
  go_simp
 simp only [Act.put, sl0', sl1', sl2']
 refine tk hPan (i := 2) (oi := ⟨some 22, Op.fieldAddr 49 (.tmp 21) 0, 0, "law.go:368", #[gd' 1], none⟩) (v := .pointer (some ⟨X, 0, none⟩)) rfl (by kernel_rfl) (.inl ⟨by rfl, ?_⟩) HSX ?_
 ·intro wx d0
  obtain ⟨s1, s2, s3, s4, s5, s6, s7, s8, s9, s10, s11, s12, s13, s14, s15, s16, s17, s18, s19, s20, s21, s22, s23, s24⟩ := d0
  go_simp
 simp only [Act.put, sl0', sl1', sl2']
 refine tk hPan (i := 3) (oi := ⟨some 23, Op.load 31 (.tmp 22), 31, "law.go:368", #[gd' 2], none⟩) (v := .agg #[.int .i64 m.pg, .int .u32 m.ob, .int .i64 m.op, .int .i64 m.st, .int .i64 m.wy, .int .i64 m.li, .int .i64 m.sl, .int .u64 m.mj, g1, g2, g3, g4]) rfl (by kernel_rfl) (.inl ⟨by rfl, ?_⟩) HSX ?_
 ·intro wx d0
  obtain ⟨s1, s2, s3, s4, s5, s6, s7, s8, s9, s10, s11, s12, s13, s14, s15, s16, s17, s18, s19, s20, s21, s22, s23, s24⟩ := d0
  go_simp
 simp only [Act.put, sl0', sl1', sl2']
 refine tk hPan (i := 4) (oi := ⟨some 24, Op.move (.tmp 7), 44, "law.go:368", #[], none⟩) (v := .pointer (some ⟨Y, 0, none⟩)) rfl (by kernel_rfl) (.inl ⟨by rfl, ?_⟩) HSX ?_
 ·intro wx d0
  obtain ⟨s1, s2, s3, s4, s5, s6, s7, s8, s9, s10, s11, s12, s13, s14, s15, s16, s17, s18, s19, s20, s21, s22, s23, s24⟩ := d0
  go_simp
 simp only [Act.put, sl0', sl1', sl2']
 refine tk hPan (i := 5) (oi := ⟨some 25, Op.nilCheck (.tmp 24), 0, "law.go:368", #[gd' 4], none⟩) (v := .pointer (some ⟨Y, 0, none⟩)) rfl (by kernel_rfl) (.inl ⟨by rfl, ?_⟩) HSX ?_
 ·intro wx d0
  obtain ⟨s1, s2, s3, s4, s5, s6, s7, s8, s9, s10, s11, s12, s13, s14, s15, s16, s17, s18, s19, s20, s21, s22, s23, s24⟩ := d0
  go_simp
 simp only [Act.put, sl0', sl1', sl2']
 refine tk hPan (i := 6) (oi := ⟨some 26, Op.fieldAddr 49 (.tmp 25) 0, 0, "law.go:368", #[gd' 5], none⟩) (v := .pointer (some ⟨Y, 0, none⟩)) rfl (by kernel_rfl) (.inl ⟨by rfl, ?_⟩) HSX ?_
 ·intro wx d0
  obtain ⟨s1, s2, s3, s4, s5, s6, s7, s8, s9, s10, s11, s12, s13, s14, s15, s16, s17, s18, s19, s20, s21, s22, s23, s24⟩ := d0
  go_simp
 simp only [Act.put, sl0', sl1', sl2']
 refine tk hPan (i := 7) (oi := ⟨some 27, Op.load 31 (.tmp 26), 31, "law.go:368", #[gd' 6], none⟩) (v := .agg #[.int .i64 n.pg, .int .u32 n.ob, .int .i64 n.op, .int .i64 n.st, .int .i64 n.wy, .int .i64 n.li, .int .i64 n.sl, .int .u64 n.mj, h1, h2, h3, h4]) rfl (by kernel_rfl) (.inl ⟨by rfl, ?_⟩) HSX ?_
 ·intro wx d0
  obtain ⟨s1, s2, s3, s4, s5, s6, s7, s8, s9, s10, s11, s12, s13, s14, s15, s16, s17, s18, s19, s20, s21, s22, s23, s24⟩ := d0
  go_simp
 simp only [Act.put, sl0', sl1', sl2']
 refine wpAnyH_ready (rs := [8]) (by kernel_rfl) (by simp) ?_
 refine AllReadyH.cons (o := ⟨some 28, Op.call { callee := Callee.value (Operand.func 13), args := #[Operand.tmp 23, Operand.tmp 27], argTypes := #[31, 31] }, 4, "law.go:368", #[gd' 3, gd' 7], none⟩) rfl (fun K hK => ?_) AllReadyH.nil
 rw [if_pos (by rfl)]
 go_simp
 go_at_call 13
 refine hcall.mono ?_
 rintro e w1 ⟨rfl, HS1, hP⟩
 go_simp
 refine hK.out _ _ HS1 (fun HSX => ?_)
 clear hK K
 refine tk hPan (i := 9) (oi := ⟨some 9, Op.assign (.tmp 28), 4, "law.go:368", #[gd' 8, gc' 8, gp' 0, gp' 1, gp' 2, gp' 3, gp' 4, gp' 5, gp' 6, gp' 7, gp' 8], none⟩) (v := .bool rv) rfl (by kernel_rfl) (.inl ⟨by rfl, ?_⟩) HSX ?_
 ·intro wx d0
  obtain ⟨s1, s2, s3, s4, s5, s6, s7, s8, s9, s10, s11, s12, s13, s14, s15, s16, s17, s18, s19, s20, s21, s22, s23, s24⟩ := d0
  go_simp
 simp only [Act.put, sl0', sl1', sl2']
 refine wpAnyH_done (by kernel_rfl) ?_ _
 exact hQ  _ hP
def ops6_6 : Array Oper := #[⟨some 29, Op.move (.tmp 6), 44, "law.go:369", #[], none⟩,
 ⟨some 30, Op.nilCheck (.tmp 29), 0, "law.go:369", #[gd' 0], none⟩,
 ⟨some 31, Op.fieldAddr 49 (.tmp 30) 0, 0, "law.go:369", #[gd' 1], none⟩,
 ⟨some 32, Op.load 31 (.tmp 31), 31, "law.go:369", #[gd' 2], none⟩,
 ⟨some 33, Op.move (.tmp 8), 44, "law.go:369", #[], none⟩,
 ⟨some 34, Op.nilCheck (.tmp 33), 0, "law.go:369", #[gd' 4], none⟩,
 ⟨some 35, Op.fieldAddr 49 (.tmp 34) 0, 0, "law.go:369", #[gd' 5], none⟩,
 ⟨some 36, Op.load 31 (.tmp 35), 31, "law.go:369", #[gd' 6], none⟩,
 ⟨some 37, Op.call { callee := Callee.value (Operand.func 13), args := #[Operand.tmp 32, Operand.tmp 36], argTypes := #[31, 31] }, 4, "law.go:369", #[gd' 3, gd' 7], none⟩,
 ⟨some 10, Op.assign (.tmp 37), 4, "law.go:369", #[gd' 8, gc' 8, gp' 0, gp' 1, gp' 2, gp' 3, gp' 4, gp' 5, gp' 6, gp' 7, gp' 8], none⟩]
set_option maxHeartbeats 8000000 in
set_option maxRecDepth 100000 in
theorem reg6_6 (W : World) (X Y : Nat) (m n : Mc) (g1 g2 g3 g4 h1 h2 h3 h4 : Value) (rv : Bool) (hS : (fun w' => w'.cell? ⟨X, 0, none⟩ = some (.int .i64 m.pg) ∧ w'.cell? ⟨X, 1, none⟩ = some (.int .u32 m.ob) ∧ w'.cell? ⟨X, 2, none⟩ = some (.int .i64 m.op) ∧ w'.cell? ⟨X, 3, none⟩ = some (.int .i64 m.st) ∧ w'.cell? ⟨X, 4, none⟩ = some (.int .i64 m.wy) ∧ w'.cell? ⟨X, 5, none⟩ = some (.int .i64 m.li) ∧ w'.cell? ⟨X, 6, none⟩ = some (.int .i64 m.sl) ∧ w'.cell? ⟨X, 7, none⟩ = some (.int .u64 m.mj) ∧ w'.cell? ⟨X, 8, none⟩ = some (g1) ∧ w'.cell? ⟨X, 9, none⟩ = some (g2) ∧ w'.cell? ⟨X, 10, none⟩ = some (g3) ∧ w'.cell? ⟨X, 11, none⟩ = some (g4) ∧ w'.cell? ⟨Y, 0, none⟩ = some (.int .i64 n.pg) ∧ w'.cell? ⟨Y, 1, none⟩ = some (.int .u32 n.ob) ∧ w'.cell? ⟨Y, 2, none⟩ = some (.int .i64 n.op) ∧ w'.cell? ⟨Y, 3, none⟩ = some (.int .i64 n.st) ∧ w'.cell? ⟨Y, 4, none⟩ = some (.int .i64 n.wy) ∧ w'.cell? ⟨Y, 5, none⟩ = some (.int .i64 n.li) ∧ w'.cell? ⟨Y, 6, none⟩ = some (.int .i64 n.sl) ∧ w'.cell? ⟨Y, 7, none⟩ = some (.int .u64 n.mj) ∧ w'.cell? ⟨Y, 8, none⟩ = some (h1) ∧ w'.cell? ⟨Y, 9, none⟩ = some (h2) ∧ w'.cell? ⟨Y, 10, none⟩ = some (h3) ∧ w'.cell? ⟨Y, 11, none⟩ = some (h4)) W.drew) (P : World → Prop) (hcall : Calls Tryz.prog 13 #[.agg #[.int .i64 m.pg, .int .u32 m.ob, .int .i64 m.op, .int .i64 m.st, .int .i64 m.wy, .int .i64 m.li, .int .i64 m.sl, .int .u64 m.mj, g1, g2, g3, g4], .agg #[.int .i64 n.pg, .int .u32 n.ob, .int .i64 n.op, .int .i64 n.st, .int .i64 n.wy, .int .i64 n.li, .int .i64 n.sl, .int .u64 n.mj, h1, h2, h3, h4]] W.drew fun e x1 => e = .returned (.bool rv) ∧ (x1.cell? ⟨X, 0, none⟩ = some (.int .i64 m.pg) ∧ x1.cell? ⟨X, 1, none⟩ = some (.int .u32 m.ob) ∧ x1.cell? ⟨X, 2, none⟩ = some (.int .i64 m.op) ∧ x1.cell? ⟨X, 3, none⟩ = some (.int .i64 m.st) ∧ x1.cell? ⟨X, 4, none⟩ = some (.int .i64 m.wy) ∧ x1.cell? ⟨X, 5, none⟩ = some (.int .i64 m.li) ∧ x1.cell? ⟨X, 6, none⟩ = some (.int .i64 m.sl) ∧ x1.cell? ⟨X, 7, none⟩ = some (.int .u64 m.mj) ∧ x1.cell? ⟨X, 8, none⟩ = some (g1) ∧ x1.cell? ⟨X, 9, none⟩ = some (g2) ∧ x1.cell? ⟨X, 10, none⟩ = some (g3) ∧ x1.cell? ⟨X, 11, none⟩ = some (g4) ∧ x1.cell? ⟨Y, 0, none⟩ = some (.int .i64 n.pg) ∧ x1.cell? ⟨Y, 1, none⟩ = some (.int .u32 n.ob) ∧ x1.cell? ⟨Y, 2, none⟩ = some (.int .i64 n.op) ∧ x1.cell? ⟨Y, 3, none⟩ = some (.int .i64 n.st) ∧ x1.cell? ⟨Y, 4, none⟩ = some (.int .i64 n.wy) ∧ x1.cell? ⟨Y, 5, none⟩ = some (.int .i64 n.li) ∧ x1.cell? ⟨Y, 6, none⟩ = some (.int .i64 n.sl) ∧ x1.cell? ⟨Y, 7, none⟩ = some (.int .u64 n.mj) ∧ x1.cell? ⟨Y, 8, none⟩ = some (h1) ∧ x1.cell? ⟨Y, 9, none⟩ = some (h2) ∧ x1.cell? ⟨Y, 10, none⟩ = some (h3) ∧ x1.cell? ⟨Y, 11, none⟩ = some (h4)) ∧ P  x1)
  (Q : Exit → Act → World → Prop) (hPan : ∀ c (a : Act) w (d : Option Tmp) v, Q (.panic c) (a.put d v) w → Q (.panic c) a w) {u0 u1 u2 u3 u4 u5 u7 u9 u10 u11 u12 u13 u14 u15 u16 u17 u18 u19 u20 u21 u22 u23 u24 u25 u26 u27 u28 u29 u30 u31 u32 u33 u34 u35 u36 u37 u38 u39 u40 u41 u42 u43 u44 u45 u46 u47 u48 u49 u50 u51 u52 u53 u54 u55 u56 u57 u58 : Value}
  (hQ : ∀  w1, P  w1 → Q .normal ⟨#[u0,u1,u2,u3,u4,u5, .pointer (some ⟨X, 0, none⟩), u7, .pointer (some ⟨Y, 0, none⟩), u9, .bool rv, u11,u12,u13,u14,u15,u16,u17,u18,u19,u20,u21,u22,u23,u24,u25,u26,u27,u28, .pointer (some ⟨X, 0, none⟩), .pointer (some ⟨X, 0, none⟩), .pointer (some ⟨X, 0, none⟩), .agg #[.int .i64 m.pg, .int .u32 m.ob, .int .i64 m.op, .int .i64 m.st, .int .i64 m.wy, .int .i64 m.li, .int .i64 m.sl, .int .u64 m.mj, g1, g2, g3, g4], .pointer (some ⟨Y, 0, none⟩), .pointer (some ⟨Y, 0, none⟩), .pointer (some ⟨Y, 0, none⟩), .agg #[.int .i64 n.pg, .int .u32 n.ob, .int .i64 n.op, .int .i64 n.st, .int .i64 n.wy, .int .i64 n.li, .int .i64 n.sl, .int .u64 n.mj, h1, h2, h3, h4], .bool rv, u38,u39,u40,u41,u42,u43,u44,u45,u46,u47,u48,u49,u50,u51,u52,u53,u54,u55,u56,u57,u58], []⟩ w1) :
  Code.wp Tryz.prog (Code.region 6 ops6_6 true) Q ⟨#[u0,u1,u2,u3,u4,u5, .pointer (some ⟨X, 0, none⟩), u7, .pointer (some ⟨Y, 0, none⟩), u9,u10,u11,u12,u13,u14,u15,u16,u17,u18,u19,u20,u21,u22,u23,u24,u25,u26,u27,u28,u29,u30,u31,u32,u33,u34,u35,u36,u37,u38,u39,u40,u41,u42,u43,u44,u45,u46,u47,u48,u49,u50,u51,u52,u53,u54,u55,u56,u57,u58], []⟩ W := by
 refine wp_region_held_drew (S := fun w' => w'.cell? ⟨X, 0, none⟩ = some (.int .i64 m.pg) ∧ w'.cell? ⟨X, 1, none⟩ = some (.int .u32 m.ob) ∧ w'.cell? ⟨X, 2, none⟩ = some (.int .i64 m.op) ∧ w'.cell? ⟨X, 3, none⟩ = some (.int .i64 m.st) ∧ w'.cell? ⟨X, 4, none⟩ = some (.int .i64 m.wy) ∧ w'.cell? ⟨X, 5, none⟩ = some (.int .i64 m.li) ∧ w'.cell? ⟨X, 6, none⟩ = some (.int .i64 m.sl) ∧ w'.cell? ⟨X, 7, none⟩ = some (.int .u64 m.mj) ∧ w'.cell? ⟨X, 8, none⟩ = some (g1) ∧ w'.cell? ⟨X, 9, none⟩ = some (g2) ∧ w'.cell? ⟨X, 10, none⟩ = some (g3) ∧ w'.cell? ⟨X, 11, none⟩ = some (g4) ∧ w'.cell? ⟨Y, 0, none⟩ = some (.int .i64 n.pg) ∧ w'.cell? ⟨Y, 1, none⟩ = some (.int .u32 n.ob) ∧ w'.cell? ⟨Y, 2, none⟩ = some (.int .i64 n.op) ∧ w'.cell? ⟨Y, 3, none⟩ = some (.int .i64 n.st) ∧ w'.cell? ⟨Y, 4, none⟩ = some (.int .i64 n.wy) ∧ w'.cell? ⟨Y, 5, none⟩ = some (.int .i64 n.li) ∧ w'.cell? ⟨Y, 6, none⟩ = some (.int .i64 n.sl) ∧ w'.cell? ⟨Y, 7, none⟩ = some (.int .u64 n.mj) ∧ w'.cell? ⟨Y, 8, none⟩ = some (h1) ∧ w'.cell? ⟨Y, 9, none⟩ = some (h2) ∧ w'.cell? ⟨Y, 10, none⟩ = some (h3) ∧ w'.cell? ⟨Y, 11, none⟩ = some (h4)) hmx hS (fun HSX => ?_)
 clear hS
 obtain ⟨W0, hW0⟩ : ∃ W0,W0 = W.drew := ⟨_, rfl⟩
 rw [← hW0] at HSX hcall ⊢
 clear hW0
 refine tk hPan (i := 0) (oi := ⟨some 29, Op.move (.tmp 6), 44, "law.go:369", #[], none⟩) (v := .pointer (some ⟨X, 0, none⟩)) rfl (by kernel_rfl) (.inl ⟨by rfl, ?_⟩) HSX ?_
 ·intro wx d0
  obtain ⟨s1, s2, s3, s4, s5, s6, s7, s8, s9, s10, s11, s12, s13, s14, s15, s16, s17, s18, s19, s20, s21, s22, s23, s24⟩ := d0
  go_simp
 simp only [Act.put, sl0', sl1', sl2']
 refine tk hPan (i := 1) (oi := ⟨some 30, Op.nilCheck (.tmp 29), 0, "law.go:369", #[gd' 0], none⟩) (v := .pointer (some ⟨X, 0, none⟩)) rfl (by kernel_rfl) (.inl ⟨by rfl, ?_⟩) HSX ?_
 ·intro wx d0
  obtain ⟨s1, s2, s3, s4, s5, s6, s7, s8, s9, s10, s11, s12, s13, s14, s15, s16, s17, s18, s19, s20, s21, s22, s23, s24⟩ := d0
  go_simp
 simp only [Act.put, sl0', sl1', sl2']
 refine tk hPan (i := 2) (oi := ⟨some 31, Op.fieldAddr 49 (.tmp 30) 0, 0, "law.go:369", #[gd' 1], none⟩) (v := .pointer (some ⟨X, 0, none⟩)) rfl (by kernel_rfl) (.inl ⟨by rfl, ?_⟩) HSX ?_
 ·intro wx d0
  obtain ⟨s1, s2, s3, s4, s5, s6, s7, s8, s9, s10, s11, s12, s13, s14, s15, s16, s17, s18, s19, s20, s21, s22, s23, s24⟩ := d0
  go_simp
 simp only [Act.put, sl0', sl1', sl2']
 refine tk hPan (i := 3) (oi := ⟨some 32, Op.load 31 (.tmp 31), 31, "law.go:369", #[gd' 2], none⟩) (v := .agg #[.int .i64 m.pg, .int .u32 m.ob, .int .i64 m.op, .int .i64 m.st, .int .i64 m.wy, .int .i64 m.li, .int .i64 m.sl, .int .u64 m.mj, g1, g2, g3, g4]) rfl (by kernel_rfl) (.inl ⟨by rfl, ?_⟩) HSX ?_
 ·intro wx d0
  obtain ⟨s1, s2, s3, s4, s5, s6, s7, s8, s9, s10, s11, s12, s13, s14, s15, s16, s17, s18, s19, s20, s21, s22, s23, s24⟩ := d0
  go_simp
 simp only [Act.put, sl0', sl1', sl2']
 refine tk hPan (i := 4) (oi := ⟨some 33, Op.move (.tmp 8), 44, "law.go:369", #[], none⟩) (v := .pointer (some ⟨Y, 0, none⟩)) rfl (by kernel_rfl) (.inl ⟨by rfl, ?_⟩) HSX ?_
 ·intro wx d0
  obtain ⟨s1, s2, s3, s4, s5, s6, s7, s8, s9, s10, s11, s12, s13, s14, s15, s16, s17, s18, s19, s20, s21, s22, s23, s24⟩ := d0
  go_simp
 simp only [Act.put, sl0', sl1', sl2']
 refine tk hPan (i := 5) (oi := ⟨some 34, Op.nilCheck (.tmp 33), 0, "law.go:369", #[gd' 4], none⟩) (v := .pointer (some ⟨Y, 0, none⟩)) rfl (by kernel_rfl) (.inl ⟨by rfl, ?_⟩) HSX ?_
 ·intro wx d0
  obtain ⟨s1, s2, s3, s4, s5, s6, s7, s8, s9, s10, s11, s12, s13, s14, s15, s16, s17, s18, s19, s20, s21, s22, s23, s24⟩ := d0
  go_simp
 simp only [Act.put, sl0', sl1', sl2']
 refine tk hPan (i := 6) (oi := ⟨some 35, Op.fieldAddr 49 (.tmp 34) 0, 0, "law.go:369", #[gd' 5], none⟩) (v := .pointer (some ⟨Y, 0, none⟩)) rfl (by kernel_rfl) (.inl ⟨by rfl, ?_⟩) HSX ?_
 ·intro wx d0
  obtain ⟨s1, s2, s3, s4, s5, s6, s7, s8, s9, s10, s11, s12, s13, s14, s15, s16, s17, s18, s19, s20, s21, s22, s23, s24⟩ := d0
  go_simp
 simp only [Act.put, sl0', sl1', sl2']
 refine tk hPan (i := 7) (oi := ⟨some 36, Op.load 31 (.tmp 35), 31, "law.go:369", #[gd' 6], none⟩) (v := .agg #[.int .i64 n.pg, .int .u32 n.ob, .int .i64 n.op, .int .i64 n.st, .int .i64 n.wy, .int .i64 n.li, .int .i64 n.sl, .int .u64 n.mj, h1, h2, h3, h4]) rfl (by kernel_rfl) (.inl ⟨by rfl, ?_⟩) HSX ?_
 ·intro wx d0
  obtain ⟨s1, s2, s3, s4, s5, s6, s7, s8, s9, s10, s11, s12, s13, s14, s15, s16, s17, s18, s19, s20, s21, s22, s23, s24⟩ := d0
  go_simp
 simp only [Act.put, sl0', sl1', sl2']
 refine wpAnyH_ready (rs := [8]) (by kernel_rfl) (by simp) ?_
 refine AllReadyH.cons (o := ⟨some 37, Op.call { callee := Callee.value (Operand.func 13), args := #[Operand.tmp 32, Operand.tmp 36], argTypes := #[31, 31] }, 4, "law.go:369", #[gd' 3, gd' 7], none⟩) rfl (fun K hK => ?_) AllReadyH.nil
 rw [if_pos (by rfl)]
 go_simp
 go_at_call 13
 refine hcall.mono ?_
 rintro e w1 ⟨rfl, HS1, hP⟩
 go_simp
 refine hK.out _ _ HS1 (fun HSX => ?_)
 clear hK K
 refine tk hPan (i := 9) (oi := ⟨some 10, Op.assign (.tmp 37), 4, "law.go:369", #[gd' 8, gc' 8, gp' 0, gp' 1, gp' 2, gp' 3, gp' 4, gp' 5, gp' 6, gp' 7, gp' 8], none⟩) (v := .bool rv) rfl (by kernel_rfl) (.inl ⟨by rfl, ?_⟩) HSX ?_
 ·intro wx d0
  obtain ⟨s1, s2, s3, s4, s5, s6, s7, s8, s9, s10, s11, s12, s13, s14, s15, s16, s17, s18, s19, s20, s21, s22, s23, s24⟩ := d0
  go_simp
 simp only [Act.put, sl0', sl1', sl2']
 refine wpAnyH_done (by kernel_rfl) ?_ _
 exact hQ  _ hP
end Go.Proofs.YtknlpjcdemijgaaGreat
namespace Go.Proofs.YtknlpjcdemijgaaGreat
open Go.ChangeShapes Go.WideShapes Go.ChangeAt Go.RowKit
set_option linter.unusedVariables false
theorem lequal {lo lo2 : Nat} {w : World} {X Y : Nat} {g h : Cf} {v u : LV} (a : LF lo w X g v) (b : LF lo2 w Y h u) :
  Calls Tryz.prog 13 #[.agg #[.int .i64 g.m.pg, .int .u32 g.m.ob, .int .i64 g.m.op, .int .i64 g.m.st, .int .i64 g.m.wy, .int .i64 g.m.li, .int .i64 g.m.sl, .int .u64 g.m.mj, .slice v.ca v.L.length v.cc, .slice v.wa g.ws.length v.wc, .slice v.sa v.M.length v.sc, .slice v.qa g.qs.length v.qc], .agg #[.int .i64 h.m.pg, .int .u32 h.m.ob, .int .i64 h.m.op, .int .i64 h.m.st, .int .i64 h.m.wy, .int .i64 h.m.li, .int .i64 h.m.sl, .int .u64 h.m.mj, .slice u.ca u.L.length u.cc, .slice u.wa h.ws.length u.wc, .slice u.sa u.M.length u.sc, .slice u.qa h.qs.length u.qc]] w fun r w' => r = .returned (.bool (decide (g = h))) ∧ Kp w w' := by
 rw [a.lL, a.lM, b.lL, b.lM]
 obtain ⟨_, xca', xcc', xwa', xwc', xsa', xsc', xqa', xqc', hu, x1, x2, x3, x4⟩ := a.isCf
 obtain ⟨_, yca', ycc', ywa', ywc', ysa', ysc', yqa', yqc', hv, y1, y2, y3, y4⟩ := b.isCf
 unfold cfV at hu hv
 simp only [Value.agg.injEq, Array.mk.injEq, List.cons.injEq, Value.slice.injEq, true_and, and_true] at hu hv
 obtain ⟨⟨rfl, rfl⟩, ⟨rfl, rfl⟩, ⟨rfl, rfl⟩, rfl, rfl⟩ := hu
 obtain ⟨⟨rfl, rfl⟩, ⟨rfl, rfl⟩, ⟨rfl, rfl⟩, rfl, rfl⟩ := hv
 exact equal_walk w _ _ g h _ _ _ _ _ _ _ _ _ _ _ _ _ _ _ _ x1 x2 x3 x4 y1 y2 y3 y4 _ rfl
set_option maxHeartbeats 16000000 in
set_option maxRecDepth 100000 in
theorem same_main (w : World) (N : Nat) (g h : Cf) (fg : g.fine) (fh : h.fine) (xca xwa xsa xqa yca ywa ysa yqa : Option Addr) (xcc xwc xsc xqc ycc ywc ysc yqc : Nat)
  (x1 : RdL w N 4 (CeAt N) xca g.cs) (x2 : RdL w N 3 WiAt xwa g.ws) (x3 : RdL w N 3 (SaAt N) xsa g.ss) (x4 : RdL w N 6 QuAt xqa g.qs)
  (y1 : RdL w N 4 (CeAt N) yca h.cs) (y2 : RdL w N 3 WiAt ywa h.ws) (y3 : RdL w N 3 (SaAt N) ysa h.ss) (y4 : RdL w N 6 QuAt yqa h.qs) :
  Calls Tryz.prog 6 #[.agg #[.int .i64 g.m.pg, .int .u32 g.m.ob, .int .i64 g.m.op, .int .i64 g.m.st, .int .i64 g.m.wy, .int .i64 g.m.li, .int .i64 g.m.sl, .int .u64 g.m.mj, .slice xca g.cs.length xcc, .slice xwa g.ws.length xwc, .slice xsa g.ss.length xsc, .slice xqa g.qs.length xqc], .agg #[.int .i64 h.m.pg, .int .u32 h.m.ob, .int .i64 h.m.op, .int .i64 h.m.st, .int .i64 h.m.wy, .int .i64 h.m.li, .int .i64 h.m.sl, .int .u64 h.m.mj, .slice yca h.cs.length ycc, .slice ywa h.ws.length ywc, .slice ysa h.ss.length ysc, .slice yqa h.qs.length yqc]] w fun r w' => r = .returned (.bool true) ∧ Below w.heap.size w w' := by
 obtain ⟨w0, hw0⟩ : ∃ w0, w0 = (w.alloc (.cells #[.int .i64 g.m.pg, .int .u32 g.m.ob, .int .i64 g.m.op, .int .i64 g.m.st, .int .i64 g.m.wy, .int .i64 g.m.li, .int .i64 g.m.sl, .int .u64 g.m.mj, .slice xca g.cs.length xcc, .slice xwa g.ws.length xwc, .slice xsa g.ss.length xsc, .slice xqa g.qs.length xqc] 31)).alloc (.cells #[.int .i64 h.m.pg, .int .u32 h.m.ob, .int .i64 h.m.op, .int .i64 h.m.st, .int .i64 h.m.wy, .int .i64 h.m.li, .int .i64 h.m.sl, .int .u64 h.m.mj, .slice yca h.cs.length ycc, .slice ywa h.ws.length ywc, .slice ysa h.ss.length ysc, .slice yqa h.qs.length yqc] 31) := ⟨_, rfl⟩
 have k0 : Kp w w0 := by rw [hw0]; exact Kp.trans (Kp.al _ _) (Kp.al _ _)
 have t0 : Two w0 w.heap.size #[.int .i64 g.m.pg, .int .u32 g.m.ob, .int .i64 g.m.op, .int .i64 g.m.st, .int .i64 g.m.wy, .int .i64 g.m.li, .int .i64 g.m.sl, .int .u64 g.m.mj, .slice xca g.cs.length xcc, .slice xwa g.ws.length xwc, .slice xsa g.ss.length xsc, .slice xqa g.qs.length xqc] #[.int .i64 h.m.pg, .int .u32 h.m.ob, .int .i64 h.m.op, .int .i64 h.m.st, .int .i64 h.m.wy, .int .i64 h.m.li, .int .i64 h.m.sl, .int .u64 h.m.mj, .slice yca h.cs.length ycc, .slice ywa h.ws.length ywc, .slice ysa h.ss.length ysc, .slice yqa h.qs.length yqc] := by
  refine ⟨by rw [hw0]; exact (Kp.al _ _).heap (heap_alloc_new w _), ?_⟩
  have := heap_alloc_new (w.alloc (.cells #[.int .i64 g.m.pg, .int .u32 g.m.ob, .int .i64 g.m.op, .int .i64 g.m.st, .int .i64 g.m.wy, .int .i64 g.m.li, .int .i64 g.m.sl, .int .u64 g.m.mj, .slice xca g.cs.length xcc, .slice xwa g.ws.length xwc, .slice xsa g.ss.length xsc, .slice xqa g.qs.length xqc] 31)) (.cells #[.int .i64 h.m.pg, .int .u32 h.m.ob, .int .i64 h.m.op, .int .i64 h.m.st, .int .i64 h.m.wy, .int .i64 h.m.li, .int .i64 h.m.sl, .int .u64 h.m.mj, .slice yca h.cs.length ycc, .slice ywa h.ws.length ywc, .slice ysa h.ss.length ysc, .slice yqa h.qs.length yqc] 31)
  rw [hw0]
  simpa using this
 have s0 : w.heap.size + 2 ≤ w0.heap.size := by have := hp_lt t0.2; omega
 have HX : Hid (∀ w', Kp w w' → RdL w' N 4 (CeAt N) xca g.cs ∧ RdL w' N 3 WiAt xwa g.ws ∧ RdL w' N 3 (SaAt N) xsa g.ss ∧ RdL w' N 6 QuAt xqa g.qs) := fun w' k => ⟨CeAts.kp x1 k, WiAts.kp x2 k, SaAts.kp x3 k, QuAts.kp x4 k⟩
 have HY : Hid (∀ w', Kp w w' → RdL w' N 4 (CeAt N) yca h.cs ∧ RdL w' N 3 WiAt ywa h.ws ∧ RdL w' N 3 (SaAt N) ysa h.ss ∧ RdL w' N 6 QuAt yqa h.qs) := fun w' k => ⟨CeAts.kp y1 k, WiAts.kp y2 k, SaAts.kp y3 k, QuAts.kp y4 k⟩
 have HF : Hid (g.fine ∧ h.fine) := ⟨fg, fh⟩
 have H0 : Hid (Kp w w0 ∧ Two w0 w.heap.size #[.int .i64 g.m.pg, .int .u32 g.m.ob, .int .i64 g.m.op, .int .i64 g.m.st, .int .i64 g.m.wy, .int .i64 g.m.li, .int .i64 g.m.sl, .int .u64 g.m.mj, .slice xca g.cs.length xcc, .slice xwa g.ws.length xwc, .slice xsa g.ss.length xsc, .slice xqa g.qs.length xqc] #[.int .i64 h.m.pg, .int .u32 h.m.ob, .int .i64 h.m.op, .int .i64 h.m.st, .int .i64 h.m.wy, .int .i64 h.m.li, .int .i64 h.m.sl, .int .u64 h.m.mj, .slice yca h.cs.length ycc, .slice ywa h.ws.length ywc, .slice ysa h.ss.length ysc, .slice yqa h.qs.length yqc] ∧ w.heap.size + 2 ≤ w0.heap.size) := ⟨k0, t0, s0⟩
 clear x1 x2 x3 x4 y1 y2 y3 y4 fg fh k0 t0 s0
 go_enter Tryz.func6, Tryz.ntmps6
 go_wp2_with fail
 rw [← hw0]
 clear hw0
 go_at_call 9
 refine (known_any w0).mono ?_
 rintro r w1 ⟨rfl, k1⟩
 have H1 : Hid (Kp w w1 ∧ Two w1 w.heap.size #[.int .i64 g.m.pg, .int .u32 g.m.ob, .int .i64 g.m.op, .int .i64 g.m.st, .int .i64 g.m.wy, .int .i64 g.m.li, .int .i64 g.m.sl, .int .u64 g.m.mj, .slice xca g.cs.length xcc, .slice xwa g.ws.length xwc, .slice xsa g.ss.length xsc, .slice xqa g.qs.length xqc] #[.int .i64 h.m.pg, .int .u32 h.m.ob, .int .i64 h.m.op, .int .i64 h.m.st, .int .i64 h.m.wy, .int .i64 h.m.li, .int .i64 h.m.sl, .int .u64 h.m.mj, .slice yca h.cs.length ycc, .slice ywa h.ws.length ywc, .slice ysa h.ss.length ysc, .slice yqa h.qs.length yqc] ∧ Kp w0 w1) := ⟨H0.out.1.trans k1, H0.out.2.1.kp k1, k1⟩
 clear k1
 have hU := H1.out.2.1.1
 have hV := H1.out.2.1.2
 go_wp2_with (refine wpList_load_row rfl 31 (.tmp 2) rfl (w.heap.size) rfl 31 #[.int .i64 g.m.pg, .int .u32 g.m.ob, .int .i64 g.m.op, .int .i64 g.m.st, .int .i64 g.m.wy, .int .i64 g.m.li, .int .i64 g.m.sl, .int .u64 g.m.mj, .slice xca g.cs.length xcc, .slice xwa g.ws.length xwc, .slice xsa g.ss.length xsc, .slice xqa g.qs.length xqc] (0, 0) _ hU Tryz.underlying31 rfl size31 ?_)
 clear hU hV
 go_at_call 14
 obtain ⟨x1, x2, x3, x4⟩ := HX.out w1 H1.out.1
 refine (lent_walk w1 N g HF.out.1 _ _ _ _ _ _ _ _ x1 x2 x3 x4).mono ?_
 clear x1 x2 x3 x4
 rintro r w2 ⟨X, v, rfl, hL2, k2⟩
 have H2 : Hid (Kp w w2 ∧ Two w2 w.heap.size #[.int .i64 g.m.pg, .int .u32 g.m.ob, .int .i64 g.m.op, .int .i64 g.m.st, .int .i64 g.m.wy, .int .i64 g.m.li, .int .i64 g.m.sl, .int .u64 g.m.mj, .slice xca g.cs.length xcc, .slice xwa g.ws.length xwc, .slice xsa g.ss.length xsc, .slice xqa g.qs.length xqc] #[.int .i64 h.m.pg, .int .u32 h.m.ob, .int .i64 h.m.op, .int .i64 h.m.st, .int .i64 h.m.wy, .int .i64 h.m.li, .int .i64 h.m.sl, .int .u64 h.m.mj, .slice yca h.cs.length ycc, .slice ywa h.ws.length ywc, .slice ysa h.ss.length ysc, .slice yqa h.qs.length yqc] ∧ Kp w0 w2 ∧ LF w1.heap.size w2 X g v ∧ w1.heap.size ≤ w2.heap.size) := ⟨H1.out.1.trans k2, H1.out.2.1.kp k2, H1.out.2.2.trans k2, hL2, k2.size⟩
 have s1 : Hid (w0.heap.size ≤ w1.heap.size) := H1.out.2.2.size
 clear k2 hL2 H1
 have hV := H2.out.2.1.2
 go_wp2_with (refine wpList_load_row rfl 31 (.tmp 3) rfl (w.heap.size + 1) rfl 31 #[.int .i64 h.m.pg, .int .u32 h.m.ob, .int .i64 h.m.op, .int .i64 h.m.st, .int .i64 h.m.wy, .int .i64 h.m.li, .int .i64 h.m.sl, .int .u64 h.m.mj, .slice yca h.cs.length ycc, .slice ywa h.ws.length ywc, .slice ysa h.ss.length ysc, .slice yqa h.qs.length yqc] (0, 0) _ hV Tryz.underlying31 rfl size31 ?_)
 clear hV
 go_at_call 14
 obtain ⟨x1, x2, x3, x4⟩ := HY.out w2 H2.out.1
 refine (lent_walk w2 N h HF.out.2 _ _ _ _ _ _ _ _ x1 x2 x3 x4).mono ?_
 clear x1 x2 x3 x4
 rintro r w3 ⟨Y, u, rfl, hL3, k3⟩
 have H3 : Hid (Kp w w3 ∧ Two w3 w.heap.size #[.int .i64 g.m.pg, .int .u32 g.m.ob, .int .i64 g.m.op, .int .i64 g.m.st, .int .i64 g.m.wy, .int .i64 g.m.li, .int .i64 g.m.sl, .int .u64 g.m.mj, .slice xca g.cs.length xcc, .slice xwa g.ws.length xwc, .slice xsa g.ss.length xsc, .slice xqa g.qs.length xqc] #[.int .i64 h.m.pg, .int .u32 h.m.ob, .int .i64 h.m.op, .int .i64 h.m.st, .int .i64 h.m.wy, .int .i64 h.m.li, .int .i64 h.m.sl, .int .u64 h.m.mj, .slice yca h.cs.length ycc, .slice ywa h.ws.length ywc, .slice ysa h.ss.length ysc, .slice yqa h.qs.length yqc] ∧ Kp w0 w3 ∧ LF w1.heap.size w3 X g v ∧ LF w2.heap.size w3 Y h u ∧ Kp w2 w3) := ⟨H2.out.1.trans k3, H2.out.2.1.kp k3, H2.out.2.2.1.trans k3, H2.out.2.2.2.1.kp k3, hL3, k3⟩
 clear k3 hL3
 have hU := H3.out.2.1.1
 go_wp2_with (refine wpList_load_row rfl 31 (.tmp 2) rfl (w.heap.size) rfl 31 #[.int .i64 g.m.pg, .int .u32 g.m.ob, .int .i64 g.m.op, .int .i64 g.m.st, .int .i64 g.m.wy, .int .i64 g.m.li, .int .i64 g.m.sl, .int .u64 g.m.mj, .slice xca g.cs.length xcc, .slice xwa g.ws.length xwc, .slice xsa g.ss.length xsc, .slice xqa g.qs.length xqc] (0, 0) _ hU Tryz.underlying31 rfl size31 ?_)
 clear hU
 go_at_call 14
 obtain ⟨x1, x2, x3, x4⟩ := HX.out w3 H3.out.1
 refine (lent_walk w3 N g HF.out.1 _ _ _ _ _ _ _ _ x1 x2 x3 x4).mono ?_
 clear x1 x2 x3 x4
 rintro r w4 ⟨Z, z, rfl, hL4, k4⟩
 have H4 : Hid (Kp w w4 ∧ Two w4 w.heap.size #[.int .i64 g.m.pg, .int .u32 g.m.ob, .int .i64 g.m.op, .int .i64 g.m.st, .int .i64 g.m.wy, .int .i64 g.m.li, .int .i64 g.m.sl, .int .u64 g.m.mj, .slice xca g.cs.length xcc, .slice xwa g.ws.length xwc, .slice xsa g.ss.length xsc, .slice xqa g.qs.length xqc] #[.int .i64 h.m.pg, .int .u32 h.m.ob, .int .i64 h.m.op, .int .i64 h.m.st, .int .i64 h.m.wy, .int .i64 h.m.li, .int .i64 h.m.sl, .int .u64 h.m.mj, .slice yca h.cs.length ycc, .slice ywa h.ws.length ywc, .slice ysa h.ss.length ysc, .slice yqa h.qs.length yqc] ∧ Kp w0 w4 ∧ LF w1.heap.size w4 X g v ∧ LF w2.heap.size w4 Y h u ∧ LF w3.heap.size w4 Z g z ∧ Kp w2 w4) := ⟨H3.out.1.trans k4, H3.out.2.1.kp k4, H3.out.2.2.1.trans k4, H3.out.2.2.2.1.kp k4, H3.out.2.2.2.2.1.kp k4, hL4, H3.out.2.2.2.2.2.trans k4⟩
 clear k4 hL4 H3
 go_upto_region 5 with fail
 have kd := Kp.drew w4
 have aX := H4.out.2.2.2.1.kp kd
 have aY := H4.out.2.2.2.2.1.kp kd
 refine reg6_5 w4 X Y g.m h.m _ _ _ _ _ _ _ _ (decide (g = h)) ⟨box_cells aX.box 0 rfl, box_cells aX.box 1 rfl, box_cells aX.box 2 rfl, box_cells aX.box 3 rfl, box_cells aX.box 4 rfl, box_cells aX.box 5 rfl, box_cells aX.box 6 rfl, box_cells aX.box 7 rfl, box_cells aX.box 8 rfl, box_cells aX.box 9 rfl, box_cells aX.box 10 rfl, box_cells aX.box 11 rfl, box_cells aY.box 0 rfl, box_cells aY.box 1 rfl, box_cells aY.box 2 rfl, box_cells aY.box 3 rfl, box_cells aY.box 4 rfl, box_cells aY.box 5 rfl, box_cells aY.box 6 rfl, box_cells aY.box 7 rfl, box_cells aY.box 8 rfl, box_cells aY.box 9 rfl, box_cells aY.box 10 rfl, box_cells aY.box 11 rfl⟩ (fun w5 => Kp w4 w5) ?_ _ (fun _ _ _ q _ h => by cases q <;> exact h) ?_
 ·refine (lequal aX aY).mono ?_
  rintro e x ⟨rfl, hk⟩
  have bX := hk.heap aX.box
  have bY := hk.heap aY.box
  exact ⟨rfl, ⟨box_cells bX 0 rfl, box_cells bX 1 rfl, box_cells bX 2 rfl, box_cells bX 3 rfl, box_cells bX 4 rfl, box_cells bX 5 rfl, box_cells bX 6 rfl, box_cells bX 7 rfl, box_cells bX 8 rfl, box_cells bX 9 rfl, box_cells bX 10 rfl, box_cells bX 11 rfl, box_cells bY 0 rfl, box_cells bY 1 rfl, box_cells bY 2 rfl, box_cells bY 3 rfl, box_cells bY 4 rfl, box_cells bY 5 rfl, box_cells bY 6 rfl, box_cells bY 7 rfl, box_cells bY 8 rfl, box_cells bY 9 rfl, box_cells bY 10 rfl, box_cells bY 11 rfl⟩, kd.trans hk⟩
 clear kd aX aY
 intro w5 k5
 have H5 : Hid (Kp w w5 ∧ Two w5 w.heap.size #[.int .i64 g.m.pg, .int .u32 g.m.ob, .int .i64 g.m.op, .int .i64 g.m.st, .int .i64 g.m.wy, .int .i64 g.m.li, .int .i64 g.m.sl, .int .u64 g.m.mj, .slice xca g.cs.length xcc, .slice xwa g.ws.length xwc, .slice xsa g.ss.length xsc, .slice xqa g.qs.length xqc] #[.int .i64 h.m.pg, .int .u32 h.m.ob, .int .i64 h.m.op, .int .i64 h.m.st, .int .i64 h.m.wy, .int .i64 h.m.li, .int .i64 h.m.sl, .int .u64 h.m.mj, .slice yca h.cs.length ycc, .slice ywa h.ws.length ywc, .slice ysa h.ss.length ysc, .slice yqa h.qs.length yqc] ∧ Kp w0 w5 ∧ LF w1.heap.size w5 X g v ∧ LF w2.heap.size w5 Y h u ∧ LF w3.heap.size w5 Z g z ∧ Kp w2 w5) := ⟨H4.out.1.trans k5, H4.out.2.1.kp k5, H4.out.2.2.1.trans k5, H4.out.2.2.2.1.kp k5, H4.out.2.2.2.2.1.kp k5, H4.out.2.2.2.2.2.1.kp k5, H4.out.2.2.2.2.2.2.trans k5⟩
 clear k5 H4
 go_upto_region 6 with fail
 have kd := Kp.drew w5
 have aX := H5.out.2.2.2.1.kp kd
 have aZ := H5.out.2.2.2.2.2.1.kp kd
 refine reg6_6 w5 X Z g.m g.m _ _ _ _ _ _ _ _ (decide (g = g)) ⟨box_cells aX.box 0 rfl, box_cells aX.box 1 rfl, box_cells aX.box 2 rfl, box_cells aX.box 3 rfl, box_cells aX.box 4 rfl, box_cells aX.box 5 rfl, box_cells aX.box 6 rfl, box_cells aX.box 7 rfl, box_cells aX.box 8 rfl, box_cells aX.box 9 rfl, box_cells aX.box 10 rfl, box_cells aX.box 11 rfl, box_cells aZ.box 0 rfl, box_cells aZ.box 1 rfl, box_cells aZ.box 2 rfl, box_cells aZ.box 3 rfl, box_cells aZ.box 4 rfl, box_cells aZ.box 5 rfl, box_cells aZ.box 6 rfl, box_cells aZ.box 7 rfl, box_cells aZ.box 8 rfl, box_cells aZ.box 9 rfl, box_cells aZ.box 10 rfl, box_cells aZ.box 11 rfl⟩ (fun w6 => Kp w5 w6) ?_ _ (fun _ _ _ q _ h => by cases q <;> exact h) ?_
 ·refine (lequal aX aZ).mono ?_
  rintro e x ⟨rfl, hk⟩
  have bX := hk.heap aX.box
  have bZ := hk.heap aZ.box
  exact ⟨rfl, ⟨box_cells bX 0 rfl, box_cells bX 1 rfl, box_cells bX 2 rfl, box_cells bX 3 rfl, box_cells bX 4 rfl, box_cells bX 5 rfl, box_cells bX 6 rfl, box_cells bX 7 rfl, box_cells bX 8 rfl, box_cells bX 9 rfl, box_cells bX 10 rfl, box_cells bX 11 rfl, box_cells bZ 0 rfl, box_cells bZ 1 rfl, box_cells bZ 2 rfl, box_cells bZ 3 rfl, box_cells bZ 4 rfl, box_cells bZ 5 rfl, box_cells bZ 6 rfl, box_cells bZ 7 rfl, box_cells bZ 8 rfl, box_cells bZ 9 rfl, box_cells bZ 10 rfl, box_cells bZ 11 rfl⟩, kd.trans hk⟩
 clear kd aX aZ
 intro w6 k6
 have H6 : Hid (Kp w w6 ∧ Two w6 w.heap.size #[.int .i64 g.m.pg, .int .u32 g.m.ob, .int .i64 g.m.op, .int .i64 g.m.st, .int .i64 g.m.wy, .int .i64 g.m.li, .int .i64 g.m.sl, .int .u64 g.m.mj, .slice xca g.cs.length xcc, .slice xwa g.ws.length xwc, .slice xsa g.ss.length xsc, .slice xqa g.qs.length xqc] #[.int .i64 h.m.pg, .int .u32 h.m.ob, .int .i64 h.m.op, .int .i64 h.m.st, .int .i64 h.m.wy, .int .i64 h.m.li, .int .i64 h.m.sl, .int .u64 h.m.mj, .slice yca h.cs.length ycc, .slice ywa h.ws.length ywc, .slice ysa h.ss.length ysc, .slice yqa h.qs.length yqc] ∧ Kp w0 w6 ∧ LF w1.heap.size w6 X g v ∧ LF w2.heap.size w6 Y h u ∧ Kp w2 w6) := ⟨H5.out.1.trans k6, H5.out.2.1.kp k6, H5.out.2.2.1.trans k6, H5.out.2.2.2.1.kp k6, H5.out.2.2.2.2.1.kp k6, H5.out.2.2.2.2.2.2.trans k6⟩
 clear k6 H5
 simp only [decide_true]
 go_wp2_with fail
 go_at_call 15
 refine (kept_walk _ w6 X g v H6.out.2.2.2.1).mono ?_
 rintro r w7 ⟨rfl, c7⟩
 have H7 : Hid (Kp w w7 ∧ Two w7 w.heap.size #[.int .i64 g.m.pg, .int .u32 g.m.ob, .int .i64 g.m.op, .int .i64 g.m.st, .int .i64 g.m.wy, .int .i64 g.m.li, .int .i64 g.m.sl, .int .u64 g.m.mj, .slice xca g.cs.length xcc, .slice xwa g.ws.length xwc, .slice xsa g.ss.length xsc, .slice xqa g.qs.length xqc] #[.int .i64 h.m.pg, .int .u32 h.m.ob, .int .i64 h.m.op, .int .i64 h.m.st, .int .i64 h.m.wy, .int .i64 h.m.li, .int .i64 h.m.sl, .int .u64 h.m.mj, .slice yca h.cs.length ycc, .slice ywa h.ws.length ywc, .slice ysa h.ss.length ysc, .slice yqa h.qs.length yqc] ∧ Kp w0 w7 ∧ LF w2.heap.size w7 Y h u) := by
  have hb : ∀ k, v.blk g k → w1.heap.size ≤ k ∧ k < w2.heap.size := fun k hk => H2.out.2.2.2.1.blk hk
  have n0 : ∀ k, k < w0.heap.size → ¬ v.blk g k := fun k hk e => by have := (hb k e).1; have := s1.out; omega
  have kk : Kp w0 w7 := Chg.trans H6.out.2.2.1 c7 (fun j hj e => n0 j hj e)
  exact ⟨H0.out.1.trans kk, H0.out.2.1.kp kk, kk, H6.out.2.2.2.2.1.old c7 (fun k a e => by have := (hb k e).2; omega)⟩
 clear c7 H6
 go_wp2_with fail
 go_at_call 15
 refine (kept_walk _ w7 Y h u H7.out.2.2.2).mono ?_
 rintro r w8 ⟨rfl, c8⟩
 have H8 : Hid (Kp w w8 ∧ Two w8 w.heap.size #[.int .i64 g.m.pg, .int .u32 g.m.ob, .int .i64 g.m.op, .int .i64 g.m.st, .int .i64 g.m.wy, .int .i64 g.m.li, .int .i64 g.m.sl, .int .u64 g.m.mj, .slice xca g.cs.length xcc, .slice xwa g.ws.length xwc, .slice xsa g.ss.length xsc, .slice xqa g.qs.length xqc] #[.int .i64 h.m.pg, .int .u32 h.m.ob, .int .i64 h.m.op, .int .i64 h.m.st, .int .i64 h.m.wy, .int .i64 h.m.li, .int .i64 h.m.sl, .int .u64 h.m.mj, .slice yca h.cs.length ycc, .slice ywa h.ws.length ywc, .slice ysa h.ss.length ysc, .slice yqa h.qs.length yqc]) := by
  have hs := H2.out.2.2.1.size
  have hb : ∀ k, u.blk h k → w2.heap.size ≤ k := fun k hk => (H7.out.2.2.2.blk hk).1
  have kk : Kp w0 w8 := Chg.trans H7.out.2.2.1 c8 (fun j hj e => by have := hb j e; omega)
  exact ⟨H0.out.1.trans kk, H0.out.2.1.kp kk⟩
 clear c8 H7 H2
 have hU := H8.out.2.1
 have hV := H8.out.2.2
 have s0 : w8.cell? ⟨w.heap.size, 0, none⟩ = some (.int .i64 g.m.pg) := box_cells hU 0 rfl
 have s1 : w8.cell? ⟨w.heap.size, 1, none⟩ = some (.int .u32 g.m.ob) := box_cells hU 1 rfl
 have s2 : w8.cell? ⟨w.heap.size, 2, none⟩ = some (.int .i64 g.m.op) := box_cells hU 2 rfl
 have s3 : w8.cell? ⟨w.heap.size, 3, none⟩ = some (.int .i64 g.m.st) := box_cells hU 3 rfl
 have s4 : w8.cell? ⟨w.heap.size, 4, none⟩ = some (.int .i64 g.m.wy) := box_cells hU 4 rfl
 have s5 : w8.cell? ⟨w.heap.size, 5, none⟩ = some (.int .i64 g.m.li) := box_cells hU 5 rfl
 have s6 : w8.cell? ⟨w.heap.size, 6, none⟩ = some (.int .i64 g.m.sl) := box_cells hU 6 rfl
 have s7 : w8.cell? ⟨w.heap.size, 7, none⟩ = some (.int .u64 g.m.mj) := box_cells hU 7 rfl
 have s8 : w8.cell? ⟨w.heap.size, 8, none⟩ = some (.slice xca g.cs.length xcc) := box_cells hU 8 rfl
 have s9 : w8.cell? ⟨w.heap.size, 9, none⟩ = some (.slice xwa g.ws.length xwc) := box_cells hU 9 rfl
 have s10 : w8.cell? ⟨w.heap.size, 10, none⟩ = some (.slice xsa g.ss.length xsc) := box_cells hU 10 rfl
 have s11 : w8.cell? ⟨w.heap.size, 11, none⟩ = some (.slice xqa g.qs.length xqc) := box_cells hU 11 rfl
 have t0 : w8.cell? ⟨w.heap.size + 1, 0, none⟩ = some (.int .i64 h.m.pg) := box_cells hV 0 rfl
 have t1 : w8.cell? ⟨w.heap.size + 1, 1, none⟩ = some (.int .u32 h.m.ob) := box_cells hV 1 rfl
 have t2 : w8.cell? ⟨w.heap.size + 1, 2, none⟩ = some (.int .i64 h.m.op) := box_cells hV 2 rfl
 have t3 : w8.cell? ⟨w.heap.size + 1, 3, none⟩ = some (.int .i64 h.m.st) := box_cells hV 3 rfl
 have t4 : w8.cell? ⟨w.heap.size + 1, 4, none⟩ = some (.int .i64 h.m.wy) := box_cells hV 4 rfl
 have t5 : w8.cell? ⟨w.heap.size + 1, 5, none⟩ = some (.int .i64 h.m.li) := box_cells hV 5 rfl
 have t6 : w8.cell? ⟨w.heap.size + 1, 6, none⟩ = some (.int .i64 h.m.sl) := box_cells hV 6 rfl
 have t7 : w8.cell? ⟨w.heap.size + 1, 7, none⟩ = some (.int .u64 h.m.mj) := box_cells hV 7 rfl
 have t8 : w8.cell? ⟨w.heap.size + 1, 8, none⟩ = some (.slice yca h.cs.length ycc) := box_cells hV 8 rfl
 have t9 : w8.cell? ⟨w.heap.size + 1, 9, none⟩ = some (.slice ywa h.ws.length ywc) := box_cells hV 9 rfl
 have t10 : w8.cell? ⟨w.heap.size + 1, 10, none⟩ = some (.slice ysa h.ss.length ysc) := box_cells hV 10 rfl
 have t11 : w8.cell? ⟨w.heap.size + 1, 11, none⟩ = some (.slice yqa h.qs.length yqc) := box_cells hV 11 rfl
 obtain ⟨rv, hrv⟩ : ∃ rv, rv = decide (g = h) := ⟨_, rfl⟩
 rw [← hrv]
 obtain ⟨x1, x2, x3, x4⟩ := HX.out w8 H8.out.1
 obtain ⟨y1, y2, y3, y4⟩ := HY.out w8 H8.out.1
 have HQ := Hid.mk' (requal_walk w8 N N g h _ _ _ _ _ _ _ _ xcc xwc xsc xqc ycc ywc ysc yqc x1 x2 x3 x4 y1 y2 y3 y4 rv hrv)
 clear hU hV x1 x2 x3 x4 y1 y2 y3 y4 hrv
 go_wp2_with fail
 go_at_call 16
 refine HQ.out.mono ?_
 clear HQ s0 t0 s1 t1 s2 t2 s3 t3 s4 t4 s5 t5 s6 t6 s7 t7 s8 t8 s9 t9 s10 t10 s11 t11
 rintro r w9 ⟨rfl, k9⟩
 have H9 : Hid (Kp w w9) := H8.out.1.trans k9
 clear k9 H8
 go_wp2
 go_ret
 exact ⟨by simp, Chg.below H9.out (Nat.le_refl _) (by simp)⟩
theorem same_walk (w : World) (u1 u2 : Value) (g h : Cf) (hu : IsCf w u1 g) (hv : IsCf w u2 h) (fg : g.fine) (fh : h.fine) :
  Calls Tryz.prog 6 #[u1,u2] w fun r w' => r = .returned (.bool true) ∧ Below w.heap.size w w' := by
 obtain ⟨_, xca, xcc, xwa, xwc, xsa, xsc, xqa, xqc, rfl, x1, x2, x3, x4⟩ := hu
 obtain ⟨_, yca, ycc, ywa, ywc, ysa, ysc, yqa, yqc, rfl, y1, y2, y3, y4⟩ := hv
 exact same_main w _ g h fg fh _ _ _ _ _ _ _ _ _ _ _ _ _ _ _ _ x1 x2 x3 x4 y1 y2 y3 y4
end Go.Proofs.YtknlpjcdemijgaaGreat
