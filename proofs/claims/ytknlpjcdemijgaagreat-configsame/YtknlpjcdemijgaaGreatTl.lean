import Derived.Test.YtknlpjcdemijgaaGreatTj
import Derived.Test.YtknlpjcdemijgaaGreatTf
namespace Go.Proofs.YtknlpjcdemijgaaGreat
open Go.ChangeShapes Go.WideShapes Go.ChangeAt Go.RowKit
set_option linter.unusedVariables false
def ops15_1 : Array Oper := #[⟨some 14, Op.move (.tmp 0), 44, "law.go:61", #[], none⟩,
 ⟨some 15, Op.nilCheck (.tmp 14), 0, "law.go:61", #[gd' 0], none⟩,
 ⟨some 16, Op.fieldAddr 49 (.tmp 15) 0, 0, "law.go:61", #[gd' 1], none⟩,
 ⟨some 17, Op.load 31 (.tmp 16), 31, "law.go:61", #[gd' 2], none⟩,
 ⟨some 18, Op.move (.tmp 0), 44, "law.go:61", #[], none⟩,
 ⟨some 19, Op.nilCheck (.tmp 18), 0, "law.go:61", #[gd' 4], none⟩,
 ⟨some 20, Op.fieldAddr 49 (.tmp 19) 7, 0, "law.go:61", #[gd' 5], none⟩,
 ⟨some 21, Op.load 31 (.tmp 20), 31, "law.go:61", #[gd' 6], none⟩,
 ⟨some 22, Op.call { callee := Callee.value (Operand.func 16), args := #[Operand.tmp 17, Operand.tmp 21], argTypes := #[31, 31] }, 4, "law.go:61", #[gd' 3, gd' 7], none⟩,
 ⟨some 3, Op.assign (.tmp 22), 4, "law.go:61", #[gd' 8, gc' 8, gp' 0, gp' 1, gp' 2, gp' 3, gp' 4, gp' 5, gp' 6, gp' 7, gp' 8], none⟩]
set_option maxHeartbeats 8000000 in
set_option maxRecDepth 100000 in
theorem reg15_1 (W : World) (X : Nat) (m : Mc) (g1 g2 g3 g4 d1 d2 d3 d4 : Value) (hS : (fun w' => w'.cell? ⟨X, 0, none⟩ = some (.int .i64 m.pg) ∧ w'.cell? ⟨X, 1, none⟩ = some (.int .u32 m.ob) ∧ w'.cell? ⟨X, 2, none⟩ = some (.int .i64 m.op) ∧ w'.cell? ⟨X, 3, none⟩ = some (.int .i64 m.st) ∧ w'.cell? ⟨X, 4, none⟩ = some (.int .i64 m.wy) ∧ w'.cell? ⟨X, 5, none⟩ = some (.int .i64 m.li) ∧ w'.cell? ⟨X, 6, none⟩ = some (.int .i64 m.sl) ∧ w'.cell? ⟨X, 7, none⟩ = some (.int .u64 m.mj) ∧ w'.cell? ⟨X, 8, none⟩ = some (g1) ∧ w'.cell? ⟨X, 9, none⟩ = some (g2) ∧ w'.cell? ⟨X, 10, none⟩ = some (g3) ∧ w'.cell? ⟨X, 11, none⟩ = some (g4) ∧ w'.cell? ⟨X, 18, none⟩ = some (.int .i64 m.pg) ∧ w'.cell? ⟨X, 19, none⟩ = some (.int .u32 m.ob) ∧ w'.cell? ⟨X, 20, none⟩ = some (.int .i64 m.op) ∧ w'.cell? ⟨X, 21, none⟩ = some (.int .i64 m.st) ∧ w'.cell? ⟨X, 22, none⟩ = some (.int .i64 m.wy) ∧ w'.cell? ⟨X, 23, none⟩ = some (.int .i64 m.li) ∧ w'.cell? ⟨X, 24, none⟩ = some (.int .i64 m.sl) ∧ w'.cell? ⟨X, 25, none⟩ = some (.int .u64 m.mj) ∧ w'.cell? ⟨X, 26, none⟩ = some (d1) ∧ w'.cell? ⟨X, 27, none⟩ = some (d2) ∧ w'.cell? ⟨X, 28, none⟩ = some (d3) ∧ w'.cell? ⟨X, 29, none⟩ = some (d4)) W.drew) (P : World → Prop) (hcall : Calls Tryz.prog 16 #[.agg #[.int .i64 m.pg, .int .u32 m.ob, .int .i64 m.op, .int .i64 m.st, .int .i64 m.wy, .int .i64 m.li, .int .i64 m.sl, .int .u64 m.mj, g1, g2, g3, g4], .agg #[.int .i64 m.pg, .int .u32 m.ob, .int .i64 m.op, .int .i64 m.st, .int .i64 m.wy, .int .i64 m.li, .int .i64 m.sl, .int .u64 m.mj, d1, d2, d3, d4]] W.drew fun e x1 => e = .returned (.bool true) ∧ (x1.cell? ⟨X, 0, none⟩ = some (.int .i64 m.pg) ∧ x1.cell? ⟨X, 1, none⟩ = some (.int .u32 m.ob) ∧ x1.cell? ⟨X, 2, none⟩ = some (.int .i64 m.op) ∧ x1.cell? ⟨X, 3, none⟩ = some (.int .i64 m.st) ∧ x1.cell? ⟨X, 4, none⟩ = some (.int .i64 m.wy) ∧ x1.cell? ⟨X, 5, none⟩ = some (.int .i64 m.li) ∧ x1.cell? ⟨X, 6, none⟩ = some (.int .i64 m.sl) ∧ x1.cell? ⟨X, 7, none⟩ = some (.int .u64 m.mj) ∧ x1.cell? ⟨X, 8, none⟩ = some (g1) ∧ x1.cell? ⟨X, 9, none⟩ = some (g2) ∧ x1.cell? ⟨X, 10, none⟩ = some (g3) ∧ x1.cell? ⟨X, 11, none⟩ = some (g4) ∧ x1.cell? ⟨X, 18, none⟩ = some (.int .i64 m.pg) ∧ x1.cell? ⟨X, 19, none⟩ = some (.int .u32 m.ob) ∧ x1.cell? ⟨X, 20, none⟩ = some (.int .i64 m.op) ∧ x1.cell? ⟨X, 21, none⟩ = some (.int .i64 m.st) ∧ x1.cell? ⟨X, 22, none⟩ = some (.int .i64 m.wy) ∧ x1.cell? ⟨X, 23, none⟩ = some (.int .i64 m.li) ∧ x1.cell? ⟨X, 24, none⟩ = some (.int .i64 m.sl) ∧ x1.cell? ⟨X, 25, none⟩ = some (.int .u64 m.mj) ∧ x1.cell? ⟨X, 26, none⟩ = some (d1) ∧ x1.cell? ⟨X, 27, none⟩ = some (d2) ∧ x1.cell? ⟨X, 28, none⟩ = some (d3) ∧ x1.cell? ⟨X, 29, none⟩ = some (d4)) ∧ P  x1)
  (Q : Exit → Act → World → Prop) (hPan : ∀ c (a : Act) w (d : Option Tmp) v, Q (.panic c) (a.put d v) w → Q (.panic c) a w) {u1 u2 u3 u4 u5 u6 u7 u8 u9 u10 u11 u12 u13 u14 u15 u16 u17 u18 u19 u20 u21 u22 u23 u24 u25 u26 u27 u28 u29 u30 u31 u32 u33 u34 u35 u36 u37 u38 u39 u40 u41 u42 u43 u44 u45 u46 u47 u48 u49 u50 u51 u52 u53 u54 u55 u56 u57 u58 u59 u60 u61 u62 u63 u64 u65 u66 u67 u68 u69 u70 u71 u72 u73 u74 u75 u76 u77 u78 u79 u80 u81 u82 u83 u84 u85 u86 u87 u88 u89 u90 u91 u92 u93 u94 u95 u96 u97 u98 u99 A0 A1 A2 A3 A4 A5 A6 A7 A8 A9 B0 B1 B2 B3 B4 B5 B6 B7 B8 B9 C0 C1 C2 C3 C4 C5 C6 C7 C8 C9 D0 D1 D2 D3 D4 D5 D6 D7 D8 D9 E0 E1 E2 E3 E4 E5 E6 E7 E8 E9 F0 F1 F2 F3 F4 F5 F6 F7 F8 F9 G0 G1 G2 G3 G4 G5 G6 G7 G8 G9 H0 H1 H2 H3 H4 H5 H6 H7 H8 H9 I0 I1 I2 I3 I4 I5 I6 I7 I8 I9 J0 J1 J2 J3 J4 J5 J6 J7 J8 J9 K0 K1 K2 K3 K4 K5 K6 K7 K8 K9 L0 L1 L2 L3 L4 L5 L6 L7 L8 L9 M0 M1 M2 M3 M4 M5 : Value}
  (hQ : ∀  w1, P  w1 → Q .normal ⟨#[.pointer (some ⟨X, 0, none⟩), u1,u2, .bool true, u4,u5,u6,u7,u8,u9,u10,u11,u12,u13, .pointer (some ⟨X, 0, none⟩), .pointer (some ⟨X, 0, none⟩), .pointer (some ⟨X, 0, none⟩), .agg #[.int .i64 m.pg, .int .u32 m.ob, .int .i64 m.op, .int .i64 m.st, .int .i64 m.wy, .int .i64 m.li, .int .i64 m.sl, .int .u64 m.mj, g1, g2, g3, g4], .pointer (some ⟨X, 0, none⟩), .pointer (some ⟨X, 0, none⟩), .pointer (some ⟨X, 18, none⟩), .agg #[.int .i64 m.pg, .int .u32 m.ob, .int .i64 m.op, .int .i64 m.st, .int .i64 m.wy, .int .i64 m.li, .int .i64 m.sl, .int .u64 m.mj, d1, d2, d3, d4], .bool true, u23,u24,u25,u26,u27,u28,u29,u30,u31,u32,u33,u34,u35,u36,u37,u38,u39,u40,u41,u42,u43,u44,u45,u46,u47,u48,u49,u50,u51,u52,u53,u54,u55,u56,u57,u58,u59,u60,u61,u62,u63,u64,u65,u66,u67,u68,u69,u70,u71,u72,u73,u74,u75,u76,u77,u78,u79,u80,u81,u82,u83,u84,u85,u86,u87,u88,u89,u90,u91,u92,u93,u94,u95,u96,u97,u98,u99,A0,A1,A2,A3,A4,A5,A6,A7,A8,A9,B0,B1,B2,B3,B4,B5,B6,B7,B8,B9,C0,C1,C2,C3,C4,C5,C6,C7,C8,C9,D0,D1,D2,D3,D4,D5,D6,D7,D8,D9,E0,E1,E2,E3,E4,E5,E6,E7,E8,E9,F0,F1,F2,F3,F4,F5,F6,F7,F8,F9,G0,G1,G2,G3,G4,G5,G6,G7,G8,G9,H0,H1,H2,H3,H4,H5,H6,H7,H8,H9,I0,I1,I2,I3,I4,I5,I6,I7,I8,I9,J0,J1,J2,J3,J4,J5,J6,J7,J8,J9,K0,K1,K2,K3,K4,K5,K6,K7,K8,K9,L0,L1,L2,L3,L4,L5,L6,L7,L8,L9,M0,M1,M2,M3,M4,M5], []⟩ w1) :
  Code.wp Tryz.prog (Code.region 1 ops15_1 true) Q ⟨#[.pointer (some ⟨X, 0, none⟩), u1,u2,u3,u4,u5,u6,u7,u8,u9,u10,u11,u12,u13,u14,u15,u16,u17,u18,u19,u20,u21,u22,u23,u24,u25,u26,u27,u28,u29,u30,u31,u32,u33,u34,u35,u36,u37,u38,u39,u40,u41,u42,u43,u44,u45,u46,u47,u48,u49,u50,u51,u52,u53,u54,u55,u56,u57,u58,u59,u60,u61,u62,u63,u64,u65,u66,u67,u68,u69,u70,u71,u72,u73,u74,u75,u76,u77,u78,u79,u80,u81,u82,u83,u84,u85,u86,u87,u88,u89,u90,u91,u92,u93,u94,u95,u96,u97,u98,u99,A0,A1,A2,A3,A4,A5,A6,A7,A8,A9,B0,B1,B2,B3,B4,B5,B6,B7,B8,B9,C0,C1,C2,C3,C4,C5,C6,C7,C8,C9,D0,D1,D2,D3,D4,D5,D6,D7,D8,D9,E0,E1,E2,E3,E4,E5,E6,E7,E8,E9,F0,F1,F2,F3,F4,F5,F6,F7,F8,F9,G0,G1,G2,G3,G4,G5,G6,G7,G8,G9,H0,H1,H2,H3,H4,H5,H6,H7,H8,H9,I0,I1,I2,I3,I4,I5,I6,I7,I8,I9,J0,J1,J2,J3,J4,J5,J6,J7,J8,J9,K0,K1,K2,K3,K4,K5,K6,K7,K8,K9,L0,L1,L2,L3,L4,L5,L6,L7,L8,L9,M0,M1,M2,M3,M4,M5], []⟩ W := by
 refine wp_region_held_drew (S := fun w' => w'.cell? ⟨X, 0, none⟩ = some (.int .i64 m.pg) ∧ w'.cell? ⟨X, 1, none⟩ = some (.int .u32 m.ob) ∧ w'.cell? ⟨X, 2, none⟩ = some (.int .i64 m.op) ∧ w'.cell? ⟨X, 3, none⟩ = some (.int .i64 m.st) ∧ w'.cell? ⟨X, 4, none⟩ = some (.int .i64 m.wy) ∧ w'.cell? ⟨X, 5, none⟩ = some (.int .i64 m.li) ∧ w'.cell? ⟨X, 6, none⟩ = some (.int .i64 m.sl) ∧ w'.cell? ⟨X, 7, none⟩ = some (.int .u64 m.mj) ∧ w'.cell? ⟨X, 8, none⟩ = some (g1) ∧ w'.cell? ⟨X, 9, none⟩ = some (g2) ∧ w'.cell? ⟨X, 10, none⟩ = some (g3) ∧ w'.cell? ⟨X, 11, none⟩ = some (g4) ∧ w'.cell? ⟨X, 18, none⟩ = some (.int .i64 m.pg) ∧ w'.cell? ⟨X, 19, none⟩ = some (.int .u32 m.ob) ∧ w'.cell? ⟨X, 20, none⟩ = some (.int .i64 m.op) ∧ w'.cell? ⟨X, 21, none⟩ = some (.int .i64 m.st) ∧ w'.cell? ⟨X, 22, none⟩ = some (.int .i64 m.wy) ∧ w'.cell? ⟨X, 23, none⟩ = some (.int .i64 m.li) ∧ w'.cell? ⟨X, 24, none⟩ = some (.int .i64 m.sl) ∧ w'.cell? ⟨X, 25, none⟩ = some (.int .u64 m.mj) ∧ w'.cell? ⟨X, 26, none⟩ = some (d1) ∧ w'.cell? ⟨X, 27, none⟩ = some (d2) ∧ w'.cell? ⟨X, 28, none⟩ = some (d3) ∧ w'.cell? ⟨X, 29, none⟩ = some (d4)) hmx hS (fun HSX => ?_)
 clear hS
 obtain ⟨W0, hW0⟩ : ∃ W0,W0 = W.drew := ⟨_, rfl⟩
 rw [← hW0] at HSX hcall ⊢
 clear hW0
 refine tk hPan (i := 0) (oi := ⟨some 14, Op.move (.tmp 0), 44, "law.go:61", #[], none⟩) (v := .pointer (some ⟨X, 0, none⟩)) rfl (by kernel_rfl) (.inl ⟨by rfl, ?_⟩) HSX ?_
 ·intro wx d0
  obtain ⟨s1, s2, s3, s4, s5, s6, s7, s8, s9, s10, s11, s12, s13, s14, s15, s16, s17, s18, s19, s20, s21, s22, s23, s24⟩ := d0
  go_simp
 simp only [Act.put, sl0', sl1', sl2']
 refine tk hPan (i := 1) (oi := ⟨some 15, Op.nilCheck (.tmp 14), 0, "law.go:61", #[gd' 0], none⟩) (v := .pointer (some ⟨X, 0, none⟩)) rfl (by kernel_rfl) (.inl ⟨by rfl, ?_⟩) HSX ?_
 ·intro wx d0
  obtain ⟨s1, s2, s3, s4, s5, s6, s7, s8, s9, s10, s11, s12, s13, s14, s15, s16, s17, s18, s19, s20, s21, s22, s23, s24⟩ := d0
  go_simp
 simp only [Act.put, sl0', sl1', sl2']
 refine tk hPan (i := 2) (oi := ⟨some 16, Op.fieldAddr 49 (.tmp 15) 0, 0, "law.go:61", #[gd' 1], none⟩) (v := .pointer (some ⟨X, 0, none⟩)) rfl (by kernel_rfl) (.inl ⟨by rfl, ?_⟩) HSX ?_
 ·intro wx d0
  obtain ⟨s1, s2, s3, s4, s5, s6, s7, s8, s9, s10, s11, s12, s13, s14, s15, s16, s17, s18, s19, s20, s21, s22, s23, s24⟩ := d0
  go_simp
 simp only [Act.put, sl0', sl1', sl2']
 refine tk hPan (i := 3) (oi := ⟨some 17, Op.load 31 (.tmp 16), 31, "law.go:61", #[gd' 2], none⟩) (v := .agg #[.int .i64 m.pg, .int .u32 m.ob, .int .i64 m.op, .int .i64 m.st, .int .i64 m.wy, .int .i64 m.li, .int .i64 m.sl, .int .u64 m.mj, g1, g2, g3, g4]) rfl (by kernel_rfl) (.inl ⟨by rfl, ?_⟩) HSX ?_
 ·intro wx d0
  obtain ⟨s1, s2, s3, s4, s5, s6, s7, s8, s9, s10, s11, s12, s13, s14, s15, s16, s17, s18, s19, s20, s21, s22, s23, s24⟩ := d0
  go_simp
 simp only [Act.put, sl0', sl1', sl2']
 refine tk hPan (i := 4) (oi := ⟨some 18, Op.move (.tmp 0), 44, "law.go:61", #[], none⟩) (v := .pointer (some ⟨X, 0, none⟩)) rfl (by kernel_rfl) (.inl ⟨by rfl, ?_⟩) HSX ?_
 ·intro wx d0
  obtain ⟨s1, s2, s3, s4, s5, s6, s7, s8, s9, s10, s11, s12, s13, s14, s15, s16, s17, s18, s19, s20, s21, s22, s23, s24⟩ := d0
  go_simp
 simp only [Act.put, sl0', sl1', sl2']
 refine tk hPan (i := 5) (oi := ⟨some 19, Op.nilCheck (.tmp 18), 0, "law.go:61", #[gd' 4], none⟩) (v := .pointer (some ⟨X, 0, none⟩)) rfl (by kernel_rfl) (.inl ⟨by rfl, ?_⟩) HSX ?_
 ·intro wx d0
  obtain ⟨s1, s2, s3, s4, s5, s6, s7, s8, s9, s10, s11, s12, s13, s14, s15, s16, s17, s18, s19, s20, s21, s22, s23, s24⟩ := d0
  go_simp
 simp only [Act.put, sl0', sl1', sl2']
 refine tk hPan (i := 6) (oi := ⟨some 20, Op.fieldAddr 49 (.tmp 19) 7, 0, "law.go:61", #[gd' 5], none⟩) (v := .pointer (some ⟨X, 18, none⟩)) rfl (by kernel_rfl) (.inl ⟨by rfl, ?_⟩) HSX ?_
 ·intro wx d0
  obtain ⟨s1, s2, s3, s4, s5, s6, s7, s8, s9, s10, s11, s12, s13, s14, s15, s16, s17, s18, s19, s20, s21, s22, s23, s24⟩ := d0
  go_simp
 simp only [Act.put, sl0', sl1', sl2']
 refine tk hPan (i := 7) (oi := ⟨some 21, Op.load 31 (.tmp 20), 31, "law.go:61", #[gd' 6], none⟩) (v := .agg #[.int .i64 m.pg, .int .u32 m.ob, .int .i64 m.op, .int .i64 m.st, .int .i64 m.wy, .int .i64 m.li, .int .i64 m.sl, .int .u64 m.mj, d1, d2, d3, d4]) rfl (by kernel_rfl) (.inl ⟨by rfl, ?_⟩) HSX ?_
 ·intro wx d0
  obtain ⟨s1, s2, s3, s4, s5, s6, s7, s8, s9, s10, s11, s12, s13, s14, s15, s16, s17, s18, s19, s20, s21, s22, s23, s24⟩ := d0
  go_simp
 simp only [Act.put, sl0', sl1', sl2']
 refine wpAnyH_ready (rs := [8]) (by kernel_rfl) (by simp) ?_
 refine AllReadyH.cons (o := ⟨some 22, Op.call { callee := Callee.value (Operand.func 16), args := #[Operand.tmp 17, Operand.tmp 21], argTypes := #[31, 31] }, 4, "law.go:61", #[gd' 3, gd' 7], none⟩) rfl (fun K hK => ?_) AllReadyH.nil
 rw [if_pos (by rfl)]
 go_simp
 go_at_call 16
 refine hcall.mono ?_
 rintro e w1 ⟨rfl, HS1, hP⟩
 go_simp
 refine hK.out _ _ HS1 (fun HSX => ?_)
 clear hK K
 refine tk hPan (i := 9) (oi := ⟨some 3, Op.assign (.tmp 22), 4, "law.go:61", #[gd' 8, gc' 8, gp' 0, gp' 1, gp' 2, gp' 3, gp' 4, gp' 5, gp' 6, gp' 7, gp' 8], none⟩) (v := .bool true) rfl (by kernel_rfl) (.inl ⟨by rfl, ?_⟩) HSX ?_
 ·intro wx d0
  obtain ⟨s1, s2, s3, s4, s5, s6, s7, s8, s9, s10, s11, s12, s13, s14, s15, s16, s17, s18, s19, s20, s21, s22, s23, s24⟩ := d0
  go_simp
 simp only [Act.put, sl0', sl1', sl2']
 refine wpAnyH_done (by kernel_rfl) ?_ _
 exact hQ  _ hP
end Go.Proofs.YtknlpjcdemijgaaGreat
namespace Go.Proofs.YtknlpjcdemijgaaGreat
open Go.ChangeShapes Go.WideShapes Go.ChangeAt Go.RowKit
set_option linter.unusedVariables false
theorem box_cells {w : World} {B : Nat} {cs : Array Value} {e : TypeId} (h : w.heap[B]? = some (.cells cs e (0, 0))) (i : Nat) {u : Value} (hu : cs[i]? = some u) : w.cell? ⟨B, i, none⟩ = some u := by rw [(cells_at h i).1, hu]
theorem Hid.mk' {p : Prop} (h : p) : Hid p := h
theorem LT.bxe {w W : World} {X : Nat} {bx bx2 : Array Value} {L : List LC} {M : List LS} {ca wa sa qa ra na : Option Addr} {cc wn wc sn sc qn qc rc nc : Nat} {wd sd qd : List Value} (h : LT w W X bx L M ca wa sa qa ra na cc wn wc sn sc qn qc rc nc wd sd qd) (e : bx = bx2) : LT w W X bx2 L M ca wa sa qa ra na cc wn wc sn sc qn qc rc nc wd sd qd := e ▸ h
theorem one_src (w : World) (Y : List Value) (e : TypeId) : 1 = 0 ∨ ∃ b o, (some (⟨w.heap.size, 0, none⟩ : Addr)) = some ⟨b, o, none⟩ ∧ ∀ j u, Y[j]? = some u → (w.alloc (.cells Y.toArray e)).cell? ⟨b, o + j, none⟩ = some u :=
 .inr ⟨_, _, rfl, fun j u hu => by
  rw [(cells_at (heap_alloc_new w _) _).1, Nat.zero_add]
  simpa using hu⟩
theorem one_padS : ∀ u ∈ padS, u.oneCell' = true := by intro u hu; simp only [padS, List.mem_cons, List.not_mem_nil, or_false] at hu; rcases hu with hu | hu | hu <;> rw [hu] <;> rfl
theorem one_padW : ∀ u ∈ padW, u.oneCell' = true := by intro u hu; simp only [padW, List.mem_cons, List.not_mem_nil, or_false] at hu; rcases hu with hu | hu | hu <;> rw [hu] <;> rfl
theorem one_padQ : ∀ u ∈ padQ, u.oneCell' = true := by intro u hu; simp only [padQ, List.mem_cons, List.not_mem_nil, or_false] at hu; rcases hu with hu | hu | hu | hu | hu | hu <;> rw [hu] <;> rfl
set_option maxHeartbeats 16000000 in
set_option maxRecDepth 100000 in
theorem lent_walk (w : World) (N : Nat) (g : Cf) (hf : g.fine) (ca wa sa qa : Option Addr) (cc wc sc qc : Nat)
  (x1 : RdL w N 4 (CeAt N) ca g.cs) (x2 : RdL w N 3 WiAt wa g.ws) (x3 : RdL w N 3 (SaAt N) sa g.ss) (x4 : RdL w N 6 QuAt qa g.qs) :
  Calls Tryz.prog 14 #[.agg #[.int .i64 g.m.pg, .int .u32 g.m.ob, .int .i64 g.m.op, .int .i64 g.m.st, .int .i64 g.m.wy, .int .i64 g.m.li, .int .i64 g.m.sl, .int .u64 g.m.mj, .slice ca g.cs.length cc, .slice wa g.ws.length wc, .slice sa g.ss.length sc, .slice qa g.qs.length qc]] w fun r w' => ∃ X v, r = .returned (.pointer (some ⟨X, 0, none⟩)) ∧ LF w.heap.size w' X g v ∧ Kp w w' := by
 obtain ⟨w0, hw0⟩ : ∃ w0, w0 = w.alloc (.cells #[.int .i64 g.m.pg, .int .u32 g.m.ob, .int .i64 g.m.op, .int .i64 g.m.st, .int .i64 g.m.wy, .int .i64 g.m.li, .int .i64 g.m.sl, .int .u64 g.m.mj, .slice ca g.cs.length cc, .slice wa g.ws.length wc, .slice sa g.ss.length sc, .slice qa g.qs.length qc] 31) := ⟨_, rfl⟩
 have k0 : Kp w w0 := by rw [hw0]; exact Kp.al _ _
 have hB0 : w0.heap[w.heap.size]? = some (.cells #[.int .i64 g.m.pg, .int .u32 g.m.ob, .int .i64 g.m.op, .int .i64 g.m.st, .int .i64 g.m.wy, .int .i64 g.m.li, .int .i64 g.m.sl, .int .u64 g.m.mj, .slice ca g.cs.length cc, .slice wa g.ws.length wc, .slice sa g.ss.length sc, .slice qa g.qs.length qc] 31 (0, 0)) := by rw [hw0]; exact heap_alloc_new w _
 have kd : Kp w0 w0.drew := (Chg.refl _ _).drew
 have hBd := kd.heap hB0
 have HL : Hid (RdL w N 4 (CeAt N) ca g.cs ∧ RdL w N 3 WiAt wa g.ws ∧ RdL w N 3 (SaAt N) sa g.ss ∧ RdL w N 6 QuAt qa g.qs) := ⟨x1, x2, x3, x4⟩
 have HF : Hid g.fine := hf
 have b1 := x1.1
 have b2 := x2.1
 have b3 := x3.1
 have b4 := x4.1
 have HC : Hid (Calls Tryz.prog 39 #[.agg #[.int .i64 g.m.pg, .int .u32 g.m.ob, .int .i64 g.m.op, .int .i64 g.m.st, .int .i64 g.m.wy, .int .i64 g.m.li, .int .i64 g.m.sl, .int .u64 g.m.mj, .slice ca g.cs.length cc, .slice wa g.ws.length wc, .slice sa g.ss.length sc, .slice qa g.qs.length qc]] w0.drew fun e x1 => ∃ d1 d2 d3 d4, e = .returned (.agg #[.int .i64 g.m.pg, .int .u32 g.m.ob, .int .i64 g.m.op, .int .i64 g.m.st, .int .i64 g.m.wy, .int .i64 g.m.li, .int .i64 g.m.sl, .int .u64 g.m.mj, d1, d2, d3, d4]) ∧ (fun w' : World => w'.cell? ⟨w.heap.size, 0, none⟩ = some (.int .i64 g.m.pg) ∧ w'.cell? ⟨w.heap.size, 1, none⟩ = some (.int .u32 g.m.ob) ∧ w'.cell? ⟨w.heap.size, 2, none⟩ = some (.int .i64 g.m.op) ∧ w'.cell? ⟨w.heap.size, 3, none⟩ = some (.int .i64 g.m.st) ∧ w'.cell? ⟨w.heap.size, 4, none⟩ = some (.int .i64 g.m.wy) ∧ w'.cell? ⟨w.heap.size, 5, none⟩ = some (.int .i64 g.m.li) ∧ w'.cell? ⟨w.heap.size, 6, none⟩ = some (.int .i64 g.m.sl) ∧ w'.cell? ⟨w.heap.size, 7, none⟩ = some (.int .u64 g.m.mj) ∧ w'.cell? ⟨w.heap.size, 8, none⟩ = some (.slice ca g.cs.length cc) ∧ w'.cell? ⟨w.heap.size, 9, none⟩ = some (.slice wa g.ws.length wc) ∧ w'.cell? ⟨w.heap.size, 10, none⟩ = some (.slice sa g.ss.length sc) ∧ w'.cell? ⟨w.heap.size, 11, none⟩ = some (.slice qa g.qs.length qc)) x1 ∧ (∃ ea eb ec ed fa fb fc fd, d1 = .slice ea g.cs.length fa ∧ d2 = .slice eb g.ws.length fb ∧ d3 = .slice ec g.ss.length fc ∧ d4 = .slice ed g.qs.length fd ∧ OwnCf w.heap.size x1 g ea eb ec ed fa fb fc fd ∧ Kp w0 x1)) := by
  have kk := k0.trans kd
  refine (rclone_walk w0.drew N g hf ca wa sa qa cc wc sc qc (CeAts.kp x1 kk) (WiAts.kp x2 kk) (SaAts.kp x3 kk) (QuAts.kp x4 kk)).mono ?_
  rintro e x ⟨ea, eb, ec, ed, fa, fb, fc, fd, rfl, ho, hk⟩
  have hBx := hk.heap hBd
  exact ⟨_, _, _, _, rfl, ⟨box_cells hBx 0 rfl, box_cells hBx 1 rfl, box_cells hBx 2 rfl, box_cells hBx 3 rfl, box_cells hBx 4 rfl, box_cells hBx 5 rfl, box_cells hBx 6 rfl, box_cells hBx 7 rfl, box_cells hBx 8 rfl, box_cells hBx 9 rfl, box_cells hBx 10 rfl, box_cells hBx 11 rfl⟩, ea, eb, ec, ed, fa, fb, fc, fd, rfl, rfl, rfl, rfl, ho.weak kk.size, kd.trans hk⟩
 have hS : (fun w' : World => w'.cell? ⟨w.heap.size, 0, none⟩ = some (.int .i64 g.m.pg) ∧ w'.cell? ⟨w.heap.size, 1, none⟩ = some (.int .u32 g.m.ob) ∧ w'.cell? ⟨w.heap.size, 2, none⟩ = some (.int .i64 g.m.op) ∧ w'.cell? ⟨w.heap.size, 3, none⟩ = some (.int .i64 g.m.st) ∧ w'.cell? ⟨w.heap.size, 4, none⟩ = some (.int .i64 g.m.wy) ∧ w'.cell? ⟨w.heap.size, 5, none⟩ = some (.int .i64 g.m.li) ∧ w'.cell? ⟨w.heap.size, 6, none⟩ = some (.int .i64 g.m.sl) ∧ w'.cell? ⟨w.heap.size, 7, none⟩ = some (.int .u64 g.m.mj) ∧ w'.cell? ⟨w.heap.size, 8, none⟩ = some (.slice ca g.cs.length cc) ∧ w'.cell? ⟨w.heap.size, 9, none⟩ = some (.slice wa g.ws.length wc) ∧ w'.cell? ⟨w.heap.size, 10, none⟩ = some (.slice sa g.ss.length sc) ∧ w'.cell? ⟨w.heap.size, 11, none⟩ = some (.slice qa g.qs.length qc)) w0.drew := ⟨box_cells hBd 0 rfl, box_cells hBd 1 rfl, box_cells hBd 2 rfl, box_cells hBd 3 rfl, box_cells hBd 4 rfl, box_cells hBd 5 rfl, box_cells hBd 6 rfl, box_cells hBd 7 rfl, box_cells hBd 8 rfl, box_cells hBd 9 rfl, box_cells hBd 10 rfl, box_cells hBd 11 rfl⟩
 have HB0 : Hid (w0.heap[w.heap.size]? = some (.cells #[.int .i64 g.m.pg, .int .u32 g.m.ob, .int .i64 g.m.op, .int .i64 g.m.st, .int .i64 g.m.wy, .int .i64 g.m.li, .int .i64 g.m.sl, .int .u64 g.m.mj, .slice ca g.cs.length cc, .slice wa g.ws.length wc, .slice sa g.ss.length sc, .slice qa g.qs.length qc] 31 (0, 0)) ∧ Kp w w0) := ⟨hB0, k0⟩
 clear x1 x2 x3 x4 hf hB0 hBd kd k0
 go_enter Tryz.func14, Tryz.ntmps14
 go_upto_region 1 with fail
 rw [← hw0]
 clear hw0
 refine reg14_1 w0 w.heap.size g.m (.slice ca g.cs.length cc) (.slice wa g.ws.length wc) (.slice sa g.ss.length sc) (.slice qa g.qs.length qc) hS _ ⟨rfl, rfl, rfl, rfl⟩ HC.out _ (fun _ _ _ q _ h => by cases q <;> exact h) ?_
 clear hS HC
 rintro d1 d2 d3 d4 w1 ⟨ea, eb, ec, ed, fa, fb, fc, fd, rfl, rfl, rfl, rfl, hO, hk1⟩
 have HO : Hid (OwnCf w.heap.size w1 g ea eb ec ed fa fb fc fd ∧ Kp w w1 ∧ w1.heap[w.heap.size]? = some (.cells #[.int .i64 g.m.pg, .int .u32 g.m.ob, .int .i64 g.m.op, .int .i64 g.m.st, .int .i64 g.m.wy, .int .i64 g.m.li, .int .i64 g.m.sl, .int .u64 g.m.mj, .slice ca g.cs.length cc, .slice wa g.ws.length wc, .slice sa g.ss.length sc, .slice qa g.qs.length qc] 31 (0, 0))) := ⟨hO, HB0.out.2.trans hk1, hk1.heap HB0.out.1⟩
 clear hO hk1 HB0
 obtain ⟨X, hX⟩ : ∃ X, X = w1.heap.size := ⟨_, rfl⟩
 obtain ⟨w2, hw2⟩ : ∃ w2, w2 = w1.alloc (.cells #[.int .i64 g.m.pg, .int .u32 g.m.ob, .int .i64 g.m.op, .int .i64 g.m.st, .int .i64 g.m.wy, .int .i64 g.m.li, .int .i64 g.m.sl, .int .u64 g.m.mj, .slice ca g.cs.length cc, .slice wa g.ws.length wc, .slice sa g.ss.length sc, .slice qa g.qs.length qc, .slice none 0 0, .slice none 0 0, .slice none 0 0, .slice none 0 0, .slice none 0 0, .slice none 0 0, .int .i64 g.m.pg, .int .u32 g.m.ob, .int .i64 g.m.op, .int .i64 g.m.st, .int .i64 g.m.wy, .int .i64 g.m.li, .int .i64 g.m.sl, .int .u64 g.m.mj, .slice ea g.cs.length fa, .slice eb g.ws.length fb, .slice ec g.ss.length fc, .slice ed g.qs.length fd] 49) := ⟨_, rfl⟩
 rw [← hX, ← hw2]
 have H1 : Hid (LI w1 w2 X g.m (.slice ca g.cs.length cc) (.slice wa g.ws.length wc) (.slice sa g.ss.length sc) (.slice qa g.qs.length qc) (.slice none 0 0) (.slice none 0 0) (.slice none 0 0) (.slice ea g.cs.length fa) (.slice eb g.ws.length fb) (.slice ec g.ss.length fc) (.slice ed g.qs.length fd) [] [] none none none 0 0 0) := by
  refine ⟨by rw [hw2]; exact Kp.al _ _, by omega, by rw [hw2, hX]; exact heap_alloc_new w1 _, ⟨World.ownsRow_nil _ _ _ _, (fun k hk => by cases hk)⟩, ⟨World.ownsRow_nil _ _ _ _, (fun k hk => by cases hk)⟩, ⟨World.ownsRow_nil _ _ _ _, (fun k hk => by cases hk)⟩, (fun x hx => by cases hx), (fun x hx => by cases hx), List.nodup_nil, List.nodup_nil⟩
 clear hX hw2
 go_wp2_with fail
 go_loopw [4] (fun s4 wr => ∃ (i : Nat) (L : List LC) (ca' ra na : Option Addr) (cc' rc nc : Nat), s4 = .int .i64 (i : Nat) ∧ i ≤ g.cs.length ∧ Hid (L.map LC.c = g.cs.take i ∧ LI w1 wr X g.m (.slice ca g.cs.length cc) (.slice wa g.ws.length wc) (.slice sa g.ss.length sc) (.slice qa g.qs.length qc) (.slice none 0 0) (.slice none 0 0) (.slice none 0 0) (.slice ea g.cs.length fa) (.slice eb g.ws.length fb) (.slice ec g.ss.length fc) (.slice ed g.qs.length fd) L [] ca' ra na cc' rc nc)) (fun s4 _ => g.cs.length - (intOf s4).toNat)
 case atStart => exact ⟨0, [], none, none, none, 0, 0, 0, rfl, by omega, ⟨by simp, H1.out⟩⟩
 case round =>
  obtain ⟨i, L, ca', ra, na, cc', rc, nc, rfl, hi, HI⟩ := hrel
  clear H1
  have hBr := HI.out.2.kp.heap HO.out.2.2
  have sA : wr.cell? ⟨w.heap.size, 8, none⟩ = some (.slice ca g.cs.length cc) := box_cells hBr 8 rfl
  clear hBr
  have hLi : L.length = i := by
   have := congrArg List.length HI.out.1
   simp at this
   omega
  subst hLi
  by_cases hlt : L.length < g.cs.length
  ·obtain ⟨bx, ox, e5, _, hcx⟩ := (CeAts.kp HL.out.1 HO.out.2.1).2.resolve_left (by omega)
   rw [e5] at sA
   have hx := hcx L.length hlt
   obtain ⟨x, hxx⟩ : ∃ x, x = g.cs[L.length] := ⟨_, rfl⟩
   have HN : Hid (g.cs.take (L.length + 1) = g.cs.take L.length ++ [x] ∧ x.fine) := ⟨by rw [hxx]; exact take_snocQ (List.getElem?_eq_getElem hlt), by rw [hxx]; exact HF.out.cs _ (List.getElem_mem hlt)⟩
   rw [← hxx] at hx
   clear hcx hxx e5
   obtain ⟨_, _, xr, xc, xl, lc, ax, rx, ix⟩ := hx
   have HX : Hid (RdL w1 N 4 RgAt xr x.rs ∧ RdI w1 N xl x.ls) := ⟨rx, ix⟩
   have kw := HI.out.2.kp
   have a0 := kw.cell (ax 0 _ rfl)
   have a1 := kw.cell (ax 1 _ rfl)
   have a2 := kw.cell (ax 2 _ rfl)
   have a3 := kw.cell (ax 3 _ rfl)
   simp only [Nat.add_zero] at a0
   clear ax rx ix kw
   obtain ⟨p1, q1, W2, r1, R, k, W3, r2, s3, ra', rc', W4, r3, s4, f4, hJ⟩ := lent_a (xc := xc) HI.out.2 x HN.out.2 (by have := HF.out.cl; omega) #[.string x.nm, .int .u32 x.e, .slice xr x.rs.length xc, .slice xl x.ls.length lc] HX.out.1
   have HJ : Hid (LJ w1 wr (W4.setCell ⟨X, 16, none⟩ (.slice ra' (L.length + 1) rc')) X g.m (.slice ca g.cs.length cc) (.slice wa g.ws.length wc) (.slice sa g.ss.length sc) (.slice qa g.qs.length qc) (.slice none 0 0) (.slice none 0 0) (.slice none 0 0) (.slice ea g.cs.length fa) (.slice eb g.ws.length fb) (.slice ec g.ss.length fc) (.slice ed g.qs.length fd) L [] ca' ra' na cc' rc' nc x #[.string x.nm, .int .u32 x.e, .slice xr x.rs.length xc, .slice xl x.ls.length lc] R k) := hJ
   obtain ⟨W5, hW5⟩ : ∃ W5,W5 = W4.setCell ⟨X, 16, none⟩ (.slice ra' (L.length + 1) rc') := ⟨_, rfl⟩
   rw [← hW5] at HJ
   have m3 : W5.cell? ⟨wr.heap.size, 3, none⟩ = some (.slice xl x.ls.length lc) := box_cells HJ.out.cb 3 rfl
   have hkR := hJ.hk
   clear hJ
   go_upto_region 10 with (at_builtin; first | refine wpList_append_run _ rfl (.tmp 27) (.tmp 29) 87 87 rfl _ _ _ W2 rfl rfl r1 ?_ | refine wpList_append_run _ rfl (.tmp 31) (.tmp 33) 87 87 rfl _ _ _ W3 rfl rfl r2 ?_ | refine wpList_append_run _ rfl (.tmp 39) (.tmp 41) 46 46 rfl _ _ _ W4 rfl rfl r3 ?_)
   rw [← hW5]
   clear r1 r2 r3 s3 s4 f4 a0 a1 a2 a3 sA hW5
   go_wp2_with fail
   go_at_call 40
   refine (ints_any W5 X _ na _ nc _ x.ls N xl lc HJ.out.box rfl HJ.out.ns.ow (by have := HF.out.cl; simp only [List.length_nil]; omega) (HX.out.2.kp HJ.out.kp) (by have := HN.out.2.ll; omega)).mono ?_
   rintro e W6 ⟨A, k2, na', nc', rfl, hE⟩
   have HK : Hid (LK w1 W6 X g.m (.slice ca g.cs.length cc) (.slice wa g.ws.length wc) (.slice sa g.ss.length sc) (.slice qa g.qs.length qc) (.slice none 0 0) (.slice none 0 0) (.slice none 0 0) (.slice ea g.cs.length fa) (.slice eb g.ws.length fb) (.slice ec g.ss.length fc) (.slice ed g.qs.length fd) L ca' ra' na' cc' rc' nc' x #[.string x.nm, .int .u32 x.e, .slice xr x.rs.length xc, .slice xl x.ls.length lc] wr.heap.size R k A k2) := lent_k HI.out.2 HJ.out hE
   clear hE HJ m3
   go_upto_region 11 with fail
   obtain ⟨c0, ca2, cc2, W7, r7, c7, f7, h7, hI7⟩ := lent_c (HK.out.kpp (Kp.drew W6)) (by have := HF.out.cl; omega)
   have hbd := (Kp.drew W6).heap HK.out.cb
   have hXb : X ≠ wr.heap.size := fun e => by rw [← e] at hbd; exact absurd (tp_ne hbd ((Kp.drew W6).heap HK.out.box)) (by decide)
   refine reg14_11 W6 W7 X wr.heap.size R k A k2 x.rs.length x.ls.length L.length cc' (L.length + 1) cc2 ca' ca2 x.nm x.e (by have := HN.out.2.rl; omega) hkR hXb ⟨box_cells hbd 0 rfl, box_cells hbd 1 rfl⟩ c0 r7 ⟨box_cells h7 0 rfl, box_cells h7 1 rfl⟩ ⟨_, c7⟩ f7 _ (fun _ _ _ q _ h => by cases q <;> exact h) ?_
   have HI7 : Hid ((L ++ [(⟨x, R, k, A, k2⟩ : LC)]).map LC.c = g.cs.take (L.length + 1) ∧ LI w1 (W7.setCell ⟨X, 12, none⟩ (.slice ca2 (L.length + 1) cc2)) X g.m (.slice ca g.cs.length cc) (.slice wa g.ws.length wc) (.slice sa g.ss.length sc) (.slice qa g.qs.length qc) (.slice none 0 0) (.slice none 0 0) (.slice none 0 0) (.slice ea g.cs.length fa) (.slice eb g.ws.length fb) (.slice ec g.ss.length fc) (.slice ed g.qs.length fd) (L ++ [(⟨x, R, k, A, k2⟩ : LC)]) [] ca2 ra' na' cc2 rc' nc') := ⟨by rw [List.map_append, HI.out.1, HN.out.1]; rfl, hI7⟩
   clear hI7 h7 c7 f7 r7 c0 hbd HK hXb HI HN HX
   go_wp2_with fail
   exact ⟨⟨L.length + 1, _, ca2, ra', na', cc2, rc', nc', by go_num, by omega, HI7⟩, by simp [intOf]; omega⟩
  ·obtain ⟨c0, ca2, cc2, W7, r7, c7, f7, hI2⟩ := lent_d HI.out.2 (by have := HF.out.cl; omega)
   have HE : Hid (L.map LC.c = g.cs) := by rw [HI.out.1, List.take_of_length_le (by omega)]; exact rfl
   obtain ⟨W8, hW8⟩ : ∃ W8,W8 = W7.setCell ⟨X, 12, none⟩ (.slice ca2 (L.length + 1) cc2) := ⟨_, rfl⟩
   rw [← hW8] at hI2
   have H2 : Hid (LI2 w1 W8 X g.m (.slice ca g.cs.length cc) (.slice wa g.ws.length wc) (.slice sa g.ss.length sc) (.slice qa g.qs.length qc) (.slice none 0 0) (.slice none 0 0) (.slice ea g.cs.length fa) (.slice eb g.ws.length fb) (.slice ec g.ss.length fc) (.slice ed g.qs.length fd) L [] ca2 none ra na cc2 0 rc nc) := hI2
   clear hI2 HI hi
   go_wp2_with (at_builtin; refine wpList_append_run _ rfl (.tmp 73) (.tmp 75) 26 26 rfl _ _ _ W7 rfl rfl r7 ?_)
   rw [← hW8]
   clear hW8 r7 c7 f7 c0 sA hlt
   generalize wr.heap.size = n75
   clear wr
   go_loopw [8] (fun s8 wr => ∃ (i : Nat) (M : List LS) (sa' na' : Option Addr) (sc' nc' : Nat), s8 = .int .i64 (i : Nat) ∧ i ≤ g.ss.length ∧ Hid (M.map LS.s = g.ss.take i ∧ LI2 w1 wr X g.m (.slice ca g.cs.length cc) (.slice wa g.ws.length wc) (.slice sa g.ss.length sc) (.slice qa g.qs.length qc) (.slice none 0 0) (.slice none 0 0) (.slice ea g.cs.length fa) (.slice eb g.ws.length fb) (.slice ec g.ss.length fc) (.slice ed g.qs.length fd) L M ca2 sa' ra na' cc2 sc' rc nc')) (fun s8 _ => g.ss.length - (intOf s8).toNat)
   case atStart => exact ⟨0, [], none, na, 0, nc, rfl, by omega, ⟨by simp, H2.out⟩⟩
   case round =>
    obtain ⟨i, M, sa', na', sc', nc', rfl, hi, HI⟩ := hrel
    clear H2
    have hBr := HI.out.2.kp.heap HO.out.2.2
    have sA : wr.cell? ⟨w.heap.size, 10, none⟩ = some (.slice sa g.ss.length sc) := box_cells hBr 10 rfl
    clear hBr
    have hLi : M.length = i := by
     have := congrArg List.length HI.out.1
     simp at this
     omega
    subst hLi
    by_cases hlt : M.length < g.ss.length
    ·obtain ⟨bx, ox, e5, _, hcx⟩ := (SaAts.kp HL.out.2.2.1 HO.out.2.1).2.resolve_left (by omega)
     rw [e5] at sA
     have hx := hcx M.length hlt
     obtain ⟨x, hxx⟩ : ∃ x, x = g.ss[M.length] := ⟨_, rfl⟩
     have HN : Hid (g.ss.take (M.length + 1) = g.ss.take M.length ++ [x] ∧ x.fine) := ⟨by rw [hxx]; exact take_snocQ (List.getElem?_eq_getElem hlt), by rw [hxx]; exact HF.out.ss _ (List.getElem_mem hlt)⟩
     rw [← hxx] at hx
     clear hcx hxx e5
     obtain ⟨_, _, xl, lc, ax, ix⟩ := hx
     have HX : Hid (RdI w1 N xl x.rs) := ix
     have kw := HI.out.2.kp
     have a0 := kw.cell (ax 0 _ rfl)
     have a1 := kw.cell (ax 1 _ rfl)
     have a2 := kw.cell (ax 2 _ rfl)
     simp only [Nat.add_zero] at a0
     clear ax ix
     obtain ⟨Wb, hWb⟩ : ∃ Wb, Wb = wr.alloc (.cells #[.int .i64 x.w, .int .i64 x.s, .slice xl x.rs.length lc] 94) := ⟨_, rfl⟩
     have kb : Kp wr Wb := by rw [hWb]; exact Kp.al _ _
     have HH : Hid (LI2 w1 Wb X g.m (.slice ca g.cs.length cc) (.slice wa g.ws.length wc) (.slice sa g.ss.length sc) (.slice qa g.qs.length qc) (.slice none 0 0) (.slice none 0 0) (.slice ea g.cs.length fa) (.slice eb g.ws.length fb) (.slice ec g.ss.length fc) (.slice ed g.qs.length fd) L M ca2 sa' ra na' cc2 sc' rc nc') := HI.out.2.kpp kb
     have hbx : Wb.heap[wr.heap.size]? = some (.cells #[.int .i64 x.w, .int .i64 x.s, .slice xl x.rs.length lc] 94 (0, 0)) := by rw [hWb]; exact heap_alloc_new wr _
     have HW : Hid (Kp w1 Wb ∧ w1.heap.size ≤ wr.heap.size ∧ ¬ Value.ownBlock (.slice sa' M.length sc') = some wr.heap.size) := ⟨kw.trans kb, kw.size, fun q => by have := ownR_lt HI.out.2.ss.ow q; omega⟩
     clear kw kb
     have m2 : Wb.cell? ⟨wr.heap.size, 2, none⟩ = some (.slice xl x.rs.length lc) := box_cells hbx 2 rfl
     have HBX : Hid (Wb.heap[wr.heap.size]? = some (.cells #[.int .i64 x.w, .int .i64 x.s, .slice xl x.rs.length lc] 94 (0, 0))) := hbx
     clear hbx
     go_upto_region 17 with fail
     rw [← hWb]
     clear hWb a0 a1 a2 sA
     go_wp2_with fail
     go_at_call 40
     refine (ints_any Wb X _ na' _ nc' _ x.rs N xl lc HH.out.box rfl HH.out.ns.ow (by have := HF.out.sl; have := HF.out.cl; have := congrArg List.length HE.out; simp at this; omega) (HX.out.kp HW.out.1) (by have := HN.out.2.rl; omega)).mono ?_
     rintro e W6 ⟨A, k2, na2, nc2, rfl, hE⟩
     obtain ⟨t0, t1, t2, t3, t4, hbX, t5, sa2, sc2, W7, r7, c7, f7, h7, hI7⟩ := lent_e (W1 := Wb) (b := wr.heap.size) HH.out x HBX.out HW.out.2.2 (by have := HF.out.sl; omega) HW.out.2.1 (hE.kp (Kp.drew W6))
     have hXb : X ≠ wr.heap.size := fun e => hbX e.symm
     have HQ : Hid ((M ++ [(⟨x, A, k2⟩ : LS)]).map LS.s = g.ss.take (M.length + 1) ∧ LI2 w1 (W7.setCell ⟨X, 14, none⟩ (.slice sa2 (M.length + 1) sc2)) X g.m (.slice ca g.cs.length cc) (.slice wa g.ws.length wc) (.slice sa g.ss.length sc) (.slice qa g.qs.length qc) (.slice none 0 0) (.slice none 0 0) (.slice ea g.cs.length fa) (.slice eb g.ws.length fb) (.slice ec g.ss.length fc) (.slice ed g.qs.length fd) L (M ++ [(⟨x, A, k2⟩ : LS)]) ca2 sa2 ra na2 cc2 sc2 rc nc2) := ⟨by rw [List.map_append, HI.out.1, HN.out.1]; rfl, hI7⟩
     have s2 : W6.cell? ⟨wr.heap.size, 2, none⟩ = some (.slice xl x.rs.length lc) := t1
     have z2 : W6.frozen? ⟨wr.heap.size, 2, none⟩ = false := t2
     have hb7 := heap_setCell_same W6.drew wr.heap.size 2 _ _ (.slice (some ⟨A, 0, none⟩) x.rs.length k2) t0
     have m5 : (W6.drew.setCell ⟨wr.heap.size, 2, none⟩ (.slice (some ⟨A, 0, none⟩) x.rs.length k2)).cell? ⟨X, 14, none⟩ = some (.slice sa' M.length sc') := (World.cell?_setCell_far _ _ _ _ hbX).trans t5
     have hsz : (W6.drew.setCell ⟨wr.heap.size, 2, none⟩ (.slice (some ⟨A, 0, none⟩) x.rs.length k2)).heap.size = W6.drew.heap.size := by simp
     rw [← hsz] at r7
     rw [← drew_set] at r7 hb7 m5
     have HR : Hid (((Builtin.append_ #[28, 28] 28 #[.slice sa' M.length sc', .slice (some ⟨(W6.setCell ⟨wr.heap.size, 2, none⟩ (.slice (some ⟨A, 0, none⟩) x.rs.length k2)).drew.heap.size, 0, none⟩) 1 1]).run Tryz.prog ((W6.setCell ⟨wr.heap.size, 2, none⟩ (.slice (some ⟨A, 0, none⟩) x.rs.length k2)).drew.alloc (.cells #[.int .i64 x.w, .int .i64 x.s, .slice (some ⟨A, 0, none⟩) x.rs.length k2] 94)) = .ok (.slice sa2 (M.length + 1) sc2) W7) ∧ (W6.setCell ⟨wr.heap.size, 2, none⟩ (.slice (some ⟨A, 0, none⟩) x.rs.length k2)).drew.heap[wr.heap.size]? = some (.cells #[.int .i64 x.w, .int .i64 x.s, .slice (some ⟨A, 0, none⟩) x.rs.length k2] 94 (0, 0)) ∧ (W6.setCell ⟨wr.heap.size, 2, none⟩ (.slice (some ⟨A, 0, none⟩) x.rs.length k2)).drew.cell? ⟨X, 14, none⟩ = some (.slice sa' M.length sc')) := ⟨r7, hb7, m5⟩
     clear r7 hb7 m5 hsz t0 t1 t2 t3 t4 t5 hE HH HW HI HN HX m2 HBX hI7
     go_upto_region 18 with fail
     refine reg14_18 _ W7 X wr.heap.size A k2 x.rs.length M.length sc' (M.length + 1) sc2 sa' sa2 x.w x.s hXb ⟨box_cells HR.out.2.1 0 rfl, box_cells HR.out.2.1 1 rfl, box_cells HR.out.2.1 2 rfl⟩ HR.out.2.2 HR.out.1 ⟨box_cells h7 0 rfl, box_cells h7 1 rfl, box_cells h7 2 rfl⟩ ⟨_, c7⟩ f7 _ (fun _ _ _ q _ h => by cases q <;> exact h) ?_
     clear HR s2 z2 h7 c7 f7 hXb hbX
     go_wp2_with fail
     exact ⟨⟨M.length + 1, _, sa2, na2, sc2, nc2, by go_num, by omega, HQ⟩, by simp [intOf]; omega⟩
    ·have HT : Hid (M.map LS.s = g.ss) := by rw [HI.out.1, List.take_of_length_le (by omega)]; exact rfl
     have hMl : Hid (M.length = g.ss.length ∧ L.length = g.cs.length) := ⟨by rw [← HT.out, List.length_map], by rw [← HE.out, List.length_map]⟩
     have hXB : X ≠ w.heap.size := fun e => by have := hp_lt HO.out.2.2; have := HI.out.2.hX; omega
     obtain ⟨a19, c19, W19, r19, b19, _, h19⟩ := HI.out.2.lt.apS (Kp.al wr (.cells padS.toArray 94)) (some ⟨wr.heap.size, 0, none⟩) 1 1 padS rfl (one_src wr padS 94) one_padS (by have := HF.out.sl; have := hMl.out.1; omega)
     obtain ⟨V19, hV19⟩ : ∃ V19, V19 = W19.setCell ⟨X, 14, none⟩ (.slice a19 (M.length + 1) c19) := ⟨_, rfl⟩
     rw [← hV19] at h19
     have H19 := Hid.mk' (h19.bxe (bx2 := (XB g.m (.slice ca g.cs.length cc) (.slice wa g.ws.length wc) (.slice sa g.ss.length sc) (.slice qa g.qs.length qc) (.slice ca2 (L.length + 1) cc2) (.slice none 0 0) (.slice a19 (M.length + 1) c19) (.slice none 0 0) (.slice ra L.length rc) (.slice na' (L.length + M.length) nc') (.slice ea g.cs.length fa) (.slice eb g.ws.length fb) (.slice ec g.ss.length fc) (.slice ed g.qs.length fd))) rfl)
     have p19 : wr.cell? ⟨X, 14, none⟩ = some (.slice sa' M.length sc') := box_cells HI.out.2.box 14 rfl
     have q19 : W19.cell? ⟨X, 14, none⟩ = some (.slice sa' M.length sc') := box_cells b19 14 rfl
     have z19 : W19.frozen? ⟨X, 14, none⟩ = false := (cells_at b19 14).2
     clear h19 b19 HI
     go_upto_region 20 with (at_builtin; refine wpList_append_run _ rfl (.tmp 110) (.tmp 112) 28 28 rfl _ _ _ W19 rfl rfl r19 ?_)
     rw [← hV19]
     clear hV19 r19 p19 q19 z19 sA hlt hi
     obtain ⟨a20, c20, W20, r20, b20, k20, h20⟩ := (H19.out.kpp (Kp.drew V19)).apW (Chg.refl _ _) wa g.ws.length wc (g.ws.flatMap Wi.cells) (flat_len (f := Wi.cells) (fun _ => rfl) _) (RdL.src (f := Wi.cells) (fun _ => rfl) (by omega) (WiAts.kp HL.out.2.1 (HO.out.2.1.trans (H19.out.kp.trans (Kp.drew V19)))) (fun _ _ _ p => p.1)) (one_flat one_wi _) (by have := HF.out.wl; omega)
     simp only [Nat.zero_add, List.nil_append] at r20 h20
     obtain ⟨V20, hV20⟩ : ∃ V20, V20 = W20.setCell ⟨X, 13, none⟩ (.slice a20 g.ws.length c20) := ⟨_, rfl⟩
     have HR20 : Hid (_ ∧ _ ∧ _) := ⟨r20, b20, k20⟩
     refine reg14_20 V19 W20 X w.heap.size 0 0 g.ws.length wc g.ws.length c20 none a20 wa hXB (box_cells ((H19.out.kp.trans (Kp.drew V19)).heap HO.out.2.2) 9 rfl) (box_cells ((Kp.drew V19).heap H19.out.box) 13 rfl) r20 (box_cells (k20.heap HO.out.2.2) 9 rfl) ⟨_, box_cells b20 13 rfl⟩ (cells_at b20 13).2 _ (fun _ _ _ q _ h => by cases q <;> exact h) ?_
     rw [← hV20] at h20 ⊢
     have H20 := Hid.mk' (h20.bxe (bx2 := (XB g.m (.slice ca g.cs.length cc) (.slice wa g.ws.length wc) (.slice sa g.ss.length sc) (.slice qa g.qs.length qc) (.slice ca2 (L.length + 1) cc2) (.slice a20 g.ws.length c20) (.slice a19 (M.length + 1) c19) (.slice none 0 0) (.slice ra L.length rc) (.slice na' (L.length + M.length) nc') (.slice ea g.cs.length fa) (.slice eb g.ws.length fb) (.slice ec g.ss.length fc) (.slice ed g.qs.length fd))) rfl)
     clear h20 hV20 r20 b20 k20 HR20 H19
     obtain ⟨a21, c21, W21, r21, b21, _, h21⟩ := H20.out.apW (Kp.al V20 (.cells padW.toArray 65)) (some ⟨V20.heap.size, 0, none⟩) 1 1 padW rfl (one_src V20 padW 65) one_padW (by have := HF.out.wl; omega)
     obtain ⟨V21, hV21⟩ : ∃ V21, V21 = W21.setCell ⟨X, 13, none⟩ (.slice a21 (g.ws.length + 1) c21) := ⟨_, rfl⟩
     rw [← hV21] at h21
     have H21 := Hid.mk' (h21.bxe (bx2 := (XB g.m (.slice ca g.cs.length cc) (.slice wa g.ws.length wc) (.slice sa g.ss.length sc) (.slice qa g.qs.length qc) (.slice ca2 (L.length + 1) cc2) (.slice a21 (g.ws.length + 1) c21) (.slice a19 (M.length + 1) c19) (.slice none 0 0) (.slice ra L.length rc) (.slice na' (L.length + M.length) nc') (.slice ea g.cs.length fa) (.slice eb g.ws.length fb) (.slice ec g.ss.length fc) (.slice ed g.qs.length fd))) rfl)
     have p21 : V20.cell? ⟨X, 13, none⟩ = some (.slice a20 g.ws.length c20) := box_cells H20.out.box 13 rfl
     have q21 : W21.cell? ⟨X, 13, none⟩ = some (.slice a20 g.ws.length c20) := box_cells b21 13 rfl
     have z21 : W21.frozen? ⟨X, 13, none⟩ = false := (cells_at b21 13).2
     clear h21 b21 H20
     go_upto_region 22 with (at_builtin; refine wpList_append_run _ rfl (.tmp 130) (.tmp 132) 27 27 rfl _ _ _ W21 rfl rfl r21 ?_)
     rw [← hV21]
     clear hV21 r21 p21 q21 z21
     obtain ⟨a22, c22, W22, r22, b22, k22, h22⟩ := (H21.out.kpp (Kp.drew V21)).apQ (Chg.refl _ _) qa g.qs.length qc (g.qs.flatMap Qu.cells) (flat_len (f := Qu.cells) (fun _ => rfl) _) (RdL.src (f := Qu.cells) (fun _ => rfl) (by omega) (QuAts.kp HL.out.2.2.2 (HO.out.2.1.trans (H21.out.kp.trans (Kp.drew V21)))) (fun _ _ _ p => p.1)) (one_flat one_qu _) (by have := HF.out.ql; omega)
     simp only [Nat.zero_add, List.nil_append] at r22 h22
     obtain ⟨V22, hV22⟩ : ∃ V22, V22 = W22.setCell ⟨X, 15, none⟩ (.slice a22 g.qs.length c22) := ⟨_, rfl⟩
     have HR22 : Hid (_ ∧ _ ∧ _) := ⟨r22, b22, k22⟩
     refine reg14_22 V21 W22 X w.heap.size 0 0 g.qs.length qc g.qs.length c22 none a22 qa hXB (box_cells ((H21.out.kp.trans (Kp.drew V21)).heap HO.out.2.2) 11 rfl) (box_cells ((Kp.drew V21).heap H21.out.box) 15 rfl) r22 (box_cells (k22.heap HO.out.2.2) 11 rfl) ⟨_, box_cells b22 15 rfl⟩ (cells_at b22 15).2 _ (fun _ _ _ q _ h => by cases q <;> exact h) ?_
     rw [← hV22] at h22 ⊢
     have H22 := Hid.mk' (h22.bxe (bx2 := (XB g.m (.slice ca g.cs.length cc) (.slice wa g.ws.length wc) (.slice sa g.ss.length sc) (.slice qa g.qs.length qc) (.slice ca2 (L.length + 1) cc2) (.slice a21 (g.ws.length + 1) c21) (.slice a19 (M.length + 1) c19) (.slice a22 g.qs.length c22) (.slice ra L.length rc) (.slice na' (L.length + M.length) nc') (.slice ea g.cs.length fa) (.slice eb g.ws.length fb) (.slice ec g.ss.length fc) (.slice ed g.qs.length fd))) rfl)
     clear h22 hV22 r22 b22 k22 HR22 H21
     obtain ⟨a23, c23, W23, r23, b23, _, h23⟩ := H22.out.apQ (Kp.al V22 (.cells padQ.toArray 98)) (some ⟨V22.heap.size, 0, none⟩) 1 1 padQ rfl (one_src V22 padQ 98) one_padQ (by have := HF.out.ql; omega)
     obtain ⟨V23, hV23⟩ : ∃ V23, V23 = W23.setCell ⟨X, 15, none⟩ (.slice a23 (g.qs.length + 1) c23) := ⟨_, rfl⟩
     rw [← hV23] at h23
     have H23 := Hid.mk' (h23.bxe (bx2 := (XB g.m (.slice ca g.cs.length cc) (.slice wa g.ws.length wc) (.slice sa g.ss.length sc) (.slice qa g.qs.length qc) (.slice ca2 (L.length + 1) cc2) (.slice a21 (g.ws.length + 1) c21) (.slice a19 (M.length + 1) c19) (.slice a23 (g.qs.length + 1) c23) (.slice ra L.length rc) (.slice na' (L.length + M.length) nc') (.slice ea g.cs.length fa) (.slice eb g.ws.length fb) (.slice ec g.ss.length fc) (.slice ed g.qs.length fd))) rfl)
     have p23 : V22.cell? ⟨X, 15, none⟩ = some (.slice a22 g.qs.length c22) := box_cells H22.out.box 15 rfl
     have q23 : W23.cell? ⟨X, 15, none⟩ = some (.slice a22 g.qs.length c22) := box_cells b23 15 rfl
     have z23 : W23.frozen? ⟨X, 15, none⟩ = false := (cells_at b23 15).2
     clear h23 b23 H22
     go_upto_region 24 with (at_builtin; refine wpList_append_run _ rfl (.tmp 150) (.tmp 152) 29 29 rfl _ _ _ W23 rfl rfl r23 ?_)
     rw [← hV23]
     clear hV23 r23 p23 q23 z23
     obtain ⟨g24, eg24, hc24, _⟩ := own_some H23.out.cs.ow (by omega)
     refine reg14_24 V23 X L.length cc2 ca2 (by have := HF.out.cl; have := hMl.out.2; omega) hc24 ⟨g24, eg24⟩ (box_cells ((Kp.drew V23).heap H23.out.box) 12 rfl) ⟨_, box_cells ((Kp.drew V23).heap H23.out.box) 8 rfl⟩ (cells_at ((Kp.drew V23).heap H23.out.box) 8).2 _ (fun _ _ _ q _ h => by cases q <;> exact h) ?_
     have H24 := Hid.mk' (((H23.out.kpp (Kp.drew V23)).put 8 (.slice ca2 L.length cc2)).bxe (bx2 := (XB g.m (.slice ca2 L.length cc2) (.slice wa g.ws.length wc) (.slice sa g.ss.length sc) (.slice qa g.qs.length qc) (.slice ca2 (L.length + 1) cc2) (.slice a21 (g.ws.length + 1) c21) (.slice a19 (M.length + 1) c19) (.slice a23 (g.qs.length + 1) c23) (.slice ra L.length rc) (.slice na' (L.length + M.length) nc') (.slice ea g.cs.length fa) (.slice eb g.ws.length fb) (.slice ec g.ss.length fc) (.slice ed g.qs.length fd))) rfl)
     obtain ⟨V24, hV24⟩ : ∃ V24, V24 = V23.drew.setCell ⟨X, 8, none⟩ (.slice ca2 L.length cc2) := ⟨_, rfl⟩
     rw [← hV24] at H24 ⊢
     clear hV24 H23 hc24 eg24
     go_upto_region 25 with fail
     obtain ⟨g25, eg25, hc25, _⟩ := own_some H24.out.ss.ow (by omega)
     refine reg14_25 V24 X M.length c19 a19 (by have := HF.out.sl; have := hMl.out.1; omega) hc25 ⟨g25, eg25⟩ (box_cells ((Kp.drew V24).heap H24.out.box) 14 rfl) ⟨_, box_cells ((Kp.drew V24).heap H24.out.box) 10 rfl⟩ (cells_at ((Kp.drew V24).heap H24.out.box) 10).2 _ (fun _ _ _ q _ h => by cases q <;> exact h) ?_
     have H25 := Hid.mk' (((H24.out.kpp (Kp.drew V24)).put 10 (.slice a19 M.length c19)).bxe (bx2 := (XB g.m (.slice ca2 L.length cc2) (.slice wa g.ws.length wc) (.slice a19 M.length c19) (.slice qa g.qs.length qc) (.slice ca2 (L.length + 1) cc2) (.slice a21 (g.ws.length + 1) c21) (.slice a19 (M.length + 1) c19) (.slice a23 (g.qs.length + 1) c23) (.slice ra L.length rc) (.slice na' (L.length + M.length) nc') (.slice ea g.cs.length fa) (.slice eb g.ws.length fb) (.slice ec g.ss.length fc) (.slice ed g.qs.length fd))) rfl)
     obtain ⟨V25, hV25⟩ : ∃ V25, V25 = V24.drew.setCell ⟨X, 10, none⟩ (.slice a19 M.length c19) := ⟨_, rfl⟩
     rw [← hV25] at H25 ⊢
     clear hV25 H24 hc25 eg25
     go_upto_region 26 with fail
     obtain ⟨g26, eg26, hc26, _⟩ := own_some H25.out.ws.ow (by omega)
     refine reg14_26 V25 X g.ws.length c21 a21 (by have := HF.out.wl; omega) hc26 ⟨g26, eg26⟩ (box_cells ((Kp.drew V25).heap H25.out.box) 13 rfl) ⟨_, box_cells ((Kp.drew V25).heap H25.out.box) 9 rfl⟩ (cells_at ((Kp.drew V25).heap H25.out.box) 9).2 _ (fun _ _ _ q _ h => by cases q <;> exact h) ?_
     have H26 := Hid.mk' (((H25.out.kpp (Kp.drew V25)).put 9 (.slice a21 g.ws.length c21)).bxe (bx2 := (XB g.m (.slice ca2 L.length cc2) (.slice a21 g.ws.length c21) (.slice a19 M.length c19) (.slice qa g.qs.length qc) (.slice ca2 (L.length + 1) cc2) (.slice a21 (g.ws.length + 1) c21) (.slice a19 (M.length + 1) c19) (.slice a23 (g.qs.length + 1) c23) (.slice ra L.length rc) (.slice na' (L.length + M.length) nc') (.slice ea g.cs.length fa) (.slice eb g.ws.length fb) (.slice ec g.ss.length fc) (.slice ed g.qs.length fd))) rfl)
     obtain ⟨V26, hV26⟩ : ∃ V26, V26 = V25.drew.setCell ⟨X, 9, none⟩ (.slice a21 g.ws.length c21) := ⟨_, rfl⟩
     rw [← hV26] at H26 ⊢
     clear hV26 H25 hc26 eg26
     go_upto_region 27 with fail
     obtain ⟨g27, eg27, hc27, _⟩ := own_some H26.out.qs.ow (by omega)
     refine reg14_27 V26 X g.qs.length c23 a23 (by have := HF.out.ql; omega) hc27 ⟨g27, eg27⟩ (box_cells ((Kp.drew V26).heap H26.out.box) 15 rfl) ⟨_, box_cells ((Kp.drew V26).heap H26.out.box) 11 rfl⟩ (cells_at ((Kp.drew V26).heap H26.out.box) 11).2 _ (fun _ _ _ q _ h => by cases q <;> exact h) ?_
     have H27 := Hid.mk' (((H26.out.kpp (Kp.drew V26)).put 11 (.slice a23 g.qs.length c23)).bxe (bx2 := (XB g.m (.slice ca2 L.length cc2) (.slice a21 g.ws.length c21) (.slice a19 M.length c19) (.slice a23 g.qs.length c23) (.slice ca2 (L.length + 1) cc2) (.slice a21 (g.ws.length + 1) c21) (.slice a19 (M.length + 1) c19) (.slice a23 (g.qs.length + 1) c23) (.slice ra L.length rc) (.slice na' (L.length + M.length) nc') (.slice ea g.cs.length fa) (.slice eb g.ws.length fb) (.slice ec g.ss.length fc) (.slice ed g.qs.length fd))) rfl)
     obtain ⟨V27, hV27⟩ : ∃ V27, V27 = V26.drew.setCell ⟨X, 11, none⟩ (.slice a23 g.qs.length c23) := ⟨_, rfl⟩
     rw [← hV27] at H27 ⊢
     clear hV27 H26 hc27 eg27
     go_wp2_with fail
     go_ret
     exact ⟨X, _, rfl, H27.out.fin HF.out HO.out.2.1.size HO.out.1 HE.out HT.out rfl rfl rfl rfl rfl rfl rfl, HO.out.2.1.trans H27.out.kp⟩
end Go.Proofs.YtknlpjcdemijgaaGreat
namespace Go.Proofs.YtknlpjcdemijgaaGreat
open Go.ChangeShapes Go.WideShapes Go.ChangeAt Go.RowKit
set_option linter.unusedVariables false
theorem wr64 (n : Nat) (h : n < 140737488355328) : IntKind.i64.wrap (n : Int) = n := by simp [IntKind.wrap, IntKind.bits, IntKind.signed]; omega
def Ovr (w w' : World) (b : Nat) : Prop := Chg w w' (fun k => k = b) ∧ ∀ cur e, w.heap[b]? = some (.cells cur e (0, 0)) → ∃ cur', w'.heap[b]? = some (.cells cur' e (0, 0)) ∧ cur'.size = cur.size
theorem Ovr.refl (w : World) (b : Nat) : Ovr w w b := ⟨Chg.refl _ _, fun cur e h => ⟨cur, h, rfl⟩⟩
theorem Ovr.set {w w' : World} {b : Nat} (h : Ovr w w' b) (o : Nat) (u : Value) : Ovr w (w'.setCell ⟨b, o, none⟩ u) b := by
 refine ⟨Chg.setCell h.1 (.inl rfl) _, fun cur e hb => ?_⟩
 obtain ⟨c1, h1, h2⟩ := h.2 cur e hb
 exact ⟨_, heap_setCell_same _ _ _ _ _ _ h1, by simp [h2]⟩
theorem cell_there {w : World} {b e : Nat} {cur : Array Value} (h : w.heap[b]? = some (.cells cur e (0, 0))) (o : Nat) (ho : o < cur.size) : (∃ z, w.cell? ⟨b, o, none⟩ = some z) ∧ w.frozen? ⟨b, o, none⟩ = false := ⟨⟨_, box_cells h o (Array.getElem?_eq_getElem ho)⟩, (cells_at h o).2⟩
theorem KK.ovr {w wr wr' : World} {X : Nat} {g : Cf} {v : LV} {i j : Nat} (h : KK w wr X g v i j) {b e sz : Nat} (hb : ∃ cur, wr.heap[b]? = some (.cells cur e (0, 0)) ∧ sz ≤ cur.size) (h1 : e ≠ 49) (h2 : e ≠ 87) (h3 : e ≠ 52) (hk : v.blk g b) (hr : ∀ (k : Nat) (x : RW), v.ru[k]? = some x → i ≤ k → x.b ≠ b) (hn : ∀ (k : Nat) (x : RW), v.nu[k]? = some x → j ≤ k → x.b ≠ b) (ho : Ovr wr wr' b) :
  KK w wr' X g v i j ∧ ∃ cur, wr'.heap[b]? = some (.cells cur e (0, 0)) ∧ sz ≤ cur.size := by
 obtain ⟨cur, hb, hs⟩ := hb
 obtain ⟨cur', hb', hs'⟩ := ho.2 cur e hb
 exact ⟨h.over hb h1 h2 h3 hk hr hn ho.1 hb' hs', cur', hb', by omega⟩
set_option maxHeartbeats 16000000 in
set_option maxRecDepth 100000 in
theorem kept_walk (lo : Nat) (w : World) (X : Nat) (g : Cf) (v : LV) (h : LF lo w X g v) :
  Calls Tryz.prog 15 #[.pointer (some ⟨X, 0, none⟩)] w fun r w' => r = .returned (.bool true) ∧ Chg w w' (v.blk g) := by
 have hL := h.lL
 have hM := h.lM
 have hd := h.kp (Kp.drew w)
 have HC := Hid.mk' (requal_any w.drew _ _ g g hd.isCf hd.tw.isCf)
 have HF : Hid (LF lo w X g v) := h
 have nL : v.L.length < 140737488355327 := by have := h.f.cl; omega
 have nM : v.M.length < 140737488355327 := by have := h.f.sl; omega
 have nW : g.ws.length < 140737488355327 := by have := h.f.wl; omega
 have nQ : g.qs.length < 140737488355327 := by have := h.f.ql; omega
 have HLM : Hid (v.L.length = g.cs.length ∧ v.M.length = g.ss.length) := ⟨hL, hM⟩
 clear hL hM h
 go_enter Tryz.func15, Tryz.ntmps15
 go_upto_region 1 with fail
 refine reg15_1 w X g.m (.slice v.ca v.L.length v.cc) (.slice v.wa g.ws.length v.wc) (.slice v.sa v.M.length v.sc) (.slice v.qa g.qs.length v.qc) (.slice v.e1 g.cs.length v.f1) (.slice v.e2 g.ws.length v.f2) (.slice v.e3 g.ss.length v.f3) (.slice v.e4 g.qs.length v.f4) ⟨box_cells hd.box 0 rfl, box_cells hd.box 1 rfl, box_cells hd.box 2 rfl, box_cells hd.box 3 rfl, box_cells hd.box 4 rfl, box_cells hd.box 5 rfl, box_cells hd.box 6 rfl, box_cells hd.box 7 rfl, box_cells hd.box 8 rfl, box_cells hd.box 9 rfl, box_cells hd.box 10 rfl, box_cells hd.box 11 rfl, box_cells hd.box 18 rfl, box_cells hd.box 19 rfl, box_cells hd.box 20 rfl, box_cells hd.box 21 rfl, box_cells hd.box 22 rfl, box_cells hd.box 23 rfl, box_cells hd.box 24 rfl, box_cells hd.box 25 rfl, box_cells hd.box 26 rfl, box_cells hd.box 27 rfl, box_cells hd.box 28 rfl, box_cells hd.box 29 rfl⟩ (fun w1 => Kp w w1) ?_ _ (fun _ _ _ q _ h => by cases q <;> exact h) ?_
 ·rw [HLM.out.1, HLM.out.2]
  refine HC.out.mono ?_
  rintro e x ⟨rfl, hk⟩
  have hb := hk.heap hd.box
  simp only [LV.bx, HLM.out.1, HLM.out.2] at hb
  exact ⟨by simp, ⟨box_cells hb 0 rfl, box_cells hb 1 rfl, box_cells hb 2 rfl, box_cells hb 3 rfl, box_cells hb 4 rfl, box_cells hb 5 rfl, box_cells hb 6 rfl, box_cells hb 7 rfl, box_cells hb 8 rfl, box_cells hb 9 rfl, box_cells hb 10 rfl, box_cells hb 11 rfl, box_cells hb 18 rfl, box_cells hb 19 rfl, box_cells hb 20 rfl, box_cells hb 21 rfl, box_cells hb 22 rfl, box_cells hb 23 rfl, box_cells hb 24 rfl, box_cells hb 25 rfl, box_cells hb 26 rfl, box_cells hb 27 rfl, box_cells hb 28 rfl, box_cells hb 29 rfl⟩, (Kp.drew w).trans hk⟩
 intro w1 hk1
 have h1 := HF.out.kp hk1
 have HK : Hid (KK w w1 X g v 0 0) := HF.out.start.kp hk1
 obtain ⟨gC, uC, eC, tC, _, _, mC⟩ := own_cur h1.cs.ow (by omega) (by rw [List.length_append, flat_len (f := LC.cells) (sz := 4) (fun _ => rfl)]; simp [padC]; omega)
 obtain ⟨gW, uW, eW, tW, _, _, mW⟩ := own_cur h1.ws.ow (by omega) (by rw [List.length_append, flat_len (f := Wi.cells) (sz := 3) (fun _ => rfl)]; simp [padW]; omega)
 obtain ⟨gS, uS, eS, tS, _, _, mS⟩ := own_cur h1.ss.ow (by omega) (by rw [List.length_append, flat_len (f := LS.cells) (sz := 3) (fun _ => rfl)]; simp [padS]; omega)
 obtain ⟨gQ, uQ, eQ, tQ, _, _, mQ⟩ := own_cur h1.qs.ow (by omega) (by rw [List.length_append, flat_len (f := Qu.cells) (sz := 6) (fun _ => rfl)]; simp [padQ]; omega)
 have c12 : w1.cell? ⟨X, 12, none⟩ = some (.slice v.ca (v.L.length + 1) v.cc) := box_cells h1.box 12 rfl
 have c13 : w1.cell? ⟨X, 13, none⟩ = some (.slice v.wa (g.ws.length + 1) v.wc) := box_cells h1.box 13 rfl
 have c14 : w1.cell? ⟨X, 14, none⟩ = some (.slice v.sa (v.M.length + 1) v.sc) := box_cells h1.box 14 rfl
 have c15 : w1.cell? ⟨X, 15, none⟩ = some (.slice v.qa (g.qs.length + 1) v.qc) := box_cells h1.box 15 rfl
 rw [eC] at c12
 rw [eW] at c13
 rw [eS] at c14
 rw [eQ] at c15
 have k12 : w1.cell? ⟨gC, v.L.length * 4, none⟩ = some (.string { data := #[98, 101, 104, 105, 110, 100] }) := box_cells tC _ (mC _ _ (pad_at _ _ _ 0 _ (flat_len (f := LC.cells) (sz := 4) (fun _ => rfl) _) rfl))
 have k13 : w1.cell? ⟨gW, g.ws.length * 3, none⟩ = some (.int .i64 (-77)) := box_cells tW _ (mW _ _ (pad_at _ _ _ 0 _ (flat_len (f := Wi.cells) (sz := 3) (fun _ => rfl) _) rfl))
 have k14 : w1.cell? ⟨gS, v.M.length * 3 + 1, none⟩ = some (.int .i64 (-77)) := box_cells tS _ (mS _ _ (pad_at _ _ _ 1 _ (flat_len (f := LS.cells) (sz := 3) (fun _ => rfl) _) rfl))
 have k15 : w1.cell? ⟨gQ, g.qs.length * 6 + 2, none⟩ = some (.int .i64 (-77)) := box_cells tQ _ (mQ _ _ (pad_at _ _ _ 2 _ (flat_len (f := Qu.cells) (sz := 6) (fun _ => rfl) _) rfl))
 have wL := wr64 v.L.length (by omega)
 have wM := wr64 v.M.length (by omega)
 have wW := wr64 g.ws.length (by omega)
 have wQ := wr64 g.qs.length (by omega)
 clear h1 mC mW mS mQ tC tW tS tQ hd hk1 HC
 go_upto_region 2 with fail
 go_quiet (fail)
 go_upto_region 3 with fail
 go_quiet (fail)
 go_wp2_with fail
 have hru : ∀ (k : Nat) (x : RW), v.ru[k]? = some x → x.n < 140737488355327 ∧ v.blk g x.b := fun k x hx => by
  simp only [LV.ru, List.getElem?_map, Option.map_eq_some_iff] at hx
  obtain ⟨y, hy, rfl⟩ := hx
  have hm := List.mem_of_getElem? hy
  have hm2 : y.c ∈ g.cs := by rw [← HF.out.eL]; exact List.mem_map_of_mem hm
  have := (HF.out.f.cs _ hm2).rl
  exact ⟨by show y.c.rs.length < _; omega, .inr (.inr (.inr (.inr (.inl ⟨y, hm, rfl⟩))))⟩
 have HRU := Hid.mk' hru
 have HNR : Hid ((v.ru.map RW.b).Nodup ∧ (v.nu.map RW.b).Nodup) := ⟨by rw [LV.ru_b]; exact HF.out.nr, by rw [LV.nu_b]; exact HF.out.nl⟩
 clear hru c12 c13 c14 c15 k12 k13 k14 k15
 go_loopw [3, 4] (fun s3 s4 wr => s3 = .bool true ∧ ∃ (i : Nat), s4 = .int .i64 (i : Nat) ∧ i ≤ v.L.length ∧ Hid (KK w wr X g v i 0)) (fun _ s4 _ => v.L.length - (intOf s4).toNat)
 case atStart => exact ⟨rfl, 0, rfl, by omega, HK.out.kp (by first | exact Kp.drewN _ _ | exact (Kp.drewN _ _).trans (Kp.drewN _ _))⟩
 case round =>
  obtain ⟨rfl, i, rfl, hi, HI⟩ := hrel
  clear HK
  have sA : wr.cell? ⟨X, 16, none⟩ = some (.slice v.ra v.L.length v.rc) := box_cells HI.out.box 16 rfl
  by_cases hlt : i < v.L.length
  ·obtain ⟨x, hx⟩ : ∃ x, v.ru[i]? = some x := ⟨_, List.getElem?_eq_getElem (by rw [LV.ru_len]; exact hlt)⟩
   obtain ⟨b, eb, kb⟩ := HI.out.rat i x hx
   rw [eb] at sA
   obtain ⟨cur, t1, t2, t3⟩ := HI.out.fr i x hx (Nat.le_refl _)
   have kx : wr.cell? ⟨x.b, x.n * 4 + 2, none⟩ = some (.int .i64 (-77)) := box_cells t1 _ t3
   have nx := (HRU.out i x hx).1
   have wx := wr64 x.n (by omega)
   have HX : Hid (v.ru[i]? = some x) := hx
   have HB : Hid (KK w wr X g v (i + 1) 0 ∧ ∃ cur, wr.heap[x.b]? = some (.cells cur 101 (0, 0)) ∧ (x.n + 1) * 4 ≤ cur.size) := ⟨HI.out.weak (by omega) (Nat.le_refl _), cur, t1, t2⟩
   clear t1 t2 t3 hx eb HI
   go_wp2_with fail
   clear sA kb kx
   obtain ⟨WR, hWR⟩ : ∃ WR, WR = wr := ⟨_, rfl⟩
   rw [← hWR] at HB ⊢
   clear hWR wr
   go_loopw [6] (fun s6 wr => ∃ (k : Nat), s6 = .int .i64 (k : Nat) ∧ k ≤ x.n + 1 ∧ Hid (KK w wr X g v (i + 1) 0 ∧ ∃ cur, wr.heap[x.b]? = some (.cells cur 101 (0, 0)) ∧ (x.n + 1) * 4 ≤ cur.size)) (fun s6 _ => x.n + 1 - (intOf s6).toNat)
   case atStart => exact ⟨0, rfl, by omega, HB⟩
   case round =>
    obtain ⟨k, rfl, hk, HJ⟩ := hrel
    clear HB
    by_cases hkl : k < x.n + 1
    ·obtain ⟨cur, t1, t2⟩ := HJ.out.2
     obtain ⟨⟨y0, z0⟩, f0⟩ := cell_there t1 (k * 4) (by omega)
     obtain ⟨⟨y1, z1⟩, f1⟩ := cell_there t1 (k * 4 + 1) (by omega)
     obtain ⟨⟨y2, z2⟩, f2⟩ := cell_there t1 (k * 4 + 2) (by omega)
     obtain ⟨⟨y3, z3⟩, f3⟩ := cell_there t1 (k * 4 + 3) (by omega)
     clear t1 t2
     go_wp2_with fail
     exact ⟨⟨k + 1, by go_num, by omega, HJ.out.1.ovr HJ.out.2 (by decide) (by decide) (by decide) (HRU.out i x HX.out).2 (fun m y hy hm => rw_ne HNR.out.1 hy HX.out (by omega)) (fun m y hy hm e => by obtain ⟨c1, q1, _⟩ := HJ.out.1.fn m y hy hm; obtain ⟨c2, q2, _⟩ := HJ.out.2; rw [e] at q1; exact absurd (tp_ne q1 q2) (by decide)) (((((Ovr.refl _ _).set _ _).set _ _).set _ _).set _ _)⟩, by simp [intOf]; omega⟩
    ·have HE := Hid.mk' HJ.out.1
     clear HJ
     go_wp2_with fail
     exact ⟨⟨rfl, i + 1, by go_num, by omega, HE⟩, by simp [intOf]; omega⟩
  ·obtain rfl : i = v.L.length := by omega
   go_wp2_with fail
   clear sA hlt hi
   obtain ⟨WR, hWR⟩ : ∃ WR, WR = wr := ⟨_, rfl⟩
   rw [← hWR] at HI ⊢
   clear hWR wr
   have hnu : ∀ (k : Nat) (x : RW), v.nu[k]? = some x → x.n < 140737488355327 ∧ v.blk g x.b := fun k x hx => by
    have hm := List.mem_of_getElem? hx
    refine ⟨?_, .inr (.inr (.inr (.inr (.inr (by rw [← LV.nu_b]; exact List.mem_map_of_mem hm)))))⟩
    simp only [LV.nu, List.mem_append, List.mem_map] at hm
    rcases hm with ⟨y, hy, rfl⟩ | ⟨y, hy, rfl⟩
    ·have hm2 : y.c ∈ g.cs := by rw [← HF.out.eL]; exact List.mem_map_of_mem hy
     have := (HF.out.f.cs _ hm2).ll
     show y.c.ls.length < _; omega
    ·have hm2 : y.s ∈ g.ss := by rw [← HF.out.eM]; exact List.mem_map_of_mem hy
     have := (HF.out.f.ss _ hm2).rl
     show y.s.rs.length < _; omega
   have HNU := Hid.mk' hnu
   clear hnu HRU
   go_loopw [3, 7] (fun s3 s7 wr => s3 = .bool true ∧ ∃ (i : Nat), s7 = .int .i64 (i : Nat) ∧ i ≤ v.L.length + v.M.length ∧ Hid (KK w wr X g v v.L.length i)) (fun _ s7 _ => v.L.length + v.M.length - (intOf s7).toNat)
   case atStart => exact ⟨rfl, 0, rfl, by omega, HI⟩
   case round =>
    clear HI
    obtain ⟨rfl, i, rfl, hi, HI⟩ := hrel
    have sA : wr.cell? ⟨X, 17, none⟩ = some (.slice v.na (v.L.length + v.M.length) v.nc) := box_cells HI.out.box 17 rfl
    by_cases hlt : i < v.L.length + v.M.length
    ·obtain ⟨x, hx⟩ : ∃ x, v.nu[i]? = some x := ⟨_, List.getElem?_eq_getElem (by rw [LV.nu_len]; exact hlt)⟩
     obtain ⟨b, eb, kb⟩ := HI.out.nat i x hx
     rw [eb] at sA
     obtain ⟨cur, t1, t2, t3⟩ := HI.out.fn i x hx (Nat.le_refl _)
     rw [Nat.mul_one, Nat.add_zero] at t3
     rw [Nat.mul_one] at t2
     have kx : wr.cell? ⟨x.b, x.n, none⟩ = some (.int .i64 (-77)) := box_cells t1 _ t3
     have nx := (HNU.out i x hx).1
     have wx := wr64 x.n (by omega)
     have HX : Hid (v.nu[i]? = some x) := hx
     have HB : Hid (KK w wr X g v v.L.length (i + 1) ∧ ∃ cur, wr.heap[x.b]? = some (.cells cur 3 (0, 0)) ∧ x.n + 1 ≤ cur.size) := ⟨HI.out.weak (Nat.le_refl _) (by omega), cur, t1, t2⟩
     clear t1 t2 t3 hx eb HI
     go_wp2_with fail
     clear sA kb kx
     obtain ⟨WR, hWR⟩ : ∃ WR, WR = wr := ⟨_, rfl⟩
     rw [← hWR] at HB ⊢
     clear hWR wr
     go_loopw [9] (fun s9 wr => ∃ (k : Nat), s9 = .int .i64 (k : Nat) ∧ k ≤ x.n + 1 ∧ Hid (KK w wr X g v v.L.length (i + 1) ∧ ∃ cur, wr.heap[x.b]? = some (.cells cur 3 (0, 0)) ∧ x.n + 1 ≤ cur.size)) (fun s9 _ => x.n + 1 - (intOf s9).toNat)
     case atStart => exact ⟨0, rfl, by omega, HB⟩
     case round =>
      obtain ⟨k, rfl, hk, HJ⟩ := hrel
      clear HB
      by_cases hkl : k < x.n + 1
      ·obtain ⟨cur, t1, t2⟩ := HJ.out.2
       obtain ⟨⟨y0, z0⟩, f0⟩ := cell_there t1 k (by omega)
       clear t1 t2
       go_wp2_with fail
       exact ⟨⟨k + 1, by go_num, by omega, HJ.out.1.ovr HJ.out.2 (by decide) (by decide) (by decide) (HNU.out i x HX.out).2 (fun m y hy hm => by have := (List.getElem?_eq_some_iff.1 hy).1; rw [LV.ru_len] at this; omega) (fun m y hy hm => rw_ne HNR.out.2 hy HX.out (by omega)) ((Ovr.refl _ _).set _ _)⟩, by simp [intOf]; omega⟩
      ·have HE := Hid.mk' HJ.out.1
       clear HJ
       go_wp2_with fail
       exact ⟨⟨rfl, i + 1, by go_num, by omega, HE⟩, by simp [intOf]; omega⟩
    ·obtain rfl : i = v.L.length + v.M.length := by omega
     go_wp2_with fail
     clear sA hlt hi HNU HNR
     obtain ⟨WR, hWR⟩ : ∃ WR, WR = wr := ⟨_, rfl⟩
     rw [← hWR] at HI ⊢
     clear hWR wr
     go_loopw [10] (fun s wr => ∃ (k : Nat), s = .int .i64 (k : Nat) ∧ k ≤ v.L.length + 1 ∧ Hid (KK w wr X g v v.L.length (v.L.length + v.M.length))) (fun s _ => v.L.length + 1 - (intOf s).toNat)
     case atStart => exact ⟨0, rfl, by omega, HI⟩
     case round =>
      clear HI
      obtain ⟨k, rfl, hk, HI⟩ := hrel
      have sA : wr.cell? ⟨X, 12, none⟩ = some (.slice v.ca (v.L.length + 1) v.cc) := box_cells HI.out.box 12 rfl
      rw [eC] at sA
      by_cases hkl : k < v.L.length + 1
      ·obtain ⟨bb, cur, e1, t1, t2⟩ := HI.out.c1
       obtain rfl : bb = gC := by rw [eC] at e1; simpa using e1.symm
       have HB : Hid (∃ cur, wr.heap[bb]? = some (.cells cur 89 (0, 0)) ∧ (v.L.length + 1) * 4 ≤ cur.size) := ⟨cur, t1, t2⟩
       obtain ⟨⟨y0, z0⟩, f0⟩ := cell_there t1 (k * 4) (by omega)
       obtain ⟨⟨y1, z1⟩, f1⟩ := cell_there t1 (k * 4 + 1) (by omega)
       obtain ⟨⟨y2, z2⟩, f2⟩ := cell_there t1 (k * 4 + 2) (by omega)
       obtain ⟨⟨y3, z3⟩, f3⟩ := cell_there t1 (k * 4 + 3) (by omega)
       clear t1 t2 e1
       go_wp2_with fail
       exact ⟨⟨k + 1, by go_num, by omega, (HI.out.ovr HB.out (by decide) (by decide) (by decide) (.inl (by rw [eC]; rfl)) (fun m y hy hm => by have := (List.getElem?_eq_some_iff.1 hy).1; rw [LV.ru_len] at this; omega) (fun m y hy hm => by have := (List.getElem?_eq_some_iff.1 hy).1; rw [LV.nu_len] at this; omega) (((((Ovr.refl _ _).set _ _).set _ _).set _ _).set _ _)).1⟩, by simp [intOf]; omega⟩
      ·obtain rfl : k = v.L.length + 1 := by omega
       go_wp2_with fail
       clear sA hkl hk
       obtain ⟨WR, hWR⟩ : ∃ WR, WR = wr := ⟨_, rfl⟩
       rw [← hWR] at HI ⊢
       clear hWR wr
       go_loopw [11] (fun s wr => ∃ (k : Nat), s = .int .i64 (k : Nat) ∧ k ≤ v.M.length + 1 ∧ Hid (KK w wr X g v v.L.length (v.L.length + v.M.length))) (fun s _ => v.M.length + 1 - (intOf s).toNat)
       case atStart => exact ⟨0, rfl, by omega, HI⟩
       case round =>
        clear HI
        obtain ⟨k, rfl, hk, HI⟩ := hrel
        have sA : wr.cell? ⟨X, 14, none⟩ = some (.slice v.sa (v.M.length + 1) v.sc) := box_cells HI.out.box 14 rfl
        rw [eS] at sA
        by_cases hkl : k < v.M.length + 1
        ·obtain ⟨bb, cur, e1, t1, t2⟩ := HI.out.c3
         obtain rfl : bb = gS := by rw [eS] at e1; simpa using e1.symm
         have HB : Hid (∃ cur, wr.heap[bb]? = some (.cells cur 94 (0, 0)) ∧ (v.M.length + 1) * 3 ≤ cur.size) := ⟨cur, t1, t2⟩
         obtain ⟨⟨y0, z0⟩, f0⟩ := cell_there t1 (k * 3) (by omega)
         obtain ⟨⟨y1, z1⟩, f1⟩ := cell_there t1 (k * 3 + 1) (by omega)
         obtain ⟨⟨y2, z2⟩, f2⟩ := cell_there t1 (k * 3 + 2) (by omega)
         clear t1 t2 e1
         go_wp2_with fail
         exact ⟨⟨k + 1, by go_num, by omega, (HI.out.ovr HB.out (by decide) (by decide) (by decide) (.inr (.inr (.inl (by rw [eS]; rfl)))) (fun m y hy hm => by have := (List.getElem?_eq_some_iff.1 hy).1; rw [LV.ru_len] at this; omega) (fun m y hy hm => by have := (List.getElem?_eq_some_iff.1 hy).1; rw [LV.nu_len] at this; omega) ((((Ovr.refl _ _).set _ _).set _ _).set _ _)).1⟩, by simp [intOf]; omega⟩
        ·obtain rfl : k = v.M.length + 1 := by omega
         go_wp2_with fail
         clear sA hkl hk
         obtain ⟨WR, hWR⟩ : ∃ WR, WR = wr := ⟨_, rfl⟩
         rw [← hWR] at HI ⊢
         clear hWR wr
         go_loopw [12] (fun s wr => ∃ (k : Nat), s = .int .i64 (k : Nat) ∧ k ≤ g.ws.length + 1 ∧ Hid (KK w wr X g v v.L.length (v.L.length + v.M.length))) (fun s _ => g.ws.length + 1 - (intOf s).toNat)
         case atStart => exact ⟨0, rfl, by omega, HI⟩
         case round =>
          clear HI
          obtain ⟨k, rfl, hk, HI⟩ := hrel
          have sA : wr.cell? ⟨X, 13, none⟩ = some (.slice v.wa (g.ws.length + 1) v.wc) := box_cells HI.out.box 13 rfl
          rw [eW] at sA
          by_cases hkl : k < g.ws.length + 1
          ·obtain ⟨bb, cur, e1, t1, t2⟩ := HI.out.c2
           obtain rfl : bb = gW := by rw [eW] at e1; simpa using e1.symm
           have HB : Hid (∃ cur, wr.heap[bb]? = some (.cells cur 65 (0, 0)) ∧ (g.ws.length + 1) * 3 ≤ cur.size) := ⟨cur, t1, t2⟩
           obtain ⟨⟨y0, z0⟩, f0⟩ := cell_there t1 (k * 3) (by omega)
           obtain ⟨⟨y1, z1⟩, f1⟩ := cell_there t1 (k * 3 + 1) (by omega)
           obtain ⟨⟨y2, z2⟩, f2⟩ := cell_there t1 (k * 3 + 2) (by omega)
           clear t1 t2 e1
           go_wp2_with fail
           exact ⟨⟨k + 1, by go_num, by omega, (HI.out.ovr HB.out (by decide) (by decide) (by decide) (.inr (.inl (by rw [eW]; rfl))) (fun m y hy hm => by have := (List.getElem?_eq_some_iff.1 hy).1; rw [LV.ru_len] at this; omega) (fun m y hy hm => by have := (List.getElem?_eq_some_iff.1 hy).1; rw [LV.nu_len] at this; omega) ((((Ovr.refl _ _).set _ _).set _ _).set _ _)).1⟩, by simp [intOf]; omega⟩
          ·obtain rfl : k = g.ws.length + 1 := by omega
           go_wp2_with fail
           clear sA hkl hk
           obtain ⟨WR, hWR⟩ : ∃ WR, WR = wr := ⟨_, rfl⟩
           rw [← hWR] at HI ⊢
           clear hWR wr
           go_loopw [13] (fun s wr => ∃ (k : Nat), s = .int .i64 (k : Nat) ∧ k ≤ g.qs.length + 1 ∧ Hid (KK w wr X g v v.L.length (v.L.length + v.M.length))) (fun s _ => g.qs.length + 1 - (intOf s).toNat)
           case atStart => exact ⟨0, rfl, by omega, HI⟩
           case round =>
            clear HI
            obtain ⟨k, rfl, hk, HI⟩ := hrel
            have sA : wr.cell? ⟨X, 15, none⟩ = some (.slice v.qa (g.qs.length + 1) v.qc) := box_cells HI.out.box 15 rfl
            rw [eQ] at sA
            by_cases hkl : k < g.qs.length + 1
            ·obtain ⟨bb, cur, e1, t1, t2⟩ := HI.out.c4
             obtain rfl : bb = gQ := by rw [eQ] at e1; simpa using e1.symm
             have HB : Hid (∃ cur, wr.heap[bb]? = some (.cells cur 98 (0, 0)) ∧ (g.qs.length + 1) * 6 ≤ cur.size) := ⟨cur, t1, t2⟩
             obtain ⟨⟨y0, z0⟩, f0⟩ := cell_there t1 (k * 6) (by omega)
             obtain ⟨⟨y1, z1⟩, f1⟩ := cell_there t1 (k * 6 + 1) (by omega)
             obtain ⟨⟨y2, z2⟩, f2⟩ := cell_there t1 (k * 6 + 2) (by omega)
             obtain ⟨⟨y3, z3⟩, f3⟩ := cell_there t1 (k * 6 + 3) (by omega)
             obtain ⟨⟨y4, z4⟩, f4⟩ := cell_there t1 (k * 6 + 4) (by omega)
             obtain ⟨⟨y5, z5⟩, f5⟩ := cell_there t1 (k * 6 + 5) (by omega)
             clear t1 t2 e1
             go_wp2_with fail
             exact ⟨⟨k + 1, by go_num, by omega, (HI.out.ovr HB.out (by decide) (by decide) (by decide) (.inr (.inr (.inr (.inl (by rw [eQ]; rfl))))) (fun m y hy hm => by have := (List.getElem?_eq_some_iff.1 hy).1; rw [LV.ru_len] at this; omega) (fun m y hy hm => by have := (List.getElem?_eq_some_iff.1 hy).1; rw [LV.nu_len] at this; omega) (((((((Ovr.refl _ _).set _ _).set _ _).set _ _).set _ _).set _ _).set _ _)).1⟩, by simp [intOf]; omega⟩
            ·obtain rfl : k = g.qs.length + 1 := by omega
             go_wp2_with fail
             clear sA hkl hk
             go_ret
             exact ⟨rfl, HI.out.chg⟩
end Go.Proofs.YtknlpjcdemijgaaGreat
