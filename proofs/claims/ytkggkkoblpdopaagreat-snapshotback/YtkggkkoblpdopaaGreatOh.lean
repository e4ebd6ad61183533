import Derived.Test.YtkggkkoblpdopaaGreatOf
namespace Go.Proofs.YtkggkkoblpdopaaGreat
open Go.ChangeShapes Go.WideShapes Go.ChangeAt Go.RowKit
set_option linter.unusedVariables false
def ops12_41 : Array Oper := #[⟨some 302, Op.move (.tmp 17), 4, "ref.go:454", #[], none⟩,
 ⟨some 303, Op.unOp UnOp.not 4 (.tmp 302), 4, "ref.go:454", #[gd' 0], none⟩,
 ⟨some 304, Op.move (.tmp 303), 4, "ref.go:454", #[gd' 1], none⟩,
 ⟨some 305, Op.move (.tmp 18), 4, "ref.go:454", #[{ on := 2, ground := Ground.guard }], some (2, false)⟩,
 ⟨some 306, Op.unOp UnOp.not 4 (.tmp 305), 4, "ref.go:454", #[gd' 3, { on := 2, ground := Ground.guard }], some (2, false)⟩,
 ⟨some 307, Op.pick (.tmp 304) (Operand.const (Value.bool true)) (.tmp 306), 4, "ref.go:454", #[gd' 2, gd' 4], none⟩,
 ⟨some 308, Op.move (.tmp 307), 4, "ref.go:454", #[gd' 5, gc' 2], none⟩,
 ⟨some 309, Op.fieldAddr 36 (.tmp 2) 9, 0, "ref.go:454", #[{ on := 6, ground := Ground.guard }], some (6, false)⟩,
 ⟨some 310, Op.load 33 (.tmp 309), 33, "ref.go:454", #[gd' 7, { on := 6, ground := Ground.guard }], some (6, false)⟩,
 ⟨some 311, Op.move (.tmp 16), 3, "ref.go:454", #[{ on := 6, ground := Ground.guard }], some (6, false)⟩,
 ⟨some 312, Op.indexAddr 33 (.tmp 310) (.tmp 311), 0, "ref.go:454", #[gd' 8, gd' 9, { on := 6, ground := Ground.guard }], some (6, false)⟩,
 ⟨some 313, Op.fieldAddr 69 (.tmp 312) 0, 0, "ref.go:454", #[gd' 10, { on := 6, ground := Ground.guard }], some (6, false)⟩,
 ⟨some 314, Op.load 67 (.tmp 313), 67, "ref.go:454", #[gd' 11, { on := 6, ground := Ground.guard }], some (6, false)⟩,
 ⟨some 315, Op.fieldAddr 36 (.tmp 3) 9, 0, "ref.go:454", #[{ on := 6, ground := Ground.guard }], some (6, false)⟩,
 ⟨some 316, Op.load 33 (.tmp 315), 33, "ref.go:454", #[gd' 13, { on := 6, ground := Ground.guard }], some (6, false)⟩,
 ⟨some 317, Op.move (.tmp 16), 3, "ref.go:454", #[{ on := 6, ground := Ground.guard }], some (6, false)⟩,
 ⟨some 318, Op.indexAddr 33 (.tmp 316) (.tmp 317), 0, "ref.go:454", #[gd' 14, gd' 15, { on := 6, ground := Ground.guard }], some (6, false)⟩,
 ⟨some 319, Op.fieldAddr 69 (.tmp 318) 0, 0, "ref.go:454", #[gd' 16, { on := 6, ground := Ground.guard }], some (6, false)⟩,
 ⟨some 320, Op.load 67 (.tmp 319), 67, "ref.go:454", #[gd' 17, { on := 6, ground := Ground.guard }], some (6, false)⟩,
 ⟨some 321, Op.binOp BinOp.neq 67 (.tmp 314) (.tmp 320) 67, 4, "ref.go:454", #[gd' 12, gd' 18, { on := 6, ground := Ground.guard }], some (6, false)⟩,
 ⟨some 322, Op.pick (.tmp 308) (Operand.const (Value.bool true)) (.tmp 321), 4, "ref.go:454", #[gd' 6, gd' 19], none⟩]
set_option maxHeartbeats 8000000 in
set_option maxRecDepth 100000 in
theorem reg12_41 (W : World) (G1 G2 ba oa bb ob n ca cb k : Nat) (hk : k < n) (C : List Value) (hC : (Tryz.prog.info? 67).map (·.size) = some C.length) (hq : ∀ w, (binOp .neq 67 (.agg C.toArray) (.agg C.toArray)).run Tryz.prog w = .ok (.bool false) w) (hS : (fun w' => w'.cell? ⟨G1, 42, none⟩ = some (.slice (some ⟨ba, oa, none⟩) n ca) ∧ w'.cell? ⟨G2, 42, none⟩ = some (.slice (some ⟨bb, ob, none⟩) n cb) ∧ w'.rangeAt ba (oa + k * 7) C ∧ w'.rangeAt bb (ob + k * 7) C) W.drew)
  (Q : Exit → Act → World → Prop) (hPan : ∀ c (a : Act) w (d : Option Tmp) v, Q (.panic c) (a.put d v) w → Q (.panic c) a w) {u0 u1 u4 u5 u6 u7 u8 u9 u10 u11 u12 u13 u14 u15 u19 u20 u21 u22 u23 u24 u25 u26 u27 u28 u29 u30 u31 u32 u33 u34 u35 u36 u37 u38 u39 u40 u41 u42 u43 u44 u45 u46 u47 u48 u49 u50 u51 u52 u53 u54 u55 u56 u57 u58 u59 u60 u61 u62 u63 u64 u65 u66 u67 u68 u69 u70 u71 u72 u73 u74 u75 u76 u77 u78 u79 u80 u81 u82 u83 u84 u85 u86 u87 u88 u89 u90 u91 u92 u93 u94 u95 u96 u97 u98 u99 A0 A1 A2 A3 A4 A5 A6 A7 A8 A9 B0 B1 B2 B3 B4 B5 B6 B7 B8 B9 C0 C1 C2 C3 C4 C5 C6 C7 C8 C9 D0 D1 D2 D3 D4 D5 D6 D7 D8 D9 E0 E1 E2 E3 E4 E5 E6 E7 E8 E9 F0 F1 F2 F3 F4 F5 F6 F7 F8 F9 G0 G3 G4 G5 G6 G7 G8 G9 H0 H1 H2 H3 H4 H5 H6 H7 H8 H9 I0 I1 I2 I3 I4 I5 I6 I7 I8 I9 J0 J1 J2 J3 J4 J5 J6 J7 J8 J9 K0 K1 K2 K3 K4 K5 K6 K7 K8 K9 L0 L1 L2 L3 L4 L5 L6 L7 L8 L9 M0 M1 M2 M3 M4 M5 M6 M7 M8 M9 N0 N1 N2 N3 N4 N5 N6 N7 N8 N9 O0 O1 O2 O3 O4 O5 O6 O7 O8 O9 P0 P1 P2 P3 P4 P5 P6 P7 P8 P9 Q0 Q1 Q2 Q3 Q4 Q5 Q6 Q7 Q8 Q9 R0 R1 R2 R3 R4 R5 R6 R7 R8 R9 S0 S1 S2 S3 S4 S5 S6 S7 S8 S9 T0 T1 T2 T3 T4 T5 T6 T7 T8 T9 U0 U1 U2 U3 U4 U5 U6 U7 U8 U9 V0 V1 V2 V3 V4 V5 V6 V7 V8 V9 W1 W2 W3 W4 W5 W6 W7 W8 W9 X0 X1 X2 X3 X4 X5 X6 X7 X8 X9 Y0 Y1 Y2 Y3 : Value}
  (hQ : Q .normal ⟨#[u0,u1, .pointer (some ⟨G1, 0, none⟩), .pointer (some ⟨G2, 0, none⟩), u4,u5,u6,u7,u8,u9,u10,u11,u12,u13,u14,u15, .int .i64 (k : Nat), .bool true, .bool true, u19,u20,u21,u22,u23,u24,u25,u26,u27,u28,u29,u30,u31,u32,u33,u34,u35,u36,u37,u38,u39,u40,u41,u42,u43,u44,u45,u46,u47,u48,u49,u50,u51,u52,u53,u54,u55,u56,u57,u58,u59,u60,u61,u62,u63,u64,u65,u66,u67,u68,u69,u70,u71,u72,u73,u74,u75,u76,u77,u78,u79,u80,u81,u82,u83,u84,u85,u86,u87,u88,u89,u90,u91,u92,u93,u94,u95,u96,u97,u98,u99,A0,A1,A2,A3,A4,A5,A6,A7,A8,A9,B0,B1,B2,B3,B4,B5,B6,B7,B8,B9,C0,C1,C2,C3,C4,C5,C6,C7,C8,C9,D0,D1,D2,D3,D4,D5,D6,D7,D8,D9,E0,E1,E2,E3,E4,E5,E6,E7,E8,E9,F0,F1,F2,F3,F4,F5,F6,F7,F8,F9,G0,G3,G4,G5,G6,G7,G8,G9,H0,H1,H2,H3,H4,H5,H6,H7,H8,H9,I0,I1,I2,I3,I4,I5,I6,I7,I8,I9,J0,J1,J2,J3,J4,J5,J6,J7,J8,J9,K0,K1,K2,K3,K4,K5,K6,K7,K8,K9,L0,L1,L2,L3,L4,L5,L6,L7,L8,L9,M0,M1,M2,M3,M4,M5,M6,M7,M8,M9,N0,N1,N2,N3,N4,N5,N6,N7,N8,N9,O0,O1,O2,O3,O4,O5,O6,O7,O8,O9,P0,P1,P2,P3,P4,P5,P6,P7,P8,P9,Q0,Q1,Q2,Q3,Q4,Q5,Q6,Q7,Q8,Q9,R0,R1,R2,R3,R4,R5,R6,R7,R8,R9,S0,S1,S2,S3,S4,S5,S6,S7,S8,S9,T0,T1,T2,T3,T4,T5,T6,T7,T8,T9,U0,U1,U2,U3, .bool true, .bool false, .bool false, .bool true, .bool false, .bool false, .bool false, .pointer (some ⟨G1, 42, none⟩), .slice (some ⟨ba, oa, none⟩) n ca, .int .i64 (k : Nat), .pointer (some ⟨ba, oa + k * 7, none⟩), .pointer (some ⟨ba, oa + k * 7, none⟩), .agg C.toArray, .pointer (some ⟨G2, 42, none⟩), .slice (some ⟨bb, ob, none⟩) n cb, .int .i64 (k : Nat), .pointer (some ⟨bb, ob + k * 7, none⟩), .pointer (some ⟨bb, ob + k * 7, none⟩), .agg C.toArray, .bool false, .bool false, W6,W7,W8,W9,X0,X1,X2,X3,X4,X5,X6,X7,X8,X9,Y0,Y1,Y2,Y3], []⟩ W.drew) :
  Code.wp Tryz.prog (Code.region 41 ops12_41 true) Q ⟨#[u0,u1, .pointer (some ⟨G1, 0, none⟩), .pointer (some ⟨G2, 0, none⟩), u4,u5,u6,u7,u8,u9,u10,u11,u12,u13,u14,u15, .int .i64 (k : Nat), .bool true, .bool true, u19,u20,u21,u22,u23,u24,u25,u26,u27,u28,u29,u30,u31,u32,u33,u34,u35,u36,u37,u38,u39,u40,u41,u42,u43,u44,u45,u46,u47,u48,u49,u50,u51,u52,u53,u54,u55,u56,u57,u58,u59,u60,u61,u62,u63,u64,u65,u66,u67,u68,u69,u70,u71,u72,u73,u74,u75,u76,u77,u78,u79,u80,u81,u82,u83,u84,u85,u86,u87,u88,u89,u90,u91,u92,u93,u94,u95,u96,u97,u98,u99,A0,A1,A2,A3,A4,A5,A6,A7,A8,A9,B0,B1,B2,B3,B4,B5,B6,B7,B8,B9,C0,C1,C2,C3,C4,C5,C6,C7,C8,C9,D0,D1,D2,D3,D4,D5,D6,D7,D8,D9,E0,E1,E2,E3,E4,E5,E6,E7,E8,E9,F0,F1,F2,F3,F4,F5,F6,F7,F8,F9,G0,G3,G4,G5,G6,G7,G8,G9,H0,H1,H2,H3,H4,H5,H6,H7,H8,H9,I0,I1,I2,I3,I4,I5,I6,I7,I8,I9,J0,J1,J2,J3,J4,J5,J6,J7,J8,J9,K0,K1,K2,K3,K4,K5,K6,K7,K8,K9,L0,L1,L2,L3,L4,L5,L6,L7,L8,L9,M0,M1,M2,M3,M4,M5,M6,M7,M8,M9,N0,N1,N2,N3,N4,N5,N6,N7,N8,N9,O0,O1,O2,O3,O4,O5,O6,O7,O8,O9,P0,P1,P2,P3,P4,P5,P6,P7,P8,P9,Q0,Q1,Q2,Q3,Q4,Q5,Q6,Q7,Q8,Q9,R0,R1,R2,R3,R4,R5,R6,R7,R8,R9,S0,S1,S2,S3,S4,S5,S6,S7,S8,S9,T0,T1,T2,T3,T4,T5,T6,T7,T8,T9,U0,U1,U2,U3,U4,U5,U6,U7,U8,U9,V0,V1,V2,V3,V4,V5,V6,V7,V8,V9,W1,W2,W3,W4,W5,W6,W7,W8,W9,X0,X1,X2,X3,X4,X5,X6,X7,X8,X9,Y0,Y1,Y2,Y3], []⟩ W := by
 have hk1 : (k : Int) < n := by omega
 have hk2 : ¬ (k : Int) < 0 := by omega
 refine wp_region_held_drew (S := fun w' => w'.cell? ⟨G1, 42, none⟩ = some (.slice (some ⟨ba, oa, none⟩) n ca) ∧ w'.cell? ⟨G2, 42, none⟩ = some (.slice (some ⟨bb, ob, none⟩) n cb) ∧ w'.rangeAt ba (oa + k * 7) C ∧ w'.rangeAt bb (ob + k * 7) C) hmx hS (fun HSX => ?_)
 clear hS
 obtain ⟨W0, hW0⟩ : ∃ W0,W0 = W.drew := ⟨_, rfl⟩
 rw [← hW0] at HSX hQ ⊢
 clear hW0
 refine tk hPan (i := 0) (oi := ⟨some 302, Op.move (.tmp 17), 4, "ref.go:454", #[], none⟩) (v := .bool true) rfl (by kernel_rfl) (.inl ⟨by rfl, ?_⟩) HSX ?_
 ·intro wx d0
  obtain ⟨s1, s2, s3, s4⟩ := d0
  go_simp
 simp only [Act.put, sl0', sl1', sl2']
 refine tk hPan (i := 1) (oi := ⟨some 303, Op.unOp UnOp.not 4 (.tmp 302), 4, "ref.go:454", #[gd' 0], none⟩) (v := .bool false) rfl (by kernel_rfl) (.inl ⟨by rfl, ?_⟩) HSX ?_
 ·intro wx d0
  obtain ⟨s1, s2, s3, s4⟩ := d0
  go_simp
 simp only [Act.put, sl0', sl1', sl2']
 refine tk hPan (i := 2) (oi := ⟨some 304, Op.move (.tmp 303), 4, "ref.go:454", #[gd' 1], none⟩) (v := .bool false) rfl (by kernel_rfl) (.inl ⟨by rfl, ?_⟩) HSX ?_
 ·intro wx d0
  obtain ⟨s1, s2, s3, s4⟩ := d0
  go_simp
 simp only [Act.put, sl0', sl1', sl2']
 refine tk hPan (i := 3) (oi := ⟨some 305, Op.move (.tmp 18), 4, "ref.go:454", #[{ on := 2, ground := Ground.guard }], some (2, false)⟩) (v := .bool true) rfl (by kernel_rfl) (.inl ⟨by rfl, ?_⟩) HSX ?_
 ·intro wx d0
  obtain ⟨s1, s2, s3, s4⟩ := d0
  go_simp
 simp only [Act.put, sl0', sl1', sl2']
 refine tk hPan (i := 4) (oi := ⟨some 306, Op.unOp UnOp.not 4 (.tmp 305), 4, "ref.go:454", #[gd' 3, { on := 2, ground := Ground.guard }], some (2, false)⟩) (v := .bool false) rfl (by kernel_rfl) (.inl ⟨by rfl, ?_⟩) HSX ?_
 ·intro wx d0
  obtain ⟨s1, s2, s3, s4⟩ := d0
  go_simp
 simp only [Act.put, sl0', sl1', sl2']
 refine tk hPan (i := 5) (oi := ⟨some 307, Op.pick (.tmp 304) (Operand.const (Value.bool true)) (.tmp 306), 4, "ref.go:454", #[gd' 2, gd' 4], none⟩) (v := .bool false) rfl (by kernel_rfl) (.inl ⟨by rfl, ?_⟩) HSX ?_
 ·intro wx d0
  obtain ⟨s1, s2, s3, s4⟩ := d0
  go_simp
 simp only [Act.put, sl0', sl1', sl2']
 refine tk hPan (i := 6) (oi := ⟨some 308, Op.move (.tmp 307), 4, "ref.go:454", #[gd' 5, gc' 2], none⟩) (v := .bool false) rfl (by kernel_rfl) (.inl ⟨by rfl, ?_⟩) HSX ?_
 ·intro wx d0
  obtain ⟨s1, s2, s3, s4⟩ := d0
  go_simp
 simp only [Act.put, sl0', sl1', sl2']
 refine tk hPan (i := 7) (oi := ⟨some 309, Op.fieldAddr 36 (.tmp 2) 9, 0, "ref.go:454", #[{ on := 6, ground := Ground.guard }], some (6, false)⟩) (v := .pointer (some ⟨G1, 42, none⟩)) rfl (by kernel_rfl) (.inl ⟨by rfl, ?_⟩) HSX ?_
 ·intro wx d0
  obtain ⟨s1, s2, s3, s4⟩ := d0
  go_simp
 simp only [Act.put, sl0', sl1', sl2']
 refine tk hPan (i := 8) (oi := ⟨some 310, Op.load 33 (.tmp 309), 33, "ref.go:454", #[gd' 7, { on := 6, ground := Ground.guard }], some (6, false)⟩) (v := .slice (some ⟨ba, oa, none⟩) n ca) rfl (by kernel_rfl) (.inl ⟨by rfl, ?_⟩) HSX ?_
 ·intro wx d0
  obtain ⟨s1, s2, s3, s4⟩ := d0
  go_simp
 simp only [Act.put, sl0', sl1', sl2']
 refine tk hPan (i := 9) (oi := ⟨some 311, Op.move (.tmp 16), 3, "ref.go:454", #[{ on := 6, ground := Ground.guard }], some (6, false)⟩) (v := .int .i64 (k : Nat)) rfl (by kernel_rfl) (.inl ⟨by rfl, ?_⟩) HSX ?_
 ·intro wx d0
  obtain ⟨s1, s2, s3, s4⟩ := d0
  go_simp
 simp only [Act.put, sl0', sl1', sl2']
 refine tk hPan (i := 10) (oi := ⟨some 312, Op.indexAddr 33 (.tmp 310) (.tmp 311), 0, "ref.go:454", #[gd' 8, gd' 9, { on := 6, ground := Ground.guard }], some (6, false)⟩) (v := .pointer (some ⟨ba, oa + k * 7, none⟩)) rfl (by kernel_rfl) (.inl ⟨by rfl, ?_⟩) HSX ?_
 ·intro wx d0
  obtain ⟨s1, s2, s3, s4⟩ := d0
  go_simp
  try (intro hge; omega)
 simp only [Act.put, sl0', sl1', sl2']
 refine tk hPan (i := 11) (oi := ⟨some 313, Op.fieldAddr 69 (.tmp 312) 0, 0, "ref.go:454", #[gd' 10, { on := 6, ground := Ground.guard }], some (6, false)⟩) (v := .pointer (some ⟨ba, oa + k * 7, none⟩)) rfl (by kernel_rfl) (.inl ⟨by rfl, ?_⟩) HSX ?_
 ·intro wx d0
  obtain ⟨s1, s2, s3, s4⟩ := d0
  go_simp
 simp only [Act.put, sl0', sl1', sl2']
 refine tk hPan (i := 12) (oi := ⟨some 314, Op.load 67 (.tmp 313), 67, "ref.go:454", #[gd' 11, { on := 6, ground := Ground.guard }], some (6, false)⟩) (v := .agg C.toArray) rfl (by kernel_rfl) (yieldsIf_load_mid (by rfl) 67 (.tmp 313) rfl ba (oa + k * 7) rfl C _ (fun w h => h.2.2.1) Tryz.underlying67 rfl hC) HSX ?_
 simp only [Act.put, sl0', sl1', sl2']
 refine tk hPan (i := 13) (oi := ⟨some 315, Op.fieldAddr 36 (.tmp 3) 9, 0, "ref.go:454", #[{ on := 6, ground := Ground.guard }], some (6, false)⟩) (v := .pointer (some ⟨G2, 42, none⟩)) rfl (by kernel_rfl) (.inl ⟨by rfl, ?_⟩) HSX ?_
 ·intro wx d0
  obtain ⟨s1, s2, s3, s4⟩ := d0
  go_simp
 simp only [Act.put, sl0', sl1', sl2']
 refine tk hPan (i := 14) (oi := ⟨some 316, Op.load 33 (.tmp 315), 33, "ref.go:454", #[gd' 13, { on := 6, ground := Ground.guard }], some (6, false)⟩) (v := .slice (some ⟨bb, ob, none⟩) n cb) rfl (by kernel_rfl) (.inl ⟨by rfl, ?_⟩) HSX ?_
 ·intro wx d0
  obtain ⟨s1, s2, s3, s4⟩ := d0
  go_simp
 simp only [Act.put, sl0', sl1', sl2']
 refine tk hPan (i := 15) (oi := ⟨some 317, Op.move (.tmp 16), 3, "ref.go:454", #[{ on := 6, ground := Ground.guard }], some (6, false)⟩) (v := .int .i64 (k : Nat)) rfl (by kernel_rfl) (.inl ⟨by rfl, ?_⟩) HSX ?_
 ·intro wx d0
  obtain ⟨s1, s2, s3, s4⟩ := d0
  go_simp
 simp only [Act.put, sl0', sl1', sl2']
 refine tk hPan (i := 16) (oi := ⟨some 318, Op.indexAddr 33 (.tmp 316) (.tmp 317), 0, "ref.go:454", #[gd' 14, gd' 15, { on := 6, ground := Ground.guard }], some (6, false)⟩) (v := .pointer (some ⟨bb, ob + k * 7, none⟩)) rfl (by kernel_rfl) (.inl ⟨by rfl, ?_⟩) HSX ?_
 ·intro wx d0
  obtain ⟨s1, s2, s3, s4⟩ := d0
  go_simp
  try (intro hge; omega)
 simp only [Act.put, sl0', sl1', sl2']
 refine tk hPan (i := 17) (oi := ⟨some 319, Op.fieldAddr 69 (.tmp 318) 0, 0, "ref.go:454", #[gd' 16, { on := 6, ground := Ground.guard }], some (6, false)⟩) (v := .pointer (some ⟨bb, ob + k * 7, none⟩)) rfl (by kernel_rfl) (.inl ⟨by rfl, ?_⟩) HSX ?_
 ·intro wx d0
  obtain ⟨s1, s2, s3, s4⟩ := d0
  go_simp
 simp only [Act.put, sl0', sl1', sl2']
 refine tk hPan (i := 18) (oi := ⟨some 320, Op.load 67 (.tmp 319), 67, "ref.go:454", #[gd' 17, { on := 6, ground := Ground.guard }], some (6, false)⟩) (v := .agg C.toArray) rfl (by kernel_rfl) (yieldsIf_load_mid (by rfl) 67 (.tmp 319) rfl bb (ob + k * 7) rfl C _ (fun w h => h.2.2.2) Tryz.underlying67 rfl hC) HSX ?_
 simp only [Act.put, sl0', sl1', sl2']
 refine tk hPan (i := 19) (oi := ⟨some 321, Op.binOp BinOp.neq 67 (.tmp 314) (.tmp 320) 67, 4, "ref.go:454", #[gd' 12, gd' 18, { on := 6, ground := Ground.guard }], some (6, false)⟩) (v := .bool false) rfl (by kernel_rfl) (.inl ⟨by rfl, ?_⟩) HSX ?_
 ·intro wx d0
  simp only [execOp, Act.eval]
  simp [eqg67, hq]
 simp only [Act.put, sl0', sl1', sl2']
 refine tk hPan (i := 20) (oi := ⟨some 322, Op.pick (.tmp 308) (Operand.const (Value.bool true)) (.tmp 321), 4, "ref.go:454", #[gd' 6, gd' 19], none⟩) (v := .bool false) rfl (by kernel_rfl) (.inl ⟨by rfl, ?_⟩) HSX ?_
 ·intro wx d0
  obtain ⟨s1, s2, s3, s4⟩ := d0
  go_simp
 simp only [Act.put, sl0', sl1', sl2']
 refine wpAnyH_done (by kernel_rfl) ?_ _
 exact hQ
end Go.Proofs.YtkggkkoblpdopaaGreat
