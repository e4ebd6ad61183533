import Derived.Test.YtnblhaeojlpmmaaTp
namespace Go.Proofs.Ytnblhaeojlpmmaa
open Go.ChangeShapes Go.WideShapes Go.ChangeAt Go.RowKit
set_option linter.unusedVariables false
def ops17_37 : Array Oper := #[{ dst := some 241, op := Op.move (Operand.tmp 0), type := 52, pos := "law.go:321", after := #[], guard := none },
  { dst := some 242, op := Op.nilCheck (Operand.tmp 241), type := 0, pos := "law.go:321", after := #[{ on := 0, ground := Ground.data }], guard := none },
  { dst := some 243, op := Op.fieldAddr 60 (Operand.tmp 242) 3, type := 0, pos := "law.go:321", after := #[{ on := 1, ground := Ground.data }], guard := none },
  { dst := some 244, op := Op.fieldAddr 66 (Operand.tmp 3) 4, type := 0, pos := "law.go:321", after := #[], guard := none },
  { dst := some 245, op := Op.load 64 (Operand.tmp 244), type := 64, pos := "law.go:321", after := #[{ on := 3, ground := Ground.data }], guard := none },
  { dst := some 246, op := Op.call { callee := Callee.value (Operand.func 35), args := #[Operand.tmp 243, Operand.tmp 245], argTypes := #[58, 64] }, type := 64, pos := "law.go:321", after := #[{ on := 2, ground := Ground.data }, { on := 4, ground := Ground.data }], guard := none },
  { dst := some 25, op := Op.alloc 64, type := 0, pos := "law.go:321", after := #[], guard := none },
  { dst := none, op := Op.store 64 (Operand.tmp 25) (Operand.tmp 246), type := 0, pos := "law.go:321", after := #[{ on := 6, ground := Ground.data }, { on := 5, ground := Ground.data }, { on := 5, ground := Ground.chain }, { on := 0, ground := Ground.phase }, { on := 1, ground := Ground.phase }, { on := 2, ground := Ground.phase }, { on := 3, ground := Ground.phase }, { on := 4, ground := Ground.phase }, { on := 5, ground := Ground.phase }, { on := 6, ground := Ground.phase }], guard := none }]
set_option maxHeartbeats 8000000 in
set_option maxRecDepth 100000 in
theorem reg17_37 (W : World) (K A n1 n2 : Nat) (b0 b1 b2 b3 b4 : Int) (v1 v2 : Value) (hS : (fun w' => w'.cell? ⟨A, 4, none⟩ = some (.int .i64 b0) ∧ w'.cell? ⟨A, 5, none⟩ = some (.int .i64 b1) ∧ w'.cell? ⟨A, 6, none⟩ = some (.int .i64 b2) ∧ w'.cell? ⟨A, 7, none⟩ = some (.int .i64 b3) ∧ w'.cell? ⟨A, 8, none⟩ = some (.int .i64 b4) ∧ w'.cell? ⟨A, 9, none⟩ = some (v1) ∧ w'.cell? ⟨A, 10, none⟩ = some (v2)) W.drew) (HZ : (fun w' => w'.cell? ⟨A, 4, none⟩ = some (.int .i64 b0) ∧ w'.cell? ⟨A, 5, none⟩ = some (.int .i64 b1) ∧ w'.cell? ⟨A, 6, none⟩ = some (.int .i64 b2) ∧ w'.cell? ⟨A, 7, none⟩ = some (.int .i64 b3) ∧ w'.cell? ⟨A, 8, none⟩ = some (.int .i64 b4) ∧ w'.cell? ⟨A, 9, none⟩ = some (v1) ∧ w'.cell? ⟨A, 10, none⟩ = some (v2)) (W.drew.alloc (.cells #[.int .i64 0, .int .i64 0, .int .i64 0, .int .i64 0, .int .i64 0, .slice none 0 0, .slice none 0 0] 64))) (P : Nat → Nat → Nat → Nat → Nat → World → Prop)
    (hA : Calls Try.prog 35 #[.pointer (some ⟨K, 8, none⟩), .agg #[.int .i64 b0, .int .i64 b1, .int .i64 b2, .int .i64 b3, .int .i64 b4, v1, v2]] W.drew fun e x1 => ∃ g1 c1 g2 c2, e = .returned (.agg #[.int .i64 b0, .int .i64 b1, .int .i64 b2, .int .i64 b3, .int .i64 b4, .slice (some ⟨g1, 0, none⟩) n1 c1, .slice (some ⟨g2, 0, none⟩) n2 c2]) ∧ (x1.cell? ⟨A, 4, none⟩ = some (.int .i64 b0) ∧ x1.cell? ⟨A, 5, none⟩ = some (.int .i64 b1) ∧ x1.cell? ⟨A, 6, none⟩ = some (.int .i64 b2) ∧ x1.cell? ⟨A, 7, none⟩ = some (.int .i64 b3) ∧ x1.cell? ⟨A, 8, none⟩ = some (.int .i64 b4) ∧ x1.cell? ⟨A, 9, none⟩ = some (v1) ∧ x1.cell? ⟨A, 10, none⟩ = some (v2)) ∧ (fun w' => w'.cell? ⟨A, 4, none⟩ = some (.int .i64 b0) ∧ w'.cell? ⟨A, 5, none⟩ = some (.int .i64 b1) ∧ w'.cell? ⟨A, 6, none⟩ = some (.int .i64 b2) ∧ w'.cell? ⟨A, 7, none⟩ = some (.int .i64 b3) ∧ w'.cell? ⟨A, 8, none⟩ = some (.int .i64 b4) ∧ w'.cell? ⟨A, 9, none⟩ = some (v1) ∧ w'.cell? ⟨A, 10, none⟩ = some (v2)) (x1.alloc (.cells #[.int .i64 0, .int .i64 0, .int .i64 0, .int .i64 0, .int .i64 0, .slice none 0 0, .slice none 0 0] 64)) ∧ (fun w' => w'.cell? ⟨A, 4, none⟩ = some (.int .i64 b0) ∧ w'.cell? ⟨A, 5, none⟩ = some (.int .i64 b1) ∧ w'.cell? ⟨A, 6, none⟩ = some (.int .i64 b2) ∧ w'.cell? ⟨A, 7, none⟩ = some (.int .i64 b3) ∧ w'.cell? ⟨A, 8, none⟩ = some (.int .i64 b4) ∧ w'.cell? ⟨A, 9, none⟩ = some (v1) ∧ w'.cell? ⟨A, 10, none⟩ = some (v2)) (x1.alloc (.cells #[.int .i64 b0, .int .i64 b1, .int .i64 b2, .int .i64 b3, .int .i64 b4, .slice (some ⟨g1, 0, none⟩) n1 c1, .slice (some ⟨g2, 0, none⟩) n2 c2] 64)) ∧ P x1.heap.size g1 c1 g2 c2 (x1.alloc (.cells #[.int .i64 b0, .int .i64 b1, .int .i64 b2, .int .i64 b3, .int .i64 b4, .slice (some ⟨g1, 0, none⟩) n1 c1, .slice (some ⟨g2, 0, none⟩) n2 c2] 64)))
    (hB : Calls Try.prog 35 #[.pointer (some ⟨K, 8, none⟩), .agg #[.int .i64 b0, .int .i64 b1, .int .i64 b2, .int .i64 b3, .int .i64 b4, v1, v2]] (W.drew.alloc (.cells #[.int .i64 0, .int .i64 0, .int .i64 0, .int .i64 0, .int .i64 0, .slice none 0 0, .slice none 0 0] 64)) fun e x1 => ∃ g1 c1 g2 c2, e = .returned (.agg #[.int .i64 b0, .int .i64 b1, .int .i64 b2, .int .i64 b3, .int .i64 b4, .slice (some ⟨g1, 0, none⟩) n1 c1, .slice (some ⟨g2, 0, none⟩) n2 c2]) ∧ (x1.cell? ⟨A, 4, none⟩ = some (.int .i64 b0) ∧ x1.cell? ⟨A, 5, none⟩ = some (.int .i64 b1) ∧ x1.cell? ⟨A, 6, none⟩ = some (.int .i64 b2) ∧ x1.cell? ⟨A, 7, none⟩ = some (.int .i64 b3) ∧ x1.cell? ⟨A, 8, none⟩ = some (.int .i64 b4) ∧ x1.cell? ⟨A, 9, none⟩ = some (v1) ∧ x1.cell? ⟨A, 10, none⟩ = some (v2)) ∧ ((∃ z, x1.cell? ⟨W.heap.size, 0, none⟩ = some z) ∧ (∃ z, x1.cell? ⟨W.heap.size, 1, none⟩ = some z) ∧ (∃ z, x1.cell? ⟨W.heap.size, 2, none⟩ = some z) ∧ (∃ z, x1.cell? ⟨W.heap.size, 3, none⟩ = some z) ∧ (∃ z, x1.cell? ⟨W.heap.size, 4, none⟩ = some z) ∧ (∃ z, x1.cell? ⟨W.heap.size, 5, none⟩ = some z) ∧ (∃ z, x1.cell? ⟨W.heap.size, 6, none⟩ = some z) ∧ x1.frozen? ⟨W.heap.size, 0, none⟩ = false ∧ x1.frozen? ⟨W.heap.size, 1, none⟩ = false ∧ x1.frozen? ⟨W.heap.size, 2, none⟩ = false ∧ x1.frozen? ⟨W.heap.size, 3, none⟩ = false ∧ x1.frozen? ⟨W.heap.size, 4, none⟩ = false ∧ x1.frozen? ⟨W.heap.size, 5, none⟩ = false ∧ x1.frozen? ⟨W.heap.size, 6, none⟩ = false) ∧ (fun w' => w'.cell? ⟨A, 4, none⟩ = some (.int .i64 b0) ∧ w'.cell? ⟨A, 5, none⟩ = some (.int .i64 b1) ∧ w'.cell? ⟨A, 6, none⟩ = some (.int .i64 b2) ∧ w'.cell? ⟨A, 7, none⟩ = some (.int .i64 b3) ∧ w'.cell? ⟨A, 8, none⟩ = some (.int .i64 b4) ∧ w'.cell? ⟨A, 9, none⟩ = some (v1) ∧ w'.cell? ⟨A, 10, none⟩ = some (v2)) (((((((x1.setCell ⟨W.heap.size, 0, none⟩ (.int .i64 b0)).setCell ⟨W.heap.size, 1, none⟩ (.int .i64 b1)).setCell ⟨W.heap.size, 2, none⟩ (.int .i64 b2)).setCell ⟨W.heap.size, 3, none⟩ (.int .i64 b3)).setCell ⟨W.heap.size, 4, none⟩ (.int .i64 b4)).setCell ⟨W.heap.size, 5, none⟩ (.slice (some ⟨g1, 0, none⟩) n1 c1)).setCell ⟨W.heap.size, 6, none⟩ (.slice (some ⟨g2, 0, none⟩) n2 c2)) ∧ P W.heap.size g1 c1 g2 c2 (((((((x1.setCell ⟨W.heap.size, 0, none⟩ (.int .i64 b0)).setCell ⟨W.heap.size, 1, none⟩ (.int .i64 b1)).setCell ⟨W.heap.size, 2, none⟩ (.int .i64 b2)).setCell ⟨W.heap.size, 3, none⟩ (.int .i64 b3)).setCell ⟨W.heap.size, 4, none⟩ (.int .i64 b4)).setCell ⟨W.heap.size, 5, none⟩ (.slice (some ⟨g1, 0, none⟩) n1 c1)).setCell ⟨W.heap.size, 6, none⟩ (.slice (some ⟨g2, 0, none⟩) n2 c2)))
    (Q : Exit → Act → World → Prop) (hPan : ∀ c (a : Act) w (d : Option Tmp) v, Q (.panic c) (a.put d v) w → Q (.panic c) a w) {u1 u2 u4 u5 u6 u7 u8 u9 u10 u11 u12 u13 u14 u15 u16 u17 u18 u19 u20 u21 u22 u23 u24 u25 u26 u27 u28 u29 u30 u31 u32 u33 u34 u35 u36 u37 u38 u39 u40 u41 u42 u43 u44 u45 u46 u47 u48 u49 u50 u51 u52 u53 u54 u55 u56 u57 u58 u59 u60 u61 u62 u63 u64 u65 u66 u67 u68 u69 u70 u71 u72 u73 u74 u75 u76 u77 u78 u79 u80 u81 u82 u83 u84 u85 u86 u87 u88 u89 u90 u91 u92 u93 u94 u95 u96 u97 u98 u99 A0 A1 A2 A3 A4 A5 A6 A7 A8 A9 B0 B1 B2 B3 B4 B5 B6 B7 B8 B9 C0 C1 C2 C3 C4 C5 C6 C7 C8 C9 D0 D1 D2 D3 D4 D5 D6 D7 D8 D9 E0 E1 E2 E3 E4 E5 E6 E7 E8 E9 F0 F1 F2 F3 F4 F5 F6 F7 F8 F9 G0 G1 G2 G3 G4 G5 G6 G7 G8 G9 H0 H1 H2 H3 H4 H5 H6 H7 H8 H9 I0 I1 I2 I3 I4 I5 I6 I7 I8 I9 J0 J1 J2 J3 J4 J5 J6 J7 J8 J9 K0 K1 K2 K3 K4 K5 K6 K7 K8 K9 L0 L1 L2 L3 L4 L5 L6 L7 L8 L9 M0 M1 M2 M3 M4 M5 M6 M7 M8 M9 N0 N1 N2 N3 N4 N5 N6 N7 N8 N9 O0 O1 O2 O3 O4 O5 O6 O7 O8 O9 P0 P1 P2 P3 P4 P5 P6 P7 P8 P9 Q0 Q1 Q2 Q3 Q4 Q5 Q6 Q7 Q8 Q9 R0 R1 R2 R3 R4 R5 R6 R7 R8 R9 S0 S1 S2 S3 S4 S5 S6 S7 S8 S9 T0 T1 T2 T3 T4 T5 T6 T7 T8 T9 U0 U1 U2 U3 U4 U5 U6 U7 U8 U9 V0 V1 V2 V3 V4 V5 V6 V7 V8 V9 W1 W2 W3 W4 W5 W6 W7 W8 W9 X0 X1 X2 X3 X4 X5 X6 X7 X8 : Value}
    (hQ : ∀ T g1 c1 g2 c2 w1, P T g1 c1 g2 c2 w1 → Q .normal ⟨#[.pointer (some ⟨K, 0, none⟩), u1,u2, .pointer (some ⟨A, 0, none⟩), u4,u5,u6,u7,u8,u9,u10,u11,u12,u13,u14,u15,u16,u17,u18,u19,u20,u21,u22,u23,u24, .pointer (some ⟨T, 0, none⟩), u26,u27,u28,u29,u30,u31,u32,u33,u34,u35,u36,u37,u38,u39,u40,u41,u42,u43,u44,u45,u46,u47,u48,u49,u50,u51,u52,u53,u54,u55,u56,u57,u58,u59,u60,u61,u62,u63,u64,u65,u66,u67,u68,u69,u70,u71,u72,u73,u74,u75,u76,u77,u78,u79,u80,u81,u82,u83,u84,u85,u86,u87,u88,u89,u90,u91,u92,u93,u94,u95,u96,u97,u98,u99,A0,A1,A2,A3,A4,A5,A6,A7,A8,A9,B0,B1,B2,B3,B4,B5,B6,B7,B8,B9,C0,C1,C2,C3,C4,C5,C6,C7,C8,C9,D0,D1,D2,D3,D4,D5,D6,D7,D8,D9,E0,E1,E2,E3,E4,E5,E6,E7,E8,E9,F0,F1,F2,F3,F4,F5,F6,F7,F8,F9,G0,G1,G2,G3,G4,G5,G6,G7,G8,G9,H0,H1,H2,H3,H4,H5,H6,H7,H8,H9,I0,I1,I2,I3,I4,I5,I6,I7,I8,I9,J0,J1,J2,J3,J4,J5,J6,J7,J8,J9,K0,K1,K2,K3,K4,K5,K6,K7,K8,K9,L0,L1,L2,L3,L4,L5,L6,L7,L8,L9,M0,M1,M2,M3,M4,M5,M6,M7,M8,M9,N0,N1,N2,N3,N4,N5,N6,N7,N8,N9,O0, .pointer (some ⟨K, 0, none⟩), .pointer (some ⟨K, 0, none⟩), .pointer (some ⟨K, 8, none⟩), .pointer (some ⟨A, 4, none⟩), .agg #[.int .i64 b0, .int .i64 b1, .int .i64 b2, .int .i64 b3, .int .i64 b4, v1, v2], .agg #[.int .i64 b0, .int .i64 b1, .int .i64 b2, .int .i64 b3, .int .i64 b4, .slice (some ⟨g1, 0, none⟩) n1 c1, .slice (some ⟨g2, 0, none⟩) n2 c2], O7,O8,O9,P0,P1,P2,P3,P4,P5,P6,P7,P8,P9,Q0,Q1,Q2,Q3,Q4,Q5,Q6,Q7,Q8,Q9,R0,R1,R2,R3,R4,R5,R6,R7,R8,R9,S0,S1,S2,S3,S4,S5,S6,S7,S8,S9,T0,T1,T2,T3,T4,T5,T6,T7,T8,T9,U0,U1,U2,U3,U4,U5,U6,U7,U8,U9,V0,V1,V2,V3,V4,V5,V6,V7,V8,V9,W1,W2,W3,W4,W5,W6,W7,W8,W9,X0,X1,X2,X3,X4,X5,X6,X7,X8], []⟩ w1) :
    Code.wp Try.prog (Code.region 37 ops17_37 true) Q ⟨#[.pointer (some ⟨K, 0, none⟩), u1,u2, .pointer (some ⟨A, 0, none⟩), u4,u5,u6,u7,u8,u9,u10,u11,u12,u13,u14,u15,u16,u17,u18,u19,u20,u21,u22,u23,u24,u25,u26,u27,u28,u29,u30,u31,u32,u33,u34,u35,u36,u37,u38,u39,u40,u41,u42,u43,u44,u45,u46,u47,u48,u49,u50,u51,u52,u53,u54,u55,u56,u57,u58,u59,u60,u61,u62,u63,u64,u65,u66,u67,u68,u69,u70,u71,u72,u73,u74,u75,u76,u77,u78,u79,u80,u81,u82,u83,u84,u85,u86,u87,u88,u89,u90,u91,u92,u93,u94,u95,u96,u97,u98,u99,A0,A1,A2,A3,A4,A5,A6,A7,A8,A9,B0,B1,B2,B3,B4,B5,B6,B7,B8,B9,C0,C1,C2,C3,C4,C5,C6,C7,C8,C9,D0,D1,D2,D3,D4,D5,D6,D7,D8,D9,E0,E1,E2,E3,E4,E5,E6,E7,E8,E9,F0,F1,F2,F3,F4,F5,F6,F7,F8,F9,G0,G1,G2,G3,G4,G5,G6,G7,G8,G9,H0,H1,H2,H3,H4,H5,H6,H7,H8,H9,I0,I1,I2,I3,I4,I5,I6,I7,I8,I9,J0,J1,J2,J3,J4,J5,J6,J7,J8,J9,K0,K1,K2,K3,K4,K5,K6,K7,K8,K9,L0,L1,L2,L3,L4,L5,L6,L7,L8,L9,M0,M1,M2,M3,M4,M5,M6,M7,M8,M9,N0,N1,N2,N3,N4,N5,N6,N7,N8,N9,O0,O1,O2,O3,O4,O5,O6,O7,O8,O9,P0,P1,P2,P3,P4,P5,P6,P7,P8,P9,Q0,Q1,Q2,Q3,Q4,Q5,Q6,Q7,Q8,Q9,R0,R1,R2,R3,R4,R5,R6,R7,R8,R9,S0,S1,S2,S3,S4,S5,S6,S7,S8,S9,T0,T1,T2,T3,T4,T5,T6,T7,T8,T9,U0,U1,U2,U3,U4,U5,U6,U7,U8,U9,V0,V1,V2,V3,V4,V5,V6,V7,V8,V9,W1,W2,W3,W4,W5,W6,W7,W8,W9,X0,X1,X2,X3,X4,X5,X6,X7,X8], []⟩ W := by
  have hz : W.drew.heap.size = W.heap.size := rfl
  rw [← hz] at hB
  refine wp_region_held_drew (S := fun w' => w'.cell? ⟨A, 4, none⟩ = some (.int .i64 b0) ∧ w'.cell? ⟨A, 5, none⟩ = some (.int .i64 b1) ∧ w'.cell? ⟨A, 6, none⟩ = some (.int .i64 b2) ∧ w'.cell? ⟨A, 7, none⟩ = some (.int .i64 b3) ∧ w'.cell? ⟨A, 8, none⟩ = some (.int .i64 b4) ∧ w'.cell? ⟨A, 9, none⟩ = some (v1) ∧ w'.cell? ⟨A, 10, none⟩ = some (v2)) hmx hS (fun HSX => ?_)
  clear hS hz
  obtain ⟨W0, hW0⟩ : ∃ W0,W0 = W.drew := ⟨_, rfl⟩
  rw [← hW0] at HSX HZ hA hB ⊢
  clear hW0
  refine wpAnyH_take (i := 0) (oi := { dst := some 241, op := Op.move (Operand.tmp 0), type := 52, pos := "law.go:321", after := #[], guard := none }) (v := .pointer (some ⟨K, 0, none⟩)) rfl (by kernel_rfl) (by kernel_rfl) (by kernel_rfl) (fun _ _ _ h => hPan _ _ _ _ _ h) (Or.inl ⟨by rfl, ?_⟩) HSX ?_
  · intro wx d0
    obtain ⟨s1, s2, s3, s4, s5, s6, s7⟩ := d0
    go_simp
  simp only [Act.put, List.setIfInBounds_toArray, List.set_cons_zero, List.set_cons_succ]
  refine wpAnyH_take (i := 1) (oi := { dst := some 242, op := Op.nilCheck (Operand.tmp 241), type := 0, pos := "law.go:321", after := #[{ on := 0, ground := Ground.data }], guard := none }) (v := .pointer (some ⟨K, 0, none⟩)) rfl (by kernel_rfl) (by kernel_rfl) (by kernel_rfl) (fun _ _ _ h => hPan _ _ _ _ _ h) (Or.inl ⟨by rfl, ?_⟩) HSX ?_
  · intro wx d0
    obtain ⟨s1, s2, s3, s4, s5, s6, s7⟩ := d0
    go_simp
  simp only [Act.put, List.setIfInBounds_toArray, List.set_cons_zero, List.set_cons_succ]
  refine wpAnyH_take (i := 2) (oi := { dst := some 243, op := Op.fieldAddr 60 (Operand.tmp 242) 3, type := 0, pos := "law.go:321", after := #[{ on := 1, ground := Ground.data }], guard := none }) (v := .pointer (some ⟨K, 8, none⟩)) rfl (by kernel_rfl) (by kernel_rfl) (by kernel_rfl) (fun _ _ _ h => hPan _ _ _ _ _ h) (Or.inl ⟨by rfl, ?_⟩) HSX ?_
  · intro wx d0
    obtain ⟨s1, s2, s3, s4, s5, s6, s7⟩ := d0
    go_simp
  simp only [Act.put, List.setIfInBounds_toArray, List.set_cons_zero, List.set_cons_succ]
  refine wpAnyH_take (i := 3) (oi := { dst := some 244, op := Op.fieldAddr 66 (Operand.tmp 3) 4, type := 0, pos := "law.go:321", after := #[], guard := none }) (v := .pointer (some ⟨A, 4, none⟩)) rfl (by kernel_rfl) (by kernel_rfl) (by kernel_rfl) (fun _ _ _ h => hPan _ _ _ _ _ h) (Or.inl ⟨by rfl, ?_⟩) HSX ?_
  · intro wx d0
    obtain ⟨s1, s2, s3, s4, s5, s6, s7⟩ := d0
    go_simp
  simp only [Act.put, List.setIfInBounds_toArray, List.set_cons_zero, List.set_cons_succ]
  refine wpAnyH_take (i := 4) (oi := { dst := some 245, op := Op.load 64 (Operand.tmp 244), type := 64, pos := "law.go:321", after := #[{ on := 3, ground := Ground.data }], guard := none }) (v := .agg #[.int .i64 b0, .int .i64 b1, .int .i64 b2, .int .i64 b3, .int .i64 b4, v1, v2]) rfl (by kernel_rfl) (by kernel_rfl) (by kernel_rfl) (fun _ _ _ h => hPan _ _ _ _ _ h) (Or.inl ⟨by rfl, ?_⟩) HSX ?_
  · intro wx d0
    obtain ⟨s1, s2, s3, s4, s5, s6, s7⟩ := d0
    go_simp
  simp only [Act.put, List.setIfInBounds_toArray, List.set_cons_zero, List.set_cons_succ]
  refine wpAnyH_ready (rs := [5, 6]) (by kernel_rfl) (by simp) ?_
  refine AllReadyH.cons (o := { dst := some 246, op := Op.call { callee := Callee.value (Operand.func 35), args := #[Operand.tmp 243, Operand.tmp 245], argTypes := #[58, 64] }, type := 64, pos := "law.go:321", after := #[{ on := 2, ground := Ground.data }, { on := 4, ground := Ground.data }], guard := none }) rfl (fun K hK => ?_) (AllReadyH.cons (o := { dst := some 25, op := Op.alloc 64, type := 0, pos := "law.go:321", after := #[], guard := none }) rfl (fun K hK => ?_) AllReadyH.nil)
  · rw [if_pos (by rfl)]
    go_simp
    go_at_call 35
    refine hA.mono ?_
    rintro e w1 ⟨g1, c1, g2, c2, rfl, HS1, HS2, HS3, hP⟩
    go_simp
    refine hK.out _ _ HS1 (fun HSX => ?_)
    clear hK K
    refine wpAnyH_ready (rs := [6]) (by kernel_rfl) (by simp) ?_
    refine AllReadyH.cons (o := { dst := some 25, op := Op.alloc 64, type := 0, pos := "law.go:321", after := #[], guard := none }) rfl (fun K hK => ?_) AllReadyH.nil
    rw [if_pos (by rfl)]
    go_simp
    refine hK.out _ _ HS2 (fun HSX => ?_)
    clear hK K
    refine wpAnyH_ready (rs := [7]) (by kernel_rfl) (by simp) ?_
    refine AllReadyH.cons (o := { dst := none, op := Op.store 64 (Operand.tmp 25) (Operand.tmp 246), type := 0, pos := "law.go:321", after := #[{ on := 6, ground := Ground.data }, { on := 5, ground := Ground.data }, { on := 5, ground := Ground.chain }, { on := 0, ground := Ground.phase }, { on := 1, ground := Ground.phase }, { on := 2, ground := Ground.phase }, { on := 3, ground := Ground.phase }, { on := 4, ground := Ground.phase }, { on := 5, ground := Ground.phase }, { on := 6, ground := Ground.phase }], guard := none }) rfl (fun K hK => ?_) AllReadyH.nil
    rw [if_pos (by rfl)]
    go_simp
    refine hK.out _ _ HS3 (fun HSX => ?_)
    clear hK K
    refine wpAnyH_done (by kernel_rfl) ?_ _
    exact hQ _ g1 c1 g2 c2 _ hP
  · rw [if_pos (by rfl)]
    go_simp
    refine hK.out _ _ HZ (fun HSX => ?_)
    clear hK K
    refine wpAnyH_ready (rs := [5]) (by kernel_rfl) (by simp) ?_
    refine AllReadyH.cons (o := { dst := some 246, op := Op.call { callee := Callee.value (Operand.func 35), args := #[Operand.tmp 243, Operand.tmp 245], argTypes := #[58, 64] }, type := 64, pos := "law.go:321", after := #[{ on := 2, ground := Ground.data }, { on := 4, ground := Ground.data }], guard := none }) rfl (fun K hK => ?_) AllReadyH.nil
    rw [if_pos (by rfl)]
    go_simp
    go_at_call 35
    refine hB.mono ?_
    rintro e w1 ⟨g1, c1, g2, c2, rfl, HS1, HX, HS3, hP⟩
    go_simp
    refine hK.out _ _ HS1 (fun HSX => ?_)
    clear hK K
    obtain ⟨⟨z0, x0⟩, ⟨z1, x1⟩, ⟨z2, x2⟩, ⟨z3, x3⟩, ⟨z4, x4⟩, ⟨z5, x5⟩, ⟨z6, x6⟩, y0, y1, y2, y3, y4, y5, y6⟩ := HX
    refine wpAnyH_ready (rs := [7]) (by kernel_rfl) (by simp) ?_
    refine AllReadyH.cons (o := { dst := none, op := Op.store 64 (Operand.tmp 25) (Operand.tmp 246), type := 0, pos := "law.go:321", after := #[{ on := 6, ground := Ground.data }, { on := 5, ground := Ground.data }, { on := 5, ground := Ground.chain }, { on := 0, ground := Ground.phase }, { on := 1, ground := Ground.phase }, { on := 2, ground := Ground.phase }, { on := 3, ground := Ground.phase }, { on := 4, ground := Ground.phase }, { on := 5, ground := Ground.phase }, { on := 6, ground := Ground.phase }], guard := none }) rfl (fun K hK => ?_) AllReadyH.nil
    rw [if_pos (by rfl)]
    go_simp
    refine hK.out _ _ HS3 (fun HSX => ?_)
    clear hK K
    refine wpAnyH_done (by kernel_rfl) ?_ _
    exact hQ _ g1 c1 g2 c2 _ hP
end Go.Proofs.Ytnblhaeojlpmmaa
