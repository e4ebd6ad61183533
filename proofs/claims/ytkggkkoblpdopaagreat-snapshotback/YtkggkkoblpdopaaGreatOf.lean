import Derived.Test.YtkggkkoblpdopaaGreatOe
namespace Go.Proofs.YtkggkkoblpdopaaGreat
open Go.ChangeShapes Go.WideShapes Go.ChangeAt Go.RowKit
set_option linter.unusedVariables false
theorem wpList_wanted {P : Program} {ops : Array Oper} {Q : Exit → Act → World → Prop} {a : Act} {w : World} {rest : List Oper} {o : Oper} (hw : Region.wanted o (yielded ops a.tmps) = true)
  (h : ∀ K : Act → World → Prop, (∀ a w, wpList P ops Q rest a w → K a w) → o.wp P a w K Q) : wpList P ops Q (o :: rest) a w :=
 wpList_step fun K hK => by rw [if_pos hw]; exact h K hK
theorem gload_mid {P : Program} {ops : Array Oper} {rest : List Oper} {op : Oper} {a : Act} {w : World} {Q : Exit → Act → World → Prop} (hw : Region.wanted op (yielded ops a.tmps) = true) (ty : TypeId) (x : Operand) (ho : op.op = .load ty x)
  (b o : Nat) (hx : a.eval x = .pointer (some ⟨b, o, none⟩)) (cs : List Value) (d : TypeDesc) (hc : w.rangeAt b o cs)
  (hu : P.underlying ty = some d) (hd : d.isRow = true) (hi : (P.info? ty).map (·.size) = some cs.length)
  (h : wpList P ops Q rest (a.put op.dst (.agg cs.toArray)) w) : wpList P ops Q (op :: rest) a w :=
 wpList_wanted hw fun _ hK => wp_load_mid ty x ho b o hx cs d hc hu hd hi (hK _ _ h)
theorem gbinop_run {P : Program} {w : World} {ops : Array Oper} {rest : List Oper} {o : Oper} {a : Act} {Q : Exit → Act → World → Prop} (hw : Region.wanted o (yielded ops a.tmps) = true) (b : BinOp) (t u : TypeId) (x y : Operand) (ho : o.op = .binOp b t x y u) (x' y' v : Value) (hx : a.eval x = x') (hy : a.eval y = y') (hgu : (eqGuard b t x y x' y').run P w = .ok () w) (hrun : (binOp b t x' y').run P w = .ok v w)
  (h : wpList P ops Q rest (a.put o.dst v) w) : wpList P ops Q (o :: rest) a w := by
 refine wpList_wanted hw fun K hK => ?_
 unfold Oper.wp
 simp only [execOp, ho, hx, hy]
 simp [hgu, hrun, Result.andThen]
 exact hK _ _ h
def ops12_9 : Array Oper := #[⟨some 116, Op.fieldAddr 36 (.tmp 2) 3, 0, "ref.go:422", #[], none⟩,
 ⟨some 117, Op.load 24 (.tmp 116), 24, "ref.go:422", #[gd' 0], none⟩,
 ⟨some 118, Op.move (.tmp 6), 3, "ref.go:422", #[], none⟩,
 ⟨some 119, Op.indexAddr 24 (.tmp 117) (.tmp 118), 0, "ref.go:422", #[gd' 1, gd' 2], none⟩,
 ⟨some 120, Op.fieldAddr 103 (.tmp 119) 1, 0, "ref.go:422", #[gd' 3], none⟩,
 ⟨some 121, Op.load 22 (.tmp 120), 22, "ref.go:422", #[gd' 4], none⟩,
 ⟨some 122, Op.fieldAddr 36 (.tmp 3) 3, 0, "ref.go:422", #[], none⟩,
 ⟨some 123, Op.load 24 (.tmp 122), 24, "ref.go:422", #[gd' 6], none⟩,
 ⟨some 124, Op.move (.tmp 6), 3, "ref.go:422", #[], none⟩,
 ⟨some 125, Op.indexAddr 24 (.tmp 123) (.tmp 124), 0, "ref.go:422", #[gd' 7, gd' 8], none⟩,
 ⟨some 126, Op.fieldAddr 103 (.tmp 125) 1, 0, "ref.go:422", #[gd' 9], none⟩,
 ⟨some 127, Op.load 22 (.tmp 126), 22, "ref.go:422", #[gd' 10], none⟩,
 ⟨some 128, Op.call { callee := Callee.value (Operand.func 32), args := #[Operand.tmp 121, Operand.tmp 127], argTypes := #[22, 22] }, 4, "ref.go:422", #[gd' 5, gd' 11], none⟩,
 ⟨some 7, Op.assign (.tmp 128), 4, "ref.go:422", #[gd' 12, gc' 12, gp' 0, gp' 1, gp' 2, gp' 3, gp' 4, gp' 5, gp' 6, gp' 7, gp' 8, gp' 9, gp' 10, gp' 11, gp' 12], none⟩]
set_option maxHeartbeats 8000000 in
set_option maxRecDepth 100000 in
theorem reg12_9 (W : World) (G1 G2 ba oa bb ob n ca cb k : Nat) (hk : k < n) (pa qa : Option Addr) (pn pc qn qc : Nat) (hS : (fun w' => w'.cell? ⟨G1, 3, none⟩ = some (.slice (some ⟨ba, oa, none⟩) n ca) ∧ w'.cell? ⟨G2, 3, none⟩ = some (.slice (some ⟨bb, ob, none⟩) n cb) ∧ w'.cell? ⟨ba, oa + k * 2 + 1, none⟩ = some (.slice pa pn pc) ∧ w'.cell? ⟨bb, ob + k * 2 + 1, none⟩ = some (.slice qa qn qc)) W.drew) (P : World → Prop) (hcall : Calls Tryz.prog 32 #[.slice pa pn pc, .slice qa qn qc] W.drew fun e x1 => e = .returned (.bool true) ∧ (x1.cell? ⟨G1, 3, none⟩ = some (.slice (some ⟨ba, oa, none⟩) n ca) ∧ x1.cell? ⟨G2, 3, none⟩ = some (.slice (some ⟨bb, ob, none⟩) n cb) ∧ x1.cell? ⟨ba, oa + k * 2 + 1, none⟩ = some (.slice pa pn pc) ∧ x1.cell? ⟨bb, ob + k * 2 + 1, none⟩ = some (.slice qa qn qc)) ∧ P  x1)
  (Q : Exit → Act → World → Prop) (hPan : ∀ c (a : Act) w (d : Option Tmp) v, Q (.panic c) (a.put d v) w → Q (.panic c) a w) {u0 u1 u4 u5 u7 u8 u9 u10 u11 u12 u13 u14 u15 u16 u17 u18 u19 u20 u21 u22 u23 u24 u25 u26 u27 u28 u29 u30 u31 u32 u33 u34 u35 u36 u37 u38 u39 u40 u41 u42 u43 u44 u45 u46 u47 u48 u49 u50 u51 u52 u53 u54 u55 u56 u57 u58 u59 u60 u61 u62 u63 u64 u65 u66 u67 u68 u69 u70 u71 u72 u73 u74 u75 u76 u77 u78 u79 u80 u81 u82 u83 u84 u85 u86 u87 u88 u89 u90 u91 u92 u93 u94 u95 u96 u97 u98 u99 A0 A1 A2 A3 A4 A5 A6 A7 A8 A9 B0 B1 B2 B3 B4 B5 B6 B7 B8 B9 C0 C1 C2 C3 C4 C5 C6 C7 C8 C9 D0 D1 D2 D3 D4 D5 D6 D7 D8 D9 E0 E1 E2 E3 E4 E5 E6 E7 E8 E9 F0 F1 F2 F3 F4 F5 F6 F7 F8 F9 G0 G3 G4 G5 G6 G7 G8 G9 H0 H1 H2 H3 H4 H5 H6 H7 H8 H9 I0 I1 I2 I3 I4 I5 I6 I7 I8 I9 J0 J1 J2 J3 J4 J5 J6 J7 J8 J9 K0 K1 K2 K3 K4 K5 K6 K7 K8 K9 L0 L1 L2 L3 L4 L5 L6 L7 L8 L9 M0 M1 M2 M3 M4 M5 M6 M7 M8 M9 N0 N1 N2 N3 N4 N5 N6 N7 N8 N9 O0 O1 O2 O3 O4 O5 O6 O7 O8 O9 P0 P1 P2 P3 P4 P5 P6 P7 P8 P9 Q0 Q1 Q2 Q3 Q4 Q5 Q6 Q7 Q8 Q9 R0 R1 R2 R3 R4 R5 R6 R7 R8 R9 S0 S1 S2 S3 S4 S5 S6 S7 S8 S9 T0 T1 T2 T3 T4 T5 T6 T7 T8 T9 U0 U1 U2 U3 U4 U5 U6 U7 U8 U9 V0 V1 V2 V3 V4 V5 V6 V7 V8 V9 W1 W2 W3 W4 W5 W6 W7 W8 W9 X0 X1 X2 X3 X4 X5 X6 X7 X8 X9 Y0 Y1 Y2 Y3 : Value}
  (hQ : ∀  w1, P  w1 → Q .normal ⟨#[u0,u1, .pointer (some ⟨G1, 0, none⟩), .pointer (some ⟨G2, 0, none⟩), u4,u5, .int .i64 (k : Nat), .bool true, u8,u9,u10,u11,u12,u13,u14,u15,u16,u17,u18,u19,u20,u21,u22,u23,u24,u25,u26,u27,u28,u29,u30,u31,u32,u33,u34,u35,u36,u37,u38,u39,u40,u41,u42,u43,u44,u45,u46,u47,u48,u49,u50,u51,u52,u53,u54,u55,u56,u57,u58,u59,u60,u61,u62,u63,u64,u65,u66,u67,u68,u69,u70,u71,u72,u73,u74,u75,u76,u77,u78,u79,u80,u81,u82,u83,u84,u85,u86,u87,u88,u89,u90,u91,u92,u93,u94,u95,u96,u97,u98,u99,A0,A1,A2,A3,A4,A5,A6,A7,A8,A9,B0,B1,B2,B3,B4,B5, .pointer (some ⟨G1, 3, none⟩), .slice (some ⟨ba, oa, none⟩) n ca, .int .i64 (k : Nat), .pointer (some ⟨ba, oa + k * 2, none⟩), .pointer (some ⟨ba, oa + k * 2 + 1, none⟩), .slice pa pn pc, .pointer (some ⟨G2, 3, none⟩), .slice (some ⟨bb, ob, none⟩) n cb, .int .i64 (k : Nat), .pointer (some ⟨bb, ob + k * 2, none⟩), .pointer (some ⟨bb, ob + k * 2 + 1, none⟩), .slice qa qn qc, .bool true, C9,D0,D1,D2,D3,D4,D5,D6,D7,D8,D9,E0,E1,E2,E3,E4,E5,E6,E7,E8,E9,F0,F1,F2,F3,F4,F5,F6,F7,F8,F9,G0,G3,G4,G5,G6,G7,G8,G9,H0,H1,H2,H3,H4,H5,H6,H7,H8,H9,I0,I1,I2,I3,I4,I5,I6,I7,I8,I9,J0,J1,J2,J3,J4,J5,J6,J7,J8,J9,K0,K1,K2,K3,K4,K5,K6,K7,K8,K9,L0,L1,L2,L3,L4,L5,L6,L7,L8,L9,M0,M1,M2,M3,M4,M5,M6,M7,M8,M9,N0,N1,N2,N3,N4,N5,N6,N7,N8,N9,O0,O1,O2,O3,O4,O5,O6,O7,O8,O9,P0,P1,P2,P3,P4,P5,P6,P7,P8,P9,Q0,Q1,Q2,Q3,Q4,Q5,Q6,Q7,Q8,Q9,R0,R1,R2,R3,R4,R5,R6,R7,R8,R9,S0,S1,S2,S3,S4,S5,S6,S7,S8,S9,T0,T1,T2,T3,T4,T5,T6,T7,T8,T9,U0,U1,U2,U3,U4,U5,U6,U7,U8,U9,V0,V1,V2,V3,V4,V5,V6,V7,V8,V9,W1,W2,W3,W4,W5,W6,W7,W8,W9,X0,X1,X2,X3,X4,X5,X6,X7,X8,X9,Y0,Y1,Y2,Y3], []⟩ w1) :
  Code.wp Tryz.prog (Code.region 9 ops12_9 true) Q ⟨#[u0,u1, .pointer (some ⟨G1, 0, none⟩), .pointer (some ⟨G2, 0, none⟩), u4,u5, .int .i64 (k : Nat), u7,u8,u9,u10,u11,u12,u13,u14,u15,u16,u17,u18,u19,u20,u21,u22,u23,u24,u25,u26,u27,u28,u29,u30,u31,u32,u33,u34,u35,u36,u37,u38,u39,u40,u41,u42,u43,u44,u45,u46,u47,u48,u49,u50,u51,u52,u53,u54,u55,u56,u57,u58,u59,u60,u61,u62,u63,u64,u65,u66,u67,u68,u69,u70,u71,u72,u73,u74,u75,u76,u77,u78,u79,u80,u81,u82,u83,u84,u85,u86,u87,u88,u89,u90,u91,u92,u93,u94,u95,u96,u97,u98,u99,A0,A1,A2,A3,A4,A5,A6,A7,A8,A9,B0,B1,B2,B3,B4,B5,B6,B7,B8,B9,C0,C1,C2,C3,C4,C5,C6,C7,C8,C9,D0,D1,D2,D3,D4,D5,D6,D7,D8,D9,E0,E1,E2,E3,E4,E5,E6,E7,E8,E9,F0,F1,F2,F3,F4,F5,F6,F7,F8,F9,G0,G3,G4,G5,G6,G7,G8,G9,H0,H1,H2,H3,H4,H5,H6,H7,H8,H9,I0,I1,I2,I3,I4,I5,I6,I7,I8,I9,J0,J1,J2,J3,J4,J5,J6,J7,J8,J9,K0,K1,K2,K3,K4,K5,K6,K7,K8,K9,L0,L1,L2,L3,L4,L5,L6,L7,L8,L9,M0,M1,M2,M3,M4,M5,M6,M7,M8,M9,N0,N1,N2,N3,N4,N5,N6,N7,N8,N9,O0,O1,O2,O3,O4,O5,O6,O7,O8,O9,P0,P1,P2,P3,P4,P5,P6,P7,P8,P9,Q0,Q1,Q2,Q3,Q4,Q5,Q6,Q7,Q8,Q9,R0,R1,R2,R3,R4,R5,R6,R7,R8,R9,S0,S1,S2,S3,S4,S5,S6,S7,S8,S9,T0,T1,T2,T3,T4,T5,T6,T7,T8,T9,U0,U1,U2,U3,U4,U5,U6,U7,U8,U9,V0,V1,V2,V3,V4,V5,V6,V7,V8,V9,W1,W2,W3,W4,W5,W6,W7,W8,W9,X0,X1,X2,X3,X4,X5,X6,X7,X8,X9,Y0,Y1,Y2,Y3], []⟩ W := by
 have hk1 : (k : Int) < n := by omega
 have hk2 : ¬ (k : Int) < 0 := by omega
 refine wp_region_held_drew (S := fun w' => w'.cell? ⟨G1, 3, none⟩ = some (.slice (some ⟨ba, oa, none⟩) n ca) ∧ w'.cell? ⟨G2, 3, none⟩ = some (.slice (some ⟨bb, ob, none⟩) n cb) ∧ w'.cell? ⟨ba, oa + k * 2 + 1, none⟩ = some (.slice pa pn pc) ∧ w'.cell? ⟨bb, ob + k * 2 + 1, none⟩ = some (.slice qa qn qc)) hmx hS (fun HSX => ?_)
 clear hS
 obtain ⟨W0, hW0⟩ : ∃ W0,W0 = W.drew := ⟨_, rfl⟩
 rw [← hW0] at HSX hcall ⊢
 clear hW0
 refine tk hPan (i := 0) (oi := ⟨some 116, Op.fieldAddr 36 (.tmp 2) 3, 0, "ref.go:422", #[], none⟩) (v := .pointer (some ⟨G1, 3, none⟩)) rfl (by kernel_rfl) (.inl ⟨by rfl, ?_⟩) HSX ?_
 ·intro wx d0
  obtain ⟨s1, s2, s3, s4⟩ := d0
  go_simp
 simp only [Act.put, sl0', sl1', sl2']
 refine tk hPan (i := 1) (oi := ⟨some 117, Op.load 24 (.tmp 116), 24, "ref.go:422", #[gd' 0], none⟩) (v := .slice (some ⟨ba, oa, none⟩) n ca) rfl (by kernel_rfl) (.inl ⟨by rfl, ?_⟩) HSX ?_
 ·intro wx d0
  obtain ⟨s1, s2, s3, s4⟩ := d0
  go_simp
 simp only [Act.put, sl0', sl1', sl2']
 refine tk hPan (i := 2) (oi := ⟨some 118, Op.move (.tmp 6), 3, "ref.go:422", #[], none⟩) (v := .int .i64 (k : Nat)) rfl (by kernel_rfl) (.inl ⟨by rfl, ?_⟩) HSX ?_
 ·intro wx d0
  obtain ⟨s1, s2, s3, s4⟩ := d0
  go_simp
 simp only [Act.put, sl0', sl1', sl2']
 refine tk hPan (i := 3) (oi := ⟨some 119, Op.indexAddr 24 (.tmp 117) (.tmp 118), 0, "ref.go:422", #[gd' 1, gd' 2], none⟩) (v := .pointer (some ⟨ba, oa + k * 2, none⟩)) rfl (by kernel_rfl) (.inl ⟨by rfl, ?_⟩) HSX ?_
 ·intro wx d0
  obtain ⟨s1, s2, s3, s4⟩ := d0
  go_simp
  try (intro hge; omega)
 simp only [Act.put, sl0', sl1', sl2']
 refine tk hPan (i := 4) (oi := ⟨some 120, Op.fieldAddr 103 (.tmp 119) 1, 0, "ref.go:422", #[gd' 3], none⟩) (v := .pointer (some ⟨ba, oa + k * 2 + 1, none⟩)) rfl (by kernel_rfl) (.inl ⟨by rfl, ?_⟩) HSX ?_
 ·intro wx d0
  obtain ⟨s1, s2, s3, s4⟩ := d0
  go_simp
 simp only [Act.put, sl0', sl1', sl2']
 refine tk hPan (i := 5) (oi := ⟨some 121, Op.load 22 (.tmp 120), 22, "ref.go:422", #[gd' 4], none⟩) (v := .slice pa pn pc) rfl (by kernel_rfl) (.inl ⟨by rfl, ?_⟩) HSX ?_
 ·intro wx d0
  obtain ⟨s1, s2, s3, s4⟩ := d0
  go_simp
 simp only [Act.put, sl0', sl1', sl2']
 refine tk hPan (i := 6) (oi := ⟨some 122, Op.fieldAddr 36 (.tmp 3) 3, 0, "ref.go:422", #[], none⟩) (v := .pointer (some ⟨G2, 3, none⟩)) rfl (by kernel_rfl) (.inl ⟨by rfl, ?_⟩) HSX ?_
 ·intro wx d0
  obtain ⟨s1, s2, s3, s4⟩ := d0
  go_simp
 simp only [Act.put, sl0', sl1', sl2']
 refine tk hPan (i := 7) (oi := ⟨some 123, Op.load 24 (.tmp 122), 24, "ref.go:422", #[gd' 6], none⟩) (v := .slice (some ⟨bb, ob, none⟩) n cb) rfl (by kernel_rfl) (.inl ⟨by rfl, ?_⟩) HSX ?_
 ·intro wx d0
  obtain ⟨s1, s2, s3, s4⟩ := d0
  go_simp
 simp only [Act.put, sl0', sl1', sl2']
 refine tk hPan (i := 8) (oi := ⟨some 124, Op.move (.tmp 6), 3, "ref.go:422", #[], none⟩) (v := .int .i64 (k : Nat)) rfl (by kernel_rfl) (.inl ⟨by rfl, ?_⟩) HSX ?_
 ·intro wx d0
  obtain ⟨s1, s2, s3, s4⟩ := d0
  go_simp
 simp only [Act.put, sl0', sl1', sl2']
 refine tk hPan (i := 9) (oi := ⟨some 125, Op.indexAddr 24 (.tmp 123) (.tmp 124), 0, "ref.go:422", #[gd' 7, gd' 8], none⟩) (v := .pointer (some ⟨bb, ob + k * 2, none⟩)) rfl (by kernel_rfl) (.inl ⟨by rfl, ?_⟩) HSX ?_
 ·intro wx d0
  obtain ⟨s1, s2, s3, s4⟩ := d0
  go_simp
  try (intro hge; omega)
 simp only [Act.put, sl0', sl1', sl2']
 refine tk hPan (i := 10) (oi := ⟨some 126, Op.fieldAddr 103 (.tmp 125) 1, 0, "ref.go:422", #[gd' 9], none⟩) (v := .pointer (some ⟨bb, ob + k * 2 + 1, none⟩)) rfl (by kernel_rfl) (.inl ⟨by rfl, ?_⟩) HSX ?_
 ·intro wx d0
  obtain ⟨s1, s2, s3, s4⟩ := d0
  go_simp
 simp only [Act.put, sl0', sl1', sl2']
 refine tk hPan (i := 11) (oi := ⟨some 127, Op.load 22 (.tmp 126), 22, "ref.go:422", #[gd' 10], none⟩) (v := .slice qa qn qc) rfl (by kernel_rfl) (.inl ⟨by rfl, ?_⟩) HSX ?_
 ·intro wx d0
  obtain ⟨s1, s2, s3, s4⟩ := d0
  go_simp
 simp only [Act.put, sl0', sl1', sl2']
 refine wpAnyH_ready (rs := [12]) (by kernel_rfl) (by simp) ?_
 refine AllReadyH.cons (o := ⟨some 128, Op.call { callee := Callee.value (Operand.func 32), args := #[Operand.tmp 121, Operand.tmp 127], argTypes := #[22, 22] }, 4, "ref.go:422", #[gd' 5, gd' 11], none⟩) rfl (fun K hK => ?_) AllReadyH.nil
 rw [if_pos (by rfl)]
 go_simp
 go_at_call 32
 refine hcall.mono ?_
 rintro e w1 ⟨rfl, HS1, hP⟩
 go_simp
 refine hK.out _ _ HS1 (fun HSX => ?_)
 clear hK K
 refine tk hPan (i := 13) (oi := ⟨some 7, Op.assign (.tmp 128), 4, "ref.go:422", #[gd' 12, gc' 12, gp' 0, gp' 1, gp' 2, gp' 3, gp' 4, gp' 5, gp' 6, gp' 7, gp' 8, gp' 9, gp' 10, gp' 11, gp' 12], none⟩) (v := .bool true) rfl (by kernel_rfl) (.inl ⟨by rfl, ?_⟩) HSX ?_
 ·intro wx d0
  obtain ⟨s1, s2, s3, s4⟩ := d0
  go_simp
 simp only [Act.put, sl0', sl1', sl2']
 refine wpAnyH_done (by kernel_rfl) ?_ _
 exact hQ  _ hP
def ops12_39 : Array Oper := #[⟨some 276, Op.fieldAddr 36 (.tmp 2) 9, 0, "ref.go:452", #[], none⟩,
 ⟨some 277, Op.load 33 (.tmp 276), 33, "ref.go:452", #[gd' 0], none⟩,
 ⟨some 278, Op.move (.tmp 16), 3, "ref.go:452", #[], none⟩,
 ⟨some 279, Op.indexAddr 33 (.tmp 277) (.tmp 278), 0, "ref.go:452", #[gd' 1, gd' 2], none⟩,
 ⟨some 280, Op.fieldAddr 69 (.tmp 279) 1, 0, "ref.go:452", #[gd' 3], none⟩,
 ⟨some 281, Op.load 65 (.tmp 280), 65, "ref.go:452", #[gd' 4], none⟩,
 ⟨some 282, Op.fieldAddr 36 (.tmp 3) 9, 0, "ref.go:452", #[], none⟩,
 ⟨some 283, Op.load 33 (.tmp 282), 33, "ref.go:452", #[gd' 6], none⟩,
 ⟨some 284, Op.move (.tmp 16), 3, "ref.go:452", #[], none⟩,
 ⟨some 285, Op.indexAddr 33 (.tmp 283) (.tmp 284), 0, "ref.go:452", #[gd' 7, gd' 8], none⟩,
 ⟨some 286, Op.fieldAddr 69 (.tmp 285) 1, 0, "ref.go:452", #[gd' 9], none⟩,
 ⟨some 287, Op.load 65 (.tmp 286), 65, "ref.go:452", #[gd' 10], none⟩,
 ⟨some 288, Op.call { callee := Callee.value (Operand.func 33), args := #[Operand.tmp 281, Operand.tmp 287], argTypes := #[65, 65] }, 4, "ref.go:452", #[gd' 5, gd' 11], none⟩,
 ⟨some 17, Op.assign (.tmp 288), 4, "ref.go:452", #[gd' 12, gc' 12, gp' 0, gp' 1, gp' 2, gp' 3, gp' 4, gp' 5, gp' 6, gp' 7, gp' 8, gp' 9, gp' 10, gp' 11, gp' 12], none⟩]
set_option maxHeartbeats 8000000 in
set_option maxRecDepth 100000 in
theorem reg12_39 (W : World) (G1 G2 ba oa bb ob n ca cb k : Nat) (hk : k < n) (pa qa : Option Addr) (pn pc qn qc : Nat) (hS : (fun w' => w'.cell? ⟨G1, 42, none⟩ = some (.slice (some ⟨ba, oa, none⟩) n ca) ∧ w'.cell? ⟨G2, 42, none⟩ = some (.slice (some ⟨bb, ob, none⟩) n cb) ∧ w'.cell? ⟨ba, oa + k * 7 + 5, none⟩ = some (.slice pa pn pc) ∧ w'.cell? ⟨bb, ob + k * 7 + 5, none⟩ = some (.slice qa qn qc)) W.drew) (P : World → Prop) (hcall : Calls Tryz.prog 33 #[.slice pa pn pc, .slice qa qn qc] W.drew fun e x1 => e = .returned (.bool true) ∧ (x1.cell? ⟨G1, 42, none⟩ = some (.slice (some ⟨ba, oa, none⟩) n ca) ∧ x1.cell? ⟨G2, 42, none⟩ = some (.slice (some ⟨bb, ob, none⟩) n cb) ∧ x1.cell? ⟨ba, oa + k * 7 + 5, none⟩ = some (.slice pa pn pc) ∧ x1.cell? ⟨bb, ob + k * 7 + 5, none⟩ = some (.slice qa qn qc)) ∧ P  x1)
  (Q : Exit → Act → World → Prop) (hPan : ∀ c (a : Act) w (d : Option Tmp) v, Q (.panic c) (a.put d v) w → Q (.panic c) a w) {u0 u1 u4 u5 u6 u7 u8 u9 u10 u11 u12 u13 u14 u15 u17 u18 u19 u20 u21 u22 u23 u24 u25 u26 u27 u28 u29 u30 u31 u32 u33 u34 u35 u36 u37 u38 u39 u40 u41 u42 u43 u44 u45 u46 u47 u48 u49 u50 u51 u52 u53 u54 u55 u56 u57 u58 u59 u60 u61 u62 u63 u64 u65 u66 u67 u68 u69 u70 u71 u72 u73 u74 u75 u76 u77 u78 u79 u80 u81 u82 u83 u84 u85 u86 u87 u88 u89 u90 u91 u92 u93 u94 u95 u96 u97 u98 u99 A0 A1 A2 A3 A4 A5 A6 A7 A8 A9 B0 B1 B2 B3 B4 B5 B6 B7 B8 B9 C0 C1 C2 C3 C4 C5 C6 C7 C8 C9 D0 D1 D2 D3 D4 D5 D6 D7 D8 D9 E0 E1 E2 E3 E4 E5 E6 E7 E8 E9 F0 F1 F2 F3 F4 F5 F6 F7 F8 F9 G0 G3 G4 G5 G6 G7 G8 G9 H0 H1 H2 H3 H4 H5 H6 H7 H8 H9 I0 I1 I2 I3 I4 I5 I6 I7 I8 I9 J0 J1 J2 J3 J4 J5 J6 J7 J8 J9 K0 K1 K2 K3 K4 K5 K6 K7 K8 K9 L0 L1 L2 L3 L4 L5 L6 L7 L8 L9 M0 M1 M2 M3 M4 M5 M6 M7 M8 M9 N0 N1 N2 N3 N4 N5 N6 N7 N8 N9 O0 O1 O2 O3 O4 O5 O6 O7 O8 O9 P0 P1 P2 P3 P4 P5 P6 P7 P8 P9 Q0 Q1 Q2 Q3 Q4 Q5 Q6 Q7 Q8 Q9 R0 R1 R2 R3 R4 R5 R6 R7 R8 R9 S0 S1 S2 S3 S4 S5 S6 S7 S8 S9 T0 T1 T2 T3 T4 T5 T6 T7 T8 T9 U0 U1 U2 U3 U4 U5 U6 U7 U8 U9 V0 V1 V2 V3 V4 V5 V6 V7 V8 V9 W1 W2 W3 W4 W5 W6 W7 W8 W9 X0 X1 X2 X3 X4 X5 X6 X7 X8 X9 Y0 Y1 Y2 Y3 : Value}
  (hQ : ∀  w1, P  w1 → Q .normal ⟨#[u0,u1, .pointer (some ⟨G1, 0, none⟩), .pointer (some ⟨G2, 0, none⟩), u4,u5,u6,u7,u8,u9,u10,u11,u12,u13,u14,u15, .int .i64 (k : Nat), .bool true, u18,u19,u20,u21,u22,u23,u24,u25,u26,u27,u28,u29,u30,u31,u32,u33,u34,u35,u36,u37,u38,u39,u40,u41,u42,u43,u44,u45,u46,u47,u48,u49,u50,u51,u52,u53,u54,u55,u56,u57,u58,u59,u60,u61,u62,u63,u64,u65,u66,u67,u68,u69,u70,u71,u72,u73,u74,u75,u76,u77,u78,u79,u80,u81,u82,u83,u84,u85,u86,u87,u88,u89,u90,u91,u92,u93,u94,u95,u96,u97,u98,u99,A0,A1,A2,A3,A4,A5,A6,A7,A8,A9,B0,B1,B2,B3,B4,B5,B6,B7,B8,B9,C0,C1,C2,C3,C4,C5,C6,C7,C8,C9,D0,D1,D2,D3,D4,D5,D6,D7,D8,D9,E0,E1,E2,E3,E4,E5,E6,E7,E8,E9,F0,F1,F2,F3,F4,F5,F6,F7,F8,F9,G0,G3,G4,G5,G6,G7,G8,G9,H0,H1,H2,H3,H4,H5,H6,H7,H8,H9,I0,I1,I2,I3,I4,I5,I6,I7,I8,I9,J0,J1,J2,J3,J4,J5,J6,J7,J8,J9,K0,K1,K2,K3,K4,K5,K6,K7,K8,K9,L0,L1,L2,L3,L4,L5,L6,L7,L8,L9,M0,M1,M2,M3,M4,M5,M6,M7,M8,M9,N0,N1,N2,N3,N4,N5,N6,N7,N8,N9,O0,O1,O2,O3,O4,O5,O6,O7,O8,O9,P0,P1,P2,P3,P4,P5,P6,P7,P8,P9,Q0,Q1,Q2,Q3,Q4,Q5,Q6,Q7,Q8,Q9,R0,R1,R2,R3,R4,R5,R6,R7, .pointer (some ⟨G1, 42, none⟩), .slice (some ⟨ba, oa, none⟩) n ca, .int .i64 (k : Nat), .pointer (some ⟨ba, oa + k * 7, none⟩), .pointer (some ⟨ba, oa + k * 7 + 5, none⟩), .slice pa pn pc, .pointer (some ⟨G2, 42, none⟩), .slice (some ⟨bb, ob, none⟩) n cb, .int .i64 (k : Nat), .pointer (some ⟨bb, ob + k * 7, none⟩), .pointer (some ⟨bb, ob + k * 7 + 5, none⟩), .slice qa qn qc, .bool true, T1,T2,T3,T4,T5,T6,T7,T8,T9,U0,U1,U2,U3,U4,U5,U6,U7,U8,U9,V0,V1,V2,V3,V4,V5,V6,V7,V8,V9,W1,W2,W3,W4,W5,W6,W7,W8,W9,X0,X1,X2,X3,X4,X5,X6,X7,X8,X9,Y0,Y1,Y2,Y3], []⟩ w1) :
  Code.wp Tryz.prog (Code.region 39 ops12_39 true) Q ⟨#[u0,u1, .pointer (some ⟨G1, 0, none⟩), .pointer (some ⟨G2, 0, none⟩), u4,u5,u6,u7,u8,u9,u10,u11,u12,u13,u14,u15, .int .i64 (k : Nat), u17,u18,u19,u20,u21,u22,u23,u24,u25,u26,u27,u28,u29,u30,u31,u32,u33,u34,u35,u36,u37,u38,u39,u40,u41,u42,u43,u44,u45,u46,u47,u48,u49,u50,u51,u52,u53,u54,u55,u56,u57,u58,u59,u60,u61,u62,u63,u64,u65,u66,u67,u68,u69,u70,u71,u72,u73,u74,u75,u76,u77,u78,u79,u80,u81,u82,u83,u84,u85,u86,u87,u88,u89,u90,u91,u92,u93,u94,u95,u96,u97,u98,u99,A0,A1,A2,A3,A4,A5,A6,A7,A8,A9,B0,B1,B2,B3,B4,B5,B6,B7,B8,B9,C0,C1,C2,C3,C4,C5,C6,C7,C8,C9,D0,D1,D2,D3,D4,D5,D6,D7,D8,D9,E0,E1,E2,E3,E4,E5,E6,E7,E8,E9,F0,F1,F2,F3,F4,F5,F6,F7,F8,F9,G0,G3,G4,G5,G6,G7,G8,G9,H0,H1,H2,H3,H4,H5,H6,H7,H8,H9,I0,I1,I2,I3,I4,I5,I6,I7,I8,I9,J0,J1,J2,J3,J4,J5,J6,J7,J8,J9,K0,K1,K2,K3,K4,K5,K6,K7,K8,K9,L0,L1,L2,L3,L4,L5,L6,L7,L8,L9,M0,M1,M2,M3,M4,M5,M6,M7,M8,M9,N0,N1,N2,N3,N4,N5,N6,N7,N8,N9,O0,O1,O2,O3,O4,O5,O6,O7,O8,O9,P0,P1,P2,P3,P4,P5,P6,P7,P8,P9,Q0,Q1,Q2,Q3,Q4,Q5,Q6,Q7,Q8,Q9,R0,R1,R2,R3,R4,R5,R6,R7,R8,R9,S0,S1,S2,S3,S4,S5,S6,S7,S8,S9,T0,T1,T2,T3,T4,T5,T6,T7,T8,T9,U0,U1,U2,U3,U4,U5,U6,U7,U8,U9,V0,V1,V2,V3,V4,V5,V6,V7,V8,V9,W1,W2,W3,W4,W5,W6,W7,W8,W9,X0,X1,X2,X3,X4,X5,X6,X7,X8,X9,Y0,Y1,Y2,Y3], []⟩ W := by
 have hk1 : (k : Int) < n := by omega
 have hk2 : ¬ (k : Int) < 0 := by omega
 refine wp_region_held_drew (S := fun w' => w'.cell? ⟨G1, 42, none⟩ = some (.slice (some ⟨ba, oa, none⟩) n ca) ∧ w'.cell? ⟨G2, 42, none⟩ = some (.slice (some ⟨bb, ob, none⟩) n cb) ∧ w'.cell? ⟨ba, oa + k * 7 + 5, none⟩ = some (.slice pa pn pc) ∧ w'.cell? ⟨bb, ob + k * 7 + 5, none⟩ = some (.slice qa qn qc)) hmx hS (fun HSX => ?_)
 clear hS
 obtain ⟨W0, hW0⟩ : ∃ W0,W0 = W.drew := ⟨_, rfl⟩
 rw [← hW0] at HSX hcall ⊢
 clear hW0
 refine tk hPan (i := 0) (oi := ⟨some 276, Op.fieldAddr 36 (.tmp 2) 9, 0, "ref.go:452", #[], none⟩) (v := .pointer (some ⟨G1, 42, none⟩)) rfl (by kernel_rfl) (.inl ⟨by rfl, ?_⟩) HSX ?_
 ·intro wx d0
  obtain ⟨s1, s2, s3, s4⟩ := d0
  go_simp
 simp only [Act.put, sl0', sl1', sl2']
 refine tk hPan (i := 1) (oi := ⟨some 277, Op.load 33 (.tmp 276), 33, "ref.go:452", #[gd' 0], none⟩) (v := .slice (some ⟨ba, oa, none⟩) n ca) rfl (by kernel_rfl) (.inl ⟨by rfl, ?_⟩) HSX ?_
 ·intro wx d0
  obtain ⟨s1, s2, s3, s4⟩ := d0
  go_simp
 simp only [Act.put, sl0', sl1', sl2']
 refine tk hPan (i := 2) (oi := ⟨some 278, Op.move (.tmp 16), 3, "ref.go:452", #[], none⟩) (v := .int .i64 (k : Nat)) rfl (by kernel_rfl) (.inl ⟨by rfl, ?_⟩) HSX ?_
 ·intro wx d0
  obtain ⟨s1, s2, s3, s4⟩ := d0
  go_simp
 simp only [Act.put, sl0', sl1', sl2']
 refine tk hPan (i := 3) (oi := ⟨some 279, Op.indexAddr 33 (.tmp 277) (.tmp 278), 0, "ref.go:452", #[gd' 1, gd' 2], none⟩) (v := .pointer (some ⟨ba, oa + k * 7, none⟩)) rfl (by kernel_rfl) (.inl ⟨by rfl, ?_⟩) HSX ?_
 ·intro wx d0
  obtain ⟨s1, s2, s3, s4⟩ := d0
  go_simp
  try (intro hge; omega)
 simp only [Act.put, sl0', sl1', sl2']
 refine tk hPan (i := 4) (oi := ⟨some 280, Op.fieldAddr 69 (.tmp 279) 1, 0, "ref.go:452", #[gd' 3], none⟩) (v := .pointer (some ⟨ba, oa + k * 7 + 5, none⟩)) rfl (by kernel_rfl) (.inl ⟨by rfl, ?_⟩) HSX ?_
 ·intro wx d0
  obtain ⟨s1, s2, s3, s4⟩ := d0
  go_simp
 simp only [Act.put, sl0', sl1', sl2']
 refine tk hPan (i := 5) (oi := ⟨some 281, Op.load 65 (.tmp 280), 65, "ref.go:452", #[gd' 4], none⟩) (v := .slice pa pn pc) rfl (by kernel_rfl) (.inl ⟨by rfl, ?_⟩) HSX ?_
 ·intro wx d0
  obtain ⟨s1, s2, s3, s4⟩ := d0
  go_simp
 simp only [Act.put, sl0', sl1', sl2']
 refine tk hPan (i := 6) (oi := ⟨some 282, Op.fieldAddr 36 (.tmp 3) 9, 0, "ref.go:452", #[], none⟩) (v := .pointer (some ⟨G2, 42, none⟩)) rfl (by kernel_rfl) (.inl ⟨by rfl, ?_⟩) HSX ?_
 ·intro wx d0
  obtain ⟨s1, s2, s3, s4⟩ := d0
  go_simp
 simp only [Act.put, sl0', sl1', sl2']
 refine tk hPan (i := 7) (oi := ⟨some 283, Op.load 33 (.tmp 282), 33, "ref.go:452", #[gd' 6], none⟩) (v := .slice (some ⟨bb, ob, none⟩) n cb) rfl (by kernel_rfl) (.inl ⟨by rfl, ?_⟩) HSX ?_
 ·intro wx d0
  obtain ⟨s1, s2, s3, s4⟩ := d0
  go_simp
 simp only [Act.put, sl0', sl1', sl2']
 refine tk hPan (i := 8) (oi := ⟨some 284, Op.move (.tmp 16), 3, "ref.go:452", #[], none⟩) (v := .int .i64 (k : Nat)) rfl (by kernel_rfl) (.inl ⟨by rfl, ?_⟩) HSX ?_
 ·intro wx d0
  obtain ⟨s1, s2, s3, s4⟩ := d0
  go_simp
 simp only [Act.put, sl0', sl1', sl2']
 refine tk hPan (i := 9) (oi := ⟨some 285, Op.indexAddr 33 (.tmp 283) (.tmp 284), 0, "ref.go:452", #[gd' 7, gd' 8], none⟩) (v := .pointer (some ⟨bb, ob + k * 7, none⟩)) rfl (by kernel_rfl) (.inl ⟨by rfl, ?_⟩) HSX ?_
 ·intro wx d0
  obtain ⟨s1, s2, s3, s4⟩ := d0
  go_simp
  try (intro hge; omega)
 simp only [Act.put, sl0', sl1', sl2']
 refine tk hPan (i := 10) (oi := ⟨some 286, Op.fieldAddr 69 (.tmp 285) 1, 0, "ref.go:452", #[gd' 9], none⟩) (v := .pointer (some ⟨bb, ob + k * 7 + 5, none⟩)) rfl (by kernel_rfl) (.inl ⟨by rfl, ?_⟩) HSX ?_
 ·intro wx d0
  obtain ⟨s1, s2, s3, s4⟩ := d0
  go_simp
 simp only [Act.put, sl0', sl1', sl2']
 refine tk hPan (i := 11) (oi := ⟨some 287, Op.load 65 (.tmp 286), 65, "ref.go:452", #[gd' 10], none⟩) (v := .slice qa qn qc) rfl (by kernel_rfl) (.inl ⟨by rfl, ?_⟩) HSX ?_
 ·intro wx d0
  obtain ⟨s1, s2, s3, s4⟩ := d0
  go_simp
 simp only [Act.put, sl0', sl1', sl2']
 refine wpAnyH_ready (rs := [12]) (by kernel_rfl) (by simp) ?_
 refine AllReadyH.cons (o := ⟨some 288, Op.call { callee := Callee.value (Operand.func 33), args := #[Operand.tmp 281, Operand.tmp 287], argTypes := #[65, 65] }, 4, "ref.go:452", #[gd' 5, gd' 11], none⟩) rfl (fun K hK => ?_) AllReadyH.nil
 rw [if_pos (by rfl)]
 go_simp
 go_at_call 33
 refine hcall.mono ?_
 rintro e w1 ⟨rfl, HS1, hP⟩
 go_simp
 refine hK.out _ _ HS1 (fun HSX => ?_)
 clear hK K
 refine tk hPan (i := 13) (oi := ⟨some 17, Op.assign (.tmp 288), 4, "ref.go:452", #[gd' 12, gc' 12, gp' 0, gp' 1, gp' 2, gp' 3, gp' 4, gp' 5, gp' 6, gp' 7, gp' 8, gp' 9, gp' 10, gp' 11, gp' 12], none⟩) (v := .bool true) rfl (by kernel_rfl) (.inl ⟨by rfl, ?_⟩) HSX ?_
 ·intro wx d0
  obtain ⟨s1, s2, s3, s4⟩ := d0
  go_simp
 simp only [Act.put, sl0', sl1', sl2']
 refine wpAnyH_done (by kernel_rfl) ?_ _
 exact hQ  _ hP
def ops12_40 : Array Oper := #[⟨some 289, Op.fieldAddr 36 (.tmp 2) 9, 0, "ref.go:453", #[], none⟩,
 ⟨some 290, Op.load 33 (.tmp 289), 33, "ref.go:453", #[gd' 0], none⟩,
 ⟨some 291, Op.move (.tmp 16), 3, "ref.go:453", #[], none⟩,
 ⟨some 292, Op.indexAddr 33 (.tmp 290) (.tmp 291), 0, "ref.go:453", #[gd' 1, gd' 2], none⟩,
 ⟨some 293, Op.fieldAddr 69 (.tmp 292) 2, 0, "ref.go:453", #[gd' 3], none⟩,
 ⟨some 294, Op.load 65 (.tmp 293), 65, "ref.go:453", #[gd' 4], none⟩,
 ⟨some 295, Op.fieldAddr 36 (.tmp 3) 9, 0, "ref.go:453", #[], none⟩,
 ⟨some 296, Op.load 33 (.tmp 295), 33, "ref.go:453", #[gd' 6], none⟩,
 ⟨some 297, Op.move (.tmp 16), 3, "ref.go:453", #[], none⟩,
 ⟨some 298, Op.indexAddr 33 (.tmp 296) (.tmp 297), 0, "ref.go:453", #[gd' 7, gd' 8], none⟩,
 ⟨some 299, Op.fieldAddr 69 (.tmp 298) 2, 0, "ref.go:453", #[gd' 9], none⟩,
 ⟨some 300, Op.load 65 (.tmp 299), 65, "ref.go:453", #[gd' 10], none⟩,
 ⟨some 301, Op.call { callee := Callee.value (Operand.func 33), args := #[Operand.tmp 294, Operand.tmp 300], argTypes := #[65, 65] }, 4, "ref.go:453", #[gd' 5, gd' 11], none⟩,
 ⟨some 18, Op.assign (.tmp 301), 4, "ref.go:453", #[gd' 12, gc' 12, gp' 0, gp' 1, gp' 2, gp' 3, gp' 4, gp' 5, gp' 6, gp' 7, gp' 8, gp' 9, gp' 10, gp' 11, gp' 12], none⟩]
set_option maxHeartbeats 8000000 in
set_option maxRecDepth 100000 in
theorem reg12_40 (W : World) (G1 G2 ba oa bb ob n ca cb k : Nat) (hk : k < n) (pa qa : Option Addr) (pn pc qn qc : Nat) (hS : (fun w' => w'.cell? ⟨G1, 42, none⟩ = some (.slice (some ⟨ba, oa, none⟩) n ca) ∧ w'.cell? ⟨G2, 42, none⟩ = some (.slice (some ⟨bb, ob, none⟩) n cb) ∧ w'.cell? ⟨ba, oa + k * 7 + 6, none⟩ = some (.slice pa pn pc) ∧ w'.cell? ⟨bb, ob + k * 7 + 6, none⟩ = some (.slice qa qn qc)) W.drew) (P : World → Prop) (hcall : Calls Tryz.prog 33 #[.slice pa pn pc, .slice qa qn qc] W.drew fun e x1 => e = .returned (.bool true) ∧ (x1.cell? ⟨G1, 42, none⟩ = some (.slice (some ⟨ba, oa, none⟩) n ca) ∧ x1.cell? ⟨G2, 42, none⟩ = some (.slice (some ⟨bb, ob, none⟩) n cb) ∧ x1.cell? ⟨ba, oa + k * 7 + 6, none⟩ = some (.slice pa pn pc) ∧ x1.cell? ⟨bb, ob + k * 7 + 6, none⟩ = some (.slice qa qn qc)) ∧ P  x1)
  (Q : Exit → Act → World → Prop) (hPan : ∀ c (a : Act) w (d : Option Tmp) v, Q (.panic c) (a.put d v) w → Q (.panic c) a w) {u0 u1 u4 u5 u6 u7 u8 u9 u10 u11 u12 u13 u14 u15 u17 u18 u19 u20 u21 u22 u23 u24 u25 u26 u27 u28 u29 u30 u31 u32 u33 u34 u35 u36 u37 u38 u39 u40 u41 u42 u43 u44 u45 u46 u47 u48 u49 u50 u51 u52 u53 u54 u55 u56 u57 u58 u59 u60 u61 u62 u63 u64 u65 u66 u67 u68 u69 u70 u71 u72 u73 u74 u75 u76 u77 u78 u79 u80 u81 u82 u83 u84 u85 u86 u87 u88 u89 u90 u91 u92 u93 u94 u95 u96 u97 u98 u99 A0 A1 A2 A3 A4 A5 A6 A7 A8 A9 B0 B1 B2 B3 B4 B5 B6 B7 B8 B9 C0 C1 C2 C3 C4 C5 C6 C7 C8 C9 D0 D1 D2 D3 D4 D5 D6 D7 D8 D9 E0 E1 E2 E3 E4 E5 E6 E7 E8 E9 F0 F1 F2 F3 F4 F5 F6 F7 F8 F9 G0 G3 G4 G5 G6 G7 G8 G9 H0 H1 H2 H3 H4 H5 H6 H7 H8 H9 I0 I1 I2 I3 I4 I5 I6 I7 I8 I9 J0 J1 J2 J3 J4 J5 J6 J7 J8 J9 K0 K1 K2 K3 K4 K5 K6 K7 K8 K9 L0 L1 L2 L3 L4 L5 L6 L7 L8 L9 M0 M1 M2 M3 M4 M5 M6 M7 M8 M9 N0 N1 N2 N3 N4 N5 N6 N7 N8 N9 O0 O1 O2 O3 O4 O5 O6 O7 O8 O9 P0 P1 P2 P3 P4 P5 P6 P7 P8 P9 Q0 Q1 Q2 Q3 Q4 Q5 Q6 Q7 Q8 Q9 R0 R1 R2 R3 R4 R5 R6 R7 R8 R9 S0 S1 S2 S3 S4 S5 S6 S7 S8 S9 T0 T1 T2 T3 T4 T5 T6 T7 T8 T9 U0 U1 U2 U3 U4 U5 U6 U7 U8 U9 V0 V1 V2 V3 V4 V5 V6 V7 V8 V9 W1 W2 W3 W4 W5 W6 W7 W8 W9 X0 X1 X2 X3 X4 X5 X6 X7 X8 X9 Y0 Y1 Y2 Y3 : Value}
  (hQ : ∀  w1, P  w1 → Q .normal ⟨#[u0,u1, .pointer (some ⟨G1, 0, none⟩), .pointer (some ⟨G2, 0, none⟩), u4,u5,u6,u7,u8,u9,u10,u11,u12,u13,u14,u15, .int .i64 (k : Nat), u17, .bool true, u19,u20,u21,u22,u23,u24,u25,u26,u27,u28,u29,u30,u31,u32,u33,u34,u35,u36,u37,u38,u39,u40,u41,u42,u43,u44,u45,u46,u47,u48,u49,u50,u51,u52,u53,u54,u55,u56,u57,u58,u59,u60,u61,u62,u63,u64,u65,u66,u67,u68,u69,u70,u71,u72,u73,u74,u75,u76,u77,u78,u79,u80,u81,u82,u83,u84,u85,u86,u87,u88,u89,u90,u91,u92,u93,u94,u95,u96,u97,u98,u99,A0,A1,A2,A3,A4,A5,A6,A7,A8,A9,B0,B1,B2,B3,B4,B5,B6,B7,B8,B9,C0,C1,C2,C3,C4,C5,C6,C7,C8,C9,D0,D1,D2,D3,D4,D5,D6,D7,D8,D9,E0,E1,E2,E3,E4,E5,E6,E7,E8,E9,F0,F1,F2,F3,F4,F5,F6,F7,F8,F9,G0,G3,G4,G5,G6,G7,G8,G9,H0,H1,H2,H3,H4,H5,H6,H7,H8,H9,I0,I1,I2,I3,I4,I5,I6,I7,I8,I9,J0,J1,J2,J3,J4,J5,J6,J7,J8,J9,K0,K1,K2,K3,K4,K5,K6,K7,K8,K9,L0,L1,L2,L3,L4,L5,L6,L7,L8,L9,M0,M1,M2,M3,M4,M5,M6,M7,M8,M9,N0,N1,N2,N3,N4,N5,N6,N7,N8,N9,O0,O1,O2,O3,O4,O5,O6,O7,O8,O9,P0,P1,P2,P3,P4,P5,P6,P7,P8,P9,Q0,Q1,Q2,Q3,Q4,Q5,Q6,Q7,Q8,Q9,R0,R1,R2,R3,R4,R5,R6,R7,R8,R9,S0,S1,S2,S3,S4,S5,S6,S7,S8,S9,T0, .pointer (some ⟨G1, 42, none⟩), .slice (some ⟨ba, oa, none⟩) n ca, .int .i64 (k : Nat), .pointer (some ⟨ba, oa + k * 7, none⟩), .pointer (some ⟨ba, oa + k * 7 + 6, none⟩), .slice pa pn pc, .pointer (some ⟨G2, 42, none⟩), .slice (some ⟨bb, ob, none⟩) n cb, .int .i64 (k : Nat), .pointer (some ⟨bb, ob + k * 7, none⟩), .pointer (some ⟨bb, ob + k * 7 + 6, none⟩), .slice qa qn qc, .bool true, U4,U5,U6,U7,U8,U9,V0,V1,V2,V3,V4,V5,V6,V7,V8,V9,W1,W2,W3,W4,W5,W6,W7,W8,W9,X0,X1,X2,X3,X4,X5,X6,X7,X8,X9,Y0,Y1,Y2,Y3], []⟩ w1) :
  Code.wp Tryz.prog (Code.region 40 ops12_40 true) Q ⟨#[u0,u1, .pointer (some ⟨G1, 0, none⟩), .pointer (some ⟨G2, 0, none⟩), u4,u5,u6,u7,u8,u9,u10,u11,u12,u13,u14,u15, .int .i64 (k : Nat), u17,u18,u19,u20,u21,u22,u23,u24,u25,u26,u27,u28,u29,u30,u31,u32,u33,u34,u35,u36,u37,u38,u39,u40,u41,u42,u43,u44,u45,u46,u47,u48,u49,u50,u51,u52,u53,u54,u55,u56,u57,u58,u59,u60,u61,u62,u63,u64,u65,u66,u67,u68,u69,u70,u71,u72,u73,u74,u75,u76,u77,u78,u79,u80,u81,u82,u83,u84,u85,u86,u87,u88,u89,u90,u91,u92,u93,u94,u95,u96,u97,u98,u99,A0,A1,A2,A3,A4,A5,A6,A7,A8,A9,B0,B1,B2,B3,B4,B5,B6,B7,B8,B9,C0,C1,C2,C3,C4,C5,C6,C7,C8,C9,D0,D1,D2,D3,D4,D5,D6,D7,D8,D9,E0,E1,E2,E3,E4,E5,E6,E7,E8,E9,F0,F1,F2,F3,F4,F5,F6,F7,F8,F9,G0,G3,G4,G5,G6,G7,G8,G9,H0,H1,H2,H3,H4,H5,H6,H7,H8,H9,I0,I1,I2,I3,I4,I5,I6,I7,I8,I9,J0,J1,J2,J3,J4,J5,J6,J7,J8,J9,K0,K1,K2,K3,K4,K5,K6,K7,K8,K9,L0,L1,L2,L3,L4,L5,L6,L7,L8,L9,M0,M1,M2,M3,M4,M5,M6,M7,M8,M9,N0,N1,N2,N3,N4,N5,N6,N7,N8,N9,O0,O1,O2,O3,O4,O5,O6,O7,O8,O9,P0,P1,P2,P3,P4,P5,P6,P7,P8,P9,Q0,Q1,Q2,Q3,Q4,Q5,Q6,Q7,Q8,Q9,R0,R1,R2,R3,R4,R5,R6,R7,R8,R9,S0,S1,S2,S3,S4,S5,S6,S7,S8,S9,T0,T1,T2,T3,T4,T5,T6,T7,T8,T9,U0,U1,U2,U3,U4,U5,U6,U7,U8,U9,V0,V1,V2,V3,V4,V5,V6,V7,V8,V9,W1,W2,W3,W4,W5,W6,W7,W8,W9,X0,X1,X2,X3,X4,X5,X6,X7,X8,X9,Y0,Y1,Y2,Y3], []⟩ W := by
 have hk1 : (k : Int) < n := by omega
 have hk2 : ¬ (k : Int) < 0 := by omega
 refine wp_region_held_drew (S := fun w' => w'.cell? ⟨G1, 42, none⟩ = some (.slice (some ⟨ba, oa, none⟩) n ca) ∧ w'.cell? ⟨G2, 42, none⟩ = some (.slice (some ⟨bb, ob, none⟩) n cb) ∧ w'.cell? ⟨ba, oa + k * 7 + 6, none⟩ = some (.slice pa pn pc) ∧ w'.cell? ⟨bb, ob + k * 7 + 6, none⟩ = some (.slice qa qn qc)) hmx hS (fun HSX => ?_)
 clear hS
 obtain ⟨W0, hW0⟩ : ∃ W0,W0 = W.drew := ⟨_, rfl⟩
 rw [← hW0] at HSX hcall ⊢
 clear hW0
 refine tk hPan (i := 0) (oi := ⟨some 289, Op.fieldAddr 36 (.tmp 2) 9, 0, "ref.go:453", #[], none⟩) (v := .pointer (some ⟨G1, 42, none⟩)) rfl (by kernel_rfl) (.inl ⟨by rfl, ?_⟩) HSX ?_
 ·intro wx d0
  obtain ⟨s1, s2, s3, s4⟩ := d0
  go_simp
 simp only [Act.put, sl0', sl1', sl2']
 refine tk hPan (i := 1) (oi := ⟨some 290, Op.load 33 (.tmp 289), 33, "ref.go:453", #[gd' 0], none⟩) (v := .slice (some ⟨ba, oa, none⟩) n ca) rfl (by kernel_rfl) (.inl ⟨by rfl, ?_⟩) HSX ?_
 ·intro wx d0
  obtain ⟨s1, s2, s3, s4⟩ := d0
  go_simp
 simp only [Act.put, sl0', sl1', sl2']
 refine tk hPan (i := 2) (oi := ⟨some 291, Op.move (.tmp 16), 3, "ref.go:453", #[], none⟩) (v := .int .i64 (k : Nat)) rfl (by kernel_rfl) (.inl ⟨by rfl, ?_⟩) HSX ?_
 ·intro wx d0
  obtain ⟨s1, s2, s3, s4⟩ := d0
  go_simp
 simp only [Act.put, sl0', sl1', sl2']
 refine tk hPan (i := 3) (oi := ⟨some 292, Op.indexAddr 33 (.tmp 290) (.tmp 291), 0, "ref.go:453", #[gd' 1, gd' 2], none⟩) (v := .pointer (some ⟨ba, oa + k * 7, none⟩)) rfl (by kernel_rfl) (.inl ⟨by rfl, ?_⟩) HSX ?_
 ·intro wx d0
  obtain ⟨s1, s2, s3, s4⟩ := d0
  go_simp
  try (intro hge; omega)
 simp only [Act.put, sl0', sl1', sl2']
 refine tk hPan (i := 4) (oi := ⟨some 293, Op.fieldAddr 69 (.tmp 292) 2, 0, "ref.go:453", #[gd' 3], none⟩) (v := .pointer (some ⟨ba, oa + k * 7 + 6, none⟩)) rfl (by kernel_rfl) (.inl ⟨by rfl, ?_⟩) HSX ?_
 ·intro wx d0
  obtain ⟨s1, s2, s3, s4⟩ := d0
  go_simp
 simp only [Act.put, sl0', sl1', sl2']
 refine tk hPan (i := 5) (oi := ⟨some 294, Op.load 65 (.tmp 293), 65, "ref.go:453", #[gd' 4], none⟩) (v := .slice pa pn pc) rfl (by kernel_rfl) (.inl ⟨by rfl, ?_⟩) HSX ?_
 ·intro wx d0
  obtain ⟨s1, s2, s3, s4⟩ := d0
  go_simp
 simp only [Act.put, sl0', sl1', sl2']
 refine tk hPan (i := 6) (oi := ⟨some 295, Op.fieldAddr 36 (.tmp 3) 9, 0, "ref.go:453", #[], none⟩) (v := .pointer (some ⟨G2, 42, none⟩)) rfl (by kernel_rfl) (.inl ⟨by rfl, ?_⟩) HSX ?_
 ·intro wx d0
  obtain ⟨s1, s2, s3, s4⟩ := d0
  go_simp
 simp only [Act.put, sl0', sl1', sl2']
 refine tk hPan (i := 7) (oi := ⟨some 296, Op.load 33 (.tmp 295), 33, "ref.go:453", #[gd' 6], none⟩) (v := .slice (some ⟨bb, ob, none⟩) n cb) rfl (by kernel_rfl) (.inl ⟨by rfl, ?_⟩) HSX ?_
 ·intro wx d0
  obtain ⟨s1, s2, s3, s4⟩ := d0
  go_simp
 simp only [Act.put, sl0', sl1', sl2']
 refine tk hPan (i := 8) (oi := ⟨some 297, Op.move (.tmp 16), 3, "ref.go:453", #[], none⟩) (v := .int .i64 (k : Nat)) rfl (by kernel_rfl) (.inl ⟨by rfl, ?_⟩) HSX ?_
 ·intro wx d0
  obtain ⟨s1, s2, s3, s4⟩ := d0
  go_simp
 simp only [Act.put, sl0', sl1', sl2']
 refine tk hPan (i := 9) (oi := ⟨some 298, Op.indexAddr 33 (.tmp 296) (.tmp 297), 0, "ref.go:453", #[gd' 7, gd' 8], none⟩) (v := .pointer (some ⟨bb, ob + k * 7, none⟩)) rfl (by kernel_rfl) (.inl ⟨by rfl, ?_⟩) HSX ?_
 ·intro wx d0
  obtain ⟨s1, s2, s3, s4⟩ := d0
  go_simp
  try (intro hge; omega)
 simp only [Act.put, sl0', sl1', sl2']
 refine tk hPan (i := 10) (oi := ⟨some 299, Op.fieldAddr 69 (.tmp 298) 2, 0, "ref.go:453", #[gd' 9], none⟩) (v := .pointer (some ⟨bb, ob + k * 7 + 6, none⟩)) rfl (by kernel_rfl) (.inl ⟨by rfl, ?_⟩) HSX ?_
 ·intro wx d0
  obtain ⟨s1, s2, s3, s4⟩ := d0
  go_simp
 simp only [Act.put, sl0', sl1', sl2']
 refine tk hPan (i := 11) (oi := ⟨some 300, Op.load 65 (.tmp 299), 65, "ref.go:453", #[gd' 10], none⟩) (v := .slice qa qn qc) rfl (by kernel_rfl) (.inl ⟨by rfl, ?_⟩) HSX ?_
 ·intro wx d0
  obtain ⟨s1, s2, s3, s4⟩ := d0
  go_simp
 simp only [Act.put, sl0', sl1', sl2']
 refine wpAnyH_ready (rs := [12]) (by kernel_rfl) (by simp) ?_
 refine AllReadyH.cons (o := ⟨some 301, Op.call { callee := Callee.value (Operand.func 33), args := #[Operand.tmp 294, Operand.tmp 300], argTypes := #[65, 65] }, 4, "ref.go:453", #[gd' 5, gd' 11], none⟩) rfl (fun K hK => ?_) AllReadyH.nil
 rw [if_pos (by rfl)]
 go_simp
 go_at_call 33
 refine hcall.mono ?_
 rintro e w1 ⟨rfl, HS1, hP⟩
 go_simp
 refine hK.out _ _ HS1 (fun HSX => ?_)
 clear hK K
 refine tk hPan (i := 13) (oi := ⟨some 18, Op.assign (.tmp 301), 4, "ref.go:453", #[gd' 12, gc' 12, gp' 0, gp' 1, gp' 2, gp' 3, gp' 4, gp' 5, gp' 6, gp' 7, gp' 8, gp' 9, gp' 10, gp' 11, gp' 12], none⟩) (v := .bool true) rfl (by kernel_rfl) (.inl ⟨by rfl, ?_⟩) HSX ?_
 ·intro wx d0
  obtain ⟨s1, s2, s3, s4⟩ := d0
  go_simp
 simp only [Act.put, sl0', sl1', sl2']
 refine wpAnyH_done (by kernel_rfl) ?_ _
 exact hQ  _ hP
def ops12_15 : Array Oper := #[⟨some 153, Op.fieldAddr 36 (.tmp 2) 4, 0, "ref.go:428", #[], none⟩,
 ⟨some 154, Op.load 25 (.tmp 153), 25, "ref.go:428", #[gd' 0], none⟩,
 ⟨some 155, Op.move (.tmp 8), 3, "ref.go:428", #[], none⟩,
 ⟨some 156, Op.indexAddr 25 (.tmp 154) (.tmp 155), 0, "ref.go:428", #[gd' 1, gd' 2], none⟩,
 ⟨some 157, Op.load 62 (.tmp 156), 62, "ref.go:428", #[gd' 3], none⟩,
 ⟨some 158, Op.fieldAddr 36 (.tmp 3) 4, 0, "ref.go:428", #[], none⟩,
 ⟨some 159, Op.load 25 (.tmp 158), 25, "ref.go:428", #[gd' 5], none⟩,
 ⟨some 160, Op.move (.tmp 8), 3, "ref.go:428", #[], none⟩,
 ⟨some 161, Op.indexAddr 25 (.tmp 159) (.tmp 160), 0, "ref.go:428", #[gd' 6, gd' 7], none⟩,
 ⟨some 162, Op.load 62 (.tmp 161), 62, "ref.go:428", #[gd' 8], none⟩,
 ⟨some 163, Op.binOp BinOp.neq 62 (.tmp 157) (.tmp 162) 62, 4, "ref.go:428", #[gd' 4, gd' 9], none⟩]
set_option maxHeartbeats 8000000 in
set_option maxRecDepth 100000 in
theorem reg12_15 (W : World) (G1 G2 ba oa bb ob n ca cb k : Nat) (hk : k < n) (C : List Value) (hC : (Tryz.prog.info? 62).map (·.size) = some C.length) (hq : ∀ w, (binOp .neq 62 (.agg C.toArray) (.agg C.toArray)).run Tryz.prog w = .ok (.bool false) w) (hS : (fun w' => w'.cell? ⟨G1, 4, none⟩ = some (.slice (some ⟨ba, oa, none⟩) n ca) ∧ w'.cell? ⟨G2, 4, none⟩ = some (.slice (some ⟨bb, ob, none⟩) n cb) ∧ w'.rangeAt ba (oa + k * 22) C ∧ w'.rangeAt bb (ob + k * 22) C) W.drew)
  (Q : Exit → Act → World → Prop) (hPan : ∀ c (a : Act) w (d : Option Tmp) v, Q (.panic c) (a.put d v) w → Q (.panic c) a w) {u0 u1 u4 u5 u6 u7 u9 u10 u11 u12 u13 u14 u15 u16 u17 u18 u19 u20 u21 u22 u23 u24 u25 u26 u27 u28 u29 u30 u31 u32 u33 u34 u35 u36 u37 u38 u39 u40 u41 u42 u43 u44 u45 u46 u47 u48 u49 u50 u51 u52 u53 u54 u55 u56 u57 u58 u59 u60 u61 u62 u63 u64 u65 u66 u67 u68 u69 u70 u71 u72 u73 u74 u75 u76 u77 u78 u79 u80 u81 u82 u83 u84 u85 u86 u87 u88 u89 u90 u91 u92 u93 u94 u95 u96 u97 u98 u99 A0 A1 A2 A3 A4 A5 A6 A7 A8 A9 B0 B1 B2 B3 B4 B5 B6 B7 B8 B9 C0 C1 C2 C3 C4 C5 C6 C7 C8 C9 D0 D1 D2 D3 D4 D5 D6 D7 D8 D9 E0 E1 E2 E3 E4 E5 E6 E7 E8 E9 F0 F1 F2 F3 F4 F5 F6 F7 F8 F9 G0 G3 G4 G5 G6 G7 G8 G9 H0 H1 H2 H3 H4 H5 H6 H7 H8 H9 I0 I1 I2 I3 I4 I5 I6 I7 I8 I9 J0 J1 J2 J3 J4 J5 J6 J7 J8 J9 K0 K1 K2 K3 K4 K5 K6 K7 K8 K9 L0 L1 L2 L3 L4 L5 L6 L7 L8 L9 M0 M1 M2 M3 M4 M5 M6 M7 M8 M9 N0 N1 N2 N3 N4 N5 N6 N7 N8 N9 O0 O1 O2 O3 O4 O5 O6 O7 O8 O9 P0 P1 P2 P3 P4 P5 P6 P7 P8 P9 Q0 Q1 Q2 Q3 Q4 Q5 Q6 Q7 Q8 Q9 R0 R1 R2 R3 R4 R5 R6 R7 R8 R9 S0 S1 S2 S3 S4 S5 S6 S7 S8 S9 T0 T1 T2 T3 T4 T5 T6 T7 T8 T9 U0 U1 U2 U3 U4 U5 U6 U7 U8 U9 V0 V1 V2 V3 V4 V5 V6 V7 V8 V9 W1 W2 W3 W4 W5 W6 W7 W8 W9 X0 X1 X2 X3 X4 X5 X6 X7 X8 X9 Y0 Y1 Y2 Y3 : Value}
  (hQ : Q .normal ⟨#[u0,u1, .pointer (some ⟨G1, 0, none⟩), .pointer (some ⟨G2, 0, none⟩), u4,u5,u6,u7, .int .i64 (k : Nat), u9,u10,u11,u12,u13,u14,u15,u16,u17,u18,u19,u20,u21,u22,u23,u24,u25,u26,u27,u28,u29,u30,u31,u32,u33,u34,u35,u36,u37,u38,u39,u40,u41,u42,u43,u44,u45,u46,u47,u48,u49,u50,u51,u52,u53,u54,u55,u56,u57,u58,u59,u60,u61,u62,u63,u64,u65,u66,u67,u68,u69,u70,u71,u72,u73,u74,u75,u76,u77,u78,u79,u80,u81,u82,u83,u84,u85,u86,u87,u88,u89,u90,u91,u92,u93,u94,u95,u96,u97,u98,u99,A0,A1,A2,A3,A4,A5,A6,A7,A8,A9,B0,B1,B2,B3,B4,B5,B6,B7,B8,B9,C0,C1,C2,C3,C4,C5,C6,C7,C8,C9,D0,D1,D2,D3,D4,D5,D6,D7,D8,D9,E0,E1,E2,E3,E4,E5,E6,E7,E8,E9,F0,F1,F2, .pointer (some ⟨G1, 4, none⟩), .slice (some ⟨ba, oa, none⟩) n ca, .int .i64 (k : Nat), .pointer (some ⟨ba, oa + k * 22, none⟩), .agg C.toArray, .pointer (some ⟨G2, 4, none⟩), .slice (some ⟨bb, ob, none⟩) n cb, .int .i64 (k : Nat), .pointer (some ⟨bb, ob + k * 22, none⟩), .agg C.toArray, .bool false, G6,G7,G8,G9,H0,H1,H2,H3,H4,H5,H6,H7,H8,H9,I0,I1,I2,I3,I4,I5,I6,I7,I8,I9,J0,J1,J2,J3,J4,J5,J6,J7,J8,J9,K0,K1,K2,K3,K4,K5,K6,K7,K8,K9,L0,L1,L2,L3,L4,L5,L6,L7,L8,L9,M0,M1,M2,M3,M4,M5,M6,M7,M8,M9,N0,N1,N2,N3,N4,N5,N6,N7,N8,N9,O0,O1,O2,O3,O4,O5,O6,O7,O8,O9,P0,P1,P2,P3,P4,P5,P6,P7,P8,P9,Q0,Q1,Q2,Q3,Q4,Q5,Q6,Q7,Q8,Q9,R0,R1,R2,R3,R4,R5,R6,R7,R8,R9,S0,S1,S2,S3,S4,S5,S6,S7,S8,S9,T0,T1,T2,T3,T4,T5,T6,T7,T8,T9,U0,U1,U2,U3,U4,U5,U6,U7,U8,U9,V0,V1,V2,V3,V4,V5,V6,V7,V8,V9,W1,W2,W3,W4,W5,W6,W7,W8,W9,X0,X1,X2,X3,X4,X5,X6,X7,X8,X9,Y0,Y1,Y2,Y3], []⟩ W.drew) :
  Code.wp Tryz.prog (Code.region 15 ops12_15 true) Q ⟨#[u0,u1, .pointer (some ⟨G1, 0, none⟩), .pointer (some ⟨G2, 0, none⟩), u4,u5,u6,u7, .int .i64 (k : Nat), u9,u10,u11,u12,u13,u14,u15,u16,u17,u18,u19,u20,u21,u22,u23,u24,u25,u26,u27,u28,u29,u30,u31,u32,u33,u34,u35,u36,u37,u38,u39,u40,u41,u42,u43,u44,u45,u46,u47,u48,u49,u50,u51,u52,u53,u54,u55,u56,u57,u58,u59,u60,u61,u62,u63,u64,u65,u66,u67,u68,u69,u70,u71,u72,u73,u74,u75,u76,u77,u78,u79,u80,u81,u82,u83,u84,u85,u86,u87,u88,u89,u90,u91,u92,u93,u94,u95,u96,u97,u98,u99,A0,A1,A2,A3,A4,A5,A6,A7,A8,A9,B0,B1,B2,B3,B4,B5,B6,B7,B8,B9,C0,C1,C2,C3,C4,C5,C6,C7,C8,C9,D0,D1,D2,D3,D4,D5,D6,D7,D8,D9,E0,E1,E2,E3,E4,E5,E6,E7,E8,E9,F0,F1,F2,F3,F4,F5,F6,F7,F8,F9,G0,G3,G4,G5,G6,G7,G8,G9,H0,H1,H2,H3,H4,H5,H6,H7,H8,H9,I0,I1,I2,I3,I4,I5,I6,I7,I8,I9,J0,J1,J2,J3,J4,J5,J6,J7,J8,J9,K0,K1,K2,K3,K4,K5,K6,K7,K8,K9,L0,L1,L2,L3,L4,L5,L6,L7,L8,L9,M0,M1,M2,M3,M4,M5,M6,M7,M8,M9,N0,N1,N2,N3,N4,N5,N6,N7,N8,N9,O0,O1,O2,O3,O4,O5,O6,O7,O8,O9,P0,P1,P2,P3,P4,P5,P6,P7,P8,P9,Q0,Q1,Q2,Q3,Q4,Q5,Q6,Q7,Q8,Q9,R0,R1,R2,R3,R4,R5,R6,R7,R8,R9,S0,S1,S2,S3,S4,S5,S6,S7,S8,S9,T0,T1,T2,T3,T4,T5,T6,T7,T8,T9,U0,U1,U2,U3,U4,U5,U6,U7,U8,U9,V0,V1,V2,V3,V4,V5,V6,V7,V8,V9,W1,W2,W3,W4,W5,W6,W7,W8,W9,X0,X1,X2,X3,X4,X5,X6,X7,X8,X9,Y0,Y1,Y2,Y3], []⟩ W := by
 have hk1 : (k : Int) < n := by omega
 have hk2 : ¬ (k : Int) < 0 := by omega
 refine wp_region_held_drew (S := fun w' => w'.cell? ⟨G1, 4, none⟩ = some (.slice (some ⟨ba, oa, none⟩) n ca) ∧ w'.cell? ⟨G2, 4, none⟩ = some (.slice (some ⟨bb, ob, none⟩) n cb) ∧ w'.rangeAt ba (oa + k * 22) C ∧ w'.rangeAt bb (ob + k * 22) C) hmx hS (fun HSX => ?_)
 clear hS
 obtain ⟨W0, hW0⟩ : ∃ W0,W0 = W.drew := ⟨_, rfl⟩
 rw [← hW0] at HSX hQ ⊢
 clear hW0
 refine tk hPan (i := 0) (oi := ⟨some 153, Op.fieldAddr 36 (.tmp 2) 4, 0, "ref.go:428", #[], none⟩) (v := .pointer (some ⟨G1, 4, none⟩)) rfl (by kernel_rfl) (.inl ⟨by rfl, ?_⟩) HSX ?_
 ·intro wx d0
  obtain ⟨s1, s2, s3, s4⟩ := d0
  go_simp
 simp only [Act.put, sl0', sl1', sl2']
 refine tk hPan (i := 1) (oi := ⟨some 154, Op.load 25 (.tmp 153), 25, "ref.go:428", #[gd' 0], none⟩) (v := .slice (some ⟨ba, oa, none⟩) n ca) rfl (by kernel_rfl) (.inl ⟨by rfl, ?_⟩) HSX ?_
 ·intro wx d0
  obtain ⟨s1, s2, s3, s4⟩ := d0
  go_simp
 simp only [Act.put, sl0', sl1', sl2']
 refine tk hPan (i := 2) (oi := ⟨some 155, Op.move (.tmp 8), 3, "ref.go:428", #[], none⟩) (v := .int .i64 (k : Nat)) rfl (by kernel_rfl) (.inl ⟨by rfl, ?_⟩) HSX ?_
 ·intro wx d0
  obtain ⟨s1, s2, s3, s4⟩ := d0
  go_simp
 simp only [Act.put, sl0', sl1', sl2']
 refine tk hPan (i := 3) (oi := ⟨some 156, Op.indexAddr 25 (.tmp 154) (.tmp 155), 0, "ref.go:428", #[gd' 1, gd' 2], none⟩) (v := .pointer (some ⟨ba, oa + k * 22, none⟩)) rfl (by kernel_rfl) (.inl ⟨by rfl, ?_⟩) HSX ?_
 ·intro wx d0
  obtain ⟨s1, s2, s3, s4⟩ := d0
  go_simp
  try (intro hge; omega)
 simp only [Act.put, sl0', sl1', sl2']
 refine tk hPan (i := 4) (oi := ⟨some 157, Op.load 62 (.tmp 156), 62, "ref.go:428", #[gd' 3], none⟩) (v := .agg C.toArray) rfl (by kernel_rfl) (yieldsIf_load_mid (by rfl) 62 (.tmp 156) rfl ba (oa + k * 22) rfl C _ (fun w h => h.2.2.1) Tryz.underlying62 rfl hC) HSX ?_
 simp only [Act.put, sl0', sl1', sl2']
 refine tk hPan (i := 5) (oi := ⟨some 158, Op.fieldAddr 36 (.tmp 3) 4, 0, "ref.go:428", #[], none⟩) (v := .pointer (some ⟨G2, 4, none⟩)) rfl (by kernel_rfl) (.inl ⟨by rfl, ?_⟩) HSX ?_
 ·intro wx d0
  obtain ⟨s1, s2, s3, s4⟩ := d0
  go_simp
 simp only [Act.put, sl0', sl1', sl2']
 refine tk hPan (i := 6) (oi := ⟨some 159, Op.load 25 (.tmp 158), 25, "ref.go:428", #[gd' 5], none⟩) (v := .slice (some ⟨bb, ob, none⟩) n cb) rfl (by kernel_rfl) (.inl ⟨by rfl, ?_⟩) HSX ?_
 ·intro wx d0
  obtain ⟨s1, s2, s3, s4⟩ := d0
  go_simp
 simp only [Act.put, sl0', sl1', sl2']
 refine tk hPan (i := 7) (oi := ⟨some 160, Op.move (.tmp 8), 3, "ref.go:428", #[], none⟩) (v := .int .i64 (k : Nat)) rfl (by kernel_rfl) (.inl ⟨by rfl, ?_⟩) HSX ?_
 ·intro wx d0
  obtain ⟨s1, s2, s3, s4⟩ := d0
  go_simp
 simp only [Act.put, sl0', sl1', sl2']
 refine tk hPan (i := 8) (oi := ⟨some 161, Op.indexAddr 25 (.tmp 159) (.tmp 160), 0, "ref.go:428", #[gd' 6, gd' 7], none⟩) (v := .pointer (some ⟨bb, ob + k * 22, none⟩)) rfl (by kernel_rfl) (.inl ⟨by rfl, ?_⟩) HSX ?_
 ·intro wx d0
  obtain ⟨s1, s2, s3, s4⟩ := d0
  go_simp
  try (intro hge; omega)
 simp only [Act.put, sl0', sl1', sl2']
 refine tk hPan (i := 9) (oi := ⟨some 162, Op.load 62 (.tmp 161), 62, "ref.go:428", #[gd' 8], none⟩) (v := .agg C.toArray) rfl (by kernel_rfl) (yieldsIf_load_mid (by rfl) 62 (.tmp 161) rfl bb (ob + k * 22) rfl C _ (fun w h => h.2.2.2) Tryz.underlying62 rfl hC) HSX ?_
 simp only [Act.put, sl0', sl1', sl2']
 refine tk hPan (i := 10) (oi := ⟨some 163, Op.binOp BinOp.neq 62 (.tmp 157) (.tmp 162) 62, 4, "ref.go:428", #[gd' 4, gd' 9], none⟩) (v := .bool false) rfl (by kernel_rfl) (.inl ⟨by rfl, ?_⟩) HSX ?_
 ·intro wx d0
  simp only [execOp, Act.eval]
  simp [eqg62, hq]
 simp only [Act.put, sl0', sl1', sl2']
 refine wpAnyH_done (by kernel_rfl) ?_ _
 exact hQ
def ops12_20 : Array Oper := #[⟨some 171, Op.fieldAddr 36 (.tmp 2) 5, 0, "ref.go:433", #[], none⟩,
 ⟨some 172, Op.load 26 (.tmp 171), 26, "ref.go:433", #[gd' 0], none⟩,
 ⟨some 173, Op.move (.tmp 9), 3, "ref.go:433", #[], none⟩,
 ⟨some 174, Op.indexAddr 26 (.tmp 172) (.tmp 173), 0, "ref.go:433", #[gd' 1, gd' 2], none⟩,
 ⟨some 175, Op.load 105 (.tmp 174), 105, "ref.go:433", #[gd' 3], none⟩,
 ⟨some 176, Op.fieldAddr 36 (.tmp 3) 5, 0, "ref.go:433", #[], none⟩,
 ⟨some 177, Op.load 26 (.tmp 176), 26, "ref.go:433", #[gd' 5], none⟩,
 ⟨some 178, Op.move (.tmp 9), 3, "ref.go:433", #[], none⟩,
 ⟨some 179, Op.indexAddr 26 (.tmp 177) (.tmp 178), 0, "ref.go:433", #[gd' 6, gd' 7], none⟩,
 ⟨some 180, Op.load 105 (.tmp 179), 105, "ref.go:433", #[gd' 8], none⟩,
 ⟨some 181, Op.binOp BinOp.neq 105 (.tmp 175) (.tmp 180) 105, 4, "ref.go:433", #[gd' 4, gd' 9], none⟩]
set_option maxHeartbeats 8000000 in
set_option maxRecDepth 100000 in
theorem reg12_20 (W : World) (G1 G2 ba oa bb ob n ca cb k : Nat) (hk : k < n) (C : List Value) (hC : (Tryz.prog.info? 105).map (·.size) = some C.length) (hq : ∀ w, (binOp .neq 105 (.agg C.toArray) (.agg C.toArray)).run Tryz.prog w = .ok (.bool false) w) (hS : (fun w' => w'.cell? ⟨G1, 5, none⟩ = some (.slice (some ⟨ba, oa, none⟩) n ca) ∧ w'.cell? ⟨G2, 5, none⟩ = some (.slice (some ⟨bb, ob, none⟩) n cb) ∧ w'.rangeAt ba (oa + k * 3) C ∧ w'.rangeAt bb (ob + k * 3) C) W.drew)
  (Q : Exit → Act → World → Prop) (hPan : ∀ c (a : Act) w (d : Option Tmp) v, Q (.panic c) (a.put d v) w → Q (.panic c) a w) {u0 u1 u4 u5 u6 u7 u8 u10 u11 u12 u13 u14 u15 u16 u17 u18 u19 u20 u21 u22 u23 u24 u25 u26 u27 u28 u29 u30 u31 u32 u33 u34 u35 u36 u37 u38 u39 u40 u41 u42 u43 u44 u45 u46 u47 u48 u49 u50 u51 u52 u53 u54 u55 u56 u57 u58 u59 u60 u61 u62 u63 u64 u65 u66 u67 u68 u69 u70 u71 u72 u73 u74 u75 u76 u77 u78 u79 u80 u81 u82 u83 u84 u85 u86 u87 u88 u89 u90 u91 u92 u93 u94 u95 u96 u97 u98 u99 A0 A1 A2 A3 A4 A5 A6 A7 A8 A9 B0 B1 B2 B3 B4 B5 B6 B7 B8 B9 C0 C1 C2 C3 C4 C5 C6 C7 C8 C9 D0 D1 D2 D3 D4 D5 D6 D7 D8 D9 E0 E1 E2 E3 E4 E5 E6 E7 E8 E9 F0 F1 F2 F3 F4 F5 F6 F7 F8 F9 G0 G3 G4 G5 G6 G7 G8 G9 H0 H1 H2 H3 H4 H5 H6 H7 H8 H9 I0 I1 I2 I3 I4 I5 I6 I7 I8 I9 J0 J1 J2 J3 J4 J5 J6 J7 J8 J9 K0 K1 K2 K3 K4 K5 K6 K7 K8 K9 L0 L1 L2 L3 L4 L5 L6 L7 L8 L9 M0 M1 M2 M3 M4 M5 M6 M7 M8 M9 N0 N1 N2 N3 N4 N5 N6 N7 N8 N9 O0 O1 O2 O3 O4 O5 O6 O7 O8 O9 P0 P1 P2 P3 P4 P5 P6 P7 P8 P9 Q0 Q1 Q2 Q3 Q4 Q5 Q6 Q7 Q8 Q9 R0 R1 R2 R3 R4 R5 R6 R7 R8 R9 S0 S1 S2 S3 S4 S5 S6 S7 S8 S9 T0 T1 T2 T3 T4 T5 T6 T7 T8 T9 U0 U1 U2 U3 U4 U5 U6 U7 U8 U9 V0 V1 V2 V3 V4 V5 V6 V7 V8 V9 W1 W2 W3 W4 W5 W6 W7 W8 W9 X0 X1 X2 X3 X4 X5 X6 X7 X8 X9 Y0 Y1 Y2 Y3 : Value}
  (hQ : Q .normal ⟨#[u0,u1, .pointer (some ⟨G1, 0, none⟩), .pointer (some ⟨G2, 0, none⟩), u4,u5,u6,u7,u8, .int .i64 (k : Nat), u10,u11,u12,u13,u14,u15,u16,u17,u18,u19,u20,u21,u22,u23,u24,u25,u26,u27,u28,u29,u30,u31,u32,u33,u34,u35,u36,u37,u38,u39,u40,u41,u42,u43,u44,u45,u46,u47,u48,u49,u50,u51,u52,u53,u54,u55,u56,u57,u58,u59,u60,u61,u62,u63,u64,u65,u66,u67,u68,u69,u70,u71,u72,u73,u74,u75,u76,u77,u78,u79,u80,u81,u82,u83,u84,u85,u86,u87,u88,u89,u90,u91,u92,u93,u94,u95,u96,u97,u98,u99,A0,A1,A2,A3,A4,A5,A6,A7,A8,A9,B0,B1,B2,B3,B4,B5,B6,B7,B8,B9,C0,C1,C2,C3,C4,C5,C6,C7,C8,C9,D0,D1,D2,D3,D4,D5,D6,D7,D8,D9,E0,E1,E2,E3,E4,E5,E6,E7,E8,E9,F0,F1,F2,F3,F4,F5,F6,F7,F8,F9,G0,G3,G4,G5,G6,G7,G8,G9,H0,H1,H2, .pointer (some ⟨G1, 5, none⟩), .slice (some ⟨ba, oa, none⟩) n ca, .int .i64 (k : Nat), .pointer (some ⟨ba, oa + k * 3, none⟩), .agg C.toArray, .pointer (some ⟨G2, 5, none⟩), .slice (some ⟨bb, ob, none⟩) n cb, .int .i64 (k : Nat), .pointer (some ⟨bb, ob + k * 3, none⟩), .agg C.toArray, .bool false, I4,I5,I6,I7,I8,I9,J0,J1,J2,J3,J4,J5,J6,J7,J8,J9,K0,K1,K2,K3,K4,K5,K6,K7,K8,K9,L0,L1,L2,L3,L4,L5,L6,L7,L8,L9,M0,M1,M2,M3,M4,M5,M6,M7,M8,M9,N0,N1,N2,N3,N4,N5,N6,N7,N8,N9,O0,O1,O2,O3,O4,O5,O6,O7,O8,O9,P0,P1,P2,P3,P4,P5,P6,P7,P8,P9,Q0,Q1,Q2,Q3,Q4,Q5,Q6,Q7,Q8,Q9,R0,R1,R2,R3,R4,R5,R6,R7,R8,R9,S0,S1,S2,S3,S4,S5,S6,S7,S8,S9,T0,T1,T2,T3,T4,T5,T6,T7,T8,T9,U0,U1,U2,U3,U4,U5,U6,U7,U8,U9,V0,V1,V2,V3,V4,V5,V6,V7,V8,V9,W1,W2,W3,W4,W5,W6,W7,W8,W9,X0,X1,X2,X3,X4,X5,X6,X7,X8,X9,Y0,Y1,Y2,Y3], []⟩ W.drew) :
  Code.wp Tryz.prog (Code.region 20 ops12_20 true) Q ⟨#[u0,u1, .pointer (some ⟨G1, 0, none⟩), .pointer (some ⟨G2, 0, none⟩), u4,u5,u6,u7,u8, .int .i64 (k : Nat), u10,u11,u12,u13,u14,u15,u16,u17,u18,u19,u20,u21,u22,u23,u24,u25,u26,u27,u28,u29,u30,u31,u32,u33,u34,u35,u36,u37,u38,u39,u40,u41,u42,u43,u44,u45,u46,u47,u48,u49,u50,u51,u52,u53,u54,u55,u56,u57,u58,u59,u60,u61,u62,u63,u64,u65,u66,u67,u68,u69,u70,u71,u72,u73,u74,u75,u76,u77,u78,u79,u80,u81,u82,u83,u84,u85,u86,u87,u88,u89,u90,u91,u92,u93,u94,u95,u96,u97,u98,u99,A0,A1,A2,A3,A4,A5,A6,A7,A8,A9,B0,B1,B2,B3,B4,B5,B6,B7,B8,B9,C0,C1,C2,C3,C4,C5,C6,C7,C8,C9,D0,D1,D2,D3,D4,D5,D6,D7,D8,D9,E0,E1,E2,E3,E4,E5,E6,E7,E8,E9,F0,F1,F2,F3,F4,F5,F6,F7,F8,F9,G0,G3,G4,G5,G6,G7,G8,G9,H0,H1,H2,H3,H4,H5,H6,H7,H8,H9,I0,I1,I2,I3,I4,I5,I6,I7,I8,I9,J0,J1,J2,J3,J4,J5,J6,J7,J8,J9,K0,K1,K2,K3,K4,K5,K6,K7,K8,K9,L0,L1,L2,L3,L4,L5,L6,L7,L8,L9,M0,M1,M2,M3,M4,M5,M6,M7,M8,M9,N0,N1,N2,N3,N4,N5,N6,N7,N8,N9,O0,O1,O2,O3,O4,O5,O6,O7,O8,O9,P0,P1,P2,P3,P4,P5,P6,P7,P8,P9,Q0,Q1,Q2,Q3,Q4,Q5,Q6,Q7,Q8,Q9,R0,R1,R2,R3,R4,R5,R6,R7,R8,R9,S0,S1,S2,S3,S4,S5,S6,S7,S8,S9,T0,T1,T2,T3,T4,T5,T6,T7,T8,T9,U0,U1,U2,U3,U4,U5,U6,U7,U8,U9,V0,V1,V2,V3,V4,V5,V6,V7,V8,V9,W1,W2,W3,W4,W5,W6,W7,W8,W9,X0,X1,X2,X3,X4,X5,X6,X7,X8,X9,Y0,Y1,Y2,Y3], []⟩ W := by
 have hk1 : (k : Int) < n := by omega
 have hk2 : ¬ (k : Int) < 0 := by omega
 refine wp_region_held_drew (S := fun w' => w'.cell? ⟨G1, 5, none⟩ = some (.slice (some ⟨ba, oa, none⟩) n ca) ∧ w'.cell? ⟨G2, 5, none⟩ = some (.slice (some ⟨bb, ob, none⟩) n cb) ∧ w'.rangeAt ba (oa + k * 3) C ∧ w'.rangeAt bb (ob + k * 3) C) hmx hS (fun HSX => ?_)
 clear hS
 obtain ⟨W0, hW0⟩ : ∃ W0,W0 = W.drew := ⟨_, rfl⟩
 rw [← hW0] at HSX hQ ⊢
 clear hW0
 refine tk hPan (i := 0) (oi := ⟨some 171, Op.fieldAddr 36 (.tmp 2) 5, 0, "ref.go:433", #[], none⟩) (v := .pointer (some ⟨G1, 5, none⟩)) rfl (by kernel_rfl) (.inl ⟨by rfl, ?_⟩) HSX ?_
 ·intro wx d0
  obtain ⟨s1, s2, s3, s4⟩ := d0
  go_simp
 simp only [Act.put, sl0', sl1', sl2']
 refine tk hPan (i := 1) (oi := ⟨some 172, Op.load 26 (.tmp 171), 26, "ref.go:433", #[gd' 0], none⟩) (v := .slice (some ⟨ba, oa, none⟩) n ca) rfl (by kernel_rfl) (.inl ⟨by rfl, ?_⟩) HSX ?_
 ·intro wx d0
  obtain ⟨s1, s2, s3, s4⟩ := d0
  go_simp
 simp only [Act.put, sl0', sl1', sl2']
 refine tk hPan (i := 2) (oi := ⟨some 173, Op.move (.tmp 9), 3, "ref.go:433", #[], none⟩) (v := .int .i64 (k : Nat)) rfl (by kernel_rfl) (.inl ⟨by rfl, ?_⟩) HSX ?_
 ·intro wx d0
  obtain ⟨s1, s2, s3, s4⟩ := d0
  go_simp
 simp only [Act.put, sl0', sl1', sl2']
 refine tk hPan (i := 3) (oi := ⟨some 174, Op.indexAddr 26 (.tmp 172) (.tmp 173), 0, "ref.go:433", #[gd' 1, gd' 2], none⟩) (v := .pointer (some ⟨ba, oa + k * 3, none⟩)) rfl (by kernel_rfl) (.inl ⟨by rfl, ?_⟩) HSX ?_
 ·intro wx d0
  obtain ⟨s1, s2, s3, s4⟩ := d0
  go_simp
  try (intro hge; omega)
 simp only [Act.put, sl0', sl1', sl2']
 refine tk hPan (i := 4) (oi := ⟨some 175, Op.load 105 (.tmp 174), 105, "ref.go:433", #[gd' 3], none⟩) (v := .agg C.toArray) rfl (by kernel_rfl) (yieldsIf_load_mid (by rfl) 105 (.tmp 174) rfl ba (oa + k * 3) rfl C _ (fun w h => h.2.2.1) Tryz.underlying105 rfl hC) HSX ?_
 simp only [Act.put, sl0', sl1', sl2']
 refine tk hPan (i := 5) (oi := ⟨some 176, Op.fieldAddr 36 (.tmp 3) 5, 0, "ref.go:433", #[], none⟩) (v := .pointer (some ⟨G2, 5, none⟩)) rfl (by kernel_rfl) (.inl ⟨by rfl, ?_⟩) HSX ?_
 ·intro wx d0
  obtain ⟨s1, s2, s3, s4⟩ := d0
  go_simp
 simp only [Act.put, sl0', sl1', sl2']
 refine tk hPan (i := 6) (oi := ⟨some 177, Op.load 26 (.tmp 176), 26, "ref.go:433", #[gd' 5], none⟩) (v := .slice (some ⟨bb, ob, none⟩) n cb) rfl (by kernel_rfl) (.inl ⟨by rfl, ?_⟩) HSX ?_
 ·intro wx d0
  obtain ⟨s1, s2, s3, s4⟩ := d0
  go_simp
 simp only [Act.put, sl0', sl1', sl2']
 refine tk hPan (i := 7) (oi := ⟨some 178, Op.move (.tmp 9), 3, "ref.go:433", #[], none⟩) (v := .int .i64 (k : Nat)) rfl (by kernel_rfl) (.inl ⟨by rfl, ?_⟩) HSX ?_
 ·intro wx d0
  obtain ⟨s1, s2, s3, s4⟩ := d0
  go_simp
 simp only [Act.put, sl0', sl1', sl2']
 refine tk hPan (i := 8) (oi := ⟨some 179, Op.indexAddr 26 (.tmp 177) (.tmp 178), 0, "ref.go:433", #[gd' 6, gd' 7], none⟩) (v := .pointer (some ⟨bb, ob + k * 3, none⟩)) rfl (by kernel_rfl) (.inl ⟨by rfl, ?_⟩) HSX ?_
 ·intro wx d0
  obtain ⟨s1, s2, s3, s4⟩ := d0
  go_simp
  try (intro hge; omega)
 simp only [Act.put, sl0', sl1', sl2']
 refine tk hPan (i := 9) (oi := ⟨some 180, Op.load 105 (.tmp 179), 105, "ref.go:433", #[gd' 8], none⟩) (v := .agg C.toArray) rfl (by kernel_rfl) (yieldsIf_load_mid (by rfl) 105 (.tmp 179) rfl bb (ob + k * 3) rfl C _ (fun w h => h.2.2.2) Tryz.underlying105 rfl hC) HSX ?_
 simp only [Act.put, sl0', sl1', sl2']
 refine tk hPan (i := 10) (oi := ⟨some 181, Op.binOp BinOp.neq 105 (.tmp 175) (.tmp 180) 105, 4, "ref.go:433", #[gd' 4, gd' 9], none⟩) (v := .bool false) rfl (by kernel_rfl) (.inl ⟨by rfl, ?_⟩) HSX ?_
 ·intro wx d0
  simp only [execOp, Act.eval]
  simp [eqg105, hq]
 simp only [Act.put, sl0', sl1', sl2']
 refine wpAnyH_done (by kernel_rfl) ?_ _
 exact hQ
def ops12_25 : Array Oper := #[⟨some 189, Op.fieldAddr 36 (.tmp 2) 6, 0, "ref.go:438", #[], none⟩,
 ⟨some 190, Op.load 27 (.tmp 189), 27, "ref.go:438", #[gd' 0], none⟩,
 ⟨some 191, Op.move (.tmp 10), 3, "ref.go:438", #[], none⟩,
 ⟨some 192, Op.indexAddr 27 (.tmp 190) (.tmp 191), 0, "ref.go:438", #[gd' 1, gd' 2], none⟩,
 ⟨some 193, Op.load 112 (.tmp 192), 112, "ref.go:438", #[gd' 3], none⟩,
 ⟨some 194, Op.fieldAddr 36 (.tmp 3) 6, 0, "ref.go:438", #[], none⟩,
 ⟨some 195, Op.load 27 (.tmp 194), 27, "ref.go:438", #[gd' 5], none⟩,
 ⟨some 196, Op.move (.tmp 10), 3, "ref.go:438", #[], none⟩,
 ⟨some 197, Op.indexAddr 27 (.tmp 195) (.tmp 196), 0, "ref.go:438", #[gd' 6, gd' 7], none⟩,
 ⟨some 198, Op.load 112 (.tmp 197), 112, "ref.go:438", #[gd' 8], none⟩,
 ⟨some 199, Op.binOp BinOp.neq 112 (.tmp 193) (.tmp 198) 112, 4, "ref.go:438", #[gd' 4, gd' 9], none⟩]
set_option maxHeartbeats 8000000 in
set_option maxRecDepth 100000 in
theorem reg12_25 (W : World) (G1 G2 ba oa bb ob n ca cb k : Nat) (hk : k < n) (C : List Value) (hC : (Tryz.prog.info? 112).map (·.size) = some C.length) (hq : ∀ w, (binOp .neq 112 (.agg C.toArray) (.agg C.toArray)).run Tryz.prog w = .ok (.bool false) w) (hS : (fun w' => w'.cell? ⟨G1, 6, none⟩ = some (.slice (some ⟨ba, oa, none⟩) n ca) ∧ w'.cell? ⟨G2, 6, none⟩ = some (.slice (some ⟨bb, ob, none⟩) n cb) ∧ w'.rangeAt ba (oa + k * 4) C ∧ w'.rangeAt bb (ob + k * 4) C) W.drew)
  (Q : Exit → Act → World → Prop) (hPan : ∀ c (a : Act) w (d : Option Tmp) v, Q (.panic c) (a.put d v) w → Q (.panic c) a w) {u0 u1 u4 u5 u6 u7 u8 u9 u11 u12 u13 u14 u15 u16 u17 u18 u19 u20 u21 u22 u23 u24 u25 u26 u27 u28 u29 u30 u31 u32 u33 u34 u35 u36 u37 u38 u39 u40 u41 u42 u43 u44 u45 u46 u47 u48 u49 u50 u51 u52 u53 u54 u55 u56 u57 u58 u59 u60 u61 u62 u63 u64 u65 u66 u67 u68 u69 u70 u71 u72 u73 u74 u75 u76 u77 u78 u79 u80 u81 u82 u83 u84 u85 u86 u87 u88 u89 u90 u91 u92 u93 u94 u95 u96 u97 u98 u99 A0 A1 A2 A3 A4 A5 A6 A7 A8 A9 B0 B1 B2 B3 B4 B5 B6 B7 B8 B9 C0 C1 C2 C3 C4 C5 C6 C7 C8 C9 D0 D1 D2 D3 D4 D5 D6 D7 D8 D9 E0 E1 E2 E3 E4 E5 E6 E7 E8 E9 F0 F1 F2 F3 F4 F5 F6 F7 F8 F9 G0 G3 G4 G5 G6 G7 G8 G9 H0 H1 H2 H3 H4 H5 H6 H7 H8 H9 I0 I1 I2 I3 I4 I5 I6 I7 I8 I9 J0 J1 J2 J3 J4 J5 J6 J7 J8 J9 K0 K1 K2 K3 K4 K5 K6 K7 K8 K9 L0 L1 L2 L3 L4 L5 L6 L7 L8 L9 M0 M1 M2 M3 M4 M5 M6 M7 M8 M9 N0 N1 N2 N3 N4 N5 N6 N7 N8 N9 O0 O1 O2 O3 O4 O5 O6 O7 O8 O9 P0 P1 P2 P3 P4 P5 P6 P7 P8 P9 Q0 Q1 Q2 Q3 Q4 Q5 Q6 Q7 Q8 Q9 R0 R1 R2 R3 R4 R5 R6 R7 R8 R9 S0 S1 S2 S3 S4 S5 S6 S7 S8 S9 T0 T1 T2 T3 T4 T5 T6 T7 T8 T9 U0 U1 U2 U3 U4 U5 U6 U7 U8 U9 V0 V1 V2 V3 V4 V5 V6 V7 V8 V9 W1 W2 W3 W4 W5 W6 W7 W8 W9 X0 X1 X2 X3 X4 X5 X6 X7 X8 X9 Y0 Y1 Y2 Y3 : Value}
  (hQ : Q .normal ⟨#[u0,u1, .pointer (some ⟨G1, 0, none⟩), .pointer (some ⟨G2, 0, none⟩), u4,u5,u6,u7,u8,u9, .int .i64 (k : Nat), u11,u12,u13,u14,u15,u16,u17,u18,u19,u20,u21,u22,u23,u24,u25,u26,u27,u28,u29,u30,u31,u32,u33,u34,u35,u36,u37,u38,u39,u40,u41,u42,u43,u44,u45,u46,u47,u48,u49,u50,u51,u52,u53,u54,u55,u56,u57,u58,u59,u60,u61,u62,u63,u64,u65,u66,u67,u68,u69,u70,u71,u72,u73,u74,u75,u76,u77,u78,u79,u80,u81,u82,u83,u84,u85,u86,u87,u88,u89,u90,u91,u92,u93,u94,u95,u96,u97,u98,u99,A0,A1,A2,A3,A4,A5,A6,A7,A8,A9,B0,B1,B2,B3,B4,B5,B6,B7,B8,B9,C0,C1,C2,C3,C4,C5,C6,C7,C8,C9,D0,D1,D2,D3,D4,D5,D6,D7,D8,D9,E0,E1,E2,E3,E4,E5,E6,E7,E8,E9,F0,F1,F2,F3,F4,F5,F6,F7,F8,F9,G0,G3,G4,G5,G6,G7,G8,G9,H0,H1,H2,H3,H4,H5,H6,H7,H8,H9,I0,I1,I2,I3,I4,I5,I6,I7,I8,I9,J0, .pointer (some ⟨G1, 6, none⟩), .slice (some ⟨ba, oa, none⟩) n ca, .int .i64 (k : Nat), .pointer (some ⟨ba, oa + k * 4, none⟩), .agg C.toArray, .pointer (some ⟨G2, 6, none⟩), .slice (some ⟨bb, ob, none⟩) n cb, .int .i64 (k : Nat), .pointer (some ⟨bb, ob + k * 4, none⟩), .agg C.toArray, .bool false, K2,K3,K4,K5,K6,K7,K8,K9,L0,L1,L2,L3,L4,L5,L6,L7,L8,L9,M0,M1,M2,M3,M4,M5,M6,M7,M8,M9,N0,N1,N2,N3,N4,N5,N6,N7,N8,N9,O0,O1,O2,O3,O4,O5,O6,O7,O8,O9,P0,P1,P2,P3,P4,P5,P6,P7,P8,P9,Q0,Q1,Q2,Q3,Q4,Q5,Q6,Q7,Q8,Q9,R0,R1,R2,R3,R4,R5,R6,R7,R8,R9,S0,S1,S2,S3,S4,S5,S6,S7,S8,S9,T0,T1,T2,T3,T4,T5,T6,T7,T8,T9,U0,U1,U2,U3,U4,U5,U6,U7,U8,U9,V0,V1,V2,V3,V4,V5,V6,V7,V8,V9,W1,W2,W3,W4,W5,W6,W7,W8,W9,X0,X1,X2,X3,X4,X5,X6,X7,X8,X9,Y0,Y1,Y2,Y3], []⟩ W.drew) :
  Code.wp Tryz.prog (Code.region 25 ops12_25 true) Q ⟨#[u0,u1, .pointer (some ⟨G1, 0, none⟩), .pointer (some ⟨G2, 0, none⟩), u4,u5,u6,u7,u8,u9, .int .i64 (k : Nat), u11,u12,u13,u14,u15,u16,u17,u18,u19,u20,u21,u22,u23,u24,u25,u26,u27,u28,u29,u30,u31,u32,u33,u34,u35,u36,u37,u38,u39,u40,u41,u42,u43,u44,u45,u46,u47,u48,u49,u50,u51,u52,u53,u54,u55,u56,u57,u58,u59,u60,u61,u62,u63,u64,u65,u66,u67,u68,u69,u70,u71,u72,u73,u74,u75,u76,u77,u78,u79,u80,u81,u82,u83,u84,u85,u86,u87,u88,u89,u90,u91,u92,u93,u94,u95,u96,u97,u98,u99,A0,A1,A2,A3,A4,A5,A6,A7,A8,A9,B0,B1,B2,B3,B4,B5,B6,B7,B8,B9,C0,C1,C2,C3,C4,C5,C6,C7,C8,C9,D0,D1,D2,D3,D4,D5,D6,D7,D8,D9,E0,E1,E2,E3,E4,E5,E6,E7,E8,E9,F0,F1,F2,F3,F4,F5,F6,F7,F8,F9,G0,G3,G4,G5,G6,G7,G8,G9,H0,H1,H2,H3,H4,H5,H6,H7,H8,H9,I0,I1,I2,I3,I4,I5,I6,I7,I8,I9,J0,J1,J2,J3,J4,J5,J6,J7,J8,J9,K0,K1,K2,K3,K4,K5,K6,K7,K8,K9,L0,L1,L2,L3,L4,L5,L6,L7,L8,L9,M0,M1,M2,M3,M4,M5,M6,M7,M8,M9,N0,N1,N2,N3,N4,N5,N6,N7,N8,N9,O0,O1,O2,O3,O4,O5,O6,O7,O8,O9,P0,P1,P2,P3,P4,P5,P6,P7,P8,P9,Q0,Q1,Q2,Q3,Q4,Q5,Q6,Q7,Q8,Q9,R0,R1,R2,R3,R4,R5,R6,R7,R8,R9,S0,S1,S2,S3,S4,S5,S6,S7,S8,S9,T0,T1,T2,T3,T4,T5,T6,T7,T8,T9,U0,U1,U2,U3,U4,U5,U6,U7,U8,U9,V0,V1,V2,V3,V4,V5,V6,V7,V8,V9,W1,W2,W3,W4,W5,W6,W7,W8,W9,X0,X1,X2,X3,X4,X5,X6,X7,X8,X9,Y0,Y1,Y2,Y3], []⟩ W := by
 have hk1 : (k : Int) < n := by omega
 have hk2 : ¬ (k : Int) < 0 := by omega
 refine wp_region_held_drew (S := fun w' => w'.cell? ⟨G1, 6, none⟩ = some (.slice (some ⟨ba, oa, none⟩) n ca) ∧ w'.cell? ⟨G2, 6, none⟩ = some (.slice (some ⟨bb, ob, none⟩) n cb) ∧ w'.rangeAt ba (oa + k * 4) C ∧ w'.rangeAt bb (ob + k * 4) C) hmx hS (fun HSX => ?_)
 clear hS
 obtain ⟨W0, hW0⟩ : ∃ W0,W0 = W.drew := ⟨_, rfl⟩
 rw [← hW0] at HSX hQ ⊢
 clear hW0
 refine tk hPan (i := 0) (oi := ⟨some 189, Op.fieldAddr 36 (.tmp 2) 6, 0, "ref.go:438", #[], none⟩) (v := .pointer (some ⟨G1, 6, none⟩)) rfl (by kernel_rfl) (.inl ⟨by rfl, ?_⟩) HSX ?_
 ·intro wx d0
  obtain ⟨s1, s2, s3, s4⟩ := d0
  go_simp
 simp only [Act.put, sl0', sl1', sl2']
 refine tk hPan (i := 1) (oi := ⟨some 190, Op.load 27 (.tmp 189), 27, "ref.go:438", #[gd' 0], none⟩) (v := .slice (some ⟨ba, oa, none⟩) n ca) rfl (by kernel_rfl) (.inl ⟨by rfl, ?_⟩) HSX ?_
 ·intro wx d0
  obtain ⟨s1, s2, s3, s4⟩ := d0
  go_simp
 simp only [Act.put, sl0', sl1', sl2']
 refine tk hPan (i := 2) (oi := ⟨some 191, Op.move (.tmp 10), 3, "ref.go:438", #[], none⟩) (v := .int .i64 (k : Nat)) rfl (by kernel_rfl) (.inl ⟨by rfl, ?_⟩) HSX ?_
 ·intro wx d0
  obtain ⟨s1, s2, s3, s4⟩ := d0
  go_simp
 simp only [Act.put, sl0', sl1', sl2']
 refine tk hPan (i := 3) (oi := ⟨some 192, Op.indexAddr 27 (.tmp 190) (.tmp 191), 0, "ref.go:438", #[gd' 1, gd' 2], none⟩) (v := .pointer (some ⟨ba, oa + k * 4, none⟩)) rfl (by kernel_rfl) (.inl ⟨by rfl, ?_⟩) HSX ?_
 ·intro wx d0
  obtain ⟨s1, s2, s3, s4⟩ := d0
  go_simp
  try (intro hge; omega)
 simp only [Act.put, sl0', sl1', sl2']
 refine tk hPan (i := 4) (oi := ⟨some 193, Op.load 112 (.tmp 192), 112, "ref.go:438", #[gd' 3], none⟩) (v := .agg C.toArray) rfl (by kernel_rfl) (yieldsIf_load_mid (by rfl) 112 (.tmp 192) rfl ba (oa + k * 4) rfl C _ (fun w h => h.2.2.1) Tryz.underlying112 rfl hC) HSX ?_
 simp only [Act.put, sl0', sl1', sl2']
 refine tk hPan (i := 5) (oi := ⟨some 194, Op.fieldAddr 36 (.tmp 3) 6, 0, "ref.go:438", #[], none⟩) (v := .pointer (some ⟨G2, 6, none⟩)) rfl (by kernel_rfl) (.inl ⟨by rfl, ?_⟩) HSX ?_
 ·intro wx d0
  obtain ⟨s1, s2, s3, s4⟩ := d0
  go_simp
 simp only [Act.put, sl0', sl1', sl2']
 refine tk hPan (i := 6) (oi := ⟨some 195, Op.load 27 (.tmp 194), 27, "ref.go:438", #[gd' 5], none⟩) (v := .slice (some ⟨bb, ob, none⟩) n cb) rfl (by kernel_rfl) (.inl ⟨by rfl, ?_⟩) HSX ?_
 ·intro wx d0
  obtain ⟨s1, s2, s3, s4⟩ := d0
  go_simp
 simp only [Act.put, sl0', sl1', sl2']
 refine tk hPan (i := 7) (oi := ⟨some 196, Op.move (.tmp 10), 3, "ref.go:438", #[], none⟩) (v := .int .i64 (k : Nat)) rfl (by kernel_rfl) (.inl ⟨by rfl, ?_⟩) HSX ?_
 ·intro wx d0
  obtain ⟨s1, s2, s3, s4⟩ := d0
  go_simp
 simp only [Act.put, sl0', sl1', sl2']
 refine tk hPan (i := 8) (oi := ⟨some 197, Op.indexAddr 27 (.tmp 195) (.tmp 196), 0, "ref.go:438", #[gd' 6, gd' 7], none⟩) (v := .pointer (some ⟨bb, ob + k * 4, none⟩)) rfl (by kernel_rfl) (.inl ⟨by rfl, ?_⟩) HSX ?_
 ·intro wx d0
  obtain ⟨s1, s2, s3, s4⟩ := d0
  go_simp
  try (intro hge; omega)
 simp only [Act.put, sl0', sl1', sl2']
 refine tk hPan (i := 9) (oi := ⟨some 198, Op.load 112 (.tmp 197), 112, "ref.go:438", #[gd' 8], none⟩) (v := .agg C.toArray) rfl (by kernel_rfl) (yieldsIf_load_mid (by rfl) 112 (.tmp 197) rfl bb (ob + k * 4) rfl C _ (fun w h => h.2.2.2) Tryz.underlying112 rfl hC) HSX ?_
 simp only [Act.put, sl0', sl1', sl2']
 refine tk hPan (i := 10) (oi := ⟨some 199, Op.binOp BinOp.neq 112 (.tmp 193) (.tmp 198) 112, 4, "ref.go:438", #[gd' 4, gd' 9], none⟩) (v := .bool false) rfl (by kernel_rfl) (.inl ⟨by rfl, ?_⟩) HSX ?_
 ·intro wx d0
  simp only [execOp, Act.eval]
  simp [eqg112, hq]
 simp only [Act.put, sl0', sl1', sl2']
 refine wpAnyH_done (by kernel_rfl) ?_ _
 exact hQ
def ops12_46 : Array Oper := #[⟨some 330, Op.fieldAddr 36 (.tmp 2) 10, 0, "ref.go:459", #[], none⟩,
 ⟨some 331, Op.load 34 (.tmp 330), 34, "ref.go:459", #[gd' 0], none⟩,
 ⟨some 332, Op.move (.tmp 19), 3, "ref.go:459", #[], none⟩,
 ⟨some 333, Op.indexAddr 34 (.tmp 331) (.tmp 332), 0, "ref.go:459", #[gd' 1, gd' 2], none⟩,
 ⟨some 334, Op.load 117 (.tmp 333), 117, "ref.go:459", #[gd' 3], none⟩,
 ⟨some 335, Op.fieldAddr 36 (.tmp 3) 10, 0, "ref.go:459", #[], none⟩,
 ⟨some 336, Op.load 34 (.tmp 335), 34, "ref.go:459", #[gd' 5], none⟩,
 ⟨some 337, Op.move (.tmp 19), 3, "ref.go:459", #[], none⟩,
 ⟨some 338, Op.indexAddr 34 (.tmp 336) (.tmp 337), 0, "ref.go:459", #[gd' 6, gd' 7], none⟩,
 ⟨some 339, Op.load 117 (.tmp 338), 117, "ref.go:459", #[gd' 8], none⟩,
 ⟨some 340, Op.binOp BinOp.neq 117 (.tmp 334) (.tmp 339) 117, 4, "ref.go:459", #[gd' 4, gd' 9], none⟩]
set_option maxHeartbeats 8000000 in
set_option maxRecDepth 100000 in
theorem reg12_46 (W : World) (G1 G2 ba oa bb ob n ca cb k : Nat) (hk : k < n) (C : List Value) (hC : (Tryz.prog.info? 117).map (·.size) = some C.length) (hq : ∀ w, (binOp .neq 117 (.agg C.toArray) (.agg C.toArray)).run Tryz.prog w = .ok (.bool false) w) (hS : (fun w' => w'.cell? ⟨G1, 43, none⟩ = some (.slice (some ⟨ba, oa, none⟩) n ca) ∧ w'.cell? ⟨G2, 43, none⟩ = some (.slice (some ⟨bb, ob, none⟩) n cb) ∧ w'.rangeAt ba (oa + k * 2) C ∧ w'.rangeAt bb (ob + k * 2) C) W.drew)
  (Q : Exit → Act → World → Prop) (hPan : ∀ c (a : Act) w (d : Option Tmp) v, Q (.panic c) (a.put d v) w → Q (.panic c) a w) {u0 u1 u4 u5 u6 u7 u8 u9 u10 u11 u12 u13 u14 u15 u16 u17 u18 u20 u21 u22 u23 u24 u25 u26 u27 u28 u29 u30 u31 u32 u33 u34 u35 u36 u37 u38 u39 u40 u41 u42 u43 u44 u45 u46 u47 u48 u49 u50 u51 u52 u53 u54 u55 u56 u57 u58 u59 u60 u61 u62 u63 u64 u65 u66 u67 u68 u69 u70 u71 u72 u73 u74 u75 u76 u77 u78 u79 u80 u81 u82 u83 u84 u85 u86 u87 u88 u89 u90 u91 u92 u93 u94 u95 u96 u97 u98 u99 A0 A1 A2 A3 A4 A5 A6 A7 A8 A9 B0 B1 B2 B3 B4 B5 B6 B7 B8 B9 C0 C1 C2 C3 C4 C5 C6 C7 C8 C9 D0 D1 D2 D3 D4 D5 D6 D7 D8 D9 E0 E1 E2 E3 E4 E5 E6 E7 E8 E9 F0 F1 F2 F3 F4 F5 F6 F7 F8 F9 G0 G3 G4 G5 G6 G7 G8 G9 H0 H1 H2 H3 H4 H5 H6 H7 H8 H9 I0 I1 I2 I3 I4 I5 I6 I7 I8 I9 J0 J1 J2 J3 J4 J5 J6 J7 J8 J9 K0 K1 K2 K3 K4 K5 K6 K7 K8 K9 L0 L1 L2 L3 L4 L5 L6 L7 L8 L9 M0 M1 M2 M3 M4 M5 M6 M7 M8 M9 N0 N1 N2 N3 N4 N5 N6 N7 N8 N9 O0 O1 O2 O3 O4 O5 O6 O7 O8 O9 P0 P1 P2 P3 P4 P5 P6 P7 P8 P9 Q0 Q1 Q2 Q3 Q4 Q5 Q6 Q7 Q8 Q9 R0 R1 R2 R3 R4 R5 R6 R7 R8 R9 S0 S1 S2 S3 S4 S5 S6 S7 S8 S9 T0 T1 T2 T3 T4 T5 T6 T7 T8 T9 U0 U1 U2 U3 U4 U5 U6 U7 U8 U9 V0 V1 V2 V3 V4 V5 V6 V7 V8 V9 W1 W2 W3 W4 W5 W6 W7 W8 W9 X0 X1 X2 X3 X4 X5 X6 X7 X8 X9 Y0 Y1 Y2 Y3 : Value}
  (hQ : Q .normal ⟨#[u0,u1, .pointer (some ⟨G1, 0, none⟩), .pointer (some ⟨G2, 0, none⟩), u4,u5,u6,u7,u8,u9,u10,u11,u12,u13,u14,u15,u16,u17,u18, .int .i64 (k : Nat), u20,u21,u22,u23,u24,u25,u26,u27,u28,u29,u30,u31,u32,u33,u34,u35,u36,u37,u38,u39,u40,u41,u42,u43,u44,u45,u46,u47,u48,u49,u50,u51,u52,u53,u54,u55,u56,u57,u58,u59,u60,u61,u62,u63,u64,u65,u66,u67,u68,u69,u70,u71,u72,u73,u74,u75,u76,u77,u78,u79,u80,u81,u82,u83,u84,u85,u86,u87,u88,u89,u90,u91,u92,u93,u94,u95,u96,u97,u98,u99,A0,A1,A2,A3,A4,A5,A6,A7,A8,A9,B0,B1,B2,B3,B4,B5,B6,B7,B8,B9,C0,C1,C2,C3,C4,C5,C6,C7,C8,C9,D0,D1,D2,D3,D4,D5,D6,D7,D8,D9,E0,E1,E2,E3,E4,E5,E6,E7,E8,E9,F0,F1,F2,F3,F4,F5,F6,F7,F8,F9,G0,G3,G4,G5,G6,G7,G8,G9,H0,H1,H2,H3,H4,H5,H6,H7,H8,H9,I0,I1,I2,I3,I4,I5,I6,I7,I8,I9,J0,J1,J2,J3,J4,J5,J6,J7,J8,J9,K0,K1,K2,K3,K4,K5,K6,K7,K8,K9,L0,L1,L2,L3,L4,L5,L6,L7,L8,L9,M0,M1,M2,M3,M4,M5,M6,M7,M8,M9,N0,N1,N2,N3,N4,N5,N6,N7,N8,N9,O0,O1,O2,O3,O4,O5,O6,O7,O8,O9,P0,P1,P2,P3,P4,P5,P6,P7,P8,P9,Q0,Q1,Q2,Q3,Q4,Q5,Q6,Q7,Q8,Q9,R0,R1,R2,R3,R4,R5,R6,R7,R8,R9,S0,S1,S2,S3,S4,S5,S6,S7,S8,S9,T0,T1,T2,T3,T4,T5,T6,T7,T8,T9,U0,U1,U2,U3,U4,U5,U6,U7,U8,U9,V0,V1,V2,V3,V4,V5,V6,V7,V8,V9,W1,W2,W3,W4,W5,W6,W7,W8,W9,X0,X1,X2, .pointer (some ⟨G1, 43, none⟩), .slice (some ⟨ba, oa, none⟩) n ca, .int .i64 (k : Nat), .pointer (some ⟨ba, oa + k * 2, none⟩), .agg C.toArray, .pointer (some ⟨G2, 43, none⟩), .slice (some ⟨bb, ob, none⟩) n cb, .int .i64 (k : Nat), .pointer (some ⟨bb, ob + k * 2, none⟩), .agg C.toArray, .bool false], []⟩ W.drew) :
  Code.wp Tryz.prog (Code.region 46 ops12_46 true) Q ⟨#[u0,u1, .pointer (some ⟨G1, 0, none⟩), .pointer (some ⟨G2, 0, none⟩), u4,u5,u6,u7,u8,u9,u10,u11,u12,u13,u14,u15,u16,u17,u18, .int .i64 (k : Nat), u20,u21,u22,u23,u24,u25,u26,u27,u28,u29,u30,u31,u32,u33,u34,u35,u36,u37,u38,u39,u40,u41,u42,u43,u44,u45,u46,u47,u48,u49,u50,u51,u52,u53,u54,u55,u56,u57,u58,u59,u60,u61,u62,u63,u64,u65,u66,u67,u68,u69,u70,u71,u72,u73,u74,u75,u76,u77,u78,u79,u80,u81,u82,u83,u84,u85,u86,u87,u88,u89,u90,u91,u92,u93,u94,u95,u96,u97,u98,u99,A0,A1,A2,A3,A4,A5,A6,A7,A8,A9,B0,B1,B2,B3,B4,B5,B6,B7,B8,B9,C0,C1,C2,C3,C4,C5,C6,C7,C8,C9,D0,D1,D2,D3,D4,D5,D6,D7,D8,D9,E0,E1,E2,E3,E4,E5,E6,E7,E8,E9,F0,F1,F2,F3,F4,F5,F6,F7,F8,F9,G0,G3,G4,G5,G6,G7,G8,G9,H0,H1,H2,H3,H4,H5,H6,H7,H8,H9,I0,I1,I2,I3,I4,I5,I6,I7,I8,I9,J0,J1,J2,J3,J4,J5,J6,J7,J8,J9,K0,K1,K2,K3,K4,K5,K6,K7,K8,K9,L0,L1,L2,L3,L4,L5,L6,L7,L8,L9,M0,M1,M2,M3,M4,M5,M6,M7,M8,M9,N0,N1,N2,N3,N4,N5,N6,N7,N8,N9,O0,O1,O2,O3,O4,O5,O6,O7,O8,O9,P0,P1,P2,P3,P4,P5,P6,P7,P8,P9,Q0,Q1,Q2,Q3,Q4,Q5,Q6,Q7,Q8,Q9,R0,R1,R2,R3,R4,R5,R6,R7,R8,R9,S0,S1,S2,S3,S4,S5,S6,S7,S8,S9,T0,T1,T2,T3,T4,T5,T6,T7,T8,T9,U0,U1,U2,U3,U4,U5,U6,U7,U8,U9,V0,V1,V2,V3,V4,V5,V6,V7,V8,V9,W1,W2,W3,W4,W5,W6,W7,W8,W9,X0,X1,X2,X3,X4,X5,X6,X7,X8,X9,Y0,Y1,Y2,Y3], []⟩ W := by
 have hk1 : (k : Int) < n := by omega
 have hk2 : ¬ (k : Int) < 0 := by omega
 refine wp_region_held_drew (S := fun w' => w'.cell? ⟨G1, 43, none⟩ = some (.slice (some ⟨ba, oa, none⟩) n ca) ∧ w'.cell? ⟨G2, 43, none⟩ = some (.slice (some ⟨bb, ob, none⟩) n cb) ∧ w'.rangeAt ba (oa + k * 2) C ∧ w'.rangeAt bb (ob + k * 2) C) hmx hS (fun HSX => ?_)
 clear hS
 obtain ⟨W0, hW0⟩ : ∃ W0,W0 = W.drew := ⟨_, rfl⟩
 rw [← hW0] at HSX hQ ⊢
 clear hW0
 refine tk hPan (i := 0) (oi := ⟨some 330, Op.fieldAddr 36 (.tmp 2) 10, 0, "ref.go:459", #[], none⟩) (v := .pointer (some ⟨G1, 43, none⟩)) rfl (by kernel_rfl) (.inl ⟨by rfl, ?_⟩) HSX ?_
 ·intro wx d0
  obtain ⟨s1, s2, s3, s4⟩ := d0
  go_simp
 simp only [Act.put, sl0', sl1', sl2']
 refine tk hPan (i := 1) (oi := ⟨some 331, Op.load 34 (.tmp 330), 34, "ref.go:459", #[gd' 0], none⟩) (v := .slice (some ⟨ba, oa, none⟩) n ca) rfl (by kernel_rfl) (.inl ⟨by rfl, ?_⟩) HSX ?_
 ·intro wx d0
  obtain ⟨s1, s2, s3, s4⟩ := d0
  go_simp
 simp only [Act.put, sl0', sl1', sl2']
 refine tk hPan (i := 2) (oi := ⟨some 332, Op.move (.tmp 19), 3, "ref.go:459", #[], none⟩) (v := .int .i64 (k : Nat)) rfl (by kernel_rfl) (.inl ⟨by rfl, ?_⟩) HSX ?_
 ·intro wx d0
  obtain ⟨s1, s2, s3, s4⟩ := d0
  go_simp
 simp only [Act.put, sl0', sl1', sl2']
 refine tk hPan (i := 3) (oi := ⟨some 333, Op.indexAddr 34 (.tmp 331) (.tmp 332), 0, "ref.go:459", #[gd' 1, gd' 2], none⟩) (v := .pointer (some ⟨ba, oa + k * 2, none⟩)) rfl (by kernel_rfl) (.inl ⟨by rfl, ?_⟩) HSX ?_
 ·intro wx d0
  obtain ⟨s1, s2, s3, s4⟩ := d0
  go_simp
  try (intro hge; omega)
 simp only [Act.put, sl0', sl1', sl2']
 refine tk hPan (i := 4) (oi := ⟨some 334, Op.load 117 (.tmp 333), 117, "ref.go:459", #[gd' 3], none⟩) (v := .agg C.toArray) rfl (by kernel_rfl) (yieldsIf_load_mid (by rfl) 117 (.tmp 333) rfl ba (oa + k * 2) rfl C _ (fun w h => h.2.2.1) Tryz.underlying117 rfl hC) HSX ?_
 simp only [Act.put, sl0', sl1', sl2']
 refine tk hPan (i := 5) (oi := ⟨some 335, Op.fieldAddr 36 (.tmp 3) 10, 0, "ref.go:459", #[], none⟩) (v := .pointer (some ⟨G2, 43, none⟩)) rfl (by kernel_rfl) (.inl ⟨by rfl, ?_⟩) HSX ?_
 ·intro wx d0
  obtain ⟨s1, s2, s3, s4⟩ := d0
  go_simp
 simp only [Act.put, sl0', sl1', sl2']
 refine tk hPan (i := 6) (oi := ⟨some 336, Op.load 34 (.tmp 335), 34, "ref.go:459", #[gd' 5], none⟩) (v := .slice (some ⟨bb, ob, none⟩) n cb) rfl (by kernel_rfl) (.inl ⟨by rfl, ?_⟩) HSX ?_
 ·intro wx d0
  obtain ⟨s1, s2, s3, s4⟩ := d0
  go_simp
 simp only [Act.put, sl0', sl1', sl2']
 refine tk hPan (i := 7) (oi := ⟨some 337, Op.move (.tmp 19), 3, "ref.go:459", #[], none⟩) (v := .int .i64 (k : Nat)) rfl (by kernel_rfl) (.inl ⟨by rfl, ?_⟩) HSX ?_
 ·intro wx d0
  obtain ⟨s1, s2, s3, s4⟩ := d0
  go_simp
 simp only [Act.put, sl0', sl1', sl2']
 refine tk hPan (i := 8) (oi := ⟨some 338, Op.indexAddr 34 (.tmp 336) (.tmp 337), 0, "ref.go:459", #[gd' 6, gd' 7], none⟩) (v := .pointer (some ⟨bb, ob + k * 2, none⟩)) rfl (by kernel_rfl) (.inl ⟨by rfl, ?_⟩) HSX ?_
 ·intro wx d0
  obtain ⟨s1, s2, s3, s4⟩ := d0
  go_simp
  try (intro hge; omega)
 simp only [Act.put, sl0', sl1', sl2']
 refine tk hPan (i := 9) (oi := ⟨some 339, Op.load 117 (.tmp 338), 117, "ref.go:459", #[gd' 8], none⟩) (v := .agg C.toArray) rfl (by kernel_rfl) (yieldsIf_load_mid (by rfl) 117 (.tmp 338) rfl bb (ob + k * 2) rfl C _ (fun w h => h.2.2.2) Tryz.underlying117 rfl hC) HSX ?_
 simp only [Act.put, sl0', sl1', sl2']
 refine tk hPan (i := 10) (oi := ⟨some 340, Op.binOp BinOp.neq 117 (.tmp 334) (.tmp 339) 117, 4, "ref.go:459", #[gd' 4, gd' 9], none⟩) (v := .bool false) rfl (by kernel_rfl) (.inl ⟨by rfl, ?_⟩) HSX ?_
 ·intro wx d0
  simp only [execOp, Act.eval]
  simp [eqg117, hq]
 simp only [Act.put, sl0', sl1', sl2']
 refine wpAnyH_done (by kernel_rfl) ?_ _
 exact hQ
end Go.Proofs.YtkggkkoblpdopaaGreat
