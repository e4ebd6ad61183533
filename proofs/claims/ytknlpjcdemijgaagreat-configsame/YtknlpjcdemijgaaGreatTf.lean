import Derived.Test.YtknlpjcdemijgaaGreatTj
namespace Go.Proofs.YtknlpjcdemijgaaGreat
open Go.ChangeShapes Go.WideShapes Go.ChangeAt Go.RowKit
set_option linter.unusedVariables false
theorem step_app {P : Program} {ops : Array Oper} {o : Oper} {a : Act} {w : World} {K : Act → World → Prop} {Q : Exit → Act → World → Prop} {E : Prop}
  (hgd : o.guard = none) (s x : Operand) (t u : TypeId) (ho : o.op = .call { callee := .builtin .append, args := #[s, x], argTypes := #[t, u] }) (v y v' : Value) (w' : World)
  (hs : a.eval s = v) (hx : a.eval x = y) (hrun : (Builtin.append_ #[t, u] o.type #[v, y]).run P w = .ok v' w') (hK : K (a.put o.dst v') w') :
  if Region.wanted o (yielded ops a.tmps) = true then Oper.wp P o a w K Q else E := by
 rw [if_pos (by simp [Region.wanted, hgd])]
 unfold Oper.wp
 simp [execOp, ho, resolve, invoke, builtin, hs, hx, hrun, Result.andThen]
 exact hK
def ops14_11 : Array Oper := #[⟨some 49, Op.move (.tmp 3), 44, "law.go:39", #[], none⟩,
 ⟨some 50, Op.move (.tmp 3), 44, "law.go:39", #[], none⟩,
 ⟨some 51, Op.nilCheck (.tmp 50), 0, "law.go:39", #[gd' 1], none⟩,
 ⟨some 52, Op.fieldAddr 49 (.tmp 51) 1, 0, "law.go:39", #[gd' 2], none⟩,
 ⟨some 53, Op.load 26 (.tmp 52), 26, "law.go:39", #[gd' 3], none⟩,
 ⟨some 54, Op.fieldAddr 89 (.tmp 5) 0, 0, "law.go:39", #[], none⟩,
 ⟨some 55, Op.load 9 (.tmp 54), 9, "law.go:39", #[gd' 5], none⟩,
 ⟨some 56, Op.fieldAddr 89 (.tmp 5) 1, 0, "law.go:39", #[], none⟩,
 ⟨some 57, Op.load 22 (.tmp 56), 22, "law.go:39", #[gd' 7], none⟩,
 ⟨some 58, Op.move (.tmp 6), 87, "law.go:39", #[], none⟩,
 ⟨some 59, Op.move (.tmp 6), 87, "law.go:39", #[], none⟩,
 ⟨some 60, Op.call { callee := Callee.builtin Builtin.len, args := #[Operand.tmp 59], argTypes := #[87] }, 3, "law.go:39", #[gd' 10], none⟩,
 ⟨some 61, Op.binOp BinOp.sub 3 (.tmp 60) (Operand.const (Value.int IntKind.i64 1)) 3, 3, "law.go:39", #[gd' 11], none⟩,
 ⟨some 62, Op.slice 87 (.tmp 58) none (some (.tmp 61)) none, 87, "law.go:39", #[gd' 9, gd' 12], none⟩,
 ⟨some 63, Op.move (.tmp 7), 52, "law.go:39", #[], none⟩,
 ⟨some 64, Op.build 89 #[(0, Operand.tmp 55), (1, Operand.tmp 57), (2, Operand.tmp 62), (3, Operand.tmp 63)], 89, "law.go:39", #[gd' 6, gd' 8, gd' 13, gd' 14], none⟩,
 ⟨some 65, Op.buildSlice 26 1 #[(0, Operand.tmp 64)], 26, "law.go:39", #[gd' 15], none⟩,
 ⟨some 66, Op.call { callee := Callee.builtin Builtin.append, args := #[Operand.tmp 53, Operand.tmp 65], argTypes := #[26, 26] }, 26, "law.go:39", #[gd' 4, gd' 16], none⟩,
 ⟨some 67, Op.nilCheck (.tmp 49), 0, "law.go:39", #[gd' 0, gp' 0, gp' 1, gp' 2, gp' 3, gp' 4, gp' 5, gp' 6, gp' 7, gp' 8, gp' 9, gp' 10, gp' 11, gp' 12, gp' 13, gp' 14, gp' 15, gp' 16, gp' 17], none⟩,
 ⟨some 68, Op.fieldAddr 49 (.tmp 67) 1, 0, "law.go:39", #[gd' 18, gp' 0, gp' 1, gp' 2, gp' 3, gp' 4, gp' 5, gp' 6, gp' 7, gp' 8, gp' 9, gp' 10, gp' 11, gp' 12, gp' 13, gp' 14, gp' 15, gp' 16, gp' 17], none⟩,
 ⟨none, Op.store 26 (.tmp 68) (.tmp 66), 0, "law.go:39", #[gd' 19, gd' 17, gc' 17, gp' 0, gp' 1, gp' 2, gp' 3, gp' 4, gp' 5, gp' 6, gp' 7, gp' 8, gp' 9, gp' 10, gp' 11, gp' 12, gp' 13, gp' 14, gp' 15, gp' 16, gp' 17], none⟩]
set_option maxHeartbeats 8000000 in
set_option maxRecDepth 100000 in
theorem reg14_11 (W W7 : World) (X b R k A k2 nR nI nL cc nL' cc' : Nat) (ca ca' : Option Addr) (nm : ByteArray) (e : Int) (hnR : nR < 140737488355328) (hkR : nR + 1 ≤ k) (hne0 : X ≠ b) (hS : (fun w' : World => w'.cell? ⟨b, 0, none⟩ = some (.string nm) ∧ w'.cell? ⟨b, 1, none⟩ = some (.int .u32 e)) W.drew) (m0 : W.drew.cell? ⟨X, 12, none⟩ = some (.slice ca nL cc))
  (hr : (Builtin.append_ #[26, 26] 26 #[.slice ca nL cc, .slice (some ⟨W.drew.heap.size, 0, none⟩) 1 1]).run Tryz.prog (W.drew.alloc (.cells #[.string nm, .int .u32 e, .slice (some ⟨R, 0, none⟩) nR k, .slice (some ⟨A, 0, none⟩) nI k2] 89)) = .ok (.slice ca' nL' cc') W7) (hS2 : (fun w' : World => w'.cell? ⟨b, 0, none⟩ = some (.string nm) ∧ w'.cell? ⟨b, 1, none⟩ = some (.int .u32 e)) W7) (hz : ∃ z, W7.cell? ⟨X, 12, none⟩ = some z) (hf : W7.frozen? ⟨X, 12, none⟩ = false)
  (Q : Exit → Act → World → Prop) (hPan : ∀ c (a : Act) w (d : Option Tmp) v, Q (.panic c) (a.put d v) w → Q (.panic c) a w) {u0 u1 u2 u4 u8 u9 u10 u11 u12 u13 u14 u15 u16 u17 u18 u19 u20 u21 u22 u23 u24 u25 u26 u27 u28 u29 u30 u31 u32 u33 u34 u35 u36 u37 u38 u39 u40 u41 u42 u43 u44 u45 u46 u47 u48 u49 u50 u51 u52 u53 u54 u55 u56 u57 u58 u59 u60 u61 u62 u63 u64 u65 u66 u67 u68 u69 u70 u71 u72 u73 u74 u75 u76 u77 u78 u79 u80 u81 u82 u83 u84 u85 u86 u87 u88 u89 u90 u91 u92 u93 u94 u95 u96 u97 u98 u99 A0 A1 A2 A3 A4 A5 A6 A7 A8 A9 B0 B1 B2 B3 B4 B5 B6 B7 B8 B9 C0 C1 C2 C3 C4 C5 C6 C7 C8 C9 D0 D1 D2 D3 D4 D5 D6 D7 D8 D9 E0 E1 E2 E3 E4 E5 E6 E7 E8 E9 F0 F1 F2 F3 F4 F5 F6 F7 F8 F9 G0 G1 G2 G3 G4 G5 G6 G7 G8 G9 H0 H1 H2 H3 H4 H5 H6 H7 H8 H9 I0 I1 I2 I3 I4 I5 I6 I7 I8 I9 J0 J1 J2 J3 J4 J5 J6 J7 J8 J9 K0 K1 K2 K3 K4 K5 K6 K7 K8 K9 L0 L1 L2 L3 L4 L5 L6 : Value}
  (hQ : Q .normal ⟨#[u0,u1,u2, .pointer (some ⟨X, 0, none⟩), u4, .pointer (some ⟨b, 0, none⟩), .slice (some ⟨R, 0, none⟩) (nR + 1) k, .slice (some ⟨A, 0, none⟩) nI k2, u8,u9,u10,u11,u12,u13,u14,u15,u16,u17,u18,u19,u20,u21,u22,u23,u24,u25,u26,u27,u28,u29,u30,u31,u32,u33,u34,u35,u36,u37,u38,u39,u40,u41,u42,u43,u44,u45,u46,u47,u48, .pointer (some ⟨X, 0, none⟩), .pointer (some ⟨X, 0, none⟩), .pointer (some ⟨X, 0, none⟩), .pointer (some ⟨X, 12, none⟩), .slice ca nL cc, .pointer (some ⟨b, 0, none⟩), .string nm, .pointer (some ⟨b, 1, none⟩), .int .u32 e, .slice (some ⟨R, 0, none⟩) (nR + 1) k, .slice (some ⟨R, 0, none⟩) (nR + 1) k, .int .i64 ((nR : Int) + 1), .int .i64 (nR : Int), .slice (some ⟨R, 0, none⟩) nR k, .slice (some ⟨A, 0, none⟩) nI k2, .agg #[.string nm, .int .u32 e, .slice (some ⟨R, 0, none⟩) nR k, .slice (some ⟨A, 0, none⟩) nI k2], .slice (some ⟨W.drew.heap.size, 0, none⟩) 1 1, .slice ca' nL' cc', .pointer (some ⟨X, 0, none⟩), .pointer (some ⟨X, 12, none⟩), u69,u70,u71,u72,u73,u74,u75,u76,u77,u78,u79,u80,u81,u82,u83,u84,u85,u86,u87,u88,u89,u90,u91,u92,u93,u94,u95,u96,u97,u98,u99,A0,A1,A2,A3,A4,A5,A6,A7,A8,A9,B0,B1,B2,B3,B4,B5,B6,B7,B8,B9,C0,C1,C2,C3,C4,C5,C6,C7,C8,C9,D0,D1,D2,D3,D4,D5,D6,D7,D8,D9,E0,E1,E2,E3,E4,E5,E6,E7,E8,E9,F0,F1,F2,F3,F4,F5,F6,F7,F8,F9,G0,G1,G2,G3,G4,G5,G6,G7,G8,G9,H0,H1,H2,H3,H4,H5,H6,H7,H8,H9,I0,I1,I2,I3,I4,I5,I6,I7,I8,I9,J0,J1,J2,J3,J4,J5,J6,J7,J8,J9,K0,K1,K2,K3,K4,K5,K6,K7,K8,K9,L0,L1,L2,L3,L4,L5,L6], []⟩ (W7.setCell ⟨X, 12, none⟩ (.slice ca' nL' cc'))) :
  Code.wp Tryz.prog (Code.region 11 ops14_11 true) Q ⟨#[u0,u1,u2, .pointer (some ⟨X, 0, none⟩), u4, .pointer (some ⟨b, 0, none⟩), .slice (some ⟨R, 0, none⟩) (nR + 1) k, .slice (some ⟨A, 0, none⟩) nI k2, u8,u9,u10,u11,u12,u13,u14,u15,u16,u17,u18,u19,u20,u21,u22,u23,u24,u25,u26,u27,u28,u29,u30,u31,u32,u33,u34,u35,u36,u37,u38,u39,u40,u41,u42,u43,u44,u45,u46,u47,u48,u49,u50,u51,u52,u53,u54,u55,u56,u57,u58,u59,u60,u61,u62,u63,u64,u65,u66,u67,u68,u69,u70,u71,u72,u73,u74,u75,u76,u77,u78,u79,u80,u81,u82,u83,u84,u85,u86,u87,u88,u89,u90,u91,u92,u93,u94,u95,u96,u97,u98,u99,A0,A1,A2,A3,A4,A5,A6,A7,A8,A9,B0,B1,B2,B3,B4,B5,B6,B7,B8,B9,C0,C1,C2,C3,C4,C5,C6,C7,C8,C9,D0,D1,D2,D3,D4,D5,D6,D7,D8,D9,E0,E1,E2,E3,E4,E5,E6,E7,E8,E9,F0,F1,F2,F3,F4,F5,F6,F7,F8,F9,G0,G1,G2,G3,G4,G5,G6,G7,G8,G9,H0,H1,H2,H3,H4,H5,H6,H7,H8,H9,I0,I1,I2,I3,I4,I5,I6,I7,I8,I9,J0,J1,J2,J3,J4,J5,J6,J7,J8,J9,K0,K1,K2,K3,K4,K5,K6,K7,K8,K9,L0,L1,L2,L3,L4,L5,L6], []⟩ W := by
 refine wp_region_held_drew (S := (fun w' : World => w'.cell? ⟨b, 0, none⟩ = some (.string nm) ∧ w'.cell? ⟨b, 1, none⟩ = some (.int .u32 e))) hmx hS (fun HSX => ?_)
 have hS0 := hS
 clear hS
 obtain ⟨W0, hW0⟩ : ∃ W0,W0 = W.drew := ⟨_, rfl⟩
 rw [← hW0] at hS0 HSX m0 hr ⊢
 rw [← hW0] at hQ
 clear hW0
 have m1 : (W0.alloc (.cells #[.string nm, .int .u32 e, .slice (some ⟨R, 0, none⟩) nR k, .slice (some ⟨A, 0, none⟩) nI k2] 89)).cell? ⟨X, 12, none⟩ = some (.slice ca nL cc) := (Kp.al W0 _).cell m0
 have hS1 : (fun w' : World => w'.cell? ⟨b, 0, none⟩ = some (.string nm) ∧ w'.cell? ⟨b, 1, none⟩ = some (.int .u32 e)) (W0.alloc (.cells #[.string nm, .int .u32 e, .slice (some ⟨R, 0, none⟩) nR k, .slice (some ⟨A, 0, none⟩) nI k2] 89)) := ⟨(Kp.al W0 _).cell hS0.1, (Kp.al W0 _).cell hS0.2⟩
 obtain ⟨zz, hz'⟩ := hz
 have hS3 : (fun w' : World => w'.cell? ⟨b, 0, none⟩ = some (.string nm) ∧ w'.cell? ⟨b, 1, none⟩ = some (.int .u32 e)) (W7.setCell ⟨X, 12, none⟩ (.slice ca' nL' cc')) := ⟨(World.cell?_setCell_far _ _ _ _ hne0).trans hS2.1, (World.cell?_setCell_far _ _ _ _ hne0).trans hS2.2⟩
 have hwr : IntKind.i64.wrap (nR : Int) = nR := by simp [IntKind.wrap, IntKind.bits, IntKind.signed]; omega
 have hkR2 : nR ≤ k := by omega
 refine tk hPan (i := 0) (oi := ⟨some 49, Op.move (.tmp 3), 44, "law.go:39", #[], none⟩) (v := .pointer (some ⟨X, 0, none⟩)) rfl (by kernel_rfl) (.inl ⟨by rfl, ?_⟩) HSX ?_
 ·intro wx d0
  obtain ⟨s1, s2⟩ := d0
  go_simp
 simp only [Act.put, sl0', sl1', sl2']
 refine tk hPan (i := 1) (oi := ⟨some 50, Op.move (.tmp 3), 44, "law.go:39", #[], none⟩) (v := .pointer (some ⟨X, 0, none⟩)) rfl (by kernel_rfl) (.inl ⟨by rfl, ?_⟩) HSX ?_
 ·intro wx d0
  obtain ⟨s1, s2⟩ := d0
  go_simp
 simp only [Act.put, sl0', sl1', sl2']
 refine tk hPan (i := 2) (oi := ⟨some 51, Op.nilCheck (.tmp 50), 0, "law.go:39", #[gd' 1], none⟩) (v := .pointer (some ⟨X, 0, none⟩)) rfl (by kernel_rfl) (.inl ⟨by rfl, ?_⟩) HSX ?_
 ·intro wx d0
  obtain ⟨s1, s2⟩ := d0
  go_simp
 simp only [Act.put, sl0', sl1', sl2']
 refine tk hPan (i := 3) (oi := ⟨some 52, Op.fieldAddr 49 (.tmp 51) 1, 0, "law.go:39", #[gd' 2], none⟩) (v := .pointer (some ⟨X, 12, none⟩)) rfl (by kernel_rfl) (.inl ⟨by rfl, ?_⟩) HSX ?_
 ·intro wx d0
  obtain ⟨s1, s2⟩ := d0
  go_simp
 simp only [Act.put, sl0', sl1', sl2']
 refine tk hPan (i := 5) (oi := ⟨some 54, Op.fieldAddr 89 (.tmp 5) 0, 0, "law.go:39", #[], none⟩) (v := .pointer (some ⟨b, 0, none⟩)) rfl (by kernel_rfl) (.inl ⟨by rfl, ?_⟩) HSX ?_
 ·intro wx d0
  obtain ⟨s1, s2⟩ := d0
  go_simp
 simp only [Act.put, sl0', sl1', sl2']
 refine tk hPan (i := 6) (oi := ⟨some 55, Op.load 9 (.tmp 54), 9, "law.go:39", #[gd' 5], none⟩) (v := .string nm) rfl (by kernel_rfl) (.inl ⟨by rfl, ?_⟩) HSX ?_
 ·intro wx d0
  obtain ⟨s1, s2⟩ := d0
  go_simp
 simp only [Act.put, sl0', sl1', sl2']
 refine tk hPan (i := 7) (oi := ⟨some 56, Op.fieldAddr 89 (.tmp 5) 1, 0, "law.go:39", #[], none⟩) (v := .pointer (some ⟨b, 1, none⟩)) rfl (by kernel_rfl) (.inl ⟨by rfl, ?_⟩) HSX ?_
 ·intro wx d0
  obtain ⟨s1, s2⟩ := d0
  go_simp
 simp only [Act.put, sl0', sl1', sl2']
 refine tk hPan (i := 8) (oi := ⟨some 57, Op.load 22 (.tmp 56), 22, "law.go:39", #[gd' 7], none⟩) (v := .int .u32 e) rfl (by kernel_rfl) (.inl ⟨by rfl, ?_⟩) HSX ?_
 ·intro wx d0
  obtain ⟨s1, s2⟩ := d0
  go_simp
 simp only [Act.put, sl0', sl1', sl2']
 refine tk hPan (i := 9) (oi := ⟨some 58, Op.move (.tmp 6), 87, "law.go:39", #[], none⟩) (v := .slice (some ⟨R, 0, none⟩) (nR + 1) k) rfl (by kernel_rfl) (.inl ⟨by rfl, ?_⟩) HSX ?_
 ·intro wx d0
  obtain ⟨s1, s2⟩ := d0
  go_simp
 simp only [Act.put, sl0', sl1', sl2']
 refine tk hPan (i := 10) (oi := ⟨some 59, Op.move (.tmp 6), 87, "law.go:39", #[], none⟩) (v := .slice (some ⟨R, 0, none⟩) (nR + 1) k) rfl (by kernel_rfl) (.inl ⟨by rfl, ?_⟩) HSX ?_
 ·intro wx d0
  obtain ⟨s1, s2⟩ := d0
  go_simp
 simp only [Act.put, sl0', sl1', sl2']
 refine tk hPan (i := 11) (oi := ⟨some 60, Op.call { callee := Callee.builtin Builtin.len, args := #[Operand.tmp 59], argTypes := #[87] }, 3, "law.go:39", #[gd' 10], none⟩) (v := .int .i64 ((nR : Int) + 1)) rfl (by kernel_rfl) (.inl ⟨by rfl, ?_⟩) HSX ?_
 ·intro wx d0
  obtain ⟨s1, s2⟩ := d0
  go_simp
 simp only [Act.put, sl0', sl1', sl2']
 refine tk hPan (i := 12) (oi := ⟨some 61, Op.binOp BinOp.sub 3 (.tmp 60) (Operand.const (Value.int IntKind.i64 1)) 3, 3, "law.go:39", #[gd' 11], none⟩) (v := .int .i64 (nR : Int)) rfl (by kernel_rfl) (.inl ⟨by rfl, ?_⟩) HSX ?_
 ·intro wx d0
  obtain ⟨s1, s2⟩ := d0
  go_simp
 simp only [Act.put, sl0', sl1', sl2']
 refine tk hPan (i := 13) (oi := ⟨some 62, Op.slice 87 (.tmp 58) none (some (.tmp 61)) none, 87, "law.go:39", #[gd' 9, gd' 12], none⟩) (v := .slice (some ⟨R, 0, none⟩) nR k) rfl (by kernel_rfl) (.inl ⟨by rfl, ?_⟩) HSX ?_
 ·intro wx d0
  obtain ⟨s1, s2⟩ := d0
  go_simp
 simp only [Act.put, sl0', sl1', sl2']
 refine tk hPan (i := 14) (oi := ⟨some 63, Op.move (.tmp 7), 52, "law.go:39", #[], none⟩) (v := .slice (some ⟨A, 0, none⟩) nI k2) rfl (by kernel_rfl) (.inl ⟨by rfl, ?_⟩) HSX ?_
 ·intro wx d0
  obtain ⟨s1, s2⟩ := d0
  go_simp
 simp only [Act.put, sl0', sl1', sl2']
 refine tk hPan (i := 15) (oi := ⟨some 64, Op.build 89 #[(0, Operand.tmp 55), (1, Operand.tmp 57), (2, Operand.tmp 62), (3, Operand.tmp 63)], 89, "law.go:39", #[gd' 6, gd' 8, gd' 13, gd' 14], none⟩) (v := .agg #[.string nm, .int .u32 e, .slice (some ⟨R, 0, none⟩) nR k, .slice (some ⟨A, 0, none⟩) nI k2]) rfl (by kernel_rfl) (.inl ⟨by rfl, ?_⟩) HSX ?_
 ·intro wx d0
  obtain ⟨s1, s2⟩ := d0
  go_simp
 simp only [Act.put, sl0', sl1', sl2']
 refine wpAnyH_ready (rs := [4, 16]) (by kernel_rfl) (by simp) ?_
 refine (AllReadyH.cons (o := ⟨some 53, Op.load 26 (.tmp 52), 26, "law.go:39", #[gd' 3], none⟩) rfl (fun K hK => ?_) (AllReadyH.cons (o := ⟨some 65, Op.buildSlice 26 1 #[(0, Operand.tmp 64)], 26, "law.go:39", #[gd' 15], none⟩) rfl (fun K hK => ?_) AllReadyH.nil))
 ·rw [if_pos (by rfl)]
  go_simp
  refine hK.out _ _ hS0 (fun HSX => ?_)
  clear hK K
  refine wpAnyH_ready (rs := [16]) (by kernel_rfl) (by simp) ?_
  refine (AllReadyH.cons (o := ⟨some 65, Op.buildSlice 26 1 #[(0, Operand.tmp 64)], 26, "law.go:39", #[gd' 15], none⟩) rfl (fun K hK => ?_) AllReadyH.nil)
  ·rw [if_pos (by rfl)]
   go_simp
   refine hK.out _ _ hS1 (fun HSX => ?_)
   clear hK K
   refine wpAnyH_ready (rs := [17]) (by kernel_rfl) (by simp) ?_
   refine AllReadyH.cons (o := ⟨some 66, Op.call { callee := Callee.builtin Builtin.append, args := #[Operand.tmp 53, Operand.tmp 65], argTypes := #[26, 26] }, 26, "law.go:39", #[gd' 4, gd' 16], none⟩) rfl (fun K hK => ?_) AllReadyH.nil
   refine step_app rfl (.tmp 53) (.tmp 65) 26 26 rfl _ _ (.slice ca' nL' cc') W7 rfl rfl hr ?_
   simp only [Act.put, sl0', sl1', sl2']
   refine hK.out _ _ hS2 (fun HSX => ?_)
   clear hK K
   refine tk hPan (i := 18) (oi := ⟨some 67, Op.nilCheck (.tmp 49), 0, "law.go:39", #[gd' 0, gp' 0, gp' 1, gp' 2, gp' 3, gp' 4, gp' 5, gp' 6, gp' 7, gp' 8, gp' 9, gp' 10, gp' 11, gp' 12, gp' 13, gp' 14, gp' 15, gp' 16, gp' 17], none⟩) (v := .pointer (some ⟨X, 0, none⟩)) rfl (by kernel_rfl) (.inl ⟨by rfl, ?_⟩) HSX ?_
   ·intro wx d0
    obtain ⟨s1, s2⟩ := d0
    go_simp
   simp only [Act.put, sl0', sl1', sl2']
   refine tk hPan (i := 19) (oi := ⟨some 68, Op.fieldAddr 49 (.tmp 67) 1, 0, "law.go:39", #[gd' 18, gp' 0, gp' 1, gp' 2, gp' 3, gp' 4, gp' 5, gp' 6, gp' 7, gp' 8, gp' 9, gp' 10, gp' 11, gp' 12, gp' 13, gp' 14, gp' 15, gp' 16, gp' 17], none⟩) (v := .pointer (some ⟨X, 12, none⟩)) rfl (by kernel_rfl) (.inl ⟨by rfl, ?_⟩) HSX ?_
   ·intro wx d0
    obtain ⟨s1, s2⟩ := d0
    go_simp
   simp only [Act.put, sl0', sl1', sl2']
   refine wpAnyH_ready (rs := [20]) (by kernel_rfl) (by simp) ?_
   refine AllReadyH.cons (o := ⟨none, Op.store 26 (.tmp 68) (.tmp 66), 0, "law.go:39", #[gd' 19, gd' 17, gc' 17, gp' 0, gp' 1, gp' 2, gp' 3, gp' 4, gp' 5, gp' 6, gp' 7, gp' 8, gp' 9, gp' 10, gp' 11, gp' 12, gp' 13, gp' 14, gp' 15, gp' 16, gp' 17], none⟩) rfl (fun K hK => ?_) AllReadyH.nil
   rw [if_pos (by rfl)]
   go_simp
   refine hK.out _ _ hS3 (fun HSX => ?_)
   clear hK K
   refine wpAnyH_done (by kernel_rfl) ?_ _
   exact hQ
 ·rw [if_pos (by rfl)]
  go_simp
  refine hK.out _ _ hS1 (fun HSX => ?_)
  clear hK K
  refine wpAnyH_ready (rs := [4]) (by kernel_rfl) (by simp) ?_
  refine (AllReadyH.cons (o := ⟨some 53, Op.load 26 (.tmp 52), 26, "law.go:39", #[gd' 3], none⟩) rfl (fun K hK => ?_) AllReadyH.nil)
  ·rw [if_pos (by rfl)]
   go_simp
   refine hK.out _ _ hS1 (fun HSX => ?_)
   clear hK K
   refine wpAnyH_ready (rs := [17]) (by kernel_rfl) (by simp) ?_
   refine AllReadyH.cons (o := ⟨some 66, Op.call { callee := Callee.builtin Builtin.append, args := #[Operand.tmp 53, Operand.tmp 65], argTypes := #[26, 26] }, 26, "law.go:39", #[gd' 4, gd' 16], none⟩) rfl (fun K hK => ?_) AllReadyH.nil
   refine step_app rfl (.tmp 53) (.tmp 65) 26 26 rfl _ _ (.slice ca' nL' cc') W7 rfl rfl hr ?_
   simp only [Act.put, sl0', sl1', sl2']
   refine hK.out _ _ hS2 (fun HSX => ?_)
   clear hK K
   refine tk hPan (i := 18) (oi := ⟨some 67, Op.nilCheck (.tmp 49), 0, "law.go:39", #[gd' 0, gp' 0, gp' 1, gp' 2, gp' 3, gp' 4, gp' 5, gp' 6, gp' 7, gp' 8, gp' 9, gp' 10, gp' 11, gp' 12, gp' 13, gp' 14, gp' 15, gp' 16, gp' 17], none⟩) (v := .pointer (some ⟨X, 0, none⟩)) rfl (by kernel_rfl) (.inl ⟨by rfl, ?_⟩) HSX ?_
   ·intro wx d0
    obtain ⟨s1, s2⟩ := d0
    go_simp
   simp only [Act.put, sl0', sl1', sl2']
   refine tk hPan (i := 19) (oi := ⟨some 68, Op.fieldAddr 49 (.tmp 67) 1, 0, "law.go:39", #[gd' 18, gp' 0, gp' 1, gp' 2, gp' 3, gp' 4, gp' 5, gp' 6, gp' 7, gp' 8, gp' 9, gp' 10, gp' 11, gp' 12, gp' 13, gp' 14, gp' 15, gp' 16, gp' 17], none⟩) (v := .pointer (some ⟨X, 12, none⟩)) rfl (by kernel_rfl) (.inl ⟨by rfl, ?_⟩) HSX ?_
   ·intro wx d0
    obtain ⟨s1, s2⟩ := d0
    go_simp
   simp only [Act.put, sl0', sl1', sl2']
   refine wpAnyH_ready (rs := [20]) (by kernel_rfl) (by simp) ?_
   refine AllReadyH.cons (o := ⟨none, Op.store 26 (.tmp 68) (.tmp 66), 0, "law.go:39", #[gd' 19, gd' 17, gc' 17, gp' 0, gp' 1, gp' 2, gp' 3, gp' 4, gp' 5, gp' 6, gp' 7, gp' 8, gp' 9, gp' 10, gp' 11, gp' 12, gp' 13, gp' 14, gp' 15, gp' 16, gp' 17], none⟩) rfl (fun K hK => ?_) AllReadyH.nil
   rw [if_pos (by rfl)]
   go_simp
   refine hK.out _ _ hS3 (fun HSX => ?_)
   clear hK K
   refine wpAnyH_done (by kernel_rfl) ?_ _
   exact hQ
end Go.Proofs.YtknlpjcdemijgaaGreat
namespace Go.Proofs.YtknlpjcdemijgaaGreat
open Go.ChangeShapes Go.WideShapes Go.ChangeAt Go.RowKit
set_option linter.unusedVariables false
def ops14_18 : Array Oper := #[⟨some 96, Op.move (.tmp 3), 44, "law.go:45", #[], none⟩,
 ⟨some 97, Op.move (.tmp 3), 44, "law.go:45", #[], none⟩,
 ⟨some 98, Op.nilCheck (.tmp 97), 0, "law.go:45", #[gd' 1], none⟩,
 ⟨some 99, Op.fieldAddr 49 (.tmp 98) 3, 0, "law.go:45", #[gd' 2], none⟩,
 ⟨some 100, Op.load 28 (.tmp 99), 28, "law.go:45", #[gd' 3], none⟩,
 ⟨some 101, Op.load 94 (.tmp 9), 94, "law.go:45", #[], none⟩,
 ⟨some 102, Op.buildSlice 28 1 #[(0, Operand.tmp 101)], 28, "law.go:45", #[gd' 5], none⟩,
 ⟨some 103, Op.call { callee := Callee.builtin Builtin.append, args := #[Operand.tmp 100, Operand.tmp 102], argTypes := #[28, 28] }, 28, "law.go:45", #[gd' 4, gd' 6], none⟩,
 ⟨some 104, Op.nilCheck (.tmp 96), 0, "law.go:45", #[gd' 0, gp' 0, gp' 1, gp' 2, gp' 3, gp' 4, gp' 5, gp' 6, gp' 7], none⟩,
 ⟨some 105, Op.fieldAddr 49 (.tmp 104) 3, 0, "law.go:45", #[gd' 8, gp' 0, gp' 1, gp' 2, gp' 3, gp' 4, gp' 5, gp' 6, gp' 7], none⟩,
 ⟨none, Op.store 28 (.tmp 105) (.tmp 103), 0, "law.go:45", #[gd' 9, gd' 7, gc' 7, gp' 0, gp' 1, gp' 2, gp' 3, gp' 4, gp' 5, gp' 6, gp' 7], none⟩]
set_option maxHeartbeats 8000000 in
set_option maxRecDepth 100000 in
theorem reg14_18 (W W7 : World) (X b A k2 nI nM sc nM' sc' : Nat) (sa sa' : Option Addr) (x1 x2 : Int) (hne0 : X ≠ b) (hS : (fun w' : World => w'.cell? ⟨b, 0, none⟩ = some (.int .i64 x1) ∧ w'.cell? ⟨b, 1, none⟩ = some (.int .i64 x2) ∧ w'.cell? ⟨b, 2, none⟩ = some (.slice (some ⟨A, 0, none⟩) nI k2)) W.drew) (m0 : W.drew.cell? ⟨X, 14, none⟩ = some (.slice sa nM sc))
  (hr : (Builtin.append_ #[28, 28] 28 #[.slice sa nM sc, .slice (some ⟨W.drew.heap.size, 0, none⟩) 1 1]).run Tryz.prog (W.drew.alloc (.cells #[.int .i64 x1, .int .i64 x2, .slice (some ⟨A, 0, none⟩) nI k2] 94)) = .ok (.slice sa' nM' sc') W7) (hS2 : (fun w' : World => w'.cell? ⟨b, 0, none⟩ = some (.int .i64 x1) ∧ w'.cell? ⟨b, 1, none⟩ = some (.int .i64 x2) ∧ w'.cell? ⟨b, 2, none⟩ = some (.slice (some ⟨A, 0, none⟩) nI k2)) W7) (hz : ∃ z, W7.cell? ⟨X, 14, none⟩ = some z) (hf : W7.frozen? ⟨X, 14, none⟩ = false)
  (Q : Exit → Act → World → Prop) (hPan : ∀ c (a : Act) w (d : Option Tmp) v, Q (.panic c) (a.put d v) w → Q (.panic c) a w) {u0 u1 u2 u4 u5 u6 u7 u8 u10 u11 u12 u13 u14 u15 u16 u17 u18 u19 u20 u21 u22 u23 u24 u25 u26 u27 u28 u29 u30 u31 u32 u33 u34 u35 u36 u37 u38 u39 u40 u41 u42 u43 u44 u45 u46 u47 u48 u49 u50 u51 u52 u53 u54 u55 u56 u57 u58 u59 u60 u61 u62 u63 u64 u65 u66 u67 u68 u69 u70 u71 u72 u73 u74 u75 u76 u77 u78 u79 u80 u81 u82 u83 u84 u85 u86 u87 u88 u89 u90 u91 u92 u93 u94 u95 u96 u97 u98 u99 A0 A1 A2 A3 A4 A5 A6 A7 A8 A9 B0 B1 B2 B3 B4 B5 B6 B7 B8 B9 C0 C1 C2 C3 C4 C5 C6 C7 C8 C9 D0 D1 D2 D3 D4 D5 D6 D7 D8 D9 E0 E1 E2 E3 E4 E5 E6 E7 E8 E9 F0 F1 F2 F3 F4 F5 F6 F7 F8 F9 G0 G1 G2 G3 G4 G5 G6 G7 G8 G9 H0 H1 H2 H3 H4 H5 H6 H7 H8 H9 I0 I1 I2 I3 I4 I5 I6 I7 I8 I9 J0 J1 J2 J3 J4 J5 J6 J7 J8 J9 K0 K1 K2 K3 K4 K5 K6 K7 K8 K9 L0 L1 L2 L3 L4 L5 L6 : Value}
  (hQ : Q .normal ⟨#[u0,u1,u2, .pointer (some ⟨X, 0, none⟩), u4,u5,u6,u7,u8, .pointer (some ⟨b, 0, none⟩), u10,u11,u12,u13,u14,u15,u16,u17,u18,u19,u20,u21,u22,u23,u24,u25,u26,u27,u28,u29,u30,u31,u32,u33,u34,u35,u36,u37,u38,u39,u40,u41,u42,u43,u44,u45,u46,u47,u48,u49,u50,u51,u52,u53,u54,u55,u56,u57,u58,u59,u60,u61,u62,u63,u64,u65,u66,u67,u68,u69,u70,u71,u72,u73,u74,u75,u76,u77,u78,u79,u80,u81,u82,u83,u84,u85,u86,u87,u88,u89,u90,u91,u92,u93,u94,u95, .pointer (some ⟨X, 0, none⟩), .pointer (some ⟨X, 0, none⟩), .pointer (some ⟨X, 0, none⟩), .pointer (some ⟨X, 14, none⟩), .slice sa nM sc, .agg #[.int .i64 x1, .int .i64 x2, .slice (some ⟨A, 0, none⟩) nI k2], .slice (some ⟨W.drew.heap.size, 0, none⟩) 1 1, .slice sa' nM' sc', .pointer (some ⟨X, 0, none⟩), .pointer (some ⟨X, 14, none⟩), A6,A7,A8,A9,B0,B1,B2,B3,B4,B5,B6,B7,B8,B9,C0,C1,C2,C3,C4,C5,C6,C7,C8,C9,D0,D1,D2,D3,D4,D5,D6,D7,D8,D9,E0,E1,E2,E3,E4,E5,E6,E7,E8,E9,F0,F1,F2,F3,F4,F5,F6,F7,F8,F9,G0,G1,G2,G3,G4,G5,G6,G7,G8,G9,H0,H1,H2,H3,H4,H5,H6,H7,H8,H9,I0,I1,I2,I3,I4,I5,I6,I7,I8,I9,J0,J1,J2,J3,J4,J5,J6,J7,J8,J9,K0,K1,K2,K3,K4,K5,K6,K7,K8,K9,L0,L1,L2,L3,L4,L5,L6], []⟩ (W7.setCell ⟨X, 14, none⟩ (.slice sa' nM' sc'))) :
  Code.wp Tryz.prog (Code.region 18 ops14_18 true) Q ⟨#[u0,u1,u2, .pointer (some ⟨X, 0, none⟩), u4,u5,u6,u7,u8, .pointer (some ⟨b, 0, none⟩), u10,u11,u12,u13,u14,u15,u16,u17,u18,u19,u20,u21,u22,u23,u24,u25,u26,u27,u28,u29,u30,u31,u32,u33,u34,u35,u36,u37,u38,u39,u40,u41,u42,u43,u44,u45,u46,u47,u48,u49,u50,u51,u52,u53,u54,u55,u56,u57,u58,u59,u60,u61,u62,u63,u64,u65,u66,u67,u68,u69,u70,u71,u72,u73,u74,u75,u76,u77,u78,u79,u80,u81,u82,u83,u84,u85,u86,u87,u88,u89,u90,u91,u92,u93,u94,u95,u96,u97,u98,u99,A0,A1,A2,A3,A4,A5,A6,A7,A8,A9,B0,B1,B2,B3,B4,B5,B6,B7,B8,B9,C0,C1,C2,C3,C4,C5,C6,C7,C8,C9,D0,D1,D2,D3,D4,D5,D6,D7,D8,D9,E0,E1,E2,E3,E4,E5,E6,E7,E8,E9,F0,F1,F2,F3,F4,F5,F6,F7,F8,F9,G0,G1,G2,G3,G4,G5,G6,G7,G8,G9,H0,H1,H2,H3,H4,H5,H6,H7,H8,H9,I0,I1,I2,I3,I4,I5,I6,I7,I8,I9,J0,J1,J2,J3,J4,J5,J6,J7,J8,J9,K0,K1,K2,K3,K4,K5,K6,K7,K8,K9,L0,L1,L2,L3,L4,L5,L6], []⟩ W := by
 refine wp_region_held_drew (S := (fun w' : World => w'.cell? ⟨b, 0, none⟩ = some (.int .i64 x1) ∧ w'.cell? ⟨b, 1, none⟩ = some (.int .i64 x2) ∧ w'.cell? ⟨b, 2, none⟩ = some (.slice (some ⟨A, 0, none⟩) nI k2))) hmx hS (fun HSX => ?_)
 have hS0 := hS
 clear hS
 obtain ⟨W0, hW0⟩ : ∃ W0,W0 = W.drew := ⟨_, rfl⟩
 rw [← hW0] at hS0 HSX m0 hr ⊢
 rw [← hW0] at hQ
 clear hW0
 have m1 : (W0.alloc (.cells #[.int .i64 x1, .int .i64 x2, .slice (some ⟨A, 0, none⟩) nI k2] 94)).cell? ⟨X, 14, none⟩ = some (.slice sa nM sc) := (Kp.al W0 _).cell m0
 have hS1 : (fun w' : World => w'.cell? ⟨b, 0, none⟩ = some (.int .i64 x1) ∧ w'.cell? ⟨b, 1, none⟩ = some (.int .i64 x2) ∧ w'.cell? ⟨b, 2, none⟩ = some (.slice (some ⟨A, 0, none⟩) nI k2)) (W0.alloc (.cells #[.int .i64 x1, .int .i64 x2, .slice (some ⟨A, 0, none⟩) nI k2] 94)) := ⟨(Kp.al W0 _).cell hS0.1, (Kp.al W0 _).cell hS0.2.1, (Kp.al W0 _).cell hS0.2.2⟩
 obtain ⟨zz, hz'⟩ := hz
 have hS3 : (fun w' : World => w'.cell? ⟨b, 0, none⟩ = some (.int .i64 x1) ∧ w'.cell? ⟨b, 1, none⟩ = some (.int .i64 x2) ∧ w'.cell? ⟨b, 2, none⟩ = some (.slice (some ⟨A, 0, none⟩) nI k2)) (W7.setCell ⟨X, 14, none⟩ (.slice sa' nM' sc')) := ⟨(World.cell?_setCell_far _ _ _ _ hne0).trans hS2.1, (World.cell?_setCell_far _ _ _ _ hne0).trans hS2.2.1, (World.cell?_setCell_far _ _ _ _ hne0).trans hS2.2.2⟩
 refine tk hPan (i := 0) (oi := ⟨some 96, Op.move (.tmp 3), 44, "law.go:45", #[], none⟩) (v := .pointer (some ⟨X, 0, none⟩)) rfl (by kernel_rfl) (.inl ⟨by rfl, ?_⟩) HSX ?_
 ·intro wx d0
  obtain ⟨s1, s2, s3⟩ := d0
  go_simp
 simp only [Act.put, sl0', sl1', sl2']
 refine tk hPan (i := 1) (oi := ⟨some 97, Op.move (.tmp 3), 44, "law.go:45", #[], none⟩) (v := .pointer (some ⟨X, 0, none⟩)) rfl (by kernel_rfl) (.inl ⟨by rfl, ?_⟩) HSX ?_
 ·intro wx d0
  obtain ⟨s1, s2, s3⟩ := d0
  go_simp
 simp only [Act.put, sl0', sl1', sl2']
 refine tk hPan (i := 2) (oi := ⟨some 98, Op.nilCheck (.tmp 97), 0, "law.go:45", #[gd' 1], none⟩) (v := .pointer (some ⟨X, 0, none⟩)) rfl (by kernel_rfl) (.inl ⟨by rfl, ?_⟩) HSX ?_
 ·intro wx d0
  obtain ⟨s1, s2, s3⟩ := d0
  go_simp
 simp only [Act.put, sl0', sl1', sl2']
 refine tk hPan (i := 3) (oi := ⟨some 99, Op.fieldAddr 49 (.tmp 98) 3, 0, "law.go:45", #[gd' 2], none⟩) (v := .pointer (some ⟨X, 14, none⟩)) rfl (by kernel_rfl) (.inl ⟨by rfl, ?_⟩) HSX ?_
 ·intro wx d0
  obtain ⟨s1, s2, s3⟩ := d0
  go_simp
 simp only [Act.put, sl0', sl1', sl2']
 refine tk hPan (i := 5) (oi := ⟨some 101, Op.load 94 (.tmp 9), 94, "law.go:45", #[], none⟩) (v := .agg #[.int .i64 x1, .int .i64 x2, .slice (some ⟨A, 0, none⟩) nI k2]) rfl (by kernel_rfl) (.inl ⟨by rfl, ?_⟩) HSX ?_
 ·intro wx d0
  obtain ⟨s1, s2, s3⟩ := d0
  go_simp
 simp only [Act.put, sl0', sl1', sl2']
 refine wpAnyH_ready (rs := [4, 6]) (by kernel_rfl) (by simp) ?_
 refine (AllReadyH.cons (o := ⟨some 100, Op.load 28 (.tmp 99), 28, "law.go:45", #[gd' 3], none⟩) rfl (fun K hK => ?_) (AllReadyH.cons (o := ⟨some 102, Op.buildSlice 28 1 #[(0, Operand.tmp 101)], 28, "law.go:45", #[gd' 5], none⟩) rfl (fun K hK => ?_) AllReadyH.nil))
 ·rw [if_pos (by rfl)]
  go_simp
  refine hK.out _ _ hS0 (fun HSX => ?_)
  clear hK K
  refine wpAnyH_ready (rs := [6]) (by kernel_rfl) (by simp) ?_
  refine (AllReadyH.cons (o := ⟨some 102, Op.buildSlice 28 1 #[(0, Operand.tmp 101)], 28, "law.go:45", #[gd' 5], none⟩) rfl (fun K hK => ?_) AllReadyH.nil)
  ·rw [if_pos (by rfl)]
   go_simp
   refine hK.out _ _ hS1 (fun HSX => ?_)
   clear hK K
   refine wpAnyH_ready (rs := [7]) (by kernel_rfl) (by simp) ?_
   refine AllReadyH.cons (o := ⟨some 103, Op.call { callee := Callee.builtin Builtin.append, args := #[Operand.tmp 100, Operand.tmp 102], argTypes := #[28, 28] }, 28, "law.go:45", #[gd' 4, gd' 6], none⟩) rfl (fun K hK => ?_) AllReadyH.nil
   refine step_app rfl (.tmp 100) (.tmp 102) 28 28 rfl _ _ (.slice sa' nM' sc') W7 rfl rfl hr ?_
   simp only [Act.put, sl0', sl1', sl2']
   refine hK.out _ _ hS2 (fun HSX => ?_)
   clear hK K
   refine tk hPan (i := 8) (oi := ⟨some 104, Op.nilCheck (.tmp 96), 0, "law.go:45", #[gd' 0, gp' 0, gp' 1, gp' 2, gp' 3, gp' 4, gp' 5, gp' 6, gp' 7], none⟩) (v := .pointer (some ⟨X, 0, none⟩)) rfl (by kernel_rfl) (.inl ⟨by rfl, ?_⟩) HSX ?_
   ·intro wx d0
    obtain ⟨s1, s2, s3⟩ := d0
    go_simp
   simp only [Act.put, sl0', sl1', sl2']
   refine tk hPan (i := 9) (oi := ⟨some 105, Op.fieldAddr 49 (.tmp 104) 3, 0, "law.go:45", #[gd' 8, gp' 0, gp' 1, gp' 2, gp' 3, gp' 4, gp' 5, gp' 6, gp' 7], none⟩) (v := .pointer (some ⟨X, 14, none⟩)) rfl (by kernel_rfl) (.inl ⟨by rfl, ?_⟩) HSX ?_
   ·intro wx d0
    obtain ⟨s1, s2, s3⟩ := d0
    go_simp
   simp only [Act.put, sl0', sl1', sl2']
   refine wpAnyH_ready (rs := [10]) (by kernel_rfl) (by simp) ?_
   refine AllReadyH.cons (o := ⟨none, Op.store 28 (.tmp 105) (.tmp 103), 0, "law.go:45", #[gd' 9, gd' 7, gc' 7, gp' 0, gp' 1, gp' 2, gp' 3, gp' 4, gp' 5, gp' 6, gp' 7], none⟩) rfl (fun K hK => ?_) AllReadyH.nil
   rw [if_pos (by rfl)]
   go_simp
   refine hK.out _ _ hS3 (fun HSX => ?_)
   clear hK K
   refine wpAnyH_done (by kernel_rfl) ?_ _
   exact hQ
 ·rw [if_pos (by rfl)]
  go_simp
  refine hK.out _ _ hS1 (fun HSX => ?_)
  clear hK K
  refine wpAnyH_ready (rs := [4]) (by kernel_rfl) (by simp) ?_
  refine (AllReadyH.cons (o := ⟨some 100, Op.load 28 (.tmp 99), 28, "law.go:45", #[gd' 3], none⟩) rfl (fun K hK => ?_) AllReadyH.nil)
  ·rw [if_pos (by rfl)]
   go_simp
   refine hK.out _ _ hS1 (fun HSX => ?_)
   clear hK K
   refine wpAnyH_ready (rs := [7]) (by kernel_rfl) (by simp) ?_
   refine AllReadyH.cons (o := ⟨some 103, Op.call { callee := Callee.builtin Builtin.append, args := #[Operand.tmp 100, Operand.tmp 102], argTypes := #[28, 28] }, 28, "law.go:45", #[gd' 4, gd' 6], none⟩) rfl (fun K hK => ?_) AllReadyH.nil
   refine step_app rfl (.tmp 100) (.tmp 102) 28 28 rfl _ _ (.slice sa' nM' sc') W7 rfl rfl hr ?_
   simp only [Act.put, sl0', sl1', sl2']
   refine hK.out _ _ hS2 (fun HSX => ?_)
   clear hK K
   refine tk hPan (i := 8) (oi := ⟨some 104, Op.nilCheck (.tmp 96), 0, "law.go:45", #[gd' 0, gp' 0, gp' 1, gp' 2, gp' 3, gp' 4, gp' 5, gp' 6, gp' 7], none⟩) (v := .pointer (some ⟨X, 0, none⟩)) rfl (by kernel_rfl) (.inl ⟨by rfl, ?_⟩) HSX ?_
   ·intro wx d0
    obtain ⟨s1, s2, s3⟩ := d0
    go_simp
   simp only [Act.put, sl0', sl1', sl2']
   refine tk hPan (i := 9) (oi := ⟨some 105, Op.fieldAddr 49 (.tmp 104) 3, 0, "law.go:45", #[gd' 8, gp' 0, gp' 1, gp' 2, gp' 3, gp' 4, gp' 5, gp' 6, gp' 7], none⟩) (v := .pointer (some ⟨X, 14, none⟩)) rfl (by kernel_rfl) (.inl ⟨by rfl, ?_⟩) HSX ?_
   ·intro wx d0
    obtain ⟨s1, s2, s3⟩ := d0
    go_simp
   simp only [Act.put, sl0', sl1', sl2']
   refine wpAnyH_ready (rs := [10]) (by kernel_rfl) (by simp) ?_
   refine AllReadyH.cons (o := ⟨none, Op.store 28 (.tmp 105) (.tmp 103), 0, "law.go:45", #[gd' 9, gd' 7, gc' 7, gp' 0, gp' 1, gp' 2, gp' 3, gp' 4, gp' 5, gp' 6, gp' 7], none⟩) rfl (fun K hK => ?_) AllReadyH.nil
   rw [if_pos (by rfl)]
   go_simp
   refine hK.out _ _ hS3 (fun HSX => ?_)
   clear hK K
   refine wpAnyH_done (by kernel_rfl) ?_ _
   exact hQ
end Go.Proofs.YtknlpjcdemijgaaGreat
namespace Go.Proofs.YtknlpjcdemijgaaGreat
open Go.ChangeShapes Go.WideShapes Go.ChangeAt Go.RowKit
set_option linter.unusedVariables false
def ops14_20 : Array Oper := #[⟨some 116, Op.move (.tmp 3), 44, "law.go:48", #[], none⟩,
 ⟨some 117, Op.move (.tmp 3), 44, "law.go:48", #[], none⟩,
 ⟨some 118, Op.nilCheck (.tmp 117), 0, "law.go:48", #[gd' 1], none⟩,
 ⟨some 119, Op.fieldAddr 49 (.tmp 118) 2, 0, "law.go:48", #[gd' 2], none⟩,
 ⟨some 120, Op.load 27 (.tmp 119), 27, "law.go:48", #[gd' 3], none⟩,
 ⟨some 121, Op.fieldAddr 31 (.tmp 1) 7, 0, "law.go:48", #[], none⟩,
 ⟨some 122, Op.load 27 (.tmp 121), 27, "law.go:48", #[gd' 5], none⟩,
 ⟨some 123, Op.call { callee := Callee.builtin Builtin.append, args := #[Operand.tmp 120, Operand.tmp 122], argTypes := #[27, 27] }, 27, "law.go:48", #[gd' 4, gd' 6], none⟩,
 ⟨some 124, Op.nilCheck (.tmp 116), 0, "law.go:48", #[gd' 0, gp' 0, gp' 1, gp' 2, gp' 3, gp' 4, gp' 5, gp' 6, gp' 7], none⟩,
 ⟨some 125, Op.fieldAddr 49 (.tmp 124) 2, 0, "law.go:48", #[gd' 8, gp' 0, gp' 1, gp' 2, gp' 3, gp' 4, gp' 5, gp' 6, gp' 7], none⟩,
 ⟨none, Op.store 27 (.tmp 125) (.tmp 123), 0, "law.go:48", #[gd' 9, gd' 7, gc' 7, gp' 0, gp' 1, gp' 2, gp' 3, gp' 4, gp' 5, gp' 6, gp' 7], none⟩]
set_option maxHeartbeats 8000000 in
set_option maxRecDepth 100000 in
theorem reg14_20 (W W7 : World) (X B nW wc nG gc nW' wc' : Nat) (wa wa' ga : Option Addr) (hne0 : X ≠ B) (hS : (fun w' : World => w'.cell? ⟨B, 9, none⟩ = some (.slice ga nG gc)) W.drew) (m0 : W.drew.cell? ⟨X, 13, none⟩ = some (.slice wa nW wc))
  (hr : (Builtin.append_ #[27, 27] 27 #[.slice wa nW wc, .slice ga nG gc]).run Tryz.prog W.drew = .ok (.slice wa' nW' wc') W7) (hS2 : (fun w' : World => w'.cell? ⟨B, 9, none⟩ = some (.slice ga nG gc)) W7) (hz : ∃ z, W7.cell? ⟨X, 13, none⟩ = some z) (hf : W7.frozen? ⟨X, 13, none⟩ = false)
  (Q : Exit → Act → World → Prop) (hPan : ∀ c (a : Act) w (d : Option Tmp) v, Q (.panic c) (a.put d v) w → Q (.panic c) a w) {u0 u2 u4 u5 u6 u7 u8 u9 u10 u11 u12 u13 u14 u15 u16 u17 u18 u19 u20 u21 u22 u23 u24 u25 u26 u27 u28 u29 u30 u31 u32 u33 u34 u35 u36 u37 u38 u39 u40 u41 u42 u43 u44 u45 u46 u47 u48 u49 u50 u51 u52 u53 u54 u55 u56 u57 u58 u59 u60 u61 u62 u63 u64 u65 u66 u67 u68 u69 u70 u71 u72 u73 u74 u75 u76 u77 u78 u79 u80 u81 u82 u83 u84 u85 u86 u87 u88 u89 u90 u91 u92 u93 u94 u95 u96 u97 u98 u99 A0 A1 A2 A3 A4 A5 A6 A7 A8 A9 B0 B1 B2 B3 B4 B5 B6 B7 B8 B9 C0 C1 C2 C3 C4 C5 C6 C7 C8 C9 D0 D1 D2 D3 D4 D5 D6 D7 D8 D9 E0 E1 E2 E3 E4 E5 E6 E7 E8 E9 F0 F1 F2 F3 F4 F5 F6 F7 F8 F9 G0 G1 G2 G3 G4 G5 G6 G7 G8 G9 H0 H1 H2 H3 H4 H5 H6 H7 H8 H9 I0 I1 I2 I3 I4 I5 I6 I7 I8 I9 J0 J1 J2 J3 J4 J5 J6 J7 J8 J9 K0 K1 K2 K3 K4 K5 K6 K7 K8 K9 L0 L1 L2 L3 L4 L5 L6 : Value}
  (hQ : Q .normal ⟨#[u0, .pointer (some ⟨B, 0, none⟩), u2, .pointer (some ⟨X, 0, none⟩), u4,u5,u6,u7,u8,u9,u10,u11,u12,u13,u14,u15,u16,u17,u18,u19,u20,u21,u22,u23,u24,u25,u26,u27,u28,u29,u30,u31,u32,u33,u34,u35,u36,u37,u38,u39,u40,u41,u42,u43,u44,u45,u46,u47,u48,u49,u50,u51,u52,u53,u54,u55,u56,u57,u58,u59,u60,u61,u62,u63,u64,u65,u66,u67,u68,u69,u70,u71,u72,u73,u74,u75,u76,u77,u78,u79,u80,u81,u82,u83,u84,u85,u86,u87,u88,u89,u90,u91,u92,u93,u94,u95,u96,u97,u98,u99,A0,A1,A2,A3,A4,A5,A6,A7,A8,A9,B0,B1,B2,B3,B4,B5, .pointer (some ⟨X, 0, none⟩), .pointer (some ⟨X, 0, none⟩), .pointer (some ⟨X, 0, none⟩), .pointer (some ⟨X, 13, none⟩), .slice wa nW wc, .pointer (some ⟨B, 9, none⟩), .slice ga nG gc, .slice wa' nW' wc', .pointer (some ⟨X, 0, none⟩), .pointer (some ⟨X, 13, none⟩), C6,C7,C8,C9,D0,D1,D2,D3,D4,D5,D6,D7,D8,D9,E0,E1,E2,E3,E4,E5,E6,E7,E8,E9,F0,F1,F2,F3,F4,F5,F6,F7,F8,F9,G0,G1,G2,G3,G4,G5,G6,G7,G8,G9,H0,H1,H2,H3,H4,H5,H6,H7,H8,H9,I0,I1,I2,I3,I4,I5,I6,I7,I8,I9,J0,J1,J2,J3,J4,J5,J6,J7,J8,J9,K0,K1,K2,K3,K4,K5,K6,K7,K8,K9,L0,L1,L2,L3,L4,L5,L6], []⟩ (W7.setCell ⟨X, 13, none⟩ (.slice wa' nW' wc'))) :
  Code.wp Tryz.prog (Code.region 20 ops14_20 true) Q ⟨#[u0, .pointer (some ⟨B, 0, none⟩), u2, .pointer (some ⟨X, 0, none⟩), u4,u5,u6,u7,u8,u9,u10,u11,u12,u13,u14,u15,u16,u17,u18,u19,u20,u21,u22,u23,u24,u25,u26,u27,u28,u29,u30,u31,u32,u33,u34,u35,u36,u37,u38,u39,u40,u41,u42,u43,u44,u45,u46,u47,u48,u49,u50,u51,u52,u53,u54,u55,u56,u57,u58,u59,u60,u61,u62,u63,u64,u65,u66,u67,u68,u69,u70,u71,u72,u73,u74,u75,u76,u77,u78,u79,u80,u81,u82,u83,u84,u85,u86,u87,u88,u89,u90,u91,u92,u93,u94,u95,u96,u97,u98,u99,A0,A1,A2,A3,A4,A5,A6,A7,A8,A9,B0,B1,B2,B3,B4,B5,B6,B7,B8,B9,C0,C1,C2,C3,C4,C5,C6,C7,C8,C9,D0,D1,D2,D3,D4,D5,D6,D7,D8,D9,E0,E1,E2,E3,E4,E5,E6,E7,E8,E9,F0,F1,F2,F3,F4,F5,F6,F7,F8,F9,G0,G1,G2,G3,G4,G5,G6,G7,G8,G9,H0,H1,H2,H3,H4,H5,H6,H7,H8,H9,I0,I1,I2,I3,I4,I5,I6,I7,I8,I9,J0,J1,J2,J3,J4,J5,J6,J7,J8,J9,K0,K1,K2,K3,K4,K5,K6,K7,K8,K9,L0,L1,L2,L3,L4,L5,L6], []⟩ W := by
 refine wp_region_held_drew (S := (fun w' : World => w'.cell? ⟨B, 9, none⟩ = some (.slice ga nG gc))) hmx hS (fun HSX => ?_)
 have hS0 := hS
 clear hS
 obtain ⟨W0, hW0⟩ : ∃ W0,W0 = W.drew := ⟨_, rfl⟩
 rw [← hW0] at hS0 HSX m0 hr ⊢
 skip
 clear hW0
 have m1 : W0.cell? ⟨X, 13, none⟩ = some (.slice wa nW wc) := m0
 have hS1 : (fun w' : World => w'.cell? ⟨B, 9, none⟩ = some (.slice ga nG gc)) W0 := hS0
 obtain ⟨zz, hz'⟩ := hz
 have hS3 : (fun w' : World => w'.cell? ⟨B, 9, none⟩ = some (.slice ga nG gc)) (W7.setCell ⟨X, 13, none⟩ (.slice wa' nW' wc')) := (World.cell?_setCell_far _ _ _ _ hne0).trans hS2
 refine tk hPan (i := 0) (oi := ⟨some 116, Op.move (.tmp 3), 44, "law.go:48", #[], none⟩) (v := .pointer (some ⟨X, 0, none⟩)) rfl (by kernel_rfl) (.inl ⟨by rfl, ?_⟩) HSX ?_
 ·intro wx d0
  have s1 := d0
  go_simp
 simp only [Act.put, sl0', sl1', sl2']
 refine tk hPan (i := 1) (oi := ⟨some 117, Op.move (.tmp 3), 44, "law.go:48", #[], none⟩) (v := .pointer (some ⟨X, 0, none⟩)) rfl (by kernel_rfl) (.inl ⟨by rfl, ?_⟩) HSX ?_
 ·intro wx d0
  have s1 := d0
  go_simp
 simp only [Act.put, sl0', sl1', sl2']
 refine tk hPan (i := 2) (oi := ⟨some 118, Op.nilCheck (.tmp 117), 0, "law.go:48", #[gd' 1], none⟩) (v := .pointer (some ⟨X, 0, none⟩)) rfl (by kernel_rfl) (.inl ⟨by rfl, ?_⟩) HSX ?_
 ·intro wx d0
  have s1 := d0
  go_simp
 simp only [Act.put, sl0', sl1', sl2']
 refine tk hPan (i := 3) (oi := ⟨some 119, Op.fieldAddr 49 (.tmp 118) 2, 0, "law.go:48", #[gd' 2], none⟩) (v := .pointer (some ⟨X, 13, none⟩)) rfl (by kernel_rfl) (.inl ⟨by rfl, ?_⟩) HSX ?_
 ·intro wx d0
  have s1 := d0
  go_simp
 simp only [Act.put, sl0', sl1', sl2']
 refine tk hPan (i := 5) (oi := ⟨some 121, Op.fieldAddr 31 (.tmp 1) 7, 0, "law.go:48", #[], none⟩) (v := .pointer (some ⟨B, 9, none⟩)) rfl (by kernel_rfl) (.inl ⟨by rfl, ?_⟩) HSX ?_
 ·intro wx d0
  have s1 := d0
  go_simp
 simp only [Act.put, sl0', sl1', sl2']
 refine tk hPan (i := 6) (oi := ⟨some 122, Op.load 27 (.tmp 121), 27, "law.go:48", #[gd' 5], none⟩) (v := .slice ga nG gc) rfl (by kernel_rfl) (.inl ⟨by rfl, ?_⟩) HSX ?_
 ·intro wx d0
  have s1 := d0
  go_simp
 simp only [Act.put, sl0', sl1', sl2']
 refine wpAnyH_ready (rs := [4]) (by kernel_rfl) (by simp) ?_
 refine (AllReadyH.cons (o := ⟨some 120, Op.load 27 (.tmp 119), 27, "law.go:48", #[gd' 3], none⟩) rfl (fun K hK => ?_) AllReadyH.nil)
 ·rw [if_pos (by rfl)]
  go_simp
  refine hK.out _ _ hS0 (fun HSX => ?_)
  clear hK K
  refine wpAnyH_ready (rs := [7]) (by kernel_rfl) (by simp) ?_
  refine AllReadyH.cons (o := ⟨some 123, Op.call { callee := Callee.builtin Builtin.append, args := #[Operand.tmp 120, Operand.tmp 122], argTypes := #[27, 27] }, 27, "law.go:48", #[gd' 4, gd' 6], none⟩) rfl (fun K hK => ?_) AllReadyH.nil
  refine step_app rfl (.tmp 120) (.tmp 122) 27 27 rfl _ _ (.slice wa' nW' wc') W7 rfl rfl hr ?_
  simp only [Act.put, sl0', sl1', sl2']
  refine hK.out _ _ hS2 (fun HSX => ?_)
  clear hK K
  refine tk hPan (i := 8) (oi := ⟨some 124, Op.nilCheck (.tmp 116), 0, "law.go:48", #[gd' 0, gp' 0, gp' 1, gp' 2, gp' 3, gp' 4, gp' 5, gp' 6, gp' 7], none⟩) (v := .pointer (some ⟨X, 0, none⟩)) rfl (by kernel_rfl) (.inl ⟨by rfl, ?_⟩) HSX ?_
  ·intro wx d0
   have s1 := d0
   go_simp
  simp only [Act.put, sl0', sl1', sl2']
  refine tk hPan (i := 9) (oi := ⟨some 125, Op.fieldAddr 49 (.tmp 124) 2, 0, "law.go:48", #[gd' 8, gp' 0, gp' 1, gp' 2, gp' 3, gp' 4, gp' 5, gp' 6, gp' 7], none⟩) (v := .pointer (some ⟨X, 13, none⟩)) rfl (by kernel_rfl) (.inl ⟨by rfl, ?_⟩) HSX ?_
  ·intro wx d0
   have s1 := d0
   go_simp
  simp only [Act.put, sl0', sl1', sl2']
  refine wpAnyH_ready (rs := [10]) (by kernel_rfl) (by simp) ?_
  refine AllReadyH.cons (o := ⟨none, Op.store 27 (.tmp 125) (.tmp 123), 0, "law.go:48", #[gd' 9, gd' 7, gc' 7, gp' 0, gp' 1, gp' 2, gp' 3, gp' 4, gp' 5, gp' 6, gp' 7], none⟩) rfl (fun K hK => ?_) AllReadyH.nil
  rw [if_pos (by rfl)]
  go_simp
  refine hK.out _ _ hS3 (fun HSX => ?_)
  clear hK K
  refine wpAnyH_done (by kernel_rfl) ?_ _
  exact hQ
def ops14_22 : Array Oper := #[⟨some 136, Op.move (.tmp 3), 44, "law.go:50", #[], none⟩,
 ⟨some 137, Op.move (.tmp 3), 44, "law.go:50", #[], none⟩,
 ⟨some 138, Op.nilCheck (.tmp 137), 0, "law.go:50", #[gd' 1], none⟩,
 ⟨some 139, Op.fieldAddr 49 (.tmp 138) 4, 0, "law.go:50", #[gd' 2], none⟩,
 ⟨some 140, Op.load 29 (.tmp 139), 29, "law.go:50", #[gd' 3], none⟩,
 ⟨some 141, Op.fieldAddr 31 (.tmp 1) 9, 0, "law.go:50", #[], none⟩,
 ⟨some 142, Op.load 29 (.tmp 141), 29, "law.go:50", #[gd' 5], none⟩,
 ⟨some 143, Op.call { callee := Callee.builtin Builtin.append, args := #[Operand.tmp 140, Operand.tmp 142], argTypes := #[29, 29] }, 29, "law.go:50", #[gd' 4, gd' 6], none⟩,
 ⟨some 144, Op.nilCheck (.tmp 136), 0, "law.go:50", #[gd' 0, gp' 0, gp' 1, gp' 2, gp' 3, gp' 4, gp' 5, gp' 6, gp' 7], none⟩,
 ⟨some 145, Op.fieldAddr 49 (.tmp 144) 4, 0, "law.go:50", #[gd' 8, gp' 0, gp' 1, gp' 2, gp' 3, gp' 4, gp' 5, gp' 6, gp' 7], none⟩,
 ⟨none, Op.store 29 (.tmp 145) (.tmp 143), 0, "law.go:50", #[gd' 9, gd' 7, gc' 7, gp' 0, gp' 1, gp' 2, gp' 3, gp' 4, gp' 5, gp' 6, gp' 7], none⟩]
set_option maxHeartbeats 8000000 in
set_option maxRecDepth 100000 in
theorem reg14_22 (W W7 : World) (X B nW wc nG gc nW' wc' : Nat) (wa wa' ga : Option Addr) (hne0 : X ≠ B) (hS : (fun w' : World => w'.cell? ⟨B, 11, none⟩ = some (.slice ga nG gc)) W.drew) (m0 : W.drew.cell? ⟨X, 15, none⟩ = some (.slice wa nW wc))
  (hr : (Builtin.append_ #[29, 29] 29 #[.slice wa nW wc, .slice ga nG gc]).run Tryz.prog W.drew = .ok (.slice wa' nW' wc') W7) (hS2 : (fun w' : World => w'.cell? ⟨B, 11, none⟩ = some (.slice ga nG gc)) W7) (hz : ∃ z, W7.cell? ⟨X, 15, none⟩ = some z) (hf : W7.frozen? ⟨X, 15, none⟩ = false)
  (Q : Exit → Act → World → Prop) (hPan : ∀ c (a : Act) w (d : Option Tmp) v, Q (.panic c) (a.put d v) w → Q (.panic c) a w) {u0 u2 u4 u5 u6 u7 u8 u9 u10 u11 u12 u13 u14 u15 u16 u17 u18 u19 u20 u21 u22 u23 u24 u25 u26 u27 u28 u29 u30 u31 u32 u33 u34 u35 u36 u37 u38 u39 u40 u41 u42 u43 u44 u45 u46 u47 u48 u49 u50 u51 u52 u53 u54 u55 u56 u57 u58 u59 u60 u61 u62 u63 u64 u65 u66 u67 u68 u69 u70 u71 u72 u73 u74 u75 u76 u77 u78 u79 u80 u81 u82 u83 u84 u85 u86 u87 u88 u89 u90 u91 u92 u93 u94 u95 u96 u97 u98 u99 A0 A1 A2 A3 A4 A5 A6 A7 A8 A9 B0 B1 B2 B3 B4 B5 B6 B7 B8 B9 C0 C1 C2 C3 C4 C5 C6 C7 C8 C9 D0 D1 D2 D3 D4 D5 D6 D7 D8 D9 E0 E1 E2 E3 E4 E5 E6 E7 E8 E9 F0 F1 F2 F3 F4 F5 F6 F7 F8 F9 G0 G1 G2 G3 G4 G5 G6 G7 G8 G9 H0 H1 H2 H3 H4 H5 H6 H7 H8 H9 I0 I1 I2 I3 I4 I5 I6 I7 I8 I9 J0 J1 J2 J3 J4 J5 J6 J7 J8 J9 K0 K1 K2 K3 K4 K5 K6 K7 K8 K9 L0 L1 L2 L3 L4 L5 L6 : Value}
  (hQ : Q .normal ⟨#[u0, .pointer (some ⟨B, 0, none⟩), u2, .pointer (some ⟨X, 0, none⟩), u4,u5,u6,u7,u8,u9,u10,u11,u12,u13,u14,u15,u16,u17,u18,u19,u20,u21,u22,u23,u24,u25,u26,u27,u28,u29,u30,u31,u32,u33,u34,u35,u36,u37,u38,u39,u40,u41,u42,u43,u44,u45,u46,u47,u48,u49,u50,u51,u52,u53,u54,u55,u56,u57,u58,u59,u60,u61,u62,u63,u64,u65,u66,u67,u68,u69,u70,u71,u72,u73,u74,u75,u76,u77,u78,u79,u80,u81,u82,u83,u84,u85,u86,u87,u88,u89,u90,u91,u92,u93,u94,u95,u96,u97,u98,u99,A0,A1,A2,A3,A4,A5,A6,A7,A8,A9,B0,B1,B2,B3,B4,B5,B6,B7,B8,B9,C0,C1,C2,C3,C4,C5,C6,C7,C8,C9,D0,D1,D2,D3,D4,D5, .pointer (some ⟨X, 0, none⟩), .pointer (some ⟨X, 0, none⟩), .pointer (some ⟨X, 0, none⟩), .pointer (some ⟨X, 15, none⟩), .slice wa nW wc, .pointer (some ⟨B, 11, none⟩), .slice ga nG gc, .slice wa' nW' wc', .pointer (some ⟨X, 0, none⟩), .pointer (some ⟨X, 15, none⟩), E6,E7,E8,E9,F0,F1,F2,F3,F4,F5,F6,F7,F8,F9,G0,G1,G2,G3,G4,G5,G6,G7,G8,G9,H0,H1,H2,H3,H4,H5,H6,H7,H8,H9,I0,I1,I2,I3,I4,I5,I6,I7,I8,I9,J0,J1,J2,J3,J4,J5,J6,J7,J8,J9,K0,K1,K2,K3,K4,K5,K6,K7,K8,K9,L0,L1,L2,L3,L4,L5,L6], []⟩ (W7.setCell ⟨X, 15, none⟩ (.slice wa' nW' wc'))) :
  Code.wp Tryz.prog (Code.region 22 ops14_22 true) Q ⟨#[u0, .pointer (some ⟨B, 0, none⟩), u2, .pointer (some ⟨X, 0, none⟩), u4,u5,u6,u7,u8,u9,u10,u11,u12,u13,u14,u15,u16,u17,u18,u19,u20,u21,u22,u23,u24,u25,u26,u27,u28,u29,u30,u31,u32,u33,u34,u35,u36,u37,u38,u39,u40,u41,u42,u43,u44,u45,u46,u47,u48,u49,u50,u51,u52,u53,u54,u55,u56,u57,u58,u59,u60,u61,u62,u63,u64,u65,u66,u67,u68,u69,u70,u71,u72,u73,u74,u75,u76,u77,u78,u79,u80,u81,u82,u83,u84,u85,u86,u87,u88,u89,u90,u91,u92,u93,u94,u95,u96,u97,u98,u99,A0,A1,A2,A3,A4,A5,A6,A7,A8,A9,B0,B1,B2,B3,B4,B5,B6,B7,B8,B9,C0,C1,C2,C3,C4,C5,C6,C7,C8,C9,D0,D1,D2,D3,D4,D5,D6,D7,D8,D9,E0,E1,E2,E3,E4,E5,E6,E7,E8,E9,F0,F1,F2,F3,F4,F5,F6,F7,F8,F9,G0,G1,G2,G3,G4,G5,G6,G7,G8,G9,H0,H1,H2,H3,H4,H5,H6,H7,H8,H9,I0,I1,I2,I3,I4,I5,I6,I7,I8,I9,J0,J1,J2,J3,J4,J5,J6,J7,J8,J9,K0,K1,K2,K3,K4,K5,K6,K7,K8,K9,L0,L1,L2,L3,L4,L5,L6], []⟩ W := by
 refine wp_region_held_drew (S := (fun w' : World => w'.cell? ⟨B, 11, none⟩ = some (.slice ga nG gc))) hmx hS (fun HSX => ?_)
 have hS0 := hS
 clear hS
 obtain ⟨W0, hW0⟩ : ∃ W0,W0 = W.drew := ⟨_, rfl⟩
 rw [← hW0] at hS0 HSX m0 hr ⊢
 skip
 clear hW0
 have m1 : W0.cell? ⟨X, 15, none⟩ = some (.slice wa nW wc) := m0
 have hS1 : (fun w' : World => w'.cell? ⟨B, 11, none⟩ = some (.slice ga nG gc)) W0 := hS0
 obtain ⟨zz, hz'⟩ := hz
 have hS3 : (fun w' : World => w'.cell? ⟨B, 11, none⟩ = some (.slice ga nG gc)) (W7.setCell ⟨X, 15, none⟩ (.slice wa' nW' wc')) := (World.cell?_setCell_far _ _ _ _ hne0).trans hS2
 refine tk hPan (i := 0) (oi := ⟨some 136, Op.move (.tmp 3), 44, "law.go:50", #[], none⟩) (v := .pointer (some ⟨X, 0, none⟩)) rfl (by kernel_rfl) (.inl ⟨by rfl, ?_⟩) HSX ?_
 ·intro wx d0
  have s1 := d0
  go_simp
 simp only [Act.put, sl0', sl1', sl2']
 refine tk hPan (i := 1) (oi := ⟨some 137, Op.move (.tmp 3), 44, "law.go:50", #[], none⟩) (v := .pointer (some ⟨X, 0, none⟩)) rfl (by kernel_rfl) (.inl ⟨by rfl, ?_⟩) HSX ?_
 ·intro wx d0
  have s1 := d0
  go_simp
 simp only [Act.put, sl0', sl1', sl2']
 refine tk hPan (i := 2) (oi := ⟨some 138, Op.nilCheck (.tmp 137), 0, "law.go:50", #[gd' 1], none⟩) (v := .pointer (some ⟨X, 0, none⟩)) rfl (by kernel_rfl) (.inl ⟨by rfl, ?_⟩) HSX ?_
 ·intro wx d0
  have s1 := d0
  go_simp
 simp only [Act.put, sl0', sl1', sl2']
 refine tk hPan (i := 3) (oi := ⟨some 139, Op.fieldAddr 49 (.tmp 138) 4, 0, "law.go:50", #[gd' 2], none⟩) (v := .pointer (some ⟨X, 15, none⟩)) rfl (by kernel_rfl) (.inl ⟨by rfl, ?_⟩) HSX ?_
 ·intro wx d0
  have s1 := d0
  go_simp
 simp only [Act.put, sl0', sl1', sl2']
 refine tk hPan (i := 5) (oi := ⟨some 141, Op.fieldAddr 31 (.tmp 1) 9, 0, "law.go:50", #[], none⟩) (v := .pointer (some ⟨B, 11, none⟩)) rfl (by kernel_rfl) (.inl ⟨by rfl, ?_⟩) HSX ?_
 ·intro wx d0
  have s1 := d0
  go_simp
 simp only [Act.put, sl0', sl1', sl2']
 refine tk hPan (i := 6) (oi := ⟨some 142, Op.load 29 (.tmp 141), 29, "law.go:50", #[gd' 5], none⟩) (v := .slice ga nG gc) rfl (by kernel_rfl) (.inl ⟨by rfl, ?_⟩) HSX ?_
 ·intro wx d0
  have s1 := d0
  go_simp
 simp only [Act.put, sl0', sl1', sl2']
 refine wpAnyH_ready (rs := [4]) (by kernel_rfl) (by simp) ?_
 refine (AllReadyH.cons (o := ⟨some 140, Op.load 29 (.tmp 139), 29, "law.go:50", #[gd' 3], none⟩) rfl (fun K hK => ?_) AllReadyH.nil)
 ·rw [if_pos (by rfl)]
  go_simp
  refine hK.out _ _ hS0 (fun HSX => ?_)
  clear hK K
  refine wpAnyH_ready (rs := [7]) (by kernel_rfl) (by simp) ?_
  refine AllReadyH.cons (o := ⟨some 143, Op.call { callee := Callee.builtin Builtin.append, args := #[Operand.tmp 140, Operand.tmp 142], argTypes := #[29, 29] }, 29, "law.go:50", #[gd' 4, gd' 6], none⟩) rfl (fun K hK => ?_) AllReadyH.nil
  refine step_app rfl (.tmp 140) (.tmp 142) 29 29 rfl _ _ (.slice wa' nW' wc') W7 rfl rfl hr ?_
  simp only [Act.put, sl0', sl1', sl2']
  refine hK.out _ _ hS2 (fun HSX => ?_)
  clear hK K
  refine tk hPan (i := 8) (oi := ⟨some 144, Op.nilCheck (.tmp 136), 0, "law.go:50", #[gd' 0, gp' 0, gp' 1, gp' 2, gp' 3, gp' 4, gp' 5, gp' 6, gp' 7], none⟩) (v := .pointer (some ⟨X, 0, none⟩)) rfl (by kernel_rfl) (.inl ⟨by rfl, ?_⟩) HSX ?_
  ·intro wx d0
   have s1 := d0
   go_simp
  simp only [Act.put, sl0', sl1', sl2']
  refine tk hPan (i := 9) (oi := ⟨some 145, Op.fieldAddr 49 (.tmp 144) 4, 0, "law.go:50", #[gd' 8, gp' 0, gp' 1, gp' 2, gp' 3, gp' 4, gp' 5, gp' 6, gp' 7], none⟩) (v := .pointer (some ⟨X, 15, none⟩)) rfl (by kernel_rfl) (.inl ⟨by rfl, ?_⟩) HSX ?_
  ·intro wx d0
   have s1 := d0
   go_simp
  simp only [Act.put, sl0', sl1', sl2']
  refine wpAnyH_ready (rs := [10]) (by kernel_rfl) (by simp) ?_
  refine AllReadyH.cons (o := ⟨none, Op.store 29 (.tmp 145) (.tmp 143), 0, "law.go:50", #[gd' 9, gd' 7, gc' 7, gp' 0, gp' 1, gp' 2, gp' 3, gp' 4, gp' 5, gp' 6, gp' 7], none⟩) rfl (fun K hK => ?_) AllReadyH.nil
  rw [if_pos (by rfl)]
  go_simp
  refine hK.out _ _ hS3 (fun HSX => ?_)
  clear hK K
  refine wpAnyH_done (by kernel_rfl) ?_ _
  exact hQ
end Go.Proofs.YtknlpjcdemijgaaGreat
namespace Go.Proofs.YtknlpjcdemijgaaGreat
open Go.ChangeShapes Go.WideShapes Go.ChangeAt Go.RowKit
set_option linter.unusedVariables false
def ops14_24 : Array Oper := #[⟨some 156, Op.move (.tmp 3), 44, "law.go:52", #[], none⟩,
 ⟨some 157, Op.move (.tmp 3), 44, "law.go:52", #[], none⟩,
 ⟨some 158, Op.nilCheck (.tmp 157), 0, "law.go:52", #[gd' 1], none⟩,
 ⟨some 159, Op.fieldAddr 49 (.tmp 158) 1, 0, "law.go:52", #[gd' 2], none⟩,
 ⟨some 160, Op.load 26 (.tmp 159), 26, "law.go:52", #[gd' 3], none⟩,
 ⟨some 161, Op.move (.tmp 3), 44, "law.go:52", #[], none⟩,
 ⟨some 162, Op.nilCheck (.tmp 161), 0, "law.go:52", #[gd' 5], none⟩,
 ⟨some 163, Op.fieldAddr 49 (.tmp 162) 1, 0, "law.go:52", #[gd' 6], none⟩,
 ⟨some 164, Op.load 26 (.tmp 163), 26, "law.go:52", #[gd' 7], none⟩,
 ⟨some 165, Op.call { callee := Callee.builtin Builtin.len, args := #[Operand.tmp 164], argTypes := #[26] }, 3, "law.go:52", #[gd' 8], none⟩,
 ⟨some 166, Op.binOp BinOp.sub 3 (.tmp 165) (Operand.const (Value.int IntKind.i64 1)) 3, 3, "law.go:52", #[gd' 9], none⟩,
 ⟨some 167, Op.slice 26 (.tmp 160) none (some (.tmp 166)) none, 26, "law.go:52", #[gd' 4, gd' 10], none⟩,
 ⟨some 168, Op.nilCheck (.tmp 156), 0, "law.go:52", #[gd' 0, gp' 0, gp' 1, gp' 2, gp' 3, gp' 4, gp' 5, gp' 6, gp' 7, gp' 8, gp' 9, gp' 10, gp' 11], none⟩,
 ⟨some 169, Op.fieldAddr 49 (.tmp 168) 0, 0, "law.go:52", #[gd' 12, gp' 0, gp' 1, gp' 2, gp' 3, gp' 4, gp' 5, gp' 6, gp' 7, gp' 8, gp' 9, gp' 10, gp' 11], none⟩,
 ⟨some 170, Op.fieldAddr 31 (.tmp 169) 6, 0, "law.go:52", #[gd' 13, gp' 0, gp' 1, gp' 2, gp' 3, gp' 4, gp' 5, gp' 6, gp' 7, gp' 8, gp' 9, gp' 10, gp' 11], none⟩,
 ⟨none, Op.store 26 (.tmp 170) (.tmp 167), 0, "law.go:52", #[gd' 14, gd' 11, gp' 0, gp' 1, gp' 2, gp' 3, gp' 4, gp' 5, gp' 6, gp' 7, gp' 8, gp' 9, gp' 10, gp' 11], none⟩]
set_option maxHeartbeats 8000000 in
set_option maxRecDepth 100000 in
theorem reg14_24 (W : World) (X n c : Nat) (a : Option Addr) (hn : n < 140737488355328) (hc : n + 1 ≤ c) (hA : ∃ g, a = some ⟨g, 0, none⟩) (hS : (fun w' : World => w'.cell? ⟨X, 12, none⟩ = some (.slice a (n + 1) c)) W.drew) (hz : ∃ z, W.drew.cell? ⟨X, 8, none⟩ = some z) (hf : W.drew.frozen? ⟨X, 8, none⟩ = false)
  (Q : Exit → Act → World → Prop) (hPan : ∀ c (a : Act) w (d : Option Tmp) v, Q (.panic c) (a.put d v) w → Q (.panic c) a w) {u0 u1 u2 u4 u5 u6 u7 u8 u9 u10 u11 u12 u13 u14 u15 u16 u17 u18 u19 u20 u21 u22 u23 u24 u25 u26 u27 u28 u29 u30 u31 u32 u33 u34 u35 u36 u37 u38 u39 u40 u41 u42 u43 u44 u45 u46 u47 u48 u49 u50 u51 u52 u53 u54 u55 u56 u57 u58 u59 u60 u61 u62 u63 u64 u65 u66 u67 u68 u69 u70 u71 u72 u73 u74 u75 u76 u77 u78 u79 u80 u81 u82 u83 u84 u85 u86 u87 u88 u89 u90 u91 u92 u93 u94 u95 u96 u97 u98 u99 A0 A1 A2 A3 A4 A5 A6 A7 A8 A9 B0 B1 B2 B3 B4 B5 B6 B7 B8 B9 C0 C1 C2 C3 C4 C5 C6 C7 C8 C9 D0 D1 D2 D3 D4 D5 D6 D7 D8 D9 E0 E1 E2 E3 E4 E5 E6 E7 E8 E9 F0 F1 F2 F3 F4 F5 F6 F7 F8 F9 G0 G1 G2 G3 G4 G5 G6 G7 G8 G9 H0 H1 H2 H3 H4 H5 H6 H7 H8 H9 I0 I1 I2 I3 I4 I5 I6 I7 I8 I9 J0 J1 J2 J3 J4 J5 J6 J7 J8 J9 K0 K1 K2 K3 K4 K5 K6 K7 K8 K9 L0 L1 L2 L3 L4 L5 L6 : Value}
  (hQ : Q .normal ⟨#[u0,u1,u2, .pointer (some ⟨X, 0, none⟩), u4,u5,u6,u7,u8,u9,u10,u11,u12,u13,u14,u15,u16,u17,u18,u19,u20,u21,u22,u23,u24,u25,u26,u27,u28,u29,u30,u31,u32,u33,u34,u35,u36,u37,u38,u39,u40,u41,u42,u43,u44,u45,u46,u47,u48,u49,u50,u51,u52,u53,u54,u55,u56,u57,u58,u59,u60,u61,u62,u63,u64,u65,u66,u67,u68,u69,u70,u71,u72,u73,u74,u75,u76,u77,u78,u79,u80,u81,u82,u83,u84,u85,u86,u87,u88,u89,u90,u91,u92,u93,u94,u95,u96,u97,u98,u99,A0,A1,A2,A3,A4,A5,A6,A7,A8,A9,B0,B1,B2,B3,B4,B5,B6,B7,B8,B9,C0,C1,C2,C3,C4,C5,C6,C7,C8,C9,D0,D1,D2,D3,D4,D5,D6,D7,D8,D9,E0,E1,E2,E3,E4,E5,E6,E7,E8,E9,F0,F1,F2,F3,F4,F5, .pointer (some ⟨X, 0, none⟩), .pointer (some ⟨X, 0, none⟩), .pointer (some ⟨X, 0, none⟩), .pointer (some ⟨X, 12, none⟩), .slice a (n + 1) c, .pointer (some ⟨X, 0, none⟩), .pointer (some ⟨X, 0, none⟩), .pointer (some ⟨X, 12, none⟩), .slice a (n + 1) c, .int .i64 ((n : Int) + 1), .int .i64 (n : Int), .slice a n c, .pointer (some ⟨X, 0, none⟩), .pointer (some ⟨X, 0, none⟩), .pointer (some ⟨X, 8, none⟩), H1,H2,H3,H4,H5,H6,H7,H8,H9,I0,I1,I2,I3,I4,I5,I6,I7,I8,I9,J0,J1,J2,J3,J4,J5,J6,J7,J8,J9,K0,K1,K2,K3,K4,K5,K6,K7,K8,K9,L0,L1,L2,L3,L4,L5,L6], []⟩ (W.drew.setCell ⟨X, 8, none⟩ (.slice a n c))) :
  Code.wp Tryz.prog (Code.region 24 ops14_24 true) Q ⟨#[u0,u1,u2, .pointer (some ⟨X, 0, none⟩), u4,u5,u6,u7,u8,u9,u10,u11,u12,u13,u14,u15,u16,u17,u18,u19,u20,u21,u22,u23,u24,u25,u26,u27,u28,u29,u30,u31,u32,u33,u34,u35,u36,u37,u38,u39,u40,u41,u42,u43,u44,u45,u46,u47,u48,u49,u50,u51,u52,u53,u54,u55,u56,u57,u58,u59,u60,u61,u62,u63,u64,u65,u66,u67,u68,u69,u70,u71,u72,u73,u74,u75,u76,u77,u78,u79,u80,u81,u82,u83,u84,u85,u86,u87,u88,u89,u90,u91,u92,u93,u94,u95,u96,u97,u98,u99,A0,A1,A2,A3,A4,A5,A6,A7,A8,A9,B0,B1,B2,B3,B4,B5,B6,B7,B8,B9,C0,C1,C2,C3,C4,C5,C6,C7,C8,C9,D0,D1,D2,D3,D4,D5,D6,D7,D8,D9,E0,E1,E2,E3,E4,E5,E6,E7,E8,E9,F0,F1,F2,F3,F4,F5,F6,F7,F8,F9,G0,G1,G2,G3,G4,G5,G6,G7,G8,G9,H0,H1,H2,H3,H4,H5,H6,H7,H8,H9,I0,I1,I2,I3,I4,I5,I6,I7,I8,I9,J0,J1,J2,J3,J4,J5,J6,J7,J8,J9,K0,K1,K2,K3,K4,K5,K6,K7,K8,K9,L0,L1,L2,L3,L4,L5,L6], []⟩ W := by
 refine wp_region_held_drew (S := (fun w' : World => w'.cell? ⟨X, 12, none⟩ = some (.slice a (n + 1) c))) hmx hS (fun HSX => ?_)
 have hS0 := hS
 clear hS
 obtain ⟨W0, hW0⟩ : ∃ W0,W0 = W.drew := ⟨_, rfl⟩
 rw [← hW0] at hS0 HSX hz hf hQ ⊢
 clear hW0
 obtain ⟨g, rfl⟩ := hA
 obtain ⟨zz, hz'⟩ := hz
 have hS3 : (fun w' : World => w'.cell? ⟨X, 12, none⟩ = some (.slice (some ⟨g, 0, none⟩) (n + 1) c)) (W0.setCell ⟨X, 8, none⟩ (.slice (some ⟨g, 0, none⟩) n c)) := (World.cell?_setCell_other _ _ _ _ (by simp)).trans hS0
 have hwr : IntKind.i64.wrap (n : Int) = n := by simp [IntKind.wrap, IntKind.bits, IntKind.signed]; omega
 have hc2 : n ≤ c := by omega
 refine tk hPan (i := 0) (oi := ⟨some 156, Op.move (.tmp 3), 44, "law.go:52", #[], none⟩) (v := .pointer (some ⟨X, 0, none⟩)) rfl (by kernel_rfl) (.inl ⟨by rfl, ?_⟩) HSX ?_
 ·intro wx d0
  have s1 := d0
  go_simp
 simp only [Act.put, sl0', sl1', sl2']
 refine tk hPan (i := 1) (oi := ⟨some 157, Op.move (.tmp 3), 44, "law.go:52", #[], none⟩) (v := .pointer (some ⟨X, 0, none⟩)) rfl (by kernel_rfl) (.inl ⟨by rfl, ?_⟩) HSX ?_
 ·intro wx d0
  have s1 := d0
  go_simp
 simp only [Act.put, sl0', sl1', sl2']
 refine tk hPan (i := 2) (oi := ⟨some 158, Op.nilCheck (.tmp 157), 0, "law.go:52", #[gd' 1], none⟩) (v := .pointer (some ⟨X, 0, none⟩)) rfl (by kernel_rfl) (.inl ⟨by rfl, ?_⟩) HSX ?_
 ·intro wx d0
  have s1 := d0
  go_simp
 simp only [Act.put, sl0', sl1', sl2']
 refine tk hPan (i := 3) (oi := ⟨some 159, Op.fieldAddr 49 (.tmp 158) 1, 0, "law.go:52", #[gd' 2], none⟩) (v := .pointer (some ⟨X, 12, none⟩)) rfl (by kernel_rfl) (.inl ⟨by rfl, ?_⟩) HSX ?_
 ·intro wx d0
  have s1 := d0
  go_simp
 simp only [Act.put, sl0', sl1', sl2']
 refine tk hPan (i := 4) (oi := ⟨some 160, Op.load 26 (.tmp 159), 26, "law.go:52", #[gd' 3], none⟩) (v := .slice (some ⟨g, 0, none⟩) (n + 1) c) rfl (by kernel_rfl) (.inl ⟨by rfl, ?_⟩) HSX ?_
 ·intro wx d0
  have s1 := d0
  go_simp
 simp only [Act.put, sl0', sl1', sl2']
 refine tk hPan (i := 5) (oi := ⟨some 161, Op.move (.tmp 3), 44, "law.go:52", #[], none⟩) (v := .pointer (some ⟨X, 0, none⟩)) rfl (by kernel_rfl) (.inl ⟨by rfl, ?_⟩) HSX ?_
 ·intro wx d0
  have s1 := d0
  go_simp
 simp only [Act.put, sl0', sl1', sl2']
 refine tk hPan (i := 6) (oi := ⟨some 162, Op.nilCheck (.tmp 161), 0, "law.go:52", #[gd' 5], none⟩) (v := .pointer (some ⟨X, 0, none⟩)) rfl (by kernel_rfl) (.inl ⟨by rfl, ?_⟩) HSX ?_
 ·intro wx d0
  have s1 := d0
  go_simp
 simp only [Act.put, sl0', sl1', sl2']
 refine tk hPan (i := 7) (oi := ⟨some 163, Op.fieldAddr 49 (.tmp 162) 1, 0, "law.go:52", #[gd' 6], none⟩) (v := .pointer (some ⟨X, 12, none⟩)) rfl (by kernel_rfl) (.inl ⟨by rfl, ?_⟩) HSX ?_
 ·intro wx d0
  have s1 := d0
  go_simp
 simp only [Act.put, sl0', sl1', sl2']
 refine tk hPan (i := 8) (oi := ⟨some 164, Op.load 26 (.tmp 163), 26, "law.go:52", #[gd' 7], none⟩) (v := .slice (some ⟨g, 0, none⟩) (n + 1) c) rfl (by kernel_rfl) (.inl ⟨by rfl, ?_⟩) HSX ?_
 ·intro wx d0
  have s1 := d0
  go_simp
 simp only [Act.put, sl0', sl1', sl2']
 refine tk hPan (i := 9) (oi := ⟨some 165, Op.call { callee := Callee.builtin Builtin.len, args := #[Operand.tmp 164], argTypes := #[26] }, 3, "law.go:52", #[gd' 8], none⟩) (v := .int .i64 ((n : Int) + 1)) rfl (by kernel_rfl) (.inl ⟨by rfl, ?_⟩) HSX ?_
 ·intro wx d0
  have s1 := d0
  go_simp
 simp only [Act.put, sl0', sl1', sl2']
 refine tk hPan (i := 10) (oi := ⟨some 166, Op.binOp BinOp.sub 3 (.tmp 165) (Operand.const (Value.int IntKind.i64 1)) 3, 3, "law.go:52", #[gd' 9], none⟩) (v := .int .i64 (n : Int)) rfl (by kernel_rfl) (.inl ⟨by rfl, ?_⟩) HSX ?_
 ·intro wx d0
  have s1 := d0
  go_simp
 simp only [Act.put, sl0', sl1', sl2']
 refine tk hPan (i := 11) (oi := ⟨some 167, Op.slice 26 (.tmp 160) none (some (.tmp 166)) none, 26, "law.go:52", #[gd' 4, gd' 10], none⟩) (v := .slice (some ⟨g, 0, none⟩) n c) rfl (by kernel_rfl) (.inl ⟨by rfl, ?_⟩) HSX ?_
 ·intro wx d0
  have s1 := d0
  go_simp
 simp only [Act.put, sl0', sl1', sl2']
 refine tk hPan (i := 12) (oi := ⟨some 168, Op.nilCheck (.tmp 156), 0, "law.go:52", #[gd' 0, gp' 0, gp' 1, gp' 2, gp' 3, gp' 4, gp' 5, gp' 6, gp' 7, gp' 8, gp' 9, gp' 10, gp' 11], none⟩) (v := .pointer (some ⟨X, 0, none⟩)) rfl (by kernel_rfl) (.inl ⟨by rfl, ?_⟩) HSX ?_
 ·intro wx d0
  have s1 := d0
  go_simp
 simp only [Act.put, sl0', sl1', sl2']
 refine tk hPan (i := 13) (oi := ⟨some 169, Op.fieldAddr 49 (.tmp 168) 0, 0, "law.go:52", #[gd' 12, gp' 0, gp' 1, gp' 2, gp' 3, gp' 4, gp' 5, gp' 6, gp' 7, gp' 8, gp' 9, gp' 10, gp' 11], none⟩) (v := .pointer (some ⟨X, 0, none⟩)) rfl (by kernel_rfl) (.inl ⟨by rfl, ?_⟩) HSX ?_
 ·intro wx d0
  have s1 := d0
  go_simp
 simp only [Act.put, sl0', sl1', sl2']
 refine tk hPan (i := 14) (oi := ⟨some 170, Op.fieldAddr 31 (.tmp 169) 6, 0, "law.go:52", #[gd' 13, gp' 0, gp' 1, gp' 2, gp' 3, gp' 4, gp' 5, gp' 6, gp' 7, gp' 8, gp' 9, gp' 10, gp' 11], none⟩) (v := .pointer (some ⟨X, 8, none⟩)) rfl (by kernel_rfl) (.inl ⟨by rfl, ?_⟩) HSX ?_
 ·intro wx d0
  have s1 := d0
  go_simp
 simp only [Act.put, sl0', sl1', sl2']
 refine wpAnyH_ready (rs := [15]) (by kernel_rfl) (by simp) ?_
 refine AllReadyH.cons (o := ⟨none, Op.store 26 (.tmp 170) (.tmp 167), 0, "law.go:52", #[gd' 14, gd' 11, gp' 0, gp' 1, gp' 2, gp' 3, gp' 4, gp' 5, gp' 6, gp' 7, gp' 8, gp' 9, gp' 10, gp' 11], none⟩) rfl (fun K hK => ?_) AllReadyH.nil
 rw [if_pos (by rfl)]
 go_simp
 refine hK.out _ _ hS3 (fun HSX => ?_)
 clear hK K
 refine wpAnyH_done (by kernel_rfl) ?_ _
 exact hQ
def ops14_25 : Array Oper := #[⟨some 171, Op.move (.tmp 3), 44, "law.go:53", #[], none⟩,
 ⟨some 172, Op.move (.tmp 3), 44, "law.go:53", #[], none⟩,
 ⟨some 173, Op.nilCheck (.tmp 172), 0, "law.go:53", #[gd' 1], none⟩,
 ⟨some 174, Op.fieldAddr 49 (.tmp 173) 3, 0, "law.go:53", #[gd' 2], none⟩,
 ⟨some 175, Op.load 28 (.tmp 174), 28, "law.go:53", #[gd' 3], none⟩,
 ⟨some 176, Op.move (.tmp 3), 44, "law.go:53", #[], none⟩,
 ⟨some 177, Op.nilCheck (.tmp 176), 0, "law.go:53", #[gd' 5], none⟩,
 ⟨some 178, Op.fieldAddr 49 (.tmp 177) 3, 0, "law.go:53", #[gd' 6], none⟩,
 ⟨some 179, Op.load 28 (.tmp 178), 28, "law.go:53", #[gd' 7], none⟩,
 ⟨some 180, Op.call { callee := Callee.builtin Builtin.len, args := #[Operand.tmp 179], argTypes := #[28] }, 3, "law.go:53", #[gd' 8], none⟩,
 ⟨some 181, Op.binOp BinOp.sub 3 (.tmp 180) (Operand.const (Value.int IntKind.i64 1)) 3, 3, "law.go:53", #[gd' 9], none⟩,
 ⟨some 182, Op.slice 28 (.tmp 175) none (some (.tmp 181)) none, 28, "law.go:53", #[gd' 4, gd' 10], none⟩,
 ⟨some 183, Op.nilCheck (.tmp 171), 0, "law.go:53", #[gd' 0, gp' 0, gp' 1, gp' 2, gp' 3, gp' 4, gp' 5, gp' 6, gp' 7, gp' 8, gp' 9, gp' 10, gp' 11], none⟩,
 ⟨some 184, Op.fieldAddr 49 (.tmp 183) 0, 0, "law.go:53", #[gd' 12, gp' 0, gp' 1, gp' 2, gp' 3, gp' 4, gp' 5, gp' 6, gp' 7, gp' 8, gp' 9, gp' 10, gp' 11], none⟩,
 ⟨some 185, Op.fieldAddr 31 (.tmp 184) 8, 0, "law.go:53", #[gd' 13, gp' 0, gp' 1, gp' 2, gp' 3, gp' 4, gp' 5, gp' 6, gp' 7, gp' 8, gp' 9, gp' 10, gp' 11], none⟩,
 ⟨none, Op.store 28 (.tmp 185) (.tmp 182), 0, "law.go:53", #[gd' 14, gd' 11, gp' 0, gp' 1, gp' 2, gp' 3, gp' 4, gp' 5, gp' 6, gp' 7, gp' 8, gp' 9, gp' 10, gp' 11], none⟩]
set_option maxHeartbeats 8000000 in
set_option maxRecDepth 100000 in
theorem reg14_25 (W : World) (X n c : Nat) (a : Option Addr) (hn : n < 140737488355328) (hc : n + 1 ≤ c) (hA : ∃ g, a = some ⟨g, 0, none⟩) (hS : (fun w' : World => w'.cell? ⟨X, 14, none⟩ = some (.slice a (n + 1) c)) W.drew) (hz : ∃ z, W.drew.cell? ⟨X, 10, none⟩ = some z) (hf : W.drew.frozen? ⟨X, 10, none⟩ = false)
  (Q : Exit → Act → World → Prop) (hPan : ∀ c (a : Act) w (d : Option Tmp) v, Q (.panic c) (a.put d v) w → Q (.panic c) a w) {u0 u1 u2 u4 u5 u6 u7 u8 u9 u10 u11 u12 u13 u14 u15 u16 u17 u18 u19 u20 u21 u22 u23 u24 u25 u26 u27 u28 u29 u30 u31 u32 u33 u34 u35 u36 u37 u38 u39 u40 u41 u42 u43 u44 u45 u46 u47 u48 u49 u50 u51 u52 u53 u54 u55 u56 u57 u58 u59 u60 u61 u62 u63 u64 u65 u66 u67 u68 u69 u70 u71 u72 u73 u74 u75 u76 u77 u78 u79 u80 u81 u82 u83 u84 u85 u86 u87 u88 u89 u90 u91 u92 u93 u94 u95 u96 u97 u98 u99 A0 A1 A2 A3 A4 A5 A6 A7 A8 A9 B0 B1 B2 B3 B4 B5 B6 B7 B8 B9 C0 C1 C2 C3 C4 C5 C6 C7 C8 C9 D0 D1 D2 D3 D4 D5 D6 D7 D8 D9 E0 E1 E2 E3 E4 E5 E6 E7 E8 E9 F0 F1 F2 F3 F4 F5 F6 F7 F8 F9 G0 G1 G2 G3 G4 G5 G6 G7 G8 G9 H0 H1 H2 H3 H4 H5 H6 H7 H8 H9 I0 I1 I2 I3 I4 I5 I6 I7 I8 I9 J0 J1 J2 J3 J4 J5 J6 J7 J8 J9 K0 K1 K2 K3 K4 K5 K6 K7 K8 K9 L0 L1 L2 L3 L4 L5 L6 : Value}
  (hQ : Q .normal ⟨#[u0,u1,u2, .pointer (some ⟨X, 0, none⟩), u4,u5,u6,u7,u8,u9,u10,u11,u12,u13,u14,u15,u16,u17,u18,u19,u20,u21,u22,u23,u24,u25,u26,u27,u28,u29,u30,u31,u32,u33,u34,u35,u36,u37,u38,u39,u40,u41,u42,u43,u44,u45,u46,u47,u48,u49,u50,u51,u52,u53,u54,u55,u56,u57,u58,u59,u60,u61,u62,u63,u64,u65,u66,u67,u68,u69,u70,u71,u72,u73,u74,u75,u76,u77,u78,u79,u80,u81,u82,u83,u84,u85,u86,u87,u88,u89,u90,u91,u92,u93,u94,u95,u96,u97,u98,u99,A0,A1,A2,A3,A4,A5,A6,A7,A8,A9,B0,B1,B2,B3,B4,B5,B6,B7,B8,B9,C0,C1,C2,C3,C4,C5,C6,C7,C8,C9,D0,D1,D2,D3,D4,D5,D6,D7,D8,D9,E0,E1,E2,E3,E4,E5,E6,E7,E8,E9,F0,F1,F2,F3,F4,F5,F6,F7,F8,F9,G0,G1,G2,G3,G4,G5,G6,G7,G8,G9,H0, .pointer (some ⟨X, 0, none⟩), .pointer (some ⟨X, 0, none⟩), .pointer (some ⟨X, 0, none⟩), .pointer (some ⟨X, 14, none⟩), .slice a (n + 1) c, .pointer (some ⟨X, 0, none⟩), .pointer (some ⟨X, 0, none⟩), .pointer (some ⟨X, 14, none⟩), .slice a (n + 1) c, .int .i64 ((n : Int) + 1), .int .i64 (n : Int), .slice a n c, .pointer (some ⟨X, 0, none⟩), .pointer (some ⟨X, 0, none⟩), .pointer (some ⟨X, 10, none⟩), I6,I7,I8,I9,J0,J1,J2,J3,J4,J5,J6,J7,J8,J9,K0,K1,K2,K3,K4,K5,K6,K7,K8,K9,L0,L1,L2,L3,L4,L5,L6], []⟩ (W.drew.setCell ⟨X, 10, none⟩ (.slice a n c))) :
  Code.wp Tryz.prog (Code.region 25 ops14_25 true) Q ⟨#[u0,u1,u2, .pointer (some ⟨X, 0, none⟩), u4,u5,u6,u7,u8,u9,u10,u11,u12,u13,u14,u15,u16,u17,u18,u19,u20,u21,u22,u23,u24,u25,u26,u27,u28,u29,u30,u31,u32,u33,u34,u35,u36,u37,u38,u39,u40,u41,u42,u43,u44,u45,u46,u47,u48,u49,u50,u51,u52,u53,u54,u55,u56,u57,u58,u59,u60,u61,u62,u63,u64,u65,u66,u67,u68,u69,u70,u71,u72,u73,u74,u75,u76,u77,u78,u79,u80,u81,u82,u83,u84,u85,u86,u87,u88,u89,u90,u91,u92,u93,u94,u95,u96,u97,u98,u99,A0,A1,A2,A3,A4,A5,A6,A7,A8,A9,B0,B1,B2,B3,B4,B5,B6,B7,B8,B9,C0,C1,C2,C3,C4,C5,C6,C7,C8,C9,D0,D1,D2,D3,D4,D5,D6,D7,D8,D9,E0,E1,E2,E3,E4,E5,E6,E7,E8,E9,F0,F1,F2,F3,F4,F5,F6,F7,F8,F9,G0,G1,G2,G3,G4,G5,G6,G7,G8,G9,H0,H1,H2,H3,H4,H5,H6,H7,H8,H9,I0,I1,I2,I3,I4,I5,I6,I7,I8,I9,J0,J1,J2,J3,J4,J5,J6,J7,J8,J9,K0,K1,K2,K3,K4,K5,K6,K7,K8,K9,L0,L1,L2,L3,L4,L5,L6], []⟩ W := by
 refine wp_region_held_drew (S := (fun w' : World => w'.cell? ⟨X, 14, none⟩ = some (.slice a (n + 1) c))) hmx hS (fun HSX => ?_)
 have hS0 := hS
 clear hS
 obtain ⟨W0, hW0⟩ : ∃ W0,W0 = W.drew := ⟨_, rfl⟩
 rw [← hW0] at hS0 HSX hz hf hQ ⊢
 clear hW0
 obtain ⟨g, rfl⟩ := hA
 obtain ⟨zz, hz'⟩ := hz
 have hS3 : (fun w' : World => w'.cell? ⟨X, 14, none⟩ = some (.slice (some ⟨g, 0, none⟩) (n + 1) c)) (W0.setCell ⟨X, 10, none⟩ (.slice (some ⟨g, 0, none⟩) n c)) := (World.cell?_setCell_other _ _ _ _ (by simp)).trans hS0
 have hwr : IntKind.i64.wrap (n : Int) = n := by simp [IntKind.wrap, IntKind.bits, IntKind.signed]; omega
 have hc2 : n ≤ c := by omega
 refine tk hPan (i := 0) (oi := ⟨some 171, Op.move (.tmp 3), 44, "law.go:53", #[], none⟩) (v := .pointer (some ⟨X, 0, none⟩)) rfl (by kernel_rfl) (.inl ⟨by rfl, ?_⟩) HSX ?_
 ·intro wx d0
  have s1 := d0
  go_simp
 simp only [Act.put, sl0', sl1', sl2']
 refine tk hPan (i := 1) (oi := ⟨some 172, Op.move (.tmp 3), 44, "law.go:53", #[], none⟩) (v := .pointer (some ⟨X, 0, none⟩)) rfl (by kernel_rfl) (.inl ⟨by rfl, ?_⟩) HSX ?_
 ·intro wx d0
  have s1 := d0
  go_simp
 simp only [Act.put, sl0', sl1', sl2']
 refine tk hPan (i := 2) (oi := ⟨some 173, Op.nilCheck (.tmp 172), 0, "law.go:53", #[gd' 1], none⟩) (v := .pointer (some ⟨X, 0, none⟩)) rfl (by kernel_rfl) (.inl ⟨by rfl, ?_⟩) HSX ?_
 ·intro wx d0
  have s1 := d0
  go_simp
 simp only [Act.put, sl0', sl1', sl2']
 refine tk hPan (i := 3) (oi := ⟨some 174, Op.fieldAddr 49 (.tmp 173) 3, 0, "law.go:53", #[gd' 2], none⟩) (v := .pointer (some ⟨X, 14, none⟩)) rfl (by kernel_rfl) (.inl ⟨by rfl, ?_⟩) HSX ?_
 ·intro wx d0
  have s1 := d0
  go_simp
 simp only [Act.put, sl0', sl1', sl2']
 refine tk hPan (i := 4) (oi := ⟨some 175, Op.load 28 (.tmp 174), 28, "law.go:53", #[gd' 3], none⟩) (v := .slice (some ⟨g, 0, none⟩) (n + 1) c) rfl (by kernel_rfl) (.inl ⟨by rfl, ?_⟩) HSX ?_
 ·intro wx d0
  have s1 := d0
  go_simp
 simp only [Act.put, sl0', sl1', sl2']
 refine tk hPan (i := 5) (oi := ⟨some 176, Op.move (.tmp 3), 44, "law.go:53", #[], none⟩) (v := .pointer (some ⟨X, 0, none⟩)) rfl (by kernel_rfl) (.inl ⟨by rfl, ?_⟩) HSX ?_
 ·intro wx d0
  have s1 := d0
  go_simp
 simp only [Act.put, sl0', sl1', sl2']
 refine tk hPan (i := 6) (oi := ⟨some 177, Op.nilCheck (.tmp 176), 0, "law.go:53", #[gd' 5], none⟩) (v := .pointer (some ⟨X, 0, none⟩)) rfl (by kernel_rfl) (.inl ⟨by rfl, ?_⟩) HSX ?_
 ·intro wx d0
  have s1 := d0
  go_simp
 simp only [Act.put, sl0', sl1', sl2']
 refine tk hPan (i := 7) (oi := ⟨some 178, Op.fieldAddr 49 (.tmp 177) 3, 0, "law.go:53", #[gd' 6], none⟩) (v := .pointer (some ⟨X, 14, none⟩)) rfl (by kernel_rfl) (.inl ⟨by rfl, ?_⟩) HSX ?_
 ·intro wx d0
  have s1 := d0
  go_simp
 simp only [Act.put, sl0', sl1', sl2']
 refine tk hPan (i := 8) (oi := ⟨some 179, Op.load 28 (.tmp 178), 28, "law.go:53", #[gd' 7], none⟩) (v := .slice (some ⟨g, 0, none⟩) (n + 1) c) rfl (by kernel_rfl) (.inl ⟨by rfl, ?_⟩) HSX ?_
 ·intro wx d0
  have s1 := d0
  go_simp
 simp only [Act.put, sl0', sl1', sl2']
 refine tk hPan (i := 9) (oi := ⟨some 180, Op.call { callee := Callee.builtin Builtin.len, args := #[Operand.tmp 179], argTypes := #[28] }, 3, "law.go:53", #[gd' 8], none⟩) (v := .int .i64 ((n : Int) + 1)) rfl (by kernel_rfl) (.inl ⟨by rfl, ?_⟩) HSX ?_
 ·intro wx d0
  have s1 := d0
  go_simp
 simp only [Act.put, sl0', sl1', sl2']
 refine tk hPan (i := 10) (oi := ⟨some 181, Op.binOp BinOp.sub 3 (.tmp 180) (Operand.const (Value.int IntKind.i64 1)) 3, 3, "law.go:53", #[gd' 9], none⟩) (v := .int .i64 (n : Int)) rfl (by kernel_rfl) (.inl ⟨by rfl, ?_⟩) HSX ?_
 ·intro wx d0
  have s1 := d0
  go_simp
 simp only [Act.put, sl0', sl1', sl2']
 refine tk hPan (i := 11) (oi := ⟨some 182, Op.slice 28 (.tmp 175) none (some (.tmp 181)) none, 28, "law.go:53", #[gd' 4, gd' 10], none⟩) (v := .slice (some ⟨g, 0, none⟩) n c) rfl (by kernel_rfl) (.inl ⟨by rfl, ?_⟩) HSX ?_
 ·intro wx d0
  have s1 := d0
  go_simp
 simp only [Act.put, sl0', sl1', sl2']
 refine tk hPan (i := 12) (oi := ⟨some 183, Op.nilCheck (.tmp 171), 0, "law.go:53", #[gd' 0, gp' 0, gp' 1, gp' 2, gp' 3, gp' 4, gp' 5, gp' 6, gp' 7, gp' 8, gp' 9, gp' 10, gp' 11], none⟩) (v := .pointer (some ⟨X, 0, none⟩)) rfl (by kernel_rfl) (.inl ⟨by rfl, ?_⟩) HSX ?_
 ·intro wx d0
  have s1 := d0
  go_simp
 simp only [Act.put, sl0', sl1', sl2']
 refine tk hPan (i := 13) (oi := ⟨some 184, Op.fieldAddr 49 (.tmp 183) 0, 0, "law.go:53", #[gd' 12, gp' 0, gp' 1, gp' 2, gp' 3, gp' 4, gp' 5, gp' 6, gp' 7, gp' 8, gp' 9, gp' 10, gp' 11], none⟩) (v := .pointer (some ⟨X, 0, none⟩)) rfl (by kernel_rfl) (.inl ⟨by rfl, ?_⟩) HSX ?_
 ·intro wx d0
  have s1 := d0
  go_simp
 simp only [Act.put, sl0', sl1', sl2']
 refine tk hPan (i := 14) (oi := ⟨some 185, Op.fieldAddr 31 (.tmp 184) 8, 0, "law.go:53", #[gd' 13, gp' 0, gp' 1, gp' 2, gp' 3, gp' 4, gp' 5, gp' 6, gp' 7, gp' 8, gp' 9, gp' 10, gp' 11], none⟩) (v := .pointer (some ⟨X, 10, none⟩)) rfl (by kernel_rfl) (.inl ⟨by rfl, ?_⟩) HSX ?_
 ·intro wx d0
  have s1 := d0
  go_simp
 simp only [Act.put, sl0', sl1', sl2']
 refine wpAnyH_ready (rs := [15]) (by kernel_rfl) (by simp) ?_
 refine AllReadyH.cons (o := ⟨none, Op.store 28 (.tmp 185) (.tmp 182), 0, "law.go:53", #[gd' 14, gd' 11, gp' 0, gp' 1, gp' 2, gp' 3, gp' 4, gp' 5, gp' 6, gp' 7, gp' 8, gp' 9, gp' 10, gp' 11], none⟩) rfl (fun K hK => ?_) AllReadyH.nil
 rw [if_pos (by rfl)]
 go_simp
 refine hK.out _ _ hS3 (fun HSX => ?_)
 clear hK K
 refine wpAnyH_done (by kernel_rfl) ?_ _
 exact hQ
def ops14_26 : Array Oper := #[⟨some 186, Op.move (.tmp 3), 44, "law.go:54", #[], none⟩,
 ⟨some 187, Op.move (.tmp 3), 44, "law.go:54", #[], none⟩,
 ⟨some 188, Op.nilCheck (.tmp 187), 0, "law.go:54", #[gd' 1], none⟩,
 ⟨some 189, Op.fieldAddr 49 (.tmp 188) 2, 0, "law.go:54", #[gd' 2], none⟩,
 ⟨some 190, Op.load 27 (.tmp 189), 27, "law.go:54", #[gd' 3], none⟩,
 ⟨some 191, Op.move (.tmp 3), 44, "law.go:54", #[], none⟩,
 ⟨some 192, Op.nilCheck (.tmp 191), 0, "law.go:54", #[gd' 5], none⟩,
 ⟨some 193, Op.fieldAddr 49 (.tmp 192) 2, 0, "law.go:54", #[gd' 6], none⟩,
 ⟨some 194, Op.load 27 (.tmp 193), 27, "law.go:54", #[gd' 7], none⟩,
 ⟨some 195, Op.call { callee := Callee.builtin Builtin.len, args := #[Operand.tmp 194], argTypes := #[27] }, 3, "law.go:54", #[gd' 8], none⟩,
 ⟨some 196, Op.binOp BinOp.sub 3 (.tmp 195) (Operand.const (Value.int IntKind.i64 1)) 3, 3, "law.go:54", #[gd' 9], none⟩,
 ⟨some 197, Op.slice 27 (.tmp 190) none (some (.tmp 196)) none, 27, "law.go:54", #[gd' 4, gd' 10], none⟩,
 ⟨some 198, Op.nilCheck (.tmp 186), 0, "law.go:54", #[gd' 0, gp' 0, gp' 1, gp' 2, gp' 3, gp' 4, gp' 5, gp' 6, gp' 7, gp' 8, gp' 9, gp' 10, gp' 11], none⟩,
 ⟨some 199, Op.fieldAddr 49 (.tmp 198) 0, 0, "law.go:54", #[gd' 12, gp' 0, gp' 1, gp' 2, gp' 3, gp' 4, gp' 5, gp' 6, gp' 7, gp' 8, gp' 9, gp' 10, gp' 11], none⟩,
 ⟨some 200, Op.fieldAddr 31 (.tmp 199) 7, 0, "law.go:54", #[gd' 13, gp' 0, gp' 1, gp' 2, gp' 3, gp' 4, gp' 5, gp' 6, gp' 7, gp' 8, gp' 9, gp' 10, gp' 11], none⟩,
 ⟨none, Op.store 27 (.tmp 200) (.tmp 197), 0, "law.go:54", #[gd' 14, gd' 11, gp' 0, gp' 1, gp' 2, gp' 3, gp' 4, gp' 5, gp' 6, gp' 7, gp' 8, gp' 9, gp' 10, gp' 11], none⟩]
set_option maxHeartbeats 8000000 in
set_option maxRecDepth 100000 in
theorem reg14_26 (W : World) (X n c : Nat) (a : Option Addr) (hn : n < 140737488355328) (hc : n + 1 ≤ c) (hA : ∃ g, a = some ⟨g, 0, none⟩) (hS : (fun w' : World => w'.cell? ⟨X, 13, none⟩ = some (.slice a (n + 1) c)) W.drew) (hz : ∃ z, W.drew.cell? ⟨X, 9, none⟩ = some z) (hf : W.drew.frozen? ⟨X, 9, none⟩ = false)
  (Q : Exit → Act → World → Prop) (hPan : ∀ c (a : Act) w (d : Option Tmp) v, Q (.panic c) (a.put d v) w → Q (.panic c) a w) {u0 u1 u2 u4 u5 u6 u7 u8 u9 u10 u11 u12 u13 u14 u15 u16 u17 u18 u19 u20 u21 u22 u23 u24 u25 u26 u27 u28 u29 u30 u31 u32 u33 u34 u35 u36 u37 u38 u39 u40 u41 u42 u43 u44 u45 u46 u47 u48 u49 u50 u51 u52 u53 u54 u55 u56 u57 u58 u59 u60 u61 u62 u63 u64 u65 u66 u67 u68 u69 u70 u71 u72 u73 u74 u75 u76 u77 u78 u79 u80 u81 u82 u83 u84 u85 u86 u87 u88 u89 u90 u91 u92 u93 u94 u95 u96 u97 u98 u99 A0 A1 A2 A3 A4 A5 A6 A7 A8 A9 B0 B1 B2 B3 B4 B5 B6 B7 B8 B9 C0 C1 C2 C3 C4 C5 C6 C7 C8 C9 D0 D1 D2 D3 D4 D5 D6 D7 D8 D9 E0 E1 E2 E3 E4 E5 E6 E7 E8 E9 F0 F1 F2 F3 F4 F5 F6 F7 F8 F9 G0 G1 G2 G3 G4 G5 G6 G7 G8 G9 H0 H1 H2 H3 H4 H5 H6 H7 H8 H9 I0 I1 I2 I3 I4 I5 I6 I7 I8 I9 J0 J1 J2 J3 J4 J5 J6 J7 J8 J9 K0 K1 K2 K3 K4 K5 K6 K7 K8 K9 L0 L1 L2 L3 L4 L5 L6 : Value}
  (hQ : Q .normal ⟨#[u0,u1,u2, .pointer (some ⟨X, 0, none⟩), u4,u5,u6,u7,u8,u9,u10,u11,u12,u13,u14,u15,u16,u17,u18,u19,u20,u21,u22,u23,u24,u25,u26,u27,u28,u29,u30,u31,u32,u33,u34,u35,u36,u37,u38,u39,u40,u41,u42,u43,u44,u45,u46,u47,u48,u49,u50,u51,u52,u53,u54,u55,u56,u57,u58,u59,u60,u61,u62,u63,u64,u65,u66,u67,u68,u69,u70,u71,u72,u73,u74,u75,u76,u77,u78,u79,u80,u81,u82,u83,u84,u85,u86,u87,u88,u89,u90,u91,u92,u93,u94,u95,u96,u97,u98,u99,A0,A1,A2,A3,A4,A5,A6,A7,A8,A9,B0,B1,B2,B3,B4,B5,B6,B7,B8,B9,C0,C1,C2,C3,C4,C5,C6,C7,C8,C9,D0,D1,D2,D3,D4,D5,D6,D7,D8,D9,E0,E1,E2,E3,E4,E5,E6,E7,E8,E9,F0,F1,F2,F3,F4,F5,F6,F7,F8,F9,G0,G1,G2,G3,G4,G5,G6,G7,G8,G9,H0,H1,H2,H3,H4,H5,H6,H7,H8,H9,I0,I1,I2,I3,I4,I5, .pointer (some ⟨X, 0, none⟩), .pointer (some ⟨X, 0, none⟩), .pointer (some ⟨X, 0, none⟩), .pointer (some ⟨X, 13, none⟩), .slice a (n + 1) c, .pointer (some ⟨X, 0, none⟩), .pointer (some ⟨X, 0, none⟩), .pointer (some ⟨X, 13, none⟩), .slice a (n + 1) c, .int .i64 ((n : Int) + 1), .int .i64 (n : Int), .slice a n c, .pointer (some ⟨X, 0, none⟩), .pointer (some ⟨X, 0, none⟩), .pointer (some ⟨X, 9, none⟩), K1,K2,K3,K4,K5,K6,K7,K8,K9,L0,L1,L2,L3,L4,L5,L6], []⟩ (W.drew.setCell ⟨X, 9, none⟩ (.slice a n c))) :
  Code.wp Tryz.prog (Code.region 26 ops14_26 true) Q ⟨#[u0,u1,u2, .pointer (some ⟨X, 0, none⟩), u4,u5,u6,u7,u8,u9,u10,u11,u12,u13,u14,u15,u16,u17,u18,u19,u20,u21,u22,u23,u24,u25,u26,u27,u28,u29,u30,u31,u32,u33,u34,u35,u36,u37,u38,u39,u40,u41,u42,u43,u44,u45,u46,u47,u48,u49,u50,u51,u52,u53,u54,u55,u56,u57,u58,u59,u60,u61,u62,u63,u64,u65,u66,u67,u68,u69,u70,u71,u72,u73,u74,u75,u76,u77,u78,u79,u80,u81,u82,u83,u84,u85,u86,u87,u88,u89,u90,u91,u92,u93,u94,u95,u96,u97,u98,u99,A0,A1,A2,A3,A4,A5,A6,A7,A8,A9,B0,B1,B2,B3,B4,B5,B6,B7,B8,B9,C0,C1,C2,C3,C4,C5,C6,C7,C8,C9,D0,D1,D2,D3,D4,D5,D6,D7,D8,D9,E0,E1,E2,E3,E4,E5,E6,E7,E8,E9,F0,F1,F2,F3,F4,F5,F6,F7,F8,F9,G0,G1,G2,G3,G4,G5,G6,G7,G8,G9,H0,H1,H2,H3,H4,H5,H6,H7,H8,H9,I0,I1,I2,I3,I4,I5,I6,I7,I8,I9,J0,J1,J2,J3,J4,J5,J6,J7,J8,J9,K0,K1,K2,K3,K4,K5,K6,K7,K8,K9,L0,L1,L2,L3,L4,L5,L6], []⟩ W := by
 refine wp_region_held_drew (S := (fun w' : World => w'.cell? ⟨X, 13, none⟩ = some (.slice a (n + 1) c))) hmx hS (fun HSX => ?_)
 have hS0 := hS
 clear hS
 obtain ⟨W0, hW0⟩ : ∃ W0,W0 = W.drew := ⟨_, rfl⟩
 rw [← hW0] at hS0 HSX hz hf hQ ⊢
 clear hW0
 obtain ⟨g, rfl⟩ := hA
 obtain ⟨zz, hz'⟩ := hz
 have hS3 : (fun w' : World => w'.cell? ⟨X, 13, none⟩ = some (.slice (some ⟨g, 0, none⟩) (n + 1) c)) (W0.setCell ⟨X, 9, none⟩ (.slice (some ⟨g, 0, none⟩) n c)) := (World.cell?_setCell_other _ _ _ _ (by simp)).trans hS0
 have hwr : IntKind.i64.wrap (n : Int) = n := by simp [IntKind.wrap, IntKind.bits, IntKind.signed]; omega
 have hc2 : n ≤ c := by omega
 refine tk hPan (i := 0) (oi := ⟨some 186, Op.move (.tmp 3), 44, "law.go:54", #[], none⟩) (v := .pointer (some ⟨X, 0, none⟩)) rfl (by kernel_rfl) (.inl ⟨by rfl, ?_⟩) HSX ?_
 ·intro wx d0
  have s1 := d0
  go_simp
 simp only [Act.put, sl0', sl1', sl2']
 refine tk hPan (i := 1) (oi := ⟨some 187, Op.move (.tmp 3), 44, "law.go:54", #[], none⟩) (v := .pointer (some ⟨X, 0, none⟩)) rfl (by kernel_rfl) (.inl ⟨by rfl, ?_⟩) HSX ?_
 ·intro wx d0
  have s1 := d0
  go_simp
 simp only [Act.put, sl0', sl1', sl2']
 refine tk hPan (i := 2) (oi := ⟨some 188, Op.nilCheck (.tmp 187), 0, "law.go:54", #[gd' 1], none⟩) (v := .pointer (some ⟨X, 0, none⟩)) rfl (by kernel_rfl) (.inl ⟨by rfl, ?_⟩) HSX ?_
 ·intro wx d0
  have s1 := d0
  go_simp
 simp only [Act.put, sl0', sl1', sl2']
 refine tk hPan (i := 3) (oi := ⟨some 189, Op.fieldAddr 49 (.tmp 188) 2, 0, "law.go:54", #[gd' 2], none⟩) (v := .pointer (some ⟨X, 13, none⟩)) rfl (by kernel_rfl) (.inl ⟨by rfl, ?_⟩) HSX ?_
 ·intro wx d0
  have s1 := d0
  go_simp
 simp only [Act.put, sl0', sl1', sl2']
 refine tk hPan (i := 4) (oi := ⟨some 190, Op.load 27 (.tmp 189), 27, "law.go:54", #[gd' 3], none⟩) (v := .slice (some ⟨g, 0, none⟩) (n + 1) c) rfl (by kernel_rfl) (.inl ⟨by rfl, ?_⟩) HSX ?_
 ·intro wx d0
  have s1 := d0
  go_simp
 simp only [Act.put, sl0', sl1', sl2']
 refine tk hPan (i := 5) (oi := ⟨some 191, Op.move (.tmp 3), 44, "law.go:54", #[], none⟩) (v := .pointer (some ⟨X, 0, none⟩)) rfl (by kernel_rfl) (.inl ⟨by rfl, ?_⟩) HSX ?_
 ·intro wx d0
  have s1 := d0
  go_simp
 simp only [Act.put, sl0', sl1', sl2']
 refine tk hPan (i := 6) (oi := ⟨some 192, Op.nilCheck (.tmp 191), 0, "law.go:54", #[gd' 5], none⟩) (v := .pointer (some ⟨X, 0, none⟩)) rfl (by kernel_rfl) (.inl ⟨by rfl, ?_⟩) HSX ?_
 ·intro wx d0
  have s1 := d0
  go_simp
 simp only [Act.put, sl0', sl1', sl2']
 refine tk hPan (i := 7) (oi := ⟨some 193, Op.fieldAddr 49 (.tmp 192) 2, 0, "law.go:54", #[gd' 6], none⟩) (v := .pointer (some ⟨X, 13, none⟩)) rfl (by kernel_rfl) (.inl ⟨by rfl, ?_⟩) HSX ?_
 ·intro wx d0
  have s1 := d0
  go_simp
 simp only [Act.put, sl0', sl1', sl2']
 refine tk hPan (i := 8) (oi := ⟨some 194, Op.load 27 (.tmp 193), 27, "law.go:54", #[gd' 7], none⟩) (v := .slice (some ⟨g, 0, none⟩) (n + 1) c) rfl (by kernel_rfl) (.inl ⟨by rfl, ?_⟩) HSX ?_
 ·intro wx d0
  have s1 := d0
  go_simp
 simp only [Act.put, sl0', sl1', sl2']
 refine tk hPan (i := 9) (oi := ⟨some 195, Op.call { callee := Callee.builtin Builtin.len, args := #[Operand.tmp 194], argTypes := #[27] }, 3, "law.go:54", #[gd' 8], none⟩) (v := .int .i64 ((n : Int) + 1)) rfl (by kernel_rfl) (.inl ⟨by rfl, ?_⟩) HSX ?_
 ·intro wx d0
  have s1 := d0
  go_simp
 simp only [Act.put, sl0', sl1', sl2']
 refine tk hPan (i := 10) (oi := ⟨some 196, Op.binOp BinOp.sub 3 (.tmp 195) (Operand.const (Value.int IntKind.i64 1)) 3, 3, "law.go:54", #[gd' 9], none⟩) (v := .int .i64 (n : Int)) rfl (by kernel_rfl) (.inl ⟨by rfl, ?_⟩) HSX ?_
 ·intro wx d0
  have s1 := d0
  go_simp
 simp only [Act.put, sl0', sl1', sl2']
 refine tk hPan (i := 11) (oi := ⟨some 197, Op.slice 27 (.tmp 190) none (some (.tmp 196)) none, 27, "law.go:54", #[gd' 4, gd' 10], none⟩) (v := .slice (some ⟨g, 0, none⟩) n c) rfl (by kernel_rfl) (.inl ⟨by rfl, ?_⟩) HSX ?_
 ·intro wx d0
  have s1 := d0
  go_simp
 simp only [Act.put, sl0', sl1', sl2']
 refine tk hPan (i := 12) (oi := ⟨some 198, Op.nilCheck (.tmp 186), 0, "law.go:54", #[gd' 0, gp' 0, gp' 1, gp' 2, gp' 3, gp' 4, gp' 5, gp' 6, gp' 7, gp' 8, gp' 9, gp' 10, gp' 11], none⟩) (v := .pointer (some ⟨X, 0, none⟩)) rfl (by kernel_rfl) (.inl ⟨by rfl, ?_⟩) HSX ?_
 ·intro wx d0
  have s1 := d0
  go_simp
 simp only [Act.put, sl0', sl1', sl2']
 refine tk hPan (i := 13) (oi := ⟨some 199, Op.fieldAddr 49 (.tmp 198) 0, 0, "law.go:54", #[gd' 12, gp' 0, gp' 1, gp' 2, gp' 3, gp' 4, gp' 5, gp' 6, gp' 7, gp' 8, gp' 9, gp' 10, gp' 11], none⟩) (v := .pointer (some ⟨X, 0, none⟩)) rfl (by kernel_rfl) (.inl ⟨by rfl, ?_⟩) HSX ?_
 ·intro wx d0
  have s1 := d0
  go_simp
 simp only [Act.put, sl0', sl1', sl2']
 refine tk hPan (i := 14) (oi := ⟨some 200, Op.fieldAddr 31 (.tmp 199) 7, 0, "law.go:54", #[gd' 13, gp' 0, gp' 1, gp' 2, gp' 3, gp' 4, gp' 5, gp' 6, gp' 7, gp' 8, gp' 9, gp' 10, gp' 11], none⟩) (v := .pointer (some ⟨X, 9, none⟩)) rfl (by kernel_rfl) (.inl ⟨by rfl, ?_⟩) HSX ?_
 ·intro wx d0
  have s1 := d0
  go_simp
 simp only [Act.put, sl0', sl1', sl2']
 refine wpAnyH_ready (rs := [15]) (by kernel_rfl) (by simp) ?_
 refine AllReadyH.cons (o := ⟨none, Op.store 27 (.tmp 200) (.tmp 197), 0, "law.go:54", #[gd' 14, gd' 11, gp' 0, gp' 1, gp' 2, gp' 3, gp' 4, gp' 5, gp' 6, gp' 7, gp' 8, gp' 9, gp' 10, gp' 11], none⟩) rfl (fun K hK => ?_) AllReadyH.nil
 rw [if_pos (by rfl)]
 go_simp
 refine hK.out _ _ hS3 (fun HSX => ?_)
 clear hK K
 refine wpAnyH_done (by kernel_rfl) ?_ _
 exact hQ
def ops14_27 : Array Oper := #[⟨some 201, Op.move (.tmp 3), 44, "law.go:55", #[], none⟩,
 ⟨some 202, Op.move (.tmp 3), 44, "law.go:55", #[], none⟩,
 ⟨some 203, Op.nilCheck (.tmp 202), 0, "law.go:55", #[gd' 1], none⟩,
 ⟨some 204, Op.fieldAddr 49 (.tmp 203) 4, 0, "law.go:55", #[gd' 2], none⟩,
 ⟨some 205, Op.load 29 (.tmp 204), 29, "law.go:55", #[gd' 3], none⟩,
 ⟨some 206, Op.move (.tmp 3), 44, "law.go:55", #[], none⟩,
 ⟨some 207, Op.nilCheck (.tmp 206), 0, "law.go:55", #[gd' 5], none⟩,
 ⟨some 208, Op.fieldAddr 49 (.tmp 207) 4, 0, "law.go:55", #[gd' 6], none⟩,
 ⟨some 209, Op.load 29 (.tmp 208), 29, "law.go:55", #[gd' 7], none⟩,
 ⟨some 210, Op.call { callee := Callee.builtin Builtin.len, args := #[Operand.tmp 209], argTypes := #[29] }, 3, "law.go:55", #[gd' 8], none⟩,
 ⟨some 211, Op.binOp BinOp.sub 3 (.tmp 210) (Operand.const (Value.int IntKind.i64 1)) 3, 3, "law.go:55", #[gd' 9], none⟩,
 ⟨some 212, Op.slice 29 (.tmp 205) none (some (.tmp 211)) none, 29, "law.go:55", #[gd' 4, gd' 10], none⟩,
 ⟨some 213, Op.nilCheck (.tmp 201), 0, "law.go:55", #[gd' 0, gp' 0, gp' 1, gp' 2, gp' 3, gp' 4, gp' 5, gp' 6, gp' 7, gp' 8, gp' 9, gp' 10, gp' 11], none⟩,
 ⟨some 214, Op.fieldAddr 49 (.tmp 213) 0, 0, "law.go:55", #[gd' 12, gp' 0, gp' 1, gp' 2, gp' 3, gp' 4, gp' 5, gp' 6, gp' 7, gp' 8, gp' 9, gp' 10, gp' 11], none⟩,
 ⟨some 215, Op.fieldAddr 31 (.tmp 214) 9, 0, "law.go:55", #[gd' 13, gp' 0, gp' 1, gp' 2, gp' 3, gp' 4, gp' 5, gp' 6, gp' 7, gp' 8, gp' 9, gp' 10, gp' 11], none⟩,
 ⟨none, Op.store 29 (.tmp 215) (.tmp 212), 0, "law.go:55", #[gd' 14, gd' 11, gp' 0, gp' 1, gp' 2, gp' 3, gp' 4, gp' 5, gp' 6, gp' 7, gp' 8, gp' 9, gp' 10, gp' 11], none⟩]
set_option maxHeartbeats 8000000 in
set_option maxRecDepth 100000 in
theorem reg14_27 (W : World) (X n c : Nat) (a : Option Addr) (hn : n < 140737488355328) (hc : n + 1 ≤ c) (hA : ∃ g, a = some ⟨g, 0, none⟩) (hS : (fun w' : World => w'.cell? ⟨X, 15, none⟩ = some (.slice a (n + 1) c)) W.drew) (hz : ∃ z, W.drew.cell? ⟨X, 11, none⟩ = some z) (hf : W.drew.frozen? ⟨X, 11, none⟩ = false)
  (Q : Exit → Act → World → Prop) (hPan : ∀ c (a : Act) w (d : Option Tmp) v, Q (.panic c) (a.put d v) w → Q (.panic c) a w) {u0 u1 u2 u4 u5 u6 u7 u8 u9 u10 u11 u12 u13 u14 u15 u16 u17 u18 u19 u20 u21 u22 u23 u24 u25 u26 u27 u28 u29 u30 u31 u32 u33 u34 u35 u36 u37 u38 u39 u40 u41 u42 u43 u44 u45 u46 u47 u48 u49 u50 u51 u52 u53 u54 u55 u56 u57 u58 u59 u60 u61 u62 u63 u64 u65 u66 u67 u68 u69 u70 u71 u72 u73 u74 u75 u76 u77 u78 u79 u80 u81 u82 u83 u84 u85 u86 u87 u88 u89 u90 u91 u92 u93 u94 u95 u96 u97 u98 u99 A0 A1 A2 A3 A4 A5 A6 A7 A8 A9 B0 B1 B2 B3 B4 B5 B6 B7 B8 B9 C0 C1 C2 C3 C4 C5 C6 C7 C8 C9 D0 D1 D2 D3 D4 D5 D6 D7 D8 D9 E0 E1 E2 E3 E4 E5 E6 E7 E8 E9 F0 F1 F2 F3 F4 F5 F6 F7 F8 F9 G0 G1 G2 G3 G4 G5 G6 G7 G8 G9 H0 H1 H2 H3 H4 H5 H6 H7 H8 H9 I0 I1 I2 I3 I4 I5 I6 I7 I8 I9 J0 J1 J2 J3 J4 J5 J6 J7 J8 J9 K0 K1 K2 K3 K4 K5 K6 K7 K8 K9 L0 L1 L2 L3 L4 L5 L6 : Value}
  (hQ : Q .normal ⟨#[u0,u1,u2, .pointer (some ⟨X, 0, none⟩), u4,u5,u6,u7,u8,u9,u10,u11,u12,u13,u14,u15,u16,u17,u18,u19,u20,u21,u22,u23,u24,u25,u26,u27,u28,u29,u30,u31,u32,u33,u34,u35,u36,u37,u38,u39,u40,u41,u42,u43,u44,u45,u46,u47,u48,u49,u50,u51,u52,u53,u54,u55,u56,u57,u58,u59,u60,u61,u62,u63,u64,u65,u66,u67,u68,u69,u70,u71,u72,u73,u74,u75,u76,u77,u78,u79,u80,u81,u82,u83,u84,u85,u86,u87,u88,u89,u90,u91,u92,u93,u94,u95,u96,u97,u98,u99,A0,A1,A2,A3,A4,A5,A6,A7,A8,A9,B0,B1,B2,B3,B4,B5,B6,B7,B8,B9,C0,C1,C2,C3,C4,C5,C6,C7,C8,C9,D0,D1,D2,D3,D4,D5,D6,D7,D8,D9,E0,E1,E2,E3,E4,E5,E6,E7,E8,E9,F0,F1,F2,F3,F4,F5,F6,F7,F8,F9,G0,G1,G2,G3,G4,G5,G6,G7,G8,G9,H0,H1,H2,H3,H4,H5,H6,H7,H8,H9,I0,I1,I2,I3,I4,I5,I6,I7,I8,I9,J0,J1,J2,J3,J4,J5,J6,J7,J8,J9,K0, .pointer (some ⟨X, 0, none⟩), .pointer (some ⟨X, 0, none⟩), .pointer (some ⟨X, 0, none⟩), .pointer (some ⟨X, 15, none⟩), .slice a (n + 1) c, .pointer (some ⟨X, 0, none⟩), .pointer (some ⟨X, 0, none⟩), .pointer (some ⟨X, 15, none⟩), .slice a (n + 1) c, .int .i64 ((n : Int) + 1), .int .i64 (n : Int), .slice a n c, .pointer (some ⟨X, 0, none⟩), .pointer (some ⟨X, 0, none⟩), .pointer (some ⟨X, 11, none⟩), L6], []⟩ (W.drew.setCell ⟨X, 11, none⟩ (.slice a n c))) :
  Code.wp Tryz.prog (Code.region 27 ops14_27 true) Q ⟨#[u0,u1,u2, .pointer (some ⟨X, 0, none⟩), u4,u5,u6,u7,u8,u9,u10,u11,u12,u13,u14,u15,u16,u17,u18,u19,u20,u21,u22,u23,u24,u25,u26,u27,u28,u29,u30,u31,u32,u33,u34,u35,u36,u37,u38,u39,u40,u41,u42,u43,u44,u45,u46,u47,u48,u49,u50,u51,u52,u53,u54,u55,u56,u57,u58,u59,u60,u61,u62,u63,u64,u65,u66,u67,u68,u69,u70,u71,u72,u73,u74,u75,u76,u77,u78,u79,u80,u81,u82,u83,u84,u85,u86,u87,u88,u89,u90,u91,u92,u93,u94,u95,u96,u97,u98,u99,A0,A1,A2,A3,A4,A5,A6,A7,A8,A9,B0,B1,B2,B3,B4,B5,B6,B7,B8,B9,C0,C1,C2,C3,C4,C5,C6,C7,C8,C9,D0,D1,D2,D3,D4,D5,D6,D7,D8,D9,E0,E1,E2,E3,E4,E5,E6,E7,E8,E9,F0,F1,F2,F3,F4,F5,F6,F7,F8,F9,G0,G1,G2,G3,G4,G5,G6,G7,G8,G9,H0,H1,H2,H3,H4,H5,H6,H7,H8,H9,I0,I1,I2,I3,I4,I5,I6,I7,I8,I9,J0,J1,J2,J3,J4,J5,J6,J7,J8,J9,K0,K1,K2,K3,K4,K5,K6,K7,K8,K9,L0,L1,L2,L3,L4,L5,L6], []⟩ W := by
 refine wp_region_held_drew (S := (fun w' : World => w'.cell? ⟨X, 15, none⟩ = some (.slice a (n + 1) c))) hmx hS (fun HSX => ?_)
 have hS0 := hS
 clear hS
 obtain ⟨W0, hW0⟩ : ∃ W0,W0 = W.drew := ⟨_, rfl⟩
 rw [← hW0] at hS0 HSX hz hf hQ ⊢
 clear hW0
 obtain ⟨g, rfl⟩ := hA
 obtain ⟨zz, hz'⟩ := hz
 have hS3 : (fun w' : World => w'.cell? ⟨X, 15, none⟩ = some (.slice (some ⟨g, 0, none⟩) (n + 1) c)) (W0.setCell ⟨X, 11, none⟩ (.slice (some ⟨g, 0, none⟩) n c)) := (World.cell?_setCell_other _ _ _ _ (by simp)).trans hS0
 have hwr : IntKind.i64.wrap (n : Int) = n := by simp [IntKind.wrap, IntKind.bits, IntKind.signed]; omega
 have hc2 : n ≤ c := by omega
 refine tk hPan (i := 0) (oi := ⟨some 201, Op.move (.tmp 3), 44, "law.go:55", #[], none⟩) (v := .pointer (some ⟨X, 0, none⟩)) rfl (by kernel_rfl) (.inl ⟨by rfl, ?_⟩) HSX ?_
 ·intro wx d0
  have s1 := d0
  go_simp
 simp only [Act.put, sl0', sl1', sl2']
 refine tk hPan (i := 1) (oi := ⟨some 202, Op.move (.tmp 3), 44, "law.go:55", #[], none⟩) (v := .pointer (some ⟨X, 0, none⟩)) rfl (by kernel_rfl) (.inl ⟨by rfl, ?_⟩) HSX ?_
 ·intro wx d0
  have s1 := d0
  go_simp
 simp only [Act.put, sl0', sl1', sl2']
 refine tk hPan (i := 2) (oi := ⟨some 203, Op.nilCheck (.tmp 202), 0, "law.go:55", #[gd' 1], none⟩) (v := .pointer (some ⟨X, 0, none⟩)) rfl (by kernel_rfl) (.inl ⟨by rfl, ?_⟩) HSX ?_
 ·intro wx d0
  have s1 := d0
  go_simp
 simp only [Act.put, sl0', sl1', sl2']
 refine tk hPan (i := 3) (oi := ⟨some 204, Op.fieldAddr 49 (.tmp 203) 4, 0, "law.go:55", #[gd' 2], none⟩) (v := .pointer (some ⟨X, 15, none⟩)) rfl (by kernel_rfl) (.inl ⟨by rfl, ?_⟩) HSX ?_
 ·intro wx d0
  have s1 := d0
  go_simp
 simp only [Act.put, sl0', sl1', sl2']
 refine tk hPan (i := 4) (oi := ⟨some 205, Op.load 29 (.tmp 204), 29, "law.go:55", #[gd' 3], none⟩) (v := .slice (some ⟨g, 0, none⟩) (n + 1) c) rfl (by kernel_rfl) (.inl ⟨by rfl, ?_⟩) HSX ?_
 ·intro wx d0
  have s1 := d0
  go_simp
 simp only [Act.put, sl0', sl1', sl2']
 refine tk hPan (i := 5) (oi := ⟨some 206, Op.move (.tmp 3), 44, "law.go:55", #[], none⟩) (v := .pointer (some ⟨X, 0, none⟩)) rfl (by kernel_rfl) (.inl ⟨by rfl, ?_⟩) HSX ?_
 ·intro wx d0
  have s1 := d0
  go_simp
 simp only [Act.put, sl0', sl1', sl2']
 refine tk hPan (i := 6) (oi := ⟨some 207, Op.nilCheck (.tmp 206), 0, "law.go:55", #[gd' 5], none⟩) (v := .pointer (some ⟨X, 0, none⟩)) rfl (by kernel_rfl) (.inl ⟨by rfl, ?_⟩) HSX ?_
 ·intro wx d0
  have s1 := d0
  go_simp
 simp only [Act.put, sl0', sl1', sl2']
 refine tk hPan (i := 7) (oi := ⟨some 208, Op.fieldAddr 49 (.tmp 207) 4, 0, "law.go:55", #[gd' 6], none⟩) (v := .pointer (some ⟨X, 15, none⟩)) rfl (by kernel_rfl) (.inl ⟨by rfl, ?_⟩) HSX ?_
 ·intro wx d0
  have s1 := d0
  go_simp
 simp only [Act.put, sl0', sl1', sl2']
 refine tk hPan (i := 8) (oi := ⟨some 209, Op.load 29 (.tmp 208), 29, "law.go:55", #[gd' 7], none⟩) (v := .slice (some ⟨g, 0, none⟩) (n + 1) c) rfl (by kernel_rfl) (.inl ⟨by rfl, ?_⟩) HSX ?_
 ·intro wx d0
  have s1 := d0
  go_simp
 simp only [Act.put, sl0', sl1', sl2']
 refine tk hPan (i := 9) (oi := ⟨some 210, Op.call { callee := Callee.builtin Builtin.len, args := #[Operand.tmp 209], argTypes := #[29] }, 3, "law.go:55", #[gd' 8], none⟩) (v := .int .i64 ((n : Int) + 1)) rfl (by kernel_rfl) (.inl ⟨by rfl, ?_⟩) HSX ?_
 ·intro wx d0
  have s1 := d0
  go_simp
 simp only [Act.put, sl0', sl1', sl2']
 refine tk hPan (i := 10) (oi := ⟨some 211, Op.binOp BinOp.sub 3 (.tmp 210) (Operand.const (Value.int IntKind.i64 1)) 3, 3, "law.go:55", #[gd' 9], none⟩) (v := .int .i64 (n : Int)) rfl (by kernel_rfl) (.inl ⟨by rfl, ?_⟩) HSX ?_
 ·intro wx d0
  have s1 := d0
  go_simp
 simp only [Act.put, sl0', sl1', sl2']
 refine tk hPan (i := 11) (oi := ⟨some 212, Op.slice 29 (.tmp 205) none (some (.tmp 211)) none, 29, "law.go:55", #[gd' 4, gd' 10], none⟩) (v := .slice (some ⟨g, 0, none⟩) n c) rfl (by kernel_rfl) (.inl ⟨by rfl, ?_⟩) HSX ?_
 ·intro wx d0
  have s1 := d0
  go_simp
 simp only [Act.put, sl0', sl1', sl2']
 refine tk hPan (i := 12) (oi := ⟨some 213, Op.nilCheck (.tmp 201), 0, "law.go:55", #[gd' 0, gp' 0, gp' 1, gp' 2, gp' 3, gp' 4, gp' 5, gp' 6, gp' 7, gp' 8, gp' 9, gp' 10, gp' 11], none⟩) (v := .pointer (some ⟨X, 0, none⟩)) rfl (by kernel_rfl) (.inl ⟨by rfl, ?_⟩) HSX ?_
 ·intro wx d0
  have s1 := d0
  go_simp
 simp only [Act.put, sl0', sl1', sl2']
 refine tk hPan (i := 13) (oi := ⟨some 214, Op.fieldAddr 49 (.tmp 213) 0, 0, "law.go:55", #[gd' 12, gp' 0, gp' 1, gp' 2, gp' 3, gp' 4, gp' 5, gp' 6, gp' 7, gp' 8, gp' 9, gp' 10, gp' 11], none⟩) (v := .pointer (some ⟨X, 0, none⟩)) rfl (by kernel_rfl) (.inl ⟨by rfl, ?_⟩) HSX ?_
 ·intro wx d0
  have s1 := d0
  go_simp
 simp only [Act.put, sl0', sl1', sl2']
 refine tk hPan (i := 14) (oi := ⟨some 215, Op.fieldAddr 31 (.tmp 214) 9, 0, "law.go:55", #[gd' 13, gp' 0, gp' 1, gp' 2, gp' 3, gp' 4, gp' 5, gp' 6, gp' 7, gp' 8, gp' 9, gp' 10, gp' 11], none⟩) (v := .pointer (some ⟨X, 11, none⟩)) rfl (by kernel_rfl) (.inl ⟨by rfl, ?_⟩) HSX ?_
 ·intro wx d0
  have s1 := d0
  go_simp
 simp only [Act.put, sl0', sl1', sl2']
 refine wpAnyH_ready (rs := [15]) (by kernel_rfl) (by simp) ?_
 refine AllReadyH.cons (o := ⟨none, Op.store 29 (.tmp 215) (.tmp 212), 0, "law.go:55", #[gd' 14, gd' 11, gp' 0, gp' 1, gp' 2, gp' 3, gp' 4, gp' 5, gp' 6, gp' 7, gp' 8, gp' 9, gp' 10, gp' 11], none⟩) rfl (fun K hK => ?_) AllReadyH.nil
 rw [if_pos (by rfl)]
 go_simp
 refine hK.out _ _ hS3 (fun HSX => ?_)
 clear hK K
 refine wpAnyH_done (by kernel_rfl) ?_ _
 exact hQ
end Go.Proofs.YtknlpjcdemijgaaGreat
namespace Go.Proofs.YtknlpjcdemijgaaGreat
open Go.ChangeShapes Go.WideShapes Go.ChangeAt Go.RowKit
set_option linter.unusedVariables false
def ops14_1 : Array Oper := #[⟨some 10, Op.load 31 (.tmp 1), 31, "law.go:31", #[], none⟩,
 ⟨some 11, Op.load 31 (.tmp 1), 31, "law.go:31", #[], none⟩,
 ⟨some 12, Op.call { callee := Callee.value (Operand.func 39), args := #[Operand.tmp 11], argTypes := #[31] }, 31, "law.go:31", #[gd' 1], none⟩,
 ⟨some 13, Op.build 49 #[(0, Operand.tmp 10), (7, Operand.tmp 12)], 49, "law.go:31", #[gd' 0, gd' 2], none⟩,
 ⟨some 14, Op.box 49 (.tmp 13), 44, "law.go:31", #[gd' 3], none⟩,
 ⟨some 3, Op.assign (.tmp 14), 44, "law.go:31", #[gd' 4, gc' 2, gp' 0, gp' 1, gp' 2, gp' 3, gp' 4], none⟩]
set_option maxHeartbeats 8000000 in
set_option maxRecDepth 100000 in
theorem reg14_1 (W : World) (B : Nat) (m : Mc) (g1 g2 g3 g4 : Value) (hS : (fun w' : World => w'.cell? ⟨B, 0, none⟩ = some (.int .i64 m.pg) ∧ w'.cell? ⟨B, 1, none⟩ = some (.int .u32 m.ob) ∧ w'.cell? ⟨B, 2, none⟩ = some (.int .i64 m.op) ∧ w'.cell? ⟨B, 3, none⟩ = some (.int .i64 m.st) ∧ w'.cell? ⟨B, 4, none⟩ = some (.int .i64 m.wy) ∧ w'.cell? ⟨B, 5, none⟩ = some (.int .i64 m.li) ∧ w'.cell? ⟨B, 6, none⟩ = some (.int .i64 m.sl) ∧ w'.cell? ⟨B, 7, none⟩ = some (.int .u64 m.mj) ∧ w'.cell? ⟨B, 8, none⟩ = some (g1) ∧ w'.cell? ⟨B, 9, none⟩ = some (g2) ∧ w'.cell? ⟨B, 10, none⟩ = some (g3) ∧ w'.cell? ⟨B, 11, none⟩ = some (g4)) W.drew) (PP : Value → Value → Value → Value → World → Prop) (h1 : g1.oneCell' = true ∧ g2.oneCell' = true ∧ g3.oneCell' = true ∧ g4.oneCell' = true)
  (hcall : Calls Tryz.prog 39 #[.agg #[.int .i64 m.pg, .int .u32 m.ob, .int .i64 m.op, .int .i64 m.st, .int .i64 m.wy, .int .i64 m.li, .int .i64 m.sl, .int .u64 m.mj, g1, g2, g3, g4]] W.drew fun e x1 => ∃ d1 d2 d3 d4, e = .returned (.agg #[.int .i64 m.pg, .int .u32 m.ob, .int .i64 m.op, .int .i64 m.st, .int .i64 m.wy, .int .i64 m.li, .int .i64 m.sl, .int .u64 m.mj, d1, d2, d3, d4]) ∧ (fun w' : World => w'.cell? ⟨B, 0, none⟩ = some (.int .i64 m.pg) ∧ w'.cell? ⟨B, 1, none⟩ = some (.int .u32 m.ob) ∧ w'.cell? ⟨B, 2, none⟩ = some (.int .i64 m.op) ∧ w'.cell? ⟨B, 3, none⟩ = some (.int .i64 m.st) ∧ w'.cell? ⟨B, 4, none⟩ = some (.int .i64 m.wy) ∧ w'.cell? ⟨B, 5, none⟩ = some (.int .i64 m.li) ∧ w'.cell? ⟨B, 6, none⟩ = some (.int .i64 m.sl) ∧ w'.cell? ⟨B, 7, none⟩ = some (.int .u64 m.mj) ∧ w'.cell? ⟨B, 8, none⟩ = some (g1) ∧ w'.cell? ⟨B, 9, none⟩ = some (g2) ∧ w'.cell? ⟨B, 10, none⟩ = some (g3) ∧ w'.cell? ⟨B, 11, none⟩ = some (g4)) x1 ∧ PP d1 d2 d3 d4 x1)
  (Q : Exit → Act → World → Prop) (hPan : ∀ c (a : Act) w (d : Option Tmp) v, Q (.panic c) (a.put d v) w → Q (.panic c) a w) {u0 u2 u3 u4 u5 u6 u7 u8 u9 u10 u11 u12 u13 u14 u15 u16 u17 u18 u19 u20 u21 u22 u23 u24 u25 u26 u27 u28 u29 u30 u31 u32 u33 u34 u35 u36 u37 u38 u39 u40 u41 u42 u43 u44 u45 u46 u47 u48 u49 u50 u51 u52 u53 u54 u55 u56 u57 u58 u59 u60 u61 u62 u63 u64 u65 u66 u67 u68 u69 u70 u71 u72 u73 u74 u75 u76 u77 u78 u79 u80 u81 u82 u83 u84 u85 u86 u87 u88 u89 u90 u91 u92 u93 u94 u95 u96 u97 u98 u99 A0 A1 A2 A3 A4 A5 A6 A7 A8 A9 B0 B1 B2 B3 B4 B5 B6 B7 B8 B9 C0 C1 C2 C3 C4 C5 C6 C7 C8 C9 D0 D1 D2 D3 D4 D5 D6 D7 D8 D9 E0 E1 E2 E3 E4 E5 E6 E7 E8 E9 F0 F1 F2 F3 F4 F5 F6 F7 F8 F9 G0 G1 G2 G3 G4 G5 G6 G7 G8 G9 H0 H1 H2 H3 H4 H5 H6 H7 H8 H9 I0 I1 I2 I3 I4 I5 I6 I7 I8 I9 J0 J1 J2 J3 J4 J5 J6 J7 J8 J9 K0 K1 K2 K3 K4 K5 K6 K7 K8 K9 L0 L1 L2 L3 L4 L5 L6 : Value}
  (hQ : ∀ d1 d2 d3 d4 w1, PP d1 d2 d3 d4 w1 → Q .normal ⟨#[u0, .pointer (some ⟨B, 0, none⟩), u2, .pointer (some ⟨w1.heap.size, 0, none⟩), u4,u5,u6,u7,u8,u9, .agg #[.int .i64 m.pg, .int .u32 m.ob, .int .i64 m.op, .int .i64 m.st, .int .i64 m.wy, .int .i64 m.li, .int .i64 m.sl, .int .u64 m.mj, g1, g2, g3, g4], .agg #[.int .i64 m.pg, .int .u32 m.ob, .int .i64 m.op, .int .i64 m.st, .int .i64 m.wy, .int .i64 m.li, .int .i64 m.sl, .int .u64 m.mj, g1, g2, g3, g4], .agg #[.int .i64 m.pg, .int .u32 m.ob, .int .i64 m.op, .int .i64 m.st, .int .i64 m.wy, .int .i64 m.li, .int .i64 m.sl, .int .u64 m.mj, d1, d2, d3, d4], .agg #[.int .i64 m.pg, .int .u32 m.ob, .int .i64 m.op, .int .i64 m.st, .int .i64 m.wy, .int .i64 m.li, .int .i64 m.sl, .int .u64 m.mj, g1, g2, g3, g4, .slice none 0 0, .slice none 0 0, .slice none 0 0, .slice none 0 0, .slice none 0 0, .slice none 0 0, .int .i64 m.pg, .int .u32 m.ob, .int .i64 m.op, .int .i64 m.st, .int .i64 m.wy, .int .i64 m.li, .int .i64 m.sl, .int .u64 m.mj, d1, d2, d3, d4], .pointer (some ⟨w1.heap.size, 0, none⟩), u15,u16,u17,u18,u19,u20,u21,u22,u23,u24,u25,u26,u27,u28,u29,u30,u31,u32,u33,u34,u35,u36,u37,u38,u39,u40,u41,u42,u43,u44,u45,u46,u47,u48,u49,u50,u51,u52,u53,u54,u55,u56,u57,u58,u59,u60,u61,u62,u63,u64,u65,u66,u67,u68,u69,u70,u71,u72,u73,u74,u75,u76,u77,u78,u79,u80,u81,u82,u83,u84,u85,u86,u87,u88,u89,u90,u91,u92,u93,u94,u95,u96,u97,u98,u99,A0,A1,A2,A3,A4,A5,A6,A7,A8,A9,B0,B1,B2,B3,B4,B5,B6,B7,B8,B9,C0,C1,C2,C3,C4,C5,C6,C7,C8,C9,D0,D1,D2,D3,D4,D5,D6,D7,D8,D9,E0,E1,E2,E3,E4,E5,E6,E7,E8,E9,F0,F1,F2,F3,F4,F5,F6,F7,F8,F9,G0,G1,G2,G3,G4,G5,G6,G7,G8,G9,H0,H1,H2,H3,H4,H5,H6,H7,H8,H9,I0,I1,I2,I3,I4,I5,I6,I7,I8,I9,J0,J1,J2,J3,J4,J5,J6,J7,J8,J9,K0,K1,K2,K3,K4,K5,K6,K7,K8,K9,L0,L1,L2,L3,L4,L5,L6], []⟩ (w1.alloc (.cells #[.int .i64 m.pg, .int .u32 m.ob, .int .i64 m.op, .int .i64 m.st, .int .i64 m.wy, .int .i64 m.li, .int .i64 m.sl, .int .u64 m.mj, g1, g2, g3, g4, .slice none 0 0, .slice none 0 0, .slice none 0 0, .slice none 0 0, .slice none 0 0, .slice none 0 0, .int .i64 m.pg, .int .u32 m.ob, .int .i64 m.op, .int .i64 m.st, .int .i64 m.wy, .int .i64 m.li, .int .i64 m.sl, .int .u64 m.mj, d1, d2, d3, d4] 49))) :
  Code.wp Tryz.prog (Code.region 1 ops14_1 true) Q ⟨#[u0, .pointer (some ⟨B, 0, none⟩), u2,u3,u4,u5,u6,u7,u8,u9,u10,u11,u12,u13,u14,u15,u16,u17,u18,u19,u20,u21,u22,u23,u24,u25,u26,u27,u28,u29,u30,u31,u32,u33,u34,u35,u36,u37,u38,u39,u40,u41,u42,u43,u44,u45,u46,u47,u48,u49,u50,u51,u52,u53,u54,u55,u56,u57,u58,u59,u60,u61,u62,u63,u64,u65,u66,u67,u68,u69,u70,u71,u72,u73,u74,u75,u76,u77,u78,u79,u80,u81,u82,u83,u84,u85,u86,u87,u88,u89,u90,u91,u92,u93,u94,u95,u96,u97,u98,u99,A0,A1,A2,A3,A4,A5,A6,A7,A8,A9,B0,B1,B2,B3,B4,B5,B6,B7,B8,B9,C0,C1,C2,C3,C4,C5,C6,C7,C8,C9,D0,D1,D2,D3,D4,D5,D6,D7,D8,D9,E0,E1,E2,E3,E4,E5,E6,E7,E8,E9,F0,F1,F2,F3,F4,F5,F6,F7,F8,F9,G0,G1,G2,G3,G4,G5,G6,G7,G8,G9,H0,H1,H2,H3,H4,H5,H6,H7,H8,H9,I0,I1,I2,I3,I4,I5,I6,I7,I8,I9,J0,J1,J2,J3,J4,J5,J6,J7,J8,J9,K0,K1,K2,K3,K4,K5,K6,K7,K8,K9,L0,L1,L2,L3,L4,L5,L6], []⟩ W := by
 refine wp_region_held_drew (S := (fun w' : World => w'.cell? ⟨B, 0, none⟩ = some (.int .i64 m.pg) ∧ w'.cell? ⟨B, 1, none⟩ = some (.int .u32 m.ob) ∧ w'.cell? ⟨B, 2, none⟩ = some (.int .i64 m.op) ∧ w'.cell? ⟨B, 3, none⟩ = some (.int .i64 m.st) ∧ w'.cell? ⟨B, 4, none⟩ = some (.int .i64 m.wy) ∧ w'.cell? ⟨B, 5, none⟩ = some (.int .i64 m.li) ∧ w'.cell? ⟨B, 6, none⟩ = some (.int .i64 m.sl) ∧ w'.cell? ⟨B, 7, none⟩ = some (.int .u64 m.mj) ∧ w'.cell? ⟨B, 8, none⟩ = some (g1) ∧ w'.cell? ⟨B, 9, none⟩ = some (g2) ∧ w'.cell? ⟨B, 10, none⟩ = some (g3) ∧ w'.cell? ⟨B, 11, none⟩ = some (g4))) hmx hS (fun HSX => ?_)
 clear hS
 obtain ⟨W0, hW0⟩ : ∃ W0,W0 = W.drew := ⟨_, rfl⟩
 rw [← hW0] at HSX hcall ⊢
 clear hW0
 refine tk hPan (i := 0) (oi := ⟨some 10, Op.load 31 (.tmp 1), 31, "law.go:31", #[], none⟩) (v := .agg #[.int .i64 m.pg, .int .u32 m.ob, .int .i64 m.op, .int .i64 m.st, .int .i64 m.wy, .int .i64 m.li, .int .i64 m.sl, .int .u64 m.mj, g1, g2, g3, g4]) rfl (by kernel_rfl) (.inl ⟨by rfl, ?_⟩) HSX ?_
 ·intro wx d0
  obtain ⟨s1, s2, s3, s4, s5, s6, s7, s8, s9, s10, s11, s12⟩ := d0
  go_simp
 simp only [Act.put, sl0', sl1', sl2']
 refine tk hPan (i := 1) (oi := ⟨some 11, Op.load 31 (.tmp 1), 31, "law.go:31", #[], none⟩) (v := .agg #[.int .i64 m.pg, .int .u32 m.ob, .int .i64 m.op, .int .i64 m.st, .int .i64 m.wy, .int .i64 m.li, .int .i64 m.sl, .int .u64 m.mj, g1, g2, g3, g4]) rfl (by kernel_rfl) (.inl ⟨by rfl, ?_⟩) HSX ?_
 ·intro wx d0
  obtain ⟨s1, s2, s3, s4, s5, s6, s7, s8, s9, s10, s11, s12⟩ := d0
  go_simp
 simp only [Act.put, sl0', sl1', sl2']
 refine wpAnyH_ready (rs := [2]) (by kernel_rfl) (by simp) ?_
 refine AllReadyH.cons (o := ⟨some 12, Op.call { callee := Callee.value (Operand.func 39), args := #[Operand.tmp 11], argTypes := #[31] }, 31, "law.go:31", #[gd' 1], none⟩) rfl (fun K hK => ?_) AllReadyH.nil
 rw [if_pos (by rfl)]
 go_simp
 go_at_call 39
 refine hcall.mono ?_
 rintro e w1 ⟨d1, d2, d3, d4, rfl, HS1, hP⟩
 go_simp
 refine hK.out _ _ HS1 (fun HSX => ?_)
 clear hK K
 refine tk hPan (i := 3) (oi := ⟨some 13, Op.build 49 #[(0, Operand.tmp 10), (7, Operand.tmp 12)], 49, "law.go:31", #[gd' 0, gd' 2], none⟩) (v := .agg #[.int .i64 m.pg, .int .u32 m.ob, .int .i64 m.op, .int .i64 m.st, .int .i64 m.wy, .int .i64 m.li, .int .i64 m.sl, .int .u64 m.mj, g1, g2, g3, g4, .slice none 0 0, .slice none 0 0, .slice none 0 0, .slice none 0 0, .slice none 0 0, .slice none 0 0, .int .i64 m.pg, .int .u32 m.ob, .int .i64 m.op, .int .i64 m.st, .int .i64 m.wy, .int .i64 m.li, .int .i64 m.sl, .int .u64 m.mj, d1, d2, d3, d4]) rfl (by kernel_rfl) (.inl ⟨by rfl, ?_⟩) HSX ?_
 ·intro wx d0
  obtain ⟨s1, s2, s3, s4, s5, s6, s7, s8, s9, s10, s11, s12⟩ := d0
  go_simp
 simp only [Act.put, sl0', sl1', sl2']
 refine wpAnyH_ready (rs := [4]) (by kernel_rfl) (by simp) ?_
 refine AllReadyH.cons (o := ⟨some 14, Op.box 49 (.tmp 13), 44, "law.go:31", #[gd' 3], none⟩) rfl (fun K hK => ?_) AllReadyH.nil
 rw [if_pos (by rfl)]
 go_simp
 have HS2 : (fun w' : World => w'.cell? ⟨B, 0, none⟩ = some (.int .i64 m.pg) ∧ w'.cell? ⟨B, 1, none⟩ = some (.int .u32 m.ob) ∧ w'.cell? ⟨B, 2, none⟩ = some (.int .i64 m.op) ∧ w'.cell? ⟨B, 3, none⟩ = some (.int .i64 m.st) ∧ w'.cell? ⟨B, 4, none⟩ = some (.int .i64 m.wy) ∧ w'.cell? ⟨B, 5, none⟩ = some (.int .i64 m.li) ∧ w'.cell? ⟨B, 6, none⟩ = some (.int .i64 m.sl) ∧ w'.cell? ⟨B, 7, none⟩ = some (.int .u64 m.mj) ∧ w'.cell? ⟨B, 8, none⟩ = some (g1) ∧ w'.cell? ⟨B, 9, none⟩ = some (g2) ∧ w'.cell? ⟨B, 10, none⟩ = some (g3) ∧ w'.cell? ⟨B, 11, none⟩ = some (g4)) (w1.alloc (.cells #[.int .i64 m.pg, .int .u32 m.ob, .int .i64 m.op, .int .i64 m.st, .int .i64 m.wy, .int .i64 m.li, .int .i64 m.sl, .int .u64 m.mj, g1, g2, g3, g4, .slice none 0 0, .slice none 0 0, .slice none 0 0, .slice none 0 0, .slice none 0 0, .slice none 0 0, .int .i64 m.pg, .int .u32 m.ob, .int .i64 m.op, .int .i64 m.st, .int .i64 m.wy, .int .i64 m.li, .int .i64 m.sl, .int .u64 m.mj, d1, d2, d3, d4] 49)) := ⟨(Kp.al w1 _).cell HS1.1, (Kp.al w1 _).cell HS1.2.1, (Kp.al w1 _).cell HS1.2.2.1, (Kp.al w1 _).cell HS1.2.2.2.1, (Kp.al w1 _).cell HS1.2.2.2.2.1, (Kp.al w1 _).cell HS1.2.2.2.2.2.1, (Kp.al w1 _).cell HS1.2.2.2.2.2.2.1, (Kp.al w1 _).cell HS1.2.2.2.2.2.2.2.1, (Kp.al w1 _).cell HS1.2.2.2.2.2.2.2.2.1, (Kp.al w1 _).cell HS1.2.2.2.2.2.2.2.2.2.1, (Kp.al w1 _).cell HS1.2.2.2.2.2.2.2.2.2.2.1, (Kp.al w1 _).cell HS1.2.2.2.2.2.2.2.2.2.2.2⟩
 refine hK.out _ _ HS2 (fun HSX => ?_)
 clear hK K
 refine tk hPan (i := 5) (oi := ⟨some 3, Op.assign (.tmp 14), 44, "law.go:31", #[gd' 4, gc' 2, gp' 0, gp' 1, gp' 2, gp' 3, gp' 4], none⟩) (v := .pointer (some ⟨w1.heap.size, 0, none⟩)) rfl (by kernel_rfl) (.inl ⟨by rfl, ?_⟩) HSX ?_
 ·intro wx d0
  obtain ⟨s1, s2, s3, s4, s5, s6, s7, s8, s9, s10, s11, s12⟩ := d0
  go_simp
 simp only [Act.put, sl0', sl1', sl2']
 refine wpAnyH_done (by kernel_rfl) ?_ _
 exact hQ d1 d2 d3 d4 w1 hP
end Go.Proofs.YtknlpjcdemijgaaGreat
