import Derived.Test.YtknlpjcdemijgaaGreatZl
namespace Go.Proofs.YtknlpjcdemijgaaGreat
open Go.ChangeShapes Go.WideShapes Go.ChangeAt Go.RowKit
set_option linter.unusedVariables false
theorem RdL.all {α : Type} {w : World} {N sz : Nat} {P : World → Nat → Nat → α → Prop} {la : Option Addr} {xs : List α} {Q : α → Prop} (h : RdL w N sz P la xs) (hq : ∀ b o y, P w b o y → Q y) : ∀ x, x ∈ xs → Q x := by
 intro x hx
 obtain ⟨i, hi, rfl⟩ := List.getElem_of_mem hx
 rcases h.2 with e | ⟨b, o, _, _, hc⟩
 ·omega
 ·exact hq _ _ _ (hc i hi)
theorem IsCf.fit {w : World} {u : Value} {g : Cf} (h : IsCf w u g) : g.fit := by
 obtain ⟨hm, ca, cc, wa, wc, sa, sc, qa, qc, _, h1, h2, h3, h4⟩ := h
 refine ⟨hm, h1.all fun b o y p => ?_, h2.all fun b o y p => p.2⟩
 obtain ⟨he, _, ra, rc, la, lc, _, hr, _⟩ := p
 exact ⟨he, hr.all fun b o y p => p.2⟩
end Go.Proofs.YtknlpjcdemijgaaGreat
namespace Go.Proofs.YtknlpjcdemijgaaGreat
open Go.ChangeShapes Go.WideShapes Go.ChangeAt Go.RowKit
set_option linter.unusedVariables false

theorem ri41_len (w : World) (a b : Option Addr) (la lb ca cb : Nat) (h : ((la : Int) != (lb : Int)) = true) :
  Calls Tryz.prog 41 #[.slice a la ca, .slice b lb cb] w fun r w' => r = .returned (.bool false) ∧ w' = w := by
 go_enter Tryz.func41, Tryz.ntmps41
 go_wp2
 go_ret
 exact ⟨rfl, rfl⟩

set_option maxHeartbeats 800000 in
theorem ri41_same (w : World) (N N2 : Nat) (a b : Option Addr) (la ca cb : Nat) (xs ys : List Int) (hx : RdI w N a xs) (hy : RdI w N2 b ys) (hlx : xs.length = la) (hly : ys.length = la) :
  Calls Tryz.prog 41 #[.slice a la ca, .slice b la cb] w fun r w' => r = .returned (.bool (sameB xs ys)) ∧ Kp w w' := by
 have hl : la ≤ 140737488355328 := by have := hx.2.1; omega
 have H : Hid (RdI w N a xs ∧ RdI w N2 b ys ∧ xs.length = la ∧ ys.length = la) := ⟨hx, hy, hlx, hly⟩
 clear hx hy hlx hly
 go_enter Tryz.func41, Tryz.ntmps41
 go_wp2
 go_loopw [5] (fun i wr => ∃ k : Nat, k ≤ la ∧ i = .int .i64 k ∧ xs.take k = ys.take k ∧ Kp w wr) (fun i _ => la - (intOf i).toNat)
 case atStart => exact ⟨0, by omega, rfl, rfl, Kp.refl _⟩
 case round =>
  obtain ⟨k, hk, rfl, ht, hC⟩ := hrel
  have HT : Hid (xs.take k = ys.take k ∧ Kp w wr) := ⟨ht, hC⟩
  clear ht hC
  by_cases hlt : k < la
  ·obtain ⟨hx, hy, hlx, hly⟩ := H.out
   have hx2 := hx.kp HT.out.2
   have hy2 := hy.kp HT.out.2
   obtain ⟨bx, ox, e1, _, hcx⟩ := hx2.2.2.resolve_left (by omega)
   obtain ⟨by_, oy, e2, _, hcy⟩ := hy2.2.2.resolve_left (by omega)
   have cx := hcx k (by omega)
   have cy := hcy k (by omega)
   have gx : xs[k]'(by omega) = xs.getD k 0 := by simp [List.getD, List.getElem?_eq_getElem (show k < xs.length by omega)]
   have gy : ys[k]'(by omega) = ys.getD k 0 := by simp [List.getD, List.getElem?_eq_getElem (show k < ys.length by omega)]
   rw [gx] at cx
   rw [gy] at cy
   have tx : Hid (xs.take (k + 1) = xs.take k ++ [xs.getD k 0]) := take_snoc xs k (by omega)
   have ty : Hid (ys.take (k + 1) = ys.take k ++ [ys.getD k 0]) := take_snoc ys k (by omega)
   have HN : Hid (xs.getD k 0 ≠ ys.getD k 0 → xs ≠ ys) := getD_ne
   clear gx gy
   obtain ⟨p, hp⟩ : ∃ p, p = xs.getD k 0 := ⟨_, rfl⟩
   obtain ⟨q, hq⟩ : ∃ q, q = ys.getD k 0 := ⟨_, rfl⟩
   rw [← hp] at cx tx HN
   rw [← hq] at cy ty HN
   clear hx hy hx2 hy2 hcx hcy hlx hly hp hq
   subst e1 e2
   by_cases hpq : p = q
   ·subst hpq
    have hpp : (p != p) = false := by simp
    go_wp2
    go_quiet (fail)
    go_wp2
    go_roundw
    case rel => exact ⟨k + 1, by omega, by go_num, by rw [tx.out, ty.out, HT.out.1], Chg.drewN HT.out.2 _⟩
    case measure => simp [intOf]; omega
   ·have hpp : (p != q) = true := by simpa using hpq
    go_wp2
    go_quiet (fail)
    go_wp2
    go_ret
    exact ⟨by have := HN.out hpq; simp [sameB, this], Chg.drewN HT.out.2 _⟩
  ·go_wp2
   go_ret
   refine ⟨?_, HT.out.2⟩
   obtain ⟨hx, hy, hlx, hly⟩ := H.out
   have := HT.out.1
   rw [List.take_of_length_le (by omega), List.take_of_length_le (by omega)] at this
   simp [sameB, this]
theorem ri41_any (w : World) (N N2 : Nat) (a b : Option Addr) (ca cb : Nat) (xs ys : List Int) (hx : RdI w N a xs) (hy : RdI w N2 b ys) :
  Calls Tryz.prog 41 #[.slice a xs.length ca, .slice b ys.length cb] w fun r w' => r = .returned (.bool (sameB xs ys)) ∧ Kp w w' := by
 by_cases h : xs.length = ys.length
 ·rw [← h]
  exact ri41_same w N N2 a b xs.length ca cb xs ys hx hy rfl h.symm
 ·refine (ri41_len w a b _ _ ca cb (by simp; omega)).mono ?_
  rintro r w' ⟨rfl, rfl⟩
  refine ⟨?_, Kp.refl _⟩
  have : xs ≠ ys := fun e => h (by rw [e])
  simp [sameB, this]
end Go.Proofs.YtknlpjcdemijgaaGreat
namespace Go.Proofs.YtknlpjcdemijgaaGreat
open Go.ChangeShapes Go.WideShapes Go.ChangeAt Go.RowKit
set_option linter.unusedVariables false
theorem hmxR : Tryz.prog.follows .mixedOrders = true := by kernel_rfl
def ops16_26 : Array Oper := #[⟨some 178, Op.fieldAddr 31 (.tmp 2) 8, 0, "ref.go:345", #[], none⟩, ⟨some 179, Op.load 28 (.tmp 178), 28, "ref.go:345", #[gd' 0], none⟩, ⟨some 180, Op.move (.tmp 11), 3, "ref.go:345", #[], none⟩, ⟨some 181, Op.indexAddr 28 (.tmp 179) (.tmp 180), 0, "ref.go:345", #[gd' 1, gd' 2], none⟩, ⟨some 182, Op.fieldAddr 94 (.tmp 181) 2, 0, "ref.go:345", #[gd' 3], none⟩, ⟨some 183, Op.load 52 (.tmp 182), 52, "ref.go:345", #[gd' 4], none⟩, ⟨some 184, Op.fieldAddr 31 (.tmp 3) 8, 0, "ref.go:345", #[], none⟩, ⟨some 185, Op.load 28 (.tmp 184), 28, "ref.go:345", #[gd' 6], none⟩, ⟨some 186, Op.move (.tmp 11), 3, "ref.go:345", #[], none⟩, ⟨some 187, Op.indexAddr 28 (.tmp 185) (.tmp 186), 0, "ref.go:345", #[gd' 7, gd' 8], none⟩, ⟨some 188, Op.fieldAddr 94 (.tmp 187) 2, 0, "ref.go:345", #[gd' 9], none⟩, ⟨some 189, Op.load 52 (.tmp 188), 52, "ref.go:345", #[gd' 10], none⟩, ⟨some 190, Op.call { callee := Callee.value (Operand.func 41), args := #[Operand.tmp 183, Operand.tmp 189], argTypes := #[52, 52] }, 4, "ref.go:345", #[gd' 5, gd' 11], none⟩, ⟨some 12, Op.assign (.tmp 190), 4, "ref.go:345", #[gd' 12, gc' 12, gp' 0, gp' 1, gp' 2, gp' 3, gp' 4, gp' 5, gp' 6, gp' 7, gp' 8, gp' 9, gp' 10, gp' 11, gp' 12], none⟩]
set_option maxHeartbeats 8000000 in
set_option maxRecDepth 100000 in
theorem reg16_26 (W : World) (B bx ox by_ oy i nS nT xsc ysc nx ny lcx lcy : Nat) (lax lay : Option Addr) (sb : Bool) (hi : i < nS) (hiT : i < nT) (hl : nS ≤ 140737488355328) (hlT : nT ≤ 140737488355328)
  (hS : (fun w' : World => w'.cell? ⟨B, 10, none⟩ = some (.slice (some ⟨bx, ox, none⟩) nS xsc) ∧ w'.cell? ⟨B + 1, 10, none⟩ = some (.slice (some ⟨by_, oy, none⟩) nT ysc) ∧ w'.cell? ⟨bx, ox + i * 3 + 2, none⟩ = some (.slice lax nx lcx) ∧ w'.cell? ⟨by_, oy + i * 3 + 2, none⟩ = some (.slice lay ny lcy)) W.drew) (PO : World → Prop) (hcall : Calls Tryz.prog 41 #[.slice lax nx lcx, .slice lay ny lcy] W.drew fun e w1 => e = .returned (.bool sb) ∧ PO w1) (hS1 : ∀ w1, PO w1 → (fun w' : World => w'.cell? ⟨B, 10, none⟩ = some (.slice (some ⟨bx, ox, none⟩) nS xsc) ∧ w'.cell? ⟨B + 1, 10, none⟩ = some (.slice (some ⟨by_, oy, none⟩) nT ysc) ∧ w'.cell? ⟨bx, ox + i * 3 + 2, none⟩ = some (.slice lax nx lcx) ∧ w'.cell? ⟨by_, oy + i * 3 + 2, none⟩ = some (.slice lay ny lcy)) w1)
  (Q : Exit → Act → World → Prop) (hPan : ∀ c (a : Act) w (d : Option Tmp) v, Q (.panic c) (a.put d v) w → Q (.panic c) a w) {u0 u1 u4 u5 u6 u7 u8 u9 u10 u12 u13 u14 u15 u16 u17 u18 u19 u20 u21 u22 u23 u24 u25 u26 u27 u28 u29 u30 u31 u32 u33 u34 u35 u36 u37 u38 u39 u40 u41 u42 u43 u44 u45 u46 u47 u48 u49 u50 u51 u52 u53 u54 u55 u56 u57 u58 u59 u60 u61 u62 u63 u64 u65 u66 u67 u68 u69 u70 u71 u72 u73 u74 u75 u76 u77 u78 u79 u80 u81 u82 u83 u84 u85 u86 u87 u88 u89 u90 u91 u92 u93 u94 u95 u96 u97 u98 u99 A0 A1 A2 A3 A4 A5 A6 A7 A8 A9 B0 B1 B2 B3 B4 B5 B6 B7 B8 B9 C0 C1 C2 C3 C4 C5 C6 C7 C8 C9 D0 D1 D2 D3 D4 D5 D6 D7 D8 D9 E0 E1 E2 E3 E4 E5 E6 E7 E8 E9 F0 F1 F2 F3 F4 F5 F6 F7 F8 F9 G0 G1 G2 G3 G4 G5 G6 G7 G8 G9 H0 H1 H2 H3 H4 H5 H6 H7 H8 H9 I0 I1 I2 I3 I4 I5 I6 I7 I8 I9 J0 J1 J2 J3 J4 J5 J6 J7 J8 J9 K0 K1 K2 K3 K4 K5 K6 K7 K8 K9 L0 L1 L2 L3 L4 L5 L6 L7 L8 L9 M0 M1 M2 M3 M4 M5 M6 M7 M8 M9 N0 N1 N2 N3 N4 N5 N6 N7 N8 N9 O0 : Value}
  (hQ : ∀ w1, PO w1 → Q .normal ⟨#[u0,u1, .pointer (some ⟨B, 0, none⟩), .pointer (some ⟨(B + 1), 0, none⟩), u4,u5,u6,u7,u8,u9,u10, .int .i64 (i : Nat), .bool sb, u13,u14,u15,u16,u17,u18,u19,u20,u21,u22,u23,u24,u25,u26,u27,u28,u29,u30,u31,u32,u33,u34,u35,u36,u37,u38,u39,u40,u41,u42,u43,u44,u45,u46,u47,u48,u49,u50,u51,u52,u53,u54,u55,u56,u57,u58,u59,u60,u61,u62,u63,u64,u65,u66,u67,u68,u69,u70,u71,u72,u73,u74,u75,u76,u77,u78,u79,u80,u81,u82,u83,u84,u85,u86,u87,u88,u89,u90,u91,u92,u93,u94,u95,u96,u97,u98,u99,A0,A1,A2,A3,A4,A5,A6,A7,A8,A9,B0,B1,B2,B3,B4,B5,B6,B7,B8,B9,C0,C1,C2,C3,C4,C5,C6,C7,C8,C9,D0,D1,D2,D3,D4,D5,D6,D7,D8,D9,E0,E1,E2,E3,E4,E5,E6,E7,E8,E9,F0,F1,F2,F3,F4,F5,F6,F7,F8,F9,G0,G1,G2,G3,G4,G5,G6,G7,G8,G9,H0,H1,H2,H3,H4,H5,H6,H7, .pointer (some ⟨B, 10, none⟩), .slice (some ⟨bx, ox, none⟩) nS xsc, .int .i64 (i : Nat), .pointer (some ⟨bx, ox + i * 3, none⟩), .pointer (some ⟨bx, ox + i * 3 + 2, none⟩), .slice lax nx lcx, .pointer (some ⟨(B + 1), 10, none⟩), .slice (some ⟨by_, oy, none⟩) nT ysc, .int .i64 (i : Nat), .pointer (some ⟨by_, oy + i * 3, none⟩), .pointer (some ⟨by_, oy + i * 3 + 2, none⟩), .slice lay ny lcy, .bool sb, J1,J2,J3,J4,J5,J6,J7,J8,J9,K0,K1,K2,K3,K4,K5,K6,K7,K8,K9,L0,L1,L2,L3,L4,L5,L6,L7,L8,L9,M0,M1,M2,M3,M4,M5,M6,M7,M8,M9,N0,N1,N2,N3,N4,N5,N6,N7,N8,N9,O0], []⟩ w1) :
  Code.wp Tryz.prog (Code.region 26 ops16_26 true) Q ⟨#[u0,u1, .pointer (some ⟨B, 0, none⟩), .pointer (some ⟨(B + 1), 0, none⟩), u4,u5,u6,u7,u8,u9,u10, .int .i64 (i : Nat), u12,u13,u14,u15,u16,u17,u18,u19,u20,u21,u22,u23,u24,u25,u26,u27,u28,u29,u30,u31,u32,u33,u34,u35,u36,u37,u38,u39,u40,u41,u42,u43,u44,u45,u46,u47,u48,u49,u50,u51,u52,u53,u54,u55,u56,u57,u58,u59,u60,u61,u62,u63,u64,u65,u66,u67,u68,u69,u70,u71,u72,u73,u74,u75,u76,u77,u78,u79,u80,u81,u82,u83,u84,u85,u86,u87,u88,u89,u90,u91,u92,u93,u94,u95,u96,u97,u98,u99,A0,A1,A2,A3,A4,A5,A6,A7,A8,A9,B0,B1,B2,B3,B4,B5,B6,B7,B8,B9,C0,C1,C2,C3,C4,C5,C6,C7,C8,C9,D0,D1,D2,D3,D4,D5,D6,D7,D8,D9,E0,E1,E2,E3,E4,E5,E6,E7,E8,E9,F0,F1,F2,F3,F4,F5,F6,F7,F8,F9,G0,G1,G2,G3,G4,G5,G6,G7,G8,G9,H0,H1,H2,H3,H4,H5,H6,H7,H8,H9,I0,I1,I2,I3,I4,I5,I6,I7,I8,I9,J0,J1,J2,J3,J4,J5,J6,J7,J8,J9,K0,K1,K2,K3,K4,K5,K6,K7,K8,K9,L0,L1,L2,L3,L4,L5,L6,L7,L8,L9,M0,M1,M2,M3,M4,M5,M6,M7,M8,M9,N0,N1,N2,N3,N4,N5,N6,N7,N8,N9,O0], []⟩ W := by
 refine wp_region_held_drew (S := (fun w' : World => w'.cell? ⟨B, 10, none⟩ = some (.slice (some ⟨bx, ox, none⟩) nS xsc) ∧ w'.cell? ⟨B + 1, 10, none⟩ = some (.slice (some ⟨by_, oy, none⟩) nT ysc) ∧ w'.cell? ⟨bx, ox + i * 3 + 2, none⟩ = some (.slice lax nx lcx) ∧ w'.cell? ⟨by_, oy + i * 3 + 2, none⟩ = some (.slice lay ny lcy))) hmxR hS (fun HSX => ?_)
 clear hS
 refine tk hPan (i := 0) (oi := ⟨some 178, Op.fieldAddr 31 (.tmp 2) 8, 0, "ref.go:345", #[], none⟩) (v := .pointer (some ⟨B, 10, none⟩)) rfl (by kernel_rfl) (.inl ⟨by rfl, ?_⟩) HSX ?_
 ·intro wx d0
  obtain ⟨s0, s1, s2, s3⟩ := d0
  go_simp
 simp only [Act.put, sl0', sl1', sl2']
 refine tk hPan (i := 1) (oi := ⟨some 179, Op.load 28 (.tmp 178), 28, "ref.go:345", #[gd' 0], none⟩) (v := .slice (some ⟨bx, ox, none⟩) nS xsc) rfl (by kernel_rfl) (.inl ⟨by rfl, ?_⟩) HSX ?_
 ·intro wx d0
  obtain ⟨s0, s1, s2, s3⟩ := d0
  go_simp
 simp only [Act.put, sl0', sl1', sl2']
 refine tk hPan (i := 2) (oi := ⟨some 180, Op.move (.tmp 11), 3, "ref.go:345", #[], none⟩) (v := .int .i64 (i : Nat)) rfl (by kernel_rfl) (.inl ⟨by rfl, ?_⟩) HSX ?_
 ·intro wx d0
  obtain ⟨s0, s1, s2, s3⟩ := d0
  go_simp
 simp only [Act.put, sl0', sl1', sl2']
 refine tk hPan (i := 3) (oi := ⟨some 181, Op.indexAddr 28 (.tmp 179) (.tmp 180), 0, "ref.go:345", #[gd' 1, gd' 2], none⟩) (v := .pointer (some ⟨bx, ox + i * 3, none⟩)) rfl (by kernel_rfl) (.inl ⟨by rfl, ?_⟩) HSX ?_
 ·intro wx d0
  obtain ⟨s0, s1, s2, s3⟩ := d0
  go_simp
 simp only [Act.put, sl0', sl1', sl2']
 refine tk hPan (i := 4) (oi := ⟨some 182, Op.fieldAddr 94 (.tmp 181) 2, 0, "ref.go:345", #[gd' 3], none⟩) (v := .pointer (some ⟨bx, ox + i * 3 + 2, none⟩)) rfl (by kernel_rfl) (.inl ⟨by rfl, ?_⟩) HSX ?_
 ·intro wx d0
  obtain ⟨s0, s1, s2, s3⟩ := d0
  go_simp
 simp only [Act.put, sl0', sl1', sl2']
 refine tk hPan (i := 5) (oi := ⟨some 183, Op.load 52 (.tmp 182), 52, "ref.go:345", #[gd' 4], none⟩) (v := .slice lax nx lcx) rfl (by kernel_rfl) (.inl ⟨by rfl, ?_⟩) HSX ?_
 ·intro wx d0
  obtain ⟨s0, s1, s2, s3⟩ := d0
  go_simp
 simp only [Act.put, sl0', sl1', sl2']
 refine tk hPan (i := 6) (oi := ⟨some 184, Op.fieldAddr 31 (.tmp 3) 8, 0, "ref.go:345", #[], none⟩) (v := .pointer (some ⟨(B + 1), 10, none⟩)) rfl (by kernel_rfl) (.inl ⟨by rfl, ?_⟩) HSX ?_
 ·intro wx d0
  obtain ⟨s0, s1, s2, s3⟩ := d0
  go_simp
 simp only [Act.put, sl0', sl1', sl2']
 refine tk hPan (i := 7) (oi := ⟨some 185, Op.load 28 (.tmp 184), 28, "ref.go:345", #[gd' 6], none⟩) (v := .slice (some ⟨by_, oy, none⟩) nT ysc) rfl (by kernel_rfl) (.inl ⟨by rfl, ?_⟩) HSX ?_
 ·intro wx d0
  obtain ⟨s0, s1, s2, s3⟩ := d0
  go_simp
 simp only [Act.put, sl0', sl1', sl2']
 refine tk hPan (i := 8) (oi := ⟨some 186, Op.move (.tmp 11), 3, "ref.go:345", #[], none⟩) (v := .int .i64 (i : Nat)) rfl (by kernel_rfl) (.inl ⟨by rfl, ?_⟩) HSX ?_
 ·intro wx d0
  obtain ⟨s0, s1, s2, s3⟩ := d0
  go_simp
 simp only [Act.put, sl0', sl1', sl2']
 refine tk hPan (i := 9) (oi := ⟨some 187, Op.indexAddr 28 (.tmp 185) (.tmp 186), 0, "ref.go:345", #[gd' 7, gd' 8], none⟩) (v := .pointer (some ⟨by_, oy + i * 3, none⟩)) rfl (by kernel_rfl) (.inl ⟨by rfl, ?_⟩) HSX ?_
 ·intro wx d0
  obtain ⟨s0, s1, s2, s3⟩ := d0
  go_simp
 simp only [Act.put, sl0', sl1', sl2']
 refine tk hPan (i := 10) (oi := ⟨some 188, Op.fieldAddr 94 (.tmp 187) 2, 0, "ref.go:345", #[gd' 9], none⟩) (v := .pointer (some ⟨by_, oy + i * 3 + 2, none⟩)) rfl (by kernel_rfl) (.inl ⟨by rfl, ?_⟩) HSX ?_
 ·intro wx d0
  obtain ⟨s0, s1, s2, s3⟩ := d0
  go_simp
 simp only [Act.put, sl0', sl1', sl2']
 refine tk hPan (i := 11) (oi := ⟨some 189, Op.load 52 (.tmp 188), 52, "ref.go:345", #[gd' 10], none⟩) (v := .slice lay ny lcy) rfl (by kernel_rfl) (.inl ⟨by rfl, ?_⟩) HSX ?_
 ·intro wx d0
  obtain ⟨s0, s1, s2, s3⟩ := d0
  go_simp
 simp only [Act.put, sl0', sl1', sl2']
 refine wpAnyH_ready (rs := [12]) (by kernel_rfl) (by simp) ?_
 refine AllReadyH.cons (o := ⟨some 190, Op.call { callee := Callee.value (Operand.func 41), args := #[Operand.tmp 183, Operand.tmp 189], argTypes := #[52, 52] }, 4, "ref.go:345", #[gd' 5, gd' 11], none⟩) rfl (fun K hK => ?_) AllReadyH.nil
 rw [if_pos (by rfl)]
 go_simp
 refine hcall.mono ?_
 rintro e w1 ⟨rfl, hpo⟩
 go_simp
 refine hK.out _ _ (hS1 w1 hpo) (fun HSX => ?_)
 clear hK K
 refine tk hPan (i := 13) (oi := ⟨some 12, Op.assign (.tmp 190), 4, "ref.go:345", #[gd' 12, gc' 12, gp' 0, gp' 1, gp' 2, gp' 3, gp' 4, gp' 5, gp' 6, gp' 7, gp' 8, gp' 9, gp' 10, gp' 11, gp' 12], none⟩) (v := .bool sb) rfl (by kernel_rfl) (.inl ⟨by rfl, ?_⟩) HSX ?_
 ·intro wx d0
  obtain ⟨s0, s1, s2, s3⟩ := d0
  go_simp
 simp only [Act.put, sl0', sl1', sl2']
 refine wpAnyH_done (by kernel_rfl) ?_ _
 exact hQ w1 hpo
end Go.Proofs.YtknlpjcdemijgaaGreat
