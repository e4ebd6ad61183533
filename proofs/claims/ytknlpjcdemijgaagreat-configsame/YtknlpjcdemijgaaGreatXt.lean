import Derived.Test.YtknlpjcdemijgaaGreatXq
import Derived.Lib.SlBytesConst
namespace Go.Proofs.YtknlpjcdemijgaaGreat
open Go.ChangeShapes Go.WideShapes Go.ChangeAt Go.RowKit
set_option linter.unusedVariables false
def CfAt (N : Nat) (w : World) (b o : Nat) (g : Cf) : Prop := g.m.ok ∧ ∃ ca cc wa wc sa sc qa qc, At w b o (g.m.cells ++ [.slice ca g.cs.length cc, .slice wa g.ws.length wc, .slice sa g.ss.length sc, .slice qa g.qs.length qc]) ∧ RdL w N 4 (CeAt N) ca g.cs ∧ RdL w N 3 WiAt wa g.ws ∧ RdL w N 3 (SaAt N) sa g.ss ∧ RdL w N 6 QuAt qa g.qs
theorem CfAt.kp {N b o : Nat} {w wi : World} {g : Cf} (h : CfAt N w b o g) (k : Kp w wi) : CfAt N wi b o g := by
 obtain ⟨h1, ca, cc, wa, wc, sa, sc, qa, qc, h2, h3, h4, h5, h6⟩ := h
 exact ⟨h1, ca, cc, wa, wc, sa, sc, qa, qc, h2.kp k, h3.mono (fun b o y _ p => p.kp k), h4.mono (fun b o y _ p => ⟨p.1.kp k, p.2⟩), h5.mono (fun b o y _ p => p.kp k), h6.mono (fun b o y _ p => ⟨p.1.kp k, p.2⟩)⟩
set_option maxRecDepth 10000 in
theorem wgoOver {w0 : World} {X B M N : Nat} {v : Value} {x : WX} (h : IsX w0 X B M v x) (hN : Hi N X B M v) (hw0 : N ≤ w0.heap.size) (b o : Nat) (r : Cf) (hc : CfAt N w0 b o r) (hb : b < N) :
  Calls Tryz.prog 25 #[.iface 66 (hW X), .pointer (some ⟨b, o, none⟩)] w0 fun r' w' => r' = .returned (.tuple #[]) ∧ XE w0 w' X B M v (x.cf r) := by
 have hlt := fun k (e : Xf X B M v k) => h.lt e
 obtain ⟨w, hwa⟩ : ∃ w, w = w0.alloc (.cells #[.iface 66 (hW X)] 138) := ⟨_, rfl⟩
 have k0 : Kp w0 w := by rw [hwa]; exact Kp.al _ _
 have hh : w.cell? ⟨w0.heap.size, 0, none⟩ = some (.iface 66 (hW X)) := by rw [hwa]; exact (cells_at (heap_alloc_new w0 _) 0).1
 have hHB : ¬ Xf X B M v w0.heap.size := fun e => by have := hlt _ e; omega
 have hs0 := k0.size
 have hw : N ≤ w.heap.size := by omega
 obtain ⟨h1, ca, cc, wa, wc, sa, sc, qa, qc, h2, h3, h4, h5, h6⟩ := hc.kp k0
 have hb2 := hN.no hb
 have hbl : b < w.heap.size := by omega
 have HX : Hid (XE w w X B M v x) := XE.refl (h.kp k0)
 have HC : Hid (RdL w N 4 (CeAt N) ca r.cs ∧ RdL w N 3 WiAt wa r.ws ∧ RdL w N 3 (SaAt N) sa r.ss ∧ RdL w N 6 QuAt qa r.qs) := ⟨h3, h4, h5, h6⟩
 have HM : Hid (At w b o r.m.cells ∧ r.m.ok) := ⟨fun i u hu => h2 i u (by
  rw [List.getElem?_append_left (by have := (List.getElem?_eq_some_iff.1 hu).1; exact this)]; exact hu), h1⟩
 have c8 := h2 8 _ rfl
 have c9 := h2 9 _ rfl
 have c10 := h2 10 _ rfl
 have c11 := h2 11 _ rfl
 have l8 := h3.1
 have l9 := h4.1
 have l10 := h5.1
 have l11 := h6.1
 have HK : Hid (Kp w0 w) := k0
 clear h h1 h2 h3 h4 h5 h6 hc k0
 go_enter Tryz.func25, Tryz.ntmps25
 go_upto_region 1 with fail
 rw [← hwa]
 obtain ⟨HB, hHe⟩ : ∃ HB, HB = w0.heap.size := ⟨_, rfl⟩
 rw [← hHe] at hh hHB ⊢
 clear hwa hs0 hHe
 have A1 := HX.out.step (x' := x.mc r.m) (fun v' i nb => wmachine i b o r.m HM.out.2 HM.out.1 (nb b hbl hb2) hbl)
 go_wp2_with fail
 go_at_call 58
 refine A1.mono ?_
 clear A1 HX
 rintro e w1 ⟨rfl, hx⟩
 have HX : Hid (XE w w1 X B M v (x.mc r.m)) := hx
 clear hx
 have A1 := HX.out.nextC hHB hh (x' := ((x.mc r.m).num 1 (r.cs.length : Nat))) (fun v' i nb => wcount59 i b (o + 8) ca r.cs.length cc (Kp.cell (Kp.drew w1) (HX.out.cell hb2 c8)) (nb b hbl hb2) l8)
 have hh1 := Kp.cell (Kp.drew w1) (HX.out.cell hHB hh)
 go_upto_region 2 with fail
 refine reg25_2 w1 HB b o 66 (hW X) hh1 _ A1 _ (fun _ _ _ q _ h => by cases q <;> exact h) ?_
 clear A1 HX hh1
 rintro w2 hx
 have HX : Hid (XE w w2 X B M v ((x.mc r.m).num 1 (r.cs.length : Nat))) := hx
 clear hx
 have A1 := HX.out.nextC hHB hh (x' := (((x.mc r.m).num 1 (r.cs.length : Nat)).num 1 (r.ws.length : Nat))) (fun v' i nb => wcount60 i b (o + 9) wa r.ws.length wc (Kp.cell (Kp.drew w2) (HX.out.cell hb2 c9)) (nb b hbl hb2) l9)
 have hh1 := Kp.cell (Kp.drew w2) (HX.out.cell hHB hh)
 go_upto_region 3 with fail
 refine reg25_3 w2 HB b o 66 (hW X) hh1 _ A1 _ (fun _ _ _ q _ h => by cases q <;> exact h) ?_
 clear A1 HX hh1
 rintro w3 hx
 have HX : Hid (XE w w3 X B M v (((x.mc r.m).num 1 (r.cs.length : Nat)).num 1 (r.ws.length : Nat))) := hx
 clear hx
 have A1 := HX.out.nextC hHB hh (x' := ((((x.mc r.m).num 1 (r.cs.length : Nat)).num 1 (r.ws.length : Nat)).num 1 (r.ss.length : Nat))) (fun v' i nb => wcount61 i b (o + 10) sa r.ss.length sc (Kp.cell (Kp.drew w3) (HX.out.cell hb2 c10)) (nb b hbl hb2) l10)
 have hh1 := Kp.cell (Kp.drew w3) (HX.out.cell hHB hh)
 go_upto_region 4 with fail
 refine reg25_4 w3 HB b o 66 (hW X) hh1 _ A1 _ (fun _ _ _ q _ h => by cases q <;> exact h) ?_
 clear A1 HX hh1
 rintro w4 hx
 have HX : Hid (XE w w4 X B M v ((((x.mc r.m).num 1 (r.cs.length : Nat)).num 1 (r.ws.length : Nat)).num 1 (r.ss.length : Nat))) := hx
 clear hx
 have A1 := HX.out.nextC hHB hh (x' := (((((x.mc r.m).num 1 (r.cs.length : Nat)).num 1 (r.ws.length : Nat)).num 1 (r.ss.length : Nat)).num 1 (r.qs.length : Nat))) (fun v' i nb => wcount62 i b (o + 11) qa r.qs.length qc (Kp.cell (Kp.drew w4) (HX.out.cell hb2 c11)) (nb b hbl hb2) l11)
 have hh1 := Kp.cell (Kp.drew w4) (HX.out.cell hHB hh)
 go_upto_region 5 with fail
 refine reg25_5 w4 HB b o 66 (hW X) hh1 _ A1 _ (fun _ _ _ q _ h => by cases q <;> exact h) ?_
 clear A1 HX hh1
 rintro w5 hx
 have HX : Hid (XE w w5 X B M v (((((x.mc r.m).num 1 (r.cs.length : Nat)).num 1 (r.ws.length : Nat)).num 1 (r.ss.length : Nat)).num 1 (r.qs.length : Nat))) := hx
 clear hx
 have A1 := wces HX.out hN hw HB hh hHB ca r.cs cc HC.out.1
 have c2' := HX.out.cell hb2 c8
 go_wp2_with fail
 go_at_call 46
 refine A1.mono ?_
 clear A1 HX c2'
 rintro e w6 ⟨rfl, hx⟩
 have HX : Hid (XE w w6 X B M v (r.cs.foldl WX.ce (((((x.mc r.m).num 1 (r.cs.length : Nat)).num 1 (r.ws.length : Nat)).num 1 (r.ss.length : Nat)).num 1 (r.qs.length : Nat)))) := hx
 clear hx
 have A1 := wwis HX.out hN hw HB hh hHB wa r.ws wc HC.out.2.1
 have c2' := HX.out.cell hb2 c9
 go_wp2_with fail
 go_at_call 65
 refine A1.mono ?_
 clear A1 HX c2'
 rintro e w7 ⟨rfl, hx⟩
 have HX : Hid (XE w w7 X B M v (r.ws.foldl WX.wi (r.cs.foldl WX.ce (((((x.mc r.m).num 1 (r.cs.length : Nat)).num 1 (r.ws.length : Nat)).num 1 (r.ss.length : Nat)).num 1 (r.qs.length : Nat))))) := hx
 clear hx
 have A1 := wsas HX.out hN hw HB hh hHB sa r.ss sc HC.out.2.2.1
 have c2' := HX.out.cell hb2 c10
 go_wp2_with fail
 go_at_call 50
 refine A1.mono ?_
 clear A1 HX c2'
 rintro e w8 ⟨rfl, hx⟩
 have HX : Hid (XE w w8 X B M v (r.ss.foldl WX.sa (r.ws.foldl WX.wi (r.cs.foldl WX.ce (((((x.mc r.m).num 1 (r.cs.length : Nat)).num 1 (r.ws.length : Nat)).num 1 (r.ss.length : Nat)).num 1 (r.qs.length : Nat)))))) := hx
 clear hx
 have A1 := wqus HX.out hN hw HB hh hHB qa r.qs qc HC.out.2.2.2
 have c2' := HX.out.cell hb2 c11
 go_wp2_with fail
 go_at_call 70
 refine A1.mono ?_
 clear A1 HX c2'
 rintro e w9 ⟨rfl, hx⟩
 have HX : Hid (XE w w9 X B M v (r.qs.foldl WX.qu (r.ss.foldl WX.sa (r.ws.foldl WX.wi (r.cs.foldl WX.ce (((((x.mc r.m).num 1 (r.cs.length : Nat)).num 1 (r.ws.length : Nat)).num 1 (r.ss.length : Nat)).num 1 (r.qs.length : Nat))))))) := hx
 clear hx
 have HY : Hid (XE w0 w9 X B M v (x.cf r)) := HX.out.pre HK.out hlt
 clear HX
 go_wp2
 exact ⟨rfl, _, results_none rfl _ _ _, rfl, HY.out⟩
end Go.Proofs.YtknlpjcdemijgaaGreat
namespace Go.Proofs.YtknlpjcdemijgaaGreat
open Go.ChangeShapes Go.WideShapes Go.ChangeAt Go.RowKit
set_option linter.unusedVariables false
def ops10_9 : Array Oper := #[⟨some 48, Op.move (.tmp 4), 66, "config.go:29", #[], none⟩,
 ⟨some 49, Op.nilCheck (.tmp 48), 0, "config.go:29", #[gd' 0], none⟩,
 ⟨some 50, Op.fieldAddr 71 (.tmp 49) 0, 0, "config.go:29", #[gd' 1], none⟩,
 ⟨some 51, Op.load 69 (.tmp 50), 69, "config.go:29", #[gd' 2], none⟩,
 ⟨some 52, Op.move (.tmp 6), 33, "config.go:29", #[], none⟩,
 ⟨some 53, Op.buildSlice 63 1 #[(0, Operand.tmp 52)], 63, "config.go:29", #[gd' 4], none⟩,
 ⟨some 54, Op.call { callee := Callee.value (Operand.func 29), args := #[Operand.tmp 53], argTypes := #[63] }, 22, "config.go:29", #[gd' 5], none⟩,
 ⟨some 55, Op.call { callee := Callee.value (Operand.func 28), args := #[Operand.tmp 51, Operand.tmp 54], argTypes := #[69, 22] }, 0, "config.go:29", #[gd' 3, gd' 6, gc' 6], none⟩]
set_option maxHeartbeats 8000000 in
set_option maxRecDepth 100000 in
theorem reg10_9 (W : World) (X B : Nat) (a : Option Addr) (n c cr : Nat) (hS : (fun w' => w'.cell? ⟨X, 0, none⟩ = some (.pointer (some ⟨B, 0, none⟩))) W.drew) (hS1 : (fun w' => w'.cell? ⟨X, 0, none⟩ = some (.pointer (some ⟨B, 0, none⟩))) (W.drew.alloc (.cells #[.slice a n c] 33)))
  (hsum : Calls Tryz.prog 29 #[.slice (some ⟨W.heap.size, 0, none⟩) 1 1] (W.drew.alloc (.cells #[.slice a n c] 33)) fun e w' => e = .returned (.int .u32 (cr : Nat)) ∧ w' = W.drew.alloc (.cells #[.slice a n c] 33)) (P : World → Prop)
  (hcall : Calls Tryz.prog 28 #[.pointer (some ⟨B, 0, none⟩), .int .u32 (cr : Nat)] (W.drew.alloc (.cells #[.slice a n c] 33)) fun e x1 => e = .returned (.tuple #[]) ∧ x1.cell? ⟨X, 0, none⟩ = some (.pointer (some ⟨B, 0, none⟩)) ∧ P x1)
  (Q : Exit → Act → World → Prop) (hPan : ∀ c (a : Act) w (d : Option Tmp) v, Q (.panic c) (a.put d v) w → Q (.panic c) a w) {u0 u1 u2 u3 u5 u7 u8 u9 u10 u11 u12 u13 u14 u15 u16 u17 u18 u19 u20 u21 u22 u23 u24 u25 u26 u27 u28 u29 u30 u31 u32 u33 u34 u35 u36 u37 u38 u39 u40 u41 u42 u43 u44 u45 u46 u47 u48 u49 u50 u51 u52 u53 u54 u55 u56 u57 u58 u59 u60 u61 u62 u63 u64 : Value}
  (hQ : ∀ w1, P w1 → Q .normal ⟨#[u0,u1,u2,u3, .pointer (some ⟨X, 0, none⟩), u5, .slice a n c, u7,u8,u9,u10,u11,u12,u13,u14,u15,u16,u17,u18,u19,u20,u21,u22,u23,u24,u25,u26,u27,u28,u29,u30,u31,u32,u33,u34,u35,u36,u37,u38,u39,u40,u41,u42,u43,u44,u45,u46,u47, .pointer (some ⟨X, 0, none⟩), .pointer (some ⟨X, 0, none⟩), .pointer (some ⟨X, 0, none⟩), .pointer (some ⟨B, 0, none⟩), .slice a n c, .slice (some ⟨W.heap.size, 0, none⟩) 1 1, .int .u32 (cr : Nat), .tuple #[], u56,u57,u58,u59,u60,u61,u62,u63,u64], []⟩ w1) :
  Code.wp Tryz.prog (Code.region 9 ops10_9 true) Q ⟨#[u0,u1,u2,u3, .pointer (some ⟨X, 0, none⟩), u5, .slice a n c, u7,u8,u9,u10,u11,u12,u13,u14,u15,u16,u17,u18,u19,u20,u21,u22,u23,u24,u25,u26,u27,u28,u29,u30,u31,u32,u33,u34,u35,u36,u37,u38,u39,u40,u41,u42,u43,u44,u45,u46,u47,u48,u49,u50,u51,u52,u53,u54,u55,u56,u57,u58,u59,u60,u61,u62,u63,u64], []⟩ W := by
 refine wp_region_held_drew (S := fun w' => w'.cell? ⟨X, 0, none⟩ = some (.pointer (some ⟨B, 0, none⟩))) hmx hS (fun HSX => ?_)
 clear hS
 refine tk hPan (i := 0) (oi := ⟨some 48, Op.move (.tmp 4), 66, "config.go:29", #[], none⟩) (v := .pointer (some ⟨X, 0, none⟩)) rfl (by kernel_rfl) (.inl ⟨by rfl, ?_⟩) HSX ?_
 ·intro wx d0
  have s1 := d0
  go_simp
 simp only [Act.put, sl0', sl1', sl2']
 refine tk hPan (i := 1) (oi := ⟨some 49, Op.nilCheck (.tmp 48), 0, "config.go:29", #[gd' 0], none⟩) (v := .pointer (some ⟨X, 0, none⟩)) rfl (by kernel_rfl) (.inl ⟨by rfl, ?_⟩) HSX ?_
 ·intro wx d0
  have s1 := d0
  go_simp
 simp only [Act.put, sl0', sl1', sl2']
 refine tk hPan (i := 2) (oi := ⟨some 50, Op.fieldAddr 71 (.tmp 49) 0, 0, "config.go:29", #[gd' 1], none⟩) (v := .pointer (some ⟨X, 0, none⟩)) rfl (by kernel_rfl) (.inl ⟨by rfl, ?_⟩) HSX ?_
 ·intro wx d0
  have s1 := d0
  go_simp
 simp only [Act.put, sl0', sl1', sl2']
 refine tk hPan (i := 3) (oi := ⟨some 51, Op.load 69 (.tmp 50), 69, "config.go:29", #[gd' 2], none⟩) (v := .pointer (some ⟨B, 0, none⟩)) rfl (by kernel_rfl) (.inl ⟨by rfl, ?_⟩) HSX ?_
 ·intro wx d0
  have s1 := d0
  go_simp
 simp only [Act.put, sl0', sl1', sl2']
 refine tk hPan (i := 4) (oi := ⟨some 52, Op.move (.tmp 6), 33, "config.go:29", #[], none⟩) (v := .slice a n c) rfl (by kernel_rfl) (.inl ⟨by rfl, ?_⟩) HSX ?_
 ·intro wx d0
  have s1 := d0
  go_simp
 simp only [Act.put, sl0', sl1', sl2']
 refine wpAnyH_ready (rs := [5]) (by kernel_rfl) (by simp) ?_
 refine AllReadyH.cons (o := ⟨some 53, Op.buildSlice 63 1 #[(0, Operand.tmp 52)], 63, "config.go:29", #[gd' 4], none⟩) rfl (fun K hK => ?_) AllReadyH.nil
 rw [if_pos (by rfl)]
 go_simp
 refine hK.out _ _ hS1 (fun HSX => ?_)
 clear hK K
 refine wpAnyH_ready (rs := [6]) (by kernel_rfl) (by simp) ?_
 refine AllReadyH.cons (o := ⟨some 54, Op.call { callee := Callee.value (Operand.func 29), args := #[Operand.tmp 53], argTypes := #[63] }, 22, "config.go:29", #[gd' 5], none⟩) rfl (fun K hK => ?_) AllReadyH.nil
 rw [if_pos (by rfl)]
 go_simp
 go_at_call 29
 refine hsum.mono ?_
 rintro e w1 ⟨rfl, hw1⟩
 rw [hw1]
 go_simp
 refine hK.out _ _ hS1 (fun HSX => ?_)
 clear hK K hw1
 refine wpAnyH_ready (rs := [7]) (by kernel_rfl) (by simp) ?_
 refine AllReadyH.cons (o := ⟨some 55, Op.call { callee := Callee.value (Operand.func 28), args := #[Operand.tmp 51, Operand.tmp 54], argTypes := #[69, 22] }, 0, "config.go:29", #[gd' 3, gd' 6, gc' 6], none⟩) rfl (fun K hK => ?_) AllReadyH.nil
 rw [if_pos (by rfl)]
 go_simp
 go_at_call 28
 refine hcall.mono ?_
 rintro e w2 ⟨rfl, HS1, hP⟩
 go_simp
 refine hK.out _ _ HS1 (fun HSX => ?_)
 clear hK K
 refine wpAnyH_done (by kernel_rfl) ?_ _
 exact hQ _ hP
end Go.Proofs.YtknlpjcdemijgaaGreat
namespace Go.Proofs.YtknlpjcdemijgaaGreat
open Go.ChangeShapes Go.WideShapes Go.ChangeAt Go.RowKit
set_option linter.unusedVariables false
def magic : List Int := [67, 76, 83, 84, 1, 0, 0, 0]
def x0 : WX := ⟨⟨2097152, [], [], 0⟩, false⟩
def x2 : WX := ⟨(x0.raw magic).s.open.2, false⟩
theorem open8 : (x0.raw magic).s.open.1 = 8 := by decide
def encS (g : Cf) : WX := ⟨(x2.cf g).s.shut 8, (x2.cf g).u⟩
def encOk (g : Cf) : Bool := decide ((encS g).s.code = 0) && !(encS g).u
def encB (g : Cf) : List Int := ((encS g).s.raw (le (crc (encS g).s.out) 4)).out
def cfV (g : Cf) (ca wa sa qa : Option Addr) (cc wc sc qc : Nat) : Value := .agg #[.int .i64 g.m.pg, .int .u32 g.m.ob, .int .i64 g.m.op, .int .i64 g.m.st, .int .i64 g.m.wy, .int .i64 g.m.li, .int .i64 g.m.sl, .int .u64 g.m.mj, .slice ca g.cs.length cc, .slice wa g.ws.length wc, .slice sa g.ss.length sc, .slice qa g.qs.length qc]
def IsCf (w : World) (u : Value) (g : Cf) : Prop := g.m.ok ∧ ∃ ca cc wa wc sa sc qa qc, u = cfV g ca wa sa qa cc wc sc qc ∧ RdL w w.heap.size 4 (CeAt w.heap.size) ca g.cs ∧ RdL w w.heap.size 3 WiAt wa g.ws ∧ RdL w w.heap.size 3 (SaAt w.heap.size) sa g.ss ∧ RdL w w.heap.size 6 QuAt qa g.qs
theorem wpList_bslice_run {P : Program} {w w' : World} {ops : Array Oper} {rest : List Oper} {o : Oper} {a : Act} {Q : Exit → Act → World → Prop} (hgd : o.guard = none) (t : TypeId) (n : Nat) (parts : Array (Nat × Operand)) (ho : o.op = .buildSlice t n parts) (vs : Array (Nat × Value)) (hvs : (parts.map fun (i, x) => (i, a.eval x)) = vs) (v : Value) (hrun : (Instr.buildSlice t n vs).run P w = .ok v w')
  (h : wpList P ops Q rest (a.put o.dst v) w') : wpList P ops Q (o :: rest) a w := by
 subst hvs
 refine wpList_plain hgd fun K hK => ?_
 unfold Oper.wp
 simp only [execOp, ho]
 simp [hrun, Result.andThen]
 exact hK _ _ h
abbrev magV : Array Value := #[.int .u8 67, .int .u8 76, .int .u8 83, .int .u8 84, .int .u8 1, .int .u8 0, .int .u8 0, .int .u8 0]
theorem mag_run (w : World) : (Instr.buildSlice 33 8 #[(0, .int .u8 67), (1, .int .u8 76), (2, .int .u8 83), (3, .int .u8 84), (4, .int .u8 1), (5, .int .u8 0), (6, .int .u8 0), (7, .int .u8 0)]).run Tryz.prog w = .ok (.slice (some ⟨w.heap.size, 0, none⟩) 8 8) (w.alloc (.cells magV 5)) := by kernel_rfl
theorem OM.new {w : World} {M : Nat} (h : w.heap[M]? = some (.map #[] 0)) : OM w M 0 (fun _ => false) 0 := by
 refine ⟨.map [], ?_, ?_, ?_⟩
 ·obtain ⟨es, clk, q1, r⟩ := World.ownsMap_made (H := Unit) w Tryz.prog 3 unitElem
  have e := heap_alloc_new w (.map #[] 0)
  rw [e] at q1
  cases q1
  exact ⟨_, _, h, r⟩
 ·intro i; rfl
 ·rfl
section
variable {w w' : World} {X B M N : Nat} {v : Value} {x : WX}
theorem newW_any (w : World) : Calls Tryz.prog 22 #[] w fun r w' => ∃ X B M v, r = .returned (.pointer (some ⟨X, 0, none⟩)) ∧ IsX w' X B M v x0 ∧ Hi w.heap.size X B M v ∧ Kp w w' ∧ PW w' B M v 0 x0.s := by
 have A1 := newWriter_ok 2097152 w (by omega)
 go_enter Tryz.func22, Tryz.ntmps22
 go_wp2_with fail
 go_at_call 56
 refine A1.mono ?_
 clear A1
 rintro e w1 ⟨rfl, hW, k1⟩
 have HW : Hid (IsW w1 (w.heap.size + 1) w.heap.size (.slice none 0 0) (.map #[] 0) 2097152 [] 0 ∧ Kp w w1) := ⟨hW, k1⟩
 clear hW k1
 go_wp2
 go_ret
 obtain ⟨hW, k1⟩ := HW.out
 have hlt := hp_lt hW.map
 have hB : w.heap.size + 1 < w1.heap.size := by
  obtain ⟨c, _⟩ := hW.cells
  exact lt_of_cell c
 have hp : PW (w1.alloc (.cells #[.pointer (some ⟨w.heap.size + 1, 0, none⟩), .bool false] 71)) (w.heap.size + 1) w.heap.size (.slice none 0 0) 0 x0.s := by
  refine ⟨⟨_, hW.other (Kp.al w1 _) (fun _ _ e => e)⟩, ?_, ⟨by simp [x0], by simp [x0]⟩⟩
  have e : x0.s.has = fun _ => false := by funext i; rfl
  rw [e]
  exact OM.new (Kp.heap (Kp.al w1 _) hW.map)
 refine ⟨w1.heap.size, w.heap.size + 1, w.heap.size, .slice none 0 0, rfl, ⟨⟨0, hp⟩, heap_alloc_new w1 _, ?_⟩, ?_, Kp.trans k1 (Kp.al _ _), hp⟩
 ·rintro (e | e | e)
  ·omega
  ·omega
  ·cases e
 ·rintro k (e | e | e | e)
  ·have := k1.size; omega
  ·omega
  ·omega
  ·cases e
theorem IsX.wroteR {F : Nat} {args : Array Value} {R : Ending} {s' : WS} (h : IsX w X B M v x) (H : ∀ n, PW w B M v n x.s → Calls Tryz.prog F args w fun r w' => r = R ∧ PwE w w' B M v n s') :
  Calls Tryz.prog F args w fun r w' => r = R ∧ XE w w' X B M v { x with s := s' } := by
 obtain ⟨n, p⟩ := h.pw
 refine (H n p).mono ?_
 rintro r w' ⟨rfl, v', n', p', c', l', _⟩
 refine ⟨rfl, v', ⟨⟨n', p'⟩, c'.heap h.box h.ap, fun e => ?_⟩, c'.mono (fun _ _ e => .inr e), l'⟩
 rcases e with e | e | e
 ·exact h.ap (.inl e)
 ·exact h.ap (.inr (.inl e))
 ·rcases l' with l | ⟨j, l, hj⟩
  ·exact h.ap (.inr (.inr (by rw [← l]; exact e)))
  ·rw [l] at e; cases e; have := hp_lt h.box; omega
theorem IsX.wroteN {F : Nat} {args : Array Value} {R : Ending} {s' : WS} {n : Nat} (h : IsX w X B M v x) (hN : Hi N X B M v) (hw : N ≤ w.heap.size) (H : Calls Tryz.prog F args w fun r w' => r = R ∧ PwE w w' B M v n s') :
  Calls Tryz.prog F args w fun r w' => r = R ∧ ∃ v' n', IsX w' X B M v' { x with s := s' } ∧ PW w' B M v' n' s' ∧ n' ≤ n + 1 ∧ Hi N X B M v' ∧ N ≤ w'.heap.size ∧ Chg w w' (fun k => N ≤ k) := by
 refine H.mono ?_
 rintro r w' ⟨rfl, v', n', p', c', l', hn⟩
 refine ⟨rfl, v', n', ⟨⟨n', p'⟩, c'.heap h.box h.ap, fun e => ?_⟩, p', hn, fun k e => ?_, Nat.le_trans hw c'.size, c'.mono (fun k _ e => hN k (.inr e))⟩
 ·rcases e with e | e | e
  ·exact h.ap (.inl e)
  ·exact h.ap (.inr (.inl e))
  ·rcases l' with l | ⟨j, l, hj⟩
   ·exact h.ap (.inr (.inr (by rw [← l]; exact e)))
   ·rw [l] at e; cases e; have := hp_lt h.box; omega
 ·rcases Nat.lt_or_ge k w.heap.size with hk | hk
  ·exact hN k (l'.xf hk e)
  ·omega
theorem XE.back (h : XE w w' X B M v x) (hN : Hi N X B M v) (hw : N ≤ w.heap.size) : ∃ v', IsX w' X B M v' x ∧ Hi N X B M v' ∧ N ≤ w'.heap.size ∧ Chg w w' (fun k => N ≤ k) := by
 obtain ⟨v1, i1, c1, l1⟩ := h
 refine ⟨v1, i1, fun k e => ?_, Nat.le_trans hw c1.size, c1.mono (fun k _ e => hN k e)⟩
 rcases Nat.lt_or_ge k w.heap.size with hk | hk
 ·exact hN k (l1.xf hk e)
 ·omega
end
end Go.Proofs.YtknlpjcdemijgaaGreat
