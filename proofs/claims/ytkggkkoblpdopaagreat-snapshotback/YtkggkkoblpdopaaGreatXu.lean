import Derived.Test.YtkggkkoblpdopaaGreatXq
import Derived.Lib.SlBytesConst
namespace Go.Proofs.YtkggkkoblpdopaaGreat
open Go.ChangeShapes Go.WideShapes Go.ChangeAt Go.RowKit
set_option linter.unusedVariables false
def ops9_7 : Array Oper := #[⟨some 40, Op.move (.tmp 4), 84, "snapshot.go:27", #[], none⟩,
 ⟨some 41, Op.nilCheck (.tmp 40), 0, "snapshot.go:27", #[gd' 0], none⟩,
 ⟨some 42, Op.fieldAddr 89 (.tmp 41) 0, 0, "snapshot.go:27", #[gd' 1], none⟩,
 ⟨some 43, Op.load 87 (.tmp 42), 87, "snapshot.go:27", #[gd' 2], none⟩,
 ⟨some 44, Op.move (.tmp 6), 22, "snapshot.go:27", #[], none⟩,
 ⟨some 45, Op.buildSlice 52 1 #[(0, Operand.tmp 44)], 52, "snapshot.go:27", #[gd' 4], none⟩,
 ⟨some 46, Op.call { callee := Callee.value (Operand.func 28), args := #[Operand.tmp 45], argTypes := #[52] }, 29, "snapshot.go:27", #[gd' 5], none⟩,
 ⟨some 47, Op.call { callee := Callee.value (Operand.func 27), args := #[Operand.tmp 43, Operand.tmp 46], argTypes := #[87, 29] }, 0, "snapshot.go:27", #[gd' 3, gd' 6, gc' 6], none⟩]
set_option maxHeartbeats 8000000 in
set_option maxRecDepth 100000 in
theorem reg9_7 (W : World) (X B : Nat) (a : Option Addr) (n c cr : Nat) (hS : (fun w' => w'.cell? ⟨X, 0, none⟩ = some (.pointer (some ⟨B, 0, none⟩))) W.drew) (hS1 : (fun w' => w'.cell? ⟨X, 0, none⟩ = some (.pointer (some ⟨B, 0, none⟩))) (W.drew.alloc (.cells #[.slice a n c] 22)))
  (hsum : Calls Tryz.prog 28 #[.slice (some ⟨W.heap.size, 0, none⟩) 1 1] (W.drew.alloc (.cells #[.slice a n c] 22)) fun e w' => e = .returned (.int .u32 (cr : Nat)) ∧ w' = W.drew.alloc (.cells #[.slice a n c] 22)) (P : World → Prop)
  (hcall : Calls Tryz.prog 27 #[.pointer (some ⟨B, 0, none⟩), .int .u32 (cr : Nat)] (W.drew.alloc (.cells #[.slice a n c] 22)) fun e x1 => e = .returned (.tuple #[]) ∧ x1.cell? ⟨X, 0, none⟩ = some (.pointer (some ⟨B, 0, none⟩)) ∧ P x1)
  (Q : Exit → Act → World → Prop) (hPan : ∀ c (a : Act) w (d : Option Tmp) v, Q (.panic c) (a.put d v) w → Q (.panic c) a w) {u0 u1 u2 u3 u5 u7 u8 u9 u10 u11 u12 u13 u14 u15 u16 u17 u18 u19 u20 u21 u22 u23 u24 u25 u26 u27 u28 u29 u30 u31 u32 u33 u34 u35 u36 u37 u38 u39 u40 u41 u42 u43 u44 u45 u46 u47 u48 u49 u50 u51 u52 u53 u54 u55 u56 u57 u58 u59 u60 u61 u62 u63 u64 : Value}
  (hQ : ∀ w1, P w1 → Q .normal ⟨#[u0,u1,u2,u3, .pointer (some ⟨X, 0, none⟩), u5, .slice a n c, u7,u8,u9,u10,u11,u12,u13,u14,u15,u16,u17,u18,u19,u20,u21,u22,u23,u24,u25,u26,u27,u28,u29,u30,u31,u32,u33,u34,u35,u36,u37,u38,u39, .pointer (some ⟨X, 0, none⟩), .pointer (some ⟨X, 0, none⟩), .pointer (some ⟨X, 0, none⟩), .pointer (some ⟨B, 0, none⟩), .slice a n c, .slice (some ⟨W.heap.size, 0, none⟩) 1 1, .int .u32 (cr : Nat), .tuple #[], u48,u49,u50,u51,u52,u53,u54,u55,u56,u57,u58,u59,u60,u61,u62,u63,u64], []⟩ w1) :
  Code.wp Tryz.prog (Code.region 7 ops9_7 true) Q ⟨#[u0,u1,u2,u3, .pointer (some ⟨X, 0, none⟩), u5, .slice a n c, u7,u8,u9,u10,u11,u12,u13,u14,u15,u16,u17,u18,u19,u20,u21,u22,u23,u24,u25,u26,u27,u28,u29,u30,u31,u32,u33,u34,u35,u36,u37,u38,u39,u40,u41,u42,u43,u44,u45,u46,u47,u48,u49,u50,u51,u52,u53,u54,u55,u56,u57,u58,u59,u60,u61,u62,u63,u64], []⟩ W := by
 refine wp_region_held_drew (S := fun w' => w'.cell? ⟨X, 0, none⟩ = some (.pointer (some ⟨B, 0, none⟩))) hmx hS (fun HSX => ?_)
 clear hS
 refine tk hPan (i := 0) (oi := ⟨some 40, Op.move (.tmp 4), 84, "snapshot.go:27", #[], none⟩) (v := .pointer (some ⟨X, 0, none⟩)) rfl (by kernel_rfl) (.inl ⟨by rfl, ?_⟩) HSX ?_
 ·intro wx d0
  have s1 := d0
  go_simp
 simp only [Act.put, sl0', sl1', sl2']
 refine tk hPan (i := 1) (oi := ⟨some 41, Op.nilCheck (.tmp 40), 0, "snapshot.go:27", #[gd' 0], none⟩) (v := .pointer (some ⟨X, 0, none⟩)) rfl (by kernel_rfl) (.inl ⟨by rfl, ?_⟩) HSX ?_
 ·intro wx d0
  have s1 := d0
  go_simp
 simp only [Act.put, sl0', sl1', sl2']
 refine tk hPan (i := 2) (oi := ⟨some 42, Op.fieldAddr 89 (.tmp 41) 0, 0, "snapshot.go:27", #[gd' 1], none⟩) (v := .pointer (some ⟨X, 0, none⟩)) rfl (by kernel_rfl) (.inl ⟨by rfl, ?_⟩) HSX ?_
 ·intro wx d0
  have s1 := d0
  go_simp
 simp only [Act.put, sl0', sl1', sl2']
 refine tk hPan (i := 3) (oi := ⟨some 43, Op.load 87 (.tmp 42), 87, "snapshot.go:27", #[gd' 2], none⟩) (v := .pointer (some ⟨B, 0, none⟩)) rfl (by kernel_rfl) (.inl ⟨by rfl, ?_⟩) HSX ?_
 ·intro wx d0
  have s1 := d0
  go_simp
 simp only [Act.put, sl0', sl1', sl2']
 refine tk hPan (i := 4) (oi := ⟨some 44, Op.move (.tmp 6), 22, "snapshot.go:27", #[], none⟩) (v := .slice a n c) rfl (by kernel_rfl) (.inl ⟨by rfl, ?_⟩) HSX ?_
 ·intro wx d0
  have s1 := d0
  go_simp
 simp only [Act.put, sl0', sl1', sl2']
 refine wpAnyH_ready (rs := [5]) (by kernel_rfl) (by simp) ?_
 refine AllReadyH.cons (o := ⟨some 45, Op.buildSlice 52 1 #[(0, Operand.tmp 44)], 52, "snapshot.go:27", #[gd' 4], none⟩) rfl (fun K hK => ?_) AllReadyH.nil
 rw [if_pos (by rfl)]
 go_simp
 refine hK.out _ _ hS1 (fun HSX => ?_)
 clear hK K
 refine wpAnyH_ready (rs := [6]) (by kernel_rfl) (by simp) ?_
 refine AllReadyH.cons (o := ⟨some 46, Op.call { callee := Callee.value (Operand.func 28), args := #[Operand.tmp 45], argTypes := #[52] }, 29, "snapshot.go:27", #[gd' 5], none⟩) rfl (fun K hK => ?_) AllReadyH.nil
 rw [if_pos (by rfl)]
 go_simp
 go_at_call 28
 refine hsum.mono ?_
 rintro e w1 ⟨rfl, hw1⟩
 rw [hw1]
 go_simp
 refine hK.out _ _ hS1 (fun HSX => ?_)
 clear hK K hw1
 refine wpAnyH_ready (rs := [7]) (by kernel_rfl) (by simp) ?_
 refine AllReadyH.cons (o := ⟨some 47, Op.call { callee := Callee.value (Operand.func 27), args := #[Operand.tmp 43, Operand.tmp 46], argTypes := #[87, 29] }, 0, "snapshot.go:27", #[gd' 3, gd' 6, gc' 6], none⟩) rfl (fun K hK => ?_) AllReadyH.nil
 rw [if_pos (by rfl)]
 go_simp
 go_at_call 27
 refine hcall.mono ?_
 rintro e w2 ⟨rfl, HS1, hP⟩
 go_simp
 refine hK.out _ _ HS1 (fun HSX => ?_)
 clear hK K
 refine wpAnyH_done (by kernel_rfl) ?_ _
 exact hQ _ hP
end Go.Proofs.YtkggkkoblpdopaaGreat
namespace Go.Proofs.YtkggkkoblpdopaaGreat
open Go.ChangeShapes Go.WideShapes Go.ChangeAt Go.RowKit
set_option linter.unusedVariables false
def magic : List Int := [67, 76, 83, 78, 1, 0, 0, 0]
def x0 : WX := ⟨⟨67108864, [], [], 0⟩, false⟩
def x2 : WX := ⟨(x0.raw magic).s.open.2, false⟩
theorem open8 : (x0.raw magic).s.open.1 = 8 := by decide
def encS (z : Ste) : WX := ⟨(x2.ste z).s.shut 8, (x2.ste z).u⟩
def encT (z : Ste) : WS := (encS z).s.raw (le (crc (encS z).s.out) 4)
def encOk (z : Ste) : Bool := decide ((encT z).code = 0) && !(encS z).u
def encB (z : Ste) : List Int := (encT z).out
def steC (z : Ste) (ba p1 p2 p3 p4 p5 p6 p7 : Option Addr) (bc q1 q2 q3 q4 q5 q6 q7 : Nat) : List Value :=
 [.slice ba z.bl.length bc, .int .u64 z.t, .bool z.w, .slice p1 z.pg.length q1, .slice p2 z.ce.length q2, .slice p3 z.ln.length q3, .slice p4 z.sl.length q4] ++ (z.gi.cells ++ [.slice p5 z.sa.length q5, .slice p6 z.qu.length q6, .slice p7 z.ar.length q7])
def IsSt (w : World) (u : Value) (z : Ste) : Prop := u64ok z.t ∧ z.gi.ok ∧ ∃ ba bc p1 q1 p2 q2 p3 q3 p4 q4 p5 q5 p6 q6 p7 q7, u = .agg (steC z ba p1 p2 p3 p4 p5 p6 p7 bc q1 q2 q3 q4 q5 q6 q7).toArray ∧
 RdB w w.heap.size ba z.bl ∧ RdL w w.heap.size 2 (PgAt w.heap.size) p1 z.pg ∧ RdL w w.heap.size 22 CelAt p2 z.ce ∧ RdL w w.heap.size 3 LneAt p3 z.ln ∧ RdL w w.heap.size 4 SltAt p4 z.sl ∧ RdL w w.heap.size 6 (SplAt w.heap.size) p5 z.sa ∧ RdL w w.heap.size 7 (QueAt w.heap.size) p6 z.qu ∧ RdL w w.heap.size 2 ArrAt p7 z.ar
section
variable {w wi w' : World} {N N' : Nat} {b o : Nat}
abbrev Ab (N : Nat) (w wi : World) : Prop := Chg w wi (fun k => N ≤ k)
theorem At.cg {l : List Value} (h : At w b o l) (c : Ab N w wi) (hb : b < N) : At wi b o l := fun i u hu => c.cell' (by omega) (h i u hu)
theorem RdB.cg {a : Option Addr} {bs : List Int} (h : RdB w N a bs) (c : Ab N w wi) (hN : N ≤ N') : RdB wi N' a bs :=
 ⟨h.1.chg c (fun k q e hn => by have := h.2 k q e hn; omega), fun k q e hn => Nat.lt_of_lt_of_le (h.2 k q e hn) hN⟩
theorem RdL.cg {α : Type} {sz : Nat} {P Q : World → Nat → Nat → α → Prop} {la : Option Addr} {xs : List α} (h : RdL w N sz P la xs) (hN : N ≤ N') (hP : ∀ b o y, b < N → P w b o y → Q wi b o y) : RdL wi N' sz Q la xs := by
 refine ⟨h.1, ?_⟩
 rcases h.2 with e | ⟨b, o, e, hb, hc⟩
 ·exact .inl e
 ·exact .inr ⟨b, o, e, by omega, fun i hi => hP _ _ _ hb (hc i hi)⟩
theorem MgAt.cg {r : Mg} (h : MgAt N w b o r) (c : Ab N w wi) (hN : N ≤ N') (hb : b < N) : MgAt N' wi b o r := by
 obtain ⟨h1, a, cc, h2, h3⟩ := h
 exact ⟨h1, a, cc, h2.cg c hb, h3.cg c hN⟩
theorem PgAt.cg {r : Pg} (h : PgAt N w b o r) (c : Ab N w wi) (hN : N ≤ N') (hb : b < N) : PgAt N' wi b o r := by
 obtain ⟨h1, a, cc, h2, h3⟩ := h
 exact ⟨h1, a, cc, h2.cg c hb, h3.cg c hN⟩
theorem SplAt.cg {r : Spl} (h : SplAt N w b o r) (c : Ab N w wi) (hN : N ≤ N') (hb : b < N) : SplAt N' wi b o r := ⟨h.1.cg c hb, h.2.1.cg c hN hb, h.2.2.cg c hN hb⟩
theorem QueAt.cg {r : Que} (h : QueAt N w b o r) (c : Ab N w wi) (hN : N ≤ N') (hb : b < N) : QueAt N' wi b o r := by
 obtain ⟨h1, qa, qc, sa, sc, h2, h3, h4⟩ := h
 exact ⟨h1, qa, qc, sa, sc, h2.cg c hb, h3.cg hN (fun _ _ _ hb p => p.cg c hN hb), h4.cg hN (fun _ _ _ hb p => p.cg c hN hb)⟩
theorem SteAt.cg {z : Ste} (h : SteAt N w b o z) (c : Ab N w wi) (hb : b < N) : SteAt N wi b o z := by
 obtain ⟨h1, h2, ba, bc, p1, q1, p2, q2, p3, q3, p4, q4, p5, q5, p6, q6, p7, q7, a1, a2, a3, b0, l1, l2, l3, l4, l5, l6, l7⟩ := h
 have hN := Nat.le_refl N
 exact ⟨h1, h2, ba, bc, p1, q1, p2, q2, p3, q3, p4, q4, p5, q5, p6, q6, p7, q7, a1.cg c hb, a2.cg c hb, a3.cg c hb, b0.cg c hN, l1.cg hN (fun _ _ _ hb p => p.cg c hN hb), l2.cg hN (fun _ _ _ hb p => ⟨p.1.cg c hb, p.2⟩), l3.cg hN (fun _ _ _ hb p => ⟨p.1.cg c hb, p.2⟩), l4.cg hN (fun _ _ _ hb p => ⟨p.1.cg c hb, p.2⟩), l5.cg hN (fun _ _ _ hb p => p.cg c hN hb), l6.cg hN (fun _ _ _ hb p => p.cg c hN hb), l7.cg hN (fun _ _ _ hb p => ⟨p.1.cg c hb, p.2⟩)⟩
theorem IsSt.boxed {z : Ste} {C : Array Value} (h : IsSt w (.agg C) z) (k : Kp w wi) (hs : w.heap.size < wi.heap.size) (hG : wi.heap[w.heap.size]? = some (.cells C 36 (0, 0))) : SteAt wi.heap.size wi w.heap.size 0 z := by
 obtain ⟨h1, h2, ba, bc, p1, q1, p2, q2, p3, q3, p4, q4, p5, q5, p6, q6, p7, q7, e, b0, l1, l2, l3, l4, l5, l6, l7⟩ := h
 have c : Ab w.heap.size w wi := k.any
 have hN : w.heap.size ≤ wi.heap.size := k.size
 simp only [Value.agg.injEq] at e
 subst e
 have hat : ∀ i u, (steC z ba p1 p2 p3 p4 p5 p6 p7 bc q1 q2 q3 q4 q5 q6 q7)[i]? = some u → wi.cell? ⟨w.heap.size, i, none⟩ = some u := fun i u hu => by rw [(cells_at hG i).1]; simpa using hu
 have hgl : z.gi.cells.length = 34 := by unfold Gi.cells; simp [h2.l]
 refine ⟨h1, h2, ba, bc, p1, q1, p2, q2, p3, q3, p4, q4, p5, q5, p6, q6, p7, q7, fun i u hu => ?_, fun i u hu => ?_, fun i u hu => ?_, b0.cg c hN, l1.cg hN (fun _ _ _ hb p => p.cg c hN hb), l2.cg hN (fun _ _ _ hb p => ⟨p.1.cg c hb, p.2⟩), l3.cg hN (fun _ _ _ hb p => ⟨p.1.cg c hb, p.2⟩), l4.cg hN (fun _ _ _ hb p => ⟨p.1.cg c hb, p.2⟩), l5.cg hN (fun _ _ _ hb p => p.cg c hN hb), l6.cg hN (fun _ _ _ hb p => p.cg c hN hb), l7.cg hN (fun _ _ _ hb p => ⟨p.1.cg c hb, p.2⟩)⟩
 ·refine hat _ _ ?_
  have := (List.getElem?_eq_some_iff.1 hu).1
  unfold steC
  rw [Nat.zero_add, List.getElem?_append_left this]
  exact hu
 ·refine hat _ _ ?_
  have hi := (List.getElem?_eq_some_iff.1 hu).1
  have e : steC z ba p1 p2 p3 p4 p5 p6 p7 bc q1 q2 q3 q4 q5 q6 q7 = .slice ba z.bl.length bc :: .int .u64 z.t :: .bool z.w :: .slice p1 z.pg.length q1 :: .slice p2 z.ce.length q2 :: .slice p3 z.ln.length q3 :: .slice p4 z.sl.length q4 :: (z.gi.cells ++ [.slice p5 z.sa.length q5, .slice p6 z.qu.length q6, .slice p7 z.ar.length q7]) := rfl
  rw [e, show 0 + 7 + i = i + 1 + 1 + 1 + 1 + 1 + 1 + 1 by omega]
  simp only [List.getElem?_cons_succ]
  rw [List.getElem?_append_left hi]
  exact hu
 ·refine hat _ _ ?_
  have e : steC z ba p1 p2 p3 p4 p5 p6 p7 bc q1 q2 q3 q4 q5 q6 q7 = .slice ba z.bl.length bc :: .int .u64 z.t :: .bool z.w :: .slice p1 z.pg.length q1 :: .slice p2 z.ce.length q2 :: .slice p3 z.ln.length q3 :: .slice p4 z.sl.length q4 :: (z.gi.cells ++ [.slice p5 z.sa.length q5, .slice p6 z.qu.length q6, .slice p7 z.ar.length q7]) := rfl
  rw [e, show 0 + 41 + i = 34 + i + 1 + 1 + 1 + 1 + 1 + 1 + 1 by omega]
  simp only [List.getElem?_cons_succ]
  rw [List.getElem?_append_right (by omega), show 34 + i - z.gi.cells.length = i by omega]
  exact hu
end
theorem wpList_bslice_run {P : Program} {w w' : World} {ops : Array Oper} {rest : List Oper} {o : Oper} {a : Act} {Q : Exit → Act → World → Prop} (hgd : o.guard = none) (t : TypeId) (n : Nat) (parts : Array (Nat × Operand)) (ho : o.op = .buildSlice t n parts) (vs : Array (Nat × Value)) (hvs : (parts.map fun (i, x) => (i, a.eval x)) = vs) (v : Value) (hrun : (Instr.buildSlice t n vs).run P w = .ok v w')
  (h : wpList P ops Q rest (a.put o.dst v) w') : wpList P ops Q (o :: rest) a w := by
 subst hvs
 refine wpList_plain hgd fun K hK => ?_
 unfold Oper.wp
 simp only [execOp, ho]
 simp [hrun, Result.andThen]
 exact hK _ _ h
abbrev magV : Array Value := #[.int .u8 67, .int .u8 76, .int .u8 83, .int .u8 78, .int .u8 1, .int .u8 0, .int .u8 0, .int .u8 0]
theorem mag_run (w : World) : (Instr.buildSlice 22 8 #[(0, .int .u8 67), (1, .int .u8 76), (2, .int .u8 83), (3, .int .u8 78), (4, .int .u8 1), (5, .int .u8 0), (6, .int .u8 0), (7, .int .u8 0)]).run Tryz.prog w = .ok (.slice (some ⟨w.heap.size, 0, none⟩) 8 8) (w.alloc (.cells magV 5)) := by kernel_rfl
theorem OM.new {w : World} {M : Nat} (h : w.heap[M]? = some (.map #[] 0)) : OM w M 0 (fun _ => false) 0 := by
 refine ⟨.map [], ?_, ?_, ?_⟩
 ·obtain ⟨es, clk, q1, r⟩ := World.ownsMap_made (H := Unit) w Tryz.prog 3 unitElem
  have e := heap_alloc_new w (.map #[] 0)
  rw [e] at q1
  cases q1
  exact ⟨_, _, h, r⟩
 ·intro i; rfl
 ·rfl
section
variable {w w' : World} {X B M N : Nat} {v : Value} {x : WX}
theorem newW_any (w : World) : Calls Tryz.prog 21 #[] w fun r w' => ∃ X B M v, r = .returned (.pointer (some ⟨X, 0, none⟩)) ∧ IsX w' X B M v x0 ∧ Hi w.heap.size X B M v ∧ Kp w w' ∧ PW w' B M v 0 x0.s := by
 have A1 := newWriter_ok 67108864 w (by omega)
 go_enter Tryz.func21, Tryz.ntmps21
 go_wp2_with fail
 go_at_call 44
 refine A1.mono ?_
 clear A1
 rintro e w1 ⟨rfl, hW, k1⟩
 have HW : Hid (IsW w1 (w.heap.size + 1) w.heap.size (.slice none 0 0) (.map #[] 0) 67108864 [] 0 ∧ Kp w w1) := ⟨hW, k1⟩
 clear hW k1
 go_wp2
 go_ret
 obtain ⟨hW, k1⟩ := HW.out
 have hlt := hp_lt hW.map
 have hB : w.heap.size + 1 < w1.heap.size := by
  obtain ⟨c, _⟩ := hW.cells
  exact lt_of_cell c
 have hp : PW (w1.alloc (.cells #[.pointer (some ⟨w.heap.size + 1, 0, none⟩), .bool false] 89)) (w.heap.size + 1) w.heap.size (.slice none 0 0) 0 x0.s := by
  refine ⟨⟨_, hW.other (Kp.al w1 _) (fun _ _ e => e)⟩, ?_, ⟨by simp [x0], by simp [x0]⟩⟩
  have e : x0.s.has = fun _ => false := by funext i; rfl
  rw [e]
  exact OM.new (Kp.heap (Kp.al w1 _) hW.map)
 refine ⟨w1.heap.size, w.heap.size + 1, w.heap.size, .slice none 0 0, rfl, ⟨⟨0, hp⟩, heap_alloc_new w1 _, ?_⟩, ?_, Kp.trans k1 (Kp.al _ _), hp⟩
 ·rintro (e | e | e)
  ·omega
  ·omega
  ·cases e
 ·rintro k (e | e | e | e)
  ·have := k1.size; omega
  ·omega
  ·omega
  ·cases e
theorem IsX.wroteR {F : Nat} {args : Array Value} {R : Ending} {s' : WS} (h : IsX w X B M v x) (H : ∀ n, PW w B M v n x.s → Calls Tryz.prog F args w fun r w' => r = R ∧ PwE w w' B M v n s') :
  Calls Tryz.prog F args w fun r w' => r = R ∧ XE w w' X B M v { x with s := s' } := by
 obtain ⟨n, p⟩ := h.pw
 refine (H n p).mono ?_
 rintro r w' ⟨rfl, v', n', p', c', l', _⟩
 refine ⟨rfl, v', ⟨⟨n', p'⟩, c'.heap h.box h.ap, fun e => ?_⟩, c'.mono (fun _ _ e => .inr e), l'⟩
 rcases e with e | e | e
 ·exact h.ap (.inl e)
 ·exact h.ap (.inr (.inl e))
 ·rcases l' with l | ⟨j, l, hj⟩
  ·exact h.ap (.inr (.inr (by rw [← l]; exact e)))
  ·rw [l] at e; cases e; have := hp_lt h.box; omega
theorem IsX.wroteN {F : Nat} {args : Array Value} {R : Ending} {s' : WS} {n : Nat} (h : IsX w X B M v x) (hN : Hi N X B M v) (hw : N ≤ w.heap.size) (H : Calls Tryz.prog F args w fun r w' => r = R ∧ PwE w w' B M v n s') :
  Calls Tryz.prog F args w fun r w' => r = R ∧ ∃ v' n', IsX w' X B M v' { x with s := s' } ∧ PW w' B M v' n' s' ∧ n' ≤ n + 1 ∧ Hi N X B M v' ∧ N ≤ w'.heap.size ∧ Chg w w' (fun k => N ≤ k) := by
 refine H.mono ?_
 rintro r w' ⟨rfl, v', n', p', c', l', hn⟩
 refine ⟨rfl, v', n', ⟨⟨n', p'⟩, c'.heap h.box h.ap, fun e => ?_⟩, p', hn, fun k e => ?_, Nat.le_trans hw c'.size, c'.mono (fun k _ e => hN k (.inr e))⟩
 ·rcases e with e | e | e
  ·exact h.ap (.inl e)
  ·exact h.ap (.inr (.inl e))
  ·rcases l' with l | ⟨j, l, hj⟩
   ·exact h.ap (.inr (.inr (by rw [← l]; exact e)))
   ·rw [l] at e; cases e; have := hp_lt h.box; omega
 ·rcases Nat.lt_or_ge k w.heap.size with hk | hk
  ·exact hN k (l'.xf hk e)
  ·omega
theorem XE.back (h : XE w w' X B M v x) (hN : Hi N X B M v) (hw : N ≤ w.heap.size) : ∃ v', IsX w' X B M v' x ∧ Hi N X B M v' ∧ N ≤ w'.heap.size ∧ Chg w w' (fun k => N ≤ k) := by
 obtain ⟨v1, i1, c1, l1⟩ := h
 refine ⟨v1, i1, fun k e => ?_, Nat.le_trans hw c1.size, c1.mono (fun k _ e => hN k e)⟩
 rcases Nat.lt_or_ge k w.heap.size with hk | hk
 ·exact hN k (l1.xf hk e)
 ·omega
end
end Go.Proofs.YtkggkkoblpdopaaGreat
namespace Go.Proofs.YtkggkkoblpdopaaGreat
open Go.ChangeShapes Go.WideShapes Go.ChangeAt Go.RowKit
set_option linter.unusedVariables false
theorem OwnB.bs {w : World} {v : Value} {bs : List Int} (h : OwnB w v bs) (hl : bs.length ≤ 140737488355328) : ∃ a c, v = .slice a bs.length c ∧ Bs w a bs.length bs := by
 obtain ⟨a, c, e, _, _, hb⟩ := h.shape hl
 exact ⟨a, c, e, hb⟩
def EncE (w : World) (g : Ste) (r : Ending) (w' : World) : Prop := Kp w w' ∧ ((encOk g = true ∧ ∃ v, r = .returned (.tuple #[v, .int .i64 0]) ∧ OwnB w' v (encB g) ∧ Fresh w.heap.size v) ∨ (encOk g = false ∧ r = .returned (.tuple #[.slice none 0 0, .int .i64 230])))
set_option maxRecDepth 100000 in
set_option maxHeartbeats 4000000 in
theorem encode_any (w : World) (u : Value) (g : Ste) (h : IsSt w u g) : Calls Tryz.prog 9 #[u] w fun r w' => EncE w g r w' := by
 obtain ⟨C, hC⟩ : ∃ C : Array Value, u = .agg C := by
  obtain ⟨_, _, ba, bc, p1, q1, p2, q2, p3, q3, p4, q4, p5, q5, p6, q6, p7, q7, e, _⟩ := h
  exact ⟨_, e⟩
 subst hC
 obtain ⟨w1, hw1⟩ : ∃ w1, w1 = w.alloc (.cells C 36) := ⟨_, rfl⟩
 have k1 : Kp w w1 := by rw [hw1]; exact Kp.al _ _
 have hG := heap_alloc_new w (.cells C 36)
 rw [← hw1] at hG
 have HC : Hid (SteAt w1.heap.size w1 w.heap.size 0 g ∧ w.heap.size < w1.heap.size ∧ Kp w w1) := ⟨h.boxed k1 (hp_lt hG) hG, hp_lt hG, k1⟩
 have A1 := newW_any w1
 clear h k1 hG
 go_enter Tryz.func9, Tryz.ntmps9
 go_wp2_with fail
 rw [← hw1]
 clear hw1
 go_at_call 21
 refine A1.mono ?_
 clear A1
 rintro e w2 ⟨X, B, M, v, rfl, i2, hN, k2, p2⟩
 have c0 := i2.cells.1
 have kc := Kp.al w2 (.cells magV 5 (8, 9))
 have hB := bs_of_block (bs := magic) (heap_alloc_new w2 (.cells magV 5 (8, 9))) (by simp [magic]) (by simp [magic])
 have A1 := (i2.kp kc).wroteN hN (Nat.le_trans k2.size kc.size) (pRaw (p2.kp kc) _ _ 8 _ hB)
 obtain ⟨N, hNe⟩ : ∃ N, N = w1.heap.size := ⟨_, rfl⟩
 rw [← hNe] at A1
 have H2 : Hid (Chg w1 (w2.alloc (.cells magV 5 (8, 9))) (fun k => N ≤ k) ∧ SteAt N w1 w.heap.size 0 g ∧ w.heap.size < N ∧ Kp w w1 ∧ N = w1.heap.size) := ⟨(Kp.trans k2 kc).any, by rw [hNe]; exact HC.out.1, by rw [hNe]; exact HC.out.2.1, HC.out.2.2, hNe⟩
 have hcv := fun (w : World) (C : Array Value) (n c : Nat) => Lib.run_convert_bytes_const (P := Tryz.prog) w 22 5 C n c Tryz.underlying22 Tryz.underlying5
 clear i2 hN k2 kc hB p2 HC hNe
 obtain ⟨G, hGe⟩ : ∃ G, G = w.heap.size := ⟨_, rfl⟩
 rw [← hGe] at H2 ⊢
 have HG : Hid (G = w.heap.size) := hGe
 clear hGe
 go_wp2_with (refine wpList_bslice_run rfl 22 8 _ rfl #[(0, .int .u8 67), (1, .int .u8 76), (2, .int .u8 83), (3, .int .u8 78), (4, .int .u8 1), (5, .int .u8 0), (6, .int .u8 0), (7, .int .u8 0)] (by kernel_rfl) _ (mag_run _) ?_)
 go_at_call 22
 refine A1.mono ?_
 clear A1 c0 hcv
 rintro e w3 ⟨rfl, v3, n3, i3, p3, hn3, hN3, hs3, c3⟩
 have A1 := i3.wroteN hN3 hs3 (pOpen p3 (by omega))
 have c0 := i3.cells.1
 have H3 : Hid (Chg w1 w3 (fun k => N ≤ k)) := Chg.trans H2.out.1 c3 (fun _ _ e => e)
 clear i3 p3 hN3 c3 hs3
 go_wp2_with fail
 go_at_call 23
 refine A1.mono ?_
 clear A1 c0
 rintro e w4 ⟨rfl, v4, n4, i4, p4, hn4, hN4, hs4, c4⟩
 have H4 : Hid (Chg w1 w4 (fun k => N ≤ k)) := Chg.trans H3.out c4 (fun _ _ e => e)
 have hcf : SteAt N w4 G 0 g := H2.out.2.1.cg H4.out H2.out.2.2.1
 have i4' : IsX w4 X B M v4 x2 := i4
 have A1 := wgoOver i4' hN4 hs4 G 0 g hcf H2.out.2.2.1
 have HN4 : Hid (Hi N X B M v4 ∧ N ≤ w4.heap.size) := ⟨hN4, hs4⟩
 rw [show (x0.s.raw magic).open.1 = 8 from open8]
 clear i4 i4' p4 hN4 c4 hs4 hcf H3
 go_wp2_with fail
 go_at_call 24
 refine A1.mono ?_
 clear A1
 rintro e w5 ⟨rfl, q5⟩
 obtain ⟨v5, i5, hN5, hs5, c5⟩ := q5.back HN4.out.1 HN4.out.2
 have H5 : Hid (Chg w1 w5 (fun k => N ≤ k)) := Chg.trans H4.out c5 (fun _ _ e => e)
 have A1 := i5.wroteR (s' := (x2.ste g).s.shut 8) (fun n p => pShut p 8 (by omega) (by omega))
 have c0 := i5.cells.1
 have HN5 : Hid (Hi N X B M v5 ∧ N ≤ w5.heap.size) := ⟨hN5, hs5⟩
 clear q5 i5 hN5 hs5 c5 H4 HN4
 go_wp2_with fail
 go_at_call 25
 refine A1.mono ?_
 clear A1 c0
 rintro e w6 ⟨rfl, q6⟩
 obtain ⟨v6, i6, hN6, hs6, c6⟩ := q6.back HN5.out.1 HN5.out.2
 have i6' : IsX w6 X B M v6 (encS g) := i6
 obtain ⟨n6, p6⟩ := i6'.pw
 have A1 := pDone p6
 have c0 := i6'.cells.1
 have HS : Hid (IsX w6 X B M v6 (encS g) ∧ Hi N X B M v6 ∧ N ≤ w6.heap.size ∧ Chg w1 w6 (fun k => N ≤ k)) := ⟨i6', hN6, hs6, Chg.trans H5.out c6 (fun _ _ e => e)⟩
 have hdl : (encS g).s.data.length ≤ 67108864 := by
  obtain ⟨mo, hW⟩ := p6.is
  have a1 := hW.lim_le
  have a2 := hW.len_le
  omega
 have HK : Hid (Kp w w1) := H2.out.2.2.2.1
 have HN : Hid (N = w1.heap.size) := H2.out.2.2.2.2
 clear q6 i6 i6' hN6 hs6 c6 H5 HN5 p6 H2
 go_wp2_with fail
 go_at_call 26
 refine A1.mono ?_
 clear A1 c0
 rintro e w7 ⟨va, rfl, ho7, hf7, k7⟩
 have i7 := HS.out.1.kp k7
 have c0 := i7.cells.1
 have hcf := HS.out.2.2.2
 have kall : ∀ {wz : World}, Chg w7 wz (fun k => N ≤ k) → Kp w wz := fun {wz} cz => Kp.trans HK.out (by
  have := Chg.trans hcf (Chg.trans k7.any cz (fun _ _ e => e)) (fun _ _ e => e)
  exact this.mono (fun k hk e => by rw [HN.out] at e; omega))
 obtain ⟨bs, hbs⟩ : ∃ bs, bs = (encS g).s.out := ⟨_, rfl⟩
 rw [← hbs] at ho7
 have hlen : bs.length ≤ 67108864 := by
  rw [hbs]; unfold WS.out; split
  ·simp
  ·split
   ·simp
   ·exact hdl
 obtain ⟨a, c, rfl, hb⟩ := ho7.bs (by omega)
 have hcr := crc_lt bs ho7.2
 have kd := Kp.trans (Kp.drew w7) (Kp.al w7.drew (.cells #[.slice a bs.length c] 22))
 have hs9 := Kp.cell (Kp.drew w7) c0
 have hs8 := kd.cell c0
 have A1 := sum_one (w7.drew.alloc (.cells #[.slice a bs.length c] 22)) w7.heap.size 1 a bs.length c bs (heap_alloc_new w7.drew _) (hb.chg kd (by simp))
 have A2 := ((i7.kp kd).wroteR (fun n p => pm32 p (crc bs) hcr)).mono (R' := fun e x1 => e = .returned (.tuple #[]) ∧ x1.cell? ⟨X, 0, none⟩ = some (.pointer (some ⟨B, 0, none⟩)) ∧ XE (w7.drew.alloc (.cells #[.slice a bs.length c] 22)) x1 X B M v6 { encS g with s := (encS g).s.raw (le (crc bs) 4) }) (fun r w' ⟨e, q⟩ => ⟨e, by obtain ⟨v', i', _⟩ := q; exact i'.cells.1, q⟩)
 have HF : Hid (Hi N X B M v6 ∧ N ≤ w7.heap.size ∧ (∀ {wz : World}, Chg w7 wz (fun k => N ≤ k) → Kp w wz) ∧ bs = (encS g).s.out ∧ Kp w7 (w7.drew.alloc (.cells #[.slice a bs.length c] 22))) := ⟨HS.out.2.1, Nat.le_trans HS.out.2.2.1 k7.size, kall, hbs, kd⟩
 obtain ⟨cd0, hcd0⟩ : ∃ cd0, cd0 = (encS g).s.code := ⟨_, rfl⟩
 rw [← hcd0]
 clear hbs kall kd hcf HS i7 ho7 hf7 hb hdl k7 hcd0
 go_upto_region 7 with fail
 refine reg9_7 w7 X B a bs.length c (crc bs) hs9 hs8 A1 _ A2 _ (fun _ _ _ q _ h => by cases q <;> exact h) ?_
 clear A1 A2 hs9 hs8 c0
 rintro w8 q8
 obtain ⟨h1, h2, h3, h4, h5⟩ := HF.out
 rw [h4] at q8
 obtain ⟨v8, i8, hN8, hs8, c8⟩ := q8.back h1 (Nat.le_trans h2 (by rw [h4] at h5; exact h5.size))
 have i8' : IsX w8 X B M v8 ⟨encT g, (encS g).u⟩ := i8
 obtain ⟨n8, p8⟩ := i8'.pw
 have A1 := pDone p8
 have c0 := i8'.cells.1
 have H8 : Hid (Chg w7 w8 (fun k => N ≤ k) ∧ w7.heap.size ≤ w8.heap.size ∧ IsX w8 X B M v8 ⟨encT g, (encS g).u⟩) := by
  rw [h4] at h5
  exact ⟨Chg.trans h5.any c8 (fun _ _ e => e), Nat.le_trans h5.size c8.size, i8'⟩
 clear i8 i8' hN8 hs8 c8 p8 q8 h1 h2 h3 h4 h5
 go_wp2_with fail
 go_at_call 26
 refine A1.mono ?_
 clear A1 c0
 rintro e w9 ⟨vb, rfl, ho9, hf9, k9⟩
 have kw : Kp w w9 := HF.out.2.2.1 (Chg.trans H8.out.1 k9.any (fun _ _ e => e))
 have c0 := (H8.out.2.2.kp k9).cells.1
 have c1 := (H8.out.2.2.kp k9).cells.2.1
 cases hok : encOk g with
 | false =>
  have hbad : (encT g).code ≠ 0 ∨ (encS g).u = true := by
   unfold encOk at hok
   by_cases h1 : (encT g).code = 0
   ·right; simpa [h1] using hok
   ·exact .inl h1
  have HE : Hid (EncE w g (.returned (.tuple #[.slice none 0 0, .int .i64 230])) w9) := ⟨kw, .inr ⟨hok, rfl⟩⟩
  clear hok kw ho9 hf9 k9 H8 HF HK
  obtain ⟨cd, hcd⟩ : ∃ cd, cd = (encT g).code := ⟨_, rfl⟩
  obtain ⟨un, hun⟩ : ∃ un, un = (encS g).u := ⟨_, rfl⟩
  rw [← hcd, ← hun] at hbad
  have c2 : w9.cell? ⟨X, 1, none⟩ = some (.bool un) := by rw [hun]; exact c1
  clear c1
  rw [← hcd]
  clear hcd hun
  by_cases h1 : cd = 0
  ·have h2 : un = true := hbad.resolve_left (fun e => e h1)
   clear hbad
   subst h1 h2
   go_wp2
   exact ⟨rfl, _, by simp [results, Tryz.results9, go_sem], HE.out⟩
  ·clear hbad
   have h1b : (cd == 0) = false := by simpa using h1
   go_wp2
   exact ⟨rfl, _, by simp [results, Tryz.results9, go_sem], HE.out⟩
 | true =>
  have e1 : (encT g).code = 0 ∧ (encS g).u = false := by
   unfold encOk at hok
   simpa using hok
  rw [e1.1]
  have c2 : w9.cell? ⟨X, 1, none⟩ = some (.bool false) := by rw [← e1.2]; exact c1
  clear c1
  have HE : Hid (EncE w g (.returned (.tuple #[vb, .int .i64 0])) w9) := ⟨kw, .inl ⟨hok, vb, rfl, ho9, fun k hk => Nat.le_trans (HF.out.2.2.1 H8.out.1).size (hf9 k hk)⟩⟩
  clear ho9 hf9 k9 H8 HF e1 kw hok
  go_wp2
  exact ⟨rfl, _, by simp [results, Tryz.results9, go_sem], HE.out⟩
end Go.Proofs.YtkggkkoblpdopaaGreat
