import Derived.Test.YtghiffpolacmiabGreatDoorRm
import Derived.Deep.RegionHeld3
import Derived.Shelf.Abstract
namespace Go.Proofs.YtghiffpolacmiabGreatDoor
open Go.ChangeShapes Go.WideShapes Go.ChangeAt Go.RowKit
set_option linter.unusedVariables false

theorem wpList_build015 {w : World} {ops : Array Oper} {rest : List Oper} {o : Oper} {a : Act} {Q : Exit → Act → World → Prop} (hgd : o.guard = none) (t : TypeId) (x0 x1 x2 : Operand) (ho : o.op = .build t #[(0, x0), (1, x1), (5, x2)]) (v0 v1 v2 : Value) (h0 : a.eval x0 = v0) (h1 : a.eval x1 = v1) (h2 : a.eval x2 = v2) (v : Value) (hrun : (Instr.build t #[(0, v0), (1, v1), (5, v2)]).run Tryz.prog w = .ok v w)
    (h : wpList Tryz.prog ops Q rest (a.put o.dst v) w) : wpList Tryz.prog ops Q (o :: rest) a w :=
  wpList_build_run hgd t _ ho #[(0, v0), (1, v1), (5, v2)] (by simp [h0, h1, h2]) v hrun h
set_option maxRecDepth 100000 in
set_option maxHeartbeats 4000000 in
theorem rstep_taken (w : World) (G bb : Nat) (g : Rg) (x : Bd) (h : Rb w G bb g x) (hx : x.le 9990) (ho : g.on = true) (hd : g.hd = false) (hi : x.irq = true) :
    Calls Tryz.prog 7 #[.pointer (some ⟨G, 0, none⟩), .pointer (some ⟨bb, 0, none⟩)] w fun e w' => e = .returned (.agg (rsc (Rs.irq x.ln)).toArray) ∧ Sp w G bb x ((g.put 0 0).taken x.ln) x.irqd w' := by
  obtain ⟨w1, hw1⟩ : ∃ w1, w1 = w.alloc (.cells (rsc Rs.zero).toArray 40) := ⟨_, rfl⟩
  have s1 : Sa w w1 G bb g x x := by rw [hw1]; exact Sa.init h
  have c0 := s1.r.cell 0 _ rfl
  have f0 := s1.r.fr 0
  obtain ⟨r2, k2⟩ := s1.r.set 0 (.int .u32 0) (g.put 0 0) rfl
  have s2 := s1.rset r2 k2
  obtain ⟨w2, hw2⟩ : ∃ w2, w2 = w1.setCell ⟨G, 0, none⟩ (.int .u32 0) := ⟨_, rfl⟩
  rw [← hw2] at s2
  have HW2 : Hid (w2 = w1.setCell ⟨G, 0, none⟩ (.int .u32 0)) := hw2
  clear hw2
  have c19 := s2.r.cell 19 (.bool g.on) rfl
  have c20 := s2.r.cell 20 (.bool g.hd) rfl
  rw [ho] at c19
  rw [hd] at c20
  have hI := irq_any w2 bb x s2.b (hx.more (by omega))
  rw [hi] at hI
  have HX : Hid (Sa w w2 G bb (g.put 0 0) x x) := s2
  have hz38 := fun w => zero38 w
  clear h hx s1 s2 r2 k2
  generalize hZq : (rsc Rs.zero).toArray = Z38 at hz38 hw1
  clear hZq
  go_enter Tryz.func7, Tryz.ntmps7
  go_upto_region 1 with (refine wpList_alloc_zero _ rfl 40 Z38 rfl (hz38 _) ?_)
  rw [← hw1]
  clear hw1
  go_upto_region 2 with (fail)
  rw [← HW2.out]
  clear HW2 c0 f0
  go_upto_region 5 with (go_at_call 13; refine hI.mono ?_; rintro e wi ⟨rfl, bi⟩)
  obtain ⟨vi, si⟩ := HX.out.bus bi (fun k => irqd_row x k)
  clear bi hI HX c19 c20
  have a16 := si.r.cell 16 (.int .u32 g.pc) rfl
  have a18 := si.r.cell 18 (.int .u32 g.back) rfl
  have e18 := si.r.fr 18
  obtain ⟨r3, k3⟩ := si.r.set 18 (.int .u32 g.pc) { g.put 0 0 with back := g.pc } rfl
  have a17 := IsRg.cell r3 17 (.int .u32 g.vec) rfl
  have b16 := IsRg.cell r3 16 (.int .u32 g.pc) rfl
  have e16 := IsRg.fr r3 16
  obtain ⟨r4, k4⟩ := IsRg.set r3 16 (.int .u32 g.vec) { g.put 0 0 with back := g.pc, pc := g.vec } rfl
  have a20 := IsRg.cell r4 20 (.bool g.hd) rfl
  have e20 := IsRg.fr r4 20
  obtain ⟨r5, k5⟩ := IsRg.set r4 20 (.bool true) { g.put 0 0 with back := g.pc, pc := g.vec, hd := true } rfl
  have a14 := IsRg.cell r5 14 (.int .u32 ((g.put 0 0).R 14)) rfl
  have e14 := IsRg.fr r5 14
  obtain ⟨r6, k6⟩ := IsRg.set r5 14 (.int .u32 (x.ln % 4294967296)) ((g.put 0 0).taken x.ln) rfl
  have S6 := si.rset r6 (Chg.trans (Chg.trans (Chg.trans k3 k4 (fun _ _ e => e)) k5 (fun _ _ e => e)) k6 (fun _ _ e => e))
  obtain ⟨w6, hw6⟩ : ∃ w6, w6 = (((wi.setCell ⟨G, 18, none⟩ (.int .u32 g.pc)).setCell ⟨G, 16, none⟩ (.int .u32 g.vec)).setCell ⟨G, 20, none⟩ (.bool true)).setCell ⟨G, 14, none⟩ (.int .u32 (x.ln % 4294967296)) := ⟨_, rfl⟩
  have HW6 : Hid (w6 = (((wi.setCell ⟨G, 18, none⟩ (.int .u32 g.pc)).setCell ⟨G, 16, none⟩ (.int .u32 g.vec)).setCell ⟨G, 20, none⟩ (.bool true)).setCell ⟨G, 14, none⟩ (.int .u32 (x.ln % 4294967296))) := hw6
  rw [← hw6] at S6
  have HS : Hid (Sa w w6 G bb ((g.put 0 0).taken x.ln) x (x.irqd.lvTo vi)) := S6
  clear hw6 S6 r3 r4 r5 r6 k3 k4 k5 k6 si
  go_upto_region 9 with (fail)
  rw [← HW6.out]
  clear HW6 a16 a17 a18 a20 a14 b16 e18 e16 e20 e14
  have hst := storeAll w6 40 w.heap.size _ (rsc (Rs.irq x.ln)).toArray 40 HS.out.res rfl (by rw [size38]; rfl) (by simpa using rsc_one _)
  obtain ⟨hE, n8⟩ := HS.out.done (Rs.irq x.ln)
  have HE : Hid (Sp w G bb x ((g.put 0 0).taken x.ln) x.irqd _) := hE
  clear hE HS
  generalize hrs : rsc (Rs.irq x.ln) = RS at *
  have hbu : ∀ W, (Instr.build 40 #[(0, .int .i64 6), (1, .int .i64 4), (5, .int .i64 x.ln)]).run Tryz.prog W = .ok (.agg RS.toArray) W := fun W => by rw [← hrs]; exact build38 W x.ln
  obtain ⟨w9, hw9⟩ : ∃ w9, w9 = w6.setRow w.heap.size RS.toArray := ⟨_, rfl⟩
  rw [← hw9] at hst n8 HE
  clear hw9
  go_wp2_with (first
    | (refine wpList_build015 rfl 40 (.const (.int .i64 6)) (.const (.int .i64 4)) (.tmp 57) rfl (.int .i64 6) (.int .i64 4) (.int .i64 x.ln) rfl rfl rfl (.agg RS.toArray) (hbu _) ?_)
    | (refine wpList_store_row rfl 40 (.tmp 4) (.tmp 58) rfl w.heap.size 0 RS.toArray rfl rfl _ hst ?_))
  refine ⟨rfl, .agg RS.toArray, ?_, by rw [← hrs], HE.out⟩
  refine results_cell_row rfl _ _ w.heap.size 40 RS.toArray (0, 0) _ rfl n8 Tryz.underlying40 rfl ?_
  rw [size38, ← hrs]; rfl
end Go.Proofs.YtghiffpolacmiabGreatDoor
namespace Go.Proofs.YtghiffpolacmiabGreatDoor
open Go.ChangeShapes Go.WideShapes Go.ChangeAt Go.RowKit
set_option linter.unusedVariables false

def ops7_35 : Array Oper := #[{ dst := some 216, op := Op.fieldAddr 62 (Operand.tmp 11) 0, type := 0, pos := "ref.go:392", after := #[], guard := none },
  { dst := some 217, op := Op.load 3 (Operand.tmp 216), type := 3, pos := "ref.go:392", after := #[{ on := 0, ground := Ground.data }], guard := none },
  { dst := some 218, op := Op.move (Operand.tmp 0), type := 32, pos := "ref.go:392", after := #[], guard := none },
  { dst := some 219, op := Op.fieldAddr 62 (Operand.tmp 11) 1, type := 0, pos := "ref.go:392", after := #[], guard := none },
  { dst := some 220, op := Op.load 3 (Operand.tmp 219), type := 3, pos := "ref.go:392", after := #[{ on := 3, ground := Ground.data }], guard := none },
  { dst := some 221, op := Op.nilCheck (Operand.tmp 218), type := 0, pos := "ref.go:392", after := #[{ on := 2, ground := Ground.data }], guard := none },
  { dst := some 222, op := Op.fieldAddr 25 (Operand.tmp 221) 0, type := 0, pos := "ref.go:392", after := #[{ on := 5, ground := Ground.data }], guard := none },
  { dst := some 223, op := Op.indexAddr 23 (Operand.tmp 222) (Operand.tmp 220), type := 0, pos := "ref.go:392", after := #[{ on := 6, ground := Ground.data }, { on := 4, ground := Ground.data }], guard := none },
  { dst := some 224, op := Op.load 22 (Operand.tmp 223), type := 22, pos := "ref.go:392", after := #[{ on := 7, ground := Ground.data }], guard := none },
  { dst := some 225, op := Op.move (Operand.tmp 0), type := 32, pos := "ref.go:392", after := #[], guard := none },
  { dst := some 226, op := Op.fieldAddr 62 (Operand.tmp 11) 2, type := 0, pos := "ref.go:392", after := #[], guard := none },
  { dst := some 227, op := Op.load 3 (Operand.tmp 226), type := 3, pos := "ref.go:392", after := #[{ on := 10, ground := Ground.data }], guard := none },
  { dst := some 228, op := Op.nilCheck (Operand.tmp 225), type := 0, pos := "ref.go:392", after := #[{ on := 9, ground := Ground.data }], guard := none },
  { dst := some 229, op := Op.fieldAddr 25 (Operand.tmp 228) 0, type := 0, pos := "ref.go:392", after := #[{ on := 12, ground := Ground.data }], guard := none },
  { dst := some 230, op := Op.indexAddr 23 (Operand.tmp 229) (Operand.tmp 227), type := 0, pos := "ref.go:392", after := #[{ on := 13, ground := Ground.data }, { on := 11, ground := Ground.data }], guard := none },
  { dst := some 231, op := Op.load 22 (Operand.tmp 230), type := 22, pos := "ref.go:392", after := #[{ on := 14, ground := Ground.data }], guard := none },
  { dst := some 232, op := Op.call { callee := Callee.value (Operand.func 21), args := #[Operand.tmp 217, Operand.tmp 224, Operand.tmp 231], argTypes := #[3, 22, 22] }, type := 4, pos := "ref.go:392", after := #[{ on := 1, ground := Ground.data }, { on := 8, ground := Ground.data }, { on := 15, ground := Ground.data }], guard := none },
  { dst := some 12, op := Op.assign (Operand.tmp 232), type := 4, pos := "ref.go:392", after := #[{ on := 16, ground := Ground.data }, { on := 16, ground := Ground.chain }, { on := 0, ground := Ground.phase }, { on := 1, ground := Ground.phase }, { on := 2, ground := Ground.phase }, { on := 3, ground := Ground.phase }, { on := 4, ground := Ground.phase }, { on := 5, ground := Ground.phase }, { on := 6, ground := Ground.phase }, { on := 7, ground := Ground.phase }, { on := 8, ground := Ground.phase }, { on := 9, ground := Ground.phase }, { on := 10, ground := Ground.phase }, { on := 11, ground := Ground.phase }, { on := 12, ground := Ground.phase }, { on := 13, ground := Ground.phase }, { on := 14, ground := Ground.phase }, { on := 15, ground := Ground.phase }, { on := 16, ground := Ground.phase }], guard := none }]
set_option maxHeartbeats 4000000 in
set_option maxRecDepth 100000 in
theorem reg7_35 (W : World) (G M B : Nat) (op : Int) (X Y : Nat) (a b : Int) (q : Bool) (hX : (X : Int) < 16) (hY : (Y : Int) < 16) (h0 : W.cell? ⟨B, 0, none⟩ = some (.int .i64 op)) (h1 : W.cell? ⟨B, 1, none⟩ = some (.int .i64 (X : Nat))) (h2 : W.cell? ⟨B, 2, none⟩ = some (.int .i64 (Y : Nat))) (gX : W.cell? ⟨G, X, none⟩ = some (.int .u32 a)) (gY : W.cell? ⟨G, Y, none⟩ = some (.int .u32 b))
    (hT : ∀ V, Calls Tryz.prog 21 #[.int .i64 op, .int .u32 a, .int .u32 b] V fun e w' => e = .returned (.bool q) ∧ Kp V w')
    (Q : Exit → Act → World → Prop) (hPan : ∀ c (a : Act) w (d : Option Tmp) v, Q (.panic c) (a.put d v) w → Q (.panic c) a w) {u1 u2 u3 u4 u5 u6 u7 u8 u9 u12 u13 u14 u15 u16 u17 u18 u19 u20 u21 u22 u23 u24 u25 u26 u27 u28 u29 u30 u31 u32 u33 u34 u35 u36 u37 u38 u39 u40 u41 u42 u43 u44 u45 u46 u47 u48 u49 u50 u51 u52 u53 u54 u55 u56 u57 u58 u59 u60 u61 u62 u63 u64 u65 u66 u67 u68 u69 u70 u71 u72 u73 u74 u75 u76 u77 u78 u79 u80 u81 u82 u83 u84 u85 u86 u87 u88 u89 u90 u91 u92 u93 u94 u95 u96 u97 u98 u99 u100 u101 u102 u103 u104 u105 u106 u107 u108 u109 u110 u111 u112 u113 u114 u115 u116 u117 u118 u119 u120 u121 u122 u123 u124 u125 u126 u127 u128 u129 u130 u131 u132 u133 u134 u135 u136 u137 u138 u139 u140 u141 u142 u143 u144 u145 u146 u147 u148 u149 u150 u151 u152 u153 u154 u155 u156 u157 u158 u159 u160 u161 u162 u163 u164 u165 u166 u167 u168 u169 u170 u171 u172 u173 u174 u175 u176 u177 u178 u179 u180 u181 u182 u183 u184 u185 u186 u187 u188 u189 u190 u191 u192 u193 u194 u195 u196 u197 u198 u199 u200 u201 u202 u203 u204 u205 u206 u207 u208 u209 u210 u211 u212 u213 u214 u215 u216 u217 u218 u219 u220 u221 u222 u223 u224 u225 u226 u227 u228 u229 u230 u231 u232 u233 u234 u235 u236 u237 u238 u239 u240 u241 u242 u243 u244 u245 u246 u247 u248 u249 u250 u251 u252 u253 u254 u255 u256 u257 : Value}
    (hQ : ∀ w', Kp W w' → Q .normal ⟨#[.pointer (some ⟨G, 0, none⟩), u1, u2, u3, u4, u5, u6, u7, u8, u9, .pointer (some ⟨M, 0, none⟩), .pointer (some ⟨B, 0, none⟩), .bool q, u13, u14, u15, u16, u17, u18, u19, u20, u21, u22, u23, u24, u25, u26, u27, u28, u29, u30, u31, u32, u33, u34, u35, u36, u37, u38, u39, u40, u41, u42, u43, u44, u45, u46, u47, u48, u49, u50, u51, u52, u53, u54, u55, u56, u57, u58, u59, u60, u61, u62, u63, u64, u65, u66, u67, u68, u69, u70, u71, u72, u73, u74, u75, u76, u77, u78, u79, u80, u81, u82, u83, u84, u85, u86, u87, u88, u89, u90, u91, u92, u93, u94, u95, u96, u97, u98, u99, u100, u101, u102, u103, u104, u105, u106, u107, u108, u109, u110, u111, u112, u113, u114, u115, u116, u117, u118, u119, u120, u121, u122, u123, u124, u125, u126, u127, u128, u129, u130, u131, u132, u133, u134, u135, u136, u137, u138, u139, u140, u141, u142, u143, u144, u145, u146, u147, u148, u149, u150, u151, u152, u153, u154, u155, u156, u157, u158, u159, u160, u161, u162, u163, u164, u165, u166, u167, u168, u169, u170, u171, u172, u173, u174, u175, u176, u177, u178, u179, u180, u181, u182, u183, u184, u185, u186, u187, u188, u189, u190, u191, u192, u193, u194, u195, u196, u197, u198, u199, u200, u201, u202, u203, u204, u205, u206, u207, u208, u209, u210, u211, u212, u213, u214, u215, .pointer (some ⟨B, 0, none⟩), .int .i64 op, .pointer (some ⟨G, 0, none⟩), .pointer (some ⟨B, 1, none⟩), .int .i64 (X : Nat), .pointer (some ⟨G, 0, none⟩), .pointer (some ⟨G, 0, none⟩), .pointer (some ⟨G, X, none⟩), .int .u32 a, .pointer (some ⟨G, 0, none⟩), .pointer (some ⟨B, 2, none⟩), .int .i64 (Y : Nat), .pointer (some ⟨G, 0, none⟩), .pointer (some ⟨G, 0, none⟩), .pointer (some ⟨G, Y, none⟩), .int .u32 b, .bool q, u233, u234, u235, u236, u237, u238, u239, u240, u241, u242, u243, u244, u245, u246, u247, u248, u249, u250, u251, u252, u253, u254, u255, u256, u257], []⟩ w') :
    Code.wp Tryz.prog (Code.region 35 ops7_35 true) Q ⟨#[.pointer (some ⟨G, 0, none⟩), u1, u2, u3, u4, u5, u6, u7, u8, u9, .pointer (some ⟨M, 0, none⟩), .pointer (some ⟨B, 0, none⟩), u12, u13, u14, u15, u16, u17, u18, u19, u20, u21, u22, u23, u24, u25, u26, u27, u28, u29, u30, u31, u32, u33, u34, u35, u36, u37, u38, u39, u40, u41, u42, u43, u44, u45, u46, u47, u48, u49, u50, u51, u52, u53, u54, u55, u56, u57, u58, u59, u60, u61, u62, u63, u64, u65, u66, u67, u68, u69, u70, u71, u72, u73, u74, u75, u76, u77, u78, u79, u80, u81, u82, u83, u84, u85, u86, u87, u88, u89, u90, u91, u92, u93, u94, u95, u96, u97, u98, u99, u100, u101, u102, u103, u104, u105, u106, u107, u108, u109, u110, u111, u112, u113, u114, u115, u116, u117, u118, u119, u120, u121, u122, u123, u124, u125, u126, u127, u128, u129, u130, u131, u132, u133, u134, u135, u136, u137, u138, u139, u140, u141, u142, u143, u144, u145, u146, u147, u148, u149, u150, u151, u152, u153, u154, u155, u156, u157, u158, u159, u160, u161, u162, u163, u164, u165, u166, u167, u168, u169, u170, u171, u172, u173, u174, u175, u176, u177, u178, u179, u180, u181, u182, u183, u184, u185, u186, u187, u188, u189, u190, u191, u192, u193, u194, u195, u196, u197, u198, u199, u200, u201, u202, u203, u204, u205, u206, u207, u208, u209, u210, u211, u212, u213, u214, u215, u216, u217, u218, u219, u220, u221, u222, u223, u224, u225, u226, u227, u228, u229, u230, u231, u232, u233, u234, u235, u236, u237, u238, u239, u240, u241, u242, u243, u244, u245, u246, u247, u248, u249, u250, u251, u252, u253, u254, u255, u256, u257], []⟩ W := by
  have HSK : ∀ V, Kp W V → (fun w' => w'.cell? ⟨B, 0, none⟩ = some (.int .i64 op) ∧ w'.cell? ⟨B, 1, none⟩ = some (.int .i64 (X : Nat)) ∧ w'.cell? ⟨B, 2, none⟩ = some (.int .i64 (Y : Nat)) ∧ w'.cell? ⟨G, X, none⟩ = some (.int .u32 a) ∧ w'.cell? ⟨G, Y, none⟩ = some (.int .u32 b)) V := fun V k => ⟨Kp.cell k h0, Kp.cell k h1, Kp.cell k h2, Kp.cell k gX, Kp.cell k gY⟩
  have k0 : Kp W W.drew := (Chg.refl _ _).drew
  refine wp_region_held_drew (S := fun w' => w'.cell? ⟨B, 0, none⟩ = some (.int .i64 op) ∧ w'.cell? ⟨B, 1, none⟩ = some (.int .i64 (X : Nat)) ∧ w'.cell? ⟨B, 2, none⟩ = some (.int .i64 (Y : Nat)) ∧ w'.cell? ⟨G, X, none⟩ = some (.int .u32 a) ∧ w'.cell? ⟨G, Y, none⟩ = some (.int .u32 b)) hmx (HSK _ k0) (fun HSX => ?_)
  obtain ⟨W0, hW0⟩ : ∃ W0, W0 = W.drew := ⟨_, rfl⟩
  rw [← hW0] at HSX k0 ⊢
  clear hW0
  refine wpAnyH_take (i := 0) (oi := { dst := some 216, op := Op.fieldAddr 62 (Operand.tmp 11) 0, type := 0, pos := "ref.go:392", after := #[], guard := none }) (v := .pointer (some ⟨B, 0, none⟩)) rfl (by kernel_rfl) (by kernel_rfl) (by kernel_rfl) (fun _ _ _ h => hPan _ _ _ _ _ h) (Or.inl ⟨by rfl, ?_⟩) HSX ?_
  · intro wx d0
    go_simp
  simp only [Act.put, List.setIfInBounds_toArray, List.set_cons_zero, List.set_cons_succ]
  refine wpAnyH_take (i := 1) (oi := { dst := some 217, op := Op.load 3 (Operand.tmp 216), type := 3, pos := "ref.go:392", after := #[{ on := 0, ground := Ground.data }], guard := none }) (v := .int .i64 op) rfl (by kernel_rfl) (by kernel_rfl) (by kernel_rfl) (fun _ _ _ h => hPan _ _ _ _ _ h) (Or.inl ⟨by rfl, ?_⟩) HSX ?_
  · intro wx d0
    obtain ⟨d1, d2, d3, d4, d5⟩ := d0; go_simp
  simp only [Act.put, List.setIfInBounds_toArray, List.set_cons_zero, List.set_cons_succ]
  refine wpAnyH_take (i := 2) (oi := { dst := some 218, op := Op.move (Operand.tmp 0), type := 32, pos := "ref.go:392", after := #[], guard := none }) (v := .pointer (some ⟨G, 0, none⟩)) rfl (by kernel_rfl) (by kernel_rfl) (by kernel_rfl) (fun _ _ _ h => hPan _ _ _ _ _ h) (Or.inl ⟨by rfl, ?_⟩) HSX ?_
  · intro wx d0
    go_simp
  simp only [Act.put, List.setIfInBounds_toArray, List.set_cons_zero, List.set_cons_succ]
  refine wpAnyH_take (i := 3) (oi := { dst := some 219, op := Op.fieldAddr 62 (Operand.tmp 11) 1, type := 0, pos := "ref.go:392", after := #[], guard := none }) (v := .pointer (some ⟨B, 1, none⟩)) rfl (by kernel_rfl) (by kernel_rfl) (by kernel_rfl) (fun _ _ _ h => hPan _ _ _ _ _ h) (Or.inl ⟨by rfl, ?_⟩) HSX ?_
  · intro wx d0
    go_simp
  simp only [Act.put, List.setIfInBounds_toArray, List.set_cons_zero, List.set_cons_succ]
  refine wpAnyH_take (i := 4) (oi := { dst := some 220, op := Op.load 3 (Operand.tmp 219), type := 3, pos := "ref.go:392", after := #[{ on := 3, ground := Ground.data }], guard := none }) (v := .int .i64 (X : Nat)) rfl (by kernel_rfl) (by kernel_rfl) (by kernel_rfl) (fun _ _ _ h => hPan _ _ _ _ _ h) (Or.inl ⟨by rfl, ?_⟩) HSX ?_
  · intro wx d0
    obtain ⟨d1, d2, d3, d4, d5⟩ := d0; go_simp
  simp only [Act.put, List.setIfInBounds_toArray, List.set_cons_zero, List.set_cons_succ]
  refine wpAnyH_take (i := 5) (oi := { dst := some 221, op := Op.nilCheck (Operand.tmp 218), type := 0, pos := "ref.go:392", after := #[{ on := 2, ground := Ground.data }], guard := none }) (v := .pointer (some ⟨G, 0, none⟩)) rfl (by kernel_rfl) (by kernel_rfl) (by kernel_rfl) (fun _ _ _ h => hPan _ _ _ _ _ h) (Or.inl ⟨by rfl, ?_⟩) HSX ?_
  · intro wx d0
    go_simp
  simp only [Act.put, List.setIfInBounds_toArray, List.set_cons_zero, List.set_cons_succ]
  refine wpAnyH_take (i := 6) (oi := { dst := some 222, op := Op.fieldAddr 25 (Operand.tmp 221) 0, type := 0, pos := "ref.go:392", after := #[{ on := 5, ground := Ground.data }], guard := none }) (v := .pointer (some ⟨G, 0, none⟩)) rfl (by kernel_rfl) (by kernel_rfl) (by kernel_rfl) (fun _ _ _ h => hPan _ _ _ _ _ h) (Or.inl ⟨by rfl, ?_⟩) HSX ?_
  · intro wx d0
    go_simp
  simp only [Act.put, List.setIfInBounds_toArray, List.set_cons_zero, List.set_cons_succ]
  refine wpAnyH_take (i := 7) (oi := { dst := some 223, op := Op.indexAddr 23 (Operand.tmp 222) (Operand.tmp 220), type := 0, pos := "ref.go:392", after := #[{ on := 6, ground := Ground.data }, { on := 4, ground := Ground.data }], guard := none }) (v := .pointer (some ⟨G, X, none⟩)) rfl (by kernel_rfl) (by kernel_rfl) (by kernel_rfl) (fun _ _ _ h => hPan _ _ _ _ _ h) (Or.inl ⟨by rfl, ?_⟩) HSX ?_
  · intro wx d0
    go_simp
  simp only [Act.put, List.setIfInBounds_toArray, List.set_cons_zero, List.set_cons_succ]
  refine wpAnyH_take (i := 8) (oi := { dst := some 224, op := Op.load 22 (Operand.tmp 223), type := 22, pos := "ref.go:392", after := #[{ on := 7, ground := Ground.data }], guard := none }) (v := .int .u32 a) rfl (by kernel_rfl) (by kernel_rfl) (by kernel_rfl) (fun _ _ _ h => hPan _ _ _ _ _ h) (Or.inl ⟨by rfl, ?_⟩) HSX ?_
  · intro wx d0
    obtain ⟨d1, d2, d3, d4, d5⟩ := d0; go_simp
  simp only [Act.put, List.setIfInBounds_toArray, List.set_cons_zero, List.set_cons_succ]
  refine wpAnyH_take (i := 9) (oi := { dst := some 225, op := Op.move (Operand.tmp 0), type := 32, pos := "ref.go:392", after := #[], guard := none }) (v := .pointer (some ⟨G, 0, none⟩)) rfl (by kernel_rfl) (by kernel_rfl) (by kernel_rfl) (fun _ _ _ h => hPan _ _ _ _ _ h) (Or.inl ⟨by rfl, ?_⟩) HSX ?_
  · intro wx d0
    go_simp
  simp only [Act.put, List.setIfInBounds_toArray, List.set_cons_zero, List.set_cons_succ]
  refine wpAnyH_take (i := 10) (oi := { dst := some 226, op := Op.fieldAddr 62 (Operand.tmp 11) 2, type := 0, pos := "ref.go:392", after := #[], guard := none }) (v := .pointer (some ⟨B, 2, none⟩)) rfl (by kernel_rfl) (by kernel_rfl) (by kernel_rfl) (fun _ _ _ h => hPan _ _ _ _ _ h) (Or.inl ⟨by rfl, ?_⟩) HSX ?_
  · intro wx d0
    go_simp
  simp only [Act.put, List.setIfInBounds_toArray, List.set_cons_zero, List.set_cons_succ]
  refine wpAnyH_take (i := 11) (oi := { dst := some 227, op := Op.load 3 (Operand.tmp 226), type := 3, pos := "ref.go:392", after := #[{ on := 10, ground := Ground.data }], guard := none }) (v := .int .i64 (Y : Nat)) rfl (by kernel_rfl) (by kernel_rfl) (by kernel_rfl) (fun _ _ _ h => hPan _ _ _ _ _ h) (Or.inl ⟨by rfl, ?_⟩) HSX ?_
  · intro wx d0
    obtain ⟨d1, d2, d3, d4, d5⟩ := d0; go_simp
  simp only [Act.put, List.setIfInBounds_toArray, List.set_cons_zero, List.set_cons_succ]
  refine wpAnyH_take (i := 12) (oi := { dst := some 228, op := Op.nilCheck (Operand.tmp 225), type := 0, pos := "ref.go:392", after := #[{ on := 9, ground := Ground.data }], guard := none }) (v := .pointer (some ⟨G, 0, none⟩)) rfl (by kernel_rfl) (by kernel_rfl) (by kernel_rfl) (fun _ _ _ h => hPan _ _ _ _ _ h) (Or.inl ⟨by rfl, ?_⟩) HSX ?_
  · intro wx d0
    go_simp
  simp only [Act.put, List.setIfInBounds_toArray, List.set_cons_zero, List.set_cons_succ]
  refine wpAnyH_take (i := 13) (oi := { dst := some 229, op := Op.fieldAddr 25 (Operand.tmp 228) 0, type := 0, pos := "ref.go:392", after := #[{ on := 12, ground := Ground.data }], guard := none }) (v := .pointer (some ⟨G, 0, none⟩)) rfl (by kernel_rfl) (by kernel_rfl) (by kernel_rfl) (fun _ _ _ h => hPan _ _ _ _ _ h) (Or.inl ⟨by rfl, ?_⟩) HSX ?_
  · intro wx d0
    go_simp
  simp only [Act.put, List.setIfInBounds_toArray, List.set_cons_zero, List.set_cons_succ]
  refine wpAnyH_take (i := 14) (oi := { dst := some 230, op := Op.indexAddr 23 (Operand.tmp 229) (Operand.tmp 227), type := 0, pos := "ref.go:392", after := #[{ on := 13, ground := Ground.data }, { on := 11, ground := Ground.data }], guard := none }) (v := .pointer (some ⟨G, Y, none⟩)) rfl (by kernel_rfl) (by kernel_rfl) (by kernel_rfl) (fun _ _ _ h => hPan _ _ _ _ _ h) (Or.inl ⟨by rfl, ?_⟩) HSX ?_
  · intro wx d0
    go_simp
  simp only [Act.put, List.setIfInBounds_toArray, List.set_cons_zero, List.set_cons_succ]
  refine wpAnyH_take (i := 15) (oi := { dst := some 231, op := Op.load 22 (Operand.tmp 230), type := 22, pos := "ref.go:392", after := #[{ on := 14, ground := Ground.data }], guard := none }) (v := .int .u32 b) rfl (by kernel_rfl) (by kernel_rfl) (by kernel_rfl) (fun _ _ _ h => hPan _ _ _ _ _ h) (Or.inl ⟨by rfl, ?_⟩) HSX ?_
  · intro wx d0
    obtain ⟨d1, d2, d3, d4, d5⟩ := d0; go_simp
  simp only [Act.put, List.setIfInBounds_toArray, List.set_cons_zero, List.set_cons_succ]
  refine wpAnyH_ready (rs := [16]) (by kernel_rfl) (by simp) ?_
  refine AllReadyH.cons (o := { dst := some 232, op := Op.call { callee := Callee.value (Operand.func 21), args := #[Operand.tmp 217, Operand.tmp 224, Operand.tmp 231], argTypes := #[3, 22, 22] }, type := 4, pos := "ref.go:392", after := #[{ on := 1, ground := Ground.data }, { on := 8, ground := Ground.data }, { on := 15, ground := Ground.data }], guard := none }) rfl (fun K hK => ?_) AllReadyH.nil
  rw [if_pos (by rfl)]
  go_simp
  go_at_call 21
  with_reducible refine (hT _).mono ?_
  rintro e w2 ⟨rfl, j2⟩
  go_simp
  have kk := Kp.trans k0 j2
  refine hK.out _ _ (HSK _ kk) (fun HSX => ?_)
  clear hK K
  refine wpAnyH_take (i := 17) (oi := { dst := some 12, op := Op.assign (Operand.tmp 232), type := 4, pos := "ref.go:392", after := #[{ on := 16, ground := Ground.data }, { on := 16, ground := Ground.chain }, { on := 0, ground := Ground.phase }, { on := 1, ground := Ground.phase }, { on := 2, ground := Ground.phase }, { on := 3, ground := Ground.phase }, { on := 4, ground := Ground.phase }, { on := 5, ground := Ground.phase }, { on := 6, ground := Ground.phase }, { on := 7, ground := Ground.phase }, { on := 8, ground := Ground.phase }, { on := 9, ground := Ground.phase }, { on := 10, ground := Ground.phase }, { on := 11, ground := Ground.phase }, { on := 12, ground := Ground.phase }, { on := 13, ground := Ground.phase }, { on := 14, ground := Ground.phase }, { on := 15, ground := Ground.phase }, { on := 16, ground := Ground.phase }], guard := none }) (v := .bool q) rfl (by kernel_rfl) (by kernel_rfl) (by kernel_rfl) (fun _ _ _ h => hPan _ _ _ _ _ h) (Or.inl ⟨by rfl, ?_⟩) HSX ?_
  · intro wx d0
    go_simp
  simp only [Act.put, List.setIfInBounds_toArray, List.set_cons_zero, List.set_cons_succ]
  refine wpAnyH_done (by kernel_rfl) ?_ _
  exact hQ _ kk
end Go.Proofs.YtghiffpolacmiabGreatDoor
