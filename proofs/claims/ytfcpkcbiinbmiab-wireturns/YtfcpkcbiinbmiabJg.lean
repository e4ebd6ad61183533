import Derived.Test.YtfcpkcbiinbmiabJe
namespace Go.Proofs.Ytfcpkcbiinbmiab
open Go.ChangeShapes Go.WideShapes Go.ChangeAt Go.RowKit Go.ChangeMaps
set_option linter.unusedVariables false
/-- While many are opened. -/
def LO (w0 w wr : World) (σ : Nat → Nat × Nat) (K B M D X T n : Nat) (s : WS) (P : List Nat) (sz dn kk : Int) (es hs : List En) (i : Nat) : Prop :=
  ∃ σ' v' n' vb' vo' s' pl' P', MW w0 wr σ' K B M D v' n' vb' vo' s' es [] hs ∧ MB wr σ' X B D pl' P' sz dn ∧ σ' T = (0, 0) ∧ T < wr.heap.size ∧ wr.cell? ⟨T, 2, none⟩ = some (.int .i64 kk) ∧ n' ≤ n + i ∧ s'.ops.length ≤ s.ops.length + i ∧ P'.length ≤ P.length + i ∧ Mv w σ wr σ' TS
/-- While all are shut. -/
def LS (w0 w wr : World) (σ : Nat → Nat × Nat) (K B M D X T n : Nat) (s : WS) (P : List Nat) (sz dn : Int) (es hs : List En) : Prop :=
  ∃ σ' v' n' vb' vo' s' pl' P', MW w0 wr σ' K B M D v' n' vb' vo' s' es [] hs ∧ MB wr σ' X B D pl' P' sz dn ∧ n' ≤ n + 1 ∧ s'.ops.length ≤ s.ops.length ∧ P'.length ≤ P.length ∧ Mv w σ wr σ' TS
def lenAt (wr : World) (X : Nat) : Nat := match wr.cell? ⟨X, 2, none⟩ with | some (.slice _ m _) => m | _ => 0
section
variable {w0 w : World} {σ : Nat → Nat × Nat} {K B M D X n : Nat} {v vb vo pl : Value} {s : WS} {P : List Nat} {sz dn : Int} {es hs : List En}
set_option maxHeartbeats 4000000 in
set_option maxRecDepth 10000 in
theorem st_opens (h : MW w0 w σ K B M D v n vb vo s es [] hs) (hB : MB w σ X B D pl P sz dn) (o : Nat) (ho : ∀ e, e ∈ hs → e.o < o) (hn : n ≤ 500000) (hops : s.ops.length ≤ 500000) (N : Int) (kk : Int) (hk1 : -9223372036854775808 ≤ kk) (hk2 : kk ≤ 9223372036854775807) (ba : Option Addr) (bl bc : Nat) (str : ByteArray) (hP : P.length ≤ 500000) :
    Calls Try.prog 12 #[.pointer (some ⟨X, 0, none⟩), .agg #[.int .i64 13, .int .u64 N, .int .i64 kk, .slice ba bl bc, .string str], .pointer (some ⟨K, 0, none⟩)] w fun r w' => r = .returned (.bool true) ∧ St w0 w w' σ K B M D X n s P sz dn es hs o := by
  obtain ⟨W1, hW1⟩ : ∃ W1, W1 = w.alloc (.cells #[.int .i64 13, .int .u64 N, .int .i64 kk, .slice ba bl bc, .string str] 51) := ⟨_, rfl⟩
  have k1 : Kp w W1 := by rw [hW1]; exact Kp.al _ _
  have tb : W1.heap[w.heap.size]? = some (.cells #[.int .i64 13, .int .u64 N, .int .i64 kk, .slice ba bl bc, .string str] 51 (0, 0)) := by rw [hW1]; exact heap_alloc_new w _
  have hT0 : σ w.heap.size = (0, 0) := h.fz _ (Nat.le_refl _)
  have hTz : w0.heap.size ≤ w.heap.size := h.bel.size
  have hB1 : MB W1 σ X B D pl P sz dn := hB.mv (c := fun _ => False) ⟨k1, Ext.refl _ _⟩ (fun x => x)
  have h1 := h.kp k1
  have hTl := hp_lt tb
  obtain ⟨x0, x1, xr⟩ := hB1.cells
  clear xr
  have t0 : W1.cell? ⟨w.heap.size, 0, none⟩ = some (.int .i64 13) := by rw [(cells_at tb _).1]; rfl
  have t1 : W1.cell? ⟨w.heap.size, 1, none⟩ = some (.int .u64 N) := by rw [(cells_at tb _).1]; rfl
  have t2 : W1.cell? ⟨w.heap.size, 2, none⟩ = some (.int .i64 kk) := by rw [(cells_at tb _).1]; rfl
  have t3 : W1.cell? ⟨w.heap.size, 3, none⟩ = some (.slice ba bl bc) := by rw [(cells_at tb _).1]; rfl
  have t4 : W1.cell? ⟨w.heap.size, 4, none⟩ = some (.string str) := by rw [(cells_at tb _).1]; rfl
  have hpk : ∀ wx : World, Calls Try.prog 5 #[.int .i64 kk, .int .i64 300] wx fun r w' => r = .returned (.int .i64 (pickN kk 300 : Nat)) ∧ w' = wx := fun wx => pick_any wx kk 300 (by omega) (by omega) hk1 hk2
  have hJ := pickN_lt kk 300 (by omega)
  generalize pickN kk 300 = J at *
  clear h hB
  go_enter Try.func12, Try.ntmps12
  go_upto_region 1 with fail
  rw [← hW1]
  clear hW1
  generalize w.heap.size = T at *
  have HL0 : Hid (LO w0 w W1 σ K B M D X T n s P sz dn kk es hs 0) := ⟨σ, v, n, vb, vo, s, pl, P, h1, hB1, hT0, hTl, t2, by omega, by omega, by omega, Mv.kp k1⟩
  clear h1 hB1 tb ho k1
  go_wp2_with fail
  clear t0 t1 t2 t3 t4 x0 x1
  go_loopw [9, 13, 14, 15] (fun s9 s13 s14 s15 wr => ∃ i : Nat, s9 = .bool true ∧ s13 = .int .i64 i ∧ i ≤ J ∧ Hid (LO w0 w wr σ K B M D X T n s P sz dn kk es hs i)) (fun _ s13 _ _ _ => J - nI s13)
  case atStart => exact ⟨0, rfl, rfl, by omega, HL0.out⟩
  case round =>
    obtain ⟨i, rfl, rfl, hi, HI⟩ := hrel
    clear HL0
    obtain ⟨σ1, v1, n1, vb1, vo1, s1, pl1, P1, mw1, mb1, hT1, hTl1, u2, b1, b2, b3, b9⟩ := HI.out
    by_cases hlt : i < J
    · have hz : (i : Int) < (J : Int) := by omega
      have A1 := pOpen mw1.pw (by omega)
      have hdl : s1.data.length ≤ 67108864 := by have := mw1.vw.lim_le; have := mw1.vw.len_le; omega
      obtain ⟨x, hx, hxb⟩ := open_nat s1 hdl
      rw [hx] at A1
      have hxx : ((x : Int) == (x : Int)) = true := by simp
      have H1 : Hid (MW w0 wr σ1 K B M D v1 n1 vb1 vo1 s1 es [] hs ∧ MB wr σ1 X B D pl1 P1 sz dn ∧ σ1 T = (0, 0) ∧ T < wr.heap.size ∧ Mv w σ wr σ1 TS) := ⟨mw1, mb1, hT1, hTl1, b9⟩
      clear mw1 mb1 HI hdl hT1 hTl1 b9
      rename World => wz
      go_wp2_with (go_at_call 5; refine (hpk _).mono ?_; rintro e wq ⟨rfl, hw⟩; rw [hw]; clear hw wq)
      go_at_call 16
      refine A1.mono ?_
      clear A1
      rintro e W2 ⟨rfl, hE⟩
      obtain ⟨σ2, v2, n2, mv2, hn2, mh2⟩ := H1.out.1.go hE
      have nT : ¬ (σ1 T = (0, 1)) := by rw [H1.out.2.2.1]; decide
      have r2 := mv2.ch.cell' nT u2
      have hT2 : σ2 T = (0, 0) := by rw [mv2.ex T H1.out.2.2.2.1]; exact H1.out.2.2.1
      have A2 := vOpen mh2.vw (by omega)
      rw [hx] at A2
      have H2 : Hid (MH w0 W2 σ2 K B M D v2 n2 vb1 vo1 s1 s1.open.2 es [] hs ∧ MB W2 σ2 X B D pl1 P1 sz dn ∧ n2 ≤ n1 + 1 ∧ σ2 T = (0, 0) ∧ T < W2.heap.size ∧ Mv w σ W2 σ2 TS) := ⟨mh2, H1.out.2.1.mv mv2 (by decide), hn2, hT2, Nat.lt_of_lt_of_le H1.out.2.2.2.1 mv2.ch.size, H1.out.2.2.2.2.trans (mv2.mono ts1)⟩
      clear hE mv2 mh2 hn2 H1 hx u2 nT hT2
      go_wp2_with fail
      go_at_call 17
      refine A2.mono ?_
      clear A2
      rintro e W3 ⟨rfl, hE⟩
      obtain ⟨σ3, vb3, vo3, mv3, mw3⟩ := H2.out.1.go hE
      have nT2 : ¬ (σ2 T = (0, 2)) := by rw [H2.out.2.2.2.1]; decide
      have r3 := mv3.ch.cell' nT2 r2
      have mb3 := H2.out.2.1.mv mv3 (by decide)
      have hT3 : σ3 T = (0, 0) := by rw [mv3.ex T H2.out.2.2.2.2.1]; exact H2.out.2.2.2.1
      have hTl3 : T < W3.heap.size := Nat.lt_of_lt_of_le H2.out.2.2.2.2.1 mv3.ch.size
      obtain ⟨y0, y1, y2, _, _, yf⟩ := mb3.cells
      obtain ⟨ap, cp, ep⟩ := own_sh mb3.row
      obtain ⟨a4, c4, w4, hr4, q1, q2, σ4, mb4, mv4, fz4⟩ := mb3.add mw3.fz x hxb (by omega)
      have nT3 : ¬ (σ3 T = (0, 3)) := by rw [hT3]; decide
      have HS : Hid (LO w0 w (w4.setCell ⟨X, 2, none⟩ (.slice a4 (P1.length + 1) c4)) σ K B M D X T n s P sz dn kk es hs (i + 1)) := ⟨σ4, v2, n2, vb3, vo3, _, _, P1 ++ [x], mw3.side mv4 fz4, mb4, by rw [mv4.ex T hTl3]; exact hT3, Nat.lt_of_lt_of_le hTl3 mv4.ch.size, mv4.ch.cell' nT3 r3, by have := H2.out.2.2.1; omega, by have := s1.open_ops; omega, by simp; omega, (H2.out.2.2.2.2.2.trans (mv3.mono ts2)).trans (mv4.mono ts3)⟩
      rw [ep] at y2 q1 hr4
      clear hE mv3 mw3 mb3 mb4 mv4 fz4 H2 y0 y1 yf ep nT2 r2 r3 hT3 hTl3 nT3
      go_wp2_with (at_builtin; refine wpList_append_run _ rfl (.tmp 156) (.tmp 158) 35 35 rfl _ _ (.slice a4 (P1.length + 1) c4) w4 rfl rfl hr4 ?_)
      exact ⟨⟨i + 1, by first | rfl | simp, by go_num, by omega, HS.out⟩, by simp [nI]; omega⟩
    · have hz : ¬ (i : Int) < (J : Int) := by omega
      have HS : Hid (St w0 w wr σ K B M D X n s P sz dn es hs o) := ⟨σ1, v1, n1, vb1, vo1, s1, pl1, P1, [], mw1, mb1, by simp, by simp, by omega, by omega, by omega, b9⟩
      clear mw1 mb1 HI hT1 hTl1 b9
      rename World => wz
      go_upto_region 57 with (go_at_call 5; refine (hpk _).mono ?_; rintro e wq ⟨rfl, hw⟩; rw [hw]; clear hw wq)
      obtain ⟨L, ab, cb, hLb, dL, hLen⟩ := HS.out.ends
      have hLL : ((L : Int) == (L : Int)) = true := by simp
      go_quiet (first | (go_at_call 40; exact Calls.quiet_of_same (hLen _ (Kp.drewN _ _))) | fail)
      go_wp2
      go_ret
      exact ⟨by first | rfl | simp, HS.out.kp (Kp.drewN _ _)⟩
end
end Go.Proofs.Ytfcpkcbiinbmiab
namespace Go.Proofs.Ytfcpkcbiinbmiab
open Go.ChangeShapes Go.WideShapes Go.ChangeAt Go.RowKit
set_option linter.unusedVariables false
def ops34_47 : Array Oper := #[{ dst := some 192, op := Op.move (Operand.tmp 0), type := 25, pos := "law.go:265", after := #[], guard := none },
  { dst := some 193, op := Op.move (Operand.tmp 0), type := 25, pos := "law.go:265", after := #[], guard := none },
  { dst := some 194, op := Op.nilCheck (Operand.tmp 193), type := 0, pos := "law.go:265", after := #[{ on := 1, ground := Ground.data }], guard := none },
  { dst := some 195, op := Op.fieldAddr 37 (Operand.tmp 194) 2, type := 0, pos := "law.go:265", after := #[{ on := 2, ground := Ground.data }], guard := none },
  { dst := some 196, op := Op.load 35 (Operand.tmp 195), type := 35, pos := "law.go:265", after := #[{ on := 3, ground := Ground.data }], guard := none },
  { dst := some 197, op := Op.move (Operand.tmp 0), type := 25, pos := "law.go:265", after := #[], guard := none },
  { dst := some 198, op := Op.nilCheck (Operand.tmp 197), type := 0, pos := "law.go:265", after := #[{ on := 5, ground := Ground.data }], guard := none },
  { dst := some 199, op := Op.fieldAddr 37 (Operand.tmp 198) 2, type := 0, pos := "law.go:265", after := #[{ on := 6, ground := Ground.data }], guard := none },
  { dst := some 200, op := Op.load 35 (Operand.tmp 199), type := 35, pos := "law.go:265", after := #[{ on := 7, ground := Ground.data }], guard := none },
  { dst := some 201, op := Op.call { callee := Callee.builtin Builtin.len, args := #[Operand.tmp 200], argTypes := #[35] }, type := 3, pos := "law.go:265", after := #[{ on := 8, ground := Ground.data }], guard := none },
  { dst := some 202, op := Op.binOp BinOp.sub 3 (Operand.tmp 201) (Operand.const (Value.int IntKind.i64 1)) 3, type := 3, pos := "law.go:265", after := #[{ on := 9, ground := Ground.data }], guard := none },
  { dst := some 203, op := Op.slice 35 (Operand.tmp 196) none (some (Operand.tmp 202)) none, type := 35, pos := "law.go:265", after := #[{ on := 4, ground := Ground.data }, { on := 10, ground := Ground.data }], guard := none },
  { dst := some 204, op := Op.nilCheck (Operand.tmp 192), type := 0, pos := "law.go:265", after := #[{ on := 0, ground := Ground.data }, { on := 0, ground := Ground.phase }, { on := 1, ground := Ground.phase }, { on := 2, ground := Ground.phase }, { on := 3, ground := Ground.phase }, { on := 4, ground := Ground.phase }, { on := 5, ground := Ground.phase }, { on := 6, ground := Ground.phase }, { on := 7, ground := Ground.phase }, { on := 8, ground := Ground.phase }, { on := 9, ground := Ground.phase }, { on := 10, ground := Ground.phase }, { on := 11, ground := Ground.phase }], guard := none },
  { dst := some 205, op := Op.fieldAddr 37 (Operand.tmp 204) 2, type := 0, pos := "law.go:265", after := #[{ on := 12, ground := Ground.data }, { on := 0, ground := Ground.phase }, { on := 1, ground := Ground.phase }, { on := 2, ground := Ground.phase }, { on := 3, ground := Ground.phase }, { on := 4, ground := Ground.phase }, { on := 5, ground := Ground.phase }, { on := 6, ground := Ground.phase }, { on := 7, ground := Ground.phase }, { on := 8, ground := Ground.phase }, { on := 9, ground := Ground.phase }, { on := 10, ground := Ground.phase }, { on := 11, ground := Ground.phase }], guard := none },
  { dst := none, op := Op.store 35 (Operand.tmp 205) (Operand.tmp 203), type := 0, pos := "law.go:265", after := #[{ on := 13, ground := Ground.data }, { on := 11, ground := Ground.data }, { on := 0, ground := Ground.phase }, { on := 1, ground := Ground.phase }, { on := 2, ground := Ground.phase }, { on := 3, ground := Ground.phase }, { on := 4, ground := Ground.phase }, { on := 5, ground := Ground.phase }, { on := 6, ground := Ground.phase }, { on := 7, ground := Ground.phase }, { on := 8, ground := Ground.phase }, { on := 9, ground := Ground.phase }, { on := 10, ground := Ground.phase }, { on := 11, ground := Ground.phase }], guard := none }]
set_option maxHeartbeats 4000000 in
set_option maxRecDepth 100000 in
theorem reg34_47 (W : World) (X g m c : Nat) (hmc : m + 1 ≤ c) (hmb : m ≤ 4000000) (h0 : W.cell? ⟨X, 2, none⟩ = some (.slice (some ⟨g, 0, none⟩) (m + 1) c)) (f0 : W.frozen? ⟨X, 2, none⟩ = false)
    (Q : Exit → Act → World → Prop) (hPan : ∀ c (a : Act) w (d : Option Tmp) v, Q (.panic c) (a.put d v) w → Q (.panic c) a w) {u1 u2 u3 u4 u5 u6 u7 u8 u9 u10 u11 u12 u13 u14 u15 u16 u17 u18 u19 u20 u21 u22 u23 u24 u25 u26 u27 u28 u29 u30 u31 u32 u33 u34 u35 u36 u37 u38 u39 u40 u41 u42 u43 u44 u45 u46 u47 u48 u49 u50 u51 u52 u53 u54 u55 u56 u57 u58 u59 u60 u61 u62 u63 u64 u65 u66 u67 u68 u69 u70 u71 u72 u73 u74 u75 u76 u77 u78 u79 u80 u81 u82 u83 u84 u85 u86 u87 u88 u89 u90 u91 u92 u93 u94 u95 u96 u97 u98 u99 u100 u101 u102 u103 u104 u105 u106 u107 u108 u109 u110 u111 u112 u113 u114 u115 u116 u117 u118 u119 u120 u121 u122 u123 u124 u125 u126 u127 u128 u129 u130 u131 u132 u133 u134 u135 u136 u137 u138 u139 u140 u141 u142 u143 u144 u145 u146 u147 u148 u149 u150 u151 u152 u153 u154 u155 u156 u157 u158 u159 u160 u161 u162 u163 u164 u165 u166 u167 u168 u169 u170 u171 u172 u173 u174 u175 u176 u177 u178 u179 u180 u181 u182 u183 u184 u185 u186 u187 u188 u189 u190 u191 u192 u193 u194 u195 u196 u197 u198 u199 u200 u201 u202 u203 u204 u205 u206 u207 u208 u209 u210 u211 u212 u213 u214 u215 u216 u217 u218 u219 u220 u221 u222 u223 u224 u225 u226 u227 u228 u229 u230 u231 u232 u233 u234 u235 u236 u237 u238 u239 u240 u241 u242 u243 u244 u245 u246 u247 u248 u249 u250 u251 u252 u253 u254 u255 u256 : Value}
    (hQ : Q .normal ⟨#[.pointer (some ⟨X, 0, none⟩), u1, u2, u3, u4, u5, u6, u7, u8, u9, u10, u11, u12, u13, u14, u15, u16, u17, u18, u19, u20, u21, u22, u23, u24, u25, u26, u27, u28, u29, u30, u31, u32, u33, u34, u35, u36, u37, u38, u39, u40, u41, u42, u43, u44, u45, u46, u47, u48, u49, u50, u51, u52, u53, u54, u55, u56, u57, u58, u59, u60, u61, u62, u63, u64, u65, u66, u67, u68, u69, u70, u71, u72, u73, u74, u75, u76, u77, u78, u79, u80, u81, u82, u83, u84, u85, u86, u87, u88, u89, u90, u91, u92, u93, u94, u95, u96, u97, u98, u99, u100, u101, u102, u103, u104, u105, u106, u107, u108, u109, u110, u111, u112, u113, u114, u115, u116, u117, u118, u119, u120, u121, u122, u123, u124, u125, u126, u127, u128, u129, u130, u131, u132, u133, u134, u135, u136, u137, u138, u139, u140, u141, u142, u143, u144, u145, u146, u147, u148, u149, u150, u151, u152, u153, u154, u155, u156, u157, u158, u159, u160, u161, u162, u163, u164, u165, u166, u167, u168, u169, u170, u171, u172, u173, u174, u175, u176, u177, u178, u179, u180, u181, u182, u183, u184, u185, u186, u187, u188, u189, u190, u191, .pointer (some ⟨X, 0, none⟩), .pointer (some ⟨X, 0, none⟩), .pointer (some ⟨X, 0, none⟩), .pointer (some ⟨X, 2, none⟩), .slice (some ⟨g, 0, none⟩) (m + 1) c, .pointer (some ⟨X, 0, none⟩), .pointer (some ⟨X, 0, none⟩), .pointer (some ⟨X, 2, none⟩), .slice (some ⟨g, 0, none⟩) (m + 1) c, .int .i64 ((m + 1 : Nat) : Int), .int .i64 (m : Int), .slice (some ⟨g, 0, none⟩) m c, .pointer (some ⟨X, 0, none⟩), .pointer (some ⟨X, 2, none⟩), u206, u207, u208, u209, u210, u211, u212, u213, u214, u215, u216, u217, u218, u219, u220, u221, u222, u223, u224, u225, u226, u227, u228, u229, u230, u231, u232, u233, u234, u235, u236, u237, u238, u239, u240, u241, u242, u243, u244, u245, u246, u247, u248, u249, u250, u251, u252, u253, u254, u255, u256], []⟩ (W.drew.setCell ⟨X, 2, none⟩ (.slice (some ⟨g, 0, none⟩) m c))) :
    Code.wp Try.prog (Code.region 47 ops34_47 true) Q ⟨#[.pointer (some ⟨X, 0, none⟩), u1, u2, u3, u4, u5, u6, u7, u8, u9, u10, u11, u12, u13, u14, u15, u16, u17, u18, u19, u20, u21, u22, u23, u24, u25, u26, u27, u28, u29, u30, u31, u32, u33, u34, u35, u36, u37, u38, u39, u40, u41, u42, u43, u44, u45, u46, u47, u48, u49, u50, u51, u52, u53, u54, u55, u56, u57, u58, u59, u60, u61, u62, u63, u64, u65, u66, u67, u68, u69, u70, u71, u72, u73, u74, u75, u76, u77, u78, u79, u80, u81, u82, u83, u84, u85, u86, u87, u88, u89, u90, u91, u92, u93, u94, u95, u96, u97, u98, u99, u100, u101, u102, u103, u104, u105, u106, u107, u108, u109, u110, u111, u112, u113, u114, u115, u116, u117, u118, u119, u120, u121, u122, u123, u124, u125, u126, u127, u128, u129, u130, u131, u132, u133, u134, u135, u136, u137, u138, u139, u140, u141, u142, u143, u144, u145, u146, u147, u148, u149, u150, u151, u152, u153, u154, u155, u156, u157, u158, u159, u160, u161, u162, u163, u164, u165, u166, u167, u168, u169, u170, u171, u172, u173, u174, u175, u176, u177, u178, u179, u180, u181, u182, u183, u184, u185, u186, u187, u188, u189, u190, u191, u192, u193, u194, u195, u196, u197, u198, u199, u200, u201, u202, u203, u204, u205, u206, u207, u208, u209, u210, u211, u212, u213, u214, u215, u216, u217, u218, u219, u220, u221, u222, u223, u224, u225, u226, u227, u228, u229, u230, u231, u232, u233, u234, u235, u236, u237, u238, u239, u240, u241, u242, u243, u244, u245, u246, u247, u248, u249, u250, u251, u252, u253, u254, u255, u256], []⟩ W := by
  have h0' : W.drew.cell? ⟨X, 2, none⟩ = some (.slice (some ⟨g, 0, none⟩) (m + 1) c) := (Kp.drew W).cell h0
  have f0' : W.drew.frozen? ⟨X, 2, none⟩ = false := f0
  have hw1 : IntKind.i64.wrap (m : Int) = (m : Int) := w64 (by omega) (by omega)
  have hw2 : IntKind.i64.wrap (((m + 1 : Nat) : Int) - 1) = (m : Int) := by rw [w64 (by omega) (by omega)]; omega
  have hmz : (m : Int) ≤ (c : Int) := by omega
  refine wp_region_held_drew (S := fun w' => True) hmx trivial (fun HSX => ?_)
  clear h0 f0
  obtain ⟨W0, hW0⟩ : ∃ W0, W0 = W.drew := ⟨_, rfl⟩
  rw [← hW0] at h0' f0' hQ ⊢
  clear hW0
  refine wpAnyH_take (i := 0) (oi := { dst := some 192, op := Op.move (Operand.tmp 0), type := 25, pos := "law.go:265", after := #[], guard := none }) (v := .pointer (some ⟨X, 0, none⟩)) rfl (by kernel_rfl) (by kernel_rfl) (by kernel_rfl) (fun _ _ _ h => hPan _ _ _ _ _ h) (Or.inl ⟨by rfl, ?_⟩) HSX ?_
  · intro wx d0
    obtain _ := d0
    go_simp
  simp only [Act.put, List.setIfInBounds_toArray, List.set_cons_zero, List.set_cons_succ]
  refine wpAnyH_take (i := 1) (oi := { dst := some 193, op := Op.move (Operand.tmp 0), type := 25, pos := "law.go:265", after := #[], guard := none }) (v := .pointer (some ⟨X, 0, none⟩)) rfl (by kernel_rfl) (by kernel_rfl) (by kernel_rfl) (fun _ _ _ h => hPan _ _ _ _ _ h) (Or.inl ⟨by rfl, ?_⟩) HSX ?_
  · intro wx d0
    obtain _ := d0
    go_simp
  simp only [Act.put, List.setIfInBounds_toArray, List.set_cons_zero, List.set_cons_succ]
  refine wpAnyH_take (i := 2) (oi := { dst := some 194, op := Op.nilCheck (Operand.tmp 193), type := 0, pos := "law.go:265", after := #[{ on := 1, ground := Ground.data }], guard := none }) (v := .pointer (some ⟨X, 0, none⟩)) rfl (by kernel_rfl) (by kernel_rfl) (by kernel_rfl) (fun _ _ _ h => hPan _ _ _ _ _ h) (Or.inl ⟨by rfl, ?_⟩) HSX ?_
  · intro wx d0
    obtain _ := d0
    go_simp
  simp only [Act.put, List.setIfInBounds_toArray, List.set_cons_zero, List.set_cons_succ]
  refine wpAnyH_take (i := 3) (oi := { dst := some 195, op := Op.fieldAddr 37 (Operand.tmp 194) 2, type := 0, pos := "law.go:265", after := #[{ on := 2, ground := Ground.data }], guard := none }) (v := .pointer (some ⟨X, 2, none⟩)) rfl (by kernel_rfl) (by kernel_rfl) (by kernel_rfl) (fun _ _ _ h => hPan _ _ _ _ _ h) (Or.inl ⟨by rfl, ?_⟩) HSX ?_
  · intro wx d0
    obtain _ := d0
    go_simp
  simp only [Act.put, List.setIfInBounds_toArray, List.set_cons_zero, List.set_cons_succ]
  refine wpAnyH_take (i := 5) (oi := { dst := some 197, op := Op.move (Operand.tmp 0), type := 25, pos := "law.go:265", after := #[], guard := none }) (v := .pointer (some ⟨X, 0, none⟩)) rfl (by kernel_rfl) (by kernel_rfl) (by kernel_rfl) (fun _ _ _ h => hPan _ _ _ _ _ h) (Or.inl ⟨by rfl, ?_⟩) HSX ?_
  · intro wx d0
    obtain _ := d0
    go_simp
  simp only [Act.put, List.setIfInBounds_toArray, List.set_cons_zero, List.set_cons_succ]
  refine wpAnyH_take (i := 6) (oi := { dst := some 198, op := Op.nilCheck (Operand.tmp 197), type := 0, pos := "law.go:265", after := #[{ on := 5, ground := Ground.data }], guard := none }) (v := .pointer (some ⟨X, 0, none⟩)) rfl (by kernel_rfl) (by kernel_rfl) (by kernel_rfl) (fun _ _ _ h => hPan _ _ _ _ _ h) (Or.inl ⟨by rfl, ?_⟩) HSX ?_
  · intro wx d0
    obtain _ := d0
    go_simp
  simp only [Act.put, List.setIfInBounds_toArray, List.set_cons_zero, List.set_cons_succ]
  refine wpAnyH_take (i := 7) (oi := { dst := some 199, op := Op.fieldAddr 37 (Operand.tmp 198) 2, type := 0, pos := "law.go:265", after := #[{ on := 6, ground := Ground.data }], guard := none }) (v := .pointer (some ⟨X, 2, none⟩)) rfl (by kernel_rfl) (by kernel_rfl) (by kernel_rfl) (fun _ _ _ h => hPan _ _ _ _ _ h) (Or.inl ⟨by rfl, ?_⟩) HSX ?_
  · intro wx d0
    obtain _ := d0
    go_simp
  simp only [Act.put, List.setIfInBounds_toArray, List.set_cons_zero, List.set_cons_succ]
  refine wpAnyH_ready (rs := [4, 8]) (by kernel_rfl) (by simp) ?_
  refine (AllReadyH.cons (o := { dst := some 196, op := Op.load 35 (Operand.tmp 195), type := 35, pos := "law.go:265", after := #[{ on := 3, ground := Ground.data }], guard := none }) rfl (fun K hK => ?_) (AllReadyH.cons (o := { dst := some 200, op := Op.load 35 (Operand.tmp 199), type := 35, pos := "law.go:265", after := #[{ on := 7, ground := Ground.data }], guard := none }) rfl (fun K hK => ?_) AllReadyH.nil))
  · rw [if_pos (by rfl)]
    go_simp
    refine hK.out _ _ HSX (fun HSX => ?_)
    clear hK K
    refine wpAnyH_ready (rs := [8]) (by kernel_rfl) (by simp) ?_
    refine (AllReadyH.cons (o := { dst := some 200, op := Op.load 35 (Operand.tmp 199), type := 35, pos := "law.go:265", after := #[{ on := 7, ground := Ground.data }], guard := none }) rfl (fun K hK => ?_) AllReadyH.nil)
    rw [if_pos (by rfl)]
    go_simp
    refine hK.out _ _ HSX (fun HSX => ?_)
    clear hK K
    refine wpAnyH_take (i := 9) (oi := { dst := some 201, op := Op.call { callee := Callee.builtin Builtin.len, args := #[Operand.tmp 200], argTypes := #[35] }, type := 3, pos := "law.go:265", after := #[{ on := 8, ground := Ground.data }], guard := none }) (v := .int .i64 ((m + 1 : Nat) : Int)) rfl (by kernel_rfl) (by kernel_rfl) (by kernel_rfl) (fun _ _ _ h => hPan _ _ _ _ _ h) (Or.inl ⟨by rfl, ?_⟩) HSX ?_
    · intro wx d0
      obtain _ := d0
      go_simp
    simp only [Act.put, List.setIfInBounds_toArray, List.set_cons_zero, List.set_cons_succ]
    refine wpAnyH_take (i := 10) (oi := { dst := some 202, op := Op.binOp BinOp.sub 3 (Operand.tmp 201) (Operand.const (Value.int IntKind.i64 1)) 3, type := 3, pos := "law.go:265", after := #[{ on := 9, ground := Ground.data }], guard := none }) (v := .int .i64 (m : Int)) rfl (by kernel_rfl) (by kernel_rfl) (by kernel_rfl) (fun _ _ _ h => hPan _ _ _ _ _ h) (Or.inl ⟨by rfl, ?_⟩) HSX ?_
    · intro wx d0
      obtain _ := d0
      go_simp
    simp only [Act.put, List.setIfInBounds_toArray, List.set_cons_zero, List.set_cons_succ]
    refine wpAnyH_take (i := 11) (oi := { dst := some 203, op := Op.slice 35 (Operand.tmp 196) none (some (Operand.tmp 202)) none, type := 35, pos := "law.go:265", after := #[{ on := 4, ground := Ground.data }, { on := 10, ground := Ground.data }], guard := none }) (v := .slice (some ⟨g, 0, none⟩) m c) rfl (by kernel_rfl) (by kernel_rfl) (by kernel_rfl) (fun _ _ _ h => hPan _ _ _ _ _ h) (Or.inl ⟨by rfl, ?_⟩) HSX ?_
    · intro wx d0
      obtain _ := d0
      go_simp
    simp only [Act.put, List.setIfInBounds_toArray, List.set_cons_zero, List.set_cons_succ]
    refine wpAnyH_take (i := 12) (oi := { dst := some 204, op := Op.nilCheck (Operand.tmp 192), type := 0, pos := "law.go:265", after := #[{ on := 0, ground := Ground.data }, { on := 0, ground := Ground.phase }, { on := 1, ground := Ground.phase }, { on := 2, ground := Ground.phase }, { on := 3, ground := Ground.phase }, { on := 4, ground := Ground.phase }, { on := 5, ground := Ground.phase }, { on := 6, ground := Ground.phase }, { on := 7, ground := Ground.phase }, { on := 8, ground := Ground.phase }, { on := 9, ground := Ground.phase }, { on := 10, ground := Ground.phase }, { on := 11, ground := Ground.phase }], guard := none }) (v := .pointer (some ⟨X, 0, none⟩)) rfl (by kernel_rfl) (by kernel_rfl) (by kernel_rfl) (fun _ _ _ h => hPan _ _ _ _ _ h) (Or.inl ⟨by rfl, ?_⟩) HSX ?_
    · intro wx d0
      obtain _ := d0
      go_simp
    simp only [Act.put, List.setIfInBounds_toArray, List.set_cons_zero, List.set_cons_succ]
    refine wpAnyH_take (i := 13) (oi := { dst := some 205, op := Op.fieldAddr 37 (Operand.tmp 204) 2, type := 0, pos := "law.go:265", after := #[{ on := 12, ground := Ground.data }, { on := 0, ground := Ground.phase }, { on := 1, ground := Ground.phase }, { on := 2, ground := Ground.phase }, { on := 3, ground := Ground.phase }, { on := 4, ground := Ground.phase }, { on := 5, ground := Ground.phase }, { on := 6, ground := Ground.phase }, { on := 7, ground := Ground.phase }, { on := 8, ground := Ground.phase }, { on := 9, ground := Ground.phase }, { on := 10, ground := Ground.phase }, { on := 11, ground := Ground.phase }], guard := none }) (v := .pointer (some ⟨X, 2, none⟩)) rfl (by kernel_rfl) (by kernel_rfl) (by kernel_rfl) (fun _ _ _ h => hPan _ _ _ _ _ h) (Or.inl ⟨by rfl, ?_⟩) HSX ?_
    · intro wx d0
      obtain _ := d0
      go_simp
    simp only [Act.put, List.setIfInBounds_toArray, List.set_cons_zero, List.set_cons_succ]
    refine wpAnyH_ready (rs := [14]) (by kernel_rfl) (by simp) ?_
    refine (AllReadyH.cons (o := { dst := none, op := Op.store 35 (Operand.tmp 205) (Operand.tmp 203), type := 0, pos := "law.go:265", after := #[{ on := 13, ground := Ground.data }, { on := 11, ground := Ground.data }, { on := 0, ground := Ground.phase }, { on := 1, ground := Ground.phase }, { on := 2, ground := Ground.phase }, { on := 3, ground := Ground.phase }, { on := 4, ground := Ground.phase }, { on := 5, ground := Ground.phase }, { on := 6, ground := Ground.phase }, { on := 7, ground := Ground.phase }, { on := 8, ground := Ground.phase }, { on := 9, ground := Ground.phase }, { on := 10, ground := Ground.phase }, { on := 11, ground := Ground.phase }], guard := none }) rfl (fun K hK => ?_) AllReadyH.nil)
    rw [if_pos (by rfl)]
    go_simp
    refine hK.out _ _ trivial (fun HSX => ?_)
    clear hK K
    refine wpAnyH_done (by kernel_rfl) ?_ _
    exact hQ
  · rw [if_pos (by rfl)]
    go_simp
    refine hK.out _ _ HSX (fun HSX => ?_)
    clear hK K
    refine wpAnyH_take (i := 9) (oi := { dst := some 201, op := Op.call { callee := Callee.builtin Builtin.len, args := #[Operand.tmp 200], argTypes := #[35] }, type := 3, pos := "law.go:265", after := #[{ on := 8, ground := Ground.data }], guard := none }) (v := .int .i64 ((m + 1 : Nat) : Int)) rfl (by kernel_rfl) (by kernel_rfl) (by kernel_rfl) (fun _ _ _ h => hPan _ _ _ _ _ h) (Or.inl ⟨by rfl, ?_⟩) HSX ?_
    · intro wx d0
      obtain _ := d0
      go_simp
    simp only [Act.put, List.setIfInBounds_toArray, List.set_cons_zero, List.set_cons_succ]
    refine wpAnyH_take (i := 10) (oi := { dst := some 202, op := Op.binOp BinOp.sub 3 (Operand.tmp 201) (Operand.const (Value.int IntKind.i64 1)) 3, type := 3, pos := "law.go:265", after := #[{ on := 9, ground := Ground.data }], guard := none }) (v := .int .i64 (m : Int)) rfl (by kernel_rfl) (by kernel_rfl) (by kernel_rfl) (fun _ _ _ h => hPan _ _ _ _ _ h) (Or.inl ⟨by rfl, ?_⟩) HSX ?_
    · intro wx d0
      obtain _ := d0
      go_simp
    simp only [Act.put, List.setIfInBounds_toArray, List.set_cons_zero, List.set_cons_succ]
    refine wpAnyH_ready (rs := [4]) (by kernel_rfl) (by simp) ?_
    refine (AllReadyH.cons (o := { dst := some 196, op := Op.load 35 (Operand.tmp 195), type := 35, pos := "law.go:265", after := #[{ on := 3, ground := Ground.data }], guard := none }) rfl (fun K hK => ?_) AllReadyH.nil)
    rw [if_pos (by rfl)]
    go_simp
    refine hK.out _ _ HSX (fun HSX => ?_)
    clear hK K
    refine wpAnyH_take (i := 11) (oi := { dst := some 203, op := Op.slice 35 (Operand.tmp 196) none (some (Operand.tmp 202)) none, type := 35, pos := "law.go:265", after := #[{ on := 4, ground := Ground.data }, { on := 10, ground := Ground.data }], guard := none }) (v := .slice (some ⟨g, 0, none⟩) m c) rfl (by kernel_rfl) (by kernel_rfl) (by kernel_rfl) (fun _ _ _ h => hPan _ _ _ _ _ h) (Or.inl ⟨by rfl, ?_⟩) HSX ?_
    · intro wx d0
      obtain _ := d0
      go_simp
    simp only [Act.put, List.setIfInBounds_toArray, List.set_cons_zero, List.set_cons_succ]
    refine wpAnyH_take (i := 12) (oi := { dst := some 204, op := Op.nilCheck (Operand.tmp 192), type := 0, pos := "law.go:265", after := #[{ on := 0, ground := Ground.data }, { on := 0, ground := Ground.phase }, { on := 1, ground := Ground.phase }, { on := 2, ground := Ground.phase }, { on := 3, ground := Ground.phase }, { on := 4, ground := Ground.phase }, { on := 5, ground := Ground.phase }, { on := 6, ground := Ground.phase }, { on := 7, ground := Ground.phase }, { on := 8, ground := Ground.phase }, { on := 9, ground := Ground.phase }, { on := 10, ground := Ground.phase }, { on := 11, ground := Ground.phase }], guard := none }) (v := .pointer (some ⟨X, 0, none⟩)) rfl (by kernel_rfl) (by kernel_rfl) (by kernel_rfl) (fun _ _ _ h => hPan _ _ _ _ _ h) (Or.inl ⟨by rfl, ?_⟩) HSX ?_
    · intro wx d0
      obtain _ := d0
      go_simp
    simp only [Act.put, List.setIfInBounds_toArray, List.set_cons_zero, List.set_cons_succ]
    refine wpAnyH_take (i := 13) (oi := { dst := some 205, op := Op.fieldAddr 37 (Operand.tmp 204) 2, type := 0, pos := "law.go:265", after := #[{ on := 12, ground := Ground.data }, { on := 0, ground := Ground.phase }, { on := 1, ground := Ground.phase }, { on := 2, ground := Ground.phase }, { on := 3, ground := Ground.phase }, { on := 4, ground := Ground.phase }, { on := 5, ground := Ground.phase }, { on := 6, ground := Ground.phase }, { on := 7, ground := Ground.phase }, { on := 8, ground := Ground.phase }, { on := 9, ground := Ground.phase }, { on := 10, ground := Ground.phase }, { on := 11, ground := Ground.phase }], guard := none }) (v := .pointer (some ⟨X, 2, none⟩)) rfl (by kernel_rfl) (by kernel_rfl) (by kernel_rfl) (fun _ _ _ h => hPan _ _ _ _ _ h) (Or.inl ⟨by rfl, ?_⟩) HSX ?_
    · intro wx d0
      obtain _ := d0
      go_simp
    simp only [Act.put, List.setIfInBounds_toArray, List.set_cons_zero, List.set_cons_succ]
    refine wpAnyH_ready (rs := [14]) (by kernel_rfl) (by simp) ?_
    refine (AllReadyH.cons (o := { dst := none, op := Op.store 35 (Operand.tmp 205) (Operand.tmp 203), type := 0, pos := "law.go:265", after := #[{ on := 13, ground := Ground.data }, { on := 11, ground := Ground.data }, { on := 0, ground := Ground.phase }, { on := 1, ground := Ground.phase }, { on := 2, ground := Ground.phase }, { on := 3, ground := Ground.phase }, { on := 4, ground := Ground.phase }, { on := 5, ground := Ground.phase }, { on := 6, ground := Ground.phase }, { on := 7, ground := Ground.phase }, { on := 8, ground := Ground.phase }, { on := 9, ground := Ground.phase }, { on := 10, ground := Ground.phase }, { on := 11, ground := Ground.phase }], guard := none }) rfl (fun K hK => ?_) AllReadyH.nil)
    rw [if_pos (by rfl)]
    go_simp
    refine hK.out _ _ trivial (fun HSX => ?_)
    clear hK K
    refine wpAnyH_done (by kernel_rfl) ?_ _
    exact hQ
end Go.Proofs.Ytfcpkcbiinbmiab
