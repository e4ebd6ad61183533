import Derived.Test.YtppcfofkneaigaaPt
import Derived.Laws.MakeOwn
namespace Go.Proofs.Ytppcfofkneaigaa
open Go.ChangeShapes Go.WideShapes Go.ChangeAt Go.RowKit
set_option linter.unusedVariables false
set_option maxRecDepth 10000

def z256 : List Value := List.replicate 256 (.int .i64 0)
def z0 : Array Value := (.int .i64 0 :: .int .i64 0 :: .int .i64 0 :: .map none :: .slice none 0 0 :: z256).toArray
def zP (sets ways line M g u : Nat) : Array Value := (.int .i64 (sets : Nat) :: .int .i64 (ways : Nat) :: .int .i64 (line : Nat) :: .map (some M) :: .slice (some ⟨g, 0, none⟩) 1 u :: z256).toArray
theorem zero88 (w : World) : (zeroValue 88).run Try.prog w = .ok (.agg z0) w := by kernel_rfl
theorem build88 (a b c M g u : Nat) (w : World) : (Instr.build 88 #[(0, .agg #[.int .i64 (a : Nat), .int .i64 (b : Nat), .int .i64 (c : Nat)]), (1, .map (some M)), (2, .slice (some ⟨g, 0, none⟩) 1 u)]).run Try.prog w = .ok (.agg (zP a b c M g u)) w := by kernel_rfl
theorem size88 : (Try.prog.info? 88).map (·.size) = some 261 := by kernel_rfl
theorem zP_one (a b c M g u : Nat) : ∀ v ∈ (zP a b c M g u).toList, v.oneCell' = true := by
  intro v hv
  simp only [zP, List.toList_toArray, List.mem_cons, z256] at hv
  rcases hv with rfl | rfl | rfl | rfl | rfl | hv
  · rfl
  · rfl
  · rfl
  · rfl
  · rfl
  · rw [List.eq_of_mem_replicate hv]; rfl
theorem zP_size (a b c M g u : Nat) : (zP a b c M g u).size = 261 := by simp [zP, z256]
theorem z0_size : z0.size = 261 := by simp [z0, z256]

/-- One step of a region that draws, told by its run. -/
theorem step_val {P : Program} {ops : Array Oper} {o : Oper} {a : Act} {w w' : World} {v : Value} {K : Act → World → Prop} {Q : Exit → Act → World → Prop} {E : Prop} (hg : o.guard = none) (hr : (execOp a.eval o).run P w = .ok (.value v) w') (hK : K (a.put o.dst v) w') : if Region.wanted o (yielded ops a.tmps) = true then Oper.wp P o a w K Q else E := by
  have hw : Region.wanted o (yielded ops a.tmps) = true := by simp [Region.wanted, hg]
  rw [if_pos hw]
  unfold Oper.wp
  rw [hr]
  exact hK
theorem step_skip {P : Program} {ops : Array Oper} {o : Oper} {a : Act} {w w' : World} {K : Act → World → Prop} {Q : Exit → Act → World → Prop} {E : Prop} (hg : o.guard = none) (hr : (execOp a.eval o).run P w = .ok .skip w') (hK : K (a.put o.dst undef) w') : if Region.wanted o (yielded ops a.tmps) = true then Oper.wp P o a w K Q else E := by
  have hw : Region.wanted o (yielded ops a.tmps) = true := by simp [Region.wanted, hg]
  rw [if_pos hw]
  unfold Oper.wp
  rw [hr]
  exact hK
section
variable {ev : Operand → Value} {o : Oper} {w : World}
theorem exec_map (ho : o.op = Op.makeMap 84 none) : (execOp ev o).run Try.prog w = .ok (.value (.map (some w.heap.size))) (w.alloc (.map #[] 0)) := by
  unfold execOp
  rw [ho]
  rfl
theorem exec_z0 (ho : o.op = Op.alloc 88) : (execOp ev o).run Try.prog w = .ok (.value (.pointer (some ⟨w.heap.size, 0, none⟩))) (w.alloc (.cells z0 88)) := by
  first
    | (simp [execOp, ho, Instr.alloc, zero88, newVar, newRow, Value.cells, Result.andThen]; done)
    | (simp [execOp, ho, Instr.alloc, newVar, newRow, Value.cells, Result.andThen]; congr 2; done)
    | (simp [execOp, ho, Instr.alloc, newVar, newRow, Value.cells, Result.andThen]; congr 2; kernel_rfl)
theorem exec_mk {x y : Operand} {l c v : Value} {w' : World} (ho : o.op = Op.makeSlice 85 x y) (hx : ev x = l) (hy : ev y = c) (hm : (Instr.makeSlice 85 l c).run Try.prog w = .ok v w') : (execOp ev o).run Try.prog w = .ok (.value v) w' := by
  simp [execOp, ho, hx, hy, hm, Result.andThen]
theorem exec_b88 {x y z : Operand} {a b c M g u : Nat} (ho : o.op = Op.build 88 #[(0, x), (1, y), (2, z)]) (hx : ev x = .agg #[.int .i64 (a : Nat), .int .i64 (b : Nat), .int .i64 (c : Nat)]) (hy : ev y = .map (some M)) (hz : ev z = .slice (some ⟨g, 0, none⟩) 1 u) : (execOp ev o).run Try.prog w = .ok (.value (.agg (zP a b c M g u))) w := by
  simp [execOp, ho, hx, hy, hz, build88, Result.andThen]
theorem exec_st {x y : Operand} {b : Nat} {cells : Array Value} {w' : World} (ho : o.op = Op.store 88 x y) (hx : ev x = .pointer (some ⟨b, 0, none⟩)) (hy : ev y = .agg cells) (hr : (storeVar 88 ⟨b, 0, none⟩ (.agg cells)).run Try.prog w = .ok () w') : (execOp ev o).run Try.prog w = .ok .skip w' := by
  unfold execOp
  simp only [ho, hx, hy, Instr.storeAt, Instr.sureAddr, Sem.run_bind, Sem.run_pure, Result.andThen_ok, hr]
end

/-- What is made for Predict. -/
structure Mk3 (W V : World) (P M g sets ways line len : Nat) : Prop where
  row : V.heap[P]? = some (.cells (zP sets ways line M g (1 + len)) 88 (0, 0))
  map : LM V M 0 (fun _ _ => none)
  uses : V.ownsRow 0 106 2 (.slice (some ⟨g, 0, none⟩) 1 (1 + len)) 1 [.int .u32 0, .int .i64 0]
  chg : Chg W V (fun _ => False)
  nP : W.heap.size ≤ P
  nM : W.heap.size ≤ M
  ng : W.heap.size ≤ g
def RowOk (R : Array Value) (len : Nat) : Prop := R.size = (1 + len) * 2 ∧ R.toList.take 2 = [.int .u32 0, .int .i64 0]
theorem mk3 (W V : World) (P M g sets ways line len : Nat) (R : Array Value) (hR : RowOk R len) (hlen : len ≤ 1048576) (hC : Chg W V (fun _ => False)) (hP : V.heap[P]? = some (.cells z0 88 (0, 0))) (hM : LM V M 0 (fun _ _ => none)) (hg : V.heap[g]? = some (.cells R 106 (0, 0))) (nP : W.heap.size ≤ P) (nM : W.heap.size ≤ M) (ng : W.heap.size ≤ g) (d1 : P ≠ M) (d2 : P ≠ g) :
    ∃ V', (storeVar 88 ⟨P, 0, none⟩ (.agg (zP sets ways line M g (1 + len)))).run Try.prog V = .ok () V' ∧ Mk3 W V' P M g sets ways line len := by
  have hr := run_storeVar_row (P := Try.prog) V P 0 88 (zP sets ways line M g (1 + len)) _ 88 hP (by simp [zP_size, z0_size]) (by rw [size88, zP_size]) (zP_one _ _ _ _ _ _)
  have e : (z0.toList.take 0 ++ (zP sets ways line M g (1 + len)).toList ++ z0.toList.drop (0 + (zP sets ways line M g (1 + len)).size)).toArray = zP sets ways line M g (1 + len) := by
    rw [List.drop_eq_nil_of_le (by rw [zP_size]; have := z0_size; simp at this ⊢; omega)]; simp
  rw [e] at hr
  have hC2 : Chg V (V.setRow P (zP sets ways line M g (1 + len))) (fun k => k = P) := ⟨rfl, rfl, rfl, by simp, fun i hi hn => by rw [setRow_other _ _ _ _ hn]⟩
  refine ⟨_, hr, ⟨setRow_heap _ _ _ _ _ _ hP, hM.kept hC2 (fun e => d1 e.symm), ⟨rfl, .inr ⟨g, 1 + len, R, rfl, Nat.zero_le _, hC2.heap hg (fun e => d2 e.symm), by omega, by simp [maxLen]; omega, hR.1, hR.2⟩⟩, hC.trans hC2 (fun i hi e => by omega), nP, nM, ng⟩⟩

def S3 (b2 sets ways line : Nat) (wx : World) : Prop := wx.cell? ⟨b2, 0, none⟩ = some (.int .i64 (sets : Nat)) ∧ wx.cell? ⟨b2, 1, none⟩ = some (.int .i64 (ways : Nat)) ∧ wx.cell? ⟨b2, 2, none⟩ = some (.int .i64 (line : Nat))
def ops3 : Array Oper := #[
  { dst := some 13, op := Op.load 23 (Operand.tmp 2), type := 23, pos := "predict.go:14", after := #[], guard := none }, { dst := some 14, op := Op.makeMap 84 none, type := 84, pos := "predict.go:14", after := #[], guard := none }, { dst := some 15, op := Op.move (Operand.tmp 1), type := 24, pos := "predict.go:14", after := #[], guard := none }, { dst := some 16, op := Op.call { callee := Callee.builtin Builtin.len, args := #[Operand.tmp 15], argTypes := #[24] }, type := 3, pos := "predict.go:14", after := #[{ on := 2, ground := Ground.data }], guard := none }, { dst := some 17, op := Op.binOp BinOp.add 3 (Operand.const (Value.int IntKind.i64 1)) (Operand.tmp 16) 3, type := 3, pos := "predict.go:14", after := #[{ on := 3, ground := Ground.data }], guard := none }, { dst := some 18, op := Op.makeSlice 85 (Operand.const (Value.int IntKind.i64 1)) (Operand.tmp 17), type := 85, pos := "predict.go:14", after := #[{ on := 4, ground := Ground.data }], guard := none }, { dst := some 19, op := Op.build 88 #[(0, Operand.tmp 13), (1, Operand.tmp 14), (2, Operand.tmp 18)], type := 88, pos := "predict.go:14", after := #[{ on := 0, ground := Ground.data }, { on := 1, ground := Ground.data }, { on := 5, ground := Ground.data }], guard := none }, { dst := some 6, op := Op.alloc 88, type := 0, pos := "predict.go:14", after := #[], guard := none }, { dst := none, op := Op.store 88 (Operand.tmp 6) (Operand.tmp 19), type := 0, pos := "predict.go:14", after := #[{ on := 7, ground := Ground.data }, { on := 6, ground := Ground.data }, { on := 0, ground := Ground.phase }, { on := 1, ground := Ground.phase }, { on := 2, ground := Ground.phase }, { on := 3, ground := Ground.phase }, { on := 4, ground := Ground.phase }, { on := 5, ground := Ground.phase }, { on := 6, ground := Ground.phase }, { on := 7, ground := Ground.phase }], guard := none }]

set_option maxHeartbeats 4000000 in
set_option maxRecDepth 100000 in
theorem reg3 (W : World) (b2 sets ways line len cap : Nat) (a : Option Addr) (hlen : len ≤ 1048576) (hb : W.heap[b2]? = some (.cells #[.int .i64 (sets : Nat), .int .i64 (ways : Nat), .int .i64 (line : Nat)] 23 (0, 0))) (Q : Exit → Act → World → Prop) (hPan : ∀ c (a : Act) w (d : Option Tmp) v, Q (.panic c) (a.put d v) w → Q (.panic c) a w)
    (u0 u3 u4 u5 u6 u7 u8 u9 u10 u11 u12 u13 u14 u15 u16 u17 u18 u19 u20 u21 u22 u23 u24 u25 u26 u27 u28 u29 u30 u31 u32 u33 u34 u35 u36 : Value)
    (hQ : ∀ P M g V, Mk3 W V P M g sets ways line len → Q .normal ⟨#[u0, .slice a len cap, .pointer (some ⟨b2, 0, none⟩), u3, u4, u5, .pointer (some ⟨P, 0, none⟩), u7, u8, u9, u10, u11, u12, .agg #[.int .i64 (sets : Nat), .int .i64 (ways : Nat), .int .i64 (line : Nat)], .map (some M), .slice a len cap, .int .i64 (len : Nat), .int .i64 ((1 + len : Nat) : Int), .slice (some ⟨g, 0, none⟩) 1 (1 + len), .agg (zP sets ways line M g (1 + len)), u20, u21, u22, u23, u24, u25, u26, u27, u28, u29, u30, u31, u32, u33, u34, u35, u36], []⟩ V) :
    Code.wp Try.prog (Code.region 3 ops3 true) Q ⟨#[u0, .slice a len cap, .pointer (some ⟨b2, 0, none⟩), u3, u4, u5, u6, u7, u8, u9, u10, u11, u12, u13, u14, u15, u16, u17, u18, u19, u20, u21, u22, u23, u24, u25, u26, u27, u28, u29, u30, u31, u32, u33, u34, u35, u36], []⟩ W := by
  have hmx : Try.prog.follows .mixedOrders = true := by kernel_rfl
  have hSx : ∀ V, Chg W V (fun _ => False) → S3 b2 sets ways line V := fun V hV => by
    obtain ⟨d0, d1, d2, _⟩ := cells3 (hV.heap hb (fun h => h))
    exact ⟨d0, d1, d2⟩
  obtain ⟨i0, hi, hz0, hz1, hz2⟩ := info_parts info106
  obtain ⟨R, hRd⟩ : ∃ R, R = madeCells (Value.agg #[.int .u32 0, .int .i64 0]).cells ((1 + len) * 2) := ⟨_, rfl⟩
  have hmk : ∀ V : World, (Instr.makeSlice 85 (.int .i64 1) (.int .i64 ((1 + len : Nat) : Int))).run Try.prog V = .ok (.slice (some ⟨V.heap.size, 0, none⟩) 1 (1 + len)) (V.alloc (.cells R 106)) := by
    intro V
    have := run_makeSlice (P := Try.prog) V 85 106 i0 (.agg #[.int .u32 0, .int .i64 0]) Try.underlying85 hi hz0 .i64 .i64 1 ((1 + len : Nat) : Int) (by omega) (by omega) (by rw [hz1]; simp; omega) (by rw [hz2]; omega) (by omega)
    rw [hz1] at this
    have e : (1 + (len : Int)).toNat = 1 + len := by omega
    simp at this
    rw [e] at this
    rw [hRd]
    simpa using this
  have hR : RowOk R len := by
    have hsz : R.size = (1 + len) * 2 := by rw [hRd, size_madeCells]
    have h0 : R[0]? = some (.int .u32 0) := by
      rw [hRd, Array.getElem?_eq_getElem (by rw [size_madeCells]; omega)]
      simp [madeCells, Value.cells]
    have h1 : R[1]? = some (.int .i64 0) := by
      rw [hRd, Array.getElem?_eq_getElem (by rw [size_madeCells]; omega)]
      simp [madeCells, Value.cells]
    refine ⟨hsz, ?_⟩
    rw [← Array.getElem?_toList] at h0 h1
    obtain ⟨L⟩ := R
    simp only at h0 h1 ⊢
    match L, h0, h1 with
    | x :: y :: r, h0, h1 =>
      simp at h0 h1
      simp [h0, h1]
  have w64 : IntKind.i64.wrap (1 + (len : Int)) = ((1 + len : Nat) : Int) := by simp [IntKind.wrap, IntKind.bits, IntKind.signed]; omega
  refine wp_region_held_drew (S := S3 b2 sets ways line) hmx (hSx _ (Chg.refl W (fun _ => False)).drew) (fun hS => ?_)
  refine wpAnyH_take (i := 0) (oi := { dst := some 13, op := Op.load 23 (Operand.tmp 2), type := 23, pos := "predict.go:14", after := #[], guard := none }) (v := .agg #[.int .i64 (sets : Nat), .int .i64 (ways : Nat), .int .i64 (line : Nat)]) rfl (by kernel_rfl) (by kernel_rfl) (by kernel_rfl) (fun _ _ _ h => hPan _ _ _ _ _ h) (Or.inl ⟨by rfl, ?_⟩) (hSx _ (Chg.refl W (fun _ => False)).drew) ?_
  · rintro wx ⟨d0, d1, d2⟩
    go_simp
  simp only [Act.put, List.setIfInBounds_toArray, List.set_cons_zero, List.set_cons_succ]
  refine wpAnyH_take (i := 2) (oi := { dst := some 15, op := Op.move (Operand.tmp 1), type := 24, pos := "predict.go:14", after := #[], guard := none }) (v := .slice a len cap) rfl (by kernel_rfl) (by kernel_rfl) (by kernel_rfl) (fun _ _ _ h => hPan _ _ _ _ _ h) (Or.inl ⟨by rfl, ?_⟩) (hSx _ (Chg.refl W (fun _ => False)).drew) ?_
  · rintro wx ⟨d0, d1, d2⟩
    go_simp
  simp only [Act.put, List.setIfInBounds_toArray, List.set_cons_zero, List.set_cons_succ]
  refine wpAnyH_take (i := 3) (oi := { dst := some 16, op := Op.call { callee := Callee.builtin Builtin.len, args := #[Operand.tmp 15], argTypes := #[24] }, type := 3, pos := "predict.go:14", after := #[{ on := 2, ground := Ground.data }], guard := none }) (v := .int .i64 (len : Nat)) rfl (by kernel_rfl) (by kernel_rfl) (by kernel_rfl) (fun _ _ _ h => hPan _ _ _ _ _ h) (Or.inl ⟨by rfl, ?_⟩) (hSx _ (Chg.refl W (fun _ => False)).drew) ?_
  · rintro wx ⟨d0, d1, d2⟩
    go_simp
  simp only [Act.put, List.setIfInBounds_toArray, List.set_cons_zero, List.set_cons_succ]
  refine wpAnyH_take (i := 4) (oi := { dst := some 17, op := Op.binOp BinOp.add 3 (Operand.const (Value.int IntKind.i64 1)) (Operand.tmp 16) 3, type := 3, pos := "predict.go:14", after := #[{ on := 3, ground := Ground.data }], guard := none }) (v := .int .i64 ((1 + len : Nat) : Int)) rfl (by kernel_rfl) (by kernel_rfl) (by kernel_rfl) (fun _ _ _ h => hPan _ _ _ _ _ h) (Or.inl ⟨by rfl, ?_⟩) (hSx _ (Chg.refl W (fun _ => False)).drew) ?_
  · rintro wx ⟨d0, d1, d2⟩
    go_simp
  simp only [Act.put, List.setIfInBounds_toArray, List.set_cons_zero, List.set_cons_succ]
  refine wpAnyH_ready (rs := [1, 5, 7]) (by kernel_rfl) (by simp) ?_
  refine AllReadyH.cons (o := { dst := some 14, op := Op.makeMap 84 none, type := 84, pos := "predict.go:14", after := #[], guard := none }) rfl (fun K hK => ?_) (AllReadyH.cons (o := { dst := some 18, op := Op.makeSlice 85 (Operand.const (Value.int IntKind.i64 1)) (Operand.tmp 17), type := 85, pos := "predict.go:14", after := #[{ on := 4, ground := Ground.data }], guard := none }) rfl (fun K hK => ?_) (AllReadyH.cons (o := { dst := some 6, op := Op.alloc 88, type := 0, pos := "predict.go:14", after := #[], guard := none }) rfl (fun K hK => ?_) AllReadyH.nil))
  · refine step_val rfl (v := .map (some (W.drew).heap.size)) (w' := (W.drew.alloc (.map #[] 0))) (exec_map rfl) ?_
    refine hK.out _ _ (hSx _ (((Chg.refl W (fun _ => False)).drew).alloc _)) (fun hS2 => ?_)
    clear hK K
    simp only [Act.put, List.setIfInBounds_toArray, List.set_cons_zero, List.set_cons_succ]
    refine wpAnyH_ready (rs := [5, 7]) (by kernel_rfl) (by simp) ?_
    refine AllReadyH.cons (o := { dst := some 18, op := Op.makeSlice 85 (Operand.const (Value.int IntKind.i64 1)) (Operand.tmp 17), type := 85, pos := "predict.go:14", after := #[{ on := 4, ground := Ground.data }], guard := none }) rfl (fun K hK => ?_) (AllReadyH.cons (o := { dst := some 6, op := Op.alloc 88, type := 0, pos := "predict.go:14", after := #[], guard := none }) rfl (fun K hK => ?_) AllReadyH.nil)
    · refine step_val rfl (v := .slice (some ⟨((W.drew.alloc (.map #[] 0))).heap.size, 0, none⟩) 1 (1 + len)) (w' := ((W.drew.alloc (.map #[] 0)).alloc (.cells R 106))) (exec_mk rfl rfl rfl (hmk _)) ?_
      refine hK.out _ _ (hSx _ ((((Chg.refl W (fun _ => False)).drew).alloc _).alloc _)) (fun hS2 => ?_)
      clear hK K
      simp only [Act.put, List.setIfInBounds_toArray, List.set_cons_zero, List.set_cons_succ]
      refine wpAnyH_take (i := 6) (oi := { dst := some 19, op := Op.build 88 #[(0, Operand.tmp 13), (1, Operand.tmp 14), (2, Operand.tmp 18)], type := 88, pos := "predict.go:14", after := #[{ on := 0, ground := Ground.data }, { on := 1, ground := Ground.data }, { on := 5, ground := Ground.data }], guard := none }) (v := .agg (zP sets ways line ((W.drew).heap.size) (((W.drew.alloc (.map #[] 0))).heap.size) (1 + len))) rfl (by kernel_rfl) (by kernel_rfl) (by kernel_rfl) (fun _ _ _ h => hPan _ _ _ _ _ h) (Or.inl ⟨by rfl, ?_⟩) (hSx _ ((((Chg.refl W (fun _ => False)).drew).alloc _).alloc _)) ?_
      · rintro wx ⟨d0, d1, d2⟩
        exact exec_b88 rfl rfl rfl rfl
      simp only [Act.put, List.setIfInBounds_toArray, List.set_cons_zero, List.set_cons_succ]
      refine wpAnyH_ready (rs := [7]) (by kernel_rfl) (by simp) ?_
      refine AllReadyH.cons (o := { dst := some 6, op := Op.alloc 88, type := 0, pos := "predict.go:14", after := #[], guard := none }) rfl (fun K hK => ?_) AllReadyH.nil
      · refine step_val rfl (v := .pointer (some ⟨(((W.drew.alloc (.map #[] 0)).alloc (.cells R 106))).heap.size, 0, none⟩)) (w' := (((W.drew.alloc (.map #[] 0)).alloc (.cells R 106)).alloc (.cells z0 88))) (exec_z0 rfl) ?_
        refine hK.out _ _ (hSx _ (((((Chg.refl W (fun _ => False)).drew).alloc _).alloc _).alloc _)) (fun hS2 => ?_)
        clear hK K
        simp only [Act.put, List.setIfInBounds_toArray, List.set_cons_zero, List.set_cons_succ]
        obtain ⟨W4, hst, hmk4⟩ := mk3 W ((((W.drew.alloc (.map #[] 0)).alloc (.cells R 106)).alloc (.cells z0 88))) ((((W.drew.alloc (.map #[] 0)).alloc (.cells R 106))).heap.size) ((W.drew).heap.size) (((W.drew.alloc (.map #[] 0))).heap.size) sets ways line len R hR hlen ((((((Chg.refl W (fun _ => False)).drew).alloc _).alloc _).alloc _)) (heap_alloc_new (((W.drew.alloc (.map #[] 0)).alloc (.cells R 106))) _) (((((LM.made (W.drew))).kept ((Chg.refl _ (fun _ => False)).alloc _) (fun h => h))).kept ((Chg.refl _ (fun _ => False)).alloc _) (fun h => h)) (al_old _ (heap_alloc_new ((W.drew.alloc (.map #[] 0))) _)) (by simp <;> omega) (by simp <;> omega) (by simp <;> omega) (by simp <;> omega) (by simp <;> omega)
        refine wpAnyH_ready (rs := [8]) (by kernel_rfl) (by simp) ?_
        refine AllReadyH.cons (o := { dst := none, op := Op.store 88 (Operand.tmp 6) (Operand.tmp 19), type := 0, pos := "predict.go:14", after := #[{ on := 7, ground := Ground.data }, { on := 6, ground := Ground.data }, { on := 0, ground := Ground.phase }, { on := 1, ground := Ground.phase }, { on := 2, ground := Ground.phase }, { on := 3, ground := Ground.phase }, { on := 4, ground := Ground.phase }, { on := 5, ground := Ground.phase }, { on := 6, ground := Ground.phase }, { on := 7, ground := Ground.phase }], guard := none }) rfl (fun K hK => ?_) AllReadyH.nil
        refine step_skip rfl (exec_st rfl rfl rfl hst) ?_
        refine hK.out _ _ (hSx _ hmk4.chg) (fun hS2 => ?_)
        clear hK K
        refine wpAnyH_done (by kernel_rfl) ?_ _
        exact hQ _ _ _ W4 hmk4
    · refine step_val rfl (v := .pointer (some ⟨((W.drew.alloc (.map #[] 0))).heap.size, 0, none⟩)) (w' := ((W.drew.alloc (.map #[] 0)).alloc (.cells z0 88))) (exec_z0 rfl) ?_
      refine hK.out _ _ (hSx _ ((((Chg.refl W (fun _ => False)).drew).alloc _).alloc _)) (fun hS2 => ?_)
      clear hK K
      simp only [Act.put, List.setIfInBounds_toArray, List.set_cons_zero, List.set_cons_succ]
      refine wpAnyH_ready (rs := [5]) (by kernel_rfl) (by simp) ?_
      refine AllReadyH.cons (o := { dst := some 18, op := Op.makeSlice 85 (Operand.const (Value.int IntKind.i64 1)) (Operand.tmp 17), type := 85, pos := "predict.go:14", after := #[{ on := 4, ground := Ground.data }], guard := none }) rfl (fun K hK => ?_) AllReadyH.nil
      · refine step_val rfl (v := .slice (some ⟨(((W.drew.alloc (.map #[] 0)).alloc (.cells z0 88))).heap.size, 0, none⟩) 1 (1 + len)) (w' := (((W.drew.alloc (.map #[] 0)).alloc (.cells z0 88)).alloc (.cells R 106))) (exec_mk rfl rfl rfl (hmk _)) ?_
        refine hK.out _ _ (hSx _ (((((Chg.refl W (fun _ => False)).drew).alloc _).alloc _).alloc _)) (fun hS2 => ?_)
        clear hK K
        simp only [Act.put, List.setIfInBounds_toArray, List.set_cons_zero, List.set_cons_succ]
        refine wpAnyH_take (i := 6) (oi := { dst := some 19, op := Op.build 88 #[(0, Operand.tmp 13), (1, Operand.tmp 14), (2, Operand.tmp 18)], type := 88, pos := "predict.go:14", after := #[{ on := 0, ground := Ground.data }, { on := 1, ground := Ground.data }, { on := 5, ground := Ground.data }], guard := none }) (v := .agg (zP sets ways line ((W.drew).heap.size) ((((W.drew.alloc (.map #[] 0)).alloc (.cells z0 88))).heap.size) (1 + len))) rfl (by kernel_rfl) (by kernel_rfl) (by kernel_rfl) (fun _ _ _ h => hPan _ _ _ _ _ h) (Or.inl ⟨by rfl, ?_⟩) (hSx _ (((((Chg.refl W (fun _ => False)).drew).alloc _).alloc _).alloc _)) ?_
        · rintro wx ⟨d0, d1, d2⟩
          exact exec_b88 rfl rfl rfl rfl
        simp only [Act.put, List.setIfInBounds_toArray, List.set_cons_zero, List.set_cons_succ]
        obtain ⟨W4, hst, hmk4⟩ := mk3 W ((((W.drew.alloc (.map #[] 0)).alloc (.cells z0 88)).alloc (.cells R 106))) (((W.drew.alloc (.map #[] 0))).heap.size) ((W.drew).heap.size) ((((W.drew.alloc (.map #[] 0)).alloc (.cells z0 88))).heap.size) sets ways line len R hR hlen ((((((Chg.refl W (fun _ => False)).drew).alloc _).alloc _).alloc _)) (al_old _ (heap_alloc_new ((W.drew.alloc (.map #[] 0))) _)) (((((LM.made (W.drew))).kept ((Chg.refl _ (fun _ => False)).alloc _) (fun h => h))).kept ((Chg.refl _ (fun _ => False)).alloc _) (fun h => h)) (heap_alloc_new (((W.drew.alloc (.map #[] 0)).alloc (.cells z0 88))) _) (by simp <;> omega) (by simp <;> omega) (by simp <;> omega) (by simp <;> omega) (by simp <;> omega)
        refine wpAnyH_ready (rs := [8]) (by kernel_rfl) (by simp) ?_
        refine AllReadyH.cons (o := { dst := none, op := Op.store 88 (Operand.tmp 6) (Operand.tmp 19), type := 0, pos := "predict.go:14", after := #[{ on := 7, ground := Ground.data }, { on := 6, ground := Ground.data }, { on := 0, ground := Ground.phase }, { on := 1, ground := Ground.phase }, { on := 2, ground := Ground.phase }, { on := 3, ground := Ground.phase }, { on := 4, ground := Ground.phase }, { on := 5, ground := Ground.phase }, { on := 6, ground := Ground.phase }, { on := 7, ground := Ground.phase }], guard := none }) rfl (fun K hK => ?_) AllReadyH.nil
        refine step_skip rfl (exec_st rfl rfl rfl hst) ?_
        refine hK.out _ _ (hSx _ hmk4.chg) (fun hS2 => ?_)
        clear hK K
        refine wpAnyH_done (by kernel_rfl) ?_ _
        exact hQ _ _ _ W4 hmk4
  · refine step_val rfl (v := .slice (some ⟨(W.drew).heap.size, 0, none⟩) 1 (1 + len)) (w' := (W.drew.alloc (.cells R 106))) (exec_mk rfl rfl rfl (hmk _)) ?_
    refine hK.out _ _ (hSx _ (((Chg.refl W (fun _ => False)).drew).alloc _)) (fun hS2 => ?_)
    clear hK K
    simp only [Act.put, List.setIfInBounds_toArray, List.set_cons_zero, List.set_cons_succ]
    refine wpAnyH_ready (rs := [1, 7]) (by kernel_rfl) (by simp) ?_
    refine AllReadyH.cons (o := { dst := some 14, op := Op.makeMap 84 none, type := 84, pos := "predict.go:14", after := #[], guard := none }) rfl (fun K hK => ?_) (AllReadyH.cons (o := { dst := some 6, op := Op.alloc 88, type := 0, pos := "predict.go:14", after := #[], guard := none }) rfl (fun K hK => ?_) AllReadyH.nil)
    · refine step_val rfl (v := .map (some ((W.drew.alloc (.cells R 106))).heap.size)) (w' := ((W.drew.alloc (.cells R 106)).alloc (.map #[] 0))) (exec_map rfl) ?_
      refine hK.out _ _ (hSx _ ((((Chg.refl W (fun _ => False)).drew).alloc _).alloc _)) (fun hS2 => ?_)
      clear hK K
      simp only [Act.put, List.setIfInBounds_toArray, List.set_cons_zero, List.set_cons_succ]
      refine wpAnyH_take (i := 6) (oi := { dst := some 19, op := Op.build 88 #[(0, Operand.tmp 13), (1, Operand.tmp 14), (2, Operand.tmp 18)], type := 88, pos := "predict.go:14", after := #[{ on := 0, ground := Ground.data }, { on := 1, ground := Ground.data }, { on := 5, ground := Ground.data }], guard := none }) (v := .agg (zP sets ways line (((W.drew.alloc (.cells R 106))).heap.size) ((W.drew).heap.size) (1 + len))) rfl (by kernel_rfl) (by kernel_rfl) (by kernel_rfl) (fun _ _ _ h => hPan _ _ _ _ _ h) (Or.inl ⟨by rfl, ?_⟩) (hSx _ ((((Chg.refl W (fun _ => False)).drew).alloc _).alloc _)) ?_
      · rintro wx ⟨d0, d1, d2⟩
        exact exec_b88 rfl rfl rfl rfl
      simp only [Act.put, List.setIfInBounds_toArray, List.set_cons_zero, List.set_cons_succ]
      refine wpAnyH_ready (rs := [7]) (by kernel_rfl) (by simp) ?_
      refine AllReadyH.cons (o := { dst := some 6, op := Op.alloc 88, type := 0, pos := "predict.go:14", after := #[], guard := none }) rfl (fun K hK => ?_) AllReadyH.nil
      · refine step_val rfl (v := .pointer (some ⟨(((W.drew.alloc (.cells R 106)).alloc (.map #[] 0))).heap.size, 0, none⟩)) (w' := (((W.drew.alloc (.cells R 106)).alloc (.map #[] 0)).alloc (.cells z0 88))) (exec_z0 rfl) ?_
        refine hK.out _ _ (hSx _ (((((Chg.refl W (fun _ => False)).drew).alloc _).alloc _).alloc _)) (fun hS2 => ?_)
        clear hK K
        simp only [Act.put, List.setIfInBounds_toArray, List.set_cons_zero, List.set_cons_succ]
        obtain ⟨W4, hst, hmk4⟩ := mk3 W ((((W.drew.alloc (.cells R 106)).alloc (.map #[] 0)).alloc (.cells z0 88))) ((((W.drew.alloc (.cells R 106)).alloc (.map #[] 0))).heap.size) (((W.drew.alloc (.cells R 106))).heap.size) ((W.drew).heap.size) sets ways line len R hR hlen ((((((Chg.refl W (fun _ => False)).drew).alloc _).alloc _).alloc _)) (heap_alloc_new (((W.drew.alloc (.cells R 106)).alloc (.map #[] 0))) _) (((LM.made ((W.drew.alloc (.cells R 106))))).kept ((Chg.refl _ (fun _ => False)).alloc _) (fun h => h)) (al_old _ (al_old _ (heap_alloc_new (W.drew) _))) (by simp <;> omega) (by simp <;> omega) (by simp <;> omega) (by simp <;> omega) (by simp <;> omega)
        refine wpAnyH_ready (rs := [8]) (by kernel_rfl) (by simp) ?_
        refine AllReadyH.cons (o := { dst := none, op := Op.store 88 (Operand.tmp 6) (Operand.tmp 19), type := 0, pos := "predict.go:14", after := #[{ on := 7, ground := Ground.data }, { on := 6, ground := Ground.data }, { on := 0, ground := Ground.phase }, { on := 1, ground := Ground.phase }, { on := 2, ground := Ground.phase }, { on := 3, ground := Ground.phase }, { on := 4, ground := Ground.phase }, { on := 5, ground := Ground.phase }, { on := 6, ground := Ground.phase }, { on := 7, ground := Ground.phase }], guard := none }) rfl (fun K hK => ?_) AllReadyH.nil
        refine step_skip rfl (exec_st rfl rfl rfl hst) ?_
        refine hK.out _ _ (hSx _ hmk4.chg) (fun hS2 => ?_)
        clear hK K
        refine wpAnyH_done (by kernel_rfl) ?_ _
        exact hQ _ _ _ W4 hmk4
    · refine step_val rfl (v := .pointer (some ⟨((W.drew.alloc (.cells R 106))).heap.size, 0, none⟩)) (w' := ((W.drew.alloc (.cells R 106)).alloc (.cells z0 88))) (exec_z0 rfl) ?_
      refine hK.out _ _ (hSx _ ((((Chg.refl W (fun _ => False)).drew).alloc _).alloc _)) (fun hS2 => ?_)
      clear hK K
      simp only [Act.put, List.setIfInBounds_toArray, List.set_cons_zero, List.set_cons_succ]
      refine wpAnyH_ready (rs := [1]) (by kernel_rfl) (by simp) ?_
      refine AllReadyH.cons (o := { dst := some 14, op := Op.makeMap 84 none, type := 84, pos := "predict.go:14", after := #[], guard := none }) rfl (fun K hK => ?_) AllReadyH.nil
      · refine step_val rfl (v := .map (some (((W.drew.alloc (.cells R 106)).alloc (.cells z0 88))).heap.size)) (w' := (((W.drew.alloc (.cells R 106)).alloc (.cells z0 88)).alloc (.map #[] 0))) (exec_map rfl) ?_
        refine hK.out _ _ (hSx _ (((((Chg.refl W (fun _ => False)).drew).alloc _).alloc _).alloc _)) (fun hS2 => ?_)
        clear hK K
        simp only [Act.put, List.setIfInBounds_toArray, List.set_cons_zero, List.set_cons_succ]
        refine wpAnyH_take (i := 6) (oi := { dst := some 19, op := Op.build 88 #[(0, Operand.tmp 13), (1, Operand.tmp 14), (2, Operand.tmp 18)], type := 88, pos := "predict.go:14", after := #[{ on := 0, ground := Ground.data }, { on := 1, ground := Ground.data }, { on := 5, ground := Ground.data }], guard := none }) (v := .agg (zP sets ways line ((((W.drew.alloc (.cells R 106)).alloc (.cells z0 88))).heap.size) ((W.drew).heap.size) (1 + len))) rfl (by kernel_rfl) (by kernel_rfl) (by kernel_rfl) (fun _ _ _ h => hPan _ _ _ _ _ h) (Or.inl ⟨by rfl, ?_⟩) (hSx _ (((((Chg.refl W (fun _ => False)).drew).alloc _).alloc _).alloc _)) ?_
        · rintro wx ⟨d0, d1, d2⟩
          exact exec_b88 rfl rfl rfl rfl
        simp only [Act.put, List.setIfInBounds_toArray, List.set_cons_zero, List.set_cons_succ]
        obtain ⟨W4, hst, hmk4⟩ := mk3 W ((((W.drew.alloc (.cells R 106)).alloc (.cells z0 88)).alloc (.map #[] 0))) (((W.drew.alloc (.cells R 106))).heap.size) ((((W.drew.alloc (.cells R 106)).alloc (.cells z0 88))).heap.size) ((W.drew).heap.size) sets ways line len R hR hlen ((((((Chg.refl W (fun _ => False)).drew).alloc _).alloc _).alloc _)) (al_old _ (heap_alloc_new ((W.drew.alloc (.cells R 106))) _)) (LM.made (((W.drew.alloc (.cells R 106)).alloc (.cells z0 88)))) (al_old _ (al_old _ (heap_alloc_new (W.drew) _))) (by simp <;> omega) (by simp <;> omega) (by simp <;> omega) (by simp <;> omega) (by simp <;> omega)
        refine wpAnyH_ready (rs := [8]) (by kernel_rfl) (by simp) ?_
        refine AllReadyH.cons (o := { dst := none, op := Op.store 88 (Operand.tmp 6) (Operand.tmp 19), type := 0, pos := "predict.go:14", after := #[{ on := 7, ground := Ground.data }, { on := 6, ground := Ground.data }, { on := 0, ground := Ground.phase }, { on := 1, ground := Ground.phase }, { on := 2, ground := Ground.phase }, { on := 3, ground := Ground.phase }, { on := 4, ground := Ground.phase }, { on := 5, ground := Ground.phase }, { on := 6, ground := Ground.phase }, { on := 7, ground := Ground.phase }], guard := none }) rfl (fun K hK => ?_) AllReadyH.nil
        refine step_skip rfl (exec_st rfl rfl rfl hst) ?_
        refine hK.out _ _ (hSx _ hmk4.chg) (fun hS2 => ?_)
        clear hK K
        refine wpAnyH_done (by kernel_rfl) ?_ _
        exact hQ _ _ _ W4 hmk4
  · refine step_val rfl (v := .pointer (some ⟨(W.drew).heap.size, 0, none⟩)) (w' := (W.drew.alloc (.cells z0 88))) (exec_z0 rfl) ?_
    refine hK.out _ _ (hSx _ (((Chg.refl W (fun _ => False)).drew).alloc _)) (fun hS2 => ?_)
    clear hK K
    simp only [Act.put, List.setIfInBounds_toArray, List.set_cons_zero, List.set_cons_succ]
    refine wpAnyH_ready (rs := [1, 5]) (by kernel_rfl) (by simp) ?_
    refine AllReadyH.cons (o := { dst := some 14, op := Op.makeMap 84 none, type := 84, pos := "predict.go:14", after := #[], guard := none }) rfl (fun K hK => ?_) (AllReadyH.cons (o := { dst := some 18, op := Op.makeSlice 85 (Operand.const (Value.int IntKind.i64 1)) (Operand.tmp 17), type := 85, pos := "predict.go:14", after := #[{ on := 4, ground := Ground.data }], guard := none }) rfl (fun K hK => ?_) AllReadyH.nil)
    · refine step_val rfl (v := .map (some ((W.drew.alloc (.cells z0 88))).heap.size)) (w' := ((W.drew.alloc (.cells z0 88)).alloc (.map #[] 0))) (exec_map rfl) ?_
      refine hK.out _ _ (hSx _ ((((Chg.refl W (fun _ => False)).drew).alloc _).alloc _)) (fun hS2 => ?_)
      clear hK K
      simp only [Act.put, List.setIfInBounds_toArray, List.set_cons_zero, List.set_cons_succ]
      refine wpAnyH_ready (rs := [5]) (by kernel_rfl) (by simp) ?_
      refine AllReadyH.cons (o := { dst := some 18, op := Op.makeSlice 85 (Operand.const (Value.int IntKind.i64 1)) (Operand.tmp 17), type := 85, pos := "predict.go:14", after := #[{ on := 4, ground := Ground.data }], guard := none }) rfl (fun K hK => ?_) AllReadyH.nil
      · refine step_val rfl (v := .slice (some ⟨(((W.drew.alloc (.cells z0 88)).alloc (.map #[] 0))).heap.size, 0, none⟩) 1 (1 + len)) (w' := (((W.drew.alloc (.cells z0 88)).alloc (.map #[] 0)).alloc (.cells R 106))) (exec_mk rfl rfl rfl (hmk _)) ?_
        refine hK.out _ _ (hSx _ (((((Chg.refl W (fun _ => False)).drew).alloc _).alloc _).alloc _)) (fun hS2 => ?_)
        clear hK K
        simp only [Act.put, List.setIfInBounds_toArray, List.set_cons_zero, List.set_cons_succ]
        refine wpAnyH_take (i := 6) (oi := { dst := some 19, op := Op.build 88 #[(0, Operand.tmp 13), (1, Operand.tmp 14), (2, Operand.tmp 18)], type := 88, pos := "predict.go:14", after := #[{ on := 0, ground := Ground.data }, { on := 1, ground := Ground.data }, { on := 5, ground := Ground.data }], guard := none }) (v := .agg (zP sets ways line (((W.drew.alloc (.cells z0 88))).heap.size) ((((W.drew.alloc (.cells z0 88)).alloc (.map #[] 0))).heap.size) (1 + len))) rfl (by kernel_rfl) (by kernel_rfl) (by kernel_rfl) (fun _ _ _ h => hPan _ _ _ _ _ h) (Or.inl ⟨by rfl, ?_⟩) (hSx _ (((((Chg.refl W (fun _ => False)).drew).alloc _).alloc _).alloc _)) ?_
        · rintro wx ⟨d0, d1, d2⟩
          exact exec_b88 rfl rfl rfl rfl
        simp only [Act.put, List.setIfInBounds_toArray, List.set_cons_zero, List.set_cons_succ]
        obtain ⟨W4, hst, hmk4⟩ := mk3 W ((((W.drew.alloc (.cells z0 88)).alloc (.map #[] 0)).alloc (.cells R 106))) ((W.drew).heap.size) (((W.drew.alloc (.cells z0 88))).heap.size) ((((W.drew.alloc (.cells z0 88)).alloc (.map #[] 0))).heap.size) sets ways line len R hR hlen ((((((Chg.refl W (fun _ => False)).drew).alloc _).alloc _).alloc _)) (al_old _ (al_old _ (heap_alloc_new (W.drew) _))) (((LM.made ((W.drew.alloc (.cells z0 88))))).kept ((Chg.refl _ (fun _ => False)).alloc _) (fun h => h)) (heap_alloc_new (((W.drew.alloc (.cells z0 88)).alloc (.map #[] 0))) _) (by simp <;> omega) (by simp <;> omega) (by simp <;> omega) (by simp <;> omega) (by simp <;> omega)
        refine wpAnyH_ready (rs := [8]) (by kernel_rfl) (by simp) ?_
        refine AllReadyH.cons (o := { dst := none, op := Op.store 88 (Operand.tmp 6) (Operand.tmp 19), type := 0, pos := "predict.go:14", after := #[{ on := 7, ground := Ground.data }, { on := 6, ground := Ground.data }, { on := 0, ground := Ground.phase }, { on := 1, ground := Ground.phase }, { on := 2, ground := Ground.phase }, { on := 3, ground := Ground.phase }, { on := 4, ground := Ground.phase }, { on := 5, ground := Ground.phase }, { on := 6, ground := Ground.phase }, { on := 7, ground := Ground.phase }], guard := none }) rfl (fun K hK => ?_) AllReadyH.nil
        refine step_skip rfl (exec_st rfl rfl rfl hst) ?_
        refine hK.out _ _ (hSx _ hmk4.chg) (fun hS2 => ?_)
        clear hK K
        refine wpAnyH_done (by kernel_rfl) ?_ _
        exact hQ _ _ _ W4 hmk4
    · refine step_val rfl (v := .slice (some ⟨((W.drew.alloc (.cells z0 88))).heap.size, 0, none⟩) 1 (1 + len)) (w' := ((W.drew.alloc (.cells z0 88)).alloc (.cells R 106))) (exec_mk rfl rfl rfl (hmk _)) ?_
      refine hK.out _ _ (hSx _ ((((Chg.refl W (fun _ => False)).drew).alloc _).alloc _)) (fun hS2 => ?_)
      clear hK K
      simp only [Act.put, List.setIfInBounds_toArray, List.set_cons_zero, List.set_cons_succ]
      refine wpAnyH_ready (rs := [1]) (by kernel_rfl) (by simp) ?_
      refine AllReadyH.cons (o := { dst := some 14, op := Op.makeMap 84 none, type := 84, pos := "predict.go:14", after := #[], guard := none }) rfl (fun K hK => ?_) AllReadyH.nil
      · refine step_val rfl (v := .map (some (((W.drew.alloc (.cells z0 88)).alloc (.cells R 106))).heap.size)) (w' := (((W.drew.alloc (.cells z0 88)).alloc (.cells R 106)).alloc (.map #[] 0))) (exec_map rfl) ?_
        refine hK.out _ _ (hSx _ (((((Chg.refl W (fun _ => False)).drew).alloc _).alloc _).alloc _)) (fun hS2 => ?_)
        clear hK K
        simp only [Act.put, List.setIfInBounds_toArray, List.set_cons_zero, List.set_cons_succ]
        refine wpAnyH_take (i := 6) (oi := { dst := some 19, op := Op.build 88 #[(0, Operand.tmp 13), (1, Operand.tmp 14), (2, Operand.tmp 18)], type := 88, pos := "predict.go:14", after := #[{ on := 0, ground := Ground.data }, { on := 1, ground := Ground.data }, { on := 5, ground := Ground.data }], guard := none }) (v := .agg (zP sets ways line ((((W.drew.alloc (.cells z0 88)).alloc (.cells R 106))).heap.size) (((W.drew.alloc (.cells z0 88))).heap.size) (1 + len))) rfl (by kernel_rfl) (by kernel_rfl) (by kernel_rfl) (fun _ _ _ h => hPan _ _ _ _ _ h) (Or.inl ⟨by rfl, ?_⟩) (hSx _ (((((Chg.refl W (fun _ => False)).drew).alloc _).alloc _).alloc _)) ?_
        · rintro wx ⟨d0, d1, d2⟩
          exact exec_b88 rfl rfl rfl rfl
        simp only [Act.put, List.setIfInBounds_toArray, List.set_cons_zero, List.set_cons_succ]
        obtain ⟨W4, hst, hmk4⟩ := mk3 W ((((W.drew.alloc (.cells z0 88)).alloc (.cells R 106)).alloc (.map #[] 0))) ((W.drew).heap.size) ((((W.drew.alloc (.cells z0 88)).alloc (.cells R 106))).heap.size) (((W.drew.alloc (.cells z0 88))).heap.size) sets ways line len R hR hlen ((((((Chg.refl W (fun _ => False)).drew).alloc _).alloc _).alloc _)) (al_old _ (al_old _ (heap_alloc_new (W.drew) _))) (LM.made (((W.drew.alloc (.cells z0 88)).alloc (.cells R 106)))) (al_old _ (heap_alloc_new ((W.drew.alloc (.cells z0 88))) _)) (by simp <;> omega) (by simp <;> omega) (by simp <;> omega) (by simp <;> omega) (by simp <;> omega)
        refine wpAnyH_ready (rs := [8]) (by kernel_rfl) (by simp) ?_
        refine AllReadyH.cons (o := { dst := none, op := Op.store 88 (Operand.tmp 6) (Operand.tmp 19), type := 0, pos := "predict.go:14", after := #[{ on := 7, ground := Ground.data }, { on := 6, ground := Ground.data }, { on := 0, ground := Ground.phase }, { on := 1, ground := Ground.phase }, { on := 2, ground := Ground.phase }, { on := 3, ground := Ground.phase }, { on := 4, ground := Ground.phase }, { on := 5, ground := Ground.phase }, { on := 6, ground := Ground.phase }, { on := 7, ground := Ground.phase }], guard := none }) rfl (fun K hK => ?_) AllReadyH.nil
        refine step_skip rfl (exec_st rfl rfl rfl hst) ?_
        refine hK.out _ _ (hSx _ hmk4.chg) (fun hS2 => ?_)
        clear hK K
        refine wpAnyH_done (by kernel_rfl) ?_ _
        exact hQ _ _ _ W4 hmk4
end Go.Proofs.Ytppcfofkneaigaa
