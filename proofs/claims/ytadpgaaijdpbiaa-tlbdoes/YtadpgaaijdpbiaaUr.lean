import Derived.Test.YtadpgaaijdpbiaaIx
import Derived.Deep.RegionHeld3
namespace Go.Proofs.Ytadpgaaijdpbiaa
open Go.ChangeShapes Go.WideShapes Go.ChangeAt Go.RowKit
set_option linter.unusedVariables false

theorem size31 : (Try.prog.info? 31).map (·.size) = some 2 := by kernel_rfl
theorem hmx : Try.prog.follows .mixedOrders = true := by kernel_rfl
theorem exec_slice {ρ : Operand → Value} {o : Oper} {t : TypeId} {x : Operand} {lo hi mx : Option Operand} (ho : o.op = .slice t x lo hi mx) {v : Value} {w : World} (h : (Instr.sliceAt t (ρ x) (lo.map ρ) (hi.map ρ) (mx.map ρ)).run Try.prog w = .ok v w) : (execOp ρ o).run Try.prog w = .ok (.value v) w := by
  simp [execOp, ho, h, Result.andThen]
theorem sliceAt83 (x : Value) (lo hi mx : Option Value) (w : World) : (Instr.sliceAt 83 x lo hi mx).run Try.prog w = (Instr.slice 83 x lo hi mx).run Try.prog w := by
  simp [Instr.sliceAt, run_underlying Try.underlying83]
theorem e31 (w : World) : (sizeOf 31).run Try.prog w = .ok 2 w := by
  have := size31
  cases hi : Try.prog.info? 31 with
  | none => rw [hi] at this; cases this
  | some i => rw [hi] at this; simp at this; simp [sizeOf, typeInfo, hi, this]
/-- 's[d:]'. -/
theorem sub83 (g len cap d : Nat) (h : d ≤ len) : ∃ ad : Addr, (d < cap → ad = ⟨g, d * 2, none⟩) ∧ ∀ w, (Instr.slice 83 (.slice (some ⟨g, 0, none⟩) len cap) (some (.int .i64 d)) none none).run Try.prog w = .ok (.slice (some ad) (len - d) (cap - d)) w := by
  by_cases hc : cap = d
  · refine ⟨⟨g, 0, none⟩, fun hd => by omega, fun w => ?_⟩
    simp [Instr.slice, run_underlying Try.underlying83, Instr.sliceBounds, Instr.sliceBound, asIntOf, hc, h, e31 w, Addr.add_lit]
  · refine ⟨⟨g, d * 2, none⟩, fun _ => rfl, fun w => ?_⟩
    simp [Instr.slice, run_underlying Try.underlying83, Instr.sliceBounds, Instr.sliceBound, asIntOf, hc, h, e31 w, Addr.add_lit]
/-- 's[:h]'. -/
theorem subh83 (a : Option Addr) (len cap h : Nat) (hc : h ≤ cap) (w : World) : (Instr.slice 83 (.slice a len cap) none (some (.int .i64 h)) none).run Try.prog w = .ok (.slice a h cap) w := by
  have e : Option.map (fun x => Addr.add x 0) a = a := by cases a <;> simp [Addr.add]
  simp [Instr.slice, run_underlying Try.underlying83, Instr.sliceBounds, Instr.sliceBound, asIntOf, hc, e, e31 w]
theorem step_append_run {P : Program} {o : Oper} {a : Act} {w : World} {K : Act → World → Prop} {Q : Exit → Act → World → Prop} (s x : Operand) (t u : TypeId)
    (ho : o.op = .call { callee := .builtin .append, args := #[s, x], argTypes := #[t, u] }) (v y v' : Value) (w' : World)
    (hs : a.eval s = v) (hx : a.eval x = y) (hrun : (Builtin.append_ #[t, u] o.type #[v, y]).run P w = .ok v' w')
    (hK : K (a.put o.dst v') w') : Oper.wp P o a w K Q := by
  unfold Oper.wp
  simp [execOp, ho, resolve, invoke, builtin, hs, hx, hrun, Result.andThen]
  exact hK
theorem step_copy_run {P : Program} {o : Oper} {a : Act} {w : World} {K : Act → World → Prop} {Q : Exit → Act → World → Prop} (s x : Operand) (t u : TypeId)
    (ho : o.op = .call { callee := .builtin .copy, args := #[s, x], argTypes := #[t, u] }) (v y v' : Value) (w' : World)
    (hs : a.eval s = v) (hx : a.eval x = y) (hrun : (Builtin.copy_ #[t, u] o.type #[v, y]).run P w = .ok v' w')
    (hK : K (a.put o.dst v') w') : Oper.wp P o a w K Q := by
  unfold Oper.wp
  simp [execOp, ho, resolve, invoke, builtin, hs, hx, hrun, Result.andThen]
  exact hK

/-- 'copy(s[1:], s[:k])'. -/
theorem copy_ord (W : World) (g cap m k : Nat) (cur : Array Value) (ad : Addr) (hg : W.heap[g]? = some (.cells cur 31 (0, 0))) (hs : cur.size = cap * 2) (hm : m ≤ cap) (hk : k + 1 ≤ m) (had : 1 < cap → ad = ⟨g, 1 * 2, none⟩) (h1 : ∀ u ∈ cur.toList.take (k * 2), u.oneCell' = true) :
    ∃ W', (∀ ty, (Builtin.copy_ #[83, 83] ty #[.slice (some ad) (m - 1) (cap - 1), .slice (some ⟨g, 0, none⟩) k cap]).run Try.prog W = .ok (.int .i64 ((k : Nat) : Int)) W') ∧ W'.heap[g]? = some (.cells (cur.toList.take 2 ++ cur.toList.take (k * 2) ++ cur.toList.drop (2 + k * 2)).toArray 31 (0, 0)) ∧ Chg W W' (fun i => i = g) := by
  have hl : (cur.toList.take (k * 2)).length = k * 2 := by simp; omega
  have hf := run_firstCells_some (P := Try.prog) W 2 k ⟨g, 0, none⟩ k cap (cur.toList.take (k * 2)) hl (fun j v hv => by
    have hj : j < k * 2 := by have := (List.getElem?_eq_some_iff.1 hv).1; omega
    rw [Addr.add_lit, (cells_at hg _).1, Nat.zero_add, ← Array.getElem?_toList, ← hv, List.getElem?_take_of_lt hj])
  by_cases hc : 1 < cap
  · rw [had hc]
    have hst := run_storeCells_at Try.prog g 2 31 (cur.toList.take (k * 2)) 0 cur W hg (by omega) h1
    simp only [Nat.add_zero, hl] at hst
    refine ⟨_, fun ty => ?_, setRow_heap W g cur _ 31 _ hg, ⟨rfl, rfl, rfl, by simp, fun i hi hn => by rw [setRow_other _ _ _ _ hn]⟩⟩
    have hmin : Nat.min k (m - 1) = k := Nat.min_eq_left (by omega)
    simp [Builtin.copy_, run_underlying Try.underlying83, Builtin.lenOf, e31 W, hmin, hf, hst, goInt]
  · have hk0 : k = 0 := by omega
    subst hk0
    refine ⟨W, fun ty => ?_, ?_, Chg.refl _ _⟩
    · simp at hf
      simp [Builtin.copy_, run_underlying Try.underlying83, Builtin.lenOf, e31 W, hf, goInt, storeCells]
    · simpa using hg
/-- What stands in the row behind it. -/
theorem stored_ord (W : World) (g : Nat) (cur : Array Value) (hg : W.heap[g]? = some (.cells cur 31 (0, 0))) (a b : Int) (h2 : 2 ≤ cur.size) :
    ((W.setCell ⟨g, 0, none⟩ (.int .i64 a)).setCell ⟨g, 1, none⟩ (.int .u32 b)).heap[g]? = some (.cells ((cur.setIfInBounds 0 (.int .i64 a)).setIfInBounds 1 (.int .u32 b)) 31 (0, 0)) ∧ Chg W ((W.setCell ⟨g, 0, none⟩ (.int .i64 a)).setCell ⟨g, 1, none⟩ (.int .u32 b)) (fun i => i = g) ∧
      (∃ z, W.cell? ⟨g, 0, none⟩ = some z) ∧ (∃ z, W.cell? ⟨g, 1, none⟩ = some z) ∧ W.frozen? ⟨g, 0, none⟩ = false ∧ W.frozen? ⟨g, 1, none⟩ = false := by
  have h1 := heap_setCell_same W g 0 cur 31 (.int .i64 a) hg
  have h3 := heap_setCell_same _ g 1 _ 31 (.int .u32 b) h1
  refine ⟨h3, Chg.setCell (S := fun i => i = g) (Chg.setCell (S := fun i => i = g) (Chg.refl W _) (.inl rfl) _) (.inl rfl) _, ⟨cur[0]'(by omega), ?_⟩, ⟨cur[1]'(by omega), ?_⟩, (cells_at hg _).2, (cells_at hg _).2⟩
  · rw [(cells_at hg _).1]; exact Array.getElem?_eq_getElem _
  · rw [(cells_at hg _).1]; exact Array.getElem?_eq_getElem _
theorem ord_used (cur : Array Value) (m k : Nat) (l1 : List Tg) (t : Tg) (hl : l1.length = m) (hk : k + 1 ≤ m) (hs : m * 2 ≤ cur.size) (ht : cur.toList.take (m * 2) = tcs l1) :
    ((((cur.toList.take 2 ++ cur.toList.take (k * 2) ++ cur.toList.drop (2 + k * 2)).toArray).setIfInBounds 0 (.int .i64 t.1)).setIfInBounds 1 (.int .u32 ((t.2 : Nat) : Int))).toList.take (m * 2) = tcs (t :: (l1.take k ++ l1.drop (k + 1))) := by
  obtain ⟨x, y, hxy⟩ : ∃ x y, cur.toList.take 2 = [x, y] := two_of _ (by simp; omega)
  have e1 : ((((cur.toList.take 2 ++ cur.toList.take (k * 2) ++ cur.toList.drop (2 + k * 2)).toArray).setIfInBounds 0 (.int .i64 t.1)).setIfInBounds 1 (.int .u32 ((t.2 : Nat) : Int))).toList = .int .i64 t.1 :: .int .u32 ((t.2 : Nat) : Int) :: (cur.toList.take (k * 2) ++ cur.toList.drop (2 + k * 2)) := by
    rw [hxy]; simp
  rw [e1, tcs, tcs_app, tcs_take, tcs_drop, ← ht]
  obtain ⟨j, hj⟩ : ∃ j, m * 2 = j + 1 + 1 := ⟨m * 2 - 2, by omega⟩
  rw [hj, List.take_succ_cons, List.take_succ_cons]
  congr 2
  have hlen : (cur.toList.take (k * 2)).length = k * 2 := by simp; omega
  rw [List.take_append, hlen, List.take_of_length_le (l := cur.toList.take (k * 2)) (by omega), List.take_take, Nat.min_eq_left (by omega)]
  congr 1
  rw [List.drop_take]
  have e2 : 2 + k * 2 = (k + 1) * 2 := by omega
  have e3 : j - k * 2 = j + 1 + 1 - (k + 1) * 2 := by omega
  rw [e2, e3]

/-- What 'use' goes on finding. -/
def Sb (B b3 : Nat) (t : Tg) (v : Value) (wx : World) : Prop := wx.cell? ⟨B, 2, none⟩ = some v ∧ wx.cell? ⟨b3, 0, none⟩ = some (.int .i64 t.1) ∧ wx.cell? ⟨b3, 1, none⟩ = some (.int .u32 ((t.2 : Nat) : Int))

theorem mv_found {t : Tg} {l : List Tg} {k : Nat} (hk : k = l.idxOf t) (hm : t ∈ l) : mv t l = t :: (l.take k ++ l.drop (k + 1)) := by
  unfold mv
  rw [List.erase_eq_eraseIdx_of_idxOf hk.symm, List.eraseIdx_eq_take_drop_succ]
theorem mv_new {t : Tg} {l : List Tg} (hm : t ∉ l) : mv t l = t :: ((l ++ [t]).take l.length ++ (l ++ [t]).drop (l.length + 1)) := by
  unfold mv
  rw [List.erase_of_not_mem hm]
  simp

def ops31_5 : Array Oper := #[
  { dst := some 24, op := Op.move (Operand.tmp 0), type := 97, pos := "order.go:19", after := #[], guard := none },
  { dst := some 25, op := Op.nilCheck (Operand.tmp 24), type := 0, pos := "order.go:19", after := #[{ on := 0, ground := Ground.data }], guard := none },
  { dst := some 26, op := Op.load 83 (Operand.tmp 25), type := 83, pos := "order.go:19", after := #[{ on := 1, ground := Ground.data }], guard := none },
  { dst := some 27, op := Op.slice 83 (Operand.tmp 26) (some (Operand.const (Value.int IntKind.i64 1))) none none, type := 83, pos := "order.go:19", after := #[{ on := 2, ground := Ground.data }], guard := none },
  { dst := some 28, op := Op.move (Operand.tmp 0), type := 97, pos := "order.go:19", after := #[], guard := none },
  { dst := some 29, op := Op.nilCheck (Operand.tmp 28), type := 0, pos := "order.go:19", after := #[{ on := 4, ground := Ground.data }], guard := none },
  { dst := some 30, op := Op.load 83 (Operand.tmp 29), type := 83, pos := "order.go:19", after := #[{ on := 5, ground := Ground.data }], guard := none },
  { dst := some 31, op := Op.move (Operand.tmp 4), type := 3, pos := "order.go:19", after := #[], guard := none },
  { dst := some 32, op := Op.slice 83 (Operand.tmp 30) none (some (Operand.tmp 31)) none, type := 83, pos := "order.go:19", after := #[{ on := 6, ground := Ground.data }, { on := 7, ground := Ground.data }], guard := none },
  { dst := some 33, op := Op.call { callee := Callee.builtin Builtin.copy, args := #[Operand.tmp 27, Operand.tmp 32], argTypes := #[83, 83] }, type := 3, pos := "order.go:19", after := #[{ on := 3, ground := Ground.data }, { on := 8, ground := Ground.data }], guard := none }]

set_option maxHeartbeats 4000000 in
set_option maxRecDepth 100000 in
theorem reg31_5 (W W5 : World) (B b3 g m cap k : Nat) (t : Tg) (ad : Addr) (hkc : k ≤ cap) (hsl : ∀ w, (Instr.slice 83 (.slice (some ⟨g, 0, none⟩) m cap) (some (.int .i64 ((1 : Nat) : Int))) none none).run Try.prog w = .ok (.slice (some ad) (m - 1) (cap - 1)) w) (hcp : (Builtin.copy_ #[83, 83] 3 #[.slice (some ad) (m - 1) (cap - 1), .slice (some ⟨g, 0, none⟩) k cap]).run Try.prog W.drew = .ok (.int .i64 ((k : Nat) : Int)) W5) (hS4 : Sb B b3 t (.slice (some ⟨g, 0, none⟩) m cap) W.drew) (hS5 : Sb B b3 t (.slice (some ⟨g, 0, none⟩) m cap) W5) (Q : Exit → Act → World → Prop) (hPan : ∀ c (a : Act) w (d : Option Tmp) v, Q (.panic c) (a.put d v) w → Q (.panic c) a w)
    (u1 u2 u5 u6 u7 u8 u9 u10 u11 u12 u13 u14 u15 u16 u17 u18 u19 u20 u21 u22 u23 u24 u25 u26 u27 u28 u29 u30 u31 u32 u33 u34 u35 u36 u37 u38 : Value)
    (hQ : Q .normal ⟨#[.pointer (some ⟨B, 2, none⟩), u1, u2, .pointer (some ⟨b3, 0, none⟩), .int .i64 ((k : Nat) : Int), u5, u6, u7, u8, u9, u10, u11, u12, u13, u14, u15, u16, u17, u18, u19, u20, u21, u22, u23, .pointer (some ⟨B, 2, none⟩), .pointer (some ⟨B, 2, none⟩), .slice (some ⟨g, 0, none⟩) m cap, .slice (some ad) (m - 1) (cap - 1), .pointer (some ⟨B, 2, none⟩), .pointer (some ⟨B, 2, none⟩), .slice (some ⟨g, 0, none⟩) m cap, .int .i64 ((k : Nat) : Int), .slice (some ⟨g, 0, none⟩) k cap, .int .i64 ((k : Nat) : Int), u34, u35, u36, u37, u38], []⟩ W5) :
    Code.wp Try.prog (Code.region 5 ops31_5 true) Q ⟨#[.pointer (some ⟨B, 2, none⟩), u1, u2, .pointer (some ⟨b3, 0, none⟩), .int .i64 ((k : Nat) : Int), u5, u6, u7, u8, u9, u10, u11, u12, u13, u14, u15, u16, u17, u18, u19, u20, u21, u22, u23, u24, u25, u26, u27, u28, u29, u30, u31, u32, u33, u34, u35, u36, u37, u38], []⟩ W := by
  refine wp_region_held_drew (S := Sb B b3 t (.slice (some ⟨g, 0, none⟩) m cap)) hmx hS4 (fun hS => ?_)
  refine wpAnyH_take (i := 0) (oi := { dst := some 24, op := Op.move (Operand.tmp 0), type := 97, pos := "order.go:19", after := #[], guard := none }) (v := .pointer (some ⟨B, 2, none⟩)) rfl (by kernel_rfl) (by kernel_rfl) (by kernel_rfl) (fun _ _ _ h => hPan _ _ _ _ _ h) (Or.inl ⟨by rfl, ?_⟩) hS ?_
  · rintro wx ⟨d0, d1, d2⟩
    go_simp
  simp only [Act.put, List.setIfInBounds_toArray, List.set_cons_zero, List.set_cons_succ]
  refine wpAnyH_take (i := 1) (oi := { dst := some 25, op := Op.nilCheck (Operand.tmp 24), type := 0, pos := "order.go:19", after := #[{ on := 0, ground := Ground.data }], guard := none }) (v := .pointer (some ⟨B, 2, none⟩)) rfl (by kernel_rfl) (by kernel_rfl) (by kernel_rfl) (fun _ _ _ h => hPan _ _ _ _ _ h) (Or.inl ⟨by rfl, ?_⟩) hS ?_
  · rintro wx ⟨d0, d1, d2⟩
    go_simp
  simp only [Act.put, List.setIfInBounds_toArray, List.set_cons_zero, List.set_cons_succ]
  refine wpAnyH_take (i := 2) (oi := { dst := some 26, op := Op.load 83 (Operand.tmp 25), type := 83, pos := "order.go:19", after := #[{ on := 1, ground := Ground.data }], guard := none }) (v := .slice (some ⟨g, 0, none⟩) m cap) rfl (by kernel_rfl) (by kernel_rfl) (by kernel_rfl) (fun _ _ _ h => hPan _ _ _ _ _ h) (Or.inl ⟨by rfl, ?_⟩) hS ?_
  · rintro wx ⟨d0, d1, d2⟩
    go_simp
  simp only [Act.put, List.setIfInBounds_toArray, List.set_cons_zero, List.set_cons_succ]
  refine wpAnyH_take (i := 3) (oi := { dst := some 27, op := Op.slice 83 (Operand.tmp 26) (some (Operand.const (Value.int IntKind.i64 1))) none none, type := 83, pos := "order.go:19", after := #[{ on := 2, ground := Ground.data }], guard := none }) (v := .slice (some ad) (m - 1) (cap - 1)) rfl (by kernel_rfl) (by kernel_rfl) (by kernel_rfl) (fun _ _ _ h => hPan _ _ _ _ _ h) (Or.inl ⟨by rfl, ?_⟩) hS ?_
  · rintro wx ⟨d0, d1, d2⟩
    refine exec_slice rfl ?_
    show (Instr.sliceAt 83 (.slice (some ⟨g, 0, none⟩) m cap) (some (.int .i64 ((1 : Nat) : Int))) none none).run Try.prog wx = _
    exact (sliceAt83 _ _ _ _ _).trans (hsl wx)
  simp only [Act.put, List.setIfInBounds_toArray, List.set_cons_zero, List.set_cons_succ]
  refine wpAnyH_take (i := 4) (oi := { dst := some 28, op := Op.move (Operand.tmp 0), type := 97, pos := "order.go:19", after := #[], guard := none }) (v := .pointer (some ⟨B, 2, none⟩)) rfl (by kernel_rfl) (by kernel_rfl) (by kernel_rfl) (fun _ _ _ h => hPan _ _ _ _ _ h) (Or.inl ⟨by rfl, ?_⟩) hS ?_
  · rintro wx ⟨d0, d1, d2⟩
    go_simp
  simp only [Act.put, List.setIfInBounds_toArray, List.set_cons_zero, List.set_cons_succ]
  refine wpAnyH_take (i := 5) (oi := { dst := some 29, op := Op.nilCheck (Operand.tmp 28), type := 0, pos := "order.go:19", after := #[{ on := 4, ground := Ground.data }], guard := none }) (v := .pointer (some ⟨B, 2, none⟩)) rfl (by kernel_rfl) (by kernel_rfl) (by kernel_rfl) (fun _ _ _ h => hPan _ _ _ _ _ h) (Or.inl ⟨by rfl, ?_⟩) hS ?_
  · rintro wx ⟨d0, d1, d2⟩
    go_simp
  simp only [Act.put, List.setIfInBounds_toArray, List.set_cons_zero, List.set_cons_succ]
  refine wpAnyH_take (i := 6) (oi := { dst := some 30, op := Op.load 83 (Operand.tmp 29), type := 83, pos := "order.go:19", after := #[{ on := 5, ground := Ground.data }], guard := none }) (v := .slice (some ⟨g, 0, none⟩) m cap) rfl (by kernel_rfl) (by kernel_rfl) (by kernel_rfl) (fun _ _ _ h => hPan _ _ _ _ _ h) (Or.inl ⟨by rfl, ?_⟩) hS ?_
  · rintro wx ⟨d0, d1, d2⟩
    go_simp
  simp only [Act.put, List.setIfInBounds_toArray, List.set_cons_zero, List.set_cons_succ]
  refine wpAnyH_take (i := 7) (oi := { dst := some 31, op := Op.move (Operand.tmp 4), type := 3, pos := "order.go:19", after := #[], guard := none }) (v := .int .i64 ((k : Nat) : Int)) rfl (by kernel_rfl) (by kernel_rfl) (by kernel_rfl) (fun _ _ _ h => hPan _ _ _ _ _ h) (Or.inl ⟨by rfl, ?_⟩) hS ?_
  · rintro wx ⟨d0, d1, d2⟩
    go_simp
  simp only [Act.put, List.setIfInBounds_toArray, List.set_cons_zero, List.set_cons_succ]
  refine wpAnyH_take (i := 8) (oi := { dst := some 32, op := Op.slice 83 (Operand.tmp 30) none (some (Operand.tmp 31)) none, type := 83, pos := "order.go:19", after := #[{ on := 6, ground := Ground.data }, { on := 7, ground := Ground.data }], guard := none }) (v := .slice (some ⟨g, 0, none⟩) k cap) rfl (by kernel_rfl) (by kernel_rfl) (by kernel_rfl) (fun _ _ _ h => hPan _ _ _ _ _ h) (Or.inl ⟨by rfl, ?_⟩) hS ?_
  · rintro wx ⟨d0, d1, d2⟩
    refine exec_slice rfl ?_
    show (Instr.sliceAt 83 (.slice (some ⟨g, 0, none⟩) m cap) none (some (.int .i64 ((k : Nat) : Int))) none).run Try.prog wx = _
    exact (sliceAt83 _ _ _ _ _).trans (subh83 _ m cap k hkc wx)
  simp only [Act.put, List.setIfInBounds_toArray, List.set_cons_zero, List.set_cons_succ]
  refine wpAnyH_ready (rs := [9]) (by kernel_rfl) (by simp) ?_
  refine AllReadyH.cons (o := { dst := some 33, op := Op.call { callee := Callee.builtin Builtin.copy, args := #[Operand.tmp 27, Operand.tmp 32], argTypes := #[83, 83] }, type := 3, pos := "order.go:19", after := #[{ on := 3, ground := Ground.data }, { on := 8, ground := Ground.data }], guard := none }) rfl (fun K hK => ?_) AllReadyH.nil
  rw [if_pos (by rfl)]
  refine step_copy_run (.tmp 27) (.tmp 32) 83 83 rfl _ _ _ W5 rfl rfl hcp ?_
  refine hK.out _ _ hS5 (fun hS2 => ?_)
  clear hK K
  simp only [Act.put, List.setIfInBounds_toArray, List.set_cons_zero, List.set_cons_succ]
  refine wpAnyH_done (by kernel_rfl) ?_ _
  exact hQ

def ops31_6 : Array Oper := #[
  { dst := some 34, op := Op.move (Operand.tmp 0), type := 97, pos := "order.go:20", after := #[], guard := none },
  { dst := some 35, op := Op.nilCheck (Operand.tmp 34), type := 0, pos := "order.go:20", after := #[{ on := 0, ground := Ground.data }], guard := none },
  { dst := some 36, op := Op.load 83 (Operand.tmp 35), type := 83, pos := "order.go:20", after := #[{ on := 1, ground := Ground.data }], guard := none },
  { dst := some 37, op := Op.load 31 (Operand.tmp 3), type := 31, pos := "order.go:20", after := #[], guard := none },
  { dst := some 38, op := Op.indexAddr 83 (Operand.tmp 36) (Operand.const (Value.int IntKind.i64 0)), type := 0, pos := "order.go:20", after := #[{ on := 2, ground := Ground.data }, { on := 0, ground := Ground.phase }, { on := 1, ground := Ground.phase }, { on := 2, ground := Ground.phase }, { on := 3, ground := Ground.phase }], guard := none },
  { dst := none, op := Op.store 31 (Operand.tmp 38) (Operand.tmp 37), type := 0, pos := "order.go:20", after := #[{ on := 4, ground := Ground.data }, { on := 3, ground := Ground.data }, { on := 0, ground := Ground.phase }, { on := 1, ground := Ground.phase }, { on := 2, ground := Ground.phase }, { on := 3, ground := Ground.phase }], guard := none }]

set_option maxHeartbeats 4000000 in
set_option maxRecDepth 100000 in
theorem reg31_6 (W : World) (B b3 g m cap : Nat) (t : Tg) (hm : 0 < m) (hz0 : ∃ z, W.cell? ⟨g, 0, none⟩ = some z) (hz1 : ∃ z, W.cell? ⟨g, 1, none⟩ = some z) (hf0 : W.frozen? ⟨g, 0, none⟩ = false) (hf1 : W.frozen? ⟨g, 1, none⟩ = false) (hS4 : Sb B b3 t (.slice (some ⟨g, 0, none⟩) m cap) W.drew) (hS5 : Sb B b3 t (.slice (some ⟨g, 0, none⟩) m cap) ((W.drew.setCell ⟨g, 0, none⟩ (.int .i64 t.1)).setCell ⟨g, 1, none⟩ (.int .u32 ((t.2 : Nat) : Int)))) (Q : Exit → Act → World → Prop) (hPan : ∀ c (a : Act) w (d : Option Tmp) v, Q (.panic c) (a.put d v) w → Q (.panic c) a w)
    (u1 u2 u4 u5 u6 u7 u8 u9 u10 u11 u12 u13 u14 u15 u16 u17 u18 u19 u20 u21 u22 u23 u24 u25 u26 u27 u28 u29 u30 u31 u32 u33 u34 u35 u36 u37 u38 : Value)
    (hQ : Q .normal ⟨#[.pointer (some ⟨B, 2, none⟩), u1, u2, .pointer (some ⟨b3, 0, none⟩), u4, u5, u6, u7, u8, u9, u10, u11, u12, u13, u14, u15, u16, u17, u18, u19, u20, u21, u22, u23, u24, u25, u26, u27, u28, u29, u30, u31, u32, u33, .pointer (some ⟨B, 2, none⟩), .pointer (some ⟨B, 2, none⟩), .slice (some ⟨g, 0, none⟩) m cap, .agg #[.int .i64 t.1, .int .u32 ((t.2 : Nat) : Int)], .pointer (some ⟨g, 0, none⟩)], []⟩ ((W.drew.setCell ⟨g, 0, none⟩ (.int .i64 t.1)).setCell ⟨g, 1, none⟩ (.int .u32 ((t.2 : Nat) : Int)))) :
    Code.wp Try.prog (Code.region 6 ops31_6 true) Q ⟨#[.pointer (some ⟨B, 2, none⟩), u1, u2, .pointer (some ⟨b3, 0, none⟩), u4, u5, u6, u7, u8, u9, u10, u11, u12, u13, u14, u15, u16, u17, u18, u19, u20, u21, u22, u23, u24, u25, u26, u27, u28, u29, u30, u31, u32, u33, u34, u35, u36, u37, u38], []⟩ W := by
  obtain ⟨z0, hz0⟩ := hz0
  obtain ⟨z1, hz1⟩ := hz1
  have hm' : (0 : Int) < (m : Int) := by omega
  refine wp_region_held_drew (S := Sb B b3 t (.slice (some ⟨g, 0, none⟩) m cap)) hmx hS4 (fun hS => ?_)
  refine wpAnyH_take (i := 0) (oi := { dst := some 34, op := Op.move (Operand.tmp 0), type := 97, pos := "order.go:20", after := #[], guard := none }) (v := .pointer (some ⟨B, 2, none⟩)) rfl (by kernel_rfl) (by kernel_rfl) (by kernel_rfl) (fun _ _ _ h => hPan _ _ _ _ _ h) (Or.inl ⟨by rfl, ?_⟩) hS ?_
  · rintro wx ⟨d0, d1, d2⟩
    go_simp
  simp only [Act.put, List.setIfInBounds_toArray, List.set_cons_zero, List.set_cons_succ]
  refine wpAnyH_take (i := 1) (oi := { dst := some 35, op := Op.nilCheck (Operand.tmp 34), type := 0, pos := "order.go:20", after := #[{ on := 0, ground := Ground.data }], guard := none }) (v := .pointer (some ⟨B, 2, none⟩)) rfl (by kernel_rfl) (by kernel_rfl) (by kernel_rfl) (fun _ _ _ h => hPan _ _ _ _ _ h) (Or.inl ⟨by rfl, ?_⟩) hS ?_
  · rintro wx ⟨d0, d1, d2⟩
    go_simp
  simp only [Act.put, List.setIfInBounds_toArray, List.set_cons_zero, List.set_cons_succ]
  refine wpAnyH_take (i := 2) (oi := { dst := some 36, op := Op.load 83 (Operand.tmp 35), type := 83, pos := "order.go:20", after := #[{ on := 1, ground := Ground.data }], guard := none }) (v := .slice (some ⟨g, 0, none⟩) m cap) rfl (by kernel_rfl) (by kernel_rfl) (by kernel_rfl) (fun _ _ _ h => hPan _ _ _ _ _ h) (Or.inl ⟨by rfl, ?_⟩) hS ?_
  · rintro wx ⟨d0, d1, d2⟩
    go_simp
  simp only [Act.put, List.setIfInBounds_toArray, List.set_cons_zero, List.set_cons_succ]
  refine wpAnyH_take (i := 3) (oi := { dst := some 37, op := Op.load 31 (Operand.tmp 3), type := 31, pos := "order.go:20", after := #[], guard := none }) (v := .agg #[.int .i64 t.1, .int .u32 ((t.2 : Nat) : Int)]) rfl (by kernel_rfl) (by kernel_rfl) (by kernel_rfl) (fun _ _ _ h => hPan _ _ _ _ _ h) (Or.inl ⟨by rfl, ?_⟩) hS ?_
  · rintro wx ⟨d0, d1, d2⟩
    go_simp
  simp only [Act.put, List.setIfInBounds_toArray, List.set_cons_zero, List.set_cons_succ]
  refine wpAnyH_take (i := 4) (oi := { dst := some 38, op := Op.indexAddr 83 (Operand.tmp 36) (Operand.const (Value.int IntKind.i64 0)), type := 0, pos := "order.go:20", after := #[{ on := 2, ground := Ground.data }, { on := 0, ground := Ground.phase }, { on := 1, ground := Ground.phase }, { on := 2, ground := Ground.phase }, { on := 3, ground := Ground.phase }], guard := none }) (v := .pointer (some ⟨g, 0, none⟩)) rfl (by kernel_rfl) (by kernel_rfl) (by kernel_rfl) (fun _ _ _ h => hPan _ _ _ _ _ h) (Or.inl ⟨by rfl, ?_⟩) hS ?_
  · rintro wx ⟨d0, d1, d2⟩
    go_simp
  simp only [Act.put, List.setIfInBounds_toArray, List.set_cons_zero, List.set_cons_succ]
  refine wpAnyH_ready (rs := [5]) (by kernel_rfl) (by simp) ?_
  refine AllReadyH.cons (o := { dst := none, op := Op.store 31 (Operand.tmp 38) (Operand.tmp 37), type := 0, pos := "order.go:20", after := #[{ on := 4, ground := Ground.data }, { on := 3, ground := Ground.data }, { on := 0, ground := Ground.phase }, { on := 1, ground := Ground.phase }, { on := 2, ground := Ground.phase }, { on := 3, ground := Ground.phase }], guard := none }) rfl (fun K hK => ?_) AllReadyH.nil
  rw [if_pos (by rfl)]
  go_simp
  refine hK.out _ _ hS5 (fun hS2 => ?_)
  clear hK K
  refine wpAnyH_done (by kernel_rfl) ?_ _
  exact hQ
end Go.Proofs.Ytadpgaaijdpbiaa
