import Derived.Test.YtghiffpolacmiabGreatDoorTg
import Derived.Laws.StructEq
import Derived.Deep.MidRow
import Derived.Deep.RegionHeld3
import Derived.Deep.Cut
namespace Go.Proofs.YtghiffpolacmiabGreatDoor
open Go.ChangeShapes Go.WideShapes Go.ChangeAt Go.RowKit
set_option linter.unusedVariables false

theorem Kp.refl (w : World) : Kp w w := Chg.refl w _
theorem Kp.any {w w' : World} {S : Nat → Prop} (h : Kp w w') : Chg w w' S := Chg.mono h (fun _ _ x => x.elim)
theorem hp_lt {w : World} {k : Nat} {o : Obj} (h : w.heap[k]? = some o) : k < w.heap.size := (Array.getElem?_eq_some_iff.1 h).1
theorem Gt.chg {w w' : World} {S : Nat → Prop} (h : Gt w) (k : Chg w w' S) (h0 : ¬ S 0) (h1 : ¬ S 1) : Gt w' := by
  have c : ∀ b o v, ¬ S b → w.cell? ⟨b, o, none⟩ = some v → w'.cell? ⟨b, o, none⟩ = some v := fun b o v hb hc => by
    have hl : b < w.heap.size := by
      rcases Nat.lt_or_ge b w.heap.size with h | h
      · exact h
      · exfalso
        have : w.heap[b]? = none := Array.getElem?_eq_none h
        simp [World.cell?, this] at hc
    rw [Chg.cell k hl hb]
    exact hc
  exact ⟨fun i hi => ⟨c _ _ _ h1 (h.ops i hi).1, c _ _ _ h1 (h.ops i hi).2.1, c _ _ _ h1 (h.ops i hi).2.2⟩,
    fun i hi => ⟨c _ _ _ h0 (h.lay i hi).1, c _ _ _ h0 (h.lay i hi).2.1, c _ _ _ h0 (h.lay i hi).2.2.1, c _ _ _ h0 (h.lay i hi).2.2.2⟩⟩
/-- The walk at a build, told by its run. -/
theorem wpList_build_run {P : Program} {w : World} {ops : Array Oper} {rest : List Oper} {o : Oper} {a : Act} {Q : Exit → Act → World → Prop} (hgd : o.guard = none) (t : TypeId) (parts : Array (Nat × Operand)) (ho : o.op = .build t parts) (vs : Array (Nat × Value)) (hvs : (parts.map fun (i, x) => (i, a.eval x)) = vs) (v : Value) (hrun : (Instr.build t vs).run P w = .ok v w)
    (h : wpList P ops Q rest (a.put o.dst v) w) : wpList P ops Q (o :: rest) a w := by
  subst hvs
  refine wpList_plain hgd fun K hK => ?_
  unfold Oper.wp
  simp only [execOp, ho]
  simp [hrun, Result.andThen]
  exact hK _ _ h
/-- The walk at a box of a great value. -/
theorem wpList_box_run {P : Program} {w : World} {ops : Array Oper} {rest : List Oper} {o : Oper} {a : Act} {Q : Exit → Act → World → Prop} (hgd : o.guard = none) (t : TypeId) (x : Operand) (ho : o.op = .box t x) (Z : Array Value) (hx : a.eval x = .agg Z)
    (h : wpList P ops Q rest (a.put o.dst (.pointer (some ⟨w.heap.size, 0, none⟩))) (w.alloc (.cells Z t))) : wpList P ops Q (o :: rest) a w := by
  refine wpList_plain hgd fun K hK => ?_
  unfold Oper.wp
  simp [execOp, ho, Instr.box, hx, newVar, newRow, Value.cells, Result.andThen]
  exact hK _ _ h
theorem wpList_alloc_zero {P : Program} (w : World) {ops : Array Oper} {rest : List Oper} {o : Oper} {a : Act} {Q : Exit → Act → World → Prop} (hgd : o.guard = none) (t : TypeId) (z : Array Value)
    (ho : o.op = .alloc t) (hz : (zeroValue t).run P w = .ok (.agg z) w)
    (h : wpList P ops Q rest (a.put o.dst (.pointer (some ⟨w.heap.size, 0, none⟩))) (w.alloc (.cells z t))) : wpList P ops Q (o :: rest) a w := by
  refine wpList_plain hgd fun K hK => ?_
  unfold Oper.wp
  simp [execOp, ho, Instr.alloc, hz, newVar, newRow, Value.cells, Result.andThen]
  exact hK _ _ h
section
variable {P : Program}
theorem run_storeVar_row (w : World) (b o : Nat) (ty : TypeId) (cells : Array Value) (cur : Array Value) (T : TypeId) (hb : w.heap[b]? = some (.cells cur T (0, 0))) (hl : o + cells.size ≤ cur.size) (hi : (P.info? ty).map (·.size) = some cells.size) (h1 : ∀ v ∈ cells.toList, v.oneCell' = true) :
    (storeVar ty ⟨b, o, none⟩ (.agg cells)).run P w = .ok () (w.setRow b (cur.toList.take o ++ cells.toList ++ cur.toList.drop (o + cells.size)).toArray) := by
  have := run_storeCells_at P b o T cells.toList 0 cur w hb (by simpa using hl) h1
  cases hq : P.info? ty with
  | none => simp [hq] at hi
  | some i =>
    have hs : cells.size = i.size := by simp [hq] at hi; omega
    simp only [Nat.add_zero, Array.length_toList] at this
    simp [storeVar, sizeOf, typeInfo, hq, Value.cells, hs] at this ⊢
    simp [this]
theorem wpList_store_row {ops : Array Oper} {rest : List Oper} {op : Oper} {a : Act} {w : World} {Q : Exit → Act → World → Prop} (hgd : op.guard = none) (ty : TypeId) (x y : Operand) (ho : op.op = .store ty x y)
    (b o : Nat) (cells : Array Value) (hx : a.eval x = .pointer (some ⟨b, o, none⟩)) (hy : a.eval y = .agg cells) (w' : World)
    (hr : (storeVar ty ⟨b, o, none⟩ (.agg cells)).run P w = .ok () w')
    (h : wpList P ops Q rest (a.put op.dst undef) w') : wpList P ops Q (op :: rest) a w := by
  refine wpList_plain hgd fun K hK => ?_
  unfold Oper.wp execOp
  simp only [ho, hx, hy, Instr.storeAt, Instr.sureAddr, Sem.run_bind, Sem.run_pure, Result.andThen_ok, hr]
  exact hK _ _ h
end
theorem Chg.setRow {a b : World} {S : Nat → Prop} (h : Chg a b S) {g : Nat} (hp : S g ∨ a.heap.size ≤ g) (cs : Array Value) : Chg a (b.setRow g cs) S :=
  h.trans (T := fun k => k = g) ⟨rfl, rfl, rfl, by simp [World.setRow], fun k hk hn => setRow_other b g k cs hn⟩
    (fun i hi x => by subst x; rcases hp with h | h; exact h; omega)

/-! A processor's registers, a step's result, a step under way. -/
structure Rg where
  R : Nat → Int
  pc : Int
  vec : Int
  back : Int
  on : Bool
  hd : Bool
structure Rs where
  kind : Int
  cyc : Int
  num : Int
  flt : Int
  addr : Int
  line : Int
  lod : Bool
  val : Int
  rd : Bool
  clk : Int
structure St where
  g : Rg
  bus : Value
  op : Int
  d : Nat
  a : Nat
  b : Nat
  n : Int
  nx : Int
  r : Rs
def rgc (g : Rg) : List Value := [.int .u32 (g.R 0), .int .u32 (g.R 1), .int .u32 (g.R 2), .int .u32 (g.R 3), .int .u32 (g.R 4), .int .u32 (g.R 5), .int .u32 (g.R 6), .int .u32 (g.R 7), .int .u32 (g.R 8), .int .u32 (g.R 9), .int .u32 (g.R 10), .int .u32 (g.R 11), .int .u32 (g.R 12), .int .u32 (g.R 13), .int .u32 (g.R 14), .int .u32 (g.R 15), .int .u32 g.pc, .int .u32 g.vec, .int .u32 g.back, .bool g.on, .bool g.hd]
def rsc (r : Rs) : List Value := [.int .i64 r.kind, .int .i64 r.cyc, .int .u32 r.num, .int .i64 r.flt, .int .u32 r.addr, .int .i64 r.line, .bool r.lod, .int .u32 r.val, .bool r.rd, .int .u64 r.clk]
def stc (s : St) : List Value := rgc s.g ++ ([s.bus, .int .i64 s.op, .int .u8 (s.d : Nat), .int .u8 (s.a : Nat), .int .u8 (s.b : Nat), .int .i32 s.n, .int .u32 s.nx] ++ rsc s.r)
def IsT (w : World) (B : Nat) (s : St) : Prop := w.heap[B]? = some (.cells (stc s).toArray 54 (0, 0))
def IsRg (w : World) (B : Nat) (g : Rg) : Prop := w.heap[B]? = some (.cells (rgc g).toArray 25 (0, 0))
theorem IsT.cell {w : World} {B : Nat} {s : St} (h : IsT w B s) (i : Nat) (v : Value) (hv : (stc s)[i]? = some v) : w.cell? ⟨B, i, none⟩ = some v := by
  rw [(cells_at h i).1, List.getElem?_toArray, hv]
theorem IsT.fr {w : World} {B : Nat} {s : St} (h : IsT w B s) (i : Nat) : w.frozen? ⟨B, i, none⟩ = false := (cells_at h i).2
theorem IsT.chg {S : Nat → Prop} {w w' : World} {B : Nat} {s : St} (h : IsT w B s) (hc : Chg w w' S) (hn : ¬ S B) : IsT w' B s := hc.heap h hn
theorem IsT.kp {w w' : World} {B : Nat} {s : St} (h : IsT w B s) (hc : Kp w w') : IsT w' B s := hc.heap h
theorem IsT.set {w : World} {B : Nat} {s : St} (h : IsT w B s) (i : Nat) (v : Value) (t : St) (ht : (stc s).set i v = stc t) : IsT (w.setCell ⟨B, i, none⟩ v) B t ∧ Chg w (w.setCell ⟨B, i, none⟩ v) (fun k => k = B) := by
  have := heap_setCell_same w B i _ 54 v h
  refine ⟨?_, Chg.setCell (S := fun k => k = B) (Chg.refl w _) (.inl rfl) v⟩
  unfold IsT
  rw [this, ← ht]
  congr 2
  simp
theorem sixteen {i : Nat} (h : i < 16) : i = 0 ∨ i = 1 ∨ i = 2 ∨ i = 3 ∨ i = 4 ∨ i = 5 ∨ i = 6 ∨ i = 7 ∨ i = 8 ∨ i = 9 ∨ i = 10 ∨ i = 11 ∨ i = 12 ∨ i = 13 ∨ i = 14 ∨ i = 15 := by omega
theorem stc_R (s : St) (i : Nat) (h : i < 16) : (stc s)[i]? = some (.int .u32 (s.g.R i)) := by
  rcases sixteen h with rfl | rfl | rfl | rfl | rfl | rfl | rfl | rfl | rfl | rfl | rfl | rfl | rfl | rfl | rfl | rfl <;> rfl
theorem rgc_R (s : Rg) (i : Nat) (h : i < 16) : (rgc s)[i]? = some (.int .u32 (s.R i)) := by
  rcases sixteen h with rfl | rfl | rfl | rfl | rfl | rfl | rfl | rfl | rfl | rfl | rfl | rfl | rfl | rfl | rfl | rfl <;> rfl
def upR (R : Nat → Int) (i : Nat) (v : Int) : Nat → Int := fun j => if j = i then v else R j
def Rg.put (g : Rg) (i : Nat) (v : Int) : Rg := { g with R := upR g.R i v }
theorem rgc_put (s : Rg) (i : Nat) (h : i < 16) (v : Int) : (rgc s).set i (.int .u32 v) = rgc (s.put i v) := by
  rcases sixteen h with rfl | rfl | rfl | rfl | rfl | rfl | rfl | rfl | rfl | rfl | rfl | rfl | rfl | rfl | rfl | rfl <;> rfl
def St.put (s : St) (i : Nat) (v : Int) : St := { s with g := s.g.put i v }
theorem stc_put (s : St) (i : Nat) (h : i < 16) (v : Int) : (stc s).set i (.int .u32 v) = stc (s.put i v) := by
  rcases sixteen h with rfl | rfl | rfl | rfl | rfl | rfl | rfl | rfl | rfl | rfl | rfl | rfl | rfl | rfl | rfl | rfl <;> rfl
/-- Registers that an instruction has. -/
structure St.ok (s : St) : Prop where
  d : s.d < 16
  a : s.a < 16
  b : s.b < 16
  r : ∀ i, 0 ≤ s.g.R i ∧ s.g.R i < 4294967296
def St.va (s : St) : Int := s.g.R s.a
def St.vb (s : St) : Int := s.g.R s.b
def St.vn (s : St) : Int := IntKind.u32.wrap s.n
def St.oth (s : St) : Int := if fo s.op = 2 then s.vn else s.vb
/-- The register D is written. -/
def St.setD (s : St) (v : Int) : St := if s.d = 0 then s else s.put s.d v

theorem St.ok.ra {s : St} (h : s.ok) : 0 ≤ s.va ∧ s.va < 4294967296 := h.r s.a
theorem St.ok.rb {s : St} (h : s.ok) : 0 ≤ s.vb ∧ s.vb < 4294967296 := h.r s.b
theorem vn_r (s : St) : 0 ≤ s.vn ∧ s.vn < 4294967296 := by
  have : s.vn = s.n % 4294967296 := rfl
  omega
theorem St.ok.ro {s : St} (h : s.ok) : 0 ≤ s.oth ∧ s.oth < 4294967296 := by
  unfold St.oth
  split
  · exact vn_r s
  · exact h.rb
/-- A call that answers nothing, and leaves the step as it says. -/
abbrev Vo (w : World) (B : Nat) (t : St) (e : Ending) (w' : World) : Prop := e = .returned (.tuple #[]) ∧ IsT w' B t ∧ Chg w w' (fun k => k = B)

theorem a_any (w : World) (B : Nat) (s : St) (h : IsT w B s) (ho : s.ok) :
    Calls Tryz.prog 81 #[.pointer (some ⟨B, 0, none⟩)] w fun e w' => e = .returned (.int .u32 s.va) ∧ Kp w w' := by
  have c1 := h.cell 24 (.int .u8 (s.a : Nat)) rfl
  have c2 := h.cell s.a _ (stc_R s s.a ho.a)
  have hb := ho.a
  have e1 : s.va = s.g.R s.a := rfl
  rw [e1]
  clear e1
  generalize s.g.R s.a = v at *
  generalize s.a = i at *
  clear h ho
  go_enter Tryz.func81, Tryz.ntmps81
  go_upto_region 1 with (fail)
  go_quiet (fail)
  go_wp2
  go_ret
  exact ⟨rfl, (Kp.refl w).drewN _⟩
theorem b_any (w : World) (B : Nat) (s : St) (h : IsT w B s) (ho : s.ok) :
    Calls Tryz.prog 83 #[.pointer (some ⟨B, 0, none⟩)] w fun e w' => e = .returned (.int .u32 s.vb) ∧ Kp w w' := by
  have c1 := h.cell 25 (.int .u8 (s.b : Nat)) rfl
  have c2 := h.cell s.b _ (stc_R s s.b ho.b)
  have hb := ho.b
  have e1 : s.vb = s.g.R s.b := rfl
  rw [e1]
  clear e1
  generalize s.g.R s.b = v at *
  generalize s.b = i at *
  clear h ho
  go_enter Tryz.func83, Tryz.ntmps83
  go_upto_region 1 with (fail)
  go_quiet (fail)
  go_wp2
  go_ret
  exact ⟨rfl, (Kp.refl w).drewN _⟩
theorem n_same (w : World) (B : Nat) (s : St) (h : IsT w B s) :
    Calls Tryz.prog 86 #[.pointer (some ⟨B, 0, none⟩)] w fun e w' => e = .returned (.int .u32 s.vn) ∧ w' = w := by
  have c1 := h.cell 26 (.int .i32 s.n) rfl
  have e1 : s.vn = IntKind.u32.wrap s.n := rfl
  rw [e1]
  clear e1 h
  generalize s.n = v at *
  go_enter Tryz.func86, Tryz.ntmps86
  go_wp2
  go_ret
  exact ⟨rfl, rfl⟩
theorem n_any (w : World) (B : Nat) (s : St) (h : IsT w B s) :
    Calls Tryz.prog 86 #[.pointer (some ⟨B, 0, none⟩)] w fun e w' => e = .returned (.int .u32 s.vn) ∧ Kp w w' :=
  (n_same w B s h).mono (by rintro e w' ⟨rfl, rfl⟩; exact ⟨rfl, Kp.refl w'⟩)
theorem other_any (w : World) (hg : Gt w) (B : Nat) (s : St) (h : IsT w B s) (ho : s.ok) :
    Calls Tryz.prog 82 #[.pointer (some ⟨B, 0, none⟩)] w fun e w' => e = .returned (.int .u32 s.oth) ∧ Kp w w' := by
  have c1 := h.cell 22 (.int .i64 s.op) rfl
  have hF := fun w h => Form_any w h s.op
  have hb := fun w h => b_any w B s h ho
  have hn := fun w h => n_any w B s h
  have e1 : s.oth = if fo s.op = 2 then s.vn else s.vb := rfl
  by_cases hf : fo s.op = 2
  · rw [if_pos hf] at e1
    rw [e1]
    rw [hf] at hF
    clear e1 hb hf
    generalize s.vn = v at *
    go_enter Tryz.func82, Tryz.ntmps82
    go_wp2_with (first
      | (go_at_call 103; refine (hF _ hg).mono ?_; rintro e w1 ⟨rfl, k1⟩)
      | (go_at_call 86; refine (hn _ (h.kp k1)).mono ?_; rintro e w2 ⟨rfl, k2⟩))
    go_ret
    exact ⟨rfl, Kp.trans k1 k2⟩
  · rw [if_neg hf] at e1
    rw [e1]
    have hf2 : ((fo s.op : Int) == 2) = false := by simp; omega
    clear e1 hn hf
    generalize (fo s.op : Int) = f at *
    generalize s.vb = v at *
    go_enter Tryz.func82, Tryz.ntmps82
    go_wp2_with (first
      | (go_at_call 103; refine (hF _ hg).mono ?_; rintro e w1 ⟨rfl, k1⟩)
      | (go_at_call 83; refine (hb _ (h.kp k1)).mono ?_; rintro e w2 ⟨rfl, k2⟩))
    go_ret
    exact ⟨rfl, Kp.trans k1 k2⟩
theorem set_any (w : World) (B : Nat) (s : St) (h : IsT w B s) (ho : s.ok) (v : Int) :
    Calls Tryz.prog 80 #[.pointer (some ⟨B, 0, none⟩), .int .u32 v] w fun e w' => Vo w B (s.setD v) e w' := by
  have c1 := h.cell 23 (.int .u8 (s.d : Nat)) rfl
  have hd : IsT w.drew B s := h.kp (Kp.refl w).drew
  have c2 := hd.cell 23 (.int .u8 (s.d : Nat)) rfl
  have hb := ho.d
  have e1 : s.setD v = if s.d = 0 then s else s.put s.d v := rfl
  by_cases h0 : s.d = 0
  · rw [if_pos h0] at e1
    rw [e1]
    rw [h0] at c1
    go_enter Tryz.func80, Tryz.ntmps80
    go_wp2
    go_end0
    exact ⟨rfl, h, Chg.refl _ _⟩
  · rw [if_neg h0] at e1
    rw [e1]
    have HN := hd.set s.d (.int .u32 v) (s.put s.d v) (stc_put s s.d hb v)
    have c3 := hd.cell s.d _ (stc_R s s.d hb)
    have c4 := hd.fr s.d
    have h1 : (((s.d : Nat) : Int) == 0) = false := by simpa using h0
    have HH : Hid (IsT (w.drew.setCell ⟨B, s.d, none⟩ (.int .u32 v)) B (s.put s.d v) ∧ Chg w.drew (w.drew.setCell ⟨B, s.d, none⟩ (.int .u32 v)) (fun k => k = B)) := HN
    clear HN e1 h hd
    generalize s.put s.d v = t at *
    generalize s.g.R s.d = u at *
    generalize s.d = i at *
    clear ho
    go_enter Tryz.func80, Tryz.ntmps80
    go_upto_region 1 with (fail)
    go_region
    all_goals (try go_wp2)
    all_goals go_end0
    all_goals exact ⟨rfl, HH.out.1, Chg.trans ((Chg.refl w (fun k => k = B)).drew) HH.out.2 (fun _ _ e => e)⟩
end Go.Proofs.YtghiffpolacmiabGreatDoor
namespace Go.Proofs.YtghiffpolacmiabGreatDoor
open Go.ChangeShapes Go.WideShapes Go.ChangeAt Go.RowKit
set_option linter.unusedVariables false

theorem lessSigned_any (w : World) (a b : Int) :
    Calls Tryz.prog 85 #[.int .u32 a, .int .u32 b] w fun e w' => e = .returned (.bool (decide (wrap32 a < wrap32 b))) ∧ Kp w w' := by
  go_enter Tryz.func85, Tryz.ntmps85
  go_wp2
  go_ret
  exact ⟨rfl, Kp.refl w⟩
theorem setWhether_any (w : World) (B : Nat) (s : St) (h : IsT w B s) (ho : s.ok) (q : Bool) :
    Calls Tryz.prog 84 #[.pointer (some ⟨B, 0, none⟩), .bool q] w fun e w' => Vo w B (s.setD q.toInt) e w' := by
  have hS := fun w h v => set_any w B s h ho v
  cases q
  all_goals (
    go_enter Tryz.func84, Tryz.ntmps84
    go_wp2_with (go_at_call 80; refine (hS _ h _).mono ?_; rintro e w1 ⟨rfl, i9, c9⟩)
    first | go_end0 | refine bodyPost_ret (results_none rfl _ _ _) rfl ?_
    exact ⟨rfl, i9, c9⟩)
/-- Where a branch goes. -/
def St.tgt (s : St) : Int := (s.g.pc + 4 * s.vn % 4294967296) % 4294967296
theorem target_any (w : World) (B : Nat) (s : St) (h : IsT w B s) :
    Calls Tryz.prog 95 #[.pointer (some ⟨B, 0, none⟩)] w fun e w' => e = .returned (.int .u32 s.tgt) ∧ Kp w w' := by
  have hN := fun n => n_same (w.drewN n) B s (h.kp ((Kp.refl w).drewN n))
  have hN0 := n_same w B s h
  have c1 := h.cell 16 (.int .u32 s.g.pc) rfl
  have e1 : s.tgt = (s.g.pc + 4 * s.vn % 4294967296) % 4294967296 := rfl
  rw [e1]
  clear e1 h
  generalize s.vn = n at *
  generalize s.g.pc = p at *
  go_enter Tryz.func95, Tryz.ntmps95
  go_upto_region 1 with (fail)
  go_quiet (first | (go_at_call 86; exact Calls.quiet_of_same hN0) | (go_at_call 86; exact Calls.quiet_of_same (hN _)))
  go_wp2
  go_ret
  exact ⟨rfl, (Kp.refl w).drewN _⟩
/-- The fields of a step, changed. -/
def St.to (s : St) (n : Int) : St := { s with nx := n }
def St.goIf (s : St) (q : Bool) : St := if q then s.to s.tgt else s
def St.fault (s : St) (f a : Int) : St := { s with nx := s.g.pc, r := { s.r with kind := 3, flt := f, addr := a } }
theorem goIf_any (w : World) (B : Nat) (s : St) (h : IsT w B s) (q : Bool) :
    Calls Tryz.prog 94 #[.pointer (some ⟨B, 0, none⟩), .bool q] w fun e w' => Vo w B (s.goIf q) e w' := by
  have hT := fun w h => target_any w B s h
  cases q
  · go_enter Tryz.func94, Tryz.ntmps94
    go_wp2
    go_end0
    exact ⟨rfl, h, Chg.refl _ _⟩
  · have e1 : s.goIf true = s.to s.tgt := rfl
    rw [e1]
    have hs := fun w (h : IsT w B s) => h.set 27 (.int .u32 s.tgt) (s.to s.tgt) rfl
    clear e1
    generalize s.to s.tgt = t at *
    generalize s.tgt = v at *
    go_enter Tryz.func94, Tryz.ntmps94
    go_wp2_with (go_at_call 95; refine (hT _ h).mono ?_; rintro e w1 ⟨rfl, k1⟩; have c9 := (h.kp k1).cell 27 _ rfl; have f9 := (h.kp k1).fr 27; have HS : Hid (IsT (w1.setCell ⟨B, 27, none⟩ (.int .u32 v)) B t ∧ Chg w1 (w1.setCell ⟨B, 27, none⟩ (.int .u32 v)) (fun k => k = B)) := hs w1 (h.kp k1))
    go_end0
    exact ⟨rfl, HS.out.1, Chg.trans (Kp.any k1) HS.out.2 (fun _ _ e => e)⟩
theorem stay_any (w : World) (B : Nat) (s : St) (h : IsT w B s) :
    Calls Tryz.prog 75 #[.pointer (some ⟨B, 0, none⟩)] w fun e w' => Vo w B (s.to s.g.pc) e w' := by
  have c1 := h.cell 16 (.int .u32 s.g.pc) rfl
  have c9 := h.cell 27 _ rfl
  have f9 := h.fr 27
  have HS : Hid (IsT (w.setCell ⟨B, 27, none⟩ (.int .u32 s.g.pc)) B (s.to s.g.pc) ∧ Chg w (w.setCell ⟨B, 27, none⟩ (.int .u32 s.g.pc)) (fun k => k = B)) := h.set 27 (.int .u32 s.g.pc) (s.to s.g.pc) rfl
  clear h
  generalize s.to s.g.pc = t at *
  generalize s.g.pc = p at *
  go_enter Tryz.func75, Tryz.ntmps75
  go_wp2
  go_end0
  exact ⟨rfl, HS.out⟩
theorem refuse_any (w : World) (B : Nat) (s : St) (h : IsT w B s) (f a : Int) :
    Calls Tryz.prog 34 #[.pointer (some ⟨B, 0, none⟩), .int .i64 f, .int .u32 a] w fun e w' => Vo w B (s.fault f a) e w' := by
  have d1 := h.cell 28 _ rfl
  have g1 := h.fr 28
  obtain ⟨i1, k1⟩ := h.set 28 (.int .i64 3) { s with r := { s.r with kind := 3 } } rfl
  have d2 := i1.cell 31 _ rfl
  have g2 := i1.fr 31
  obtain ⟨i2, k2⟩ := i1.set 31 (.int .i64 f) { s with r := { s.r with kind := 3, flt := f } } rfl
  have d3 := i2.cell 32 _ rfl
  have g3 := i2.fr 32
  obtain ⟨i3, k3⟩ := i2.set 32 (.int .u32 a) { s with r := { s.r with kind := 3, flt := f, addr := a } } rfl
  have hS := stay_any _ B _ i3
  have KK := Chg.trans (Chg.trans k1 k2 (fun _ _ e => e)) k3 (fun _ _ e => e)
  clear i1 i2 i3 k1 k2 k3 h
  go_enter Tryz.func34, Tryz.ntmps34
  go_wp2_with (go_at_call 75; refine hS.mono ?_; rintro e w1 ⟨rfl, i9, c9⟩)
  go_end0
  exact ⟨rfl, i9, Chg.trans KK c9 (fun _ _ e => e)⟩
end Go.Proofs.YtghiffpolacmiabGreatDoor
