import Derived.Test.YtghiffpolacmiabGreatDoorCards
import Derived.Test.YtghiffpolacmiabGreatDoorTie
import Derived.Test.YtghiffpolacmiabGreatDoorUy
import Derived.Lib.LaidTab
import Derived.LaidMore
import Derived.Stop.LaidErr
import Derived.Stop.Joined
import Derived.ShutString
import Derived.SizedLaws
import Derived.Deep.Slices
import Derived.Test.YtghiffpolacmiabGreatDoorEd
namespace Go.Proofs.YtghiffpolacmiabGreatDoor
open Go.ChangeShapes Go.WideShapes Go.ChangeAt Go.RowKit
set_option linter.unusedVariables false

theorem own : ownKnob Tryz.prog.godebug = none := by kernel_rfl
theorem laidOut : laidOutB Tryz.prog = true := by kernel_rfl
theorem gOps : Tryz.prog.globalNamed "cloister/isa.ops" = some 1 := by kernel_rfl
theorem tOps : (Tryz.prog.globals[1]?).map (·.type) = some 120 := by kernel_rfl
theorem gLay : Tryz.prog.globalNamed "cloister/isa.layouts" = some 0 := by kernel_rfl
theorem tLay : (Tryz.prog.globals[0]?).map (·.type) = some 112 := by kernel_rfl
theorem cells108 : Tryz.prog.cellsOf 118 = 3 := by kernel_rfl
theorem cells115 : Tryz.prog.cellsOf 120 = 147 := by kernel_rfl
theorem cells79 : Tryz.prog.cellsOf 104 = 4 := by kernel_rfl
theorem cells90 : Tryz.prog.cellsOf 112 = 36 := by kernel_rfl
theorem cells9 : Tryz.prog.cellsOf 9 = 1 := by kernel_rfl
theorem cells91 : Tryz.prog.cellsOf 110 = 1 := by kernel_rfl
theorem cells106 : Tryz.prog.cellsOf 116 = 1 := by kernel_rfl
theorem cells61 : Tryz.prog.cellsOf 89 = 1 := by kernel_rfl
def opD (k : Nat) : DataW Unit := .agg [.lit (.string (nmTab.getD k [])), .lit (.int .i64 (fmTab.getD k 0 : Nat)), .lit (.int .i64 (tkTab.getD k 0 : Nat))]
def lyD (f : Nat) : DataW Unit := .agg [.lit (.int .u64 (lD f : Nat)), .lit (.int .u64 (lA f : Nat)), .lit (.int .u64 (lB f : Nat)), .lit (.int .u64 (lI f : Nat))]
theorem ops_data : (Rows.laid_cloister_isa_ops : DataW Unit) = .agg ((List.range 49).map opD) := by kernel_rfl
theorem lay_data : (Rows.laid_cloister_isa_layouts : DataW Unit) = .agg ((List.range 9).map lyD) := by kernel_rfl
theorem sb_data {s : ByteArray} {l : List UInt8} (h : s.data.toList = l) : s = sb l := by
  subst h
  rfl
theorem laid_ops {r : List (String × DataW Unit)} {W : World} (h : laidMet Tryz.prog (("cloister/isa.ops", Rows.laid_cloister_isa_ops) :: r) W) (k : Nat) (hk : k < 49) :
    W.cell? ⟨1, k * 3, none⟩ = some (.string (sb (nmTab.getD k []))) ∧ W.cell? ⟨1, k * 3 + 1, none⟩ = some (.int .i64 (fmTab.getD k 0 : Nat)) ∧ W.cell? ⟨1, k * 3 + 2, none⟩ = some (.int .i64 (tkTab.getD k 0 : Nat)) := by
  obtain ⟨ps, ⟨g', t', cs, fuel, p, q, hg', ht', hvar, hd, _, _⟩, _⟩ := h
  obtain rfl := Option.some.inj (gOps.symm.trans hg')
  obtain rfl := Option.some.inj (tOps.symm.trans ht')
  obtain ⟨xs, m, rfl, hx, hlen, hxl, hall⟩ := DataW.trod_array Tryz.underlying120 hd
  have hx1 : (Rows.laid_cloister_isa_ops : DataW Unit) = .agg (xs.map (·.1)) := congrArg Prod.fst hx
  rw [ops_data] at hx1
  have hx2 : xs.map (·.1) = (List.range 49).map opD := by injection hx1.symm
  have hk1 := hall k hk
  have hxk : (xs[k]?).map (·.1) = some (opD k) := by
    rw [← List.getElem?_map, hx2, List.getElem?_map, List.getElem?_range hk]
    rfl
  cases hq : xs[k]? with
  | none => rw [hq] at hxk; cases hxk
  | some x =>
    rw [hq] at hk1 hxk
    obtain ⟨ys, m', _, hy, hyl, hyn, hyf⟩ := DataW.trod_struct Tryz.underlying118 hk1
    have hx3 : x.1 = opD k := Option.some.inj hxk
    have hy1 : ys.map (·.1) = [.lit (.string (nmTab.getD k [])), .lit (.int .i64 (fmTab.getD k 0 : Nat)), .lit (.int .i64 (tkTab.getD k 0 : Nat))] := by
      rw [hy] at hx3
      unfold opD at hx3
      injection hx3
    obtain ⟨y0, y1, y2, rfl⟩ : ∃ y0 y1 y2, ys = [y0, y1, y2] := by
      clear hyf hy hy1
      have hyn' : ys.length = 3 := hyn
      match ys, hyn' with
      | [a, b, c], _ => exact ⟨a, b, c, rfl⟩
    simp only [List.map_cons, List.map_nil, List.cons.injEq, and_true] at hy1
    obtain ⟨z0, z1, z2⟩ := hy1
    have f0 : DataW.trod (fun _ => ()) Tryz.prog W 0 (fun _ => true) false m' 9 (List.take (Tryz.prog.cellsOf 9) (List.drop 0 (List.take (Tryz.prog.cellsOf 118) (List.drop (k * Tryz.prog.cellsOf 118) cs.toList)))) = some y0 := hyf 0 _ rfl
    have f1 : DataW.trod (fun _ => ()) Tryz.prog W 0 (fun _ => true) false m' 110 (List.take (Tryz.prog.cellsOf 110) (List.drop 1 (List.take (Tryz.prog.cellsOf 118) (List.drop (k * Tryz.prog.cellsOf 118) cs.toList)))) = some y1 := hyf 1 _ rfl
    have f2 : DataW.trod (fun _ => ()) Tryz.prog W 0 (fun _ => true) false m' 116 (List.take (Tryz.prog.cellsOf 116) (List.drop 2 (List.take (Tryz.prog.cellsOf 118) (List.drop (k * Tryz.prog.cellsOf 118) cs.toList)))) = some y2 := hyf 2 _ rfl
    rw [cells9, cells108] at f0
    rw [cells91, cells108] at f1
    rw [cells106, cells108] at f2
    obtain ⟨b0, c0, d0, _⟩ := DataW.trod_string Tryz.underlying9 f0
    obtain ⟨b1, c1, d1, _⟩ := DataW.trod_int Tryz.underlying110 f1
    obtain ⟨b2, c2, d2, _⟩ := DataW.trod_int Tryz.underlying116 f2
    rw [d0] at z0
    rw [d1] at z1
    rw [d2] at z2
    simp only [DataW.lit.injEq, Lit.string.injEq, Lit.int.injEq, true_and] at z0 z1 z2
    rw [z1] at c1
    rw [z2] at c2
    rw [sb_data z0] at c0
    have e0 : cs.toList[k * 3]? = some (.string (sb (nmTab.getD k []))) := by
      have := congrArg (fun l : List Value => l[0]?) c0
      simpa [List.getElem?_take, List.getElem?_drop] using this
    have e1 : cs.toList[k * 3 + 1]? = some (.int .i64 (fmTab.getD k 0 : Nat)) := by
      have := congrArg (fun l : List Value => l[0]?) c1
      simpa [List.getElem?_take, List.getElem?_drop] using this
    have e2 : cs.toList[k * 3 + 2]? = some (.int .i64 (tkTab.getD k 0 : Nat)) := by
      have := congrArg (fun l : List Value => l[0]?) c2
      simpa [List.getElem?_take, List.getElem?_drop] using this
    have v0 := World.var?_cell gOps hvar (k * 3)
    have v1 := World.var?_cell gOps hvar (k * 3 + 1)
    have v2 := World.var?_cell gOps hvar (k * 3 + 2)
    rw [← Array.getElem?_toList] at v0 v1 v2
    exact ⟨v0.trans e0, v1.trans e1, v2.trans e2⟩
theorem laid_lay {r : List (String × DataW Unit)} {W : World} (h : laidMet Tryz.prog (("cloister/isa.layouts", Rows.laid_cloister_isa_layouts) :: r) W) (k : Nat) (hk : k < 9) :
    W.cell? ⟨0, k * 4, none⟩ = some (.int .u64 (lD k : Nat)) ∧ W.cell? ⟨0, k * 4 + 1, none⟩ = some (.int .u64 (lA k : Nat)) ∧ W.cell? ⟨0, k * 4 + 2, none⟩ = some (.int .u64 (lB k : Nat)) ∧ W.cell? ⟨0, k * 4 + 3, none⟩ = some (.int .u64 (lI k : Nat)) := by
  obtain ⟨ps, ⟨g', t', cs, fuel, p, q, hg', ht', hvar, hd, _, _⟩, _⟩ := h
  obtain rfl := Option.some.inj (gLay.symm.trans hg')
  obtain rfl := Option.some.inj (tLay.symm.trans ht')
  obtain ⟨xs, m, rfl, hx, hlen, hxl, hall⟩ := DataW.trod_array Tryz.underlying112 hd
  have hx1 : (Rows.laid_cloister_isa_layouts : DataW Unit) = .agg (xs.map (·.1)) := congrArg Prod.fst hx
  rw [lay_data] at hx1
  have hx2 : xs.map (·.1) = (List.range 9).map lyD := by injection hx1.symm
  have hk1 := hall k hk
  have hxk : (xs[k]?).map (·.1) = some (lyD k) := by
    rw [← List.getElem?_map, hx2, List.getElem?_map, List.getElem?_range hk]
    rfl
  cases hq : xs[k]? with
  | none => rw [hq] at hxk; cases hxk
  | some x =>
    rw [hq] at hk1 hxk
    obtain ⟨ys, m', _, hy, hyl, hyn, hyf⟩ := DataW.trod_struct Tryz.underlying104 hk1
    have hx3 : x.1 = lyD k := Option.some.inj hxk
    have hy1 : ys.map (·.1) = [.lit (.int .u64 (lD k : Nat)), .lit (.int .u64 (lA k : Nat)), .lit (.int .u64 (lB k : Nat)), .lit (.int .u64 (lI k : Nat))] := by
      rw [hy] at hx3
      unfold lyD at hx3
      injection hx3
    obtain ⟨y0, y1, y2, y3, rfl⟩ : ∃ y0 y1 y2 y3, ys = [y0, y1, y2, y3] := by
      clear hyf hy hy1
      have hyn' : ys.length = 4 := hyn
      match ys, hyn' with
      | [a, b, c, d], _ => exact ⟨a, b, c, d, rfl⟩
    simp only [List.map_cons, List.map_nil, List.cons.injEq, and_true] at hy1
    obtain ⟨z0, z1, z2, z3⟩ := hy1
    have f0 : DataW.trod (fun _ => ()) Tryz.prog W 0 (fun _ => true) false m' 89 (List.take (Tryz.prog.cellsOf 89) (List.drop 0 (List.take (Tryz.prog.cellsOf 104) (List.drop (k * Tryz.prog.cellsOf 104) cs.toList)))) = some y0 := hyf 0 _ rfl
    have f1 : DataW.trod (fun _ => ()) Tryz.prog W 0 (fun _ => true) false m' 89 (List.take (Tryz.prog.cellsOf 89) (List.drop 1 (List.take (Tryz.prog.cellsOf 104) (List.drop (k * Tryz.prog.cellsOf 104) cs.toList)))) = some y1 := hyf 1 _ rfl
    have f2 : DataW.trod (fun _ => ()) Tryz.prog W 0 (fun _ => true) false m' 89 (List.take (Tryz.prog.cellsOf 89) (List.drop 2 (List.take (Tryz.prog.cellsOf 104) (List.drop (k * Tryz.prog.cellsOf 104) cs.toList)))) = some y2 := hyf 2 _ rfl
    have f3 : DataW.trod (fun _ => ()) Tryz.prog W 0 (fun _ => true) false m' 89 (List.take (Tryz.prog.cellsOf 89) (List.drop 3 (List.take (Tryz.prog.cellsOf 104) (List.drop (k * Tryz.prog.cellsOf 104) cs.toList)))) = some y3 := hyf 3 _ rfl
    rw [cells61, cells79] at f0
    rw [cells61, cells79] at f1
    rw [cells61, cells79] at f2
    rw [cells61, cells79] at f3
    obtain ⟨b0, c0, d0, _⟩ := DataW.trod_int Tryz.underlying89 f0
    obtain ⟨b1, c1, d1, _⟩ := DataW.trod_int Tryz.underlying89 f1
    obtain ⟨b2, c2, d2, _⟩ := DataW.trod_int Tryz.underlying89 f2
    obtain ⟨b3, c3, d3, _⟩ := DataW.trod_int Tryz.underlying89 f3
    rw [d0] at z0
    rw [d1] at z1
    rw [d2] at z2
    rw [d3] at z3
    simp only [DataW.lit.injEq, Lit.int.injEq, true_and] at z0 z1 z2 z3
    rw [z0] at c0
    rw [z1] at c1
    rw [z2] at c2
    rw [z3] at c3
    have e0 : cs.toList[k * 4]? = some (.int .u64 (lD k : Nat)) := by
      have := congrArg (fun l : List Value => l[0]?) c0
      simpa [List.getElem?_take, List.getElem?_drop] using this
    have e1 : cs.toList[k * 4 + 1]? = some (.int .u64 (lA k : Nat)) := by
      have := congrArg (fun l : List Value => l[0]?) c1
      simpa [List.getElem?_take, List.getElem?_drop] using this
    have e2 : cs.toList[k * 4 + 2]? = some (.int .u64 (lB k : Nat)) := by
      have := congrArg (fun l : List Value => l[0]?) c2
      simpa [List.getElem?_take, List.getElem?_drop] using this
    have e3 : cs.toList[k * 4 + 3]? = some (.int .u64 (lI k : Nat)) := by
      have := congrArg (fun l : List Value => l[0]?) c3
      simpa [List.getElem?_take, List.getElem?_drop] using this
    have v0 := World.var?_cell gLay hvar (k * 4)
    have v1 := World.var?_cell gLay hvar (k * 4 + 1)
    have v2 := World.var?_cell gLay hvar (k * 4 + 2)
    have v3 := World.var?_cell gLay hvar (k * 4 + 3)
    rw [← Array.getElem?_toList] at v0 v1 v2 v3
    exact ⟨v0.trans e0, v1.trans e1, v2.trans e2, v3.trans e3⟩
/-- What the list of variables gives. -/
theorem gt_of_laid {W : World} (h : laidMet Tryz.prog [("cloister/isa.ops", Rows.laid_cloister_isa_ops), ("cloister/isa.layouts", Rows.laid_cloister_isa_layouts)] W) : Gt W := by
  have h2 := h.tail
  exact ⟨laid_ops h, laid_lay h2⟩
end Go.Proofs.YtghiffpolacmiabGreatDoor
namespace Go.Proofs.YtghiffpolacmiabGreatDoor
open Go.ChangeShapes Go.WideShapes Go.ChangeAt Go.RowKit
set_option linter.unusedVariables false

theorem wf_i64' {n : Int} (h : (Lit.int .i64 n).wf = true) : -9223372036854775808 ≤ n ∧ n ≤ 9223372036854775807 := by
  simpa [Lit.wf, IntKind.min, IntKind.max, IntKind.signed, IntKind.bits] using h
theorem wf_u32' {n : Int} (h : (Lit.int .u32 n).wf = true) : 0 ≤ n ∧ n < 4294967296 := by
  have : 0 ≤ n ∧ n ≤ 4294967295 := by simpa [Lit.wf, IntKind.min, IntKind.max, IntKind.signed, IntKind.bits] using h
  omega
theorem wf_i32' {n : Int} (h : (Lit.int .i32 n).wf = true) : -2147483648 ≤ n ∧ n ≤ 2147483647 := by
  simpa [Lit.wf, IntKind.min, IntKind.max, IntKind.signed, IntKind.bits] using h
theorem cells25 : Tryz.prog.cellsOf 25 = 21 := by kernel_rfl
theorem cells23 : Tryz.prog.cellsOf 23 = 16 := by kernel_rfl
theorem cells22 : Tryz.prog.cellsOf 22 = 1 := by kernel_rfl
theorem cellsB : Tryz.prog.cellsOf 4 = 1 := by kernel_rfl
/-- Registers within their ranges. -/
structure Rg.ok (g : Rg) : Prop where
  R : ∀ i, 0 ≤ g.R i ∧ g.R i < 4294967296
  pc : 0 ≤ g.pc ∧ g.pc < 4294967296
  vec : 0 ≤ g.vec ∧ g.vec < 4294967296
  back : 0 ≤ g.back ∧ g.back < 4294967296
theorem arr_in {H : Type} {enc : TypeId × Value → H} {W : World} {fuel : Nat} {cs : List Value} {d : DataW H} {p : List MemPlace} (hf : DataW.trod enc Tryz.prog W 0 (fun _ => true) true fuel 23 cs = some (d, p)) : ∃ sr : Nat → Int, (∀ i, i < 16 → cs[i]? = some (Value.int .u32 (sr i))) ∧ ∀ i, i < 16 → 0 ≤ sr i ∧ sr i < 4294967296 := by
  obtain ⟨xs, m, _, hx, hl, hlen, hfi⟩ := DataW.trod_array Tryz.underlying23 hf
  have hvs : ∀ i, i < 16 → ∃ v : Int, cs[i]? = some (.int .u32 v) ∧ 0 ≤ v ∧ v < 4294967296 := by
    intro i hi
    have h1 := hfi i hi
    rw [cells22, Nat.mul_one] at h1
    have hxi : xs[i]? = some xs[i] := List.getElem?_eq_getElem (by omega)
    rw [hxi] at h1
    obtain ⟨v, e, _, hw⟩ := DataW.trod_int Tryz.underlying22 h1
    refine ⟨v, ?_, wf_u32' hw⟩
    have := congrArg (fun l => l[0]?) e
    simpa [List.getElem?_take, List.getElem?_drop] using this
  obtain ⟨f, hf⟩ := Go.Deep.choose_lt hvs
  exact ⟨f, fun i hi => (hf i hi).1, fun i hi => (hf i hi).2⟩
set_option maxRecDepth 100000 in
/-- Registers that came in. -/
theorem regs_in {H : Type} {enc : TypeId × Value → H} {W : World} {r : Reach} {base : Nat} {v : Value} {d : DataW H} {p : List MemPlace}
    (hv : Value.okWide Tryz.prog W r base 25 v) (h : DataW.Trod enc Tryz.prog W 0 (fun _ => true) true 25 v d p) :
    ∃ g : Rg, v = .agg (rgc g).toArray ∧ g.ok := by
  obtain ⟨cs, rfl, hsz⟩ := okWide_struct Tryz.underlying25 hv
  rw [cells25] at hsz
  obtain ⟨fuel, hf⟩ := h
  obtain ⟨xs, m, _, hx, hl, hlen, hfi⟩ := DataW.trod_struct Tryz.underlying25 hf
  have hlen' : xs.length = 6 := hlen
  have g : ∀ i, i < 6 → ∃ y, xs[i]? = some y := fun i hi => ⟨_, List.getElem?_eq_getElem (by omega)⟩
  obtain ⟨y0, g0⟩ := g 0 (by omega)
  obtain ⟨y1, g1⟩ := g 1 (by omega)
  obtain ⟨y2, g2⟩ := g 2 (by omega)
  obtain ⟨y3, g3⟩ := g 3 (by omega)
  obtain ⟨y4, g4⟩ := g 4 (by omega)
  obtain ⟨y5, g5⟩ := g 5 (by omega)
  have f0 : DataW.trod enc Tryz.prog W 0 (fun _ => true) true m 23 ((cs.toList.drop 0).take (Tryz.prog.cellsOf 23)) = xs[0]? := hfi 0 _ rfl
  have f1 : DataW.trod enc Tryz.prog W 0 (fun _ => true) true m 22 ((cs.toList.drop 16).take (Tryz.prog.cellsOf 22)) = xs[1]? := hfi 1 _ rfl
  have f2 : DataW.trod enc Tryz.prog W 0 (fun _ => true) true m 22 ((cs.toList.drop 17).take (Tryz.prog.cellsOf 22)) = xs[2]? := hfi 2 _ rfl
  have f3 : DataW.trod enc Tryz.prog W 0 (fun _ => true) true m 22 ((cs.toList.drop 18).take (Tryz.prog.cellsOf 22)) = xs[3]? := hfi 3 _ rfl
  have f4 : DataW.trod enc Tryz.prog W 0 (fun _ => true) true m 4 ((cs.toList.drop 19).take (Tryz.prog.cellsOf 4)) = xs[4]? := hfi 4 _ rfl
  have f5 : DataW.trod enc Tryz.prog W 0 (fun _ => true) true m 4 ((cs.toList.drop 20).take (Tryz.prog.cellsOf 4)) = xs[5]? := hfi 5 _ rfl
  rw [g0, cells23] at f0
  rw [g1, cells22] at f1
  rw [g2, cells22] at f2
  rw [g3, cells22] at f3
  rw [g4, cellsB] at f4
  rw [g5, cellsB] at f5
  obtain ⟨sr, e0, h0⟩ := arr_in f0
  obtain ⟨a, e1, _, w1⟩ := DataW.trod_int Tryz.underlying22 f1
  obtain ⟨b, e2, _, w2⟩ := DataW.trod_int Tryz.underlying22 f2
  obtain ⟨c, e3, _, w3⟩ := DataW.trod_int Tryz.underlying22 f3
  obtain ⟨on, e4, _⟩ := DataW.trod_bool Tryz.underlying4 f4
  obtain ⟨hd, e5, _⟩ := DataW.trod_bool Tryz.underlying4 f5
  refine ⟨⟨fun i => if i < 16 then sr i else 0, a, b, c, on, hd⟩, ?_, fun i => ?_, wf_u32' w1, wf_u32' w2, wf_u32' w3⟩
  · have a1 := congrArg (fun l => l[0]?) e1
    have a2 := congrArg (fun l => l[0]?) e2
    have a3 := congrArg (fun l => l[0]?) e3
    have a4 := congrArg (fun l => l[0]?) e4
    have a5 := congrArg (fun l => l[0]?) e5
    simp only [List.getElem?_take, List.getElem?_drop, Nat.add_zero, Nat.zero_lt_one, if_true, List.getElem?_cons_zero] at a1 a2 a3 a4 a5
    have e0' : ∀ i, i < 16 → cs.toList[i]? = some (Value.int .u32 (sr i)) := fun i hi => by
      have := e0 i hi
      simpa [List.getElem?_take, List.getElem?_drop, hi] using this
    have hl' : cs.toList.length = 21 := by simpa using hsz
    congr 1
    apply Array.toList_inj.1
    apply List.ext_getElem?
    intro i
    by_cases hi : i < 16
    · rw [e0' i hi]
      show _ = (rgc ⟨fun i => if i < 16 then sr i else 0, a, b, c, on, hd⟩)[i]?
      rw [rgc_R _ i hi]
      simp [hi]
    · by_cases h16 : i = 16
      · subst h16; exact a1
      by_cases h17 : i = 17
      · subst h17; exact a2
      by_cases h18 : i = 18
      · subst h18; exact a3
      by_cases h19 : i = 19
      · subst h19; exact a4
      by_cases h20 : i = 20
      · subst h20; exact a5
      rw [List.getElem?_eq_none (by omega), List.getElem?_eq_none (by show 21 ≤ i; omega)]
  · show 0 ≤ (if i < 16 then sr i else 0) ∧ (if i < 16 then sr i else 0) < 4294967296
    split
    · exact h0 i (by assumption)
    · omega
theorem two_of_laid {W : World} (h : Gt W) : 2 ≤ W.heap.size := by
  have h1 := (h.ops 0 (by omega)).1
  rcases Nat.lt_or_ge 1 W.heap.size with h | h
  · exact h
  · exfalso
    have : W.heap[1]? = none := Array.getElem?_eq_none h
    simp [World.cell?, this] at h1
end Go.Proofs.YtghiffpolacmiabGreatDoor
namespace Go.Proofs.YtghiffpolacmiabGreatDoor
open Go.ChangeShapes Go.WideShapes Go.ChangeAt Go.RowKit Go.Deep
set_option linter.unusedVariables false

/-- A list of numbers that came in. -/
theorem row_in {H : Type} {enc : TypeId × Value → H} {W : World} {fuel : Nat} {c : Value} {d : DataW H} {p : List MemPlace} (T e : TypeId) (k : IntKind) (by' : Nat) (hT : Tryz.prog.underlying T = some (.slice e)) (he : Tryz.prog.underlying e = some (.int k)) (hc1 : Tryz.prog.cellsOf e = 1) (hby : Tryz.prog.bytesOf e = by') (hb0 : 4 ≤ by')
    (hf : DataW.trod enc Tryz.prog W 0 (fun _ => true) true fuel T [c] = some (d, p)) (hw : ∀ n ∈ d.weights Tryz.prog T, n ≤ reachBytes) :
    ∃ l : List Int, Rw W k c l ∧ l.length * by' ≤ 140737488355328 ∧ ∀ x ∈ l, (Lit.int k x).wf = true := by
  rcases open_slice hT hf with ⟨hcs, hx⟩ | ⟨x, len, cap, m, n, D, Pl, hcs, _, hl, hm, hmm, hx, hel⟩
  · simp at hcs
    subst hcs
    exact ⟨[], rw_none _ _, by simp, fun x hx => by cases hx⟩
  · simp at hcs
    subst hcs
    simp only [if_true] at hmm
    subst hmm
    simp only [Prod.mk.injEq] at hx
    obtain ⟨hd', _⟩ := hx
    have hreach := hw (((List.range len).map D).length + ((List.range (m - len)).map fun j => D (len + j)).length |> (· * Tryz.prog.bytesOf e)) (by rw [hd']; simp [DataW.weights, hT])
    simp only [hby, List.length_map, List.length_range, reachBytes] at hreach
    have hb2 : len * by' ≤ 140737488355328 := by
      have : len * by' ≤ (len + (m - len)) * by' := Nat.mul_le_mul_right _ (by omega)
      omega
    have hlen : len < 4611686018427387904 := by
      have : len * 4 ≤ len * by' := Nat.mul_le_mul_left _ hb0
      omega
    have hvs : ∀ i, i < len → ∃ v : Int, (∃ cs, W.cells? 0 (x.add (i * 1)) 1 = some cs ∧ cs = [.int k v]) ∧ (Lit.int k v).wf = true := by
      intro i hi
      obtain ⟨cs', hc, ht'⟩ := hel i (by omega)
      rw [hc1] at hc
      obtain ⟨v, hv, _, hwf⟩ := DataW.trod_int he ht'
      exact ⟨v, ⟨cs', hc, hv⟩, hwf⟩
    obtain ⟨f, hfv⟩ := choose_lt hvs
    refine ⟨(List.range len).map f, ⟨some x, m, by simp, by simpa using hl, by simpa using hlen, ?_⟩, by simpa using hb2, fun y hy => ?_⟩
    · by_cases h0 : len = 0
      · left; subst h0; rfl
      · right
        obtain ⟨b, off, spot⟩ := x
        have hcell : ∀ i, i < len → W.cell? ((⟨b, off, spot⟩ : Addr).add (i * 1) |>.add 0) = some (.int k (f i)) := by
          intro i hi
          obtain ⟨⟨cs, hc, he'⟩, _⟩ := hfv i hi
          obtain ⟨_, hlen', hcell⟩ := World.cells?_some hc
          rw [hcell 0 (by omega), he']; rfl
        have hspot : spot = none := by
          have := hcell 0 (by omega)
          simpa [Addr.add] using World.cell?_spot this
        subst hspot
        have g : ∀ i, i < len → W.cell? ⟨b, off + i, none⟩ = some (.int k (f i)) := by
          intro i hi
          have := hcell i hi
          rw [Addr.add_lit, Addr.add_lit] at this
          simpa using this
        refine ⟨b, off, rfl, World.block_lt_of_cell? W _ (g 0 (by omega)), fun i y hy => ?_⟩
        have hi : i < len := by
          have := (List.getElem?_eq_some_iff.1 hy).1
          simpa using this
        rw [List.getElem?_map, List.getElem?_range hi] at hy
        cases hy
        exact g i hi
    · obtain ⟨i, hi, rfl⟩ := List.mem_map.1 hy
      exact (hfv i (by simpa using hi)).2
theorem cells47 : Tryz.prog.cellsOf 31 = 7 := by kernel_rfl
theorem c28 : Tryz.prog.cellsOf 26 = 1 := by kernel_rfl
theorem c29 : Tryz.prog.cellsOf 27 = 1 := by kernel_rfl
theorem c30 : Tryz.prog.cellsOf 28 = 1 := by kernel_rfl
theorem c31 : Tryz.prog.cellsOf 29 = 1 := by kernel_rfl
theorem c3 : Tryz.prog.cellsOf 3 = 1 := by kernel_rfl
theorem c36 : Tryz.prog.cellsOf 38 = 1 := by kernel_rfl
theorem b22 : Tryz.prog.bytesOf 22 = 4 := by kernel_rfl
theorem b3 : Tryz.prog.bytesOf 3 = 8 := by kernel_rfl
theorem b36 : Tryz.prog.bytesOf 38 = 8 := by kernel_rfl
set_option maxRecDepth 100000 in
/-- A bench that came in. -/
theorem bench_in {H : Type} {enc : TypeId × Value → H} {W : World} {r : Reach} {base : Nat} {v : Value} {d : DataW H} {p : List MemPlace}
    (hv : Value.okWide Tryz.prog W r base 31 v) (h : DataW.Trod enc Tryz.prog W 0 (fun _ => true) true 31 v d p) (hsz : ∀ n ∈ d.weights Tryz.prog 31, n ≤ reachBytes) :
    ∃ wv vv cv fv ws vs cy fa tm ln od, v = .agg #[wv, vv, cv, fv, .int .u64 tm, .int .i64 ln, .bool od] ∧ Bn W wv vv cv fv ws vs cy fa ∧ (0 ≤ tm ∧ tm < 18446744073709551616) ∧ (-9223372036854775808 ≤ ln ∧ ln ≤ 9223372036854775807) ∧ (∀ x ∈ ws, 0 ≤ x ∧ x < 4294967296) ∧ (∀ x ∈ vs, 0 ≤ x ∧ x < 4294967296) := by
  obtain ⟨cs, rfl, hs⟩ := okWide_struct Tryz.underlying31 hv
  rw [cells47] at hs
  obtain ⟨fuel, hf⟩ := h
  obtain ⟨xs, m, _, hx, hl, hlen, hfi⟩ := DataW.trod_struct Tryz.underlying31 hf
  have hlen' : xs.length = 7 := hlen
  clear hlen
  obtain ⟨a0, a1, a2, a3, a4, a5, a6, rfl⟩ : ∃ a0 a1 a2 a3 a4 a5 a6, cs = #[a0, a1, a2, a3, a4, a5, a6] := by
    obtain ⟨l⟩ := cs
    match l, hs with
    | [a0, a1, a2, a3, a4, a5, a6], _ => exact ⟨a0, a1, a2, a3, a4, a5, a6, rfl⟩
  obtain ⟨y0, y1, y2, y3, y4, y5, y6, rfl⟩ : ∃ c0 c1 c2 c3 c4 c5 c6, xs = [c0, c1, c2, c3, c4, c5, c6] := by
    clear hfi hx
    match xs, hlen' with
    | [c0, c1, c2, c3, c4, c5, c6], _ => exact ⟨c0, c1, c2, c3, c4, c5, c6, rfl⟩
  have f0 := hfi 0 _ rfl
  have f1 := hfi 1 _ rfl
  have f2 := hfi 2 _ rfl
  have f3 := hfi 3 _ rfl
  have f4 := hfi 4 _ rfl
  have f5 := hfi 5 _ rfl
  have f6 := hfi 6 _ rfl
  simp [c28, c29, c30, c31, c3, cellsB, Value.cells] at f0 f1 f2 f3 f4 f5 f6
  have hd : d = .agg ([y0, y1, y2, y3, y4, y5, y6].map (·.1)) := congrArg Prod.fst hx
  have q0 : ∀ n ∈ y0.1.weights Tryz.prog 26, n ≤ reachBytes := fun n hn => hsz n (by rw [hd]; simp [DataW.weights, Tryz.underlying31, DataW.weightsEach, hn])
  have q1 : ∀ n ∈ y1.1.weights Tryz.prog 26, n ≤ reachBytes := fun n hn => hsz n (by rw [hd]; simp [DataW.weights, Tryz.underlying31, DataW.weightsEach, hn])
  have q2 : ∀ n ∈ y2.1.weights Tryz.prog 27, n ≤ reachBytes := fun n hn => hsz n (by rw [hd]; simp [DataW.weights, Tryz.underlying31, DataW.weightsEach, hn])
  have q3 : ∀ n ∈ y3.1.weights Tryz.prog 28, n ≤ reachBytes := fun n hn => hsz n (by rw [hd]; simp [DataW.weights, Tryz.underlying31, DataW.weightsEach, hn])
  obtain ⟨ws, r0, s0, g0⟩ := row_in (d := y0.1) (p := y0.2) 26 22 .u32 4 Tryz.underlying26 Tryz.underlying22 cells22 b22 (by omega) f0 q0
  obtain ⟨vs, r1, s1, g1⟩ := row_in (d := y1.1) (p := y1.2) 26 22 .u32 4 Tryz.underlying26 Tryz.underlying22 cells22 b22 (by omega) f1 q1
  obtain ⟨cy, r2, s2, g2⟩ := row_in (d := y2.1) (p := y2.2) 27 3 .i64 8 Tryz.underlying27 Tryz.underlying3 c3 b3 (by omega) f2 q2
  obtain ⟨fa, r3, s3, g3⟩ := row_in (d := y3.1) (p := y3.2) 28 38 .i64 8 Tryz.underlying28 Tryz.underlying38 c36 b36 (by omega) f3 q3
  obtain ⟨tm, e4, _, w4⟩ := DataW.trod_int Tryz.underlying29 f4
  obtain ⟨ln, e5, _, w5⟩ := DataW.trod_int Tryz.underlying3 f5
  obtain ⟨od, e6, _⟩ := DataW.trod_bool Tryz.underlying4 f6
  simp at e4 e5 e6
  subst e4 e5 e6
  have w4' : 0 ≤ tm ∧ tm ≤ 18446744073709551615 := by simpa [Lit.wf, IntKind.min, IntKind.max, IntKind.signed, IntKind.bits] using w4
  exact ⟨a0, a1, a2, a3, ws, vs, cy, fa, tm, ln, od, rfl, ⟨r0, r1, r2, r3, s0, s1, s2, s3⟩, by omega, wf_i64' w5, fun x hx => wf_u32' (g0 x hx), fun x hx => wf_u32' (g1 x hx)⟩
theorem nxt_in (l : List Int) (h : ∀ x ∈ l, 0 ≤ x ∧ x < 4294967296) (i : Nat) : 0 ≤ nxt l i ∧ nxt l i < 4294967296 := by
  unfold nxt
  rw [List.getD_eq_getElem?_getD]
  cases hq : l[min i (l.length - 1)]? with
  | none => exact ⟨by decide, by decide⟩
  | some x => exact h x (List.mem_of_getElem? hq)
end Go.Proofs.YtghiffpolacmiabGreatDoor
