import Derived.Test.YtghiffpolacmiabDoorCards
import Derived.Test.YtghiffpolacmiabDoorTie
import Derived.Test.YtghiffpolacmiabDoorUy
import Derived.Lib.LaidTab
import Derived.LaidMore
import Derived.Stop.LaidErr
import Derived.Stop.Joined
import Derived.ShutString
import Derived.SizedLaws
namespace Go.Proofs.YtghiffpolacmiabDoor
open Go.ChangeShapes Go.WideShapes Go.ChangeAt Go.RowKit
set_option linter.unusedVariables false

theorem own : ownKnob Tryd.prog.godebug = none := by kernel_rfl
theorem laidOut : laidOutB Tryd.prog = true := by kernel_rfl
theorem gOps : Tryd.prog.globalNamed "cloister/isa.ops" = some 1 := by kernel_rfl
theorem tOps : (Tryd.prog.globals[1]?).map (·.type) = some 102 := by kernel_rfl
theorem gLay : Tryd.prog.globalNamed "cloister/isa.layouts" = some 0 := by kernel_rfl
theorem tLay : (Tryd.prog.globals[0]?).map (·.type) = some 79 := by kernel_rfl
theorem cells108 : Tryd.prog.cellsOf 90 = 3 := by kernel_rfl
theorem cells115 : Tryd.prog.cellsOf 102 = 147 := by kernel_rfl
theorem cells79 : Tryd.prog.cellsOf 67 = 4 := by kernel_rfl
theorem cells90 : Tryd.prog.cellsOf 79 = 36 := by kernel_rfl
theorem cells9 : Tryd.prog.cellsOf 9 = 1 := by kernel_rfl
theorem cells91 : Tryd.prog.cellsOf 80 = 1 := by kernel_rfl
theorem cells106 : Tryd.prog.cellsOf 88 = 1 := by kernel_rfl
theorem cells61 : Tryd.prog.cellsOf 53 = 1 := by kernel_rfl
def opD (k : Nat) : DataW Unit := .agg [.lit (.string (nmTab.getD k [])), .lit (.int .i64 (fmTab.getD k 0 : Nat)), .lit (.int .i64 (tkTab.getD k 0 : Nat))]
def lyD (f : Nat) : DataW Unit := .agg [.lit (.int .u64 (lD f : Nat)), .lit (.int .u64 (lA f : Nat)), .lit (.int .u64 (lB f : Nat)), .lit (.int .u64 (lI f : Nat))]
theorem ops_data : (Rows.laid_cloister_isa_ops : DataW Unit) = .agg ((List.range 49).map opD) := by kernel_rfl
theorem lay_data : (Rows.laid_cloister_isa_layouts : DataW Unit) = .agg ((List.range 9).map lyD) := by kernel_rfl
theorem sb_data {s : ByteArray} {l : List UInt8} (h : s.data.toList = l) : s = sb l := by
  subst h
  rfl
theorem laid_ops {r : List (String × DataW Unit)} {W : World} (h : laidMet Tryd.prog (("cloister/isa.ops", Rows.laid_cloister_isa_ops) :: r) W) (k : Nat) (hk : k < 49) :
    W.cell? ⟨1, k * 3, none⟩ = some (.string (sb (nmTab.getD k []))) ∧ W.cell? ⟨1, k * 3 + 1, none⟩ = some (.int .i64 (fmTab.getD k 0 : Nat)) ∧ W.cell? ⟨1, k * 3 + 2, none⟩ = some (.int .i64 (tkTab.getD k 0 : Nat)) := by
  obtain ⟨ps, ⟨g', t', cs, fuel, p, q, hg', ht', hvar, hd, _, _⟩, _⟩ := h
  obtain rfl := Option.some.inj (gOps.symm.trans hg')
  obtain rfl := Option.some.inj (tOps.symm.trans ht')
  obtain ⟨xs, m, rfl, hx, hlen, hxl, hall⟩ := DataW.trod_array Tryd.underlying102 hd
  have hx1 : (Rows.laid_cloister_isa_ops : DataW Unit) = .agg (xs.map (·.1)) := congrArg Prod.fst hx
  rw [ops_data] at hx1
  have hx2 : xs.map (·.1) = (List.range 49).map opD := by injection hx1.symm
  have hk1 := hall k hk
  have hxk : (xs[k]?).map (·.1) = some (opD k) := by
    rw [← List.getElem?_map, hx2, List.getElem?_map, List.getElem?_range hk]
    rfl
  cases hq : xs[k]? with
  | none => rw [hq] at hxk; cases hxk
  | some x =>
    rw [hq] at hk1 hxk
    obtain ⟨ys, m', _, hy, hyl, hyn, hyf⟩ := DataW.trod_struct Tryd.underlying90 hk1
    have hx3 : x.1 = opD k := Option.some.inj hxk
    have hy1 : ys.map (·.1) = [.lit (.string (nmTab.getD k [])), .lit (.int .i64 (fmTab.getD k 0 : Nat)), .lit (.int .i64 (tkTab.getD k 0 : Nat))] := by
      rw [hy] at hx3
      unfold opD at hx3
      injection hx3
    obtain ⟨y0, y1, y2, rfl⟩ : ∃ y0 y1 y2, ys = [y0, y1, y2] := by
      clear hyf hy hy1
      have hyn' : ys.length = 3 := hyn
      match ys, hyn' with
      | [a, b, c], _ => exact ⟨a, b, c, rfl⟩
    simp only [List.map_cons, List.map_nil, List.cons.injEq, and_true] at hy1
    obtain ⟨z0, z1, z2⟩ := hy1
    have f0 : DataW.trod (fun _ => ()) Tryd.prog W 0 (fun _ => true) false m' 9 (List.take (Tryd.prog.cellsOf 9) (List.drop 0 (List.take (Tryd.prog.cellsOf 90) (List.drop (k * Tryd.prog.cellsOf 90) cs.toList)))) = some y0 := hyf 0 _ rfl
    have f1 : DataW.trod (fun _ => ()) Tryd.prog W 0 (fun _ => true) false m' 80 (List.take (Tryd.prog.cellsOf 80) (List.drop 1 (List.take (Tryd.prog.cellsOf 90) (List.drop (k * Tryd.prog.cellsOf 90) cs.toList)))) = some y1 := hyf 1 _ rfl
    have f2 : DataW.trod (fun _ => ()) Tryd.prog W 0 (fun _ => true) false m' 88 (List.take (Tryd.prog.cellsOf 88) (List.drop 2 (List.take (Tryd.prog.cellsOf 90) (List.drop (k * Tryd.prog.cellsOf 90) cs.toList)))) = some y2 := hyf 2 _ rfl
    rw [cells9, cells108] at f0
    rw [cells91, cells108] at f1
    rw [cells106, cells108] at f2
    obtain ⟨b0, c0, d0, _⟩ := DataW.trod_string Tryd.underlying9 f0
    obtain ⟨b1, c1, d1, _⟩ := DataW.trod_int Tryd.underlying80 f1
    obtain ⟨b2, c2, d2, _⟩ := DataW.trod_int Tryd.underlying88 f2
    rw [d0] at z0
    rw [d1] at z1
    rw [d2] at z2
    simp only [DataW.lit.injEq, Lit.string.injEq, Lit.int.injEq, true_and] at z0 z1 z2
    rw [z1] at c1
    rw [z2] at c2
    rw [sb_data z0] at c0
    have e0 : cs.toList[k * 3]? = some (.string (sb (nmTab.getD k []))) := by
      have := congrArg (fun l : List Value => l[0]?) c0
      simpa [List.getElem?_take, List.getElem?_drop] using this
    have e1 : cs.toList[k * 3 + 1]? = some (.int .i64 (fmTab.getD k 0 : Nat)) := by
      have := congrArg (fun l : List Value => l[0]?) c1
      simpa [List.getElem?_take, List.getElem?_drop] using this
    have e2 : cs.toList[k * 3 + 2]? = some (.int .i64 (tkTab.getD k 0 : Nat)) := by
      have := congrArg (fun l : List Value => l[0]?) c2
      simpa [List.getElem?_take, List.getElem?_drop] using this
    have v0 := World.var?_cell gOps hvar (k * 3)
    have v1 := World.var?_cell gOps hvar (k * 3 + 1)
    have v2 := World.var?_cell gOps hvar (k * 3 + 2)
    rw [← Array.getElem?_toList] at v0 v1 v2
    exact ⟨v0.trans e0, v1.trans e1, v2.trans e2⟩
theorem laid_lay {r : List (String × DataW Unit)} {W : World} (h : laidMet Tryd.prog (("cloister/isa.layouts", Rows.laid_cloister_isa_layouts) :: r) W) (k : Nat) (hk : k < 9) :
    W.cell? ⟨0, k * 4, none⟩ = some (.int .u64 (lD k : Nat)) ∧ W.cell? ⟨0, k * 4 + 1, none⟩ = some (.int .u64 (lA k : Nat)) ∧ W.cell? ⟨0, k * 4 + 2, none⟩ = some (.int .u64 (lB k : Nat)) ∧ W.cell? ⟨0, k * 4 + 3, none⟩ = some (.int .u64 (lI k : Nat)) := by
  obtain ⟨ps, ⟨g', t', cs, fuel, p, q, hg', ht', hvar, hd, _, _⟩, _⟩ := h
  obtain rfl := Option.some.inj (gLay.symm.trans hg')
  obtain rfl := Option.some.inj (tLay.symm.trans ht')
  obtain ⟨xs, m, rfl, hx, hlen, hxl, hall⟩ := DataW.trod_array Tryd.underlying79 hd
  have hx1 : (Rows.laid_cloister_isa_layouts : DataW Unit) = .agg (xs.map (·.1)) := congrArg Prod.fst hx
  rw [lay_data] at hx1
  have hx2 : xs.map (·.1) = (List.range 9).map lyD := by injection hx1.symm
  have hk1 := hall k hk
  have hxk : (xs[k]?).map (·.1) = some (lyD k) := by
    rw [← List.getElem?_map, hx2, List.getElem?_map, List.getElem?_range hk]
    rfl
  cases hq : xs[k]? with
  | none => rw [hq] at hxk; cases hxk
  | some x =>
    rw [hq] at hk1 hxk
    obtain ⟨ys, m', _, hy, hyl, hyn, hyf⟩ := DataW.trod_struct Tryd.underlying67 hk1
    have hx3 : x.1 = lyD k := Option.some.inj hxk
    have hy1 : ys.map (·.1) = [.lit (.int .u64 (lD k : Nat)), .lit (.int .u64 (lA k : Nat)), .lit (.int .u64 (lB k : Nat)), .lit (.int .u64 (lI k : Nat))] := by
      rw [hy] at hx3
      unfold lyD at hx3
      injection hx3
    obtain ⟨y0, y1, y2, y3, rfl⟩ : ∃ y0 y1 y2 y3, ys = [y0, y1, y2, y3] := by
      clear hyf hy hy1
      have hyn' : ys.length = 4 := hyn
      match ys, hyn' with
      | [a, b, c, d], _ => exact ⟨a, b, c, d, rfl⟩
    simp only [List.map_cons, List.map_nil, List.cons.injEq, and_true] at hy1
    obtain ⟨z0, z1, z2, z3⟩ := hy1
    have f0 : DataW.trod (fun _ => ()) Tryd.prog W 0 (fun _ => true) false m' 53 (List.take (Tryd.prog.cellsOf 53) (List.drop 0 (List.take (Tryd.prog.cellsOf 67) (List.drop (k * Tryd.prog.cellsOf 67) cs.toList)))) = some y0 := hyf 0 _ rfl
    have f1 : DataW.trod (fun _ => ()) Tryd.prog W 0 (fun _ => true) false m' 53 (List.take (Tryd.prog.cellsOf 53) (List.drop 1 (List.take (Tryd.prog.cellsOf 67) (List.drop (k * Tryd.prog.cellsOf 67) cs.toList)))) = some y1 := hyf 1 _ rfl
    have f2 : DataW.trod (fun _ => ()) Tryd.prog W 0 (fun _ => true) false m' 53 (List.take (Tryd.prog.cellsOf 53) (List.drop 2 (List.take (Tryd.prog.cellsOf 67) (List.drop (k * Tryd.prog.cellsOf 67) cs.toList)))) = some y2 := hyf 2 _ rfl
    have f3 : DataW.trod (fun _ => ()) Tryd.prog W 0 (fun _ => true) false m' 53 (List.take (Tryd.prog.cellsOf 53) (List.drop 3 (List.take (Tryd.prog.cellsOf 67) (List.drop (k * Tryd.prog.cellsOf 67) cs.toList)))) = some y3 := hyf 3 _ rfl
    rw [cells61, cells79] at f0
    rw [cells61, cells79] at f1
    rw [cells61, cells79] at f2
    rw [cells61, cells79] at f3
    obtain ⟨b0, c0, d0, _⟩ := DataW.trod_int Tryd.underlying53 f0
    obtain ⟨b1, c1, d1, _⟩ := DataW.trod_int Tryd.underlying53 f1
    obtain ⟨b2, c2, d2, _⟩ := DataW.trod_int Tryd.underlying53 f2
    obtain ⟨b3, c3, d3, _⟩ := DataW.trod_int Tryd.underlying53 f3
    rw [d0] at z0
    rw [d1] at z1
    rw [d2] at z2
    rw [d3] at z3
    simp only [DataW.lit.injEq, Lit.int.injEq, true_and] at z0 z1 z2 z3
    rw [z0] at c0
    rw [z1] at c1
    rw [z2] at c2
    rw [z3] at c3
    have e0 : cs.toList[k * 4]? = some (.int .u64 (lD k : Nat)) := by
      have := congrArg (fun l : List Value => l[0]?) c0
      simpa [List.getElem?_take, List.getElem?_drop] using this
    have e1 : cs.toList[k * 4 + 1]? = some (.int .u64 (lA k : Nat)) := by
      have := congrArg (fun l : List Value => l[0]?) c1
      simpa [List.getElem?_take, List.getElem?_drop] using this
    have e2 : cs.toList[k * 4 + 2]? = some (.int .u64 (lB k : Nat)) := by
      have := congrArg (fun l : List Value => l[0]?) c2
      simpa [List.getElem?_take, List.getElem?_drop] using this
    have e3 : cs.toList[k * 4 + 3]? = some (.int .u64 (lI k : Nat)) := by
      have := congrArg (fun l : List Value => l[0]?) c3
      simpa [List.getElem?_take, List.getElem?_drop] using this
    have v0 := World.var?_cell gLay hvar (k * 4)
    have v1 := World.var?_cell gLay hvar (k * 4 + 1)
    have v2 := World.var?_cell gLay hvar (k * 4 + 2)
    have v3 := World.var?_cell gLay hvar (k * 4 + 3)
    rw [← Array.getElem?_toList] at v0 v1 v2 v3
    exact ⟨v0.trans e0, v1.trans e1, v2.trans e2, v3.trans e3⟩
/-- What the list of variables gives. -/
theorem gt_of_laid {W : World} (h : laidMet Tryd.prog [("cloister/isa.ops", Rows.laid_cloister_isa_ops), ("cloister/isa.layouts", Rows.laid_cloister_isa_layouts)] W) : Gt W := by
  have h2 := h.tail
  exact ⟨laid_ops h, laid_lay h2⟩
end Go.Proofs.YtghiffpolacmiabDoor
