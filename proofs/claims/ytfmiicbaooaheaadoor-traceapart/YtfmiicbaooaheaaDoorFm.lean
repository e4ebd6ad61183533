import Derived.Test.YtfmiicbaooaheaaDoorCards
import Derived.Test.YtfmiicbaooaheaaDoorTie
import Derived.Test.YtfmiicbaooaheaaDoorIn
import Derived.Lib.LaidTab
import Derived.LaidMore
import Derived.Stop.LaidErr
import Derived.Stop.Joined
namespace Go.Proofs.YtfmiicbaooaheaaDoor
open Go.ChangeShapes Go.WideShapes Go.ChangeAt Go.RowKit
set_option linter.unusedVariables false

theorem ownKn : ownKnob Tryd.prog.godebug = none := by kernel_rfl
theorem laidOut : laidOutB Tryd.prog = true := by kernel_rfl
theorem gKb : Tryd.prog.globalNamed "cloister/trace.kindBounds" = some 0 := by kernel_rfl
theorem tKb : (Tryd.prog.globals[0]?).map (·.type) = some 53 := by kernel_rfl
theorem cells52 : Tryd.prog.cellsOf 52 = 3 := by kernel_rfl
theorem cells29 : Tryd.prog.cellsOf 29 = 1 := by kernel_rfl
def kbD (k : Nat) : DataW Unit := .agg [.lit (.int .u32 (kLA k)), .lit (.int .u32 (kMA k)), .lit (.int .u32 (kMB k))]
theorem kb_data : (Rows.laid_cloister_trace_kindBounds : DataW Unit) = .agg ((List.range 8).map kbD) := by kernel_rfl
theorem laid_kb {r : List (String × DataW Unit)} {W : World} (h : laidMet Tryd.prog (("cloister/trace.kindBounds", Rows.laid_cloister_trace_kindBounds) :: r) W) (k : Nat) (hk : k < 8) :
    W.cell? ⟨0, k * 3, none⟩ = some (.int .u32 (kLA k)) ∧ W.cell? ⟨0, k * 3 + 1, none⟩ = some (.int .u32 (kMA k)) ∧ W.cell? ⟨0, k * 3 + 2, none⟩ = some (.int .u32 (kMB k)) := by
  obtain ⟨ps, ⟨g', t', cs, fuel, p, q, hg', ht', hvar, hd, _, _⟩, _⟩ := h
  obtain rfl := Option.some.inj (gKb.symm.trans hg')
  obtain rfl := Option.some.inj (tKb.symm.trans ht')
  obtain ⟨xs, m, rfl, hx, hlen, hxl, hall⟩ := DataW.trod_array Tryd.underlying53 hd
  have hx1 : (Rows.laid_cloister_trace_kindBounds : DataW Unit) = .agg (xs.map (·.1)) := congrArg Prod.fst hx
  rw [kb_data] at hx1
  have hx2 : xs.map (·.1) = (List.range 8).map kbD := by injection hx1.symm
  have hk1 := hall k hk
  have hxk : (xs[k]?).map (·.1) = some (kbD k) := by
    rw [← List.getElem?_map, hx2, List.getElem?_map, List.getElem?_range hk]
    rfl
  cases hq : xs[k]? with
  | none => rw [hq] at hxk; cases hxk
  | some x =>
    rw [hq] at hk1 hxk
    obtain ⟨ys, m', _, hy, hyl, hyn, hyf⟩ := DataW.trod_struct Tryd.underlying52 hk1
    have hx3 : x.1 = kbD k := Option.some.inj hxk
    have hy1 : ys.map (·.1) = [.lit (.int .u32 (kLA k)), .lit (.int .u32 (kMA k)), .lit (.int .u32 (kMB k))] := by
      rw [hy] at hx3
      unfold kbD at hx3
      injection hx3
    obtain ⟨y0, y1, y2, rfl⟩ : ∃ y0 y1 y2, ys = [y0, y1, y2] := by
      clear hyf hy hy1
      have hyn' : ys.length = 3 := hyn
      match ys, hyn' with
      | [a, b, c], _ => exact ⟨a, b, c, rfl⟩
    simp only [List.map_cons, List.map_nil, List.cons.injEq, and_true] at hy1
    obtain ⟨z0, z1, z2⟩ := hy1
    have f0 : DataW.trod (fun _ => ()) Tryd.prog W 0 (fun _ => true) false m' 29 (List.take (Tryd.prog.cellsOf 29) (List.drop 0 (List.take (Tryd.prog.cellsOf 52) (List.drop (k * Tryd.prog.cellsOf 52) cs.toList)))) = some y0 := hyf 0 _ rfl
    have f1 : DataW.trod (fun _ => ()) Tryd.prog W 0 (fun _ => true) false m' 29 (List.take (Tryd.prog.cellsOf 29) (List.drop 1 (List.take (Tryd.prog.cellsOf 52) (List.drop (k * Tryd.prog.cellsOf 52) cs.toList)))) = some y1 := hyf 1 _ rfl
    have f2 : DataW.trod (fun _ => ()) Tryd.prog W 0 (fun _ => true) false m' 29 (List.take (Tryd.prog.cellsOf 29) (List.drop 2 (List.take (Tryd.prog.cellsOf 52) (List.drop (k * Tryd.prog.cellsOf 52) cs.toList)))) = some y2 := hyf 2 _ rfl
    rw [cells29, cells52] at f0
    rw [cells29, cells52] at f1
    rw [cells29, cells52] at f2
    obtain ⟨b0, c0, d0, _⟩ := DataW.trod_int Tryd.underlying29 f0
    obtain ⟨b1, c1, d1, _⟩ := DataW.trod_int Tryd.underlying29 f1
    obtain ⟨b2, c2, d2, _⟩ := DataW.trod_int Tryd.underlying29 f2
    rw [d0] at z0
    rw [d1] at z1
    rw [d2] at z2
    simp only [DataW.lit.injEq, Lit.int.injEq, true_and] at z0 z1 z2
    rw [z0] at c0
    rw [z1] at c1
    rw [z2] at c2
    have e0 : cs.toList[k * 3]? = some (.int .u32 (kLA k)) := by
      have := congrArg (fun l : List Value => l[0]?) c0
      simpa [List.getElem?_take, List.getElem?_drop] using this
    have e1 : cs.toList[k * 3 + 1]? = some (.int .u32 (kMA k)) := by
      have := congrArg (fun l : List Value => l[0]?) c1
      simpa [List.getElem?_take, List.getElem?_drop] using this
    have e2 : cs.toList[k * 3 + 2]? = some (.int .u32 (kMB k)) := by
      have := congrArg (fun l : List Value => l[0]?) c2
      simpa [List.getElem?_take, List.getElem?_drop] using this
    have v0 := World.var?_cell gKb hvar (k * 3)
    have v1 := World.var?_cell gKb hvar (k * 3 + 1)
    have v2 := World.var?_cell gKb hvar (k * 3 + 2)
    rw [← Array.getElem?_toList] at v0 v1 v2
    exact ⟨v0.trans e0, v1.trans e1, v2.trans e2⟩
end Go.Proofs.YtfmiicbaooaheaaDoor
