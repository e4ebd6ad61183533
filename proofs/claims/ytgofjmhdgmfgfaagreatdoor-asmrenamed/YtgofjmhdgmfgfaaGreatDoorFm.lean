import Derived.Test.YtgofjmhdgmfgfaaGreatDoorCards
import Derived.Test.YtgofjmhdgmfgfaaGreatDoorTie
import Derived.Test.YtgofjmhdgmfgfaaGreatDoorAo
import Derived.Shelf.Vars
import Derived.Lib.LaidTab
import Derived.LaidMore
import Derived.Stop.LaidErr
import Derived.Stop.Joined
import Derived.ShutString
import Derived.SizedLaws
namespace Go.Proofs.YtgofjmhdgmfgfaaGreatDoor
open Go.ChangeShapes Go.WideShapes Go.ChangeAt Go.RowKit
set_option linter.unusedVariables false

theorem own : ownKnob Tryz.prog.godebug = none := by kernel_rfl
theorem laidOut : laidOutB Tryz.prog = true := by kernel_rfl
theorem tPow : (Tryz.prog.globals[3]?).map (·.type) = some 207 := by kernel_rfl
theorem cells111 : Tryz.prog.cellsOf 207 = 20 := by kernel_rfl
theorem cells104 : Tryz.prog.cellsOf 71 = 1 := by kernel_rfl
theorem gOps : Tryz.prog.globalNamed "cloister/isa.ops" = some 1 := by kernel_rfl
theorem tOps : (Tryz.prog.globals[1]?).map (·.type) = some 185 := by kernel_rfl
theorem gLay : Tryz.prog.globalNamed "cloister/isa.layouts" = some 0 := by kernel_rfl
theorem tLay : (Tryz.prog.globals[0]?).map (·.type) = some 170 := by kernel_rfl
theorem cells60 : Tryz.prog.cellsOf 140 = 3 := by kernel_rfl
theorem cells62 : Tryz.prog.cellsOf 185 = 147 := by kernel_rfl
theorem cells76 : Tryz.prog.cellsOf 127 = 4 := by kernel_rfl
theorem cells96 : Tryz.prog.cellsOf 170 = 36 := by kernel_rfl
theorem cellsS9 : Tryz.prog.cellsOf 9 = 1 := by kernel_rfl
theorem cells37 : Tryz.prog.cellsOf 114 = 1 := by kernel_rfl
theorem cells58 : Tryz.prog.cellsOf 138 = 1 := by kernel_rfl
theorem cells54 : Tryz.prog.cellsOf 66 = 1 := by kernel_rfl
def opD (k : Nat) : DataW Unit := .agg [.lit (.string (nmTab.getD k [])), .lit (.int .i64 (fmTab.getD k 0 : Nat)), .lit (.int .i64 (tkTab.getD k 0 : Nat))]
def lyD (f : Nat) : DataW Unit := .agg [.lit (.int .u64 (lD f : Nat)), .lit (.int .u64 (lA f : Nat)), .lit (.int .u64 (lB f : Nat)), .lit (.int .u64 (lI f : Nat))]
theorem ops_data : (Rows.laid_cloister_isa_ops : DataW Unit) = .agg ((List.range 49).map opD) := by kernel_rfl
theorem lay_data : (Rows.laid_cloister_isa_layouts : DataW Unit) = .agg ((List.range 9).map lyD) := by kernel_rfl
theorem sb_data {s : ByteArray} {l : List UInt8} (h : s.data.toList = l) : s = sb l := by
  subst h
  rfl
theorem laid_ops {r : List (String × DataW Unit)} {W : World} (h : laidMet Tryz.prog (("cloister/isa.ops", Rows.laid_cloister_isa_ops) :: r) W) (k : Nat) (hk : k < 49) :
    W.cell? ⟨1, k * 3, none⟩ = some (.string (sb (nmTab.getD k []))) ∧ W.cell? ⟨1, k * 3 + 1, none⟩ = some (.int .i64 (fmTab.getD k 0 : Nat)) ∧ W.cell? ⟨1, k * 3 + 2, none⟩ = some (.int .i64 (tkTab.getD k 0 : Nat)) := by
  obtain ⟨ps, ⟨g', t', cs, fuel, p, q, hg', ht', hvar, hd, _, _⟩, _⟩ := h
  obtain rfl := Option.some.inj (gOps.symm.trans hg')
  obtain rfl := Option.some.inj (tOps.symm.trans ht')
  obtain ⟨xs, m, rfl, hx, hlen, hxl, hall⟩ := DataW.trod_array Tryz.underlying185 hd
  have hx1 : (Rows.laid_cloister_isa_ops : DataW Unit) = .agg (xs.map (·.1)) := congrArg Prod.fst hx
  rw [ops_data] at hx1
  have hx2 : xs.map (·.1) = (List.range 49).map opD := by injection hx1.symm
  have hk1 := hall k hk
  have hxk : (xs[k]?).map (·.1) = some (opD k) := by
    rw [← List.getElem?_map, hx2, List.getElem?_map, List.getElem?_range hk]
    rfl
  cases hq : xs[k]? with
  | none => rw [hq] at hxk; cases hxk
  | some x =>
    rw [hq] at hk1 hxk
    obtain ⟨ys, m', _, hy, hyl, hyn, hyf⟩ := DataW.trod_struct Tryz.underlying140 hk1
    have hx3 : x.1 = opD k := Option.some.inj hxk
    have hy1 : ys.map (·.1) = [.lit (.string (nmTab.getD k [])), .lit (.int .i64 (fmTab.getD k 0 : Nat)), .lit (.int .i64 (tkTab.getD k 0 : Nat))] := by
      rw [hy] at hx3
      unfold opD at hx3
      injection hx3
    obtain ⟨y0, y1, y2, rfl⟩ : ∃ y0 y1 y2, ys = [y0, y1, y2] := by
      clear hyf hy hy1
      have hyn' : ys.length = 3 := hyn
      match ys, hyn' with
      | [a, b, c], _ => exact ⟨a, b, c, rfl⟩
    simp only [List.map_cons, List.map_nil, List.cons.injEq, and_true] at hy1
    obtain ⟨z0, z1, z2⟩ := hy1
    have f0 : DataW.trod (fun _ => ()) Tryz.prog W 0 (fun _ => true) false m' 9 (List.take (Tryz.prog.cellsOf 9) (List.drop 0 (List.take (Tryz.prog.cellsOf 140) (List.drop (k * Tryz.prog.cellsOf 140) cs.toList)))) = some y0 := hyf 0 _ rfl
    have f1 : DataW.trod (fun _ => ()) Tryz.prog W 0 (fun _ => true) false m' 114 (List.take (Tryz.prog.cellsOf 114) (List.drop 1 (List.take (Tryz.prog.cellsOf 140) (List.drop (k * Tryz.prog.cellsOf 140) cs.toList)))) = some y1 := hyf 1 _ rfl
    have f2 : DataW.trod (fun _ => ()) Tryz.prog W 0 (fun _ => true) false m' 138 (List.take (Tryz.prog.cellsOf 138) (List.drop 2 (List.take (Tryz.prog.cellsOf 140) (List.drop (k * Tryz.prog.cellsOf 140) cs.toList)))) = some y2 := hyf 2 _ rfl
    rw [cellsS9, cells60] at f0
    rw [cells37, cells60] at f1
    rw [cells58, cells60] at f2
    obtain ⟨b0, c0, d0, _⟩ := DataW.trod_string Tryz.underlying9 f0
    obtain ⟨b1, c1, d1, _⟩ := DataW.trod_int Tryz.underlying114 f1
    obtain ⟨b2, c2, d2, _⟩ := DataW.trod_int Tryz.underlying138 f2
    rw [d0] at z0
    rw [d1] at z1
    rw [d2] at z2
    simp only [DataW.lit.injEq, Lit.string.injEq, Lit.int.injEq, true_and] at z0 z1 z2
    rw [z1] at c1
    rw [z2] at c2
    rw [sb_data z0] at c0
    have e0 : cs.toList[k * 3]? = some (.string (sb (nmTab.getD k []))) := by
      have := congrArg (fun l : List Value => l[0]?) c0
      simpa [List.getElem?_take, List.getElem?_drop] using this
    have e1 : cs.toList[k * 3 + 1]? = some (.int .i64 (fmTab.getD k 0 : Nat)) := by
      have := congrArg (fun l : List Value => l[0]?) c1
      simpa [List.getElem?_take, List.getElem?_drop] using this
    have e2 : cs.toList[k * 3 + 2]? = some (.int .i64 (tkTab.getD k 0 : Nat)) := by
      have := congrArg (fun l : List Value => l[0]?) c2
      simpa [List.getElem?_take, List.getElem?_drop] using this
    have v0 := World.var?_cell gOps hvar (k * 3)
    have v1 := World.var?_cell gOps hvar (k * 3 + 1)
    have v2 := World.var?_cell gOps hvar (k * 3 + 2)
    rw [← Array.getElem?_toList] at v0 v1 v2
    exact ⟨v0.trans e0, v1.trans e1, v2.trans e2⟩
theorem laid_lay {r : List (String × DataW Unit)} {W : World} (h : laidMet Tryz.prog (("cloister/isa.layouts", Rows.laid_cloister_isa_layouts) :: r) W) (k : Nat) (hk : k < 9) :
    W.cell? ⟨0, k * 4, none⟩ = some (.int .u64 (lD k : Nat)) ∧ W.cell? ⟨0, k * 4 + 1, none⟩ = some (.int .u64 (lA k : Nat)) ∧ W.cell? ⟨0, k * 4 + 2, none⟩ = some (.int .u64 (lB k : Nat)) ∧ W.cell? ⟨0, k * 4 + 3, none⟩ = some (.int .u64 (lI k : Nat)) := by
  obtain ⟨ps, ⟨g', t', cs, fuel, p, q, hg', ht', hvar, hd, _, _⟩, _⟩ := h
  obtain rfl := Option.some.inj (gLay.symm.trans hg')
  obtain rfl := Option.some.inj (tLay.symm.trans ht')
  obtain ⟨xs, m, rfl, hx, hlen, hxl, hall⟩ := DataW.trod_array Tryz.underlying170 hd
  have hx1 : (Rows.laid_cloister_isa_layouts : DataW Unit) = .agg (xs.map (·.1)) := congrArg Prod.fst hx
  rw [lay_data] at hx1
  have hx2 : xs.map (·.1) = (List.range 9).map lyD := by injection hx1.symm
  have hk1 := hall k hk
  have hxk : (xs[k]?).map (·.1) = some (lyD k) := by
    rw [← List.getElem?_map, hx2, List.getElem?_map, List.getElem?_range hk]
    rfl
  cases hq : xs[k]? with
  | none => rw [hq] at hxk; cases hxk
  | some x =>
    rw [hq] at hk1 hxk
    obtain ⟨ys, m', _, hy, hyl, hyn, hyf⟩ := DataW.trod_struct Tryz.underlying127 hk1
    have hx3 : x.1 = lyD k := Option.some.inj hxk
    have hy1 : ys.map (·.1) = [.lit (.int .u64 (lD k : Nat)), .lit (.int .u64 (lA k : Nat)), .lit (.int .u64 (lB k : Nat)), .lit (.int .u64 (lI k : Nat))] := by
      rw [hy] at hx3
      unfold lyD at hx3
      injection hx3
    obtain ⟨y0, y1, y2, y3, rfl⟩ : ∃ y0 y1 y2 y3, ys = [y0, y1, y2, y3] := by
      clear hyf hy hy1
      have hyn' : ys.length = 4 := hyn
      match ys, hyn' with
      | [a, b, c, d], _ => exact ⟨a, b, c, d, rfl⟩
    simp only [List.map_cons, List.map_nil, List.cons.injEq, and_true] at hy1
    obtain ⟨z0, z1, z2, z3⟩ := hy1
    have f0 : DataW.trod (fun _ => ()) Tryz.prog W 0 (fun _ => true) false m' 66 (List.take (Tryz.prog.cellsOf 66) (List.drop 0 (List.take (Tryz.prog.cellsOf 127) (List.drop (k * Tryz.prog.cellsOf 127) cs.toList)))) = some y0 := hyf 0 _ rfl
    have f1 : DataW.trod (fun _ => ()) Tryz.prog W 0 (fun _ => true) false m' 66 (List.take (Tryz.prog.cellsOf 66) (List.drop 1 (List.take (Tryz.prog.cellsOf 127) (List.drop (k * Tryz.prog.cellsOf 127) cs.toList)))) = some y1 := hyf 1 _ rfl
    have f2 : DataW.trod (fun _ => ()) Tryz.prog W 0 (fun _ => true) false m' 66 (List.take (Tryz.prog.cellsOf 66) (List.drop 2 (List.take (Tryz.prog.cellsOf 127) (List.drop (k * Tryz.prog.cellsOf 127) cs.toList)))) = some y2 := hyf 2 _ rfl
    have f3 : DataW.trod (fun _ => ()) Tryz.prog W 0 (fun _ => true) false m' 66 (List.take (Tryz.prog.cellsOf 66) (List.drop 3 (List.take (Tryz.prog.cellsOf 127) (List.drop (k * Tryz.prog.cellsOf 127) cs.toList)))) = some y3 := hyf 3 _ rfl
    rw [cells54, cells76] at f0
    rw [cells54, cells76] at f1
    rw [cells54, cells76] at f2
    rw [cells54, cells76] at f3
    obtain ⟨b0, c0, d0, _⟩ := DataW.trod_int Tryz.underlying66 f0
    obtain ⟨b1, c1, d1, _⟩ := DataW.trod_int Tryz.underlying66 f1
    obtain ⟨b2, c2, d2, _⟩ := DataW.trod_int Tryz.underlying66 f2
    obtain ⟨b3, c3, d3, _⟩ := DataW.trod_int Tryz.underlying66 f3
    rw [d0] at z0
    rw [d1] at z1
    rw [d2] at z2
    rw [d3] at z3
    simp only [DataW.lit.injEq, Lit.int.injEq, true_and] at z0 z1 z2 z3
    rw [z0] at c0
    rw [z1] at c1
    rw [z2] at c2
    rw [z3] at c3
    have e0 : cs.toList[k * 4]? = some (.int .u64 (lD k : Nat)) := by
      have := congrArg (fun l : List Value => l[0]?) c0
      simpa [List.getElem?_take, List.getElem?_drop] using this
    have e1 : cs.toList[k * 4 + 1]? = some (.int .u64 (lA k : Nat)) := by
      have := congrArg (fun l : List Value => l[0]?) c1
      simpa [List.getElem?_take, List.getElem?_drop] using this
    have e2 : cs.toList[k * 4 + 2]? = some (.int .u64 (lB k : Nat)) := by
      have := congrArg (fun l : List Value => l[0]?) c2
      simpa [List.getElem?_take, List.getElem?_drop] using this
    have e3 : cs.toList[k * 4 + 3]? = some (.int .u64 (lI k : Nat)) := by
      have := congrArg (fun l : List Value => l[0]?) c3
      simpa [List.getElem?_take, List.getElem?_drop] using this
    have v0 := World.var?_cell gLay hvar (k * 4)
    have v1 := World.var?_cell gLay hvar (k * 4 + 1)
    have v2 := World.var?_cell gLay hvar (k * 4 + 2)
    have v3 := World.var?_cell gLay hvar (k * 4 + 3)
    rw [← Array.getElem?_toList] at v0 v1 v2 v3
    exact ⟨v0.trans e0, v1.trans e1, v2.trans e2, v3.trans e3⟩
theorem gShp : Tryz.prog.globalNamed "cloister/asm.shapes" = some 2 := by kernel_rfl
theorem tShp : (Tryz.prog.globals[2]?).map (·.type) = some 200 := by kernel_rfl
theorem gBru : Tryz.prog.globalNamed "math/bits.deBruijn64tab" = some 6 := by kernel_rfl
theorem tBru : (Tryz.prog.globals[6]?).map (·.type) = some 224 := by kernel_rfl
def bruTab : List Int := [0, 1, 56, 2, 57, 49, 28, 3, 61, 58, 42, 50, 38, 29, 17, 4, 62, 47, 59, 36, 45, 43, 51, 22, 53, 39, 33, 30, 24, 18, 12, 5, 63, 55, 48, 27, 60, 41, 37, 16, 46, 35, 44, 21, 52, 32, 23, 11, 54, 26, 40, 15, 34, 20, 31, 10, 25, 14, 19, 9, 13, 8, 7, 6]
theorem cells5b : Tryz.prog.cellsOf 5 = 1 := by kernel_rfl
theorem cells224 : Tryz.prog.cellsOf 224 = 64 := by kernel_rfl
theorem shp_data : (Rows.laid_cloister_asm_shapes : DataW Unit) = .agg ((List.range 9).map fun k => .lit (.string (shTb.getD k []))) := by kernel_rfl
theorem laid_shp {r : List (String × DataW Unit)} {W : World} (h : laidMet Tryz.prog (("cloister/asm.shapes", Rows.laid_cloister_asm_shapes) :: r) W) (k : Nat) (hk : k < 9) :
    W.cell? ⟨2, k, none⟩ = some (.string (sb (shTb.getD k []))) := by
  obtain ⟨ps, ⟨g', t', cs, fuel, p, q, hg', ht', hvar, hd, _, _⟩, _⟩ := h
  obtain rfl := Option.some.inj (gShp.symm.trans hg')
  obtain rfl := Option.some.inj (tShp.symm.trans ht')
  obtain ⟨xs, m, rfl, hx, hlen, hxl, hall⟩ := DataW.trod_array Tryz.underlying200 hd
  have hx1 : (Rows.laid_cloister_asm_shapes : DataW Unit) = .agg (xs.map (·.1)) := congrArg Prod.fst hx
  rw [shp_data] at hx1
  have hx2 : xs.map (·.1) = (List.range 9).map fun k => .lit (.string (shTb.getD k [])) := by injection hx1.symm
  have hk1 := hall k hk
  have hxk : (xs[k]?).map (·.1) = some (.lit (.string (shTb.getD k []))) := by
    rw [← List.getElem?_map, hx2, List.getElem?_map, List.getElem?_range hk]
    rfl
  cases hq : xs[k]? with
  | none => rw [hq] at hxk; cases hxk
  | some x =>
    rw [hq] at hk1 hxk
    have hx3 : x.1 = .lit (.string (shTb.getD k [])) := Option.some.inj hxk
    have f0 : DataW.trod (fun _ => ()) Tryz.prog W 0 (fun _ => true) false m 9 (List.take (Tryz.prog.cellsOf 9) (List.drop (k * Tryz.prog.cellsOf 9) cs.toList)) = some x := hk1
    rw [cellsS9] at f0
    obtain ⟨b0, c0, d0, _⟩ := DataW.trod_string Tryz.underlying9 f0
    rw [d0] at hx3
    simp only [DataW.lit.injEq, Lit.string.injEq] at hx3
    rw [sb_data hx3] at c0
    have e0 : cs.toList[k]? = some (.string (sb (shTb.getD k []))) := by
      have := congrArg (fun l : List Value => l[0]?) c0
      simpa [List.getElem?_take, List.getElem?_drop] using this
    have v0 := World.var?_cell gShp hvar k
    rw [← Array.getElem?_toList] at v0
    exact v0.trans e0
/-- What the list of variables and the world's shape give. -/
theorem gs_of_laid {a b d : String × DataW Unit} {W : World} (h : laidMet Tryz.prog [a, ("math/bits.deBruijn64tab", Rows.laid_math_bits_deBruijn64tab), ("internal/strconv.uint64pow10", Rows.laid_internal_strconv_uint64pow10), b, ("cloister/isa.ops", Rows.laid_cloister_isa_ops), ("cloister/isa.layouts", Rows.laid_cloister_isa_layouts), ("cloister/asm.shapes", Rows.laid_cloister_asm_shapes), d] W) (hs : W.ShapedOpen Tryz.prog) : Gs W := by
  have h1 := laidMet.tail h
  have h2 := laidMet.tail h1
  have h3 := laidMet.tail (laidMet.tail h2)
  have h4 := laidMet.tail h3
  have h5 := laidMet.tail h4
  refine ⟨⟨⟨laid_ops h3, laid_lay h4⟩, Lib.tabIs_of_head (zs := Lib.pow10Tab) (k := .u64) gPow tPow Tryz.underlying207 Tryz.underlying71 cells104 cells111 h2⟩, laid_shp h5, ?_, ?_⟩
  · exact cell_of_shapedOpen_int (t := 3) (zero := #[.int .i64 0]) hs (of_decide_eq_true (by kernel_rfl)) (by kernel_rfl) rfl (by kernel_rfl) (by kernel_rfl) Tryz.underlying3
  · have := (Lib.tabIs_of_head (zs := bruTab) (k := .u8) gBru tBru Tryz.underlying224 Tryz.underlying5 cells5b cells224 h1).cell gBru 15 (by decide)
    exact this
theorem nine {W : World} (hs : W.ShapedOpen Tryz.prog) : 9 ≤ W.heap.size := by
  have h : (((begin Tryz.prog (fun _ _ => 0) default).world.heap[8]?).bind Obj.row?).isSome = true := by kernel_rfl
  obtain ⟨⟨zero, t⟩, h0⟩ := Option.isSome_iff_exists.1 h
  obtain ⟨cs, hh, _⟩ := hs.1 8 zero t (of_decide_eq_true (by kernel_rfl)) h0
  have := hp_lt hh
  omega
end Go.Proofs.YtgofjmhdgmfgfaaGreatDoor
