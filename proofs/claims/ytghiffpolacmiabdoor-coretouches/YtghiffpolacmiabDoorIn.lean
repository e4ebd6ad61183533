import Derived.Test.YtghiffpolacmiabDoorFm
import Derived.Deep.Slices
namespace Go.Proofs.YtghiffpolacmiabDoor
open Go.ChangeShapes Go.WideShapes Go.ChangeAt Go.RowKit
set_option linter.unusedVariables false

theorem wf_i64' {n : Int} (h : (Lit.int .i64 n).wf = true) : -9223372036854775808 ≤ n ∧ n ≤ 9223372036854775807 := by
  simpa [Lit.wf, IntKind.min, IntKind.max, IntKind.signed, IntKind.bits] using h
theorem wf_u32' {n : Int} (h : (Lit.int .u32 n).wf = true) : 0 ≤ n ∧ n < 4294967296 := by
  have : 0 ≤ n ∧ n ≤ 4294967295 := by simpa [Lit.wf, IntKind.min, IntKind.max, IntKind.signed, IntKind.bits] using h
  omega
theorem wf_i32' {n : Int} (h : (Lit.int .i32 n).wf = true) : -2147483648 ≤ n ∧ n ≤ 2147483647 := by
  simpa [Lit.wf, IntKind.min, IntKind.max, IntKind.signed, IntKind.bits] using h
theorem cells25 : Tryd.prog.cellsOf 25 = 21 := by kernel_rfl
theorem cells23 : Tryd.prog.cellsOf 23 = 16 := by kernel_rfl
theorem cells22 : Tryd.prog.cellsOf 22 = 1 := by kernel_rfl
theorem cellsB : Tryd.prog.cellsOf 4 = 1 := by kernel_rfl
/-- Registers within their ranges. -/
structure Rg.ok (g : Rg) : Prop where
  R : ∀ i, 0 ≤ g.R i ∧ g.R i < 4294967296
  pc : 0 ≤ g.pc ∧ g.pc < 4294967296
  vec : 0 ≤ g.vec ∧ g.vec < 4294967296
  back : 0 ≤ g.back ∧ g.back < 4294967296
theorem arr_in {H : Type} {enc : TypeId × Value → H} {W : World} {fuel : Nat} {cs : List Value} {d : DataW H} {p : List MemPlace} (hf : DataW.trod enc Tryd.prog W 0 (fun _ => true) true fuel 23 cs = some (d, p)) : ∃ sr : Nat → Int, (∀ i, i < 16 → cs[i]? = some (Value.int .u32 (sr i))) ∧ ∀ i, i < 16 → 0 ≤ sr i ∧ sr i < 4294967296 := by
  obtain ⟨xs, m, _, hx, hl, hlen, hfi⟩ := DataW.trod_array Tryd.underlying23 hf
  have hvs : ∀ i, i < 16 → ∃ v : Int, cs[i]? = some (.int .u32 v) ∧ 0 ≤ v ∧ v < 4294967296 := by
    intro i hi
    have h1 := hfi i hi
    rw [cells22, Nat.mul_one] at h1
    have hxi : xs[i]? = some xs[i] := List.getElem?_eq_getElem (by omega)
    rw [hxi] at h1
    obtain ⟨v, e, _, hw⟩ := DataW.trod_int Tryd.underlying22 h1
    refine ⟨v, ?_, wf_u32' hw⟩
    have := congrArg (fun l => l[0]?) e
    simpa [List.getElem?_take, List.getElem?_drop] using this
  obtain ⟨f, hf⟩ := Go.Deep.choose_lt hvs
  exact ⟨f, fun i hi => (hf i hi).1, fun i hi => (hf i hi).2⟩
set_option maxRecDepth 100000 in
/-- Registers that came in. -/
theorem regs_in {H : Type} {enc : TypeId × Value → H} {W : World} {r : Reach} {base : Nat} {v : Value} {d : DataW H} {p : List MemPlace}
    (hv : Value.okWide Tryd.prog W r base 25 v) (h : DataW.Trod enc Tryd.prog W 0 (fun _ => true) true 25 v d p) :
    ∃ g : Rg, v = .agg (rgc g).toArray ∧ g.ok := by
  obtain ⟨cs, rfl, hsz⟩ := okWide_struct Tryd.underlying25 hv
  rw [cells25] at hsz
  obtain ⟨fuel, hf⟩ := h
  obtain ⟨xs, m, _, hx, hl, hlen, hfi⟩ := DataW.trod_struct Tryd.underlying25 hf
  have hlen' : xs.length = 6 := hlen
  have g : ∀ i, i < 6 → ∃ y, xs[i]? = some y := fun i hi => ⟨_, List.getElem?_eq_getElem (by omega)⟩
  obtain ⟨y0, g0⟩ := g 0 (by omega)
  obtain ⟨y1, g1⟩ := g 1 (by omega)
  obtain ⟨y2, g2⟩ := g 2 (by omega)
  obtain ⟨y3, g3⟩ := g 3 (by omega)
  obtain ⟨y4, g4⟩ := g 4 (by omega)
  obtain ⟨y5, g5⟩ := g 5 (by omega)
  have f0 : DataW.trod enc Tryd.prog W 0 (fun _ => true) true m 23 ((cs.toList.drop 0).take (Tryd.prog.cellsOf 23)) = xs[0]? := hfi 0 _ rfl
  have f1 : DataW.trod enc Tryd.prog W 0 (fun _ => true) true m 22 ((cs.toList.drop 16).take (Tryd.prog.cellsOf 22)) = xs[1]? := hfi 1 _ rfl
  have f2 : DataW.trod enc Tryd.prog W 0 (fun _ => true) true m 22 ((cs.toList.drop 17).take (Tryd.prog.cellsOf 22)) = xs[2]? := hfi 2 _ rfl
  have f3 : DataW.trod enc Tryd.prog W 0 (fun _ => true) true m 22 ((cs.toList.drop 18).take (Tryd.prog.cellsOf 22)) = xs[3]? := hfi 3 _ rfl
  have f4 : DataW.trod enc Tryd.prog W 0 (fun _ => true) true m 4 ((cs.toList.drop 19).take (Tryd.prog.cellsOf 4)) = xs[4]? := hfi 4 _ rfl
  have f5 : DataW.trod enc Tryd.prog W 0 (fun _ => true) true m 4 ((cs.toList.drop 20).take (Tryd.prog.cellsOf 4)) = xs[5]? := hfi 5 _ rfl
  rw [g0, cells23] at f0
  rw [g1, cells22] at f1
  rw [g2, cells22] at f2
  rw [g3, cells22] at f3
  rw [g4, cellsB] at f4
  rw [g5, cellsB] at f5
  obtain ⟨sr, e0, h0⟩ := arr_in f0
  obtain ⟨a, e1, _, w1⟩ := DataW.trod_int Tryd.underlying22 f1
  obtain ⟨b, e2, _, w2⟩ := DataW.trod_int Tryd.underlying22 f2
  obtain ⟨c, e3, _, w3⟩ := DataW.trod_int Tryd.underlying22 f3
  obtain ⟨on, e4, _⟩ := DataW.trod_bool Tryd.underlying4 f4
  obtain ⟨hd, e5, _⟩ := DataW.trod_bool Tryd.underlying4 f5
  refine ⟨⟨fun i => if i < 16 then sr i else 0, a, b, c, on, hd⟩, ?_, fun i => ?_, wf_u32' w1, wf_u32' w2, wf_u32' w3⟩
  · have a1 := congrArg (fun l => l[0]?) e1
    have a2 := congrArg (fun l => l[0]?) e2
    have a3 := congrArg (fun l => l[0]?) e3
    have a4 := congrArg (fun l => l[0]?) e4
    have a5 := congrArg (fun l => l[0]?) e5
    simp only [List.getElem?_take, List.getElem?_drop, Nat.add_zero, Nat.zero_lt_one, if_true, List.getElem?_cons_zero] at a1 a2 a3 a4 a5
    have e0' : ∀ i, i < 16 → cs.toList[i]? = some (Value.int .u32 (sr i)) := fun i hi => by
      have := e0 i hi
      simpa [List.getElem?_take, List.getElem?_drop, hi] using this
    have hl' : cs.toList.length = 21 := by simpa using hsz
    congr 1
    apply Array.toList_inj.1
    apply List.ext_getElem?
    intro i
    by_cases hi : i < 16
    · rw [e0' i hi]
      show _ = (rgc ⟨fun i => if i < 16 then sr i else 0, a, b, c, on, hd⟩)[i]?
      rw [rgc_R _ i hi]
      simp [hi]
    · by_cases h16 : i = 16
      · subst h16; exact a1
      by_cases h17 : i = 17
      · subst h17; exact a2
      by_cases h18 : i = 18
      · subst h18; exact a3
      by_cases h19 : i = 19
      · subst h19; exact a4
      by_cases h20 : i = 20
      · subst h20; exact a5
      rw [List.getElem?_eq_none (by omega), List.getElem?_eq_none (by show 21 ≤ i; omega)]
  · show 0 ≤ (if i < 16 then sr i else 0) ∧ (if i < 16 then sr i else 0) < 4294967296
    split
    · exact h0 i (by assumption)
    · omega
theorem two_of_laid {W : World} (h : Gt W) : 2 ≤ W.heap.size := by
  have h1 := (h.ops 0 (by omega)).1
  rcases Nat.lt_or_ge 1 W.heap.size with h | h
  · exact h
  · exfalso
    have : W.heap[1]? = none := Array.getElem?_eq_none h
    simp [World.cell?, this] at h1
end Go.Proofs.YtghiffpolacmiabDoor
