import Derived.Test.YtoagdcdmahpglaaDoorCards
import Derived.Test.YtoagdcdmahpglaaDoorTie
import Derived.Test.YtoagdcdmahpglaaDoorNg
import Derived.Lib.LaidTab
import Derived.LaidMore
import Derived.Stop.LaidErr
import Derived.Stop.Joined
import Derived.ShutString
import Derived.SizedLaws
import Derived.Deep.Slices
namespace Go.Proofs.YtoagdcdmahpglaaDoor
open Go.ChangeShapes Go.WideShapes Go.ChangeAt Go.RowKit Go.Deep
set_option linter.unusedVariables false

theorem own : ownKnob Tryd.prog.godebug = none := by kernel_rfl
theorem laidOut : laidOutB Tryd.prog = true := by kernel_rfl
theorem gPt : Tryd.prog.globalNamed "cloister/entry.permOf" = some 0 := by kernel_rfl
theorem tPt : (Tryd.prog.globals[0]?).map (·.type) = some 126 := by kernel_rfl
theorem cells126 : Tryd.prog.cellsOf 126 = 4 := by kernel_rfl
theorem cells37 : Tryd.prog.cellsOf 37 = 1 := by kernel_rfl
theorem cells23 : Tryd.prog.cellsOf 23 = 1 := by kernel_rfl
theorem cells3' : Tryd.prog.cellsOf 3 = 1 := by kernel_rfl
theorem cells39 : Tryd.prog.cellsOf 39 = 4 := by kernel_rfl
theorem perm_of_laid {W : World} (h : laidMet Tryd.prog [("cloister/entry.permOf", Rows.laid_cloister_entry_permOf)] W) : Ent.Pt W := by
  have hT := Lib.tabIs_of_head (zs := [0, 1, 2, 4]) (k := .u8) gPt tPt Tryd.underlying126 Tryd.underlying37 cells37 cells126 h
  exact ⟨hT.cell gPt 0 (by decide), hT.cell gPt 1 (by decide), hT.cell gPt 2 (by decide), hT.cell gPt 3 (by decide)⟩
theorem wf_i64' {n : Int} (h : (Lit.int .i64 n).wf = true) : -9223372036854775808 ≤ n ∧ n ≤ 9223372036854775807 := by
  simpa [Lit.wf, IntKind.min, IntKind.max, IntKind.signed, IntKind.bits] using h
theorem wf_u8' {n : Int} (h : (Lit.int .u8 n).wf = true) : 0 ≤ n ∧ n ≤ 255 := by
  simpa [Lit.wf, IntKind.min, IntKind.max, IntKind.signed, IntKind.bits] using h
theorem wf_u32' {n : Int} (h : (Lit.int .u32 n).wf = true) : 0 ≤ n ∧ n ≤ 4294967295 := by
  simpa [Lit.wf, IntKind.min, IntKind.max, IntKind.signed, IntKind.bits] using h
theorem choose_lt {α : Type} [Inhabited α] {n : Nat} {P : Nat → α → Prop} (h : ∀ i, i < n → ∃ v, P i v) : ∃ f : Nat → α, ∀ i, i < n → P i (f i) := by
  classical
  exact ⟨fun i => if hi : i < n then Classical.choose (h i hi) else default, fun i hi => by simp only [hi, dif_pos]; exact Classical.choose_spec (h i hi)⟩
instance : Inhabited Rv := ⟨⟨0, 0, 0, 0⟩⟩
set_option maxRecDepth 8000 in
/-- A range that came in. -/
theorem rg_in {H : Type} {enc : TypeId × Value → H} {W : World} {fuel : Nat} {cs : List Value} {d : DataW H} {p : List MemPlace}
    (hf : DataW.trod enc Tryd.prog W 0 (fun _ => true) true fuel 39 cs = some (d, p)) :
    ∃ v : Rv, cs = rgC v ∧ v.ok := by
  obtain ⟨xs, n, _, hx, hl, hlen, hfi⟩ := DataW.trod_struct Tryd.underlying39 hf
  rw [cells39] at hl
  have hlen' : xs.length = 4 := hlen
  clear hlen
  obtain ⟨c0, c1, c2, c3, rfl⟩ : ∃ c0 c1 c2 c3, cs = [c0, c1, c2, c3] := by
    match cs, hl with
    | [c0, c1, c2, c3], _ => exact ⟨c0, c1, c2, c3, rfl⟩
  obtain ⟨y0, y1, y2, y3, rfl⟩ : ∃ c0 c1 c2 c3, xs = [c0, c1, c2, c3] := by
    clear hfi hx
    match xs, hlen' with
    | [c0, c1, c2, c3], _ => exact ⟨c0, c1, c2, c3, rfl⟩
  have f0 := hfi 0 _ rfl
  have f1 := hfi 1 _ rfl
  have f2 := hfi 2 _ rfl
  have f3 := hfi 3 _ rfl
  simp [cells3', cells23, cells37] at f0 f1 f2 f3
  obtain ⟨a, e0, _, w0⟩ := DataW.trod_int Tryd.underlying23 f0
  obtain ⟨b, e1, _, w1⟩ := DataW.trod_int Tryd.underlying23 f1
  obtain ⟨c, e2, _, w2⟩ := DataW.trod_int Tryd.underlying3 f2
  obtain ⟨q, e3, _, w3⟩ := DataW.trod_int Tryd.underlying37 f3
  simp at e0 e1 e2 e3
  subst e0 e1 e2 e3
  have u0 := wf_u32' w0
  have u1 := wf_u32' w1
  have u2 := wf_i64' w2
  have u3 := wf_u8' w3
  refine ⟨⟨a.toNat, b.toNat, c, q.toNat⟩, ?_, ?_⟩
  · simp only [rgC]
    rw [Int.toNat_of_nonneg u0.1, Int.toNat_of_nonneg u1.1, Int.toNat_of_nonneg u3.1]
  · unfold Rv.ok
    simp only
    omega
/-- Ranges that came in: the first n of them. -/
theorem ranges_in {H : Type} {enc : TypeId × Value → H} {W : World} {a0 : Option Addr} {len cap : Nat} {d : DataW H} {p : List MemPlace} (n : Nat) (hn : n ≤ len) (hn6 : n ≤ 1000000)
    (h : DataW.Trod enc Tryd.prog W 0 (fun _ => true) true 22 (.slice a0 len cap) d p) : ∃ l, l.length = n ∧ RgsIn W a0 l ∧ len ≤ cap := by
  obtain ⟨fuel, hf⟩ := h
  rcases open_slice Tryd.underlying22 hf with ⟨hcs, hx⟩ | ⟨x, l, c, m, n', D, Pl, hcs, _, hl, hm, hmm, hx, hel⟩
  · simp [Value.cells] at hcs
    obtain ⟨rfl, rfl, rfl⟩ := hcs
    exact ⟨[], by simp; omega, ⟨by simp, by simp, .inl rfl⟩, by omega⟩
  · simp [Value.cells] at hcs
    obtain ⟨rfl, rfl, rfl⟩ := hcs
    simp only [if_true] at hmm
    subst hmm
    have hvs : ∀ i, i < len → ∃ v : Rv, (∃ cs, W.cells? 0 (x.add (i * 4)) 4 = some cs ∧ cs = rgC v) ∧ v.ok := by
      intro i hi
      obtain ⟨cs', hc, ht'⟩ := hel i (by omega)
      rw [cells39] at hc
      obtain ⟨v, hv, ho⟩ := rg_in ht'
      exact ⟨v, ⟨cs', hc, hv⟩, ho⟩
    obtain ⟨f, hfv⟩ := choose_lt hvs
    refine ⟨(List.range n).map f, by simp, ⟨by simp; omega, ?_, ?_⟩, by omega⟩
    · intro v hv
      simp at hv
      obtain ⟨i, hi, rfl⟩ := hv
      exact (hfv i (by omega)).2
    · by_cases h0 : n = 0
      · exact .inl (by simp [h0])
      · right
        obtain ⟨b, off, spot⟩ := x
        have hcell : ∀ i, i < len → ∀ q, q < 4 → W.cell? ((⟨b, off, spot⟩ : Addr).add (i * 4) |>.add q) = (rgC (f i))[q]? := by
          intro i hi q hq
          obtain ⟨⟨cs, hc, he⟩, _⟩ := hfv i hi
          have hcell := World.cells?_some hc
          rw [hcell.2.2 q hq, he]
        have hspot : spot = none := by
          have := hcell 0 (by omega) 0 (by omega)
          simpa [Addr.add] using World.cell?_spot this
        subst hspot
        refine ⟨b, off, rfl, fun i hi => ?_⟩
        simp at hi
        have g : ∀ q, q < 4 → W.cell? ⟨b, off + i * 4 + q, none⟩ = (rgC (f i))[q]? := by
          intro q hq
          have := hcell i (by omega) q hq
          rw [Addr.add_lit, Addr.add_lit] at this
          exact this
        simp only [List.getElem_map, List.getElem_range]
        exact ⟨g 0 (by omega), g 1 (by omega), g 2 (by omega), g 3 (by omega)⟩
end Go.Proofs.YtoagdcdmahpglaaDoor
