import Derived.Test.YtadpgaaijdpbiaaTt
import Derived.Deep.Slices
import Derived.ShutString
import Derived.ChangeOld
import Derived.SizedLaws
namespace Go.Proofs.Ytadpgaaijdpbiaa
open Go.ChangeShapes Go.WideShapes Go.ChangeAt Go.RowKit Go.Deep Go.Shelf
set_option linter.unusedVariables false

theorem own' : ownKnob Try.prog.godebug = none := by kernel_rfl
theorem wfi {n : Int} (h : (Lit.int .i64 n).wf = true) : InI n := by
  simpa [InI, Lit.wf, IntKind.min, IntKind.max, IntKind.signed, IntKind.bits] using h
theorem wfu {n : Int} (h : (Lit.int .u32 n).wf = true) : 0 ≤ n ∧ n ≤ 4294967295 := by
  simpa [Lit.wf, IntKind.min, IntKind.max, IntKind.signed, IntKind.bits] using h
theorem cells44 : Try.prog.cellsOf 44 = 3 := by kernel_rfl
theorem bytes44 : Try.prog.bytesOf 44 = 24 := by kernel_rfl

/-- A list of uses that can be read. -/
structure UsesIn (w : World) (a : Option Addr) (len cap : Nat) (F : Nat → Int × Int × Int) : Prop where
  src : len = 0 ∨ ∃ b off, a = some ⟨b, off, none⟩ ∧ b < w.heap.size ∧ ∀ i, i < len → w.cell? ⟨b, off + i * 3, none⟩ = some (.int .i64 (F i).1) ∧ w.cell? ⟨b, off + i * 3 + 1, none⟩ = some (.int .i64 (F i).2.1) ∧ w.cell? ⟨b, off + i * 3 + 2, none⟩ = some (.int .i64 (F i).2.2)
  ok : ∀ i, i < len → UOk (F i)
  lc : len ≤ cap
  le : len ≤ 17592186043904
theorem UsesIn.kept {w w' : World} {a : Option Addr} {len cap : Nat} {F : Nat → Int × Int × Int} (h : UsesIn w a len cap F) (hc : Kp w w') : UsesIn w' a len cap F := by
  refine ⟨h.src.imp_right ?_, h.ok, h.lc, h.le⟩
  rintro ⟨b, off, rfl, hb, hh⟩
  exact ⟨b, off, rfl, Nat.lt_of_lt_of_le hb hc.size, fun i hi => ⟨Kp.cell hc (hh i hi).1, Kp.cell hc (hh i hi).2.1, Kp.cell hc (hh i hi).2.2⟩⟩
theorem UsesIn.cut {w : World} {a : Option Addr} {len cap : Nat} {F : Nat → Int × Int × Int} (h : UsesIn w a len cap F) (m : Nat) (hm : m ≤ len) : UsesIn w a m cap F := by
  refine ⟨?_, fun i hi => h.ok i (by omega), by have := h.lc; omega, by have := h.le; omega⟩
  rcases h.src with h0 | ⟨b, off, e, hb, hh⟩
  · exact .inl (by omega)
  · exact .inr ⟨b, off, e, hb, fun i hi => hh i (by omega)⟩

set_option maxRecDepth 8000 in
theorem use_in {H : Type} {enc : TypeId × Value → H} {W : World} {fuel : Nat} {cs : List Value} {d : DataW H} {p : List MemPlace}
    (hf : DataW.trod enc Try.prog W 0 (fun _ => true) true fuel 44 cs = some (d, p)) : ∃ v : Int × Int × Int, cs = [.int .i64 v.1, .int .i64 v.2.1, .int .i64 v.2.2] ∧ UOk v := by
  obtain ⟨xs, n, _, hx, hl, hlen, hfi⟩ := DataW.trod_struct Try.underlying44 hf
  rw [cells44] at hl
  have hlen' : xs.length = 3 := hlen
  clear hlen
  obtain ⟨c0, c1, c2, rfl⟩ : ∃ c0 c1 c2, cs = [c0, c1, c2] := by
    match cs, hl with
    | [c0, c1, c2], _ => exact ⟨c0, c1, c2, rfl⟩
  obtain ⟨y0, y1, y2, rfl⟩ : ∃ c0 c1 c2, xs = [c0, c1, c2] := by
    clear hfi hx
    match xs, hlen' with
    | [c0, c1, c2], _ => exact ⟨c0, c1, c2, rfl⟩
  have f0 := hfi 0 _ rfl
  have f1 := hfi 1 _ rfl
  have f2 := hfi 2 _ rfl
  simp [cells3'] at f0 f1 f2
  obtain ⟨a, e0, _, w0⟩ := DataW.trod_int Try.underlying3 f0
  obtain ⟨b, e1, _, w1⟩ := DataW.trod_int Try.underlying3 f1
  obtain ⟨c, e2, _, w2⟩ := DataW.trod_int Try.underlying3 f2
  simp at e0 e1 e2
  subst e0 e1 e2
  exact ⟨(a, b, c), rfl, wfi w0, wfi w1, wfi w2⟩

/-- A list of uses that came in. -/
theorem uses_in {H : Type} {enc : TypeId × Value → H} {W : World} {a0 : Option Addr} {len cap : Nat} {d : DataW H} {p : List MemPlace}
    (h : DataW.Trod enc Try.prog W 0 (fun _ => true) true 41 (.slice a0 len cap) d p)
    (hw : ∀ n ∈ d.weights Try.prog 41, n ≤ reachBytes) : ∃ F, UsesIn W a0 len cap F := by
  obtain ⟨fuel, hf⟩ := h
  rcases open_slice Try.underlying41 hf with ⟨hcs, hx⟩ | ⟨x, l, c, m, n, D, Pl, hcs, _, hl, hm, hmm, hx, hel⟩
  · simp [Value.cells] at hcs
    obtain ⟨rfl, rfl, rfl⟩ := hcs
    exact ⟨fun _ => (0, 0, 0), .inl rfl, fun i hi => by omega, by omega, by omega⟩
  · simp [Value.cells] at hcs
    obtain ⟨rfl, rfl, rfl⟩ := hcs
    simp only [if_true] at hmm
    subst hmm
    simp only [Prod.mk.injEq] at hx
    obtain ⟨hd', _⟩ := hx
    have hreach := hw (((List.range len).map D).length + ((List.range (m - len)).map fun j => D (len + j)).length |> (· * Try.prog.bytesOf 44)) (by rw [hd']; simp [DataW.weights, Try.underlying41])
    simp only [bytes44, List.length_map, List.length_range, reachBytes] at hreach
    have hvs : ∀ i, i < len → ∃ v : Int × Int × Int, (∃ cs, W.cells? 0 (x.add (i * 3)) 3 = some cs ∧ cs = [.int .i64 v.1, .int .i64 v.2.1, .int .i64 v.2.2]) ∧ UOk v := by
      intro i hi
      obtain ⟨cs', hc, ht'⟩ := hel i (by omega)
      rw [cells44] at hc
      obtain ⟨v, hv, hdat⟩ := use_in ht'
      exact ⟨v, ⟨cs', hc, hv⟩, hdat⟩
    obtain ⟨f, hfv⟩ := choose_lt hvs
    refine ⟨f, ?_, fun i hi => (hfv i hi).2, hl, by omega⟩
    by_cases h0 : len = 0
    · exact .inl h0
    · right
      obtain ⟨b, off, spot⟩ := x
      have hcell : ∀ i, i < len → ∀ q, q < 3 → W.cell? ((⟨b, off, spot⟩ : Addr).add (i * 3) |>.add q) = ([.int .i64 (f i).1, .int .i64 (f i).2.1, .int .i64 (f i).2.2] : List Value)[q]? := by
        intro i hi q hq
        obtain ⟨⟨cs, hc, he⟩, _⟩ := hfv i hi
        obtain ⟨_, hlen', hcell⟩ := World.cells?_some hc
        rw [hcell q hq, he]
      have hspot : spot = none := by
        have := hcell 0 (by omega) 0 (by omega)
        simpa [Addr.add] using World.cell?_spot this
      subst hspot
      have g : ∀ i, i < len → ∀ q, q < 3 → W.cell? ⟨b, off + i * 3 + q, none⟩ = ([.int .i64 (f i).1, .int .i64 (f i).2.1, .int .i64 (f i).2.2] : List Value)[q]? := by
        intro i hi q hq
        have := hcell i hi q hq
        rw [Addr.add_lit, Addr.add_lit] at this
        exact this
      exact ⟨b, off, rfl, World.block_lt_of_cell? W _ (g 0 (by omega) 0 (by omega)), fun i hi => ⟨g i hi 0 (by omega), g i hi 1 (by omega), g i hi 2 (by omega)⟩⟩
end Go.Proofs.Ytadpgaaijdpbiaa
