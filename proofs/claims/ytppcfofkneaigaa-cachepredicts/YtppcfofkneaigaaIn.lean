import Derived.Test.YtppcfofkneaigaaWd
import Derived.Deep.Slices
import Derived.ShutString
import Derived.ChangeOld
import Derived.SizedLaws
namespace Go.Proofs.Ytppcfofkneaigaa
open Go.ChangeShapes Go.WideShapes Go.ChangeAt Go.RowKit Go.Deep
set_option linter.unusedVariables false

theorem own : ownKnob Try.prog.godebug = none := by kernel_rfl
theorem laidOut : laidOutB Try.prog = true := by kernel_rfl
theorem wf_i64' {n : Int} (h : (Lit.int .i64 n).wf = true) : InI n := by
  simpa [InI, Lit.wf, IntKind.min, IntKind.max, IntKind.signed, IntKind.bits] using h
theorem wf_u32 {n : Int} (h : (Lit.int .u32 n).wf = true) : 0 ≤ n ∧ n ≤ 4294967295 := by
  simpa [Lit.wf, IntKind.min, IntKind.max, IntKind.signed, IntKind.bits] using h
theorem cells3' : Try.prog.cellsOf 3 = 1 := by kernel_rfl
theorem cells4 : Try.prog.cellsOf 4 = 1 := by kernel_rfl
theorem cells35 : Try.prog.cellsOf 35 = 1 := by kernel_rfl
theorem cells23 : Try.prog.cellsOf 23 = 3 := by kernel_rfl
theorem cells37 : Try.prog.cellsOf 37 = 2 := by kernel_rfl
theorem bytes37 : Try.prog.bytesOf 37 = 8 := by kernel_rfl

set_option maxRecDepth 8000 in
/-- A shape that came in. -/
theorem shape_in {H : Type} {enc : TypeId × Value → H} {W : World} {r : Reach} {base : Nat} {v : Value} {d : DataW H} {p : List MemPlace}
    (hv : Value.okWide Try.prog W r base 23 v) (h : DataW.Trod enc Try.prog W 0 (fun _ => true) true 23 v d p) :
    ∃ a b c : Int, v = .agg #[.int .i64 a, .int .i64 b, .int .i64 c] ∧ InI a ∧ InI b ∧ InI c := by
  obtain ⟨cs, rfl, hsz⟩ := okWide_struct Try.underlying23 hv
  rw [cells23] at hsz
  obtain ⟨fuel, hf⟩ := h
  obtain ⟨xs, n, _, hx, hl, hlen, hfi⟩ := DataW.trod_struct Try.underlying23 hf
  have hlen' : xs.length = 3 := hlen
  clear hlen
  obtain ⟨c0, c1, c2, rfl⟩ : ∃ c0 c1 c2, cs = #[c0, c1, c2] := by
    obtain ⟨l⟩ := cs
    match l, hsz with
    | [c0, c1, c2], _ => exact ⟨c0, c1, c2, rfl⟩
  obtain ⟨y0, y1, y2, rfl⟩ : ∃ c0 c1 c2, xs = [c0, c1, c2] := by
    clear hfi hx
    match xs, hlen' with
    | [c0, c1, c2], _ => exact ⟨c0, c1, c2, rfl⟩
  have f0 := hfi 0 _ rfl
  have f1 := hfi 1 _ rfl
  have f2 := hfi 2 _ rfl
  simp [cells3', Value.cells] at f0 f1 f2
  obtain ⟨a, e0, _, w0⟩ := DataW.trod_int Try.underlying3 f0
  obtain ⟨b, e1, _, w1⟩ := DataW.trod_int Try.underlying3 f1
  obtain ⟨c, e2, _, w2⟩ := DataW.trod_int Try.underlying3 f2
  simp at e0 e1 e2
  subst e0 e1 e2
  exact ⟨a, b, c, rfl, wf_i64' w0, wf_i64' w1, wf_i64' w2⟩

set_option maxRecDepth 8000 in
theorem use_in {H : Type} {enc : TypeId × Value → H} {W : World} {fuel : Nat} {cs : List Value} {d : DataW H} {p : List MemPlace}
    (hf : DataW.trod enc Try.prog W 0 (fun _ => true) true fuel 37 cs = some (d, p)) : ∃ v : Nat × Bool, cs = [.int .u32 (v.1 : Nat), .bool v.2] ∧ v.1 < 4294967296 := by
  obtain ⟨xs, n, _, hx, hl, hlen, hfi⟩ := DataW.trod_struct Try.underlying37 hf
  rw [cells37] at hl
  have hlen' : xs.length = 2 := hlen
  clear hlen
  obtain ⟨c0, c1, rfl⟩ : ∃ c0 c1, cs = [c0, c1] := by
    match cs, hl with
    | [c0, c1], _ => exact ⟨c0, c1, rfl⟩
  obtain ⟨y0, y1, rfl⟩ : ∃ c0 c1, xs = [c0, c1] := by
    clear hfi hx
    match xs, hlen' with
    | [c0, c1], _ => exact ⟨c0, c1, rfl⟩
  have f0 := hfi 0 _ rfl
  have f1 := hfi 1 _ rfl
  simp [cells35, cells4] at f0 f1
  obtain ⟨a, e0, _, w0⟩ := DataW.trod_int Try.underlying35 f0
  obtain ⟨b, e1, _⟩ := DataW.trod_bool Try.underlying4 f1
  simp at e0 e1
  have hv := wf_u32 w0
  refine ⟨(a.toNat, b), ?_, by show a.toNat < _; omega⟩
  have e : ((a.toNat : Nat) : Int) = a := by omega
  simp only [e0, e1, e]

/-- A list of uses that came in. -/
theorem uses_in {H : Type} {enc : TypeId × Value → H} {W : World} {a0 : Option Addr} {len cap : Nat} {d : DataW H} {p : List MemPlace}
    (h : DataW.Trod enc Try.prog W 0 (fun _ => true) true 24 (.slice a0 len cap) d p)
    (hw : ∀ n ∈ d.weights Try.prog 24, n ≤ reachBytes) : ∃ F, UsesIn W a0 len F := by
  obtain ⟨fuel, hf⟩ := h
  rcases open_slice Try.underlying24 hf with ⟨hcs, hx⟩ | ⟨x, l, c, m, n, D, Pl, hcs, _, hl, hm, hmm, hx, hel⟩
  · simp [Value.cells] at hcs
    obtain ⟨rfl, rfl, rfl⟩ := hcs
    exact ⟨fun _ => (0, false), .inl rfl, fun i hi => by omega, by omega⟩
  · simp [Value.cells] at hcs
    obtain ⟨rfl, rfl, rfl⟩ := hcs
    simp only [if_true] at hmm
    subst hmm
    simp only [Prod.mk.injEq] at hx
    obtain ⟨hd', _⟩ := hx
    have hreach := hw (((List.range len).map D).length + ((List.range (m - len)).map fun j => D (len + j)).length |> (· * Try.prog.bytesOf 37)) (by rw [hd']; simp [DataW.weights, Try.underlying24])
    simp only [bytes37, List.length_map, List.length_range, reachBytes] at hreach
    have hvs : ∀ i, i < len → ∃ v : Nat × Bool, (∃ cs, W.cells? 0 (x.add (i * 2)) 2 = some cs ∧ cs = [.int .u32 (v.1 : Nat), .bool v.2]) ∧ v.1 < 4294967296 := by
      intro i hi
      obtain ⟨cs', hc, ht'⟩ := hel i (by omega)
      rw [cells37] at hc
      obtain ⟨v, hv, hdat⟩ := use_in ht'
      exact ⟨v, ⟨cs', hc, hv⟩, hdat⟩
    obtain ⟨f, hfv⟩ := choose_lt hvs
    refine ⟨f, ?_, fun i hi => (hfv i hi).2, by omega⟩
    by_cases h0 : len = 0
    · exact .inl h0
    · right
      obtain ⟨b, off, spot⟩ := x
      have hcell : ∀ i, i < len → ∀ q, q < 2 → W.cell? ((⟨b, off, spot⟩ : Addr).add (i * 2) |>.add q) = ([.int .u32 ((f i).1 : Nat), .bool (f i).2] : List Value)[q]? := by
        intro i hi q hq
        obtain ⟨⟨cs, hc, he⟩, _⟩ := hfv i hi
        obtain ⟨_, hlen', hcell⟩ := World.cells?_some hc
        rw [hcell q hq, he]
      have hspot : spot = none := by
        have := hcell 0 (by omega) 0 (by omega)
        simpa [Addr.add] using World.cell?_spot this
      subst hspot
      have g : ∀ i, i < len → ∀ q, q < 2 → W.cell? ⟨b, off + i * 2 + q, none⟩ = ([.int .u32 ((f i).1 : Nat), .bool (f i).2] : List Value)[q]? := by
        intro i hi q hq
        have := hcell i hi q hq
        rw [Addr.add_lit, Addr.add_lit] at this
        exact this
      exact ⟨b, off, rfl, World.block_lt_of_cell? W _ (g 0 (by omega) 0 (by omega)), fun i hi => ⟨g i hi 0 (by omega), g i hi 1 (by omega)⟩⟩
end Go.Proofs.Ytppcfofkneaigaa
