import Derived.Test.YtkndlkcbhpfjoaaFa
import Derived.Deep.Slices
import Derived.ShutString
import Derived.ChangeOld
import Derived.SizedLaws
namespace Go.Proofs.Ytkndlkcbhpfjoaa
open Go.ChangeShapes Go.WideShapes Go.ChangeAt Go.RowKit Go.Deep Go.Shelf
set_option linter.unusedVariables false
theorem laidOut' : laidOutB Try.prog = true := by kernel_rfl
theorem own' : ownKnob Try.prog.godebug = none := by kernel_rfl
theorem wfi {n : Int} (h : (Lit.int .i64 n).wf = true) : InI n := by
  unfold InI
  simpa [Lit.wf, IntKind.min, IntKind.max, IntKind.signed, IntKind.bits] using h
theorem cells_3 : Try.prog.cellsOf 3 = 1 := by kernel_rfl
theorem bytes_3 : Try.prog.bytesOf 3 = 8 := by kernel_rfl

/-- A list of numbers that came in. -/
theorem ints_in {H : Type} {enc : TypeId × Value → H} {W : World} {a0 : Option Addr} {len cap : Nat} {d : DataW H} {p : List MemPlace}
    (h : DataW.Trod enc Try.prog W 0 (fun _ => true) true 22 (.slice a0 len cap) d p)
    (hw : ∀ n ∈ d.weights Try.prog 22, n ≤ reachBytes) : ∃ Z, IntsIn W a0 len Z := by
  obtain ⟨fuel, hf⟩ := h
  rcases open_slice Try.underlying22 hf with ⟨hcs, hx⟩ | ⟨x, l, c, m, n, D, Pl, hcs, _, hl, hm, hmm, hx, hel⟩
  · simp [Value.cells] at hcs
    obtain ⟨rfl, rfl, rfl⟩ := hcs
    exact ⟨fun _ => 0, by omega, fun _ => (show InI 0 from ⟨by omega, by omega⟩), .inl rfl⟩
  · simp [Value.cells] at hcs
    obtain ⟨rfl, rfl, rfl⟩ := hcs
    simp only [if_true] at hmm
    subst hmm
    simp only [Prod.mk.injEq] at hx
    obtain ⟨hd', _⟩ := hx
    have hreach := hw (((List.range len).map D).length + ((List.range (m - len)).map fun j => D (len + j)).length |> (· * Try.prog.bytesOf 3)) (by rw [hd']; simp [DataW.weights, Try.underlying22])
    simp only [bytes_3, List.length_map, List.length_range, reachBytes] at hreach
    have hl8 : len ≤ 70368744177664 := by omega
    have hvs : ∀ i, i < len → ∃ v : Int, (∃ cs, W.cells? 0 (x.add (i * 1)) 1 = some cs ∧ cs = [.int .i64 v] ∧ InI v) := by
      intro i hi
      obtain ⟨cs', hc, ht'⟩ := hel i (by omega)
      rw [cells_3] at hc
      obtain ⟨v, hv, hd3, _⟩ := DataW.trod_int Try.underlying3 ht'
      exact ⟨v, cs', hc, hv, wfi (by assumption)⟩
    obtain ⟨f, hfv⟩ := choose_lt hvs
    refine ⟨fun i => if i < len then f i else 0, hl8, fun i => ?_, ?_⟩
    · show InI (if i < len then f i else 0)
      split
      · rename_i hi
        obtain ⟨cs, hc, he, hI⟩ := hfv i hi
        exact hI
      · unfold InI; omega
    by_cases h0 : len = 0
    · exact .inl h0
    · right
      obtain ⟨b, off, spot⟩ := x
      have hcell : ∀ i, i < len → W.cell? ((⟨b, off, spot⟩ : Addr).add (i * 1) |>.add 0) = some (.int .i64 (f i)) := by
        intro i hi
        obtain ⟨cs, hc, he, hI⟩ := hfv i hi
        obtain ⟨_, hlen', hcell⟩ := World.cells?_some hc
        rw [hcell 0 (by omega), he]; rfl
      have hspot : spot = none := by
        have := hcell 0 (by omega)
        simpa [Addr.add] using World.cell?_spot this
      subst hspot
      have g : ∀ i, i < len → W.cell? ⟨b, off + i, none⟩ = some (.int .i64 (f i)) := by
        intro i hi
        have := hcell i hi
        rw [Addr.add_lit, Addr.add_lit] at this
        simpa using this
      exact ⟨b, off, rfl, fun i hi => by rw [g i hi]; simp [hi]⟩
end Go.Proofs.Ytkndlkcbhpfjoaa
