import Derived.Test.YtadpgaaijdpbiaaUi
import Derived.Test.YtadpgaaijdpbiaaCp
namespace Go.Proofs.Ytadpgaaijdpbiaa
open Go.ChangeShapes Go.WideShapes Go.ChangeAt Go.RowKit Go.Deep Go.Shelf
set_option linter.unusedVariables false
theorem cells_3 : Try.prog.cellsOf 3 = 1 := by kernel_rfl
theorem bytes_3 : Try.prog.bytesOf 3 = 8 := by kernel_rfl

/-- A list of numbers that came in. -/
theorem ints_in {H : Type} {enc : TypeId × Value → H} {W : World} {a0 : Option Addr} {len cap : Nat} {d : DataW H} {p : List MemPlace}
    (h : DataW.Trod enc Try.prog W 0 (fun _ => true) true 61 (.slice a0 len cap) d p)
    (hw : ∀ n ∈ d.weights Try.prog 61, n ≤ reachBytes) : ∃ Z, IntsIn W a0 len Z := by
  obtain ⟨fuel, hf⟩ := h
  rcases open_slice Try.underlying61 hf with ⟨hcs, hx⟩ | ⟨x, l, c, m, n, D, Pl, hcs, _, hl, hm, hmm, hx, hel⟩
  · simp [Value.cells] at hcs
    obtain ⟨rfl, rfl, rfl⟩ := hcs
    exact ⟨fun _ => 0, .inl rfl, by omega⟩
  · simp [Value.cells] at hcs
    obtain ⟨rfl, rfl, rfl⟩ := hcs
    simp only [if_true] at hmm
    subst hmm
    simp only [Prod.mk.injEq] at hx
    obtain ⟨hd', _⟩ := hx
    have hreach := hw (((List.range len).map D).length + ((List.range (m - len)).map fun j => D (len + j)).length |> (· * Try.prog.bytesOf 3)) (by rw [hd']; simp [DataW.weights, Try.underlying61])
    simp only [bytes_3, List.length_map, List.length_range, reachBytes] at hreach
    have hvs : ∀ i, i < len → ∃ v : Int, (∃ cs, W.cells? 0 (x.add (i * 1)) 1 = some cs ∧ cs = [.int .i64 v]) := by
      intro i hi
      obtain ⟨cs', hc, ht'⟩ := hel i (by omega)
      rw [cells_3] at hc
      obtain ⟨v, hv, _, _⟩ := DataW.trod_int Try.underlying3 ht'
      exact ⟨v, cs', hc, hv⟩
    obtain ⟨f, hfv⟩ := choose_lt hvs
    refine ⟨f, ?_, by omega⟩
    by_cases h0 : len = 0
    · exact .inl h0
    · right
      obtain ⟨b, off, spot⟩ := x
      have hcell : ∀ i, i < len → W.cell? ((⟨b, off, spot⟩ : Addr).add (i * 1) |>.add 0) = some (.int .i64 (f i)) := by
        intro i hi
        obtain ⟨cs, hc, he⟩ := hfv i hi
        obtain ⟨_, hlen', hcell⟩ := World.cells?_some hc
        rw [hcell 0 (by omega), he]; rfl
      have hspot : spot = none := by
        have := hcell 0 (by omega)
        simpa [Addr.add] using World.cell?_spot this
      subst hspot
      have g : ∀ i, i < len → W.cell? ⟨b, off + i, none⟩ = some (.int .i64 (f i)) := by
        intro i hi
        have := hcell i hi
        rw [Addr.add_lit, Addr.add_lit] at this
        simpa using this
      exact ⟨b, off, rfl, World.block_lt_of_cell? W _ (g 0 (by omega)), g⟩
end Go.Proofs.Ytadpgaaijdpbiaa
