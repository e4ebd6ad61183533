import Derived.Test.YtcmfkopcdlhdnaaAq
import Derived.Deep.Slices
import Derived.ShutString
import Derived.ChangeOld
import Derived.SizedLaws
namespace Go.Proofs.Ytcmfkopcdlhdnaa
open Go.ChangeShapes Go.WideShapes Go.ChangeAt Go.RowKit Go.Deep
set_option linter.unusedVariables false
theorem cells_22 : Try.prog.cellsOf 22 = 1 := by kernel_rfl
theorem bytes_22 : Try.prog.bytesOf 22 = 4 := by kernel_rfl

/-- A list of words that came in. -/
theorem words_in {H : Type} {enc : TypeId × Value → H} {W : World} {a0 : Option Addr} {len cap : Nat} {d : DataW H} {p : List MemPlace}
    (h : DataW.Trod enc Try.prog W 0 (fun _ => true) true 36 (.slice a0 len cap) d p)
    (hw : ∀ n ∈ d.weights Try.prog 36, n ≤ reachBytes) : ∃ Z, WordsIn W a0 len Z := by
  obtain ⟨fuel, hf⟩ := h
  rcases open_slice Try.underlying36 hf with ⟨hcs, hx⟩ | ⟨x, l, c, m, n, D, Pl, hcs, _, hl, hm, hmm, hx, hel⟩
  · simp [Value.cells] at hcs
    obtain ⟨rfl, rfl, rfl⟩ := hcs
    exact ⟨fun _ => 0, .inl rfl, by omega, fun _ => by omega⟩
  · simp [Value.cells] at hcs
    obtain ⟨rfl, rfl, rfl⟩ := hcs
    simp only [if_true] at hmm
    subst hmm
    simp only [Prod.mk.injEq] at hx
    obtain ⟨hd', _⟩ := hx
    have hreach := hw (((List.range len).map D).length + ((List.range (m - len)).map fun j => D (len + j)).length |> (· * Try.prog.bytesOf 22)) (by rw [hd']; simp [DataW.weights, Try.underlying36])
    simp only [bytes_22, List.length_map, List.length_range, reachBytes] at hreach
    have hvs : ∀ i, i < len → ∃ v : Nat, v < 4294967296 ∧ (∃ cs, W.cells? 0 (x.add (i * 1)) 1 = some cs ∧ cs = [.int .u32 (v : Int)]) := by
      intro i hi
      obtain ⟨cs', hc, ht'⟩ := hel i (by omega)
      rw [cells_22] at hc
      obtain ⟨v, hv, _, hwf⟩ := DataW.trod_int Try.underlying22 ht'
      have hb : 0 ≤ v ∧ v ≤ 4294967295 := by simpa [Lit.wf, IntKind.min, IntKind.max, IntKind.signed, IntKind.bits] using hwf
      exact ⟨v.toNat, by omega, cs', hc, by rw [hv, Int.toNat_of_nonneg hb.1]⟩
    have hvs2 : ∀ i, ∃ v : Nat, v < 4294967296 ∧ (i < len → ∃ cs, W.cells? 0 (x.add (i * 1)) 1 = some cs ∧ cs = [.int .u32 (v : Int)]) := by
      intro i
      by_cases hi : i < len
      · obtain ⟨v, h1, h2⟩ := hvs i hi; exact ⟨v, h1, fun _ => h2⟩
      · exact ⟨0, by omega, fun h => absurd h hi⟩
    obtain ⟨f, hfv⟩ := Classical.axiomOfChoice hvs2
    refine ⟨f, ?_, by omega, fun i => (hfv i).1⟩
    by_cases h0 : len = 0
    · exact .inl h0
    · right
      obtain ⟨b, off, spot⟩ := x
      have hcell : ∀ i, i < len → W.cell? ((⟨b, off, spot⟩ : Addr).add (i * 1) |>.add 0) = some (.int .u32 (f i : Nat)) := by
        intro i hi
        obtain ⟨cs, hc, he⟩ := (hfv i).2 hi
        obtain ⟨_, hlen', hcell⟩ := World.cells?_some hc
        rw [hcell 0 (by omega), he]; rfl
      have hspot : spot = none := by
        have := hcell 0 (by omega)
        simpa [Addr.add] using World.cell?_spot this
      subst hspot
      have g : ∀ i, i < len → W.cell? ⟨b, off + i, none⟩ = some (.int .u32 (f i : Nat)) := by
        intro i hi
        have := hcell i hi
        rw [Addr.add_lit, Addr.add_lit] at this
        simpa using this
      exact ⟨b, off, rfl, World.block_lt_of_cell? W _ (g 0 (by omega)), g⟩
end Go.Proofs.Ytcmfkopcdlhdnaa
