import Derived.Test.YtghiffpolacmiabDoorIn
import Derived.Test.YtghiffpolacmiabDoorWd
namespace Go.Proofs.YtghiffpolacmiabDoor
open Go.ChangeShapes Go.WideShapes Go.ChangeAt Go.RowKit Go.Deep
set_option linter.unusedVariables false

/-- A list of numbers that came in. -/
theorem row_in {H : Type} {enc : TypeId × Value → H} {W : World} {fuel : Nat} {c : Value} {d : DataW H} {p : List MemPlace} (T e : TypeId) (k : IntKind) (by' : Nat) (hT : Tryd.prog.underlying T = some (.slice e)) (he : Tryd.prog.underlying e = some (.int k)) (hc1 : Tryd.prog.cellsOf e = 1) (hby : Tryd.prog.bytesOf e = by') (hb0 : 4 ≤ by')
    (hf : DataW.trod enc Tryd.prog W 0 (fun _ => true) true fuel T [c] = some (d, p)) (hw : ∀ n ∈ d.weights Tryd.prog T, n ≤ reachBytes) :
    ∃ l : List Int, Rw W k c l ∧ l.length * by' ≤ 140737488355328 ∧ ∀ x ∈ l, (Lit.int k x).wf = true := by
  rcases open_slice hT hf with ⟨hcs, hx⟩ | ⟨x, len, cap, m, n, D, Pl, hcs, _, hl, hm, hmm, hx, hel⟩
  · simp at hcs
    subst hcs
    exact ⟨[], rw_none _ _, by simp, fun x hx => by cases hx⟩
  · simp at hcs
    subst hcs
    simp only [if_true] at hmm
    subst hmm
    simp only [Prod.mk.injEq] at hx
    obtain ⟨hd', _⟩ := hx
    have hreach := hw (((List.range len).map D).length + ((List.range (m - len)).map fun j => D (len + j)).length |> (· * Tryd.prog.bytesOf e)) (by rw [hd']; simp [DataW.weights, hT])
    simp only [hby, List.length_map, List.length_range, reachBytes] at hreach
    have hb2 : len * by' ≤ 140737488355328 := by
      have : len * by' ≤ (len + (m - len)) * by' := Nat.mul_le_mul_right _ (by omega)
      omega
    have hlen : len < 4611686018427387904 := by
      have : len * 4 ≤ len * by' := Nat.mul_le_mul_left _ hb0
      omega
    have hvs : ∀ i, i < len → ∃ v : Int, (∃ cs, W.cells? 0 (x.add (i * 1)) 1 = some cs ∧ cs = [.int k v]) ∧ (Lit.int k v).wf = true := by
      intro i hi
      obtain ⟨cs', hc, ht'⟩ := hel i (by omega)
      rw [hc1] at hc
      obtain ⟨v, hv, _, hwf⟩ := DataW.trod_int he ht'
      exact ⟨v, ⟨cs', hc, hv⟩, hwf⟩
    obtain ⟨f, hfv⟩ := choose_lt hvs
    refine ⟨(List.range len).map f, ⟨some x, m, by simp, by simpa using hl, by simpa using hlen, ?_⟩, by simpa using hb2, fun y hy => ?_⟩
    · by_cases h0 : len = 0
      · left; subst h0; rfl
      · right
        obtain ⟨b, off, spot⟩ := x
        have hcell : ∀ i, i < len → W.cell? ((⟨b, off, spot⟩ : Addr).add (i * 1) |>.add 0) = some (.int k (f i)) := by
          intro i hi
          obtain ⟨⟨cs, hc, he'⟩, _⟩ := hfv i hi
          obtain ⟨_, hlen', hcell⟩ := World.cells?_some hc
          rw [hcell 0 (by omega), he']; rfl
        have hspot : spot = none := by
          have := hcell 0 (by omega)
          simpa [Addr.add] using World.cell?_spot this
        subst hspot
        have g : ∀ i, i < len → W.cell? ⟨b, off + i, none⟩ = some (.int k (f i)) := by
          intro i hi
          have := hcell i hi
          rw [Addr.add_lit, Addr.add_lit] at this
          simpa using this
        refine ⟨b, off, rfl, World.block_lt_of_cell? W _ (g 0 (by omega)), fun i y hy => ?_⟩
        have hi : i < len := by
          have := (List.getElem?_eq_some_iff.1 hy).1
          simpa using this
        rw [List.getElem?_map, List.getElem?_range hi] at hy
        cases hy
        exact g i hi
    · obtain ⟨i, hi, rfl⟩ := List.mem_map.1 hy
      exact (hfv i (by simpa using hi)).2
end Go.Proofs.YtghiffpolacmiabDoor
