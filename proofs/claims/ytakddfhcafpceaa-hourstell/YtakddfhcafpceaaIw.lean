import Derived.Test.YtakddfhcafpceaaIn
namespace Go.Proofs.Ytakddfhcafpceaa
open Go.ChangeShapes Go.WideShapes Go.ChangeAt Go.RowKit Go.Deep
set_option linter.unusedVariables false
/-- Windows that came in. -/
theorem wins_in {H : Type} {enc : TypeId × Value → H} {W : World} {a0 : Option Addr} {len cap : Nat} {d : DataW H} {p : List MemPlace}
    (h : DataW.Trod enc Try.prog W 0 (fun _ => true) true 39 (.slice a0 len cap) d p)
    (hw : ∀ n ∈ d.weights Try.prog 39, n ≤ reachBytes) : ∃ L : List Wn, len = L.length ∧ WsI W a0 L ∧ L.length * 24 ≤ 140737488355328 := by
  obtain ⟨fuel, hf⟩ := h
  rcases open_slice Try.underlying39 hf with ⟨hcs, hx⟩ | ⟨x, l, c, m, n, D, Pl, hcs, _, hl, hm, hmm, hx, hel⟩
  · simp [Value.cells] at hcs
    obtain ⟨rfl, rfl, rfl⟩ := hcs
    exact ⟨[], rfl, ⟨.inl rfl, by simp, fun x hx => by simp at hx⟩, by simp⟩
  · simp [Value.cells] at hcs
    obtain ⟨rfl, rfl, rfl⟩ := hcs
    simp only [if_true] at hmm
    subst hmm
    simp only [Prod.mk.injEq] at hx
    obtain ⟨hd', _⟩ := hx
    have hreach := hw (((List.range len).map D).length + ((List.range (m - len)).map fun j => D (len + j)).length |> (· * Try.prog.bytesOf 36)) (by rw [hd']; simp [DataW.weights, Try.underlying39])
    simp only [bytes36, List.length_map, List.length_range, reachBytes] at hreach
    have hvs : ∀ i, i < len → ∃ v : Wn, (∃ cs, W.cells? 0 (x.add (i * 3)) 3 = some cs ∧ cs = [.int .i64 v.c, .int .u64 (v.s : Nat), .int .u64 (v.l : Nat)]) ∧ v.s < 18446744073709551616 ∧ v.l < 18446744073709551616 := by
      intro i hi
      obtain ⟨cs', hc, ht'⟩ := hel i (by omega)
      rw [cells36] at hc
      obtain ⟨v, hv, h1, h2, _⟩ := win_in ht'
      exact ⟨v, ⟨cs', hc, hv⟩, h1, h2⟩
    have : Inhabited Wn := ⟨⟨0, 0, 0⟩⟩
    obtain ⟨f, hfv⟩ := choose_lt hvs
    have hL : ((List.range len).map f).length = len := by simp
    refine ⟨(List.range len).map f, hL.symm, ⟨?_, by rw [hL]; omega, fun y hy => ?_⟩, by rw [hL]; omega⟩
    · by_cases h0 : len = 0
      · left; subst h0; rfl
      · right
        obtain ⟨b, off, spot⟩ := x
        have hcell : ∀ i, i < len → ∀ q, q < 3 → W.cell? ((⟨b, off, spot⟩ : Addr).add (i * 3) |>.add q) = ([.int .i64 (f i).c, .int .u64 ((f i).s : Nat), .int .u64 ((f i).l : Nat)] : List Value)[q]? := by
          intro i hi q hq
          obtain ⟨⟨cs, hc, he⟩, _⟩ := hfv i hi
          obtain ⟨_, hlen', hcell⟩ := World.cells?_some hc
          rw [hcell q hq, he]
        have hspot : spot = none := by
          have := hcell 0 (by omega) 0 (by omega)
          simpa [Addr.add] using World.cell?_spot this
        subst hspot
        refine ⟨b, off, rfl, ⟨fun i hi => ?_⟩⟩
        have hi' : i < len := by simpa using hi
        have g : ∀ q, q < 3 → W.cell? ⟨b, off + i * 3 + q, none⟩ = ([.int .i64 (f i).c, .int .u64 ((f i).s : Nat), .int .u64 ((f i).l : Nat)] : List Value)[q]? := by
          intro q hq
          have := hcell i hi' q hq
          rw [Addr.add_lit, Addr.add_lit] at this
          exact this
        simp only [List.getElem_map, List.getElem_range]
        exact ⟨g 0 (by omega), g 1 (by omega), g 2 (by omega)⟩
    · obtain ⟨i, hi, rfl⟩ := List.mem_map.1 hy
      exact (hfv i (by simpa using hi)).2
end Go.Proofs.Ytakddfhcafpceaa
