import Derived.Test.YtibpbemenjgncaaIn
namespace Go.Proofs.Ytibpbemenjgncaa
open Go.ChangeShapes Go.WideShapes Go.ChangeAt Go.RowKit Go.Deep
set_option linter.unusedVariables false
theorem cells41 : Try.prog.cellsOf 41 = 1 := by kernel_rfl
theorem cells43 : Try.prog.cellsOf 43 = 3 := by kernel_rfl
theorem wf_i64 {n : Int} (h : (Lit.int .i64 n).wf = true) : -9223372036854775808 ≤ n ∧ n ≤ 9223372036854775807 := by
  simpa [Lit.wf, IntKind.min, IntKind.max, IntKind.signed, IntKind.bits] using h
theorem ints_in {H : Type} {enc : TypeId × Value → H} {W : World} {fuel : Nat} {c : Value} {d : DataW H} {p : List MemPlace}
    (hf : DataW.trod enc Try.prog W 0 (fun _ => true) true fuel 41 [c] = some (d, p))
    (hsz : ∀ n ∈ d.weights Try.prog 41, n ≤ reachBytes) : ∃ l, RdI W c l := by
  rcases open_ints Try.underlying41 Try.underlying3 cells3 hf with ⟨hcs, hx⟩ | ⟨x, l, c', zs, hcs, _, hl, hm, hz, hx, hcell, hwz⟩
  · simp at hcs
    exact ⟨[], by rw [hcs]; exact ⟨⟨none, 0, rfl, .inl rfl⟩, by simp⟩⟩
  · simp at hcs
    simp only [Prod.mk.injEq] at hx
    obtain ⟨hd', _⟩ := hx
    simp only [if_true] at hz
    subst hd'
    have := hsz (((lits (H := H) .i64 (zs.take l)).length + (lits (H := H) .i64 (zs.drop l)).length) * Try.prog.bytesOf 3) (by simp [DataW.weights, Try.underlying41])
    rw [bytes3] at this
    simp only [lits, List.length_map, List.length_take, List.length_drop, reachBytes] at this
    have hlen : l * 8 ≤ 140737488351232 := by omega
    have hzl : (zs.take l).length = l := by simp; omega
    refine ⟨zs.take l, ⟨some x, c', by rw [hzl]; exact hcs, ?_⟩, by rw [hzl]; exact hlen⟩
    by_cases h0 : l = 0
    · exact .inl (by rw [h0]; rfl)
    · obtain ⟨b, off, spot⟩ := x
      have hspot : spot = none := by simpa [Addr.add] using World.cell?_spot (hcell 0 (by omega))
      subst hspot
      refine .inr ⟨b, off, rfl, fun i hi => ?_⟩
      rw [hzl] at hi
      have := hcell i (by omega)
      rw [Addr.add_lit] at this
      rw [this]
      have e : zs.getD i 0 = zs[i]'(by omega) := by simp [List.getD_eq_getElem?_getD, show i < zs.length by omega]
      simp only [List.getElem_take]
      exact congrArg (fun q => some (Value.int .i64 q)) e
/-- A declaration that came in. -/
theorem sample_in {H : Type} {enc : TypeId × Value → H} {W : World} {r : Reach} {base : Nat} {v : Value} {d : DataW H} {p : List MemPlace}
    (hv : Value.okWide Try.prog W r base 43 v) (h : DataW.Trod enc Try.prog W 0 (fun _ => true) true 43 v d p) (hsz : ∀ n ∈ d.weights Try.prog 43, n ≤ reachBytes) :
    ∃ pw sz pv l, v = .agg #[.int .i64 pw, .int .i64 sz, pv] ∧ RdI W pv l ∧ (-9223372036854775808 ≤ pw ∧ pw ≤ 9223372036854775807) ∧ (-9223372036854775808 ≤ sz ∧ sz ≤ 9223372036854775807) := by
  obtain ⟨cs, rfl, hcs⟩ := okWide_struct Try.underlying43 hv
  rw [cells43] at hcs
  obtain ⟨fuel, hf⟩ := h
  obtain ⟨xs, n, _, hx, hl, hlen, hfi⟩ := DataW.trod_struct Try.underlying43 hf
  have hlen' : xs.length = 3 := hlen
  clear hlen
  obtain ⟨l⟩ := cs
  have hl3 : l.length = 3 := by simpa using hcs
  obtain ⟨c0, c1, c2, rfl⟩ : ∃ c0 c1 c2, l = [c0, c1, c2] := by
    clear hfi hx hl hcs hf hv
    match l, hl3 with
    | [c0, c1, c2], _ => exact ⟨c0, c1, c2, rfl⟩
  obtain ⟨y0, y1, y2, rfl⟩ : ∃ c0 c1 c2, xs = [c0, c1, c2] := by
    clear hfi hx
    match xs, hlen' with
    | [c0, c1, c2], _ => exact ⟨c0, c1, c2, rfl⟩
  have f0 := hfi 0 _ rfl
  have f1 := hfi 1 _ rfl
  have f2 := hfi 2 _ rfl
  simp [cells3, cells41, Value.cells] at f0 f1 f2
  obtain ⟨pw, e0, _, w0⟩ := DataW.trod_int Try.underlying3 f0
  obtain ⟨sz, e1, _, w1⟩ := DataW.trod_int Try.underlying3 f1
  simp only [Prod.mk.injEq] at hx
  have hd := hx.1
  obtain ⟨l, hL⟩ := ints_in (d := y2.1) (p := y2.2) f2 (by
    intro m hm
    refine hsz m ?_
    rw [hd]
    simp [DataW.weights, Try.underlying43, DataW.weightsEach, hm])
  simp at e0 e1
  subst e0 e1
  exact ⟨pw, sz, c2, l, rfl, hL, wf_i64 w0, wf_i64 w1⟩
end Go.Proofs.Ytibpbemenjgncaa
