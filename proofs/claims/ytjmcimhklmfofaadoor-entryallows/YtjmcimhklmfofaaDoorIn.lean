import Derived.Test.YtjmcimhklmfofaaDoorFm
namespace Go.Proofs.YtjmcimhklmfofaaDoor
open Go.ChangeShapes Go.WideShapes Go.ChangeAt Go.RowKit
set_option linter.unusedVariables false

theorem wf_i64' {n : Int} (h : (Lit.int .i64 n).wf = true) : -9223372036854775808 ≤ n ∧ n ≤ 9223372036854775807 := by
  simpa [Lit.wf, IntKind.min, IntKind.max, IntKind.signed, IntKind.bits] using h
theorem wf_u8' {n : Int} (h : (Lit.int .u8 n).wf = true) : 0 ≤ n ∧ n ≤ 255 := by
  simpa [Lit.wf, IntKind.min, IntKind.max, IntKind.signed, IntKind.bits] using h
theorem wf_u32' {n : Int} (h : (Lit.int .u32 n).wf = true) : 0 ≤ n ∧ n ≤ 4294967295 := by
  simpa [Lit.wf, IntKind.min, IntKind.max, IntKind.signed, IntKind.bits] using h
theorem cells27 : Tryd.prog.cellsOf 27 = 3 := by kernel_rfl
theorem cells24 : Tryd.prog.cellsOf 24 = 1 := by kernel_rfl
theorem cells25 : Tryd.prog.cellsOf 25 = 1 := by kernel_rfl
theorem cells22 : Tryd.prog.cellsOf 22 = 1 := by kernel_rfl

set_option maxRecDepth 8000 in
/-- An entry that came in. -/
theorem entry_in {H : Type} {enc : TypeId × Value → H} {W : World} {r : Reach} {base : Nat} {v : Value} {d : DataW H} {p : List MemPlace}
    (hv : Value.okWide Tryd.prog W r base 27 v) (h : DataW.Trod enc Tryd.prog W 0 (fun _ => true) true 27 v d p) :
    ∃ (k : Int) (p f : Nat), v = .agg #[.int .i64 k, .int .u8 p, .int .u32 f] ∧ InI k ∧ p < 256 ∧ f < 4294967296 := by
  obtain ⟨cs, rfl, hsz⟩ := okWide_struct Tryd.underlying27 hv
  rw [cells27] at hsz
  obtain ⟨fuel, hf⟩ := h
  obtain ⟨xs, n, _, hx, hl, hlen, hfi⟩ := DataW.trod_struct Tryd.underlying27 hf
  have hlen' : xs.length = 3 := hlen
  clear hlen
  obtain ⟨c0, c1, c2, rfl⟩ : ∃ c0 c1 c2, cs = #[c0, c1, c2] := by
    obtain ⟨l⟩ := cs
    match l, hsz with
    | [c0, c1, c2], _ => exact ⟨c0, c1, c2, rfl⟩
  obtain ⟨y0, y1, y2, rfl⟩ : ∃ c0 c1 c2, xs = [c0, c1, c2] := by
    clear hfi hx
    match xs, hlen' with
    | [c0, c1, c2], _ => exact ⟨c0, c1, c2, rfl⟩
  have f0 := hfi 0 _ rfl
  have f1 := hfi 1 _ rfl
  have f2 := hfi 2 _ rfl
  simp [cells24, cells25, cells22, Value.cells] at f0 f1 f2
  obtain ⟨a, e0, _, w0⟩ := DataW.trod_int Tryd.underlying24 f0
  obtain ⟨b, e1, _, w1⟩ := DataW.trod_int Tryd.underlying25 f1
  obtain ⟨c, e2, _, w2⟩ := DataW.trod_int Tryd.underlying22 f2
  simp at e0 e1 e2
  subst e0 e1 e2
  have u1 := wf_u8' w1
  have u2 := wf_u32' w2
  exact ⟨a, b.toNat, c.toNat, by rw [Int.toNat_of_nonneg u1.1, Int.toNat_of_nonneg u2.1], wf_i64' w0, by omega, by omega⟩
end Go.Proofs.YtjmcimhklmfofaaDoor
