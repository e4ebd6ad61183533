import Derived.Test.YtodgobapgmhgdaaDoorFm
namespace Go.Proofs.YtodgobapgmhgdaaDoor
open Go.ChangeShapes Go.WideShapes Go.ChangeAt Go.RowKit
set_option linter.unusedVariables false

theorem wf_i64' {n : Int} (h : (Lit.int .i64 n).wf = true) : -9223372036854775808 ≤ n ∧ n ≤ 9223372036854775807 := by
  simpa [Lit.wf, IntKind.min, IntKind.max, IntKind.signed, IntKind.bits] using h
theorem wf_u8' {n : Int} (h : (Lit.int .u8 n).wf = true) : 0 ≤ n ∧ n ≤ 255 := by
  simpa [Lit.wf, IntKind.min, IntKind.max, IntKind.signed, IntKind.bits] using h
theorem wf_u32' {n : Int} (h : (Lit.int .u32 n).wf = true) : 0 ≤ n ∧ n ≤ 4294967295 := by
  simpa [Lit.wf, IntKind.min, IntKind.max, IntKind.signed, IntKind.bits] using h
theorem wf_i32' {n : Int} (h : (Lit.int .i32 n).wf = true) : -2147483648 ≤ n ∧ n ≤ 2147483647 := by
  simpa [Lit.wf, IntKind.min, IntKind.max, IntKind.signed, IntKind.bits] using h
theorem cells24 : Tryd.prog.cellsOf 24 = 5 := by kernel_rfl
theorem cells22 : Tryd.prog.cellsOf 22 = 1 := by kernel_rfl
theorem cells5' : Tryd.prog.cellsOf 5 = 1 := by kernel_rfl
theorem cells21 : Tryd.prog.cellsOf 21 = 1 := by kernel_rfl

set_option maxRecDepth 8000 in
/-- An instruction that came in. -/
theorem instr_in {H : Type} {enc : TypeId × Value → H} {W : World} {r : Reach} {base : Nat} {v : Value} {d : DataW H} {p : List MemPlace}
    (hv : Value.okWide Tryd.prog W r base 24 v) (h : DataW.Trod enc Tryd.prog W 0 (fun _ => true) true 24 v d p) :
    ∃ (op : Int) (d a b : Nat) (n : Int), v = iv op d a b n ∧ InI op ∧ d < 256 ∧ a < 256 ∧ b < 256 ∧ -2147483648 ≤ n ∧ n ≤ 2147483647 := by
  obtain ⟨cs, rfl, hsz⟩ := okWide_struct Tryd.underlying24 hv
  rw [cells24] at hsz
  obtain ⟨fuel, hf⟩ := h
  obtain ⟨xs, n, _, hx, hl, hlen, hfi⟩ := DataW.trod_struct Tryd.underlying24 hf
  have hlen' : xs.length = 5 := hlen
  clear hlen
  obtain ⟨c0, c1, c2, c3, c4, rfl⟩ : ∃ c0 c1 c2 c3 c4, cs = #[c0, c1, c2, c3, c4] := by
    obtain ⟨l⟩ := cs
    match l, hsz with
    | [c0, c1, c2, c3, c4], _ => exact ⟨c0, c1, c2, c3, c4, rfl⟩
  obtain ⟨y0, y1, y2, y3, y4, rfl⟩ : ∃ c0 c1 c2 c3 c4, xs = [c0, c1, c2, c3, c4] := by
    clear hfi hx
    match xs, hlen' with
    | [c0, c1, c2, c3, c4], _ => exact ⟨c0, c1, c2, c3, c4, rfl⟩
  have f0 := hfi 0 _ rfl
  have f1 := hfi 1 _ rfl
  have f2 := hfi 2 _ rfl
  have f3 := hfi 3 _ rfl
  have f4 := hfi 4 _ rfl
  simp [cells22, cells5', cells21, Value.cells] at f0 f1 f2 f3 f4
  obtain ⟨a, e0, _, w0⟩ := DataW.trod_int Tryd.underlying22 f0
  obtain ⟨b, e1, _, w1⟩ := DataW.trod_int Tryd.underlying5 f1
  obtain ⟨c, e2, _, w2⟩ := DataW.trod_int Tryd.underlying5 f2
  obtain ⟨d, e3, _, w3⟩ := DataW.trod_int Tryd.underlying5 f3
  obtain ⟨e, e4, _, w4⟩ := DataW.trod_int Tryd.underlying21 f4
  simp at e0 e1 e2 e3 e4
  subst e0 e1 e2 e3 e4
  have u1 := wf_u8' w1
  have u2 := wf_u8' w2
  have u3 := wf_u8' w3
  have u4 := wf_i32' w4
  exact ⟨a, b.toNat, c.toNat, d.toNat, e, by rw [Int.toNat_of_nonneg u1.1, Int.toNat_of_nonneg u2.1, Int.toNat_of_nonneg u3.1], wf_i64' w0, by omega, by omega, by omega, u4.1, u4.2⟩
end Go.Proofs.YtodgobapgmhgdaaDoor
