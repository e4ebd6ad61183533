import Derived.Test.YtghiffpolacmiaaDoorIn
import Derived.Test.YtghiffpolacmiaaDoorXe
namespace Go.Proofs.YtghiffpolacmiaaDoor
open Go.ChangeShapes Go.WideShapes Go.ChangeAt Go.RowKit Go.Deep
set_option linter.unusedVariables false

/-- A list of numbers that came in. -/
theorem row_in {H : Type} {enc : TypeId × Value → H} {W : World} {fuel : Nat} {c : Value} {d : DataW H} {p : List MemPlace} (T e : TypeId) (k : IntKind) (by' : Nat) (hT : Tryd.prog.underlying T = some (.slice e)) (he : Tryd.prog.underlying e = some (.int k)) (hc1 : Tryd.prog.cellsOf e = 1) (hby : Tryd.prog.bytesOf e = by') (hb0 : 4 ≤ by')
    (hf : DataW.trod enc Tryd.prog W 0 (fun _ => true) true fuel T [c] = some (d, p)) (hw : ∀ n ∈ d.weights Tryd.prog T, n ≤ reachBytes) :
    ∃ l : List Int, Rw W k c l ∧ l.length * by' ≤ 140737488355328 ∧ ∀ x ∈ l, (Lit.int k x).wf = true := by
  rcases open_slice hT hf with ⟨hcs, hx⟩ | ⟨x, len, cap, m, n, D, Pl, hcs, _, hl, hm, hmm, hx, hel⟩
  · simp at hcs
    subst hcs
    exact ⟨[], rw_none _ _, by simp, fun x hx => by cases hx⟩
  · simp at hcs
    subst hcs
    simp only [if_true] at hmm
    subst hmm
    simp only [Prod.mk.injEq] at hx
    obtain ⟨hd', _⟩ := hx
    have hreach := hw (((List.range len).map D).length + ((List.range (m - len)).map fun j => D (len + j)).length |> (· * Tryd.prog.bytesOf e)) (by rw [hd']; simp [DataW.weights, hT])
    simp only [hby, List.length_map, List.length_range, reachBytes] at hreach
    have hb2 : len * by' ≤ 140737488355328 := by
      have : len * by' ≤ (len + (m - len)) * by' := Nat.mul_le_mul_right _ (by omega)
      omega
    have hlen : len < 4611686018427387904 := by
      have : len * 4 ≤ len * by' := Nat.mul_le_mul_left _ hb0
      omega
    have hvs : ∀ i, i < len → ∃ v : Int, (∃ cs, W.cells? 0 (x.add (i * 1)) 1 = some cs ∧ cs = [.int k v]) ∧ (Lit.int k v).wf = true := by
      intro i hi
      obtain ⟨cs', hc, ht'⟩ := hel i (by omega)
      rw [hc1] at hc
      obtain ⟨v, hv, _, hwf⟩ := DataW.trod_int he ht'
      exact ⟨v, ⟨cs', hc, hv⟩, hwf⟩
    obtain ⟨f, hfv⟩ := choose_lt hvs
    refine ⟨(List.range len).map f, ⟨some x, m, by simp, by simpa using hl, by simpa using hlen, ?_⟩, by simpa using hb2, fun y hy => ?_⟩
    · by_cases h0 : len = 0
      · left; subst h0; rfl
      · right
        obtain ⟨b, off, spot⟩ := x
        have hcell : ∀ i, i < len → W.cell? ((⟨b, off, spot⟩ : Addr).add (i * 1) |>.add 0) = some (.int k (f i)) := by
          intro i hi
          obtain ⟨⟨cs, hc, he'⟩, _⟩ := hfv i hi
          obtain ⟨_, hlen', hcell⟩ := World.cells?_some hc
          rw [hcell 0 (by omega), he']; rfl
        have hspot : spot = none := by
          have := hcell 0 (by omega)
          simpa [Addr.add] using World.cell?_spot this
        subst hspot
        have g : ∀ i, i < len → W.cell? ⟨b, off + i, none⟩ = some (.int k (f i)) := by
          intro i hi
          have := hcell i hi
          rw [Addr.add_lit, Addr.add_lit] at this
          simpa using this
        refine ⟨b, off, rfl, World.block_lt_of_cell? W _ (g 0 (by omega)), fun i y hy => ?_⟩
        have hi : i < len := by
          have := (List.getElem?_eq_some_iff.1 hy).1
          simpa using this
        rw [List.getElem?_map, List.getElem?_range hi] at hy
        cases hy
        exact g i hi
    · obtain ⟨i, hi, rfl⟩ := List.mem_map.1 hy
      exact (hfv i (by simpa using hi)).2
theorem cells47 : Tryd.prog.cellsOf 47 = 7 := by kernel_rfl
theorem c28 : Tryd.prog.cellsOf 28 = 1 := by kernel_rfl
theorem c29 : Tryd.prog.cellsOf 29 = 1 := by kernel_rfl
theorem c30 : Tryd.prog.cellsOf 30 = 1 := by kernel_rfl
theorem c31 : Tryd.prog.cellsOf 31 = 1 := by kernel_rfl
theorem c3 : Tryd.prog.cellsOf 3 = 1 := by kernel_rfl
theorem c36 : Tryd.prog.cellsOf 36 = 1 := by kernel_rfl
theorem b22 : Tryd.prog.bytesOf 22 = 4 := by kernel_rfl
theorem b3 : Tryd.prog.bytesOf 3 = 8 := by kernel_rfl
theorem b36 : Tryd.prog.bytesOf 36 = 8 := by kernel_rfl
set_option maxRecDepth 100000 in
/-- A bench that came in. -/
theorem bench_in {H : Type} {enc : TypeId × Value → H} {W : World} {r : Reach} {base : Nat} {v : Value} {d : DataW H} {p : List MemPlace}
    (hv : Value.okWide Tryd.prog W r base 47 v) (h : DataW.Trod enc Tryd.prog W 0 (fun _ => true) true 47 v d p) (hsz : ∀ n ∈ d.weights Tryd.prog 47, n ≤ reachBytes) :
    ∃ wv vv cv fv ws vs cy fa tm ln od, v = .agg #[wv, vv, cv, fv, .int .u64 tm, .int .i64 ln, .bool od] ∧ Bn W wv vv cv fv ws vs cy fa ∧ (0 ≤ tm ∧ tm < 18446744073709551616) ∧ (-9223372036854775808 ≤ ln ∧ ln ≤ 9223372036854775807) ∧ (∀ x ∈ ws, 0 ≤ x ∧ x < 4294967296) ∧ (∀ x ∈ vs, 0 ≤ x ∧ x < 4294967296) := by
  obtain ⟨cs, rfl, hs⟩ := okWide_struct Tryd.underlying47 hv
  rw [cells47] at hs
  obtain ⟨fuel, hf⟩ := h
  obtain ⟨xs, m, _, hx, hl, hlen, hfi⟩ := DataW.trod_struct Tryd.underlying47 hf
  have hlen' : xs.length = 7 := hlen
  clear hlen
  obtain ⟨a0, a1, a2, a3, a4, a5, a6, rfl⟩ : ∃ a0 a1 a2 a3 a4 a5 a6, cs = #[a0, a1, a2, a3, a4, a5, a6] := by
    obtain ⟨l⟩ := cs
    match l, hs with
    | [a0, a1, a2, a3, a4, a5, a6], _ => exact ⟨a0, a1, a2, a3, a4, a5, a6, rfl⟩
  obtain ⟨y0, y1, y2, y3, y4, y5, y6, rfl⟩ : ∃ c0 c1 c2 c3 c4 c5 c6, xs = [c0, c1, c2, c3, c4, c5, c6] := by
    clear hfi hx
    match xs, hlen' with
    | [c0, c1, c2, c3, c4, c5, c6], _ => exact ⟨c0, c1, c2, c3, c4, c5, c6, rfl⟩
  have f0 := hfi 0 _ rfl
  have f1 := hfi 1 _ rfl
  have f2 := hfi 2 _ rfl
  have f3 := hfi 3 _ rfl
  have f4 := hfi 4 _ rfl
  have f5 := hfi 5 _ rfl
  have f6 := hfi 6 _ rfl
  simp [c28, c29, c30, c31, c3, cellsB, Value.cells] at f0 f1 f2 f3 f4 f5 f6
  have hd : d = .agg ([y0, y1, y2, y3, y4, y5, y6].map (·.1)) := congrArg Prod.fst hx
  have q0 : ∀ n ∈ y0.1.weights Tryd.prog 28, n ≤ reachBytes := fun n hn => hsz n (by rw [hd]; simp [DataW.weights, Tryd.underlying47, DataW.weightsEach, hn])
  have q1 : ∀ n ∈ y1.1.weights Tryd.prog 28, n ≤ reachBytes := fun n hn => hsz n (by rw [hd]; simp [DataW.weights, Tryd.underlying47, DataW.weightsEach, hn])
  have q2 : ∀ n ∈ y2.1.weights Tryd.prog 29, n ≤ reachBytes := fun n hn => hsz n (by rw [hd]; simp [DataW.weights, Tryd.underlying47, DataW.weightsEach, hn])
  have q3 : ∀ n ∈ y3.1.weights Tryd.prog 30, n ≤ reachBytes := fun n hn => hsz n (by rw [hd]; simp [DataW.weights, Tryd.underlying47, DataW.weightsEach, hn])
  obtain ⟨ws, r0, s0, g0⟩ := row_in (d := y0.1) (p := y0.2) 28 22 .u32 4 Tryd.underlying28 Tryd.underlying22 cells22 b22 (by omega) f0 q0
  obtain ⟨vs, r1, s1, g1⟩ := row_in (d := y1.1) (p := y1.2) 28 22 .u32 4 Tryd.underlying28 Tryd.underlying22 cells22 b22 (by omega) f1 q1
  obtain ⟨cy, r2, s2, g2⟩ := row_in (d := y2.1) (p := y2.2) 29 3 .i64 8 Tryd.underlying29 Tryd.underlying3 c3 b3 (by omega) f2 q2
  obtain ⟨fa, r3, s3, g3⟩ := row_in (d := y3.1) (p := y3.2) 30 36 .i64 8 Tryd.underlying30 Tryd.underlying36 c36 b36 (by omega) f3 q3
  obtain ⟨tm, e4, _, w4⟩ := DataW.trod_int Tryd.underlying31 f4
  obtain ⟨ln, e5, _, w5⟩ := DataW.trod_int Tryd.underlying3 f5
  obtain ⟨od, e6, _⟩ := DataW.trod_bool Tryd.underlying4 f6
  simp at e4 e5 e6
  subst e4 e5 e6
  have w4' : 0 ≤ tm ∧ tm ≤ 18446744073709551615 := by simpa [Lit.wf, IntKind.min, IntKind.max, IntKind.signed, IntKind.bits] using w4
  exact ⟨a0, a1, a2, a3, ws, vs, cy, fa, tm, ln, od, rfl, ⟨r0, r1, r2, r3, s0, s1, s2, s3⟩, by omega, wf_i64' w5, fun x hx => wf_u32' (g0 x hx), fun x hx => wf_u32' (g1 x hx)⟩
end Go.Proofs.YtghiffpolacmiaaDoor
