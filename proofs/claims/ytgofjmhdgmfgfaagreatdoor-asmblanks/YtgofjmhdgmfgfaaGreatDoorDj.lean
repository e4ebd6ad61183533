import Derived.Test.YtgofjmhdgmfgfaaGreatDoorDi
import Derived.Test.YtgofjmhdgmfgfaaGreatDoorFm
import Derived.Deep.SlicePairs
import Derived.Deep.Slices
namespace Go.Proofs.YtgofjmhdgmfgfaaGreatDoor
open Go.ChangeShapes Go.WideShapes Go.ChangeAt Go.RowKit Go.Deep
set_option linter.unusedVariables false

theorem c22' : Tryz.prog.cellsOf 22 = 1 := by kernel_rfl
theorem c25' : Tryz.prog.cellsOf 25 = 1 := by kernel_rfl
theorem c26' : Tryz.prog.cellsOf 26 = 1 := by kernel_rfl
theorem c28' : Tryz.prog.cellsOf 28 = 3 := by kernel_rfl
theorem c44' : Tryz.prog.cellsOf 44 = 2 := by kernel_rfl
theorem c9' : Tryz.prog.cellsOf 9 = 1 := by kernel_rfl
theorem b22' : Tryz.prog.bytesOf 22 = 4 := by kernel_rfl
theorem b44' : Tryz.prog.bytesOf 44 = 24 := by kernel_rfl
theorem wf_u32q {n : Int} (h : (Lit.int .u32 n).wf = true) : 0 ≤ n ∧ n ≤ 4294967295 := by
  simpa [Lit.wf, IntKind.min, IntKind.max, IntKind.signed, IntKind.bits] using h
theorem sb_of (b : ByteArray) : sb b.data.toList = b := by
  apply ByteArray.ext
  simp [sb]
/-- Words that came in. -/
theorem words_in {H : Type} {enc : TypeId × Value → H} {W : World} {fuel : Nat} {c : Value} {d : DataW H} {p : List MemPlace}
    (hf : DataW.trod enc Tryz.prog W 0 (fun _ => true) true fuel 25 [c] = some (d, p)) (hw : ∀ n ∈ d.weights Tryz.prog 25, n ≤ reachBytes) :
    ∃ ws : List Nat, WS W c ws ∧ ws.length < 4611686018427387904 ∧ ∀ x ∈ ws, x < 4294967296 := by
  rcases open_slice Tryz.underlying25 hf with ⟨hcs, hx⟩ | ⟨x, len, cap, m, n, D, Pl, hcs, _, hl, hm, hmm, hx, hel⟩
  · simp at hcs
    subst hcs
    exact ⟨[], ⟨none, 0, rfl, by simp, .inl rfl⟩, by simp, fun x hx => by cases hx⟩
  · simp at hcs
    subst hcs
    simp only [if_true] at hmm
    subst hmm
    simp only [Prod.mk.injEq] at hx
    obtain ⟨hd', _⟩ := hx
    have hreach := hw (((List.range len).map D).length + ((List.range (m - len)).map fun j => D (len + j)).length |> (· * Tryz.prog.bytesOf 22)) (by rw [hd']; simp [DataW.weights, Tryz.underlying25])
    simp only [b22', List.length_map, List.length_range, reachBytes] at hreach
    have hvs : ∀ i, i < len → ∃ v : Nat, (∃ cs, W.cells? 0 (x.add (i * 1)) 1 = some cs ∧ cs = [.int .u32 (v : Nat)]) ∧ v < 4294967296 := by
      intro i hi
      obtain ⟨cs', hc, ht'⟩ := hel i (by omega)
      rw [c22'] at hc
      obtain ⟨v, hv, _, hwf⟩ := DataW.trod_int Tryz.underlying22 ht'
      have hb := wf_u32q hwf
      refine ⟨v.toNat, ⟨cs', hc, ?_⟩, by omega⟩
      rw [hv, show ((v.toNat : Nat) : Int) = v by omega]
    obtain ⟨f, hfv⟩ := choose_lt hvs
    refine ⟨(List.range len).map f, ⟨some x, m, by simp, by simpa using hl, ?_⟩, by simp; omega, fun y hy => ?_⟩
    · by_cases h0 : len = 0
      · left; subst h0; rfl
      · right
        obtain ⟨b, off, spot⟩ := x
        have hcell : ∀ i, i < len → W.cell? ((⟨b, off, spot⟩ : Addr).add (i * 1) |>.add 0) = some (.int .u32 (f i : Nat)) := by
          intro i hi
          obtain ⟨⟨cs, hc, he'⟩, _⟩ := hfv i hi
          obtain ⟨_, hlen', hcell⟩ := World.cells?_some hc
          rw [hcell 0 (by omega), he']; rfl
        have hspot : spot = none := by
          have := hcell 0 (by omega)
          simpa [Addr.add] using World.cell?_spot this
        subst hspot
        have g : ∀ i, i < len → W.cell? ⟨b, off + i, none⟩ = some (.int .u32 (f i : Nat)) := by
          intro i hi
          have := hcell i hi
          rw [Addr.add_lit, Addr.add_lit] at this
          simpa using this
        refine ⟨b, off, rfl, World.block_lt_of_cell? W _ (g 0 (by omega)), fun i y hy => ?_⟩
        have hi : i < len := by
          have := (List.getElem?_eq_some_iff.1 hy).1
          simpa using this
        rw [List.getElem?_map, List.getElem?_range hi] at hy
        cases hy
        exact g i hi
    · obtain ⟨i, hi, rfl⟩ := List.mem_map.1 hy
      exact (hfv i (by simpa using hi)).2
theorem wAll_mem {H : Type} (e : TypeId) (d : DataW H) : ∀ (l : List (DataW H)), d ∈ l → ∀ n ∈ d.weights Tryz.prog e, n ∈ DataW.weightsAll Tryz.prog e l
  | x :: l, h, n, hn => by
    simp only [DataW.weightsAll, List.mem_append]
    rcases List.mem_cons.1 h with rfl | h
    · exact .inl hn
    · exact .inr (wAll_mem e d l h n hn)
  | [], h, _, _ => by cases h
/-- Labels that came in. -/
theorem labels_in {H : Type} {enc : TypeId × Value → H} {W : World} {fuel : Nat} {c : Value} {d : DataW H} {p : List MemPlace}
    (hf : DataW.trod enc Tryz.prog W 0 (fun _ => true) true fuel 26 [c] = some (d, p)) (hw : ∀ n ∈ d.weights Tryz.prog 26, n ≤ reachBytes) :
    ∃ lb : List (List UInt8 × Nat), LS W c lb ∧ lb.length ≤ 5864062014805 ∧ (∀ x ∈ lb, x.1.length ≤ 140737488355328) ∧ ∀ x ∈ lb, x.2 < 4294967296 := by
  rcases open_slice_pairs Tryz.underlying26 Tryz.underlying44 c44' rfl rfl c9' c22' hf with ⟨hcs, hx⟩ | ⟨x, len, cap, m, n, V0, V1, D0, D1, P0, P1, hcs, _, hl, hm, hmm, hx, hel⟩
  · simp at hcs
    subst hcs
    exact ⟨[], ⟨none, 0, rfl, by simp, .inl rfl⟩, by simp, (fun x hx => by cases hx), fun x hx => by cases hx⟩
  · simp at hcs
    subst hcs
    simp only [if_true] at hmm
    subst hmm
    simp only [Prod.mk.injEq] at hx
    obtain ⟨hd', _⟩ := hx
    have hreach := hw ((((List.range len).map fun i => (DataW.agg [D0 i, D1 i] : DataW H)).length + ((List.range (m - len)).map fun j => (DataW.agg [D0 (len + j), D1 (len + j)] : DataW H)).length) * Tryz.prog.bytesOf 44) (by rw [hd']; simp [DataW.weights, Tryz.underlying26])
    simp only [b44', List.length_map, List.length_range, reachBytes] at hreach
    have hvs : ∀ i, i < len → ∃ v : List UInt8 × Nat, (W.cell? (x.add (i * 2)) = some (.string (sb v.1)) ∧ W.cell? (x.add (i * 2 + 1)) = some (.int .u32 (v.2 : Nat))) ∧ v.1.length ≤ 140737488355328 ∧ v.2 < 4294967296 := by
      intro i hi
      obtain ⟨e0, e1, t0, t1⟩ := hel i (by omega)
      obtain ⟨b, hb, hbd, _⟩ := DataW.trod_string Tryz.underlying9 t0
      obtain ⟨v, hv, _, hwf⟩ := DataW.trod_int Tryz.underlying22 t1
      have hbv := wf_u32q hwf
      have hwl := hw b.data.toList.length (by
        rw [hd']
        simp only [DataW.weights, Tryz.underlying26]
        refine List.mem_cons_of_mem _ (List.mem_append_left _ ?_)
        refine wAll_mem 44 (.agg [D0 i, D1 i]) _ (List.mem_map.2 ⟨i, by simpa using hi, rfl⟩) _ ?_
        have hb1 : D0 i = DataW.lit (Lit.string b.data.toList) := congrArg Prod.fst hbd
        rw [hb1]
        simp [DataW.weights, Tryz.underlying44, DataW.weightsEach])
      refine ⟨(b.data.toList, v.toNat), ⟨?_, ?_⟩, by show b.data.toList.length ≤ _; simp only [reachBytes] at hwl; omega, by show v.toNat < _; omega⟩
      · have : V0 i = .string b := by simpa using hb
        rw [e0, this, sb_of]
      · have : V1 i = .int .u32 v := by simpa using hv
        rw [e1, this]
        show some (Value.int .u32 v) = some (.int .u32 ((v.toNat : Nat) : Int))
        rw [show ((v.toNat : Nat) : Int) = v by omega]
    obtain ⟨f, hfv⟩ := choose_lt hvs
    refine ⟨(List.range len).map f, ⟨some x, m, by simp, by simpa using hl, ?_⟩, by simp; omega, fun y hy => ?_, fun y hy => ?_⟩
    · by_cases h0 : len = 0
      · left; subst h0; rfl
      · right
        obtain ⟨b, off, spot⟩ := x
        have hspot : spot = none := by
          have := (hfv 0 (by omega)).1.1
          simpa [Addr.add] using World.cell?_spot this
        subst hspot
        have g : ∀ i, i < len → W.cell? ⟨b, off + i * 2, none⟩ = some (.string (sb (f i).1)) ∧ W.cell? ⟨b, off + i * 2 + 1, none⟩ = some (.int .u32 ((f i).2 : Nat)) := by
          intro i hi
          have h1 := (hfv i hi).1
          rw [Addr.add_lit, Addr.add_lit] at h1
          exact ⟨h1.1, by rw [Nat.add_assoc]; exact h1.2⟩
        refine ⟨b, off, rfl, World.block_lt_of_cell? W _ (g 0 (by omega)).1, fun i y hy => ?_⟩
        have hi : i < len := by
          have := (List.getElem?_eq_some_iff.1 hy).1
          simpa using this
        rw [List.getElem?_map, List.getElem?_range hi] at hy
        cases hy
        exact g i hi
    · obtain ⟨i, hi, rfl⟩ := List.mem_map.1 hy
      exact (hfv i (by simpa using hi)).2.1
    · obtain ⟨i, hi, rfl⟩ := List.mem_map.1 hy
      exact (hfv i (by simpa using hi)).2.2
set_option maxRecDepth 100000 in
/-- An image that came in. -/
theorem image_in {H : Type} {enc : TypeId × Value → H} {W : World} {r : Reach} {base : Nat} {v : Value} {d : DataW H} {p : List MemPlace}
    (hv : Value.okWide Tryz.prog W r base 28 v) (h : DataW.Trod enc Tryz.prog W 0 (fun _ => true) true 28 v d p) (hsz : ∀ n ∈ d.weights Tryz.prog 28, n ≤ reachBytes) :
    ∃ (org : Nat) (wv lv : Value) (ws : List Nat) (lb : List (List UInt8 × Nat)), v = .agg #[.int .u32 (org : Nat), wv, lv] ∧ org < 4294967296 ∧ WS W wv ws ∧ LS W lv lb ∧ ws.length < 4611686018427387904 ∧ lb.length ≤ 5864062014805 ∧ (∀ x ∈ lb, x.1.length ≤ 140737488355328) ∧ (∀ x ∈ lb, x.2 < 4294967296) ∧ ∀ x ∈ ws, x < 4294967296 := by
  obtain ⟨cs, rfl, hs⟩ := okWide_struct Tryz.underlying28 hv
  rw [c28'] at hs
  obtain ⟨fuel, hf⟩ := h
  obtain ⟨xs, m, _, hx, hl, hlen, hfi⟩ := DataW.trod_struct Tryz.underlying28 hf
  have hlen' : xs.length = 3 := hlen
  clear hlen
  obtain ⟨a0, a1, a2, rfl⟩ : ∃ a0 a1 a2, cs = #[a0, a1, a2] := by
    obtain ⟨l⟩ := cs
    match l, hs with
    | [a0, a1, a2], _ => exact ⟨a0, a1, a2, rfl⟩
  obtain ⟨y0, y1, y2, rfl⟩ : ∃ c0 c1 c2, xs = [c0, c1, c2] := by
    clear hfi hx
    match xs, hlen' with
    | [c0, c1, c2], _ => exact ⟨c0, c1, c2, rfl⟩
  have f0 := hfi 0 _ rfl
  have f1 := hfi 1 _ rfl
  have f2 := hfi 2 _ rfl
  simp [c22', c25', c26', Value.cells] at f0 f1 f2
  have hd : d = .agg ([y0, y1, y2].map (·.1)) := congrArg Prod.fst hx
  have q1 : ∀ n ∈ y1.1.weights Tryz.prog 25, n ≤ reachBytes := fun n hn => hsz n (by rw [hd]; simp [DataW.weights, Tryz.underlying28, DataW.weightsEach, hn])
  have q2 : ∀ n ∈ y2.1.weights Tryz.prog 26, n ≤ reachBytes := fun n hn => hsz n (by rw [hd]; simp [DataW.weights, Tryz.underlying28, DataW.weightsEach, hn])
  obtain ⟨o, e0, _, w0⟩ := DataW.trod_int Tryz.underlying22 f0
  simp at e0
  subst e0
  have hb := wf_u32q w0
  obtain ⟨ws, r1, r2, r3⟩ := words_in (d := y1.1) (p := y1.2) f1 q1
  obtain ⟨lb, s1, s2, s3, s4⟩ := labels_in (d := y2.1) (p := y2.2) f2 q2
  refine ⟨o.toNat, a1, a2, ws, lb, ?_, by omega, r1, s1, r2, s2, s3, s4, r3⟩
  rw [show ((o.toNat : Nat) : Int) = o by omega]
end Go.Proofs.YtgofjmhdgmfgfaaGreatDoor
