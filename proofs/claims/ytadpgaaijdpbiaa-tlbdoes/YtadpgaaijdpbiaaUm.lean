import Derived.Test.YtadpgaaijdpbiaaUl
import Derived.Test.YtadpgaaijdpbiaaIi
import Derived.Deep.Slices
import Derived.ShutString
import Derived.ChangeOld
import Derived.SizedLaws
namespace Go.Proofs.Ytadpgaaijdpbiaa
open Go.ChangeShapes Go.WideShapes Go.ChangeAt Go.RowKit Go.Deep Go.Shelf
set_option linter.unusedVariables false

theorem cells_77 : Try.prog.cellsOf 77 = 9 := by kernel_rfl
theorem cells_31 : Try.prog.cellsOf 31 = 2 := by kernel_rfl
theorem cells_36 : Try.prog.cellsOf 36 = 2 := by kernel_rfl
theorem cells_58 : Try.prog.cellsOf 58 = 4 := by kernel_rfl
theorem cells_61 : Try.prog.cellsOf 61 = 1 := by kernel_rfl
theorem cells_55 : Try.prog.cellsOf 55 = 1 := by kernel_rfl
theorem cells_22 : Try.prog.cellsOf 22 = 1 := by kernel_rfl
theorem cells_34 : Try.prog.cellsOf 34 = 1 := by kernel_rfl
theorem bytes_58 : Try.prog.bytesOf 58 = 24 := by kernel_rfl
theorem bytes_77 : Try.prog.bytesOf 77 = 96 := by kernel_rfl
theorem wf8 {n : Int} (h : (Lit.int .u8 n).wf = true) : 0 ≤ n ∧ n ≤ 255 := by
  simpa [Lit.wf, IntKind.min, IntKind.max, IntKind.signed, IntKind.bits] using h
theorem weightsAll_mem {H : Type} {P : Program} {e : TypeId} : ∀ {ds : List (DataW H)} {d : DataW H}, d ∈ ds → ∀ n ∈ d.weights P e, n ∈ DataW.weightsAll P e ds
  | d0 :: ds, d, hd, n, hn => by
    simp only [DataW.weightsAll, List.mem_append]
    rcases List.mem_cons.1 hd with rfl | h
    · exact .inl hn
    · exact .inr (weightsAll_mem h n hn)
  | [], _, hd, _, _ => by cases hd

set_option maxRecDepth 8000
section
variable {H : Type} {enc : TypeId × Value → H} {W : World} {fuel : Nat} {cs : List Value} {d : DataW H} {p : List MemPlace}
theorem tag_in (hf : DataW.trod enc Try.prog W 0 (fun _ => true) true fuel 31 cs = some (d, p)) : ∃ t : Tg, cs = [.int .i64 t.1, .int .u32 ((t.2 : Nat) : Int)] ∧ TOk t := by
  obtain ⟨y0, y1, n, _, hl, f0, f1⟩ := trod_struct2 Try.underlying31 hf
  rw [cells_31] at hl
  obtain ⟨c0, c1, rfl⟩ : ∃ c0 c1, cs = [c0, c1] := by
    match cs, hl with
    | [c0, c1], _ => exact ⟨c0, c1, rfl⟩
  simp [cells_3, cells_22] at f0 f1
  obtain ⟨a, e0, _, w0⟩ := DataW.trod_int Try.underlying3 f0
  obtain ⟨b, e1, _, w1⟩ := DataW.trod_int Try.underlying22 f1
  simp at e0 e1
  have hb := wfu w1
  have ha := wfi w0
  refine ⟨(a, b.toNat), ?_, ha.1, ha.2, by show b.toNat < _; omega⟩
  rw [e0, e1]
  have : ((b.toNat : Nat) : Int) = b := by omega
  simp [this]
theorem map_in (hf : DataW.trod enc Try.prog W 0 (fun _ => true) true fuel 36 cs = some (d, p)) : ∃ t : Mp, cs = [.int .u32 ((t.1 : Nat) : Int), .int .u8 ((t.2 : Nat) : Int)] ∧ MOk t := by
  obtain ⟨y0, y1, n, _, hl, f0, f1⟩ := trod_struct2 Try.underlying36 hf
  rw [cells_36] at hl
  obtain ⟨c0, c1, rfl⟩ : ∃ c0 c1, cs = [c0, c1] := by
    match cs, hl with
    | [c0, c1], _ => exact ⟨c0, c1, rfl⟩
  simp [cells_22, cells_34] at f0 f1
  obtain ⟨a, e0, _, w0⟩ := DataW.trod_int Try.underlying22 f0
  obtain ⟨b, e1, _, w1⟩ := DataW.trod_int Try.underlying34 f1
  simp at e0 e1
  have ha := wfu w0
  have hb := wf8 w1
  refine ⟨(a.toNat, b.toNat), ?_, by show a.toNat < _; omega, by show b.toNat < _; omega⟩
  rw [e0, e1]
  have h1 : ((a.toNat : Nat) : Int) = a := by omega
  have h2 : ((b.toNat : Nat) : Int) = b := by omega
  simp [h1, h2]
def s4 (x : Sl4) : List Value := [.int .i64 x.1.1, .int .u32 ((x.1.2 : Nat) : Int), .int .u32 ((x.2.1 : Nat) : Int), .int .u8 ((x.2.2 : Nat) : Int)]
theorem slot_in (hf : DataW.trod enc Try.prog W 0 (fun _ => true) true fuel 58 cs = some (d, p)) : ∃ x : Sl4, cs = s4 x ∧ TOk x.1 ∧ MOk x.2 := by
  obtain ⟨y0, y1, n, _, hl, f0, f1⟩ := trod_struct2 Try.underlying58 hf
  rw [cells_58] at hl
  obtain ⟨c0, c1, c2, c3, rfl⟩ : ∃ c0 c1 c2 c3, cs = [c0, c1, c2, c3] := by
    match cs, hl with
    | [c0, c1, c2, c3], _ => exact ⟨c0, c1, c2, c3, rfl⟩
  simp [cells_31, cells_36] at f0 f1
  obtain ⟨t, e0, h0⟩ := tag_in f0
  obtain ⟨m, e1, h1⟩ := map_in f1
  simp at e0 e1
  obtain ⟨rfl, rfl⟩ := e0
  obtain ⟨rfl, rfl⟩ := e1
  exact ⟨(t, m), rfl, h0, h1⟩

/-- A list of slots within another datum. -/
theorem slots_in {c : Value} (hf : DataW.trod enc Try.prog W 0 (fun _ => true) true fuel 55 [c] = some (d, p)) (hw : ∀ n ∈ d.weights Try.prog 55, n ≤ reachBytes) :
    ∃ a0 len cap l, c = .slice a0 len cap ∧ SlotsIn W a0 len l ∧ SOk l ∧ len ≤ 10000000000000 := by
  rcases open_slice Try.underlying55 hf with ⟨hcs, hx⟩ | ⟨x, len, cap, m, n, D, Pl, hcs, _, hl, hm, hmm, hx, hel⟩
  · simp at hcs
    exact ⟨none, 0, 0, [], hcs, ⟨rfl, .inl rfl⟩, fun x hx => (by cases hx), by omega⟩
  · simp at hcs
    subst hcs
    simp only [if_true] at hmm
    subst hmm
    simp only [Prod.mk.injEq] at hx
    obtain ⟨hd', _⟩ := hx
    have hreach := hw (((List.range len).map D).length + ((List.range (m - len)).map fun j => D (len + j)).length |> (· * Try.prog.bytesOf 58)) (by rw [hd']; simp [DataW.weights, Try.underlying55])
    simp only [bytes_58, List.length_map, List.length_range, reachBytes] at hreach
    have hvs : ∀ i, i < len → ∃ v : Sl4, (∃ cs, W.cells? 0 (x.add (i * 4)) 4 = some cs ∧ cs = s4 v) ∧ TOk v.1 ∧ MOk v.2 := by
      intro i hi
      obtain ⟨cs', hc, ht'⟩ := hel i (by omega)
      rw [cells_58] at hc
      obtain ⟨v, hv, hdat⟩ := slot_in ht'
      exact ⟨v, ⟨cs', hc, hv⟩, hdat⟩
    obtain ⟨f, hfv⟩ := choose_lt hvs
    refine ⟨some x, len, _, (List.range len).map f, rfl, ⟨by simp, ?_⟩, ?_, by omega⟩
    · by_cases h0 : len = 0
      · exact .inl h0
      · right
        obtain ⟨b, off, spot⟩ := x
        have hcell : ∀ i, i < len → ∀ q, q < 4 → W.cell? ((⟨b, off, spot⟩ : Addr).add (i * 4) |>.add q) = (s4 (f i))[q]? := by
          intro i hi q hq
          obtain ⟨⟨cs, hc, he⟩, _⟩ := hfv i hi
          obtain ⟨_, hlen', hcell⟩ := World.cells?_some hc
          rw [hcell q hq, he]
        have hspot : spot = none := by
          have := hcell 0 (by omega) 0 (by omega)
          simpa [Addr.add] using World.cell?_spot this
        subst hspot
        have g : ∀ i, i < len → ∀ q, q < 4 → W.cell? ⟨b, off + i * 4 + q, none⟩ = (s4 (f i))[q]? := by
          intro i hi q hq
          have := hcell i hi q hq
          rw [Addr.add_lit, Addr.add_lit] at this
          exact this
        refine ⟨b, off, rfl, World.block_lt_of_cell? W _ (g 0 (by omega) 0 (by omega)), fun i hi => ?_⟩
        simp at hi
        simp only [List.getElem_map, List.getElem_range]
        exact ⟨g i hi 0 (by omega), g i hi 1 (by omega), g i hi 2 (by omega), g i hi 3 (by omega)⟩
    · intro v hv
      simp at hv
      obtain ⟨i, hi, rfl⟩ := hv
      exact (hfv i hi).2
theorem ints_in' {c : Value} (hf : DataW.trod enc Try.prog W 0 (fun _ => true) true fuel 61 [c] = some (d, p)) (hw : ∀ n ∈ d.weights Try.prog 61, n ≤ reachBytes) :
    ∃ a0 len cap Z, c = .slice a0 len cap ∧ IntsIn W a0 len Z := by
  rcases open_slice Try.underlying61 hf with ⟨hcs, hx⟩ | ⟨x, len, cap, m, n, D, Pl, hcs, _⟩
  · simp at hcs
    exact ⟨none, 0, 0, fun _ => 0, hcs, .inl rfl, by omega⟩
  · simp at hcs
    subst hcs
    obtain ⟨Z, hZ⟩ := ints_in ⟨fuel, hf⟩ hw
    exact ⟨some x, len, cap, Z, rfl, hZ⟩
instance : Inhabited Opv := ⟨⟨0, 0, 0, (0, 0), (0, 0), none, 0, 0, none, 0, 0⟩⟩

set_option maxRecDepth 8000 in
theorem opv_in (hf : DataW.trod enc Try.prog W 0 (fun _ => true) true fuel 77 cs = some (d, p)) (hsz : ∀ n ∈ d.weights Try.prog 77, n ≤ reachBytes) :
    ∃ v : Opv × (Nat → Int) × List Sl4, cs = v.1.cells.toList ∧ OpvOk W (fun _ => 6) v.1 v.2.1 v.2.2 := by
  obtain ⟨xs, n, _, hx, hl, hlen, hfi⟩ := DataW.trod_struct Try.underlying77 hf
  rw [cells_77] at hl
  have hlen' : xs.length = 7 := hlen
  clear hlen
  obtain ⟨c0, c1, c2, c3, c4, c5, c6, c7, c8, rfl⟩ : ∃ c0 c1 c2 c3 c4 c5 c6 c7 c8, cs = [c0, c1, c2, c3, c4, c5, c6, c7, c8] := by
    match cs, hl with
    | [c0, c1, c2, c3, c4, c5, c6, c7, c8], _ => exact ⟨c0, c1, c2, c3, c4, c5, c6, c7, c8, rfl⟩
  obtain ⟨y0, y1, y2, y3, y4, y5, y6, rfl⟩ : ∃ c0 c1 c2 c3 c4 c5 c6, xs = [c0, c1, c2, c3, c4, c5, c6] := by
    clear hfi hx
    match xs, hlen' with
    | [c0, c1, c2, c3, c4, c5, c6], _ => exact ⟨c0, c1, c2, c3, c4, c5, c6, rfl⟩
  have f0 := hfi 0 _ rfl
  have f1 := hfi 1 _ rfl
  have f2 := hfi 2 _ rfl
  have f3 := hfi 3 _ rfl
  have f4 := hfi 4 _ rfl
  have f5 := hfi 5 _ rfl
  have f6 := hfi 6 _ rfl
  simp [cells_3, cells_31, cells_36, cells_61, cells_55] at f0 f1 f2 f3 f4 f5 f6
  obtain ⟨kind, e0, _, w0⟩ := DataW.trod_int Try.underlying3 f0
  obtain ⟨t, e1, _, w1⟩ := DataW.trod_int Try.underlying3 f1
  obtain ⟨nn, e2, _, w2⟩ := DataW.trod_int Try.underlying3 f2
  obtain ⟨tg, e3, h3⟩ := tag_in (d := y3.1) (p := y3.2) f3
  obtain ⟨mp, e4, h4⟩ := map_in (d := y4.1) (p := y4.2) f4
  simp only [Prod.mk.injEq] at hx
  have hd := hx.1
  have h5 : ∀ n ∈ y5.1.weights Try.prog 61, n ≤ reachBytes := by
    intro m hm
    refine hsz m ?_
    rw [hd]
    simp [DataW.weights, Try.underlying77, DataW.weightsEach, hm]
  have h6 : ∀ n ∈ y6.1.weights Try.prog 55, n ≤ reachBytes := by
    intro m hm
    refine hsz m ?_
    rw [hd]
    simp [DataW.weights, Try.underlying77, DataW.weightsEach, hm]
  obtain ⟨ca, cl, cc, Z, e5, hZ⟩ := ints_in' (d := y5.1) (p := y5.2) f5 h5
  obtain ⟨la, ll, lc, l, e6, hL, hO, h13⟩ := slots_in (d := y6.1) (p := y6.2) f6 h6
  simp at e0 e1 e2 e3 e4
  obtain ⟨rfl, rfl⟩ := e3
  obtain ⟨rfl, rfl⟩ := e4
  subst e0 e1 e2 e5 e6
  exact ⟨(⟨kind, t, nn, tg, mp, ca, cl, cc, la, ll, lc⟩, Z, l), rfl, wfi w0, wfi w1, wfi w2, h3, h4, hZ, fun _ _ _ => rfl, hL, hO, h13⟩

/-- A script that came in. -/
theorem script_in {a0 : Option Addr} {len cap : Nat}
    (h : DataW.Trod enc Try.prog W 0 (fun _ => true) true 64 (.slice a0 len cap) d p)
    (hw : ∀ n ∈ d.weights Try.prog 64, n ≤ reachBytes) : ∃ F Z l, ScriptIn W a0 len F Z l := by
  obtain ⟨fuel, hf⟩ := h
  rcases open_slice Try.underlying64 hf with ⟨hcs, hx⟩ | ⟨x, l, c, m, n, D, Pl, hcs, _, hl, hm, hmm, hx, hel⟩
  · simp [Value.cells] at hcs
    obtain ⟨rfl, rfl, rfl⟩ := hcs
    exact ⟨fun _ => default, fun _ _ => 0, fun _ => [], .inl rfl, by omega, fun i hi => by omega⟩
  · simp [Value.cells] at hcs
    obtain ⟨rfl, rfl, rfl⟩ := hcs
    simp only [if_true] at hmm
    subst hmm
    simp only [Prod.mk.injEq] at hx
    obtain ⟨hd', _⟩ := hx
    have hreach := hw (((List.range len).map D).length + ((List.range (m - len)).map fun j => D (len + j)).length |> (· * Try.prog.bytesOf 77)) (by rw [hd']; simp [DataW.weights, Try.underlying64])
    simp only [bytes_77, List.length_map, List.length_range, reachBytes] at hreach
    have hvs : ∀ i, i < len → ∃ v : Opv × (Nat → Int) × List Sl4, (∃ cs, W.cells? 0 (x.add (i * 9)) 9 = some cs ∧ cs = v.1.cells.toList) ∧ OpvOk W (fun _ => 6) v.1 v.2.1 v.2.2 := by
      intro i hi
      obtain ⟨cs', hc, ht'⟩ := hel i (by omega)
      rw [cells_77] at hc
      obtain ⟨v, hv, hdat⟩ := opv_in ht' (fun q hq => hw q (by
        rw [hd']
        have := weightsAll_mem (P := Try.prog) (e := 77) (ds := (List.range len).map D) (d := D i) (List.mem_map.2 ⟨i, by simpa using hi, rfl⟩) q hq
        simp [DataW.weights, Try.underlying64, this]))
      exact ⟨v, ⟨cs', hc, hv⟩, hdat⟩
    obtain ⟨f, hfv⟩ := choose_lt hvs
    refine ⟨fun i => (f i).1, fun i => (f i).2.1, fun i => (f i).2.2, ?_, by omega, fun i hi => (hfv i hi).2⟩
    by_cases h0 : len = 0
    · exact .inl h0
    · right
      obtain ⟨b, off, spot⟩ := x
      have hcell : ∀ i, i < len → ∀ q, q < 9 → W.cell? ((⟨b, off, spot⟩ : Addr).add (i * 9) |>.add q) = ((f i).1.cells)[q]? := by
        intro i hi q hq
        obtain ⟨⟨cs, hc, he⟩, _⟩ := hfv i hi
        obtain ⟨_, hlen', hcell⟩ := World.cells?_some hc
        rw [hcell q hq, he, Array.getElem?_toList]
      have hspot : spot = none := by
        have := hcell 0 (by omega) 0 (by omega)
        rw [show ((f 0).1.cells)[0]? = some (.int .i64 (f 0).1.kind) from rfl] at this
        simpa [Addr.add] using World.cell?_spot this
      subst hspot
      have g : ∀ i, i < len → ∀ q, q < 9 → W.cell? ⟨b, off + i * 9 + q, none⟩ = ((f i).1.cells)[q]? := by
        intro i hi q hq
        have := hcell i hi q hq
        rw [Addr.add_lit, Addr.add_lit] at this
        exact this
      exact ⟨b, off, rfl, World.block_lt_of_cell? W _ (show W.cell? ⟨b, off + 0 * 9 + 0, none⟩ = some (.int .i64 (f 0).1.kind) from g 0 (by omega) 0 (by omega)), g⟩
end
end Go.Proofs.Ytadpgaaijdpbiaa
