import Derived.Test.YtibpbemenjgncaaBa
import Derived.Deep.Slices
import Derived.ShutString
import Derived.ChangeOld
import Derived.SizedLaws
namespace Go.Proofs.Ytibpbemenjgncaa
open Go.ChangeShapes Go.WideShapes Go.ChangeAt Go.RowKit Go.Deep
set_option linter.unusedVariables false
theorem laidOut' : laidOutB Try.prog = true := by kernel_rfl
theorem own' : ownKnob Try.prog.godebug = none := by kernel_rfl
theorem cells3 : Try.prog.cellsOf 3 = 1 := by kernel_rfl
theorem cells4 : Try.prog.cellsOf 4 = 1 := by kernel_rfl
theorem cells5 : Try.prog.cellsOf 5 = 1 := by kernel_rfl
theorem cells26 : Try.prog.cellsOf 26 = 1 := by kernel_rfl
theorem cells27 : Try.prog.cellsOf 27 = 1 := by kernel_rfl
theorem cells29 : Try.prog.cellsOf 29 = 2 := by kernel_rfl
theorem cells31 : Try.prog.cellsOf 31 = 6 := by kernel_rfl
theorem cells33 : Try.prog.cellsOf 33 = 10 := by kernel_rfl
theorem bytes5 : Try.prog.bytesOf 5 = 1 := by kernel_rfl
theorem bytes3 : Try.prog.bytesOf 3 = 8 := by kernel_rfl
theorem bytes33 : Try.prog.bytesOf 33 = 120 := by kernel_rfl
theorem wf_u64 {n : Int} (h : (Lit.int .u64 n).wf = true) : 0 ≤ n ∧ n < 18446744073709551616 := by
  have : 0 ≤ n ∧ n ≤ 18446744073709551615 := by simpa [Lit.wf, IntKind.min, IntKind.max, IntKind.signed, IntKind.bits] using h
  omega
theorem choose_lt {P : Nat → OpV → Prop} {len : Nat} (h : ∀ i, i < len → ∃ v, P i v) : ∃ f : Nat → OpV, ∀ i, i < len → P i (f i) := by
  classical
  exact ⟨fun i => if hi : i < len then Classical.choose (h i hi) else default, fun i hi => by simp only [hi, dif_pos]; exact Classical.choose_spec (h i hi)⟩
theorem weightsAll_mem {H : Type} {P : Program} {e : TypeId} : ∀ {ds : List (DataW H)} {d : DataW H}, d ∈ ds → ∀ n ∈ d.weights P e, n ∈ DataW.weightsAll P e ds
  | d0 :: ds, d, hd, n, hn => by
    simp only [DataW.weightsAll, List.mem_append]
    rcases List.mem_cons.1 hd with rfl | h
    · exact .inl hn
    · exact .inr (weightsAll_mem h n hn)
  | [], _, hd, _, _ => by cases hd
theorem bytes_in {H : Type} {enc : TypeId × Value → H} {W : World} {fuel : Nat} {c : Value} {d : DataW H} {p : List MemPlace}
    (hf : DataW.trod enc Try.prog W 0 (fun _ => true) true fuel 26 [c] = some (d, p))
    (hsz : ∀ n ∈ d.weights Try.prog 26, n ≤ reachBytes) : ∃ bs, Bs W c bs := by
  rcases open_ints Try.underlying26 Try.underlying5 cells5 hf with ⟨hcs, hx⟩ | ⟨x, l, c', zs, hcs, _, hl, hm, hz, hx, hcell, hwz⟩
  · simp at hcs
    exact ⟨[], by rw [hcs]; exact Bs.nil _⟩
  · simp at hcs
    simp only [Prod.mk.injEq] at hx
    obtain ⟨hd', _⟩ := hx
    simp only [if_true] at hz
    subst hd'
    have := hsz (((lits (H := H) .u8 (zs.take l)).length + (lits (H := H) .u8 (zs.drop l)).length) * Try.prog.bytesOf 5) (by simp [DataW.weights, Try.underlying26])
    rw [bytes5] at this
    simp only [lits, List.length_map, List.length_take, List.length_drop, reachBytes] at this
    have hlen : l ≤ 140737488351232 := by omega
    have hzl : (zs.take l).length = l := by simp; omega
    refine ⟨zs.take l, ⟨some x, c', by rw [hzl]; exact hcs, ?_⟩, by rw [hzl]; exact hlen⟩
    by_cases h0 : l = 0
    · exact .inl (by rw [h0]; rfl)
    · obtain ⟨b, off, spot⟩ := x
      have hspot : spot = none := by simpa [Addr.add] using World.cell?_spot (hcell 0 (by omega))
      subst hspot
      refine .inr ⟨b, off, rfl, fun i hi => ?_⟩
      rw [hzl] at hi
      have := hcell i (by omega)
      rw [Addr.add_lit] at this
      rw [this]
      have e : zs.getD i 0 = zs[i]'(by omega) := by simp [List.getD_eq_getElem?_getD, show i < zs.length by omega]
      simp only [List.getElem_take]
      exact congrArg (fun q => some (Value.int .u8 q)) e
theorem msg_in {H : Type} {enc : TypeId × Value → H} {W : World} {fuel : Nat} {cs : List Value} {d : DataW H} {p : List MemPlace}
    (hf : DataW.trod enc Try.prog W 0 (fun _ => true) true fuel 29 cs = some (d, p)) (hsz : ∀ n ∈ d.weights Try.prog 29, n ≤ reachBytes) :
    ∃ v bs tk, cs = [v, .int .u64 tk] ∧ Bs W v bs := by
  obtain ⟨xs, n, _, hx, hl, hlen, hfi⟩ := DataW.trod_struct Try.underlying29 hf
  rw [cells29] at hl
  have hlen' : xs.length = 2 := hlen
  clear hlen
  obtain ⟨c0, c1, rfl⟩ : ∃ c0 c1, cs = [c0, c1] := by
    match cs, hl with
    | [c0, c1], _ => exact ⟨c0, c1, rfl⟩
  obtain ⟨y0, y1, rfl⟩ : ∃ c0 c1, xs = [c0, c1] := by
    clear hfi hx
    match xs, hlen' with
    | [c0, c1], _ => exact ⟨c0, c1, rfl⟩
  have f0 := hfi 0 _ rfl
  have f1 := hfi 1 _ rfl
  simp [cells26, cells27] at f0 f1
  obtain ⟨tk, e1, _, w1⟩ := DataW.trod_int Try.underlying27 f1
  simp only [Prod.mk.injEq] at hx
  have hd := hx.1
  obtain ⟨bs, hB⟩ := bytes_in (d := y0.1) (p := y0.2) f0 (by
    intro m hm
    refine hsz m ?_
    rw [hd]
    simp [DataW.weights, Try.underlying29, DataW.weightsEach, hm])
  simp at e1
  subst e1
  exact ⟨c0, bs, tk, rfl, hB⟩
theorem state_in {H : Type} {enc : TypeId × Value → H} {W : World} {fuel : Nat} {cs : List Value} {d : DataW H} {p : List MemPlace}
    (hf : DataW.trod enc Try.prog W 0 (fun _ => true) true fuel 31 cs = some (d, p)) (hsz : ∀ n ∈ d.weights Try.prog 31, n ≤ reachBytes) :
    ∃ th nt v1 b1 t1 v2 b2 t2, cs = [.bool th, .bool nt, v1, .int .u64 t1, v2, .int .u64 t2] ∧ Bs W v1 b1 ∧ Bs W v2 b2 := by
  obtain ⟨xs, n, _, hx, hl, hlen, hfi⟩ := DataW.trod_struct Try.underlying31 hf
  rw [cells31] at hl
  have hlen' : xs.length = 4 := hlen
  clear hlen
  obtain ⟨c0, c1, c2, c3, c4, c5, rfl⟩ : ∃ c0 c1 c2 c3 c4 c5, cs = [c0, c1, c2, c3, c4, c5] := by
    match cs, hl with
    | [c0, c1, c2, c3, c4, c5], _ => exact ⟨c0, c1, c2, c3, c4, c5, rfl⟩
  obtain ⟨y0, y1, y2, y3, rfl⟩ : ∃ c0 c1 c2 c3, xs = [c0, c1, c2, c3] := by
    clear hfi hx
    match xs, hlen' with
    | [c0, c1, c2, c3], _ => exact ⟨c0, c1, c2, c3, rfl⟩
  have f0 := hfi 0 _ rfl
  have f1 := hfi 1 _ rfl
  have f2 := hfi 2 _ rfl
  have f3 := hfi 3 _ rfl
  simp [cells4, cells29] at f0 f1 f2 f3
  obtain ⟨th, e0, _⟩ := DataW.trod_bool Try.underlying4 f0
  obtain ⟨nt, e1, _⟩ := DataW.trod_bool Try.underlying4 f1
  simp only [Prod.mk.injEq] at hx
  have hd := hx.1
  obtain ⟨v1, b1, t1, e2, hB1⟩ := msg_in (d := y2.1) (p := y2.2) f2 (by
    intro m hm
    refine hsz m ?_
    rw [hd]
    simp [DataW.weights, Try.underlying31, DataW.weightsEach, hm])
  obtain ⟨v2, b2, t2, e3, hB2⟩ := msg_in (d := y3.1) (p := y3.2) f3 (by
    intro m hm
    refine hsz m ?_
    rw [hd]
    simp [DataW.weights, Try.underlying31, DataW.weightsEach, hm])
  simp at e0 e1 e2 e3
  obtain ⟨rfl, rfl⟩ := e2
  obtain ⟨rfl, rfl⟩ := e3
  subst e0 e1
  exact ⟨th, nt, c2, b1, t1, c4, b2, t2, rfl, hB1, hB2⟩
theorem op_in {H : Type} {enc : TypeId × Value → H} {W : World} {fuel : Nat} {cs : List Value} {d : DataW H} {p : List MemPlace}
    (hf : DataW.trod enc Try.prog W 0 (fun _ => true) true fuel 33 cs = some (d, p)) (hsz : ∀ n ∈ d.weights Try.prog 33, n ≤ reachBytes) :
    ∃ v : OpV, cs = opC v ∧ v.data W := by
  obtain ⟨xs, n, _, hx, hl, hlen, hfi⟩ := DataW.trod_struct Try.underlying33 hf
  rw [cells33] at hl
  have hlen' : xs.length = 5 := hlen
  clear hlen
  obtain ⟨c0, c1, c2, c3, c4, c5, c6, c7, c8, c9, rfl⟩ : ∃ c0 c1 c2 c3 c4 c5 c6 c7 c8 c9, cs = [c0, c1, c2, c3, c4, c5, c6, c7, c8, c9] := by
    match cs, hl with
    | [c0, c1, c2, c3, c4, c5, c6, c7, c8, c9], _ => exact ⟨c0, c1, c2, c3, c4, c5, c6, c7, c8, c9, rfl⟩
  obtain ⟨y0, y1, y2, y3, y4, rfl⟩ : ∃ c0 c1 c2 c3 c4, xs = [c0, c1, c2, c3, c4] := by
    clear hfi hx
    match xs, hlen' with
    | [c0, c1, c2, c3, c4], _ => exact ⟨c0, c1, c2, c3, c4, rfl⟩
  have f0 := hfi 0 _ rfl
  have f1 := hfi 1 _ rfl
  have f2 := hfi 2 _ rfl
  have f3 := hfi 3 _ rfl
  have f4 := hfi 4 _ rfl
  simp [cells3, cells26, cells27, cells31] at f0 f1 f2 f3 f4
  obtain ⟨kd, e0, _, w0⟩ := DataW.trod_int Try.underlying3 f0
  obtain ⟨ce, e1, _, w1⟩ := DataW.trod_int Try.underlying3 f1
  obtain ⟨tk, e2, _, w2⟩ := DataW.trod_int Try.underlying27 f2
  simp only [Prod.mk.injEq] at hx
  have hd := hx.1
  obtain ⟨bs, hB⟩ := bytes_in (d := y3.1) (p := y3.2) f3 (by
    intro m hm
    refine hsz m ?_
    rw [hd]
    simp [DataW.weights, Try.underlying33, DataW.weightsEach, hm])
  obtain ⟨th, nt, v1, b1, t1, v2, b2, t2, e4, hB1, hB2⟩ := state_in (d := y4.1) (p := y4.2) f4 (by
    intro m hm
    refine hsz m ?_
    rw [hd]
    simp [DataW.weights, Try.underlying33, DataW.weightsEach, hm])
  simp at e0 e1 e2 e4
  obtain ⟨rfl, rfl, rfl, rfl, rfl, rfl⟩ := e4
  subst e0 e1 e2
  exact ⟨⟨kd, ce, tk, c3, bs, th, nt, c6, b1, t1, c8, b2, t2⟩, rfl, hB, hB1, hB2, wf_u64 w2⟩
/-- A script that came in. -/
theorem ops_in {H : Type} {enc : TypeId × Value → H} {W : World} {a0 : Option Addr} {len cap : Nat} {d : DataW H} {p : List MemPlace}
    (h : DataW.Trod enc Try.prog W 0 (fun _ => true) true 22 (.slice a0 len cap) d p)
    (hw : ∀ n ∈ d.weights Try.prog 22, n ≤ reachBytes) : ∃ os : List OpV, os.length = len ∧ OpsIn W a0 os := by
  obtain ⟨fuel, hf⟩ := h
  rcases open_slice Try.underlying22 hf with ⟨hcs, hx⟩ | ⟨x, l, c, m, n, D, Pl, hcs, _, hl, hm, hmm, hx, hel⟩
  · simp [Value.cells] at hcs
    obtain ⟨rfl, rfl, rfl⟩ := hcs
    exact ⟨[], rfl, .inl rfl, fun i hi => by simp at hi, by simp⟩
  · simp [Value.cells] at hcs
    obtain ⟨rfl, rfl, rfl⟩ := hcs
    simp only [if_true] at hmm
    subst hmm
    simp only [Prod.mk.injEq] at hx
    obtain ⟨hd', _⟩ := hx
    have hreach := hw (((List.range len).map D).length + ((List.range (m - len)).map fun j => D (len + j)).length |> (· * Try.prog.bytesOf 33)) (by rw [hd']; simp [DataW.weights, Try.underlying22])
    simp only [bytes33, List.length_map, List.length_range, reachBytes] at hreach
    have hvs : ∀ i, i < len → ∃ v : OpV, (∃ cs, W.cells? 0 (x.add (i * 10)) 10 = some cs ∧ cs = opC v) ∧ v.data W := by
      intro i hi
      obtain ⟨cs', hc, ht'⟩ := hel i (by omega)
      rw [cells33] at hc
      obtain ⟨v, hv, hdat⟩ := op_in ht' (fun q hq => hw q (by
        rw [hd']
        have := weightsAll_mem (P := Try.prog) (e := 33) (ds := (List.range len).map D) (d := D i) (List.mem_map.2 ⟨i, by simpa using hi, rfl⟩) q hq
        simp [DataW.weights, Try.underlying22, this]))
      exact ⟨v, ⟨cs', hc, hv⟩, hdat⟩
    obtain ⟨f, hfv⟩ := choose_lt hvs
    refine ⟨(List.range len).map f, by simp, ?_, ?_, by simp; omega⟩
    · by_cases h0 : len = 0
      · exact .inl (by simp [h0])
      · right
        obtain ⟨b, off, spot⟩ := x
        have hcell : ∀ i, i < len → ∀ q, q < 10 → W.cell? ((⟨b, off, spot⟩ : Addr).add (i * 10) |>.add q) = (opC (f i))[q]? := by
          intro i hi q hq
          obtain ⟨⟨cs, hc, he⟩, _⟩ := hfv i hi
          obtain ⟨_, hlen', hcell⟩ := World.cells?_some hc
          rw [hcell q hq, he]
        have hspot : spot = none := by
          have := hcell 0 (by omega) 0 (by omega)
          simpa [Addr.add] using World.cell?_spot this
        subst hspot
        refine ⟨b, off, rfl, fun i hi q v hv => ?_⟩
        simp only [List.length_map, List.length_range] at hi
        have hq : q < 10 := (List.getElem?_eq_some_iff.1 hv).1
        have := hcell i hi q hq
        rw [Addr.add_lit, Addr.add_lit] at this
        rw [this]
        simpa using hv
    · intro i hi
      simp only [List.length_map, List.length_range] at hi
      simpa using (hfv i hi).2
end Go.Proofs.Ytibpbemenjgncaa
