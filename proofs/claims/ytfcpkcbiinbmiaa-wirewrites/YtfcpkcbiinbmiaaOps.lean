import Derived.Test.YtfcpkcbiinbmiaaSt
import Derived.Test.YtfcpkcbiinbmiaaBurstsProof
import Derived.Deep.Slices
namespace Go.Proofs.Ytfcpkcbiinbmiaa
open Go.ChangeShapes Go.WideShapes Go.ChangeAt Go.RowKit Go.Deep
set_option linter.unusedVariables false

theorem cells44 : Try.prog.cellsOf 44 = 5 := by kernel_rfl
theorem cells3 : Try.prog.cellsOf 3 = 1 := by kernel_rfl
theorem cells42 : Try.prog.cellsOf 42 = 1 := by kernel_rfl
theorem cells22 : Try.prog.cellsOf 22 = 1 := by kernel_rfl
theorem cells9 : Try.prog.cellsOf 9 = 1 := by kernel_rfl
theorem bytes44 : Try.prog.bytesOf 44 = 64 := by kernel_rfl

theorem wf_u64 {n : Int} (h : (Lit.int .u64 n).wf = true) : 0 ≤ n ∧ n ≤ 18446744073709551615 := by
  simpa [Lit.wf, IntKind.min, IntKind.max, IntKind.signed, IntKind.bits] using h

theorem weightsAll_mem {H : Type} {P : Program} {e : TypeId} : ∀ {ds : List (DataW H)} {d : DataW H}, d ∈ ds → ∀ n ∈ d.weights P e, n ∈ DataW.weightsAll P e ds
  | d0 :: ds, d, hd, n, hn => by
    simp only [DataW.weightsAll, List.mem_append]
    rcases List.mem_cons.1 hd with rfl | h
    · exact .inl hn
    · exact .inr (weightsAll_mem h n hn)
  | [], _, hd, _, _ => by cases hd

theorem bytes_in' {H : Type} {enc : TypeId × Value → H} {W : World} {fuel : Nat} {c : Value} {d : DataW H} {p : List MemPlace}
    (hf : DataW.trod enc Try.prog W 0 (fun _ => true) true fuel 22 [c] = some (d, p))
    (hsz : ∀ n ∈ d.weights Try.prog 22, n ≤ reachBytes) : ∃ a0 len cap bs, c = .slice a0 len cap ∧ Bs W a0 len bs ∧ len ≤ 140737488351232 ∧ len ≤ cap ∧ (a0 = none → cap = 0) := by
  rcases open_ints Try.underlying22 Try.underlying5 cells5 hf with ⟨hcs, hx⟩ | ⟨x, l, c', zs, hcs, _, hl, hm, hz, hx, hcell, hwz⟩
  · simp at hcs
    exact ⟨none, 0, 0, [], hcs, ⟨rfl, by omega, by simp, .inl rfl⟩, by omega, by omega, fun _ => rfl⟩
  · simp at hcs
    simp only [Prod.mk.injEq] at hx
    obtain ⟨hd', _⟩ := hx
    simp only [if_true] at hz
    subst hd'
    have := hsz (((lits (H := H) .u8 (zs.take l)).length + (lits (H := H) .u8 (zs.drop l)).length) * Try.prog.bytesOf 5) (by simp [DataW.weights, Try.underlying22])
    rw [bytes5] at this
    simp only [lits, List.length_map, List.length_take, List.length_drop, reachBytes] at this
    have hlen : l ≤ 140737488351232 := by omega
    refine ⟨some x, l, c', zs.take l, hcs, ⟨by simp; omega, by omega, fun n hn => wf_u8 (hwz n (List.mem_of_mem_take hn)), ?_⟩, hlen, hl, (by intro e; cases e)⟩
    by_cases h0 : l = 0
    · exact .inl h0
    · obtain ⟨b, off, spot⟩ := x
      have hspot : spot = none := by simpa [Addr.add] using World.cell?_spot (hcell 0 (by omega))
      subst hspot
      refine .inr ⟨b, off, rfl, fun i hi => ?_⟩
      have := hcell i (by omega)
      rw [Addr.add_lit] at this
      rw [this]
      simp [hi]

instance : Inhabited OpV := ⟨⟨0, 0, 0, none, 0, 0, [], ByteArray.empty⟩⟩

/-- What a step's bytes and text are. -/
def OpV.data (w : World) (v : OpV) : Prop := v.ok ∧ Bs w v.ba v.bl v.bs ∧ v.bl ≤ 140737488351232 ∧ v.bl ≤ v.bc ∧ (v.ba = none → v.bc = 0) ∧ v.str.size ≤ 140737488351232

set_option maxRecDepth 4000 in
theorem op_in {H : Type} {enc : TypeId × Value → H} {W : World} {fuel : Nat} {cs : List Value} {d : DataW H} {p : List MemPlace}
    (hf : DataW.trod enc Try.prog W 0 (fun _ => true) true fuel 44 cs = some (d, p)) (hsz : ∀ n ∈ d.weights Try.prog 44, n ≤ reachBytes) :
    ∃ v : OpV, cs = [.int .i64 v.kind, .int .u64 v.n, .int .i64 v.k, .slice v.ba v.bl v.bc, .string v.str] ∧ v.data W := by
  obtain ⟨xs, n, _, hx, hl, hlen, hfi⟩ := DataW.trod_struct Try.underlying44 hf
  rw [cells44] at hl
  have hlen' : xs.length = 5 := hlen
  clear hlen
  obtain ⟨c0, c1, c2, c3, c4, rfl⟩ : ∃ c0 c1 c2 c3 c4, cs = [c0, c1, c2, c3, c4] := by
    match cs, hl with
    | [c0, c1, c2, c3, c4], _ => exact ⟨c0, c1, c2, c3, c4, rfl⟩
  obtain ⟨y0, y1, y2, y3, y4, rfl⟩ : ∃ c0 c1 c2 c3 c4, xs = [c0, c1, c2, c3, c4] := by
    clear hfi hx
    match xs, hlen' with
    | [c0, c1, c2, c3, c4], _ => exact ⟨c0, c1, c2, c3, c4, rfl⟩
  · skip
    have f0 := hfi 0 _ rfl
    have f1 := hfi 1 _ rfl
    have f2 := hfi 2 _ rfl
    have f3 := hfi 3 _ rfl
    have f4 := hfi 4 _ rfl
    simp [cells3, cells42, cells22, cells9] at f0 f1 f2 f3 f4
    obtain ⟨kind, e0, _, w0⟩ := DataW.trod_int Try.underlying3 f0
    obtain ⟨nn, e1, _, w1⟩ := DataW.trod_int Try.underlying42 f1
    obtain ⟨k, e2, _, w2⟩ := DataW.trod_int Try.underlying3 f2
    obtain ⟨st, e4, hx4, w4⟩ := DataW.trod_string Try.underlying9 f4
    simp only [Prod.mk.injEq] at hx
    have hd := hx.1
    have h3 : ∀ n ∈ y3.1.weights Try.prog 22, n ≤ reachBytes := by
      intro m hm
      refine hsz m ?_
      rw [hd]
      simp [DataW.weights, Try.underlying44, DataW.weightsEach, hm]
    have h4 : st.size ≤ reachBytes := by
      refine hsz st.size ?_
      have e : st.size = st.data.toList.length := by rw [Array.length_toList]; rfl
      have hm : st.size ∈ y4.1.weights Try.prog 9 := by rw [hx4, e]; simp only [DataW.weights, List.mem_singleton]
      rw [hd]
      simp [DataW.weights, Try.underlying44, DataW.weightsEach, hm]
    obtain ⟨ba, bl, bc, bs, e3, hB, hbl, hbc, hnil⟩ := bytes_in' (d := y3.1) (p := y3.2) f3 h3
    simp at e0 e1 e2 e4
    subst e0 e1 e2 e3 e4
    exact ⟨⟨kind, nn, k, ba, bl, bc, bs, st⟩, rfl, ⟨wf_i64' w0, wf_u64 w1, wf_i64' w2⟩, hB, hbl, hbc, hnil, by simpa [reachBytes] using h4⟩

/-- A script that came in. -/
theorem ops_in {H : Type} {enc : TypeId × Value → H} {W : World} {a0 : Option Addr} {len cap : Nat} {d : DataW H} {p : List MemPlace} {ts : List TypeId} {ds : List (DataW H)} {j : Nat}
    (h : DataW.Trod enc Try.prog W 0 (fun _ => true) true 33 (.slice a0 len cap) d p)
    (hsz : (DataW.weightsEach Try.prog ts ds).all (· ≤ reachBytes) = true) (ht : ts[j]? = some 33) (hd : ds[j]? = some d) : ∃ os, os.length = len ∧ OpsIn W a0 os ∧ (∀ v ∈ os, v.data W) ∧ len * 64 ≤ 140737488351232 := by
  have hw : ∀ n ∈ d.weights Try.prog 33, n ≤ reachBytes := fun n hn => by
    have := List.all_eq_true.1 hsz n (DataW.weights_mem_each ht hd n hn)
    simpa using this
  obtain ⟨fuel, hf⟩ := h
  rcases open_slice Try.underlying33 hf with ⟨hcs, hx⟩ | ⟨x, l, c, m, n, D, Pl, hcs, _, hl, hm, hmm, hx, hel⟩
  · simp [Value.cells] at hcs
    obtain ⟨rfl, rfl, rfl⟩ := hcs
    exact ⟨[], rfl, ⟨by simp, by simp, .inl rfl⟩, by simp, by omega⟩
  · simp [Value.cells] at hcs
    obtain ⟨rfl, rfl, rfl⟩ := hcs
    simp only [if_true] at hmm
    subst hmm
    simp only [Prod.mk.injEq] at hx
    obtain ⟨hd', _⟩ := hx
    have hreach := hw (((List.range len).map D).length + ((List.range (m - len)).map fun j => D (len + j)).length |> (· * Try.prog.bytesOf 44)) (by rw [hd']; simp [DataW.weights, Try.underlying33])
    simp only [bytes44, List.length_map, List.length_range, reachBytes] at hreach
    have hvs : ∀ i, i < len → ∃ v : OpV, (∃ cs, W.cells? 0 (x.add (i * 5)) 5 = some cs ∧ cs = [.int .i64 v.kind, .int .u64 v.n, .int .i64 v.k, .slice v.ba v.bl v.bc, .string v.str]) ∧ v.data W := by
      intro i hi
      obtain ⟨cs', hc, ht'⟩ := hel i (by omega)
      rw [cells44] at hc
      obtain ⟨v, hv, hdat⟩ := op_in ht' (fun q hq => hw q (by
        rw [hd']
        have := weightsAll_mem (P := Try.prog) (e := 44) (ds := (List.range len).map D) (d := D i) (List.mem_map.2 ⟨i, by simpa using hi, rfl⟩) q hq
        simp [DataW.weights, Try.underlying33, this]))
      exact ⟨v, ⟨cs', hc, hv⟩, hdat⟩
    obtain ⟨f, hfv⟩ := choose_lt hvs
    refine ⟨(List.range len).map f, by simp, ⟨by simp; omega, ?_, ?_⟩, ?_, by omega⟩
    · intro v hv
      simp at hv
      obtain ⟨i, hi, rfl⟩ := hv
      exact (hfv i hi).2.1
    · by_cases h0 : len = 0
      · exact .inl (by simp [h0])
      · right
        obtain ⟨b, off, spot⟩ := x
        have hcell : ∀ i, i < len → ∀ q, q < 5 → W.cell? ((⟨b, off, spot⟩ : Addr).add (i * 5) |>.add q) = ([.int .i64 (f i).kind, .int .u64 (f i).n, .int .i64 (f i).k, .slice (f i).ba (f i).bl (f i).bc, .string (f i).str] : List Value)[q]? := by
          intro i hi q hq
          obtain ⟨⟨cs, hc, he⟩, _⟩ := hfv i hi
          obtain ⟨_, hlen', hcell⟩ := World.cells?_some hc
          rw [hcell q hq, he]
        have hspot : spot = none := by
          have := hcell 0 (by omega) 0 (by omega)
          simpa [Addr.add] using World.cell?_spot this
        subst hspot
        refine ⟨b, off, rfl, fun i hi => ?_⟩
        simp at hi
        have g : ∀ q, q < 5 → W.cell? ⟨b, off + i * 5 + q, none⟩ = ([.int .i64 (f i).kind, .int .u64 (f i).n, .int .i64 (f i).k, .slice (f i).ba (f i).bl (f i).bc, .string (f i).str] : List Value)[q]? := by
          intro q hq
          have := hcell i hi q hq
          rw [Addr.add_lit, Addr.add_lit] at this
          exact this
        simp only [List.getElem_map, List.getElem_range]
        exact ⟨g 0 (by omega), g 1 (by omega), g 2 (by omega), g 3 (by omega), g 4 (by omega)⟩
    · intro v hv
      simp at hv
      obtain ⟨i, hi, rfl⟩ := hv
      exact (hfv i hi).2
end Go.Proofs.Ytfcpkcbiinbmiaa
