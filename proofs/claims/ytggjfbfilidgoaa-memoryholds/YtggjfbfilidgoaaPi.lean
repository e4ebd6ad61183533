import Derived.Test.YtggjfbfilidgoaaHl
import Derived.Test.YtggjfbfilidgoaaLongProof
import Derived.Deep.Slices
import Derived.ShutString
import Derived.ChangeOld
import Derived.SizedLaws
namespace Go.Proofs.Ytggjfbfilidgoaa
open Go.ChangeShapes Go.WideShapes Go.ChangeAt Go.RowKit Go.Deep
set_option linter.unusedVariables false

theorem cells40 : Try.prog.cellsOf 40 = 6 := by kernel_rfl
theorem cells3 : Try.prog.cellsOf 3 = 1 := by kernel_rfl
theorem cells22 : Try.prog.cellsOf 22 = 1 := by kernel_rfl
theorem cells38 : Try.prog.cellsOf 38 = 1 := by kernel_rfl
theorem cells5 : Try.prog.cellsOf 5 = 1 := by kernel_rfl
theorem bytes5 : Try.prog.bytesOf 5 = 1 := by kernel_rfl
theorem bytes40 : Try.prog.bytesOf 40 = 64 := by kernel_rfl

theorem wf_u8 {n : Int} (h : (Lit.int .u8 n).wf = true) : 0 ≤ n ∧ n ≤ 255 := by
  simpa [Lit.wf, IntKind.min, IntKind.max, IntKind.signed, IntKind.bits] using h

theorem weightsAll_mem {H : Type} {P : Program} {e : TypeId} : ∀ {ds : List (DataW H)} {d : DataW H}, d ∈ ds → ∀ n ∈ d.weights P e, n ∈ DataW.weightsAll P e ds
  | d0 :: ds, d, hd, n, hn => by
    simp only [DataW.weightsAll, List.mem_append]
    rcases List.mem_cons.1 hd with rfl | h
    · exact .inl hn
    · exact .inr (weightsAll_mem h n hn)
  | [], _, hd, _, _ => by cases hd

/-- Bytes that came in, within another datum. -/
theorem bytes_in' {H : Type} {enc : TypeId × Value → H} {W : World} {fuel : Nat} {c : Value} {d : DataW H} {p : List MemPlace}
    (hf : DataW.trod enc Try.prog W 0 (fun _ => true) true fuel 38 [c] = some (d, p))
    (hsz : ∀ n ∈ d.weights Try.prog 38, n ≤ reachBytes) : ∃ a0 len cap bs, c = .slice a0 len cap ∧ Bs W a0 len bs ∧ len ≤ 140737488351232 ∧ len ≤ cap ∧ (a0 = none → cap = 0) := by
  rcases open_ints Try.underlying38 Try.underlying5 cells5 hf with ⟨hcs, hx⟩ | ⟨x, l, c', zs, hcs, _, hl, hm, hz, hx, hcell, hwz⟩
  · simp at hcs
    exact ⟨none, 0, 0, [], hcs, ⟨rfl, by simp, .inl rfl⟩, by omega, by omega, fun _ => rfl⟩
  · simp at hcs
    simp only [Prod.mk.injEq] at hx
    obtain ⟨hd', _⟩ := hx
    simp only [if_true] at hz
    subst hd'
    have := hsz (((lits (H := H) .u8 (zs.take l)).length + (lits (H := H) .u8 (zs.drop l)).length) * Try.prog.bytesOf 5) (by simp [DataW.weights, Try.underlying38])
    rw [bytes5] at this
    simp only [lits, List.length_map, List.length_take, List.length_drop, reachBytes] at this
    have hlen : l ≤ 140737488351232 := by omega
    refine ⟨some x, l, c', (zs.take l).map Int.toNat, hcs, ⟨by simp; omega, ?_, ?_⟩, hlen, hl, (by intro e; cases e)⟩
    · intro n hn
      obtain ⟨z, hz2, rfl⟩ := List.mem_map.1 hn
      have := wf_u8 (hwz z (List.mem_of_mem_take hz2))
      omega
    · by_cases h0 : l = 0
      · exact .inl h0
      · obtain ⟨b, off, spot⟩ := x
        have hspot : spot = none := by simpa [Addr.add] using World.cell?_spot (hcell 0 (by omega))
        subst hspot
        refine .inr ⟨b, off, rfl, fun i hi => ?_⟩
        have h3 := hcell i (by omega)
        rw [Addr.add_lit] at h3
        rw [h3]
        have hil : i < zs.length := by omega
        have h4 := wf_u8 (hwz zs[i] (List.getElem_mem hil))
        simp [hi, List.getElem?_eq_getElem hil]
        omega

set_option maxRecDepth 4000 in
theorem put_in {H : Type} {enc : TypeId × Value → H} {W : World} {fuel : Nat} {cs : List Value} {d : DataW H} {p : List MemPlace}
    (hf : DataW.trod enc Try.prog W 0 (fun _ => true) true fuel 40 cs = some (d, p)) (hsz : ∀ n ∈ d.weights Try.prog 40, n ≤ reachBytes) :
    ∃ v : PutV, cs = [.int .i64 v.kind, .int .i64 v.at_, .int .i64 v.to, .int .i64 v.n, .int .u32 v.v, .slice v.ba v.bl v.bc] ∧ v.ok W := by
  obtain ⟨xs, n, _, hx, hl, hlen, hfi⟩ := DataW.trod_struct Try.underlying40 hf
  rw [cells40] at hl
  have hlen' : xs.length = 6 := hlen
  clear hlen
  obtain ⟨c0, c1, c2, c3, c4, c5, rfl⟩ : ∃ c0 c1 c2 c3 c4 c5, cs = [c0, c1, c2, c3, c4, c5] := by
    match cs, hl with
    | [c0, c1, c2, c3, c4, c5], _ => exact ⟨c0, c1, c2, c3, c4, c5, rfl⟩
  obtain ⟨y0, y1, y2, y3, y4, y5, rfl⟩ : ∃ c0 c1 c2 c3 c4 c5, xs = [c0, c1, c2, c3, c4, c5] := by
    clear hfi hx
    match xs, hlen' with
    | [c0, c1, c2, c3, c4, c5], _ => exact ⟨c0, c1, c2, c3, c4, c5, rfl⟩
  have f0 := hfi 0 _ rfl
  have f1 := hfi 1 _ rfl
  have f2 := hfi 2 _ rfl
  have f3 := hfi 3 _ rfl
  have f4 := hfi 4 _ rfl
  have f5 := hfi 5 _ rfl
  simp [cells3, cells22, cells38] at f0 f1 f2 f3 f4 f5
  obtain ⟨kind, e0, _, w0⟩ := DataW.trod_int Try.underlying3 f0
  obtain ⟨at_, e1, _, w1⟩ := DataW.trod_int Try.underlying3 f1
  obtain ⟨to, e2, _, w2⟩ := DataW.trod_int Try.underlying3 f2
  obtain ⟨nn, e3, _, w3⟩ := DataW.trod_int Try.underlying3 f3
  obtain ⟨v, e4, _, w4⟩ := DataW.trod_int Try.underlying22 f4
  simp only [Prod.mk.injEq] at hx
  have hd := hx.1
  have h5 : ∀ n ∈ y5.1.weights Try.prog 38, n ≤ reachBytes := by
    intro m hm
    refine hsz m ?_
    rw [hd]
    simp [DataW.weights, Try.underlying40, DataW.weightsEach, hm]
  obtain ⟨ba, bl, bc, bs, e5, hB, hbl, hbc, hnil⟩ := bytes_in' (d := y5.1) (p := y5.2) f5 h5
  simp at e0 e1 e2 e3 e4
  subst e0 e1 e2 e3 e5
  have hv := wf_u32 w4
  have ev : v = ((v.toNat : Nat) : Int) := by omega
  rw [ev] at e4
  subst e4
  exact ⟨⟨kind, at_, to, nn, v.toNat, ba, bl, bc, bs⟩, rfl, wf_i64' w0, wf_i64' w1, wf_i64' w2, wf_i64' w3, by show v.toNat < _; omega, hB, hbl, hbc, hnil⟩

instance : Inhabited PutV := ⟨⟨0, 0, 0, 0, 0, none, 0, 0, []⟩⟩

/-- A script of writes that came in. -/
theorem puts_in {H : Type} {enc : TypeId × Value → H} {W : World} {a0 : Option Addr} {len cap : Nat} {d : DataW H} {p : List MemPlace} {ts : List TypeId} {ds : List (DataW H)} {j : Nat}
    (h : DataW.Trod enc Try.prog W 0 (fun _ => true) true 37 (.slice a0 len cap) d p)
    (hsz : (DataW.weightsEach Try.prog ts ds).all (· ≤ reachBytes) = true) (ht : ts[j]? = some 37) (hd : ds[j]? = some d) : ∃ F, PutsIn W a0 len F := by
  have hw : ∀ n ∈ d.weights Try.prog 37, n ≤ reachBytes := fun n hn => by
    have := List.all_eq_true.1 hsz n (DataW.weights_mem_each ht hd n hn)
    simpa using this
  obtain ⟨fuel, hf⟩ := h
  rcases open_slice Try.underlying37 hf with ⟨hcs, hx⟩ | ⟨x, l, c, m, n, D, Pl, hcs, _, hl, hm, hmm, hx, hel⟩
  · simp [Value.cells] at hcs
    obtain ⟨rfl, rfl, rfl⟩ := hcs
    exact ⟨fun _ => default, by omega, fun i hi => by omega, .inl rfl⟩
  · simp [Value.cells] at hcs
    obtain ⟨rfl, rfl, rfl⟩ := hcs
    simp only [if_true] at hmm
    subst hmm
    simp only [Prod.mk.injEq] at hx
    obtain ⟨hd', _⟩ := hx
    have hreach := hw (((List.range len).map D).length + ((List.range (m - len)).map fun j => D (len + j)).length |> (· * Try.prog.bytesOf 40)) (by rw [hd']; simp [DataW.weights, Try.underlying37])
    simp only [bytes40, List.length_map, List.length_range, reachBytes] at hreach
    have hvs : ∀ i, i < len → ∃ v : PutV, (∃ cs, W.cells? 0 (x.add (i * 6)) 6 = some cs ∧ cs = [.int .i64 v.kind, .int .i64 v.at_, .int .i64 v.to, .int .i64 v.n, .int .u32 v.v, .slice v.ba v.bl v.bc]) ∧ v.ok W := by
      intro i hi
      obtain ⟨cs', hc, ht'⟩ := hel i (by omega)
      rw [cells40] at hc
      obtain ⟨v, hv, hdat⟩ := put_in ht' (fun q hq => hw q (by
        rw [hd']
        have := weightsAll_mem (P := Try.prog) (e := 40) (ds := (List.range len).map D) (d := D i) (List.mem_map.2 ⟨i, by simpa using hi, rfl⟩) q hq
        simp [DataW.weights, Try.underlying37, this]))
      exact ⟨v, ⟨cs', hc, hv⟩, hdat⟩
    obtain ⟨f, hfv⟩ := choose_lt hvs
    refine ⟨f, by omega, fun i hi => (hfv i hi).2, ?_⟩
    by_cases h0 : len = 0
    · exact .inl h0
    · right
      obtain ⟨b, off, spot⟩ := x
      have hcell : ∀ i, i < len → ∀ q, q < 6 → W.cell? ((⟨b, off, spot⟩ : Addr).add (i * 6) |>.add q) = ([.int .i64 (f i).kind, .int .i64 (f i).at_, .int .i64 (f i).to, .int .i64 (f i).n, .int .u32 (f i).v, .slice (f i).ba (f i).bl (f i).bc] : List Value)[q]? := by
        intro i hi q hq
        obtain ⟨⟨cs, hc, he⟩, _⟩ := hfv i hi
        obtain ⟨_, hlen', hcell⟩ := World.cells?_some hc
        rw [hcell q hq, he]
      have hspot : spot = none := by
        have := hcell 0 (by omega) 0 (by omega)
        simpa [Addr.add] using World.cell?_spot this
      subst hspot
      refine ⟨b, off, rfl, fun i hi => ?_⟩
      have g : ∀ q, q < 6 → W.cell? ⟨b, off + i * 6 + q, none⟩ = ([.int .i64 (f i).kind, .int .i64 (f i).at_, .int .i64 (f i).to, .int .i64 (f i).n, .int .u32 (f i).v, .slice (f i).ba (f i).bl (f i).bc] : List Value)[q]? := by
        intro q hq
        have := hcell i hi q hq
        rw [Addr.add_lit, Addr.add_lit] at this
        exact this
      exact ⟨g 0 (by omega), g 1 (by omega), g 2 (by omega), g 3 (by omega), g 4 (by omega), g 5 (by omega)⟩
end Go.Proofs.Ytggjfbfilidgoaa
