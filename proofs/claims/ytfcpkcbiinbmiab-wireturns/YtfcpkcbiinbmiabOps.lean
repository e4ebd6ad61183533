import Derived.Test.YtfcpkcbiinbmiabSt
import Derived.Test.YtfcpkcbiinbmiabBurstsProof
import Derived.Deep.Slices
namespace Go.Proofs.Ytfcpkcbiinbmiab
open Go.ChangeShapes Go.WideShapes Go.ChangeAt Go.RowKit Go.Deep
set_option linter.unusedVariables false

theorem cells44 : Try.prog.cellsOf 51 = 5 := by kernel_rfl
theorem cells3 : Try.prog.cellsOf 3 = 1 := by kernel_rfl
theorem cells42 : Try.prog.cellsOf 49 = 1 := by kernel_rfl
theorem cells22 : Try.prog.cellsOf 22 = 1 := by kernel_rfl
theorem cells9 : Try.prog.cellsOf 9 = 1 := by kernel_rfl
theorem bytes44 : Try.prog.bytesOf 51 = 64 := by kernel_rfl

theorem wf_u64 {n : Int} (h : (Lit.int .u64 n).wf = true) : 0 ≤ n ∧ n ≤ 18446744073709551615 := by
  simpa [Lit.wf, IntKind.min, IntKind.max, IntKind.signed, IntKind.bits] using h

theorem weightsAll_mem {H : Type} {P : Program} {e : TypeId} : ∀ {ds : List (DataW H)} {d : DataW H}, d ∈ ds → ∀ n ∈ d.weights P e, n ∈ DataW.weightsAll P e ds
  | d0 :: ds, d, hd, n, hn => by
    simp only [DataW.weightsAll, List.mem_append]
    rcases List.mem_cons.1 hd with rfl | h
    · exact .inl hn
    · exact .inr (weightsAll_mem h n hn)
  | [], _, hd, _, _ => by cases hd

theorem bytes_in' {H : Type} {enc : TypeId × Value → H} {W : World} {fuel : Nat} {c : Value} {d : DataW H} {p : List MemPlace}
    (hf : DataW.trod enc Try.prog W 0 (fun _ => true) true fuel 22 [c] = some (d, p))
    (hsz : ∀ n ∈ d.weights Try.prog 22, n ≤ reachBytes) : ∃ a0 len cap bs, c = .slice a0 len cap ∧ Bs W a0 len bs ∧ len ≤ 140737488351232 ∧ len ≤ cap ∧ (a0 = none → cap = 0) := by
  rcases open_ints Try.underlying22 Try.underlying5 cells5 hf with ⟨hcs, hx⟩ | ⟨x, l, c', zs, hcs, _, hl, hm, hz, hx, hcell, hwz⟩
  · simp at hcs
    exact ⟨none, 0, 0, [], hcs, ⟨rfl, by omega, by simp, .inl rfl⟩, by omega, by omega, fun _ => rfl⟩
  · simp at hcs
    simp only [Prod.mk.injEq] at hx
    obtain ⟨hd', _⟩ := hx
    simp only [if_true] at hz
    subst hd'
    have := hsz (((lits (H := H) .u8 (zs.take l)).length + (lits (H := H) .u8 (zs.drop l)).length) * Try.prog.bytesOf 5) (by simp [DataW.weights, Try.underlying22])
    rw [bytes5] at this
    simp only [lits, List.length_map, List.length_take, List.length_drop, reachBytes] at this
    have hlen : l ≤ 140737488351232 := by omega
    refine ⟨some x, l, c', zs.take l, hcs, ⟨by simp; omega, by omega, fun n hn => wf_u8 (hwz n (List.mem_of_mem_take hn)), ?_⟩, hlen, hl, (by intro e; cases e)⟩
    by_cases h0 : l = 0
    · exact .inl h0
    · obtain ⟨b, off, spot⟩ := x
      have hspot : spot = none := by simpa [Addr.add] using World.cell?_spot (hcell 0 (by omega))
      subst hspot
      refine .inr ⟨b, off, rfl, fun i hi => ?_⟩
      have := hcell i (by omega)
      rw [Addr.add_lit] at this
      rw [this]
      simp [hi]

instance : Inhabited OpV := ⟨⟨0, 0, 0, none, 0, 0, [], ByteArray.empty⟩⟩

/-- What a step's bytes and text are. -/
def OpV.data (w : World) (v : OpV) : Prop := v.ok ∧ Bs w v.ba v.bl v.bs ∧ v.bl ≤ 140737488351232 ∧ v.bl ≤ v.bc ∧ (v.ba = none → v.bc = 0) ∧ v.str.size ≤ 140737488351232

set_option maxRecDepth 4000 in
theorem op_in {H : Type} {enc : TypeId × Value → H} {W : World} {fuel : Nat} {cs : List Value} {d : DataW H} {p : List MemPlace}
    (hf : DataW.trod enc Try.prog W 0 (fun _ => true) true fuel 51 cs = some (d, p)) (hsz : ∀ n ∈ d.weights Try.prog 51, n ≤ reachBytes) :
    ∃ v : OpV, cs = [.int .i64 v.kind, .int .u64 v.n, .int .i64 v.k, .slice v.ba v.bl v.bc, .string v.str] ∧ v.data W := by
  obtain ⟨xs, n, _, hx, hl, hlen, hfi⟩ := DataW.trod_struct Try.underlying51 hf
  rw [cells44] at hl
  have hlen' : xs.length = 5 := hlen
  clear hlen
  obtain ⟨c0, c1, c2, c3, c4, rfl⟩ : ∃ c0 c1 c2 c3 c4, cs = [c0, c1, c2, c3, c4] := by
    match cs, hl with
    | [c0, c1, c2, c3, c4], _ => exact ⟨c0, c1, c2, c3, c4, rfl⟩
  obtain ⟨y0, y1, y2, y3, y4, rfl⟩ : ∃ c0 c1 c2 c3 c4, xs = [c0, c1, c2, c3, c4] := by
    clear hfi hx
    match xs, hlen' with
    | [c0, c1, c2, c3, c4], _ => exact ⟨c0, c1, c2, c3, c4, rfl⟩
  · skip
    have f0 := hfi 0 _ rfl
    have f1 := hfi 1 _ rfl
    have f2 := hfi 2 _ rfl
    have f3 := hfi 3 _ rfl
    have f4 := hfi 4 _ rfl
    simp [cells3, cells42, cells22, cells9] at f0 f1 f2 f3 f4
    obtain ⟨kind, e0, _, w0⟩ := DataW.trod_int Try.underlying3 f0
    obtain ⟨nn, e1, _, w1⟩ := DataW.trod_int Try.underlying49 f1
    obtain ⟨k, e2, _, w2⟩ := DataW.trod_int Try.underlying3 f2
    obtain ⟨st, e4, hx4, w4⟩ := DataW.trod_string Try.underlying9 f4
    simp only [Prod.mk.injEq] at hx
    have hd := hx.1
    have h3 : ∀ n ∈ y3.1.weights Try.prog 22, n ≤ reachBytes := by
      intro m hm
      refine hsz m ?_
      rw [hd]
      simp [DataW.weights, Try.underlying51, DataW.weightsEach, hm]
    have h4 : st.size ≤ reachBytes := by
      refine hsz st.size ?_
      have e : st.size = st.data.toList.length := by rw [Array.length_toList]; rfl
      have hm : st.size ∈ y4.1.weights Try.prog 9 := by rw [hx4, e]; simp only [DataW.weights, List.mem_singleton]
      rw [hd]
      simp [DataW.weights, Try.underlying51, DataW.weightsEach, hm]
    obtain ⟨ba, bl, bc, bs, e3, hB, hbl, hbc, hnil⟩ := bytes_in' (d := y3.1) (p := y3.2) f3 h3
    simp at e0 e1 e2 e4
    subst e0 e1 e2 e3 e4
    exact ⟨⟨kind, nn, k, ba, bl, bc, bs, st⟩, rfl, ⟨wf_i64' w0, wf_u64 w1, wf_i64' w2⟩, hB, hbl, hbc, hnil, by simpa [reachBytes] using h4⟩

/-- A turn: its side, and its step. -/
structure TuV where
  side : Int
  o : OpV
instance : Inhabited TuV := ⟨⟨0, default⟩⟩
def TuV.data (w : World) (t : TuV) : Prop := (-9223372036854775808 ≤ t.side ∧ t.side ≤ 9223372036854775807) ∧ t.o.data w
def TuAt (w : World) (b o : Nat) (t : TuV) : Prop := w.cell? ⟨b, o, none⟩ = some (.int .i64 t.side) ∧ OpAt w b (o + 1) t.o
/-- Turns that came in. -/
def TusIn (w : World) (a : Option Addr) (ts : List TuV) : Prop :=
  ts.length ≤ 140737488355328 ∧ (∀ t, t ∈ ts → t.data w) ∧ (ts.length = 0 ∨ ∃ b off, a = some ⟨b, off, none⟩ ∧ ∀ (i : Nat) (h : i < ts.length), TuAt w b (off + i * 6) ts[i])
theorem TuAt.below {w w' : World} {b o : Nat} {t : TuV} (h : TuAt w b o t) (hb : Below w.heap.size w w') : TuAt w' b o t := by
  refine ⟨?_, h.2.below hb⟩
  have hlt := World.block_lt_of_cell? w _ h.1
  rw [hb.cell hlt]
  exact h.1
theorem cells54 : Try.prog.cellsOf 54 = 6 := by kernel_rfl
theorem bytes54 : Try.prog.bytesOf 54 = 72 := by kernel_rfl
set_option maxRecDepth 4000 in
theorem turn_in {H : Type} {enc : TypeId × Value → H} {W : World} {fuel : Nat} {cs : List Value} {d : DataW H} {p : List MemPlace}
    (hf : DataW.trod enc Try.prog W 0 (fun _ => true) true fuel 54 cs = some (d, p)) (hsz : ∀ n ∈ d.weights Try.prog 54, n ≤ reachBytes) :
    ∃ t : TuV, cs = [.int .i64 t.side, .int .i64 t.o.kind, .int .u64 t.o.n, .int .i64 t.o.k, .slice t.o.ba t.o.bl t.o.bc, .string t.o.str] ∧ t.data W := by
  obtain ⟨xs, n, _, hx, hl, hlen, hfi⟩ := DataW.trod_struct Try.underlying54 hf
  rw [cells54] at hl
  have hlen' : xs.length = 2 := hlen
  clear hlen
  obtain ⟨c0, c1, c2, c3, c4, c5, rfl⟩ : ∃ c0 c1 c2 c3 c4 c5, cs = [c0, c1, c2, c3, c4, c5] := by
    match cs, hl with
    | [c0, c1, c2, c3, c4, c5], _ => exact ⟨c0, c1, c2, c3, c4, c5, rfl⟩
  obtain ⟨y0, y1, rfl⟩ : ∃ c0 c1, xs = [c0, c1] := by
    clear hfi hx
    match xs, hlen' with
    | [c0, c1], _ => exact ⟨c0, c1, rfl⟩
  have f0 := hfi 0 _ rfl
  have f1 := hfi 1 _ rfl
  simp [cells3, cells44] at f0 f1
  obtain ⟨side, e0, _, w0⟩ := DataW.trod_int Try.underlying3 f0
  simp only [Prod.mk.injEq] at hx
  have hd := hx.1
  have h1 : ∀ n ∈ y1.1.weights Try.prog 51, n ≤ reachBytes := by
    intro m hm
    refine hsz m ?_
    rw [hd]
    simp [DataW.weights, Try.underlying54, DataW.weightsEach, hm]
  obtain ⟨v, e1, hv⟩ := op_in (d := y1.1) (p := y1.2) f1 h1
  simp at e0 e1
  subst e0
  obtain ⟨rfl, rfl, rfl, rfl, rfl⟩ := e1
  exact ⟨⟨side, v⟩, rfl, wf_i64' w0, hv⟩
/-- Turns that came in. -/
theorem turns_in {H : Type} {enc : TypeId × Value → H} {W : World} {a0 : Option Addr} {len cap : Nat} {d : DataW H} {p : List MemPlace} {ts : List TypeId} {ds : List (DataW H)} {j : Nat}
    (h : DataW.Trod enc Try.prog W 0 (fun _ => true) true 23 (.slice a0 len cap) d p)
    (hsz : (DataW.weightsEach Try.prog ts ds).all (· ≤ reachBytes) = true) (ht : ts[j]? = some 23) (hd : ds[j]? = some d) : ∃ os, os.length = len ∧ TusIn W a0 os := by
  have hw : ∀ n ∈ d.weights Try.prog 23, n ≤ reachBytes := fun n hn => by
    have := List.all_eq_true.1 hsz n (DataW.weights_mem_each ht hd n hn)
    simpa using this
  obtain ⟨fuel, hf⟩ := h
  rcases open_slice Try.underlying23 hf with ⟨hcs, hx⟩ | ⟨x, l, c, m, n, D, Pl, hcs, _, hl, hm, hmm, hx, hel⟩
  · simp [Value.cells] at hcs
    obtain ⟨rfl, rfl, rfl⟩ := hcs
    exact ⟨[], rfl, by simp, by simp, .inl rfl⟩
  · simp [Value.cells] at hcs
    obtain ⟨rfl, rfl, rfl⟩ := hcs
    simp only [if_true] at hmm
    subst hmm
    simp only [Prod.mk.injEq] at hx
    obtain ⟨hd', _⟩ := hx
    have hreach := hw (((List.range len).map D).length + ((List.range (m - len)).map fun j => D (len + j)).length |> (· * Try.prog.bytesOf 54)) (by rw [hd']; simp [DataW.weights, Try.underlying23])
    simp only [bytes54, List.length_map, List.length_range, reachBytes] at hreach
    have hvs : ∀ i, i < len → ∃ v : TuV, (∃ cs, W.cells? 0 (x.add (i * 6)) 6 = some cs ∧ cs = [.int .i64 v.side, .int .i64 v.o.kind, .int .u64 v.o.n, .int .i64 v.o.k, .slice v.o.ba v.o.bl v.o.bc, .string v.o.str]) ∧ v.data W := by
      intro i hi
      obtain ⟨cs', hc, ht'⟩ := hel i (by omega)
      rw [cells54] at hc
      obtain ⟨v, hv, hdat⟩ := turn_in ht' (fun q hq => hw q (by
        rw [hd']
        have := weightsAll_mem (P := Try.prog) (e := 54) (ds := (List.range len).map D) (d := D i) (List.mem_map.2 ⟨i, by simpa using hi, rfl⟩) q hq
        simp [DataW.weights, Try.underlying23, this]))
      exact ⟨v, ⟨cs', hc, hv⟩, hdat⟩
    obtain ⟨f, hfv⟩ := choose_lt hvs
    refine ⟨(List.range len).map f, by simp, by simp; omega, ?_, ?_⟩
    · intro v hv
      simp at hv
      obtain ⟨i, hi, rfl⟩ := hv
      exact (hfv i hi).2
    · by_cases h0 : len = 0
      · exact .inl (by simp [h0])
      · right
        obtain ⟨b, off, spot⟩ := x
        have hcell : ∀ i, i < len → ∀ q, q < 6 → W.cell? ((⟨b, off, spot⟩ : Addr).add (i * 6) |>.add q) = ([.int .i64 (f i).side, .int .i64 (f i).o.kind, .int .u64 (f i).o.n, .int .i64 (f i).o.k, .slice (f i).o.ba (f i).o.bl (f i).o.bc, .string (f i).o.str] : List Value)[q]? := by
          intro i hi q hq
          obtain ⟨⟨cs, hc, he⟩, _⟩ := hfv i hi
          obtain ⟨_, hlen', hcell⟩ := World.cells?_some hc
          rw [hcell q hq, he]
        have hspot : spot = none := by
          have := hcell 0 (by omega) 0 (by omega)
          simpa [Addr.add] using World.cell?_spot this
        subst hspot
        refine ⟨b, off, rfl, fun i hi => ?_⟩
        simp at hi
        have g : ∀ q, q < 6 → W.cell? ⟨b, off + i * 6 + q, none⟩ = ([.int .i64 (f i).side, .int .i64 (f i).o.kind, .int .u64 (f i).o.n, .int .i64 (f i).o.k, .slice (f i).o.ba (f i).o.bl (f i).o.bc, .string (f i).o.str] : List Value)[q]? := by
          intro q hq
          have := hcell i hi q hq
          rw [Addr.add_lit, Addr.add_lit] at this
          exact this
        simp only [List.getElem_map, List.getElem_range]
        exact ⟨g 0 (by omega), g 1 (by omega), g 2 (by omega), g 3 (by omega), g 4 (by omega), g 5 (by omega)⟩
end Go.Proofs.Ytfcpkcbiinbmiab
