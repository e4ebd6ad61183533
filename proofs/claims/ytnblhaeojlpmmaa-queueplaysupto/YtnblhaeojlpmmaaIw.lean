import Derived.Test.YtnblhaeojlpmmaaBd
import Derived.Deep.Slices
import Derived.ShutString
import Derived.ChangeOld
import Derived.SizedLaws
import Derived.Test.YtnblhaeojlpmmaaVh
import Derived.JoinedCond
namespace Go.Proofs.Ytnblhaeojlpmmaa
open Go.ChangeShapes Go.WideShapes Go.ChangeAt Go.RowKit Go.Deep
set_option linter.unusedVariables false
theorem laidOut' : laidOutB Try.prog = true := by kernel_rfl
theorem own' : ownKnob Try.prog.godebug = none := by kernel_rfl
theorem cells3 : Try.prog.cellsOf 3 = 1 := by kernel_rfl
theorem cells4 : Try.prog.cellsOf 4 = 1 := by kernel_rfl
theorem cells23 : Try.prog.cellsOf 23 = 6 := by kernel_rfl
theorem cells42 : Try.prog.cellsOf 42 = 2 := by kernel_rfl
theorem bytes42 : Try.prog.bytesOf 42 = 16 := by kernel_rfl
theorem bytes3 : Try.prog.bytesOf 3 = 8 := by kernel_rfl
theorem wf_i64 {n : Int} (h : (Lit.int .i64 n).wf = true) : -9223372036854775808 ≤ n ∧ n ≤ 9223372036854775807 := by
  simpa [Lit.wf, IntKind.min, IntKind.max, IntKind.signed, IntKind.bits] using h
set_option maxRecDepth 8000 in
/-- A declaration that came in. -/
theorem queue_in {H : Type} {enc : TypeId × Value → H} {W : World} {r : Reach} {base : Nat} {v : Value} {d : DataW H} {p : List MemPlace}
    (hv : Value.okWide Try.prog W r base 23 v) (h : DataW.Trod enc Try.prog W 0 (fun _ => true) true 23 v d p) :
    ∃ (x0 x1 x2 x3 x4 : Int) (b : Bool), v = .agg #[.int .i64 x0, .int .i64 x1, .int .i64 x2, .int .i64 x3, .int .i64 x4, .bool b] := by
  obtain ⟨cs, rfl, hsz⟩ := okWide_struct Try.underlying23 hv
  rw [cells23] at hsz
  obtain ⟨fuel, hf⟩ := h
  obtain ⟨xs, n, _, hx, hl, hlen, hfi⟩ := DataW.trod_struct Try.underlying23 hf
  have hlen' : xs.length = 6 := hlen
  clear hlen
  obtain ⟨c0, c1, c2, c3, c4, c5, rfl⟩ : ∃ c0 c1 c2 c3 c4 c5, cs = #[c0, c1, c2, c3, c4, c5] := by
    obtain ⟨l⟩ := cs
    match l, hsz with
    | [c0, c1, c2, c3, c4, c5], _ => exact ⟨c0, c1, c2, c3, c4, c5, rfl⟩
  obtain ⟨y0, y1, y2, y3, y4, y5, rfl⟩ : ∃ c0 c1 c2 c3 c4 c5, xs = [c0, c1, c2, c3, c4, c5] := by
    clear hfi hx
    match xs, hlen' with
    | [c0, c1, c2, c3, c4, c5], _ => exact ⟨c0, c1, c2, c3, c4, c5, rfl⟩
  have f0 := hfi 0 _ rfl
  have f1 := hfi 1 _ rfl
  have f2 := hfi 2 _ rfl
  have f3 := hfi 3 _ rfl
  have f4 := hfi 4 _ rfl
  have f5 := hfi 5 _ rfl
  simp [cells3, cells4, Value.cells] at f0 f1 f2 f3 f4 f5
  obtain ⟨x0, e0, _, w0⟩ := DataW.trod_int Try.underlying3 f0
  obtain ⟨x1, e1, _, w1⟩ := DataW.trod_int Try.underlying3 f1
  obtain ⟨x2, e2, _, w2⟩ := DataW.trod_int Try.underlying3 f2
  obtain ⟨x3, e3, _, w3⟩ := DataW.trod_int Try.underlying3 f3
  obtain ⟨x4, e4, _, w4⟩ := DataW.trod_int Try.underlying3 f4
  obtain ⟨b, e5, _⟩ := DataW.trod_bool Try.underlying4 f5
  simp at e0 e1 e2 e3 e4 e5
  subst e0 e1 e2 e3 e4 e5
  exact ⟨x0, x1, x2, x3, x4, b, rfl⟩
set_option maxRecDepth 8000 in
theorem raw_in {H : Type} {enc : TypeId × Value → H} {W : World} {fuel : Nat} {cs : List Value} {d : DataW H} {p : List MemPlace}
    (hf : DataW.trod enc Try.prog W 0 (fun _ => true) true fuel 42 cs = some (d, p)) : ∃ v : Int × Int, cs = [.int .i64 v.1, .int .i64 v.2] ∧ (-9223372036854775808 ≤ v.1 ∧ v.1 ≤ 9223372036854775807) ∧ (-9223372036854775808 ≤ v.2 ∧ v.2 ≤ 9223372036854775807) := by
  obtain ⟨xs, n, _, hx, hl, hlen, hfi⟩ := DataW.trod_struct Try.underlying42 hf
  rw [cells42] at hl
  have hlen' : xs.length = 2 := hlen
  clear hlen
  obtain ⟨c0, c1, rfl⟩ : ∃ c0 c1, cs = [c0, c1] := by
    match cs, hl with
    | [c0, c1], _ => exact ⟨c0, c1, rfl⟩
  obtain ⟨y0, y1, rfl⟩ : ∃ c0 c1, xs = [c0, c1] := by
    clear hfi hx
    match xs, hlen' with
    | [c0, c1], _ => exact ⟨c0, c1, rfl⟩
  have f0 := hfi 0 _ rfl
  have f1 := hfi 1 _ rfl
  simp [cells3] at f0 f1
  obtain ⟨a, e0, _, w0⟩ := DataW.trod_int Try.underlying3 f0
  obtain ⟨b, e1, _, w1⟩ := DataW.trod_int Try.underlying3 f1
  simp at e0 e1
  exact ⟨(a, b), by simp only [e0, e1], wf_i64 w0, wf_i64 w1⟩
/-- Raw steps that came in. -/
theorem raws_in {H : Type} {enc : TypeId × Value → H} {W : World} {a0 : Option Addr} {len cap : Nat} {d : DataW H} {p : List MemPlace}
    (h : DataW.Trod enc Try.prog W 0 (fun _ => true) true 33 (.slice a0 len cap) d p)
    (hw : ∀ n ∈ d.weights Try.prog 33, n ≤ reachBytes) : ∃ F, RwI W a0 len F := by
  obtain ⟨fuel, hf⟩ := h
  rcases open_slice Try.underlying33 hf with ⟨hcs, hx⟩ | ⟨x, l, c, m, n, D, Pl, hcs, _, hl, hm, hmm, hx, hel⟩
  · simp [Value.cells] at hcs
    obtain ⟨rfl, rfl, rfl⟩ := hcs
    exact ⟨fun _ => (0, 0), .inl rfl, by omega, fun i hi => by omega⟩
  · simp [Value.cells] at hcs
    obtain ⟨rfl, rfl, rfl⟩ := hcs
    simp only [if_true] at hmm
    subst hmm
    simp only [Prod.mk.injEq] at hx
    obtain ⟨hd', _⟩ := hx
    have hreach := hw (((List.range len).map D).length + ((List.range (m - len)).map fun j => D (len + j)).length |> (· * Try.prog.bytesOf 42)) (by rw [hd']; simp [DataW.weights, Try.underlying33])
    simp only [bytes42, List.length_map, List.length_range, reachBytes] at hreach
    have hvs : ∀ i, i < len → ∃ v : Int × Int, (∃ cs, W.cells? 0 (x.add (i * 2)) 2 = some cs ∧ cs = [.int .i64 v.1, .int .i64 v.2]) ∧ (-9223372036854775808 ≤ v.1 ∧ v.1 ≤ 9223372036854775807) ∧ (-9223372036854775808 ≤ v.2 ∧ v.2 ≤ 9223372036854775807) := by
      intro i hi
      obtain ⟨cs', hc, ht'⟩ := hel i (by omega)
      rw [cells42] at hc
      obtain ⟨v, hv, hdat⟩ := raw_in ht'
      exact ⟨v, ⟨cs', hc, hv⟩, hdat⟩
    obtain ⟨f, hfv⟩ := choose_lt hvs
    refine ⟨f, ?_, by omega, fun i hi => (hfv i hi).2⟩
    by_cases h0 : len = 0
    · exact .inl h0
    · right
      obtain ⟨b, off, spot⟩ := x
      have hcell : ∀ i, i < len → ∀ q, q < 2 → W.cell? ((⟨b, off, spot⟩ : Addr).add (i * 2) |>.add q) = ([.int .i64 (f i).1, .int .i64 (f i).2] : List Value)[q]? := by
        intro i hi q hq
        obtain ⟨⟨cs, hc, he⟩, _⟩ := hfv i hi
        obtain ⟨_, hlen', hcell⟩ := World.cells?_some hc
        rw [hcell q hq, he]
      have hspot : spot = none := by
        have := hcell 0 (by omega) 0 (by omega)
        simpa [Addr.add] using World.cell?_spot this
      subst hspot
      have g : ∀ i, i < len → ∀ q, q < 2 → W.cell? ⟨b, off + i * 2 + q, none⟩ = ([.int .i64 (f i).1, .int .i64 (f i).2] : List Value)[q]? := by
        intro i hi q hq
        have := hcell i hi q hq
        rw [Addr.add_lit, Addr.add_lit] at this
        exact this
      exact ⟨b, off, rfl, fun i hi => ⟨g i hi 0 (by omega), g i hi 1 (by omega)⟩⟩
/-- Numbers that came in. -/
theorem nums_in {H : Type} {enc : TypeId × Value → H} {W : World} {a0 : Option Addr} {len cap : Nat} {d : DataW H} {p : List MemPlace}
    (h : DataW.Trod enc Try.prog W 0 (fun _ => true) true 34 (.slice a0 len cap) d p)
    (hsz : ∀ n ∈ d.weights Try.prog 34, n ≤ reachBytes) : ∃ F, NmI W a0 len F := by
  obtain ⟨fuel, hf⟩ := h
  rcases open_ints Try.underlying34 Try.underlying3 cells3 hf with ⟨hcs, hx⟩ | ⟨x, l, c', zs, hcs, _, hl, hm, hz, hx, hcell, hwz⟩
  · simp [Value.cells] at hcs
    obtain ⟨rfl, rfl, rfl⟩ := hcs
    exact ⟨fun _ => 0, .inl rfl, by omega, fun i hi => by omega⟩
  · simp [Value.cells] at hcs
    obtain ⟨rfl, rfl, rfl⟩ := hcs
    simp only [Prod.mk.injEq] at hx
    obtain ⟨hd', _⟩ := hx
    simp only [if_true] at hz
    subst hd'
    have := hsz (((lits (H := H) .i64 (zs.take len)).length + (lits (H := H) .i64 (zs.drop len)).length) * Try.prog.bytesOf 3) (by simp [DataW.weights, Try.underlying34])
    rw [bytes3] at this
    simp only [lits, List.length_map, List.length_take, List.length_drop, reachBytes] at this
    refine ⟨fun i => zs.getD i 0, ?_, by omega, fun i hi => ?_⟩
    · by_cases h0 : len = 0
      · exact .inl h0
      · obtain ⟨b, off, spot⟩ := x
        have hspot : spot = none := by simpa [Addr.add] using World.cell?_spot (hcell 0 (by omega))
        subst hspot
        refine .inr ⟨b, off, rfl, fun i hi => ?_⟩
        have := hcell i (by omega)
        rw [Addr.add_lit] at this
        exact this
    · have hi2 : i < zs.length := by omega
      refine wf_i64 (hwz _ ?_)
      rw [List.getD_eq_getElem?_getD, List.getElem?_eq_getElem hi2]
      exact List.getElem_mem hi2
end Go.Proofs.Ytnblhaeojlpmmaa
namespace Go.Proofs.Ytnblhaeojlpmmaa
open Go.ChangeShapes Go.WideShapes Go.ChangeAt Go.RowKit Go.Deep
set_option linter.unusedVariables false
theorem cells5 : Try.prog.cellsOf 5 = 1 := by kernel_rfl
theorem cells37 : Try.prog.cellsOf 37 = 1 := by kernel_rfl
theorem cells38 : Try.prog.cellsOf 38 = 1 := by kernel_rfl
theorem cells48 : Try.prog.cellsOf 48 = 5 := by kernel_rfl
theorem cells62 : Try.prog.cellsOf 62 = 1 := by kernel_rfl
theorem cells64 : Try.prog.cellsOf 64 = 7 := by kernel_rfl
theorem cells66 : Try.prog.cellsOf 66 = 11 := by kernel_rfl
theorem cells75 : Try.prog.cellsOf 75 = 2 := by kernel_rfl
instance : Inhabited Mg := ⟨mz 0⟩
instance : Inhabited Stp := ⟨⟨0, 0, 0, .slice none 0 0, [], ⟨0, 0, 0, 0, 0, .slice none 0 0, .slice none 0 0, [], []⟩⟩⟩
theorem bulk_one {H : Type} (d : DataW H) : 1 ≤ Rows.uptoBulk d := by
  cases d with
  | lit l => cases l <;> simp [Rows.uptoBulk]
  | _ => simp [Rows.uptoBulk]
theorem bulk_ge {H : Type} : ∀ l : List (DataW H), l.length ≤ Rows.uptoBulkAll l
  | [] => by simp
  | d :: l => by
    have h1 := bulk_one d
    have h2 := bulk_ge l
    simp only [Rows.uptoBulkAll, List.length_cons]; omega
theorem bulk_mem {H : Type} : ∀ {l : List (DataW H)} {d : DataW H}, d ∈ l → Rows.uptoBulk d ≤ Rows.uptoBulkAll l
  | x :: l, d, h => by
    simp only [Rows.uptoBulkAll]
    rcases List.mem_cons.1 h with rfl | h
    · omega
    · have := bulk_mem h; omega
  | [], _, h => by cases h
theorem bulk_lits {H : Type} (k : IntKind) (l : List Int) : Rows.uptoBulkAll (lits (H := H) k l) = l.length := by
  induction l with
  | nil => simp [lits, Rows.uptoBulkAll]
  | cons x l ih =>
    simp only [lits] at ih
    simp only [lits, List.map_cons, Rows.uptoBulkAll, ih, List.length_cons]
    simp only [Rows.uptoBulk]
    omega
section
variable {H : Type} {enc : TypeId × Value → H} {W : World}
/-- Bytes that came in. -/
theorem bytes_up {fuel : Nat} {c : Value} {d : DataW H} {p : List MemPlace}
    (hf : DataW.trod enc Try.prog W 0 (fun _ => true) true fuel 37 [c] = some (d, p)) (hb : Rows.uptoBulk d ≤ 1048576) : ∃ bs, Bs W c bs ∧ bs.length ≤ 1048576 ∧ ∃ a cp, c = .slice a bs.length cp ∧ bs.length ≤ cp := by
  rcases open_ints Try.underlying37 Try.underlying5 cells5 hf with ⟨hcs, hx⟩ | ⟨x, l, c', zs, hcs, _, hl, hm, hz, hx, hcell, hwz⟩
  · simp at hcs
    exact ⟨[], by rw [hcs]; exact Bs.nil _, by simp, none, 0, hcs, by simp⟩
  · simp at hcs
    simp only [Prod.mk.injEq] at hx
    obtain ⟨hd', _⟩ := hx
    simp only [if_true] at hz
    subst hd'
    simp only [Rows.uptoBulk, bulk_lits] at hb
    simp only [List.length_take, List.length_drop] at hb
    have hzl : (zs.take l).length = l := by simp; omega
    refine ⟨zs.take l, ⟨⟨some x, c', by rw [hzl]; exact hcs, ?_⟩, by rw [hzl]; omega⟩, by rw [hzl]; omega, some x, c', by rw [hzl]; exact hcs, by rw [hzl]; exact hl⟩
    by_cases h0 : l = 0
    · exact .inl (by rw [h0]; rfl)
    · obtain ⟨b, off, spot⟩ := x
      have hspot : spot = none := by simpa [Addr.add] using World.cell?_spot (hcell 0 (by omega))
      subst hspot
      refine .inr ⟨b, off, rfl, fun i hi => ?_⟩
      rw [hzl] at hi
      have := hcell i (by omega)
      rw [Addr.add_lit] at this
      rw [this]
      have e : zs.getD i 0 = zs[i]'(by omega) := by simp [List.getD_eq_getElem?_getD, show i < zs.length by omega]
      simp only [List.getElem_take]
      exact congrArg (fun q => some (Value.int .u8 q)) e
theorem msg_up {fuel : Nat} {cs : List Value} {d : DataW H} {p : List MemPlace}
    (hf : DataW.trod enc Try.prog W 0 (fun _ => true) true fuel 75 cs = some (d, p)) (hb : Rows.uptoBulk d ≤ 1048576) :
    ∃ m : Mg, cs = [m.v, .int .u64 m.tk] ∧ Bs W m.v m.bs ∧ m.bs.length ≤ 1048576 := by
  obtain ⟨xs, n, _, hx, hl, hlen, hfi⟩ := DataW.trod_struct Try.underlying75 hf
  rw [cells75] at hl
  have hlen' : xs.length = 2 := hlen
  clear hlen
  obtain ⟨c0, c1, rfl⟩ : ∃ c0 c1, cs = [c0, c1] := by
    match cs, hl with
    | [c0, c1], _ => exact ⟨c0, c1, rfl⟩
  obtain ⟨y0, y1, rfl⟩ : ∃ c0 c1, xs = [c0, c1] := by
    clear hfi hx
    match xs, hlen' with
    | [c0, c1], _ => exact ⟨c0, c1, rfl⟩
  have f0 := hfi 0 _ rfl
  have f1 := hfi 1 _ rfl
  simp [cells37, cells38] at f0 f1
  obtain ⟨tk, e1, _, w1⟩ := DataW.trod_int Try.underlying38 f1
  simp only [Prod.mk.injEq] at hx
  rw [hx.1] at hb
  simp only [Rows.uptoBulk, List.map_cons, List.map_nil, Rows.uptoBulkAll] at hb
  obtain ⟨bs, hB, hl2, _⟩ := bytes_up (d := y0.1) (p := y0.2) f0 (by omega)
  simp at e1
  subst e1
  exact ⟨⟨c0, bs, tk⟩, rfl, hB, hl2⟩
/-- Messages that came in. -/
theorem msgs_up {fuel : Nat} {c : Value} {d : DataW H} {p : List MemPlace}
    (hf : DataW.trod enc Try.prog W 0 (fun _ => true) true fuel 62 [c] = some (d, p)) (hb : Rows.uptoBulk d ≤ 1048576) :
    ∃ l : List Mg, RdL W c l ∧ l.length ≤ 1048576 ∧ ∀ m ∈ l, m.bs.length ≤ 1048576 := by
  rcases open_slice Try.underlying62 hf with ⟨hcs, hx⟩ | ⟨x, len, cp, m, n, D, Pl, hcs, _, hl, hm, hmm, hx, hel⟩
  · simp at hcs
    exact ⟨[], ⟨⟨none, 0, hcs, .inl rfl⟩, fun m hm => by simp at hm, by simp⟩, by simp, fun m hm => by simp at hm⟩
  · simp at hcs
    simp only [if_true] at hmm
    subst hmm
    simp only [Prod.mk.injEq] at hx
    obtain ⟨hd', _⟩ := hx
    rw [hd'] at hb
    simp only [Rows.uptoBulk] at hb
    have hge := bulk_ge ((List.range len).map D)
    simp only [List.length_map, List.length_range] at hge
    have hvs : ∀ i, i < len → ∃ v : Mg, (∃ cs, W.cells? 0 (x.add (i * 2)) 2 = some cs ∧ cs = [v.v, .int .u64 v.tk]) ∧ Bs W v.v v.bs ∧ v.bs.length ≤ 1048576 := by
      intro i hi
      obtain ⟨cs', hc, ht'⟩ := hel i (by omega)
      rw [cells75] at hc
      have hbi := bulk_mem (l := (List.range len).map D) (d := D i) (List.mem_map.2 ⟨i, List.mem_range.2 hi, rfl⟩)
      obtain ⟨v, hv, hdat⟩ := msg_up ht' (by omega)
      exact ⟨v, ⟨cs', hc, hv⟩, hdat⟩
    obtain ⟨f, hfv⟩ := choose_lt hvs
    have hmem : ∀ m ∈ (List.range len).map f, ∃ i, i < len ∧ m = f i := fun m hm => by
      obtain ⟨i, hi, e⟩ := List.mem_map.1 hm
      exact ⟨i, List.mem_range.1 hi, e.symm⟩
    refine ⟨(List.range len).map f, ⟨⟨some x, _, by rw [hcs]; simp; rfl, ?_⟩, fun m hm => ?_, by simp; omega⟩, by simp; omega, fun m hm => ?_⟩
    · by_cases h0 : len = 0
      · exact .inl (by rw [h0]; rfl)
      · right
        obtain ⟨b, off, spot⟩ := x
        have hcell : ∀ i, i < len → ∀ q, q < 2 → W.cell? ((⟨b, off, spot⟩ : Addr).add (i * 2) |>.add q) = ([(f i).v, .int .u64 (f i).tk] : List Value)[q]? := by
          intro i hi q hq
          obtain ⟨⟨cs, hc, he⟩, _⟩ := hfv i hi
          obtain ⟨_, hlen', hcell⟩ := World.cells?_some hc
          rw [hcell q hq, he]
        have hspot : spot = none := by
          have := hcell 0 (by omega) 0 (by omega)
          simpa [Addr.add] using World.cell?_spot this
        subst hspot
        have g : ∀ i, i < len → ∀ q, q < 2 → W.cell? ⟨b, off + i * 2 + q, none⟩ = ([(f i).v, .int .u64 (f i).tk] : List Value)[q]? := by
          intro i hi q hq
          have := hcell i hi q hq
          rw [Addr.add_lit, Addr.add_lit] at this
          exact this
        refine ⟨b, off, rfl, fun i hi => ?_⟩
        have hi' : i < len := by simpa using hi
        have h1 := g i hi' 0 (by omega)
        have h2 := g i hi' 1 (by omega)
        simp only [List.getElem_map, List.getElem_range]
        exact ⟨h1, h2⟩
    · obtain ⟨i, hi, rfl⟩ := hmem m hm
      exact (hfv i hi).2.1
    · obtain ⟨i, hi, rfl⟩ := hmem m hm
      exact (hfv i hi).2.2
theorem stat_up {fuel : Nat} {cs : List Value} {d : DataW H} {p : List MemPlace}
    (hf : DataW.trod enc Try.prog W 0 (fun _ => true) true fuel 48 cs = some (d, p)) :
    ∃ a0 a1 a2 a3 a4 : Int, cs = [.int .i64 a0, .int .i64 a1, .int .i64 a2, .int .i64 a3, .int .i64 a4] ∧ (-9223372036854775808 ≤ a0 ∧ a0 ≤ 9223372036854775807) ∧ (-9223372036854775808 ≤ a1 ∧ a1 ≤ 9223372036854775807) ∧ (-9223372036854775808 ≤ a4 ∧ a4 ≤ 9223372036854775807) := by
  obtain ⟨xs, n, _, hx, hl, hlen, hfi⟩ := DataW.trod_struct Try.underlying48 hf
  rw [cells48] at hl
  have hlen' : xs.length = 5 := hlen
  clear hlen
  obtain ⟨c0, c1, c2, c3, c4, rfl⟩ : ∃ c0 c1 c2 c3 c4, cs = [c0, c1, c2, c3, c4] := by
    match cs, hl with
    | [c0, c1, c2, c3, c4], _ => exact ⟨c0, c1, c2, c3, c4, rfl⟩
  obtain ⟨y0, y1, y2, y3, y4, rfl⟩ : ∃ c0 c1 c2 c3 c4, xs = [c0, c1, c2, c3, c4] := by
    clear hfi hx
    match xs, hlen' with
    | [c0, c1, c2, c3, c4], _ => exact ⟨c0, c1, c2, c3, c4, rfl⟩
  have f0 := hfi 0 _ rfl
  have f1 := hfi 1 _ rfl
  have f2 := hfi 2 _ rfl
  have f3 := hfi 3 _ rfl
  have f4 := hfi 4 _ rfl
  simp [cells3] at f0 f1 f2 f3 f4
  obtain ⟨x0, e0, _, w0⟩ := DataW.trod_int Try.underlying3 f0
  obtain ⟨x1, e1, _, w1⟩ := DataW.trod_int Try.underlying3 f1
  obtain ⟨x2, e2, _, w2⟩ := DataW.trod_int Try.underlying3 f2
  obtain ⟨x3, e3, _, w3⟩ := DataW.trod_int Try.underlying3 f3
  obtain ⟨x4, e4, _, w4⟩ := DataW.trod_int Try.underlying3 f4
  simp at e0 e1 e2 e3 e4
  subst e0 e1 e2 e3 e4
  exact ⟨x0, x1, x2, x3, x4, rfl, wf_i64 w0, wf_i64 w1, wf_i64 w4⟩
theorem state_up {fuel : Nat} {cs : List Value} {d : DataW H} {p : List MemPlace}
    (hf : DataW.trod enc Try.prog W 0 (fun _ => true) true fuel 64 cs = some (d, p)) (hb : Rows.uptoBulk d ≤ 1048576) :
    ∃ x : SV, cs = x.cs.toList ∧ x.rd W ∧ x.lq.length ≤ 1048576 ∧ x.ls.length ≤ 1048576 ∧ ∀ m ∈ x.lq ++ x.ls, m.bs.length ≤ 1048576 := by
  obtain ⟨xs, n, _, hx, hl, hlen, hfi⟩ := DataW.trod_struct Try.underlying64 hf
  rw [cells64] at hl
  have hlen' : xs.length = 3 := hlen
  clear hlen
  obtain ⟨c0, c1, c2, c3, c4, c5, c6, rfl⟩ : ∃ c0 c1 c2 c3 c4 c5 c6, cs = [c0, c1, c2, c3, c4, c5, c6] := by
    match cs, hl with
    | [c0, c1, c2, c3, c4, c5, c6], _ => exact ⟨c0, c1, c2, c3, c4, c5, c6, rfl⟩
  obtain ⟨y0, y1, y2, rfl⟩ : ∃ c0 c1 c2, xs = [c0, c1, c2] := by
    clear hfi hx
    match xs, hlen' with
    | [c0, c1, c2], _ => exact ⟨c0, c1, c2, rfl⟩
  have f0 := hfi 0 _ rfl
  have f1 := hfi 1 _ rfl
  have f2 := hfi 2 _ rfl
  simp [cells48, cells62] at f0 f1 f2
  simp only [Prod.mk.injEq] at hx
  rw [hx.1] at hb
  simp only [Rows.uptoBulk, List.map_cons, List.map_nil, Rows.uptoBulkAll] at hb
  obtain ⟨a0, a1, a2, a3, a4, e0, w0, w1, w4⟩ := stat_up (d := y0.1) (p := y0.2) f0
  obtain ⟨lq, r1, n1, b1⟩ := msgs_up (d := y1.1) (p := y1.2) f1 (by omega)
  obtain ⟨ls, r2, n2, b2⟩ := msgs_up (d := y2.1) (p := y2.2) f2 (by omega)
  simp at e0
  obtain ⟨rfl, rfl, rfl, rfl, rfl⟩ := e0
  refine ⟨⟨a0, a1, a2, a3, a4, c5, c6, lq, ls⟩, rfl, ⟨r1, r2, w0, w1, w4⟩, n1, n2, fun m hm => ?_⟩
  rcases List.mem_append.1 hm with hm | hm
  · exact b1 m hm
  · exact b2 m hm
theorem step_up {fuel : Nat} {cs : List Value} {d : DataW H} {p : List MemPlace}
    (hf : DataW.trod enc Try.prog W 0 (fun _ => true) true fuel 66 cs = some (d, p)) (hb : Rows.uptoBulk d ≤ 1048576) :
    ∃ s : Stp, cs = s.cs.toList ∧ s.ok W := by
  obtain ⟨xs, n, _, hx, hl, hlen, hfi⟩ := DataW.trod_struct Try.underlying66 hf
  rw [cells66] at hl
  have hlen' : xs.length = 5 := hlen
  clear hlen
  obtain ⟨c0, c1, c2, c3, c4, c5, c6, c7, c8, c9, c10, rfl⟩ : ∃ c0 c1 c2 c3 c4 c5 c6 c7 c8 c9 c10, cs = [c0, c1, c2, c3, c4, c5, c6, c7, c8, c9, c10] := by
    match cs, hl with
    | [c0, c1, c2, c3, c4, c5, c6, c7, c8, c9, c10], _ => exact ⟨c0, c1, c2, c3, c4, c5, c6, c7, c8, c9, c10, rfl⟩
  obtain ⟨y0, y1, y2, y3, y4, rfl⟩ : ∃ c0 c1 c2 c3 c4, xs = [c0, c1, c2, c3, c4] := by
    clear hfi hx
    match xs, hlen' with
    | [c0, c1, c2, c3, c4], _ => exact ⟨c0, c1, c2, c3, c4, rfl⟩
  have f0 := hfi 0 _ rfl
  have f1 := hfi 1 _ rfl
  have f2 := hfi 2 _ rfl
  have f3 := hfi 3 _ rfl
  have f4 := hfi 4 _ rfl
  simp [cells3, cells38, cells37, cells64] at f0 f1 f2 f3 f4
  simp only [Prod.mk.injEq] at hx
  rw [hx.1] at hb
  simp only [Rows.uptoBulk, List.map_cons, List.map_nil, Rows.uptoBulkAll] at hb
  obtain ⟨kd, e0, _, w0⟩ := DataW.trod_int Try.underlying3 f0
  obtain ⟨c, e1, _, w1⟩ := DataW.trod_int Try.underlying3 f1
  obtain ⟨tk, e2, _, w2⟩ := DataW.trod_int Try.underlying38 f2
  obtain ⟨bs, hB, hl2, hcp⟩ := bytes_up (d := y3.1) (p := y3.2) f3 (by omega)
  obtain ⟨x, e4, hr, n1, n2, hbm⟩ := state_up (d := y4.1) (p := y4.2) f4 (by omega)
  simp at e0 e1 e2
  subst e0 e1 e2
  simp [SV.cs] at e4
  obtain ⟨rfl, rfl, rfl, rfl, rfl, rfl, rfl⟩ := e4
  exact ⟨⟨kd, c, tk, c3, bs, x⟩, rfl, ⟨hB, hcp, hl2, hr, ⟨n1, n2⟩, hbm, wf_i64 w0⟩⟩
/-- Steps that came in. -/
theorem steps_up {a0 : Option Addr} {len cap : Nat} {d : DataW H} {p : List MemPlace}
    (h : DataW.Trod enc Try.prog W 0 (fun _ => true) true 51 (.slice a0 len cap) d p) (hb : Rows.uptoBulk d ≤ 1048576) : ∃ F, SpI W a0 len F := by
  obtain ⟨fuel, hf⟩ := h
  rcases open_slice Try.underlying51 hf with ⟨hcs, hx⟩ | ⟨x, l, c, m, n, D, Pl, hcs, _, hl, hm, hmm, hx, hel⟩
  · simp [Value.cells] at hcs
    obtain ⟨rfl, rfl, rfl⟩ := hcs
    exact ⟨fun _ => default, .inl rfl, by omega, fun i hi => by omega⟩
  · simp [Value.cells] at hcs
    obtain ⟨rfl, rfl, rfl⟩ := hcs
    simp only [if_true] at hmm
    subst hmm
    simp only [Prod.mk.injEq] at hx
    obtain ⟨hd', _⟩ := hx
    rw [hd'] at hb
    simp only [Rows.uptoBulk] at hb
    have hge := bulk_ge ((List.range len).map D)
    simp only [List.length_map, List.length_range] at hge
    have hvs : ∀ i, i < len → ∃ v : Stp, (∃ cs, W.cells? 0 (x.add (i * 11)) 11 = some cs ∧ cs = v.cs.toList) ∧ v.ok W := by
      intro i hi
      obtain ⟨cs', hc, ht'⟩ := hel i (by omega)
      rw [cells66] at hc
      have hbi := bulk_mem (l := (List.range len).map D) (d := D i) (List.mem_map.2 ⟨i, List.mem_range.2 hi, rfl⟩)
      obtain ⟨v, hv, hdat⟩ := step_up ht' (by omega)
      exact ⟨v, ⟨cs', hc, hv⟩, hdat⟩
    obtain ⟨f, hfv⟩ := choose_lt hvs
    refine ⟨f, ?_, by omega, fun i hi => (hfv i hi).2⟩
    by_cases h0 : len = 0
    · exact .inl h0
    · right
      obtain ⟨b, off, spot⟩ := x
      have hcell : ∀ i, i < len → ∀ q, q < 11 → W.cell? ((⟨b, off, spot⟩ : Addr).add (i * 11) |>.add q) = (f i).cs.toList[q]? := by
        intro i hi q hq
        obtain ⟨⟨cs, hc, he⟩, _⟩ := hfv i hi
        obtain ⟨_, hlen', hcell⟩ := World.cells?_some hc
        rw [hcell q hq, he]
      have hspot : spot = none := by
        have := hcell 0 (by omega) 0 (by omega)
        simp only [Stp.cs, scs, List.getElem?_cons_zero] at this
        simpa [Addr.add] using World.cell?_spot this
      subst hspot
      refine ⟨b, off, rfl, fun i hi q v hv => ?_⟩
      have hq : q < 11 := by
        have := (Array.getElem?_eq_some_iff.1 hv).1
        simpa [Stp.cs, scs] using this
      have := hcell i hi q hq
      rw [Addr.add_lit, Addr.add_lit] at this
      rw [this, Array.getElem?_toList]; exact hv
end
end Go.Proofs.Ytnblhaeojlpmmaa
