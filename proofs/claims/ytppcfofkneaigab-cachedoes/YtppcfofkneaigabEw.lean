import Derived.Test.YtppcfofkneaigabEv
import Derived.Test.YtppcfofkneaigabIn
import Derived.Deep.Slices
import Derived.ShutString
import Derived.ChangeOld
import Derived.SizedLaws
namespace Go.Proofs.Ytppcfofkneaigab
open Go.ChangeShapes Go.WideShapes Go.ChangeAt Go.RowKit Go.Deep
set_option linter.unusedVariables false
theorem cells_37 : Try.prog.cellsOf 37 = 4 := by kernel_rfl
theorem cells_74 : Try.prog.cellsOf 74 = 3 := by kernel_rfl
theorem cells_35 : Try.prog.cellsOf 35 = 1 := by kernel_rfl
theorem cells_34 : Try.prog.cellsOf 34 = 1 := by kernel_rfl
theorem bytes_74 : Try.prog.bytesOf 74 = 12 := by kernel_rfl
theorem bytes_37 : 1 ≤ Try.prog.bytesOf 37 := by decide +kernel
theorem choose_lt {α : Type} [Inhabited α] {n : Nat} {P : Nat → α → Prop} (h : ∀ i, i < n → ∃ v, P i v) : ∃ f : Nat → α, ∀ i, i < n → P i (f i) := by
  classical
  exact ⟨fun i => if hi : i < n then Classical.choose (h i hi) else default, fun i hi => by simp only [hi, dif_pos]; exact Classical.choose_spec (h i hi)⟩
theorem weightsAll_mem {H : Type} {P : Program} {e : TypeId} : ∀ {ds : List (DataW H)} {d : DataW H}, d ∈ ds → ∀ n ∈ d.weights P e, n ∈ DataW.weightsAll P e ds
  | d0 :: ds, d, hd, n, hn => by
    simp only [DataW.weightsAll, List.mem_append]
    rcases List.mem_cons.1 hd with rfl | h
    · exact .inl hn
    · exact .inr (weightsAll_mem h n hn)
  | [], _, hd, _, _ => by cases hd
/-- An operation of the script. -/
structure Ov where
  kd : Int
  a : Nat
  wr : Bool
  la : Option Addr
  lc : Nat
  l : List (Nat × Ln)
structure OvOk (W : World) (o : Ov) : Prop where
  kd : InI o.kd
  a : o.a < 4294967296
  l : LsIn W o.la o.l
  n : o.l.length ≤ 11728124029610
  b : ∀ z, o.la = some z → o.l ≠ [] → z.block < W.heap.size
def ocs (o : Ov) : List Value := [.int .i64 o.kd, .int .u32 (o.a : Nat), .bool o.wr, .slice o.la o.l.length o.lc]
/-- The script as it is read. -/
structure OpsIn (W : World) (a0 : Option Addr) (len : Nat) (F : Nat → Ov) : Prop where
  le : len ≤ 140737488355328
  ok : ∀ i, i < len → OvOk W (F i)
  src : len = 0 ∨ ∃ b off, a0 = some ⟨b, off, none⟩ ∧ b < W.heap.size ∧ ∀ i, i < len → ∀ q, q < 4 → W.cell? ⟨b, off + i * 4 + q, none⟩ = (ocs (F i))[q]?
set_option maxRecDepth 8000
section
variable {H : Type} {enc : TypeId × Value → H} {W : World} {fuel : Nat} {cs : List Value} {d : DataW H} {p : List MemPlace}
theorem u32_in (hf : DataW.trod enc Try.prog W 0 (fun _ => true) true fuel 34 cs = some (d, p)) : ∃ n : Nat, cs = [.int .u32 (n : Nat)] ∧ n < 4294967296 := by
  obtain ⟨v, e, _, hw⟩ := DataW.trod_int Try.underlying34 hf
  have := wf_u32 hw
  exact ⟨v.toNat, by rw [e]; congr 2; omega, by omega⟩
theorem int_in (hf : DataW.trod enc Try.prog W 0 (fun _ => true) true fuel 3 cs = some (d, p)) : ∃ n : Int, cs = [.int .i64 n] ∧ InI n := by
  obtain ⟨v, e, _, hw⟩ := DataW.trod_int Try.underlying3 hf
  exact ⟨v, e, wf_i64' hw⟩
theorem bool_in (hf : DataW.trod enc Try.prog W 0 (fun _ => true) true fuel 4 cs = some (d, p)) : ∃ b : Bool, cs = [.bool b] := by
  obtain ⟨v, e, _⟩ := DataW.trod_bool Try.underlying4 hf
  exact ⟨v, e⟩
theorem line_in (hf : DataW.trod enc Try.prog W 0 (fun _ => true) true fuel 74 cs = some (d, p)) : ∃ x : Nat × Ln, cs = lC x ∧ x.1 < 4294967296 ∧ x.2.1 < 4294967296 := by
  obtain ⟨xs, m, _, hx, hl, hlen, hfi⟩ := DataW.trod_struct Try.underlying74 hf
  rw [cells_74] at hl
  have hlen' : xs.length = 3 := hlen
  clear hlen
  obtain ⟨c0, c1, c2, rfl⟩ : ∃ c0 c1 c2, cs = [c0, c1, c2] := by
    match cs, hl with
    | [c0, c1, c2], _ => exact ⟨c0, c1, c2, rfl⟩
  obtain ⟨y0, y1, y2, rfl⟩ : ∃ c0 c1 c2, xs = [c0, c1, c2] := by
    clear hfi hx
    match xs, hlen' with
    | [c0, c1, c2], _ => exact ⟨c0, c1, c2, rfl⟩
  have f0 := hfi 0 _ rfl
  have f1 := hfi 1 _ rfl
  have f2 := hfi 2 _ rfl
  simp [cells_34, cells4] at f0 f1 f2
  obtain ⟨a, e0, h0⟩ := u32_in (d := y0.1) (p := y0.2) f0
  obtain ⟨b, e1, h1⟩ := u32_in (d := y1.1) (p := y1.2) f1
  obtain ⟨c, e2⟩ := bool_in (d := y2.1) (p := y2.2) f2
  simp at e0 e1 e2
  subst e0 e1 e2
  exact ⟨(a, b, c), rfl, h0, h1⟩
/-- A list of lines within another datum. -/
theorem lines_in {c : Value} (hf : DataW.trod enc Try.prog W 0 (fun _ => true) true fuel 35 [c] = some (d, p)) (hw : ∀ n ∈ d.weights Try.prog 35, n ≤ reachBytes) :
    ∃ a0 cap l, c = .slice a0 l.length cap ∧ LsIn W a0 l ∧ l.length ≤ 11728124029610 ∧ ∀ z, a0 = some z → l ≠ [] → z.block < W.heap.size := by
  rcases open_slice Try.underlying35 hf with ⟨hcs, hx⟩ | ⟨x, len, cap, m, n, D, Pl, hcs, _, hl, hm, hmm, hx, hel⟩
  · simp at hcs
    exact ⟨none, 0, [], hcs, ⟨.inl rfl, fun p hp => (by cases hp)⟩, by simp, fun z hz => by cases hz⟩
  · simp at hcs
    subst hcs
    simp only [if_true] at hmm
    subst hmm
    simp only [Prod.mk.injEq] at hx
    obtain ⟨hd', _⟩ := hx
    have hreach := hw (((List.range len).map D).length + ((List.range (m - len)).map fun j => D (len + j)).length |> (· * Try.prog.bytesOf 74)) (by rw [hd']; simp [DataW.weights, Try.underlying35])
    simp only [bytes_74, List.length_map, List.length_range, reachBytes] at hreach
    have hvs : ∀ i, i < len → ∃ v : Nat × Ln, (∃ cs, W.cells? 0 (x.add (i * 3)) 3 = some cs ∧ cs = lC v) ∧ v.1 < 4294967296 ∧ v.2.1 < 4294967296 := by
      intro i hi
      obtain ⟨cs', hc, ht'⟩ := hel i (by omega)
      rw [cells_74] at hc
      obtain ⟨v, hv, hdat⟩ := line_in ht'
      exact ⟨v, ⟨cs', hc, hv⟩, hdat⟩
    haveI : Inhabited (Nat × Ln) := ⟨zl⟩
    obtain ⟨f, hfv⟩ := choose_lt hvs
    obtain ⟨b, off, spot⟩ := x
    have hcell : ∀ i, i < len → ∀ q, q < 3 → W.cell? ((⟨b, off, spot⟩ : Addr).add (i * 3) |>.add q) = (lC (f i))[q]? := by
      intro i hi q hq
      obtain ⟨⟨cs, hc, he⟩, _⟩ := hfv i hi
      obtain ⟨_, hlen', hcell⟩ := World.cells?_some hc
      rw [hcell q hq, he]
    have hlen : ((List.range len).map f).length = len := by simp
    refine ⟨_, m, (List.range len).map f, by rw [hlen], ⟨?_, fun p hp => ?_⟩, by rw [hlen]; omega, fun z hz hne => ?_⟩
    · by_cases h0 : len = 0
      · left; simp [h0]
      · right
        have hspot : spot = none := by
          have := hcell 0 (by omega) 0 (by omega)
          rw [show (lC (f 0))[0]? = some (.int .u32 ((f 0).1 : Nat)) from rfl] at this
          simpa [Addr.add] using World.cell?_spot this
        subst hspot
        have g : ∀ i, i < len → ∀ q, q < 3 → W.cell? ⟨b, off + i * 3 + q, none⟩ = (lC (f i))[q]? := by
          intro i hi q hq
          have := hcell i hi q hq
          rw [Addr.add_lit, Addr.add_lit] at this
          exact this
        refine ⟨b, off, rfl, World.block_lt_of_cell? W _ (g 0 (by omega) 0 (by omega)), fun i hi => ?_⟩
        simp at hi
        simp only [List.getElem_map, List.getElem_range]
        exact ⟨g i hi 0 (by omega), g i hi 1 (by omega), g i hi 2 (by omega)⟩
    · simp at hp
      obtain ⟨i, hi, rfl⟩ := hp
      exact (hfv i hi).2
    · have h0 : 0 < len := by
        rcases Nat.eq_zero_or_pos len with h | h
        · simp [h] at hne
        · exact h
      simp only [Option.some.injEq] at hz
      subst hz
      have := hcell 0 h0 0 (by omega)
      rw [show (lC (f 0))[0]? = some (.int .u32 ((f 0).1 : Nat)) from rfl] at this
      exact World.block_lt_of_cell? W _ this
theorem ov_in (hf : DataW.trod enc Try.prog W 0 (fun _ => true) true fuel 37 cs = some (d, p)) (hsz : ∀ n ∈ d.weights Try.prog 37, n ≤ reachBytes) : ∃ o : Ov, cs = ocs o ∧ OvOk W o := by
  obtain ⟨xs, m, _, hx, hl, hlen, hfi⟩ := DataW.trod_struct Try.underlying37 hf
  rw [cells_37] at hl
  have hlen' : xs.length = 4 := hlen
  clear hlen
  obtain ⟨c0, c1, c2, c3, rfl⟩ : ∃ c0 c1 c2 c3, cs = [c0, c1, c2, c3] := by
    match cs, hl with
    | [c0, c1, c2, c3], _ => exact ⟨c0, c1, c2, c3, rfl⟩
  obtain ⟨y0, y1, y2, y3, rfl⟩ : ∃ c0 c1 c2 c3, xs = [c0, c1, c2, c3] := by
    clear hfi hx
    match xs, hlen' with
    | [c0, c1, c2, c3], _ => exact ⟨c0, c1, c2, c3, rfl⟩
  have f0 := hfi 0 _ rfl
  have f1 := hfi 1 _ rfl
  have f2 := hfi 2 _ rfl
  have f3 := hfi 3 _ rfl
  simp [cells_34, cells4, cells3', cells_35] at f0 f1 f2 f3
  obtain ⟨kd, e0, h0⟩ := int_in (d := y0.1) (p := y0.2) f0
  obtain ⟨a, e1, h1⟩ := u32_in (d := y1.1) (p := y1.2) f1
  obtain ⟨wr, e2⟩ := bool_in (d := y2.1) (p := y2.2) f2
  simp only [Prod.mk.injEq] at hx
  have hd := hx.1
  obtain ⟨la, lc, l, e3, h3, h4, h5⟩ := lines_in (d := y3.1) (p := y3.2) f3 (fun q hq => hsz q (by rw [hd]; simp [DataW.weights, Try.underlying37, DataW.weightsEach, hq]))
  simp at e0 e1 e2
  subst e0 e1 e2 e3
  exact ⟨⟨kd, a, wr, la, lc, l⟩, rfl, h0, h1, h3, h4, h5⟩
end
/-- A script that came in. -/
theorem ops_in {H : Type} {enc : TypeId × Value → H} {W : World} {a0 : Option Addr} {len cap : Nat} {d : DataW H} {p : List MemPlace}
    (h : DataW.Trod enc Try.prog W 0 (fun _ => true) true 24 (.slice a0 len cap) d p)
    (hw : ∀ n ∈ d.weights Try.prog 24, n ≤ reachBytes) : ∃ F, OpsIn W a0 len F := by
  haveI : Inhabited Ov := ⟨⟨0, 0, false, none, 0, []⟩⟩
  obtain ⟨fuel, hf⟩ := h
  rcases open_slice Try.underlying24 hf with ⟨hcs, hx⟩ | ⟨x, l, c, m, n, D, Pl, hcs, _, hl, hm, hmm, hx, hel⟩
  · simp [Value.cells] at hcs
    obtain ⟨rfl, rfl, rfl⟩ := hcs
    exact ⟨fun _ => default, by omega, fun i hi => by omega, .inl rfl⟩
  · simp [Value.cells] at hcs
    obtain ⟨rfl, rfl, rfl⟩ := hcs
    simp only [if_true] at hmm
    subst hmm
    simp only [Prod.mk.injEq] at hx
    obtain ⟨hd', _⟩ := hx
    have hreach := hw (((List.range len).map D).length + ((List.range (m - len)).map fun j => D (len + j)).length |> (· * Try.prog.bytesOf 37)) (by rw [hd']; simp [DataW.weights, Try.underlying24])
    simp only [List.length_map, List.length_range, reachBytes] at hreach
    have hb := bytes_37
    have hle : len ≤ 140737488355328 := by
      have := Nat.le_trans (Nat.mul_le_mul_left (len + (m - len)) hb) hreach
      omega
    have hvs : ∀ i, i < len → ∃ v : Ov, (∃ cs, W.cells? 0 (x.add (i * 4)) 4 = some cs ∧ cs = ocs v) ∧ OvOk W v := by
      intro i hi
      obtain ⟨cs', hc, ht'⟩ := hel i (by omega)
      rw [cells_37] at hc
      obtain ⟨v, hv, hdat⟩ := ov_in ht' (fun q hq => hw q (by
        rw [hd']
        have := weightsAll_mem (P := Try.prog) (e := 37) (ds := (List.range len).map D) (d := D i) (List.mem_map.2 ⟨i, by simpa using hi, rfl⟩) q hq
        simp [DataW.weights, Try.underlying24, this]))
      exact ⟨v, ⟨cs', hc, hv⟩, hdat⟩
    obtain ⟨f, hfv⟩ := choose_lt hvs
    refine ⟨f, hle, fun i hi => (hfv i hi).2, ?_⟩
    by_cases h0 : len = 0
    · exact .inl h0
    · right
      obtain ⟨b, off, spot⟩ := x
      have hcell : ∀ i, i < len → ∀ q, q < 4 → W.cell? ((⟨b, off, spot⟩ : Addr).add (i * 4) |>.add q) = (ocs (f i))[q]? := by
        intro i hi q hq
        obtain ⟨⟨cs, hc, he⟩, _⟩ := hfv i hi
        obtain ⟨_, hlen', hcell⟩ := World.cells?_some hc
        rw [hcell q hq, he]
      have hspot : spot = none := by
        have := hcell 0 (by omega) 0 (by omega)
        rw [show (ocs (f 0))[0]? = some (.int .i64 (f 0).kd) from rfl] at this
        simpa [Addr.add] using World.cell?_spot this
      subst hspot
      have g : ∀ i, i < len → ∀ q, q < 4 → W.cell? ⟨b, off + i * 4 + q, none⟩ = (ocs (f i))[q]? := by
        intro i hi q hq
        have := hcell i hi q hq
        rw [Addr.add_lit, Addr.add_lit] at this
        exact this
      exact ⟨b, off, rfl, World.block_lt_of_cell? W _ (g 0 (by omega) 0 (by omega)), g⟩
end Go.Proofs.Ytppcfofkneaigab
