import Derived.Test.YtknlpjcdemijgaaGreatXu
import Derived.Deep.Slices
import Derived.ShutString
import Derived.ChangeOld
import Derived.SizedLaws
namespace Go.Proofs.YtknlpjcdemijgaaGreat
open Go.ChangeShapes Go.WideShapes Go.ChangeAt Go.RowKit Go.Deep
set_option linter.unusedVariables false
theorem ch_lt {α : Type} {n : Nat} {P : Nat → α → Prop} (h : ∀ i, i < n → ∃ v, P i v) : ∃ l : List α, l.length = n ∧ ∀ i (hi : i < l.length), P i l[i] := by
  classical
  refine ⟨List.ofFn (n := n) fun i => Classical.choose (h i.1 i.2), by simp, fun i hi => ?_⟩
  simp only [List.getElem_ofFn]
  exact Classical.choose_spec (h i (by simpa using hi))
/-- What weighs no more than reach. -/
def Lt {H : Type} (T : Nat) (d : DataW H) : Prop := ∀ x, x ∈ d.weights Tryz.prog T → x ≤ 140737488351232
theorem weightsAll_mem {H : Type} {P : Program} {e : TypeId} {d : DataW H} {x : Nat} (hx : x ∈ d.weights P e) : ∀ {l : List (DataW H)}, d ∈ l → x ∈ DataW.weightsAll P e l
  | a :: l, h => by
    simp only [DataW.weightsAll, List.mem_append]
    rcases List.mem_cons.1 h with rfl | h
    · exact .inl hx
    · exact .inr (weightsAll_mem hx h)
theorem cell_lt {W : World} {b o : Nat} {v : Value} (h : W.cell? ⟨b, o, none⟩ = some v) : b < W.heap.size := by
  have := World.block_lt_of_cell? W _ h
  exact this
section
variable {H : Type} {enc : TypeId × Value → H} {W : World} {fuel : Nat} {cs : List Value} {d : DataW H} {p : List MemPlace}
/-- Fields of a struct weigh no more. -/
theorem Lt.field {T : Nat} {fs : Array Field} {xs : List (DataW H × List MemPlace)} (hT : Tryz.prog.underlying T = some (.struct fs)) (h : Lt T (.agg (xs.map (·.1)) : DataW H)) {j : Nat} {f : Field} {y : DataW H × List MemPlace} (hf : fs[j]? = some f) (hy : xs[j]? = some y) : Lt f.type y.1 := fun x hx => by
  refine h x ?_
  simp only [DataW.weights, hT]
  exact DataW.weights_mem_each (j := j) (by simp [hf]) (by simp [hy]) x hx
/-- A list that came in. -/
theorem list_in {α : Type} (T E k : Nat) (P : World → Nat → Nat → α → Prop) (hT : Tryz.prog.underlying T = some (.slice E)) (hk : Tryz.prog.cellsOf E = k) (hk0 : 0 < k) (hby : 1 ≤ Tryz.prog.bytesOf E)
    (hel : ∀ fuel cs (d : DataW H) p, DataW.trod enc Tryz.prog W 0 (fun _ => true) true fuel E cs = some (d, p) → cs.length = k → Lt E d → ∃ y, ∀ b o, At W b o cs → P W b o y)
    {c : Value} (hf : DataW.trod enc Tryz.prog W 0 (fun _ => true) true fuel T [c] = some (d, p)) (hd : Lt T d) :
    ∃ a xs cap, c = .slice a (List.length xs) cap ∧ RdL W W.heap.size k P a xs := by
  rcases open_slice hT hf with ⟨hcs, hx⟩ | ⟨x, len, cap, m, n, D, Pl, hcs, _, hl, hm, hmm, hx, hel'⟩
  · simp at hcs
    exact ⟨none, [], 0, hcs, by simp, .inl rfl⟩
  · simp at hcs
    subst hcs
    simp only [if_true] at hmm
    subst hmm
    simp only [Prod.mk.injEq] at hx
    obtain ⟨hd', _⟩ := hx
    subst hd'
    have hlen : len ≤ 140737488351232 := by
      have h1 := hd ((((List.range len).map D).length + ((List.range (m - len)).map fun j => D (len + j)).length) * Tryz.prog.bytesOf E) (by simp [DataW.weights, hT])
      simp only [List.length_map, List.length_range] at h1
      have h2 : (len + (m - len)) * 1 ≤ (len + (m - len)) * Tryz.prog.bytesOf E := Nat.mul_le_mul_left _ hby
      omega
    have hdi : ∀ i, i < len → Lt E (D i) := fun i hi y hy => by
      refine hd y ?_
      simp only [DataW.weights, hT, List.mem_cons, List.mem_append]
      exact .inr (.inl (weightsAll_mem hy (List.mem_map.2 ⟨i, by simpa using hi, rfl⟩)))
    by_cases h0 : len = 0
    · subst h0
      exact ⟨some x, [], m, rfl, by simp, .inl rfl⟩
    · obtain ⟨b, off, spot⟩ := x
      have hspot : spot = none ∧ b < W.heap.size := by
        obtain ⟨cs', hc, _⟩ := hel' 0 (by omega)
        obtain ⟨_, hlen', hcell⟩ := World.cells?_some hc
        have h1 := hcell 0 (by rw [hk]; exact hk0)
        have h2 : (0 : Nat) < cs'.length := by rw [hlen', hk]; exact hk0
        rw [List.getElem?_eq_getElem h2] at h1
        have h3 : spot = none := by simpa [Addr.add] using World.cell?_spot h1
        subst h3
        rw [Addr.add_lit, Addr.add_lit] at h1
        exact ⟨rfl, cell_lt h1⟩
      obtain ⟨rfl, hb⟩ := hspot
      have hv : ∀ i, i < len → ∃ y, P W b (off + i * k) y := fun i hi => by
        obtain ⟨cs', hc, ht'⟩ := hel' i (by omega)
        rw [hk] at hc
        obtain ⟨_, hlen', hcell⟩ := World.cells?_some hc
        obtain ⟨y, hy⟩ := hel n cs' _ _ ht' hlen' (hdi i hi)
        refine ⟨y, hy _ _ fun j v hv => ?_⟩
        have hj : j < k := by rw [← hlen']; exact (List.getElem?_eq_some_iff.1 hv).1
        have := hcell j hj
        rw [Addr.add_lit, Addr.add_lit] at this
        rw [this, hv]
      obtain ⟨l, hl', hP⟩ := ch_lt hv
      exact ⟨_, l, m, by rw [hl'], by omega, .inr ⟨b, off, rfl, hb, hP⟩⟩
theorem cells_3 : Tryz.prog.cellsOf 3 = 1 := by kernel_rfl
theorem cells_4 : Tryz.prog.cellsOf 4 = 1 := by kernel_rfl
theorem cells_9 : Tryz.prog.cellsOf 9 = 1 := by kernel_rfl
theorem cells_22 : Tryz.prog.cellsOf 22 = 1 := by kernel_rfl
theorem cells_24 : Tryz.prog.cellsOf 24 = 3 := by kernel_rfl
theorem cells_25 : Tryz.prog.cellsOf 25 = 1 := by kernel_rfl
theorem cells_26 : Tryz.prog.cellsOf 26 = 1 := by kernel_rfl
theorem cells_27 : Tryz.prog.cellsOf 27 = 1 := by kernel_rfl
theorem cells_28 : Tryz.prog.cellsOf 28 = 1 := by kernel_rfl
theorem cells_29 : Tryz.prog.cellsOf 29 = 1 := by kernel_rfl
theorem cells_31 : Tryz.prog.cellsOf 31 = 12 := by kernel_rfl
theorem cells_52 : Tryz.prog.cellsOf 52 = 1 := by kernel_rfl
theorem cells_65 : Tryz.prog.cellsOf 65 = 3 := by kernel_rfl
theorem cells_87 : Tryz.prog.cellsOf 87 = 1 := by kernel_rfl
theorem cells_89 : Tryz.prog.cellsOf 89 = 4 := by kernel_rfl
theorem cells_94 : Tryz.prog.cellsOf 94 = 3 := by kernel_rfl
theorem cells_98 : Tryz.prog.cellsOf 98 = 6 := by kernel_rfl
theorem cells_99 : Tryz.prog.cellsOf 99 = 1 := by kernel_rfl
theorem cells_101 : Tryz.prog.cellsOf 101 = 4 := by kernel_rfl
theorem bytes_3 : 1 ≤ Tryz.prog.bytesOf 3 := by decide +kernel
theorem bytes_65 : 1 ≤ Tryz.prog.bytesOf 65 := by decide +kernel
theorem bytes_89 : 1 ≤ Tryz.prog.bytesOf 89 := by decide +kernel
theorem bytes_94 : 1 ≤ Tryz.prog.bytesOf 94 := by decide +kernel
theorem bytes_98 : 1 ≤ Tryz.prog.bytesOf 98 := by decide +kernel
theorem bytes_101 : 1 ≤ Tryz.prog.bytesOf 101 := by decide +kernel
theorem list3 {α : Type} : ∀ l : List α, l.length = 3 → ∃ a0 a1 a2, l = [a0, a1, a2]
  | [a0, a1, a2], _ => ⟨a0, a1, a2, rfl⟩
theorem list4 {α : Type} : ∀ l : List α, l.length = 4 → ∃ a0 a1 a2 a3, l = [a0, a1, a2, a3]
  | [a0, a1, a2, a3], _ => ⟨a0, a1, a2, a3, rfl⟩
theorem list6 {α : Type} : ∀ l : List α, l.length = 6 → ∃ a0 a1 a2 a3 a4 a5, l = [a0, a1, a2, a3, a4, a5]
  | [a0, a1, a2, a3, a4, a5], _ => ⟨a0, a1, a2, a3, a4, a5, rfl⟩
theorem list10 {α : Type} : ∀ l : List α, l.length = 10 → ∃ a0 a1 a2 a3 a4 a5 a6 a7 a8 a9, l = [a0, a1, a2, a3, a4, a5, a6, a7, a8, a9]
  | [a0, a1, a2, a3, a4, a5, a6, a7, a8, a9], _ => ⟨a0, a1, a2, a3, a4, a5, a6, a7, a8, a9, rfl⟩
theorem list12 {α : Type} : ∀ l : List α, l.length = 12 → ∃ a0 a1 a2 a3 a4 a5 a6 a7 a8 a9 a10 a11, l = [a0, a1, a2, a3, a4, a5, a6, a7, a8, a9, a10, a11]
  | [a0, a1, a2, a3, a4, a5, a6, a7, a8, a9, a10, a11], _ => ⟨a0, a1, a2, a3, a4, a5, a6, a7, a8, a9, a10, a11, rfl⟩
theorem wf_u8c {n : Int} (h : (Lit.int .u8 n).wf = true) : 0 ≤ n ∧ n < 256 := by
  have : 0 ≤ n ∧ n ≤ 255 := by simpa [Lit.wf, IntKind.min, IntKind.max, IntKind.signed, IntKind.bits] using h
  omega
theorem wf_u32c {n : Int} (h : (Lit.int .u32 n).wf = true) : 0 ≤ n ∧ n < 4294967296 := by
  have : 0 ≤ n ∧ n ≤ 4294967295 := by simpa [Lit.wf, IntKind.min, IntKind.max, IntKind.signed, IntKind.bits] using h
  omega
theorem wf_u64c {n : Int} (h : (Lit.int .u64 n).wf = true) : 0 ≤ n ∧ n < 18446744073709551616 := by
  have : 0 ≤ n ∧ n ≤ 18446744073709551615 := by simpa [Lit.wf, IntKind.min, IntKind.max, IntKind.signed, IntKind.bits] using h
  omega
theorem wf_i64c {n : Int} (h : (Lit.int .i64 n).wf = true) : -9223372036854775808 ≤ n ∧ n ≤ 9223372036854775807 := by
  simpa [Lit.wf, IntKind.min, IntKind.max, IntKind.signed, IntKind.bits] using h
theorem rg_in (fuel : Nat) (cs : List Value) (d : DataW H) (p : List MemPlace) (hf : DataW.trod enc Tryz.prog W 0 (fun _ => true) true fuel 101 cs = some (d, p)) (hc : cs.length = 4) (hd : Lt 101 d) : ∃ y, ∀ b o, At W b o cs → RgAt W b o y := by
  obtain ⟨xs, n, _, hx, hl, hlen, hfi⟩ := DataW.trod_struct Tryz.underlying101 hf
  obtain ⟨c0, c1, c2, c3, rfl⟩ := list4 cs hc
  obtain ⟨y0, y1, y2, y3, rfl⟩ := list4 xs hlen
  simp only [Prod.mk.injEq] at hx
  obtain ⟨rfl, rfl⟩ := hx
  have f0 := hfi 0 _ rfl
  have f1 := hfi 1 _ rfl
  have f2 := hfi 2 _ rfl
  have f3 := hfi 3 _ rfl
  simp [cells_3, cells_22, cells_99] at f0 f1 f2 f3
  obtain ⟨a0, e0, _, o0⟩ := DataW.trod_int Tryz.underlying22 f0
  obtain ⟨a1, e1, _, o1⟩ := DataW.trod_int Tryz.underlying22 f1
  obtain ⟨a2, e2, _, o2⟩ := DataW.trod_int Tryz.underlying3 f2
  obtain ⟨a3, e3, _, o3⟩ := DataW.trod_int Tryz.underlying99 f3
  simp at e0 e1 e2 e3
  subst e0 e1 e2 e3
  exact ⟨⟨a0, a1, a2, a3⟩, fun b o h => ⟨h, ⟨wf_u32c o0, wf_u32c o1, wf_i64c o2, wf_u8c o3⟩⟩⟩
theorem wi_in (fuel : Nat) (cs : List Value) (d : DataW H) (p : List MemPlace) (hf : DataW.trod enc Tryz.prog W 0 (fun _ => true) true fuel 65 cs = some (d, p)) (hc : cs.length = 3) (hd : Lt 65 d) : ∃ y, ∀ b o, At W b o cs → WiAt W b o y := by
  obtain ⟨xs, n, _, hx, hl, hlen, hfi⟩ := DataW.trod_struct Tryz.underlying65 hf
  obtain ⟨c0, c1, c2, rfl⟩ := list3 cs hc
  obtain ⟨y0, y1, y2, rfl⟩ := list3 xs hlen
  simp only [Prod.mk.injEq] at hx
  obtain ⟨rfl, rfl⟩ := hx
  have f0 := hfi 0 _ rfl
  have f1 := hfi 1 _ rfl
  have f2 := hfi 2 _ rfl
  simp [cells_3, cells_25] at f0 f1 f2
  obtain ⟨a0, e0, _, o0⟩ := DataW.trod_int Tryz.underlying3 f0
  obtain ⟨a1, e1, _, o1⟩ := DataW.trod_int Tryz.underlying25 f1
  obtain ⟨a2, e2, _, o2⟩ := DataW.trod_int Tryz.underlying25 f2
  simp at e0 e1 e2
  subst e0 e1 e2
  exact ⟨⟨a0, a1, a2⟩, fun b o h => ⟨h, ⟨wf_i64c o0, wf_u64c o1, wf_u64c o2⟩⟩⟩
theorem qu_in (fuel : Nat) (cs : List Value) (d : DataW H) (p : List MemPlace) (hf : DataW.trod enc Tryz.prog W 0 (fun _ => true) true fuel 98 cs = some (d, p)) (hc : cs.length = 6) (hd : Lt 98 d) : ∃ y, ∀ b o, At W b o cs → QuAt W b o y := by
  obtain ⟨xs, n, _, hx, hl, hlen, hfi⟩ := DataW.trod_struct Tryz.underlying98 hf
  obtain ⟨c0, c1, c2, c3, c4, c5, rfl⟩ := list6 cs hc
  obtain ⟨y0, y1, y2, y3, y4, y5, rfl⟩ := list6 xs hlen
  simp only [Prod.mk.injEq] at hx
  obtain ⟨rfl, rfl⟩ := hx
  have f0 := hfi 0 _ rfl
  have f1 := hfi 1 _ rfl
  have f2 := hfi 2 _ rfl
  have f3 := hfi 3 _ rfl
  have f4 := hfi 4 _ rfl
  have f5 := hfi 5 _ rfl
  simp [cells_3, cells_4] at f0 f1 f2 f3 f4 f5
  obtain ⟨a0, e0, _, o0⟩ := DataW.trod_int Tryz.underlying3 f0
  obtain ⟨a1, e1, _, o1⟩ := DataW.trod_int Tryz.underlying3 f1
  obtain ⟨a2, e2, _, o2⟩ := DataW.trod_int Tryz.underlying3 f2
  obtain ⟨a3, e3, _, o3⟩ := DataW.trod_int Tryz.underlying3 f3
  obtain ⟨a4, e4, _, o4⟩ := DataW.trod_int Tryz.underlying3 f4
  obtain ⟨a5, e5, _⟩ := DataW.trod_bool Tryz.underlying4 f5
  simp at e0 e1 e2 e3 e4 e5
  subst e0 e1 e2 e3 e4 e5
  exact ⟨⟨a0, a1, a2, a3, a4, a5⟩, fun b o h => ⟨h, ⟨wf_i64c o0, wf_i64c o1, wf_i64c o2, wf_i64c o3, wf_i64c o4⟩⟩⟩
/-- A number in a list. -/
def NuAt (w : World) (b o : Nat) (x : Int) : Prop := w.cell? ⟨b, o, none⟩ = some (.int .i64 x) ∧ i64ok x
theorem nu_in (fuel : Nat) (cs : List Value) (d : DataW H) (p : List MemPlace) (hf : DataW.trod enc Tryz.prog W 0 (fun _ => true) true fuel 3 cs = some (d, p)) (hc : cs.length = 1) (hd : Lt 3 d) : ∃ y, ∀ b o, At W b o cs → NuAt W b o y := by
  obtain ⟨a, e, _, o⟩ := DataW.trod_int Tryz.underlying3 hf
  subst e
  exact ⟨a, fun b o' h => ⟨h 0 _ rfl, wf_i64c o⟩⟩
theorem RdL.nums {N : Nat} {la : Option Addr} {xs : List Int} (h : RdL W N 1 NuAt la xs) : RdI W N la xs := by
  obtain ⟨h1, h2⟩ := h
  rcases h2 with h2 | ⟨b, o, e, hb, hc⟩
  · exact ⟨fun n hn => by simp [List.length_eq_zero_iff.1 h2] at hn, h1, .inl h2⟩
  · refine ⟨fun n hn => ?_, h1, .inr ⟨b, o, e, hb, fun i hi => ?_⟩⟩
    · obtain ⟨i, hi, rfl⟩ := List.getElem_of_mem hn
      exact (hc i hi).2
    · have := (hc i hi).1
      simpa using this
theorem sa_in (fuel : Nat) (cs : List Value) (d : DataW H) (p : List MemPlace) (hf : DataW.trod enc Tryz.prog W 0 (fun _ => true) true fuel 94 cs = some (d, p)) (hc : cs.length = 3) (hd : Lt 94 d) : ∃ y, ∀ b o, At W b o cs → SaAt W.heap.size W b o y := by
  obtain ⟨xs, n, _, hx, hl, hlen, hfi⟩ := DataW.trod_struct Tryz.underlying94 hf
  obtain ⟨c0, c1, c2, rfl⟩ := list3 cs hc
  obtain ⟨y0, y1, y2, rfl⟩ := list3 xs hlen
  simp only [Prod.mk.injEq] at hx
  obtain ⟨rfl, rfl⟩ := hx
  have f0 := hfi 0 _ rfl
  have f1 := hfi 1 _ rfl
  have f2 := hfi 2 _ rfl
  have g2 := Lt.field Tryz.underlying94 hd (j := 2) rfl rfl
  simp [cells_3, cells_52] at f0 f1 f2
  obtain ⟨a0, e0, _, o0⟩ := DataW.trod_int Tryz.underlying3 f0
  obtain ⟨a1, e1, _, o1⟩ := DataW.trod_int Tryz.underlying3 f1
  obtain ⟨a2, l2, m2, e2, h2⟩ := list_in (d := y2.1) (p := y2.2) 52 3 1 NuAt Tryz.underlying52 cells_3 (by omega) bytes_3 nu_in f2 g2
  simp at e0 e1
  subst e0 e1 e2
  exact ⟨⟨a0, a1, l2⟩, fun b o h => ⟨wf_i64c o0, wf_i64c o1, a2, m2, h, h2.nums⟩⟩
theorem ce_in (fuel : Nat) (cs : List Value) (d : DataW H) (p : List MemPlace) (hf : DataW.trod enc Tryz.prog W 0 (fun _ => true) true fuel 89 cs = some (d, p)) (hc : cs.length = 4) (hd : Lt 89 d) : ∃ y, ∀ b o, At W b o cs → CeAt W.heap.size W b o y := by
  obtain ⟨xs, n, _, hx, hl, hlen, hfi⟩ := DataW.trod_struct Tryz.underlying89 hf
  obtain ⟨c0, c1, c2, c3, rfl⟩ := list4 cs hc
  obtain ⟨y0, y1, y2, y3, rfl⟩ := list4 xs hlen
  simp only [Prod.mk.injEq] at hx
  obtain ⟨rfl, rfl⟩ := hx
  have f0 := hfi 0 _ rfl
  have g0 := Lt.field Tryz.underlying89 hd (j := 0) rfl rfl
  have f1 := hfi 1 _ rfl
  have f2 := hfi 2 _ rfl
  have g2 := Lt.field Tryz.underlying89 hd (j := 2) rfl rfl
  have f3 := hfi 3 _ rfl
  have g3 := Lt.field Tryz.underlying89 hd (j := 3) rfl rfl
  simp [cells_9, cells_22, cells_52, cells_87] at f0 f1 f2 f3
  obtain ⟨a0, e0, x0, _⟩ := DataW.trod_string Tryz.underlying9 f0
  obtain ⟨a1, e1, _, o1⟩ := DataW.trod_int Tryz.underlying22 f1
  obtain ⟨a2, l2, m2, e2, h2⟩ := list_in (d := y2.1) (p := y2.2) 87 101 4 RgAt Tryz.underlying87 cells_101 (by omega) bytes_101 rg_in f2 g2
  obtain ⟨a3, l3, m3, e3, h3⟩ := list_in (d := y3.1) (p := y3.2) 52 3 1 NuAt Tryz.underlying52 cells_3 (by omega) bytes_3 nu_in f3 g3
  simp at e0 e1
  subst e0 e1 e2 e3
  refine ⟨⟨a0, a1, l2, l3⟩, fun b o h => ⟨wf_u32c o1, ?_, a2, m2, a3, m3, h, h2, h3.nums⟩⟩
  have : a0.size ≤ 140737488351232 := g0 a0.size (by rw [x0]; simp [DataW.weights])
  show a0.size ≤ _
  omega
set_option maxRecDepth 8000 in
/-- A configuration that came in. -/
theorem conf_in {r : Reach} {base : Nat} {v : Value} (hv : Value.okWide Tryz.prog W r base 31 v) (h : DataW.Trod enc Tryz.prog W 0 (fun _ => true) true 31 v d p) (hd : Lt 31 d) : ∃ g, IsCf W v g := by
  obtain ⟨cs, rfl, hsz⟩ := okWide_struct Tryz.underlying31 hv
  rw [cells_31] at hsz
  obtain ⟨fuel, hf⟩ := h
  obtain ⟨xs, n, _, hx, hl, hlen, hfi⟩ := DataW.trod_struct Tryz.underlying31 hf
  obtain ⟨l⟩ := cs
  obtain ⟨c0, c1, c2, c3, c4, c5, c6, c7, c8, c9, c10, c11, rfl⟩ := list12 l (by simpa using hsz)
  obtain ⟨y0, y1, y2, y3, y4, y5, y6, y7, y8, y9, rfl⟩ := list10 xs hlen
  simp only [Prod.mk.injEq] at hx
  obtain ⟨rfl, rfl⟩ := hx
  have f0 := hfi 0 _ rfl
  have f1 := hfi 1 _ rfl
  have f2 := hfi 2 _ rfl
  have f3 := hfi 3 _ rfl
  have f4 := hfi 4 _ rfl
  have f5 := hfi 5 _ rfl
  have f6 := hfi 6 _ rfl
  have f7 := hfi 7 _ rfl
  have f8 := hfi 8 _ rfl
  have f9 := hfi 9 _ rfl
  have k6 := Lt.field Tryz.underlying31 hd (j := 6) rfl rfl
  have k7 := Lt.field Tryz.underlying31 hd (j := 7) rfl rfl
  have k8 := Lt.field Tryz.underlying31 hd (j := 8) rfl rfl
  have k9 := Lt.field Tryz.underlying31 hd (j := 9) rfl rfl
  clear hfi
  simp [cells_3, cells_22, cells_24, cells_25, cells_26, cells_27, cells_28, cells_29, Value.cells] at f0 f1 f2 f3 f4 f5 f6 f7 f8 f9
  obtain ⟨a0, e0, _, o0⟩ := DataW.trod_int Tryz.underlying3 f0
  obtain ⟨a1, e1, _, o1⟩ := DataW.trod_int Tryz.underlying22 f1
  obtain ⟨a2, e2, _, o2⟩ := DataW.trod_int Tryz.underlying3 f2
  obtain ⟨zs3, n3, _, hx3, hl3, hlen3, hfi3⟩ := DataW.trod_struct Tryz.underlying24 f3
  obtain ⟨z0, z1, z2, rfl⟩ := list3 zs3 hlen3
  have g0 := hfi3 0 _ rfl
  have g1 := hfi3 1 _ rfl
  have g2 := hfi3 2 _ rfl
  simp [cells_3] at g0 g1 g2
  obtain ⟨b0, eb0, _, ob0⟩ := DataW.trod_int Tryz.underlying3 g0
  obtain ⟨b1, eb1, _, ob1⟩ := DataW.trod_int Tryz.underlying3 g1
  obtain ⟨b2, eb2, _, ob2⟩ := DataW.trod_int Tryz.underlying3 g2
  obtain ⟨a4, e4, _, o4⟩ := DataW.trod_int Tryz.underlying3 f4
  obtain ⟨a5, e5, _, o5⟩ := DataW.trod_int Tryz.underlying25 f5
  obtain ⟨ca, cs, cc, e6, h6⟩ := list_in (d := y6.1) (p := y6.2) 26 89 4 (CeAt W.heap.size) Tryz.underlying26 cells_89 (by omega) bytes_89 ce_in f6 k6
  obtain ⟨wa, ws, wc, e7, h7⟩ := list_in (d := y7.1) (p := y7.2) 27 65 3 WiAt Tryz.underlying27 cells_65 (by omega) bytes_65 wi_in f7 k7
  obtain ⟨sa, ss, sc, e8, h8⟩ := list_in (d := y8.1) (p := y8.2) 28 94 3 (SaAt W.heap.size) Tryz.underlying28 cells_94 (by omega) bytes_94 sa_in f8 k8
  obtain ⟨qa, qs, qc, e9, h9⟩ := list_in (d := y9.1) (p := y9.2) 29 98 6 QuAt Tryz.underlying29 cells_98 (by omega) bytes_98 qu_in f9 k9
  simp at e0 e1 e2 eb0 eb1 eb2 e4 e5
  subst e0 e1 e2 eb0 eb1 eb2 e4 e5 e6 e7 e8 e9
  exact ⟨⟨⟨a0, a1, a2, b0, b1, b2, a4, a5⟩, cs, ws, ss, qs⟩, ⟨wf_i64c o0, wf_u32c o1, wf_i64c o2, wf_i64c ob0, wf_i64c ob1, wf_i64c ob2, wf_i64c o4, wf_u64c o5⟩, ca, cc, wa, wc, sa, sc, qa, qc, rfl, h6, h7, h8, h9⟩
end
end Go.Proofs.YtknlpjcdemijgaaGreat
namespace Go.Proofs.YtknlpjcdemijgaaGreat
open Go.ChangeShapes Go.WideShapes Go.ChangeAt Go.RowKit
set_option linter.unusedVariables false

theorem own' : ownKnob Tryz.prog.godebug = none := by kernel_rfl
theorem laidOut' : laidOutB Tryz.prog = true := by kernel_rfl
/-- Each argument weighs no more than reach. -/
theorem lt_of {H : Type} {ts : List TypeId} {ds : List (DataW H)} {j : Nat} {t : TypeId} {d : DataW H} (hsz : (DataW.weightsEach Tryz.prog ts ds).all (· ≤ reachBytes) = true) (ht : ts[j]? = some t) (hd : ds[j]? = some d) : Lt t d := fun x hx => by
  have := List.all_eq_true.1 hsz _ (DataW.weights_mem_each ht hd x hx)
  exact of_decide_eq_true this
end Go.Proofs.YtknlpjcdemijgaaGreat
