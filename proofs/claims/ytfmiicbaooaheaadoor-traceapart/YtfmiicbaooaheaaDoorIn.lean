import Derived.Test.YtfmiicbaooaheaaDoorOq
import Derived.Deep.Slices
import Derived.ShutString
import Derived.ChangeOld
import Derived.SizedLaws
namespace Go.Proofs.YtfmiicbaooaheaaDoor
open Go.ChangeShapes Go.WideShapes Go.ChangeAt Go.RowKit Go.Deep
set_option linter.unusedVariables false
/-- What weighs no more than reach. -/
def Lt {H : Type} (T : Nat) (d : DataW H) : Prop := ∀ x, x ∈ d.weights Tryd.prog T → x ≤ 140737488351232
theorem weightsAll_mem {H : Type} {P : Program} {e : TypeId} {d : DataW H} {x : Nat} (hx : x ∈ d.weights P e) : ∀ {l : List (DataW H)}, d ∈ l → x ∈ DataW.weightsAll P e l
  | a :: l, h => by
    simp only [DataW.weightsAll, List.mem_append]
    rcases List.mem_cons.1 h with rfl | h
    · exact .inl hx
    · exact .inr (weightsAll_mem hx h)
theorem cell_lt {W : World} {b o : Nat} {v : Value} (h : W.cell? ⟨b, o, none⟩ = some v) : b < W.heap.size := by
  have := World.block_lt_of_cell? W _ h
  exact this
theorem ch_fun {α : Type} [Inhabited α] {n : Nat} {P : Nat → α → Prop} (h : ∀ i, i < n → ∃ v, P i v) : ∃ f : Nat → α, ∀ i, i < n → P i (f i) := by
  classical
  exact ⟨fun i => if hi : i < n then Classical.choose (h i hi) else default, fun i hi => by simp only [hi, dif_pos]; exact Classical.choose_spec (h i hi)⟩
theorem wf_i64c {n : Int} (h : (Lit.int .i64 n).wf = true) : -9223372036854775808 ≤ n ∧ n ≤ 9223372036854775807 := by
  simpa [Lit.wf, IntKind.min, IntKind.max, IntKind.signed, IntKind.bits] using h
section
variable {H : Type} {enc : TypeId × Value → H} {W : World} {fuel : Nat} {cs : List Value} {d : DataW H} {p : List MemPlace}
/-- A list that came in. -/
theorem list_in {α : Type} [Inhabited α] (T E k : Nat) (P : Nat → Nat → α → Prop) (hT : Tryd.prog.underlying T = some (.slice E)) (hk : Tryd.prog.cellsOf E = k) (hk0 : 0 < k) (hby : 1 ≤ Tryd.prog.bytesOf E)
    (hel : ∀ fuel cs (d : DataW H) p, DataW.trod enc Tryd.prog W 0 (fun _ => true) true fuel E cs = some (d, p) → cs.length = k → ∃ y, ∀ b o, (∀ j v, cs[j]? = some v → W.cell? ⟨b, o + j, none⟩ = some v) → P b o y)
    {c : Value} (hf : DataW.trod enc Tryd.prog W 0 (fun _ => true) true fuel T [c] = some (d, p)) (hd : Lt T d) :
    ∃ a len cap, c = .slice a len cap ∧ len ≤ 140737488351232 ∧ (len = 0 ∨ ∃ b o, a = some ⟨b, o, none⟩ ∧ b < W.heap.size ∧ ∃ f : Nat → α, ∀ i, i < len → P b (o + i * k) (f i)) := by
  rcases open_slice hT hf with ⟨hcs, hx⟩ | ⟨x, len, cap, m, n, D, Pl, hcs, _, hl, hm, hmm, hx, hel'⟩
  · simp at hcs
    exact ⟨none, 0, 0, hcs, by omega, .inl rfl⟩
  · simp at hcs
    subst hcs
    simp only [if_true] at hmm
    subst hmm
    simp only [Prod.mk.injEq] at hx
    obtain ⟨hd', _⟩ := hx
    subst hd'
    have hlen : len ≤ 140737488351232 := by
      have h1 := hd ((((List.range len).map D).length + ((List.range (m - len)).map fun j => D (len + j)).length) * Tryd.prog.bytesOf E) (by simp [DataW.weights, hT])
      simp only [List.length_map, List.length_range] at h1
      have h2 : (len + (m - len)) * 1 ≤ (len + (m - len)) * Tryd.prog.bytesOf E := Nat.mul_le_mul_left _ hby
      omega
    refine ⟨some x, len, m, rfl, hlen, ?_⟩
    by_cases h0 : len = 0
    · exact .inl h0
    · obtain ⟨b, off, spot⟩ := x
      have hspot : spot = none ∧ b < W.heap.size := by
        obtain ⟨cs', hc, _⟩ := hel' 0 (by omega)
        obtain ⟨_, hlen', hcell⟩ := World.cells?_some hc
        have h1 := hcell 0 (by rw [hk]; exact hk0)
        have h2 : (0 : Nat) < cs'.length := by rw [hlen', hk]; exact hk0
        rw [List.getElem?_eq_getElem h2] at h1
        have h3 : spot = none := by simpa [Addr.add] using World.cell?_spot h1
        subst h3
        rw [Addr.add_lit, Addr.add_lit] at h1
        exact ⟨rfl, cell_lt h1⟩
      obtain ⟨rfl, hb⟩ := hspot
      refine .inr ⟨b, off, rfl, hb, ?_⟩
      refine ch_fun fun i hi => ?_
      obtain ⟨cs', hc, ht'⟩ := hel' i (by omega)
      rw [hk] at hc
      obtain ⟨_, hlen', hcell⟩ := World.cells?_some hc
      obtain ⟨y, hy⟩ := hel n cs' _ _ ht' hlen'
      refine ⟨y, hy _ _ fun j v hv => ?_⟩
      have hj : j < k := by rw [← hlen']; exact (List.getElem?_eq_some_iff.1 hv).1
      have := hcell j hj
      rw [Addr.add_lit, Addr.add_lit] at this
      rw [this, hv]
theorem cells_3 : Tryd.prog.cellsOf 3 = 1 := by kernel_rfl
theorem cells_37 : Tryd.prog.cellsOf 37 = 6 := by kernel_rfl
theorem bytes_3 : 1 ≤ Tryd.prog.bytesOf 3 := by decide +kernel
theorem bytes_37 : 1 ≤ Tryd.prog.bytesOf 37 := by decide +kernel
theorem list6 {α : Type} : ∀ l : List α, l.length = 6 → ∃ a0 a1 a2 a3 a4 a5, l = [a0, a1, a2, a3, a4, a5]
  | [a0, a1, a2, a3, a4, a5], _ => ⟨a0, a1, a2, a3, a4, a5, rfl⟩
instance : Inhabited Rw := ⟨⟨0, 0, 0, 0, 0, 0⟩⟩
/-- How raw numbers lie. -/
def RwAt (W : World) (b o : Nat) (y : Rw) : Prop := y.ok ∧ W.cell? ⟨b, o, none⟩ = some (.int .i64 y.t) ∧ W.cell? ⟨b, o + 1, none⟩ = some (.int .i64 y.c) ∧ W.cell? ⟨b, o + 2, none⟩ = some (.int .i64 y.k) ∧ W.cell? ⟨b, o + 3, none⟩ = some (.int .i64 y.p) ∧ W.cell? ⟨b, o + 4, none⟩ = some (.int .i64 y.a) ∧ W.cell? ⟨b, o + 5, none⟩ = some (.int .i64 y.b)
theorem rw_in (fuel : Nat) (cs : List Value) (d : DataW H) (p : List MemPlace) (hf : DataW.trod enc Tryd.prog W 0 (fun _ => true) true fuel 37 cs = some (d, p)) (hc : cs.length = 6) : ∃ y, ∀ b o, (∀ j v, cs[j]? = some v → W.cell? ⟨b, o + j, none⟩ = some v) → RwAt W b o y := by
  obtain ⟨xs, n, _, hx, hl, hlen, hfi⟩ := DataW.trod_struct Tryd.underlying37 hf
  obtain ⟨c0, c1, c2, c3, c4, c5, rfl⟩ := list6 cs hc
  obtain ⟨y0, y1, y2, y3, y4, y5, rfl⟩ := list6 xs hlen
  have f0 := hfi 0 _ rfl
  have f1 := hfi 1 _ rfl
  have f2 := hfi 2 _ rfl
  have f3 := hfi 3 _ rfl
  have f4 := hfi 4 _ rfl
  have f5 := hfi 5 _ rfl
  simp [cells_3] at f0 f1 f2 f3 f4 f5
  obtain ⟨a0, e0, _, o0⟩ := DataW.trod_int Tryd.underlying3 f0
  obtain ⟨a1, e1, _, o1⟩ := DataW.trod_int Tryd.underlying3 f1
  obtain ⟨a2, e2, _, o2⟩ := DataW.trod_int Tryd.underlying3 f2
  obtain ⟨a3, e3, _, o3⟩ := DataW.trod_int Tryd.underlying3 f3
  obtain ⟨a4, e4, _, o4⟩ := DataW.trod_int Tryd.underlying3 f4
  obtain ⟨a5, e5, _, o5⟩ := DataW.trod_int Tryd.underlying3 f5
  simp at e0 e1 e2 e3 e4 e5
  subst e0 e1 e2 e3 e4 e5
  exact ⟨⟨a0, a1, a2, a3, a4, a5⟩, fun b o h => ⟨⟨wf_i64c o0, wf_i64c o1, wf_i64c o2, wf_i64c o3, wf_i64c o4, wf_i64c o5⟩, h 0 _ rfl, h 1 _ rfl, h 2 _ rfl, h 3 _ rfl, h 4 _ rfl, h 5 _ rfl⟩⟩
theorem nu_in (fuel : Nat) (cs : List Value) (d : DataW H) (p : List MemPlace) (hf : DataW.trod enc Tryd.prog W 0 (fun _ => true) true fuel 3 cs = some (d, p)) (hc : cs.length = 1) : ∃ y, ∀ b o, (∀ j v, cs[j]? = some v → W.cell? ⟨b, o + j, none⟩ = some v) → (i64ok y ∧ W.cell? ⟨b, o, none⟩ = some (.int .i64 y)) := by
  obtain ⟨a, e, _, o⟩ := DataW.trod_int Tryd.underlying3 hf
  subst e
  exact ⟨a, fun b o' h => ⟨wf_i64c o, h 0 _ rfl⟩⟩
theorem raws_in {a : Option Addr} {len cap : Nat} (h : DataW.Trod enc Tryd.prog W 0 (fun _ => true) true 22 (.slice a len cap) d p) (hd : Lt 22 d) : ∃ f, RawI W a len f ∧ len ≤ 140737488355328 := by
  obtain ⟨fuel, hf⟩ := h
  have hf' : DataW.trod enc Tryd.prog W 0 (fun _ => true) true fuel 22 [.slice a len cap] = some (d, p) := hf
  obtain ⟨a', len', cap', e, hl, hr⟩ := list_in 22 37 6 (RwAt W) Tryd.underlying22 cells_37 (by omega) bytes_37 rw_in hf' hd
  simp only [Value.slice.injEq] at e
  obtain ⟨rfl, rfl, rfl⟩ := e
  rcases hr with h0 | ⟨b, o, e, hb, f, hF⟩
  · exact ⟨fun _ => default, ⟨fun i hi => by omega, .inl h0⟩, by omega⟩
  · exact ⟨f, ⟨fun i hi => (hF i hi).1, .inr ⟨b, o, e, hb, fun i hi => (hF i hi).2⟩⟩, by omega⟩
theorem nums_in {a : Option Addr} {len cap : Nat} (h : DataW.Trod enc Tryd.prog W 0 (fun _ => true) true 23 (.slice a len cap) d p) (hd : Lt 23 d) : ∃ f, NuI W a len f ∧ len ≤ 140737488355328 := by
  obtain ⟨fuel, hf⟩ := h
  have hf' : DataW.trod enc Tryd.prog W 0 (fun _ => true) true fuel 23 [.slice a len cap] = some (d, p) := hf
  obtain ⟨a', len', cap', e, hl, hr⟩ := list_in 23 3 1 (fun b o y => i64ok y ∧ W.cell? ⟨b, o, none⟩ = some (.int .i64 y)) Tryd.underlying23 cells_3 (by omega) bytes_3 nu_in hf' hd
  simp only [Value.slice.injEq] at e
  obtain ⟨rfl, rfl, rfl⟩ := e
  rcases hr with h0 | ⟨b, o, e, hb, f, hF⟩
  · exact ⟨fun _ => 0, ⟨fun i hi => by omega, .inl h0⟩, by omega⟩
  · exact ⟨f, ⟨fun i hi => (hF i hi).1, .inr ⟨b, o, e, hb, fun i hi => by have := (hF i hi).2; simpa using this⟩⟩, by omega⟩
end
end Go.Proofs.YtfmiicbaooaheaaDoor
