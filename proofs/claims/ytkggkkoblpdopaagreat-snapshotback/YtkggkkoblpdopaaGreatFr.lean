import Derived.Test.YtkggkkoblpdopaaGreatYi
import Derived.Deep.Slices
import Derived.ShutString
import Derived.ChangeOld
import Derived.SizedLaws
import Derived.OpenShut
namespace Go.Proofs.YtkggkkoblpdopaaGreat
open Go.ChangeShapes Go.WideShapes Go.ChangeAt Go.RowKit Go.Deep
set_option linter.unusedVariables false
theorem ch_lt {α : Type} {n : Nat} {P : Nat → α → Prop} (h : ∀ i, i < n → ∃ v, P i v) : ∃ l : List α, l.length = n ∧ ∀ i (hi : i < l.length), P i l[i] := by
 classical
 refine ⟨List.ofFn (n := n) fun i => Classical.choose (h i.1 i.2), by simp, fun i hi => ?_⟩
 simp only [List.getElem_ofFn]
 exact Classical.choose_spec (h i (by simpa using hi))
def Lt {H : Type} (T : Nat) (d : DataW H) : Prop := ∀ x, x ∈ d.weights Tryz.prog T → x ≤ 140737488351232
theorem weightsAll_mem {H : Type} {P : Program} {e : TypeId} {d : DataW H} {x : Nat} (hx : x ∈ d.weights P e) : ∀ {l : List (DataW H)}, d ∈ l → x ∈ DataW.weightsAll P e l
 | a :: l, h => by
  simp only [DataW.weightsAll, List.mem_append]
  rcases List.mem_cons.1 h with rfl | h
  ·exact .inl hx
  ·exact .inr (weightsAll_mem hx h)
theorem cell_lt {W : World} {b o : Nat} {v : Value} (h : W.cell? ⟨b, o, none⟩ = some v) : b < W.heap.size := by
 have := World.block_lt_of_cell? W _ h
 exact this
section
variable {H : Type} {enc : TypeId × Value → H} {W : World} {fuel : Nat} {cs : List Value} {d : DataW H} {p : List MemPlace}
theorem Lt.field {T : Nat} {fs : Array Field} {xs : List (DataW H × List MemPlace)} (hT : Tryz.prog.underlying T = some (.struct fs)) (h : Lt T (.agg (xs.map (·.1)) : DataW H)) {j : Nat} {f : Field} {y : DataW H × List MemPlace} (hf : fs[j]? = some f) (hy : xs[j]? = some y) : Lt f.type y.1 := fun x hx => by
 refine h x ?_
 simp only [DataW.weights, hT]
 exact DataW.weights_mem_each (j := j) (by simp [hf]) (by simp [hy]) x hx
theorem list_in {α : Type} (T E k : Nat) (P : World → Nat → Nat → α → Prop) (hT : Tryz.prog.underlying T = some (.slice E)) (hk : Tryz.prog.cellsOf E = k) (hk0 : 0 < k) (hby : 1 ≤ Tryz.prog.bytesOf E)
  (hel : ∀ fuel cs (d : DataW H) p, DataW.trod enc Tryz.prog W 0 (fun _ => true) true fuel E cs = some (d, p) → cs.length = k → Lt E d → ∃ y, ∀ b o, At W b o cs → P W b o y)
  {c : Value} (hf : DataW.trod enc Tryz.prog W 0 (fun _ => true) true fuel T [c] = some (d, p)) (hd : Lt T d) :
  ∃ a xs cap, c = .slice a (List.length xs) cap ∧ RdL W W.heap.size k P a xs := by
 rcases open_slice hT hf with ⟨hcs, hx⟩ | ⟨x, len, cap, m, n, D, Pl, hcs, _, hl, hm, hmm, hx, hel'⟩
 ·simp at hcs
  exact ⟨none, [], 0, hcs, by simp, .inl rfl⟩
 ·simp at hcs
  subst hcs
  simp only [if_true] at hmm
  subst hmm
  simp only [Prod.mk.injEq] at hx
  obtain ⟨hd', _⟩ := hx
  subst hd'
  have hlen : len ≤ 140737488351232 := by
   have h1 := hd ((((List.range len).map D).length + ((List.range (m - len)).map fun j => D (len + j)).length) * Tryz.prog.bytesOf E) (by simp [DataW.weights, hT])
   simp only [List.length_map, List.length_range] at h1
   have h2 : (len + (m - len)) * 1 ≤ (len + (m - len)) * Tryz.prog.bytesOf E := Nat.mul_le_mul_left _ hby
   omega
  have hdi : ∀ i, i < len → Lt E (D i) := fun i hi y hy => by
   refine hd y ?_
   simp only [DataW.weights, hT, List.mem_cons, List.mem_append]
   exact .inr (.inl (weightsAll_mem hy (List.mem_map.2 ⟨i, by simpa using hi, rfl⟩)))
  by_cases h0 : len = 0
  ·subst h0
   exact ⟨some x, [], m, rfl, by simp, .inl rfl⟩
  ·obtain ⟨b, off, spot⟩ := x
   have hspot : spot = none ∧ b < W.heap.size := by
    obtain ⟨cs', hc, _⟩ := hel' 0 (by omega)
    obtain ⟨_, hlen', hcell⟩ := World.cells?_some hc
    have h1 := hcell 0 (by rw [hk]; exact hk0)
    have h2 : (0 : Nat) < cs'.length := by rw [hlen', hk]; exact hk0
    rw [List.getElem?_eq_getElem h2] at h1
    have h3 : spot = none := by simpa [Addr.add] using World.cell?_spot h1
    subst h3
    rw [Addr.add_lit, Addr.add_lit] at h1
    exact ⟨rfl, cell_lt h1⟩
   obtain ⟨rfl, hb⟩ := hspot
   have hv : ∀ i, i < len → ∃ y, P W b (off + i * k) y := fun i hi => by
    obtain ⟨cs', hc, ht'⟩ := hel' i (by omega)
    rw [hk] at hc
    obtain ⟨_, hlen', hcell⟩ := World.cells?_some hc
    obtain ⟨y, hy⟩ := hel n cs' _ _ ht' hlen' (hdi i hi)
    refine ⟨y, hy _ _ fun j v hv => ?_⟩
    have hj : j < k := by rw [← hlen']; exact (List.getElem?_eq_some_iff.1 hv).1
    have := hcell j hj
    rw [Addr.add_lit, Addr.add_lit] at this
    rw [this, hv]
   obtain ⟨l, hl', hP⟩ := ch_lt hv
   exact ⟨_, l, m, by rw [hl'], by omega, .inr ⟨b, off, rfl, hb, hP⟩⟩
theorem cells_3 : Tryz.prog.cellsOf 3 = 1 := by kernel_rfl
theorem cells_4 : Tryz.prog.cellsOf 4 = 1 := by kernel_rfl
theorem cells_5 : Tryz.prog.cellsOf 5 = 1 := by kernel_rfl
theorem cells_22 : Tryz.prog.cellsOf 22 = 1 := by kernel_rfl
theorem cells_23 : Tryz.prog.cellsOf 23 = 1 := by kernel_rfl
theorem cells_24 : Tryz.prog.cellsOf 24 = 1 := by kernel_rfl
theorem cells_25 : Tryz.prog.cellsOf 25 = 1 := by kernel_rfl
theorem cells_26 : Tryz.prog.cellsOf 26 = 1 := by kernel_rfl
theorem cells_27 : Tryz.prog.cellsOf 27 = 1 := by kernel_rfl
theorem cells_28 : Tryz.prog.cellsOf 28 = 32 := by kernel_rfl
theorem cells_29 : Tryz.prog.cellsOf 29 = 1 := by kernel_rfl
theorem cells_31 : Tryz.prog.cellsOf 31 = 34 := by kernel_rfl
theorem cells_32 : Tryz.prog.cellsOf 32 = 1 := by kernel_rfl
theorem cells_33 : Tryz.prog.cellsOf 33 = 1 := by kernel_rfl
theorem cells_34 : Tryz.prog.cellsOf 34 = 1 := by kernel_rfl
theorem cells_36 : Tryz.prog.cellsOf 36 = 44 := by kernel_rfl
theorem cells_58 : Tryz.prog.cellsOf 58 = 16 := by kernel_rfl
theorem cells_60 : Tryz.prog.cellsOf 60 = 21 := by kernel_rfl
theorem cells_62 : Tryz.prog.cellsOf 62 = 22 := by kernel_rfl
theorem cells_64 : Tryz.prog.cellsOf 64 = 2 := by kernel_rfl
theorem cells_65 : Tryz.prog.cellsOf 65 = 1 := by kernel_rfl
theorem cells_67 : Tryz.prog.cellsOf 67 = 5 := by kernel_rfl
theorem cells_69 : Tryz.prog.cellsOf 69 = 7 := by kernel_rfl
theorem cells_103 : Tryz.prog.cellsOf 103 = 2 := by kernel_rfl
theorem cells_105 : Tryz.prog.cellsOf 105 = 3 := by kernel_rfl
theorem cells_107 : Tryz.prog.cellsOf 107 = 2 := by kernel_rfl
theorem cells_108 : Tryz.prog.cellsOf 108 = 1 := by kernel_rfl
theorem cells_110 : Tryz.prog.cellsOf 110 = 2 := by kernel_rfl
theorem cells_112 : Tryz.prog.cellsOf 112 = 4 := by kernel_rfl
theorem cells_114 : Tryz.prog.cellsOf 114 = 6 := by kernel_rfl
theorem cells_117 : Tryz.prog.cellsOf 117 = 2 := by kernel_rfl
theorem bytes_5 : 1 ≤ Tryz.prog.bytesOf 5 := by decide +kernel
theorem bytes_64 : 1 ≤ Tryz.prog.bytesOf 64 := by decide +kernel
theorem bytes_103 : 1 ≤ Tryz.prog.bytesOf 103 := by decide +kernel
theorem bytes_62 : 1 ≤ Tryz.prog.bytesOf 62 := by decide +kernel
theorem bytes_105 : 1 ≤ Tryz.prog.bytesOf 105 := by decide +kernel
theorem bytes_112 : 1 ≤ Tryz.prog.bytesOf 112 := by decide +kernel
theorem bytes_114 : 1 ≤ Tryz.prog.bytesOf 114 := by decide +kernel
theorem bytes_69 : 1 ≤ Tryz.prog.bytesOf 69 := by decide +kernel
theorem bytes_117 : 1 ≤ Tryz.prog.bytesOf 117 := by decide +kernel
theorem cut {cs : List Value} {o k : Nat} {X Y : List Value} (h : (cs.drop o).take k = X) (h2 : cs.drop (o + k) = Y) : cs.drop o = X ++ Y := by
 rw [← h, ← h2, ← List.drop_drop, List.take_append_drop]
theorem one_at {cs : List Value} {o : Nat} (h : o < cs.length) : ∃ c, (cs.drop o).take 1 = [c] := by
 obtain ⟨c, hc⟩ := List.length_eq_one_iff.1 (show ((cs.drop o).take 1).length = 1 by simp; omega)
 exact ⟨c, hc⟩
theorem At.sub {b o : Nat} {cs : List Value} (h : At W b o cs) (j k : Nat) : At W b (o + j) ((cs.drop j).take k) := fun i u hu => by
 rw [Nat.add_assoc]
 refine h _ _ ?_
 rw [List.getElem?_take] at hu
 split at hu
 ·rw [List.getElem?_drop] at hu; exact hu
 ·cases hu
theorem xs2 {α : Type} : ∀ l : List α, l.length = 2 → ∃ a0 a1, l = [a0, a1]
 | [a0, a1], _ => ⟨a0, a1, rfl⟩
theorem xs3 {α : Type} : ∀ l : List α, l.length = 3 → ∃ a0 a1 a2, l = [a0, a1, a2]
 | [a0, a1, a2], _ => ⟨a0, a1, a2, rfl⟩
theorem xs4 {α : Type} : ∀ l : List α, l.length = 4 → ∃ a0 a1 a2 a3, l = [a0, a1, a2, a3]
 | [a0, a1, a2, a3], _ => ⟨a0, a1, a2, a3, rfl⟩
theorem xs5 {α : Type} : ∀ l : List α, l.length = 5 → ∃ a0 a1 a2 a3 a4, l = [a0, a1, a2, a3, a4]
 | [a0, a1, a2, a3, a4], _ => ⟨a0, a1, a2, a3, a4, rfl⟩
theorem xs6 {α : Type} : ∀ l : List α, l.length = 6 → ∃ a0 a1 a2 a3 a4 a5, l = [a0, a1, a2, a3, a4, a5]
 | [a0, a1, a2, a3, a4, a5], _ => ⟨a0, a1, a2, a3, a4, a5, rfl⟩
theorem xs11 {α : Type} : ∀ l : List α, l.length = 11 → ∃ a0 a1 a2 a3 a4 a5 a6 a7 a8 a9 a10, l = [a0, a1, a2, a3, a4, a5, a6, a7, a8, a9, a10]
 | [a0, a1, a2, a3, a4, a5, a6, a7, a8, a9, a10], _ => ⟨a0, a1, a2, a3, a4, a5, a6, a7, a8, a9, a10, rfl⟩
theorem wf_u8c {n : Int} (h : (Lit.int .u8 n).wf = true) : 0 ≤ n ∧ n < 256 := by
 have : 0 ≤ n ∧ n ≤ 255 := by simpa [Lit.wf, IntKind.min, IntKind.max, IntKind.signed, IntKind.bits] using h
 omega
theorem wf_u32c {n : Int} (h : (Lit.int .u32 n).wf = true) : 0 ≤ n ∧ n < 4294967296 := by
 have : 0 ≤ n ∧ n ≤ 4294967295 := by simpa [Lit.wf, IntKind.min, IntKind.max, IntKind.signed, IntKind.bits] using h
 omega
theorem wf_u64c {n : Int} (h : (Lit.int .u64 n).wf = true) : 0 ≤ n ∧ n < 18446744073709551616 := by
 have : 0 ≤ n ∧ n ≤ 18446744073709551615 := by simpa [Lit.wf, IntKind.min, IntKind.max, IntKind.signed, IntKind.bits] using h
 omega
theorem wf_i64c {n : Int} (h : (Lit.int .i64 n).wf = true) : -9223372036854775808 ≤ n ∧ n ≤ 9223372036854775807 := by
 simpa [Lit.wf, IntKind.min, IntKind.max, IntKind.signed, IntKind.bits] using h
def BtAt (w : World) (b o : Nat) (x : Int) : Prop := w.cell? ⟨b, o, none⟩ = some (.int .u8 x) ∧ 0 ≤ x ∧ x ≤ 255
theorem bt_in (fuel : Nat) (cs : List Value) (d : DataW H) (p : List MemPlace) (hf : DataW.trod enc Tryz.prog W 0 (fun _ => true) true fuel 5 cs = some (d, p)) (hc : cs.length = 1) (hd : Lt 5 d) : ∃ y, ∀ b o, At W b o cs → BtAt W b o y := by
 obtain ⟨a, e, _, o⟩ := DataW.trod_int Tryz.underlying5 hf
 subst e
 have := wf_u8c o
 exact ⟨a, fun b o' h => ⟨h 0 _ rfl, this.1, by omega⟩⟩
theorem RdL.byt {N : Nat} {la : Option Addr} {xs : List Int} (h : RdL W N 1 BtAt la xs) : RdB W N la xs := by
 obtain ⟨h1, h2⟩ := h
 rcases h2 with h2 | ⟨b, o, e, hb, hc⟩
 ·exact ⟨⟨rfl, h1, fun n hn => by simp [List.length_eq_zero_iff.1 h2] at hn, .inl h2⟩, fun _ _ _ h0 => by omega⟩
 ·refine ⟨⟨rfl, h1, fun n hn => ?_, .inr ⟨b, o, e, fun i hi => ?_⟩⟩, fun k q e2 _ => by rw [e] at e2; cases e2; exact hb⟩
  ·obtain ⟨i, hi, rfl⟩ := List.getElem_of_mem hn
   exact (hc i hi).2
  ·have := (hc i hi).1
   simpa [List.getD, hi] using this
theorem list_at {α : Type} (T E k : Nat) (P : World → Nat → Nat → α → Prop) (hT : Tryz.prog.underlying T = some (.slice E)) (hk : Tryz.prog.cellsOf E = k) (hk0 : 0 < k) (hby : 1 ≤ Tryz.prog.bytesOf E)
  (hel : ∀ fuel cs (d : DataW H) p, DataW.trod enc Tryz.prog W 0 (fun _ => true) true fuel E cs = some (d, p) → cs.length = k → Lt E d → ∃ y, ∀ b o, At W b o cs → P W b o y)
  {o : Nat} (ho : o < cs.length) (hf : DataW.trod enc Tryz.prog W 0 (fun _ => true) true fuel T ((cs.drop o).take 1) = some (d, p)) (hd : Lt T d) :
  ∃ a xs cap, (cs.drop o).take 1 = [.slice a (List.length xs) cap] ∧ RdL W W.heap.size k P a xs := by
 obtain ⟨c, hc⟩ := one_at ho
 rw [hc] at hf
 obtain ⟨a, xs, cap, rfl, h⟩ := list_in T E k P hT hk hk0 hby hel hf hd
 exact ⟨a, xs, cap, hc, h⟩
theorem bytes_at {o : Nat} (ho : o < cs.length) (hf : DataW.trod enc Tryz.prog W 0 (fun _ => true) true fuel 22 ((cs.drop o).take 1) = some (d, p)) (hd : Lt 22 d) :
  ∃ a xs cap, (cs.drop o).take 1 = [.slice a (List.length xs) cap] ∧ RdB W W.heap.size a xs := by
 obtain ⟨a, xs, cap, h1, h2⟩ := list_at 22 5 1 BtAt Tryz.underlying22 cells_5 (by omega) bytes_5 bt_in ho hf hd
 exact ⟨a, xs, cap, h1, h2.byt⟩
theorem ints_at {t e n : Nat} {k : IntKind} {x : DataW H × List MemPlace} (ht : Tryz.prog.underlying t = some (.array n e)) (he : Tryz.prog.underlying e = some (.int k)) (hce : Tryz.prog.cellsOf e = 1) (hct : Tryz.prog.cellsOf t = n)
  (hf : DataW.trod enc Tryz.prog W 0 (fun _ => true) true fuel t cs = some x) : ∃ l : List Int, l.length = n ∧ cs = l.map (.int k) ∧ ∀ a, a ∈ l → (Lit.int k a).wf = true := by
 obtain ⟨xs, m, _, _, hl, hlen, hfi⟩ := DataW.trod_array ht hf
 rw [hct] at hl
 obtain ⟨l, h1, h2⟩ := ch_lt (n := n) (P := fun i (a : Int) => cs[i]? = some (.int k a) ∧ (Lit.int k a).wf = true) fun i hi => by
  have := hfi i hi
  rw [hce, Nat.mul_one, List.getElem?_eq_getElem (by omega)] at this
  obtain ⟨a, e, _, w⟩ := DataW.trod_int he this
  refine ⟨a, ?_, w⟩
  have h0 := congrArg (fun l : List Value => l[0]?) e
  simp only [List.getElem?_take, List.getElem?_drop] at h0
  simpa using h0
 refine ⟨l, h1, List.ext_getElem? fun i => ?_, fun a ha => ?_⟩
 ·by_cases hi : i < n
  ·rw [(h2 i (by omega)).1]; simp [h1, hi]
  ·rw [List.getElem?_eq_none (by omega), List.getElem?_eq_none (by simp; omega)]
 ·obtain ⟨i, hi, rfl⟩ := List.getElem_of_mem ha
  exact (h2 i hi).2
theorem mg_in (fuel : Nat) (cs : List Value) (d : DataW H) (p : List MemPlace) (hf : DataW.trod enc Tryz.prog W 0 (fun _ => true) true fuel 64 cs = some (d, p)) (hc : cs.length = 2) (hd : Lt 64 d) : ∃ y, ∀ b o, At W b o cs → MgAt W.heap.size W b o y := by
 obtain ⟨xs, n, _, hx, hl, hlen, hfi⟩ := DataW.trod_struct Tryz.underlying64 hf
 rw [cells_64] at hl
 obtain ⟨y0, y1, rfl⟩ := xs2 xs hlen
 simp only [Prod.mk.injEq] at hx
 obtain ⟨rfl, rfl⟩ := hx
 have f0 : DataW.trod enc Tryz.prog W 0 (fun _ => true) true n 22 ((cs.drop 0).take (Tryz.prog.cellsOf 22)) = some y0 := hfi 0 _ rfl
 rw [cells_22] at f0
 have k0 := Lt.field Tryz.underlying64 hd (j := 0) rfl rfl
 have f1 : DataW.trod enc Tryz.prog W 0 (fun _ => true) true n 23 ((cs.drop 1).take (Tryz.prog.cellsOf 23)) = some y1 := hfi 1 _ rfl
 rw [cells_23] at f1
 obtain ⟨b0, a0, m0, e0, h0⟩ := bytes_at (d := y0.1) (p := y0.2) (by omega) f0 k0
 obtain ⟨a1, e1, _, o1⟩ := DataW.trod_int Tryz.underlying23 f1
 have z2 : cs.drop 2 = [] := List.drop_eq_nil_of_le (by omega)
 have z1 := cut (o := 1) (k := 1) e1 z2
 have z0 := cut (o := 0) (k := 1) e0 z1
 rw [List.drop_zero] at z0
 subst z0
 exact ⟨⟨a0, a1⟩, fun b o h => ⟨wf_u64c o1, b0, m0, h, h0⟩⟩
theorem pg_in (fuel : Nat) (cs : List Value) (d : DataW H) (p : List MemPlace) (hf : DataW.trod enc Tryz.prog W 0 (fun _ => true) true fuel 103 cs = some (d, p)) (hc : cs.length = 2) (hd : Lt 103 d) : ∃ y, ∀ b o, At W b o cs → PgAt W.heap.size W b o y := by
 obtain ⟨xs, n, _, hx, hl, hlen, hfi⟩ := DataW.trod_struct Tryz.underlying103 hf
 rw [cells_103] at hl
 obtain ⟨y0, y1, rfl⟩ := xs2 xs hlen
 simp only [Prod.mk.injEq] at hx
 obtain ⟨rfl, rfl⟩ := hx
 have f0 : DataW.trod enc Tryz.prog W 0 (fun _ => true) true n 29 ((cs.drop 0).take (Tryz.prog.cellsOf 29)) = some y0 := hfi 0 _ rfl
 rw [cells_29] at f0
 have f1 : DataW.trod enc Tryz.prog W 0 (fun _ => true) true n 22 ((cs.drop 1).take (Tryz.prog.cellsOf 22)) = some y1 := hfi 1 _ rfl
 rw [cells_22] at f1
 have k1 := Lt.field Tryz.underlying103 hd (j := 1) rfl rfl
 obtain ⟨a0, e0, _, o0⟩ := DataW.trod_int Tryz.underlying29 f0
 obtain ⟨b1, a1, m1, e1, h1⟩ := bytes_at (d := y1.1) (p := y1.2) (by omega) f1 k1
 have z2 : cs.drop 2 = [] := List.drop_eq_nil_of_le (by omega)
 have z1 := cut (o := 1) (k := 1) e1 z2
 have z0 := cut (o := 0) (k := 1) e0 z1
 rw [List.drop_zero] at z0
 subst z0
 exact ⟨⟨a0, a1⟩, fun b o h => ⟨wf_u32c o0, b1, m1, h, h1⟩⟩
theorem lne_in (fuel : Nat) (cs : List Value) (d : DataW H) (p : List MemPlace) (hf : DataW.trod enc Tryz.prog W 0 (fun _ => true) true fuel 105 cs = some (d, p)) (hc : cs.length = 3) (hd : Lt 105 d) : ∃ y, ∀ b o, At W b o cs → LneAt W b o y := by
 obtain ⟨xs, n, _, hx, hl, hlen, hfi⟩ := DataW.trod_struct Tryz.underlying105 hf
 rw [cells_105] at hl
 obtain ⟨y0, y1, y2, rfl⟩ := xs3 xs hlen
 have f0 : DataW.trod enc Tryz.prog W 0 (fun _ => true) true n 29 ((cs.drop 0).take (Tryz.prog.cellsOf 29)) = some y0 := hfi 0 _ rfl
 rw [cells_29] at f0
 have f1 : DataW.trod enc Tryz.prog W 0 (fun _ => true) true n 29 ((cs.drop 1).take (Tryz.prog.cellsOf 29)) = some y1 := hfi 1 _ rfl
 rw [cells_29] at f1
 have f2 : DataW.trod enc Tryz.prog W 0 (fun _ => true) true n 4 ((cs.drop 2).take (Tryz.prog.cellsOf 4)) = some y2 := hfi 2 _ rfl
 rw [cells_4] at f2
 obtain ⟨a0, e0, _, o0⟩ := DataW.trod_int Tryz.underlying29 f0
 obtain ⟨a1, e1, _, o1⟩ := DataW.trod_int Tryz.underlying29 f1
 obtain ⟨a2, e2, _⟩ := DataW.trod_bool Tryz.underlying4 f2
 have z3 : cs.drop 3 = [] := List.drop_eq_nil_of_le (by omega)
 have z2 := cut (o := 2) (k := 1) e2 z3
 have z1 := cut (o := 1) (k := 1) e1 z2
 have z0 := cut (o := 0) (k := 1) e0 z1
 rw [List.drop_zero] at z0
 subst z0
 exact ⟨⟨a0, a1, a2⟩, fun b o h => ⟨h, ⟨wf_u32c o0, wf_u32c o1⟩⟩⟩
theorem arr_in (fuel : Nat) (cs : List Value) (d : DataW H) (p : List MemPlace) (hf : DataW.trod enc Tryz.prog W 0 (fun _ => true) true fuel 117 cs = some (d, p)) (hc : cs.length = 2) (hd : Lt 117 d) : ∃ y, ∀ b o, At W b o cs → ArrAt W b o y := by
 obtain ⟨xs, n, _, hx, hl, hlen, hfi⟩ := DataW.trod_struct Tryz.underlying117 hf
 rw [cells_117] at hl
 obtain ⟨y0, y1, rfl⟩ := xs2 xs hlen
 have f0 : DataW.trod enc Tryz.prog W 0 (fun _ => true) true n 23 ((cs.drop 0).take (Tryz.prog.cellsOf 23)) = some y0 := hfi 0 _ rfl
 rw [cells_23] at f0
 have f1 : DataW.trod enc Tryz.prog W 0 (fun _ => true) true n 3 ((cs.drop 1).take (Tryz.prog.cellsOf 3)) = some y1 := hfi 1 _ rfl
 rw [cells_3] at f1
 obtain ⟨a0, e0, _, o0⟩ := DataW.trod_int Tryz.underlying23 f0
 obtain ⟨a1, e1, _, o1⟩ := DataW.trod_int Tryz.underlying3 f1
 have z2 : cs.drop 2 = [] := List.drop_eq_nil_of_le (by omega)
 have z1 := cut (o := 1) (k := 1) e1 z2
 have z0 := cut (o := 0) (k := 1) e0 z1
 rw [List.drop_zero] at z0
 subst z0
 exact ⟨⟨a0, a1⟩, fun b o h => ⟨h, ⟨wf_u64c o0, wf_i64c o1⟩⟩⟩
theorem tag_in {x : DataW H × List MemPlace} (hf : DataW.trod enc Tryz.prog W 0 (fun _ => true) true fuel 107 cs = some x) : ∃ a b, cs = [.int .i64 a, .int .u32 b] ∧ i64ok a ∧ u32ok b := by
 obtain ⟨xs, n, _, hx, hl, hlen, hfi⟩ := DataW.trod_struct Tryz.underlying107 hf
 rw [cells_107] at hl
 obtain ⟨y0, y1, rfl⟩ := xs2 xs hlen
 have f0 : DataW.trod enc Tryz.prog W 0 (fun _ => true) true n 3 ((cs.drop 0).take (Tryz.prog.cellsOf 3)) = some y0 := hfi 0 _ rfl
 rw [cells_3] at f0
 have f1 : DataW.trod enc Tryz.prog W 0 (fun _ => true) true n 29 ((cs.drop 1).take (Tryz.prog.cellsOf 29)) = some y1 := hfi 1 _ rfl
 rw [cells_29] at f1
 obtain ⟨a0, e0, _, o0⟩ := DataW.trod_int Tryz.underlying3 f0
 obtain ⟨a1, e1, _, o1⟩ := DataW.trod_int Tryz.underlying29 f1
 have z2 : cs.drop 2 = [] := List.drop_eq_nil_of_le (by omega)
 have z1 := cut (o := 1) (k := 1) e1 z2
 have z0 := cut (o := 0) (k := 1) e0 z1
 rw [List.drop_zero] at z0
 exact ⟨a0, a1, z0, wf_i64c o0, wf_u32c o1⟩
theorem map_in {x : DataW H × List MemPlace} (hf : DataW.trod enc Tryz.prog W 0 (fun _ => true) true fuel 110 cs = some x) : ∃ a b, cs = [.int .u32 a, .int .u8 b] ∧ u32ok a ∧ u8ok b := by
 obtain ⟨xs, n, _, hx, hl, hlen, hfi⟩ := DataW.trod_struct Tryz.underlying110 hf
 rw [cells_110] at hl
 obtain ⟨y0, y1, rfl⟩ := xs2 xs hlen
 have f0 : DataW.trod enc Tryz.prog W 0 (fun _ => true) true n 29 ((cs.drop 0).take (Tryz.prog.cellsOf 29)) = some y0 := hfi 0 _ rfl
 rw [cells_29] at f0
 have f1 : DataW.trod enc Tryz.prog W 0 (fun _ => true) true n 108 ((cs.drop 1).take (Tryz.prog.cellsOf 108)) = some y1 := hfi 1 _ rfl
 rw [cells_108] at f1
 obtain ⟨a0, e0, _, o0⟩ := DataW.trod_int Tryz.underlying29 f0
 obtain ⟨a1, e1, _, o1⟩ := DataW.trod_int Tryz.underlying108 f1
 have z2 : cs.drop 2 = [] := List.drop_eq_nil_of_le (by omega)
 have z1 := cut (o := 1) (k := 1) e1 z2
 have z0 := cut (o := 0) (k := 1) e0 z1
 rw [List.drop_zero] at z0
 exact ⟨a0, a1, z0, wf_u32c o0, wf_u8c o1⟩
theorem slt_in (fuel : Nat) (cs : List Value) (d : DataW H) (p : List MemPlace) (hf : DataW.trod enc Tryz.prog W 0 (fun _ => true) true fuel 112 cs = some (d, p)) (hc : cs.length = 4) (hd : Lt 112 d) : ∃ y, ∀ b o, At W b o cs → SltAt W b o y := by
 obtain ⟨xs, n, _, hx, hl, hlen, hfi⟩ := DataW.trod_struct Tryz.underlying112 hf
 rw [cells_112] at hl
 obtain ⟨y0, y1, rfl⟩ := xs2 xs hlen
 have f0 : DataW.trod enc Tryz.prog W 0 (fun _ => true) true n 107 ((cs.drop 0).take (Tryz.prog.cellsOf 107)) = some y0 := hfi 0 _ rfl
 rw [cells_107] at f0
 have f1 : DataW.trod enc Tryz.prog W 0 (fun _ => true) true n 110 ((cs.drop 2).take (Tryz.prog.cellsOf 110)) = some y1 := hfi 1 _ rfl
 rw [cells_110] at f1
 obtain ⟨a0, a1, e0, o0, o1⟩ := tag_in f0
 obtain ⟨a2, a3, e1, o2, o3⟩ := map_in f1
 have z2 : cs.drop 4 = [] := List.drop_eq_nil_of_le (by omega)
 have z1 := cut (o := 2) (k := 2) e1 z2
 have z0 := cut (o := 0) (k := 2) e0 z1
 rw [List.drop_zero] at z0
 subst z0
 exact ⟨⟨a0, a1, a2, a3⟩, fun b o h => ⟨h, ⟨o0, o1, o2, o3⟩⟩⟩
theorem spl_in (fuel : Nat) (cs : List Value) (d : DataW H) (p : List MemPlace) (hf : DataW.trod enc Tryz.prog W 0 (fun _ => true) true fuel 114 cs = some (d, p)) (hc : cs.length = 6) (hd : Lt 114 d) : ∃ y, ∀ b o, At W b o cs → SplAt W.heap.size W b o y := by
 obtain ⟨xs, n, _, hx, hl, hlen, hfi⟩ := DataW.trod_struct Tryz.underlying114 hf
 rw [cells_114] at hl
 obtain ⟨y0, y1, y2, y3, rfl⟩ := xs4 xs hlen
 simp only [Prod.mk.injEq] at hx
 obtain ⟨rfl, rfl⟩ := hx
 have f0 : DataW.trod enc Tryz.prog W 0 (fun _ => true) true n 4 ((cs.drop 0).take (Tryz.prog.cellsOf 4)) = some y0 := hfi 0 _ rfl
 rw [cells_4] at f0
 have f1 : DataW.trod enc Tryz.prog W 0 (fun _ => true) true n 4 ((cs.drop 1).take (Tryz.prog.cellsOf 4)) = some y1 := hfi 1 _ rfl
 rw [cells_4] at f1
 have f2 : DataW.trod enc Tryz.prog W 0 (fun _ => true) true n 64 ((cs.drop 2).take (Tryz.prog.cellsOf 64)) = some y2 := hfi 2 _ rfl
 rw [cells_64] at f2
 have k2 := Lt.field Tryz.underlying114 hd (j := 2) rfl rfl
 have f3 : DataW.trod enc Tryz.prog W 0 (fun _ => true) true n 64 ((cs.drop 4).take (Tryz.prog.cellsOf 64)) = some y3 := hfi 3 _ rfl
 rw [cells_64] at f3
 have k3 := Lt.field Tryz.underlying114 hd (j := 3) rfl rfl
 obtain ⟨a0, e0, _⟩ := DataW.trod_bool Tryz.underlying4 f0
 obtain ⟨a1, e1, _⟩ := DataW.trod_bool Tryz.underlying4 f1
 obtain ⟨m2, h2⟩ := mg_in _ _ y2.1 y2.2 f2 (by simp; omega) k2
 obtain ⟨m3, h3⟩ := mg_in _ _ y3.1 y3.2 f3 (by simp; omega) k3
 refine ⟨⟨a0, a1, m2, m3⟩, fun b o h => ⟨?_, h2 _ _ (h.sub 2 2), h3 _ _ (h.sub 4 2)⟩⟩
 have z1 := h.sub 0 1
 have z2 := h.sub 1 1
 rw [e0] at z1
 rw [e1] at z2
 intro i u hu
 match i, hu with
 | 0, hu => exact z1 0 u hu
 | 1, hu => exact z2 0 u hu
theorem sta_in {x : DataW H × List MemPlace} (hf : DataW.trod enc Tryz.prog W 0 (fun _ => true) true fuel 67 cs = some x) : ∃ a b c d e, cs = [.int .i64 a, .int .i64 b, .int .i64 c, .int .i64 d, .int .i64 e] ∧ i64ok a ∧ i64ok b ∧ i64ok c ∧ i64ok d ∧ i64ok e := by
 obtain ⟨xs, n, _, hx, hl, hlen, hfi⟩ := DataW.trod_struct Tryz.underlying67 hf
 rw [cells_67] at hl
 obtain ⟨y0, y1, y2, y3, y4, rfl⟩ := xs5 xs hlen
 have f0 : DataW.trod enc Tryz.prog W 0 (fun _ => true) true n 3 ((cs.drop 0).take (Tryz.prog.cellsOf 3)) = some y0 := hfi 0 _ rfl
 rw [cells_3] at f0
 have f1 : DataW.trod enc Tryz.prog W 0 (fun _ => true) true n 3 ((cs.drop 1).take (Tryz.prog.cellsOf 3)) = some y1 := hfi 1 _ rfl
 rw [cells_3] at f1
 have f2 : DataW.trod enc Tryz.prog W 0 (fun _ => true) true n 3 ((cs.drop 2).take (Tryz.prog.cellsOf 3)) = some y2 := hfi 2 _ rfl
 rw [cells_3] at f2
 have f3 : DataW.trod enc Tryz.prog W 0 (fun _ => true) true n 3 ((cs.drop 3).take (Tryz.prog.cellsOf 3)) = some y3 := hfi 3 _ rfl
 rw [cells_3] at f3
 have f4 : DataW.trod enc Tryz.prog W 0 (fun _ => true) true n 3 ((cs.drop 4).take (Tryz.prog.cellsOf 3)) = some y4 := hfi 4 _ rfl
 rw [cells_3] at f4
 obtain ⟨a0, e0, _, o0⟩ := DataW.trod_int Tryz.underlying3 f0
 obtain ⟨a1, e1, _, o1⟩ := DataW.trod_int Tryz.underlying3 f1
 obtain ⟨a2, e2, _, o2⟩ := DataW.trod_int Tryz.underlying3 f2
 obtain ⟨a3, e3, _, o3⟩ := DataW.trod_int Tryz.underlying3 f3
 obtain ⟨a4, e4, _, o4⟩ := DataW.trod_int Tryz.underlying3 f4
 have z5 : cs.drop 5 = [] := List.drop_eq_nil_of_le (by omega)
 have z4 := cut (o := 4) (k := 1) e4 z5
 have z3 := cut (o := 3) (k := 1) e3 z4
 have z2 := cut (o := 2) (k := 1) e2 z3
 have z1 := cut (o := 1) (k := 1) e1 z2
 have z0 := cut (o := 0) (k := 1) e0 z1
 rw [List.drop_zero] at z0
 exact ⟨a0, a1, a2, a3, a4, z0, wf_i64c o0, wf_i64c o1, wf_i64c o2, wf_i64c o3, wf_i64c o4⟩
theorem que_in (fuel : Nat) (cs : List Value) (d : DataW H) (p : List MemPlace) (hf : DataW.trod enc Tryz.prog W 0 (fun _ => true) true fuel 69 cs = some (d, p)) (hc : cs.length = 7) (hd : Lt 69 d) : ∃ y, ∀ b o, At W b o cs → QueAt W.heap.size W b o y := by
 obtain ⟨xs, n, _, hx, hl, hlen, hfi⟩ := DataW.trod_struct Tryz.underlying69 hf
 rw [cells_69] at hl
 obtain ⟨y0, y1, y2, rfl⟩ := xs3 xs hlen
 simp only [Prod.mk.injEq] at hx
 obtain ⟨rfl, rfl⟩ := hx
 have f0 : DataW.trod enc Tryz.prog W 0 (fun _ => true) true n 67 ((cs.drop 0).take (Tryz.prog.cellsOf 67)) = some y0 := hfi 0 _ rfl
 rw [cells_67] at f0
 have f1 : DataW.trod enc Tryz.prog W 0 (fun _ => true) true n 65 ((cs.drop 5).take (Tryz.prog.cellsOf 65)) = some y1 := hfi 1 _ rfl
 rw [cells_65] at f1
 have k1 := Lt.field Tryz.underlying69 hd (j := 1) rfl rfl
 have f2 : DataW.trod enc Tryz.prog W 0 (fun _ => true) true n 65 ((cs.drop 6).take (Tryz.prog.cellsOf 65)) = some y2 := hfi 2 _ rfl
 rw [cells_65] at f2
 have k2 := Lt.field Tryz.underlying69 hd (j := 2) rfl rfl
 obtain ⟨b1, a1, m1, e1, h1⟩ := list_at (d := y1.1) (p := y1.2) 65 64 2 (MgAt W.heap.size) Tryz.underlying65 cells_64 (by omega) bytes_64 mg_in (by omega) f1 k1
 obtain ⟨b2, a2, m2, e2, h2⟩ := list_at (d := y2.1) (p := y2.2) 65 64 2 (MgAt W.heap.size) Tryz.underlying65 cells_64 (by omega) bytes_64 mg_in (by omega) f2 k2
 obtain ⟨c0, c1, c2, c3, c4, e0, o0, o1, o2, o3, o4⟩ := sta_in f0
 have z3 : cs.drop 7 = [] := List.drop_eq_nil_of_le (by omega)
 have z2 := cut (o := 6) (k := 1) e2 z3
 have z1 := cut (o := 5) (k := 1) e1 z2
 have z0 := cut (o := 0) (k := 5) e0 z1
 rw [List.drop_zero] at z0
 subst z0
 exact ⟨⟨c0, c1, c2, c3, c4, a1, a2⟩, fun b o h => ⟨⟨o0, o1, o2, o3, o4⟩, b1, m1, b2, m2, h, h1, h2⟩⟩
theorem gi_in {x : DataW H × List MemPlace} (hf : DataW.trod enc Tryz.prog W 0 (fun _ => true) true fuel 31 cs = some x) : ∃ z : Gi, cs = z.cells ∧ z.ok := by
 obtain ⟨xs, n, _, hx, hl, hlen, hfi⟩ := DataW.trod_struct Tryz.underlying31 hf
 rw [cells_31] at hl
 obtain ⟨y0, y1, y2, rfl⟩ := xs3 xs hlen
 have f0 : DataW.trod enc Tryz.prog W 0 (fun _ => true) true n 28 ((cs.drop 0).take (Tryz.prog.cellsOf 28)) = some y0 := hfi 0 _ rfl
 rw [cells_28] at f0
 have f1 : DataW.trod enc Tryz.prog W 0 (fun _ => true) true n 29 ((cs.drop 32).take (Tryz.prog.cellsOf 29)) = some y1 := hfi 1 _ rfl
 rw [cells_29] at f1
 have f2 : DataW.trod enc Tryz.prog W 0 (fun _ => true) true n 29 ((cs.drop 33).take (Tryz.prog.cellsOf 29)) = some y2 := hfi 2 _ rfl
 rw [cells_29] at f2
 obtain ⟨a1, e1, _, o1⟩ := DataW.trod_int Tryz.underlying29 f1
 obtain ⟨a2, e2, _, o2⟩ := DataW.trod_int Tryz.underlying29 f2
 obtain ⟨l, hll, e0, hlw⟩ := ints_at Tryz.underlying28 Tryz.underlying3 cells_3 cells_28 f0
 have z3 : cs.drop 34 = [] := List.drop_eq_nil_of_le (by omega)
 have z2 := cut (o := 33) (k := 1) e2 z3
 have z1 := cut (o := 32) (k := 1) e1 z2
 have z0 := cut (o := 0) (k := 32) e0 z1
 rw [List.drop_zero] at z0
 exact ⟨⟨l, a1, a2⟩, z0, ⟨hll, fun n hn => wf_i64c (hlw n hn), wf_u32c o1, wf_u32c o2⟩⟩
theorem reg_in {x : DataW H × List MemPlace} (hf : DataW.trod enc Tryz.prog W 0 (fun _ => true) true fuel 60 cs = some x) : ∃ (l : List Int) (a b c : Int) (d e : Bool), cs = l.map (.int .u32) ++ [.int .u32 a, .int .u32 b, .int .u32 c, .bool d, .bool e] ∧ l.length = 16 ∧ (∀ n ∈ l, u32ok n) ∧ u32ok a ∧ u32ok b ∧ u32ok c := by
 obtain ⟨xs, n, _, hx, hl, hlen, hfi⟩ := DataW.trod_struct Tryz.underlying60 hf
 rw [cells_60] at hl
 obtain ⟨y0, y1, y2, y3, y4, y5, rfl⟩ := xs6 xs hlen
 have f0 : DataW.trod enc Tryz.prog W 0 (fun _ => true) true n 58 ((cs.drop 0).take (Tryz.prog.cellsOf 58)) = some y0 := hfi 0 _ rfl
 rw [cells_58] at f0
 have f1 : DataW.trod enc Tryz.prog W 0 (fun _ => true) true n 29 ((cs.drop 16).take (Tryz.prog.cellsOf 29)) = some y1 := hfi 1 _ rfl
 rw [cells_29] at f1
 have f2 : DataW.trod enc Tryz.prog W 0 (fun _ => true) true n 29 ((cs.drop 17).take (Tryz.prog.cellsOf 29)) = some y2 := hfi 2 _ rfl
 rw [cells_29] at f2
 have f3 : DataW.trod enc Tryz.prog W 0 (fun _ => true) true n 29 ((cs.drop 18).take (Tryz.prog.cellsOf 29)) = some y3 := hfi 3 _ rfl
 rw [cells_29] at f3
 have f4 : DataW.trod enc Tryz.prog W 0 (fun _ => true) true n 4 ((cs.drop 19).take (Tryz.prog.cellsOf 4)) = some y4 := hfi 4 _ rfl
 rw [cells_4] at f4
 have f5 : DataW.trod enc Tryz.prog W 0 (fun _ => true) true n 4 ((cs.drop 20).take (Tryz.prog.cellsOf 4)) = some y5 := hfi 5 _ rfl
 rw [cells_4] at f5
 obtain ⟨a1, e1, _, o1⟩ := DataW.trod_int Tryz.underlying29 f1
 obtain ⟨a2, e2, _, o2⟩ := DataW.trod_int Tryz.underlying29 f2
 obtain ⟨a3, e3, _, o3⟩ := DataW.trod_int Tryz.underlying29 f3
 obtain ⟨a4, e4, _⟩ := DataW.trod_bool Tryz.underlying4 f4
 obtain ⟨a5, e5, _⟩ := DataW.trod_bool Tryz.underlying4 f5
 obtain ⟨l, hll, e0, hlw⟩ := ints_at Tryz.underlying58 Tryz.underlying29 cells_29 cells_58 f0
 have z6 : cs.drop 21 = [] := List.drop_eq_nil_of_le (by omega)
 have z5 := cut (o := 20) (k := 1) e5 z6
 have z4 := cut (o := 19) (k := 1) e4 z5
 have z3 := cut (o := 18) (k := 1) e3 z4
 have z2 := cut (o := 17) (k := 1) e2 z3
 have z1 := cut (o := 16) (k := 1) e1 z2
 have z0 := cut (o := 0) (k := 16) e0 z1
 rw [List.drop_zero] at z0
 exact ⟨l, a1, a2, a3, a4, a5, z0, hll, fun n hn => wf_u32c (hlw n hn), wf_u32c o1, wf_u32c o2, wf_u32c o3⟩
theorem cel_in (fuel : Nat) (cs : List Value) (d : DataW H) (p : List MemPlace) (hf : DataW.trod enc Tryz.prog W 0 (fun _ => true) true fuel 62 cs = some (d, p)) (hc : cs.length = 22) (hd : Lt 62 d) : ∃ y, ∀ b o, At W b o cs → CelAt W b o y := by
 obtain ⟨xs, n, _, hx, hl, hlen, hfi⟩ := DataW.trod_struct Tryz.underlying62 hf
 rw [cells_62] at hl
 obtain ⟨y0, y1, rfl⟩ := xs2 xs hlen
 have f0 : DataW.trod enc Tryz.prog W 0 (fun _ => true) true n 60 ((cs.drop 0).take (Tryz.prog.cellsOf 60)) = some y0 := hfi 0 _ rfl
 rw [cells_60] at f0
 have f1 : DataW.trod enc Tryz.prog W 0 (fun _ => true) true n 4 ((cs.drop 21).take (Tryz.prog.cellsOf 4)) = some y1 := hfi 1 _ rfl
 rw [cells_4] at f1
 obtain ⟨a1, e1, _⟩ := DataW.trod_bool Tryz.underlying4 f1
 obtain ⟨l, a, b, c, d', e', e0, hll, hlw, oa, ob, oc⟩ := reg_in f0
 have z2 : cs.drop 22 = [] := List.drop_eq_nil_of_le (by omega)
 have z1 := cut (o := 21) (k := 1) e1 z2
 have z0 := cut (o := 0) (k := 21) e0 z1
 rw [List.drop_zero] at z0
 have z : cs = (⟨l, a, b, c, d', e', a1⟩ : Cel).cells := by rw [z0]; simp [Cel.cells]
 exact ⟨⟨l, a, b, c, d', e', a1⟩, fun b o h => ⟨by rw [← z]; exact h, ⟨hll, hlw, oa, ob, oc⟩⟩⟩
set_option maxRecDepth 8000 in
theorem ste_in {r : Reach} {base : Nat} {v : Value} (hv : Value.okWide Tryz.prog W r base 36 v) (h : DataW.Trod enc Tryz.prog W 0 (fun _ => true) true 36 v d p) (hd : Lt 36 d) : ∃ g, IsSt W v g := by
 obtain ⟨C, rfl, hsz⟩ := okWide_struct Tryz.underlying36 hv
 rw [cells_36] at hsz
 obtain ⟨fuel, hf⟩ := h
 obtain ⟨cs⟩ := C
 have hcl : cs.length = 44 := by simpa using hsz
 have hf : DataW.trod enc Tryz.prog W 0 (fun _ => true) true fuel 36 cs = some (d, p) := hf
 obtain ⟨xs, n, _, hx, hl, hlen, hfi⟩ := DataW.trod_struct Tryz.underlying36 hf
 rw [cells_36] at hl
 obtain ⟨y0, y1, y2, y3, y4, y5, y6, y7, y8, y9, y10, rfl⟩ := xs11 xs hlen
 simp only [Prod.mk.injEq] at hx
 obtain ⟨rfl, rfl⟩ := hx
 have f0 : DataW.trod enc Tryz.prog W 0 (fun _ => true) true n 22 ((cs.drop 0).take (Tryz.prog.cellsOf 22)) = some y0 := hfi 0 _ rfl
 rw [cells_22] at f0
 have k0 := Lt.field Tryz.underlying36 hd (j := 0) rfl rfl
 have f1 : DataW.trod enc Tryz.prog W 0 (fun _ => true) true n 23 ((cs.drop 1).take (Tryz.prog.cellsOf 23)) = some y1 := hfi 1 _ rfl
 rw [cells_23] at f1
 have f2 : DataW.trod enc Tryz.prog W 0 (fun _ => true) true n 4 ((cs.drop 2).take (Tryz.prog.cellsOf 4)) = some y2 := hfi 2 _ rfl
 rw [cells_4] at f2
 have f3 : DataW.trod enc Tryz.prog W 0 (fun _ => true) true n 24 ((cs.drop 3).take (Tryz.prog.cellsOf 24)) = some y3 := hfi 3 _ rfl
 rw [cells_24] at f3
 have k3 := Lt.field Tryz.underlying36 hd (j := 3) rfl rfl
 have f4 : DataW.trod enc Tryz.prog W 0 (fun _ => true) true n 25 ((cs.drop 4).take (Tryz.prog.cellsOf 25)) = some y4 := hfi 4 _ rfl
 rw [cells_25] at f4
 have k4 := Lt.field Tryz.underlying36 hd (j := 4) rfl rfl
 have f5 : DataW.trod enc Tryz.prog W 0 (fun _ => true) true n 26 ((cs.drop 5).take (Tryz.prog.cellsOf 26)) = some y5 := hfi 5 _ rfl
 rw [cells_26] at f5
 have k5 := Lt.field Tryz.underlying36 hd (j := 5) rfl rfl
 have f6 : DataW.trod enc Tryz.prog W 0 (fun _ => true) true n 27 ((cs.drop 6).take (Tryz.prog.cellsOf 27)) = some y6 := hfi 6 _ rfl
 rw [cells_27] at f6
 have k6 := Lt.field Tryz.underlying36 hd (j := 6) rfl rfl
 have f7 : DataW.trod enc Tryz.prog W 0 (fun _ => true) true n 31 ((cs.drop 7).take (Tryz.prog.cellsOf 31)) = some y7 := hfi 7 _ rfl
 rw [cells_31] at f7
 have f8 : DataW.trod enc Tryz.prog W 0 (fun _ => true) true n 32 ((cs.drop 41).take (Tryz.prog.cellsOf 32)) = some y8 := hfi 8 _ rfl
 rw [cells_32] at f8
 have k8 := Lt.field Tryz.underlying36 hd (j := 8) rfl rfl
 have f9 : DataW.trod enc Tryz.prog W 0 (fun _ => true) true n 33 ((cs.drop 42).take (Tryz.prog.cellsOf 33)) = some y9 := hfi 9 _ rfl
 rw [cells_33] at f9
 have k9 := Lt.field Tryz.underlying36 hd (j := 9) rfl rfl
 have f10 : DataW.trod enc Tryz.prog W 0 (fun _ => true) true n 34 ((cs.drop 43).take (Tryz.prog.cellsOf 34)) = some y10 := hfi 10 _ rfl
 rw [cells_34] at f10
 have k10 := Lt.field Tryz.underlying36 hd (j := 10) rfl rfl
 obtain ⟨b0, a0, m0, e0, h0⟩ := bytes_at (d := y0.1) (p := y0.2) (by omega) f0 k0
 obtain ⟨a1, e1, _, o1⟩ := DataW.trod_int Tryz.underlying23 f1
 obtain ⟨a2, e2, _⟩ := DataW.trod_bool Tryz.underlying4 f2
 obtain ⟨b3, a3, m3, e3, h3⟩ := list_at (d := y3.1) (p := y3.2) 24 103 2 (PgAt W.heap.size) Tryz.underlying24 cells_103 (by omega) bytes_103 pg_in (by omega) f3 k3
 obtain ⟨b4, a4, m4, e4, h4⟩ := list_at (d := y4.1) (p := y4.2) 25 62 22 CelAt Tryz.underlying25 cells_62 (by omega) bytes_62 cel_in (by omega) f4 k4
 obtain ⟨b5, a5, m5, e5, h5⟩ := list_at (d := y5.1) (p := y5.2) 26 105 3 LneAt Tryz.underlying26 cells_105 (by omega) bytes_105 lne_in (by omega) f5 k5
 obtain ⟨b6, a6, m6, e6, h6⟩ := list_at (d := y6.1) (p := y6.2) 27 112 4 SltAt Tryz.underlying27 cells_112 (by omega) bytes_112 slt_in (by omega) f6 k6
 obtain ⟨b8, a8, m8, e8, h8⟩ := list_at (d := y8.1) (p := y8.2) 32 114 6 (SplAt W.heap.size) Tryz.underlying32 cells_114 (by omega) bytes_114 spl_in (by omega) f8 k8
 obtain ⟨b9, a9, m9, e9, h9⟩ := list_at (d := y9.1) (p := y9.2) 33 69 7 (QueAt W.heap.size) Tryz.underlying33 cells_69 (by omega) bytes_69 que_in (by omega) f9 k9
 obtain ⟨b10, a10, m10, e10, h10⟩ := list_at (d := y10.1) (p := y10.2) 34 117 2 ArrAt Tryz.underlying34 cells_117 (by omega) bytes_117 arr_in (by omega) f10 k10
 obtain ⟨z, e7, hz⟩ := gi_in f7
 have z11 : cs.drop 44 = [] := List.drop_eq_nil_of_le (by omega)
 have z10 := cut (o := 43) (k := 1) e10 z11
 have z9 := cut (o := 42) (k := 1) e9 z10
 have z8 := cut (o := 41) (k := 1) e8 z9
 have z7 := cut (o := 7) (k := 34) e7 z8
 have z6 := cut (o := 6) (k := 1) e6 z7
 have z5 := cut (o := 5) (k := 1) e5 z6
 have z4 := cut (o := 4) (k := 1) e4 z5
 have z3 := cut (o := 3) (k := 1) e3 z4
 have z2 := cut (o := 2) (k := 1) e2 z3
 have z1 := cut (o := 1) (k := 1) e1 z2
 have z0 := cut (o := 0) (k := 1) e0 z1
 rw [List.drop_zero] at z0
 subst z0
 exact ⟨⟨a0, a1, a2, a3, a4, a5, a6, z, a8, a9, a10⟩, wf_u64c o1, hz, b0, m0, b3, m3, b4, m4, b5, m5, b6, m6, b8, m8, b9, m9, b10, m10, rfl, h0, h3, h4, h5, h6, h8, h9, h10⟩
end
end Go.Proofs.YtkggkkoblpdopaaGreat
namespace Go.Proofs.YtkggkkoblpdopaaGreat
open Go.ChangeShapes Go.WideShapes Go.ChangeAt Go.RowKit
set_option linter.unusedVariables false

theorem own' : ownKnob Tryz.prog.godebug = none := by kernel_rfl
theorem laidOut' : laidOutB Tryz.prog = true := by kernel_rfl
theorem lt_of {H : Type} {ts : List TypeId} {ds : List (DataW H)} {j : Nat} {t : TypeId} {d : DataW H} (hsz : (DataW.weightsEach Tryz.prog ts ds).all (· ≤ reachBytes) = true) (ht : ts[j]? = some t) (hd : ds[j]? = some d) : Lt t d := fun x hx => by
 have := List.all_eq_true.1 hsz _ (DataW.weights_mem_each ht hd x hx)
 exact of_decide_eq_true this
end Go.Proofs.YtkggkkoblpdopaaGreat
