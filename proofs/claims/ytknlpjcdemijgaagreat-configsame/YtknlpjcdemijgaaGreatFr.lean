import Derived.Test.YtknlpjcdemijgaaGreatXu
import Derived.Deep.Slices
import Derived.ShutString
import Derived.ChangeOld
import Derived.SizedLaws
namespace Go.Proofs.YtknlpjcdemijgaaGreat
open Go.ChangeShapes Go.WideShapes Go.ChangeAt Go.RowKit Go.Deep
set_option linter.unusedVariables false
theorem ch_lt {α : Type} {n : Nat} {P : Nat → α → Prop} (h : ∀ i, i < n → ∃ v, P i v) : ∃ l : List α, l.length = n ∧ ∀ i (hi : i < l.length), P i l[i] := by
 classical
 refine ⟨List.ofFn (n := n) fun i => Classical.choose (h i.1 i.2), by simp, fun i hi => ?_⟩
 simp only [List.getElem_ofFn]
 exact Classical.choose_spec (h i (by simpa using hi))
def Lt {H : Type} (T : Nat) (d : DataW H) : Prop := ∀ x, x ∈ d.weights Tryz.prog T → x ≤ 140737488351232
theorem weightsAll_mem {H : Type} {P : Program} {e : TypeId} {d : DataW H} {x : Nat} (hx : x ∈ d.weights P e) : ∀ {l : List (DataW H)}, d ∈ l → x ∈ DataW.weightsAll P e l
 | a :: l, h => by
  simp only [DataW.weightsAll, List.mem_append]
  rcases List.mem_cons.1 h with rfl | h
  ·exact .inl hx
  ·exact .inr (weightsAll_mem hx h)
theorem cell_lt {W : World} {b o : Nat} {v : Value} (h : W.cell? ⟨b, o, none⟩ = some v) : b < W.heap.size := by
 have := World.block_lt_of_cell? W _ h
 exact this
section
variable {H : Type} {enc : TypeId × Value → H} {W : World} {fuel : Nat} {cs : List Value} {d : DataW H} {p : List MemPlace}
theorem Lt.field {T : Nat} {fs : Array Field} {xs : List (DataW H × List MemPlace)} (hT : Tryz.prog.underlying T = some (.struct fs)) (h : Lt T (.agg (xs.map (·.1)) : DataW H)) {j : Nat} {f : Field} {y : DataW H × List MemPlace} (hf : fs[j]? = some f) (hy : xs[j]? = some y) : Lt f.type y.1 := fun x hx => by
 refine h x ?_
 simp only [DataW.weights, hT]
 exact DataW.weights_mem_each (j := j) (by simp [hf]) (by simp [hy]) x hx
theorem cells_3 : Tryz.prog.cellsOf 3 = 1 := by kernel_rfl
theorem cells_4 : Tryz.prog.cellsOf 4 = 1 := by kernel_rfl
theorem cells_9 : Tryz.prog.cellsOf 9 = 1 := by kernel_rfl
theorem cells_22 : Tryz.prog.cellsOf 22 = 1 := by kernel_rfl
theorem cells_24 : Tryz.prog.cellsOf 24 = 3 := by kernel_rfl
theorem cells_25 : Tryz.prog.cellsOf 25 = 1 := by kernel_rfl
theorem cells_26 : Tryz.prog.cellsOf 26 = 1 := by kernel_rfl
theorem cells_27 : Tryz.prog.cellsOf 27 = 1 := by kernel_rfl
theorem cells_28 : Tryz.prog.cellsOf 28 = 1 := by kernel_rfl
theorem cells_29 : Tryz.prog.cellsOf 29 = 1 := by kernel_rfl
theorem cells_31 : Tryz.prog.cellsOf 31 = 12 := by kernel_rfl
theorem cells_52 : Tryz.prog.cellsOf 52 = 1 := by kernel_rfl
theorem cells_65 : Tryz.prog.cellsOf 65 = 3 := by kernel_rfl
theorem cells_87 : Tryz.prog.cellsOf 87 = 1 := by kernel_rfl
theorem cells_89 : Tryz.prog.cellsOf 89 = 4 := by kernel_rfl
theorem cells_94 : Tryz.prog.cellsOf 94 = 3 := by kernel_rfl
theorem cells_98 : Tryz.prog.cellsOf 98 = 6 := by kernel_rfl
theorem cells_99 : Tryz.prog.cellsOf 99 = 1 := by kernel_rfl
theorem cells_101 : Tryz.prog.cellsOf 101 = 4 := by kernel_rfl
theorem bytes_3 : 1 ≤ Tryz.prog.bytesOf 3 := by decide +kernel
theorem bytes_65 : 1 ≤ Tryz.prog.bytesOf 65 := by decide +kernel
theorem bytes_89 : 1 ≤ Tryz.prog.bytesOf 89 := by decide +kernel
theorem bytes_94 : 1 ≤ Tryz.prog.bytesOf 94 := by decide +kernel
theorem bytes_98 : 1 ≤ Tryz.prog.bytesOf 98 := by decide +kernel
theorem bytes_101 : 1 ≤ Tryz.prog.bytesOf 101 := by decide +kernel
theorem list3 {α : Type} : ∀ l : List α, l.length = 3 → ∃ a0 a1 a2, l = [a0, a1, a2]
 | [a0, a1, a2], _ => ⟨a0, a1, a2, rfl⟩
theorem list4 {α : Type} : ∀ l : List α, l.length = 4 → ∃ a0 a1 a2 a3, l = [a0, a1, a2, a3]
 | [a0, a1, a2, a3], _ => ⟨a0, a1, a2, a3, rfl⟩
theorem list6 {α : Type} : ∀ l : List α, l.length = 6 → ∃ a0 a1 a2 a3 a4 a5, l = [a0, a1, a2, a3, a4, a5]
 | [a0, a1, a2, a3, a4, a5], _ => ⟨a0, a1, a2, a3, a4, a5, rfl⟩
theorem list10 {α : Type} : ∀ l : List α, l.length = 10 → ∃ a0 a1 a2 a3 a4 a5 a6 a7 a8 a9, l = [a0, a1, a2, a3, a4, a5, a6, a7, a8, a9]
 | [a0, a1, a2, a3, a4, a5, a6, a7, a8, a9], _ => ⟨a0, a1, a2, a3, a4, a5, a6, a7, a8, a9, rfl⟩
theorem list12 {α : Type} : ∀ l : List α, l.length = 12 → ∃ a0 a1 a2 a3 a4 a5 a6 a7 a8 a9 a10 a11, l = [a0, a1, a2, a3, a4, a5, a6, a7, a8, a9, a10, a11]
 | [a0, a1, a2, a3, a4, a5, a6, a7, a8, a9, a10, a11], _ => ⟨a0, a1, a2, a3, a4, a5, a6, a7, a8, a9, a10, a11, rfl⟩
theorem wf_u8c {n : Int} (h : (Lit.int .u8 n).wf = true) : 0 ≤ n ∧ n < 256 := by
 have : 0 ≤ n ∧ n ≤ 255 := by simpa [Lit.wf, IntKind.min, IntKind.max, IntKind.signed, IntKind.bits] using h
 omega
theorem wf_u32c {n : Int} (h : (Lit.int .u32 n).wf = true) : 0 ≤ n ∧ n < 4294967296 := by
 have : 0 ≤ n ∧ n ≤ 4294967295 := by simpa [Lit.wf, IntKind.min, IntKind.max, IntKind.signed, IntKind.bits] using h
 omega
theorem wf_u64c {n : Int} (h : (Lit.int .u64 n).wf = true) : 0 ≤ n ∧ n < 18446744073709551616 := by
 have : 0 ≤ n ∧ n ≤ 18446744073709551615 := by simpa [Lit.wf, IntKind.min, IntKind.max, IntKind.signed, IntKind.bits] using h
 omega
theorem wf_i64c {n : Int} (h : (Lit.int .i64 n).wf = true) : -9223372036854775808 ≤ n ∧ n ≤ 9223372036854775807 := by
 simpa [Lit.wf, IntKind.min, IntKind.max, IntKind.signed, IntKind.bits] using h
theorem rg_in (fuel : Nat) (cs : List Value) (d : DataW H) (p : List MemPlace) (hf : DataW.trod enc Tryz.prog W 0 (fun _ => true) true fuel 101 cs = some (d, p)) (hc : cs.length = 4) (hd : Lt 101 d) : ∃ y, ∀ b o, At W b o cs → RgAt W b o y := by
 obtain ⟨xs, n, _, hx, hl, hlen, hfi⟩ := DataW.trod_struct Tryz.underlying101 hf
 obtain ⟨c0, c1, c2, c3, rfl⟩ := list4 cs hc
 obtain ⟨y0, y1, y2, y3, rfl⟩ := list4 xs hlen
 simp only [Prod.mk.injEq] at hx
 obtain ⟨rfl, rfl⟩ := hx
 have f0 := hfi 0 _ rfl
 have f1 := hfi 1 _ rfl
 have f2 := hfi 2 _ rfl
 have f3 := hfi 3 _ rfl
 simp [cells_3, cells_22, cells_99] at f0 f1 f2 f3
 obtain ⟨a0, e0, _, o0⟩ := DataW.trod_int Tryz.underlying22 f0
 obtain ⟨a1, e1, _, o1⟩ := DataW.trod_int Tryz.underlying22 f1
 obtain ⟨a2, e2, _, o2⟩ := DataW.trod_int Tryz.underlying3 f2
 obtain ⟨a3, e3, _, o3⟩ := DataW.trod_int Tryz.underlying99 f3
 simp at e0 e1 e2 e3
 subst e0 e1 e2 e3
 exact ⟨⟨a0, a1, a2, a3⟩, fun b o h => ⟨h, ⟨wf_u32c o0, wf_u32c o1, wf_i64c o2, wf_u8c o3⟩⟩⟩
theorem wi_in (fuel : Nat) (cs : List Value) (d : DataW H) (p : List MemPlace) (hf : DataW.trod enc Tryz.prog W 0 (fun _ => true) true fuel 65 cs = some (d, p)) (hc : cs.length = 3) (hd : Lt 65 d) : ∃ y, ∀ b o, At W b o cs → WiAt W b o y := by
 obtain ⟨xs, n, _, hx, hl, hlen, hfi⟩ := DataW.trod_struct Tryz.underlying65 hf
 obtain ⟨c0, c1, c2, rfl⟩ := list3 cs hc
 obtain ⟨y0, y1, y2, rfl⟩ := list3 xs hlen
 simp only [Prod.mk.injEq] at hx
 obtain ⟨rfl, rfl⟩ := hx
 have f0 := hfi 0 _ rfl
 have f1 := hfi 1 _ rfl
 have f2 := hfi 2 _ rfl
 simp [cells_3, cells_25] at f0 f1 f2
 obtain ⟨a0, e0, _, o0⟩ := DataW.trod_int Tryz.underlying3 f0
 obtain ⟨a1, e1, _, o1⟩ := DataW.trod_int Tryz.underlying25 f1
 obtain ⟨a2, e2, _, o2⟩ := DataW.trod_int Tryz.underlying25 f2
 simp at e0 e1 e2
 subst e0 e1 e2
 exact ⟨⟨a0, a1, a2⟩, fun b o h => ⟨h, ⟨wf_i64c o0, wf_u64c o1, wf_u64c o2⟩⟩⟩
theorem qu_in (fuel : Nat) (cs : List Value) (d : DataW H) (p : List MemPlace) (hf : DataW.trod enc Tryz.prog W 0 (fun _ => true) true fuel 98 cs = some (d, p)) (hc : cs.length = 6) (hd : Lt 98 d) : ∃ y, ∀ b o, At W b o cs → QuAt W b o y := by
 obtain ⟨xs, n, _, hx, hl, hlen, hfi⟩ := DataW.trod_struct Tryz.underlying98 hf
 obtain ⟨c0, c1, c2, c3, c4, c5, rfl⟩ := list6 cs hc
 obtain ⟨y0, y1, y2, y3, y4, y5, rfl⟩ := list6 xs hlen
 simp only [Prod.mk.injEq] at hx
 obtain ⟨rfl, rfl⟩ := hx
 have f0 := hfi 0 _ rfl
 have f1 := hfi 1 _ rfl
 have f2 := hfi 2 _ rfl
 have f3 := hfi 3 _ rfl
 have f4 := hfi 4 _ rfl
 have f5 := hfi 5 _ rfl
 simp [cells_3, cells_4] at f0 f1 f2 f3 f4 f5
 obtain ⟨a0, e0, _, o0⟩ := DataW.trod_int Tryz.underlying3 f0
 obtain ⟨a1, e1, _, o1⟩ := DataW.trod_int Tryz.underlying3 f1
 obtain ⟨a2, e2, _, o2⟩ := DataW.trod_int Tryz.underlying3 f2
 obtain ⟨a3, e3, _, o3⟩ := DataW.trod_int Tryz.underlying3 f3
 obtain ⟨a4, e4, _, o4⟩ := DataW.trod_int Tryz.underlying3 f4
 obtain ⟨a5, e5, _⟩ := DataW.trod_bool Tryz.underlying4 f5
 simp at e0 e1 e2 e3 e4 e5
 subst e0 e1 e2 e3 e4 e5
 exact ⟨⟨a0, a1, a2, a3, a4, a5⟩, fun b o h => ⟨h, ⟨wf_i64c o0, wf_i64c o1, wf_i64c o2, wf_i64c o3, wf_i64c o4⟩⟩⟩
def NuAt (w : World) (b o : Nat) (x : Int) : Prop := w.cell? ⟨b, o, none⟩ = some (.int .i64 x) ∧ i64ok x
theorem nu_in (fuel : Nat) (cs : List Value) (d : DataW H) (p : List MemPlace) (hf : DataW.trod enc Tryz.prog W 0 (fun _ => true) true fuel 3 cs = some (d, p)) (hc : cs.length = 1) (hd : Lt 3 d) : ∃ y, ∀ b o, At W b o cs → NuAt W b o y := by
 obtain ⟨a, e, _, o⟩ := DataW.trod_int Tryz.underlying3 hf
 subst e
 exact ⟨a, fun b o' h => ⟨h 0 _ rfl, wf_i64c o⟩⟩
theorem RdL.nums {N : Nat} {la : Option Addr} {xs : List Int} (h : RdL W N 1 NuAt la xs) : RdI W N la xs := by
 obtain ⟨h1, h2⟩ := h
 rcases h2 with h2 | ⟨b, o, e, hb, hc⟩
 ·exact ⟨fun n hn => by simp [List.length_eq_zero_iff.1 h2] at hn, h1, .inl h2⟩
 ·refine ⟨fun n hn => ?_, h1, .inr ⟨b, o, e, hb, fun i hi => ?_⟩⟩
  ·obtain ⟨i, hi, rfl⟩ := List.getElem_of_mem hn
   exact (hc i hi).2
  ·have := (hc i hi).1
   simpa using this
end
end Go.Proofs.YtknlpjcdemijgaaGreat
namespace Go.Proofs.YtknlpjcdemijgaaGreat
open Go.ChangeShapes Go.WideShapes Go.ChangeAt Go.RowKit
set_option linter.unusedVariables false

theorem own' : ownKnob Tryz.prog.godebug = none := by kernel_rfl
theorem laidOut' : laidOutB Tryz.prog = true := by kernel_rfl
theorem lt_of {H : Type} {ts : List TypeId} {ds : List (DataW H)} {j : Nat} {t : TypeId} {d : DataW H} (hsz : (DataW.weightsEach Tryz.prog ts ds).all (· ≤ reachBytes) = true) (ht : ts[j]? = some t) (hd : ds[j]? = some d) : Lt t d := fun x hx => by
 have := List.all_eq_true.1 hsz _ (DataW.weights_mem_each ht hd x hx)
 exact of_decide_eq_true this
end Go.Proofs.YtknlpjcdemijgaaGreat
