import Derived.Test.YtkndlkcbhpfjoaaOwn
import Derived.Test.YtkndlkcbhpfjoaaMd
import Derived.Laws.StructEq
import Derived.Deep.MidRow
import Derived.Deep.RegionHeld3
import Derived.Deep.Cut
namespace Go.Proofs.Ytkndlkcbhpfjoaa
open Go.ChangeShapes Go.WideShapes Go.ChangeAt Go.RowKit
set_option linter.unusedVariables false

/-- Nothing that was there has changed. -/
abbrev Kp (w w' : World) : Prop := Chg w w' (fun _ => False)
theorem Kp.trans {a b c : World} (h : Kp a b) (k : Kp b c) : Kp a c := Chg.trans h k (fun _ _ x => x)
theorem Kp.cell {w w' : World} (h : Kp w w') {p : Addr} {v : Value} (hc : w.cell? p = some v) : w'.cell? p = some v := by
  obtain ⟨b, o, s⟩ := p
  have hs : s = none := World.cell?_spot hc
  subst hs
  have hb : b < w.heap.size := by
    rcases Nat.lt_or_ge b w.heap.size with h | h
    · exact h
    · exfalso
      have : w.heap[b]? = none := Array.getElem?_eq_none h
      simp [World.cell?, this] at hc
  rw [Chg.cell h hb (fun x => x)]
  exact hc
theorem Kp.heap {w w' : World} (h : Kp w w') {k : Nat} {o : Obj} (hk : w.heap[k]? = some o) : w'.heap[k]? = some o := Chg.heap h hk (fun x => x)
theorem Kp.refl (w : World) : Kp w w := Chg.refl w _
theorem Kp.drewN (w : World) (n : Nat) : Kp w (w.drewN n) := Chg.drewN (Chg.refl w _) n
theorem Kp.any {w w' : World} {S : Nat → Prop} (h : Kp w w') : Chg w w' S := Chg.mono h (fun _ _ x => x.elim)
theorem cells_at {w : World} {B : Nat} {cs : Array Value} {e : TypeId} (h : w.heap[B]? = some (.cells cs e (0, 0))) (i : Nat) : w.cell? ⟨B, i, none⟩ = cs[i]? ∧ w.frozen? ⟨B, i, none⟩ = false :=
  ⟨cell_of_row w B i cs e (0, 0) h, frozen_of_row w B i cs e h⟩
theorem al_old {w : World} (o : Obj) {k : Nat} {x : Obj} (h : w.heap[k]? = some x) : (w.alloc o).heap[k]? = some x := ((Chg.refl w (fun _ => False)).alloc o).heap h (fun h => h)
theorem hp_lt {w : World} {k : Nat} {o : Obj} (h : w.heap[k]? = some o) : k < w.heap.size := (Array.getElem?_eq_some_iff.1 h).1
/-- The walk at a build, told by its run. -/
theorem wpList_build_run {P : Program} {w : World} {ops : Array Oper} {rest : List Oper} {o : Oper} {a : Act} {Q : Exit → Act → World → Prop} (hgd : o.guard = none) (t : TypeId) (parts : Array (Nat × Operand)) (ho : o.op = .build t parts) (vs : Array (Nat × Value)) (hvs : (parts.map fun (i, x) => (i, a.eval x)) = vs) (v : Value) (hrun : (Instr.build t vs).run P w = .ok v w)
    (h : wpList P ops Q rest (a.put o.dst v) w) : wpList P ops Q (o :: rest) a w := by
  subst hvs
  refine wpList_plain hgd fun K hK => ?_
  unfold Oper.wp
  simp only [execOp, ho]
  simp [hrun, Result.andThen]
  exact hK _ _ h
/-- The walk at a box of a great value. -/
theorem wpList_box_run {P : Program} {w : World} {ops : Array Oper} {rest : List Oper} {o : Oper} {a : Act} {Q : Exit → Act → World → Prop} (hgd : o.guard = none) (t : TypeId) (x : Operand) (ho : o.op = .box t x) (Z : Array Value) (hx : a.eval x = .agg Z)
    (h : wpList P ops Q rest (a.put o.dst (.pointer (some ⟨w.heap.size, 0, none⟩))) (w.alloc (.cells Z t))) : wpList P ops Q (o :: rest) a w := by
  refine wpList_plain hgd fun K hK => ?_
  unfold Oper.wp
  simp [execOp, ho, Instr.box, hx, newVar, newRow, Value.cells, Result.andThen]
  exact hK _ _ h

/-! A controller in memory. -/
def IsG (w : World) (B : Nat) (s : GS) : Prop := w.heap[B]? = some (.cells (gcs s).toArray 67 (0, 0))
section
variable {w w' : World} {B : Nat} {s : GS}
theorem IsG.lt (h : IsG w B s) : B < w.heap.size := hp_lt h
theorem IsG.fr (h : IsG w B s) (i : Nat) : w.frozen? ⟨B, i, none⟩ = false := (cells_at h i).2
theorem IsG.rt (h : IsG w B s) (i : Nat) (hi : i < 32) : w.cell? ⟨B, i, none⟩ = some (.int .i64 (s.rt i : Nat)) := by
  rw [(cells_at h i).1, List.getElem?_toArray, gcs_rt s i hi]
theorem IsG.pe (h : IsG w B s) : w.cell? ⟨B, 32, none⟩ = some (.int .u32 (sw s.pe : Nat)) := by
  rw [(cells_at h 32).1, List.getElem?_toArray, gcs_pe]
theorem IsG.ma (h : IsG w B s) : w.cell? ⟨B, 33, none⟩ = some (.int .u32 (sw s.ma : Nat)) := by
  rw [(cells_at h 33).1, List.getElem?_toArray, gcs_ma]
theorem IsG.chg {S : Nat → Prop} (h : IsG w B s) (hc : Chg w w' S) (hn : ¬ S B) : IsG w' B s := hc.heap h hn
theorem IsG.kp (h : IsG w B s) (hc : Kp w w') : IsG w' B s := hc.heap h
theorem IsG.range (h : IsG w B s) : w.rangeAt B 0 (gcs s) := fun j v hv => by
  rw [Nat.zero_add, (cells_at h j).1, List.getElem?_toArray, hv]
theorem IsG.range32 (h : IsG w B s) : w.rangeAt B 0 ((gcs s).take 32) := fun j v hv => by
  rw [Nat.zero_add, (cells_at h j).1, List.getElem?_toArray]
  rw [List.getElem?_take] at hv
  split at hv
  · exact hv
  · cases hv
theorem gcs_set {s t : GS} (o : Nat) (v : Value) (hv : (gcs t)[o]? = some v) (ho : ∀ j, j < 34 → j ≠ o → (gcs s)[j]? = (gcs t)[j]?) : (gcs s).toArray.setIfInBounds o v = (gcs t).toArray := by
  apply Array.ext'
  simp only [Array.toList_setIfInBounds]
  apply List.ext_getElem?
  intro j
  rw [List.getElem?_set]
  have hl := gcs_len s
  by_cases hj : o = j
  · subst hj
    have : o < 34 := by rw [← gcs_len t]; exact (List.getElem?_eq_some_iff.1 hv).1
    simp [hl, this, hv]
  · simp only [hj, if_false]
    by_cases h34 : j < 34
    · exact ho j h34 (by omega)
    · rw [List.getElem?_eq_none (by simp [hl]; omega), List.getElem?_eq_none (by simp [gcs_len]; omega)]
theorem IsG.setPe (h : IsG w B s) (f : Nat → Bool) : IsG (w.setCell ⟨B, 32, none⟩ (.int .u32 (sw f : Nat))) B ⟨s.rt, f, s.ma⟩ := by
  have := heap_setCell_same w B 32 _ 67 (.int .u32 (sw f : Nat)) h
  unfold IsG
  rw [this, gcs_set (t := ⟨s.rt, f, s.ma⟩) 32 _ (gcs_pe _)]
  intro j hj hn
  by_cases h1 : j < 32
  · rw [gcs_rt _ _ h1, gcs_rt _ _ h1]
  · obtain rfl : j = 33 := by omega
    rw [gcs_ma, gcs_ma]
theorem IsG.setMa (h : IsG w B s) (f : Nat → Bool) : IsG (w.setCell ⟨B, 33, none⟩ (.int .u32 (sw f : Nat))) B ⟨s.rt, s.pe, f⟩ := by
  have := heap_setCell_same w B 33 _ 67 (.int .u32 (sw f : Nat)) h
  unfold IsG
  rw [this, gcs_set (t := ⟨s.rt, s.pe, f⟩) 33 _ (gcs_ma _)]
  intro j hj hn
  by_cases h1 : j < 32
  · rw [gcs_rt _ _ h1, gcs_rt _ _ h1]
  · obtain rfl : j = 32 := by omega
    rw [gcs_pe, gcs_pe]
theorem IsG.setRt (h : IsG w B s) (l : Nat) (hl : l < 32) (c : Nat) : IsG (w.setCell ⟨B, l, none⟩ (.int .i64 (c : Nat))) B ⟨fun i => if i = l then c else s.rt i, s.pe, s.ma⟩ := by
  have := heap_setCell_same w B l _ 67 (.int .i64 (c : Nat)) h
  unfold IsG
  rw [this, gcs_set (t := ⟨fun i => if i = l then c else s.rt i, s.pe, s.ma⟩) l _ (by rw [gcs_rt _ _ hl]; simp)]
  intro j hj hn
  by_cases h1 : j < 32
  · rw [gcs_rt _ _ h1, gcs_rt _ _ h1]; simp [hn]
  · by_cases h2 : j = 32
    · subst h2; rw [gcs_pe, gcs_pe]
    · obtain rfl : j = 33 := by omega
      rw [gcs_ma, gcs_ma]
end

theorem only_any (w : World) (l : Nat) (h : l < 32) : Calls Try.prog 31 #[.int .i64 (l : Nat)] w fun e w' => e = .returned (.int .u32 (sw (fun i => i == l) : Nat)) ∧ w' = w := by
  have e1 : IntKind.u32.wrap (1 * 2 ^ l) = ((sw (fun i => i == l) : Nat) : Int) := by
    rw [← sw_one h]
    have h2 : 2 ^ l < 2 ^ 32 := Nat.pow_lt_pow_right (by decide) h
    rw [Int.one_mul, wraps_u32' _ (Int.pow_nonneg (by decide)) (by exact_mod_cast h2)]
    simp
  go_enter Try.func31, Try.ntmps31
  go_wp2
  go_ret
  refine ⟨?_, rfl⟩
  rw [← e1]
  simp [IntKind.wrap, IntKind.bits, IntKind.signed]
theorem isLine_any (w : World) (n : Int) : Calls Try.prog 30 #[.int .i64 n] w fun e w' => e = .returned (.bool (decide (0 ≤ n) && decide (n < 32))) ∧ w' = w := by
  go_enter Try.func30, Try.ntmps30
  by_cases h1 : 0 ≤ n
  · go_wp2
    go_ret
    simp [h1]
  · go_wp2
    go_ret
    simp; omega
theorem isGoal_any (w : World) (n : Int) : Calls Try.prog 36 #[.int .i64 n] w fun e w' => e = .returned (.bool (decide (0 ≤ n) && decide (n ≤ 8))) ∧ w' = w := by
  go_enter Try.func36, Try.ntmps36
  by_cases h1 : 0 ≤ n
  · go_wp2
    go_ret
    simp [h1]
  · go_wp2
    go_ret
    simp; omega
end Go.Proofs.Ytkndlkcbhpfjoaa
