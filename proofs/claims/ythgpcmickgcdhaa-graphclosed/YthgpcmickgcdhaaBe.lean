import Derived.Test.YthgpcmickgcdhaaBd
namespace Go.Proofs.Ythgpcmickgcdhaa
open Go.ChangeShapes Go.WideShapes Go.ChangeAt Go.RowKit
set_option linter.unusedVariables false
/-- Edges that can be read. -/
structure RdE (w : World) (v : Value) (l : List (Nat × Nat)) : Prop where
  ex : ∃ a cap, v = .slice a l.length cap ∧ (l = [] ∨ ∃ b o, a = some ⟨b, o, none⟩ ∧ ∀ j (h : j < l.length), w.cell? ⟨b, o + j * 2, none⟩ = some (.int .i64 (l[j].1 : Nat)) ∧ w.cell? ⟨b, o + j * 2 + 1, none⟩ = some (.int .i64 (l[j].2 : Nat)))
theorem RdE.chg {w w' : World} {v : Value} {l : List (Nat × Nat)} {S : Nat → Prop} (h : RdE w v l) (hc : Chg w w' S) (hn : ∀ k, blk v = some k → ¬ S k) : RdE w' v l := by
  obtain ⟨a, cap, hv, hx⟩ := h.ex
  subst hv
  rcases hx with h1 | ⟨b, o, ha, h1⟩
  · exact ⟨a, cap, rfl, .inl h1⟩
  · subst ha
    exact ⟨_, cap, rfl, .inr ⟨b, o, rfl, fun j hj => ⟨hc.cell' (hn b rfl) (h1 j hj).1, hc.cell' (hn b rfl) (h1 j hj).2⟩⟩⟩
theorem RdE.kp {w w' : World} {v : Value} {l : List (Nat × Nat)} (h : RdE w v l) (hc : Kp w w') : RdE w' v l := h.chg hc (fun _ _ x => x)
def swp (e : Nat × Nat) : Nat × Nat := (e.2, e.1)
/-- The row of edges while they are turned. -/
def tuV (l : List (Nat × Nat)) (j i : Nat) : Value := if i / 2 < j then (match l[i / 2]? with | some e => .int .i64 ((if i % 2 = 0 then e.2 else e.1 : Nat) : Int) | none => .int .i64 0) else .int .i64 0
def tuC (l : List (Nat × Nat)) (j : Nat) : List Value := (List.range (2 * l.length)).map (tuV l j)
theorem tuC_len (l : List (Nat × Nat)) (j : Nat) : (tuC l j).length = 2 * l.length := by simp [tuC]
theorem tuC_at (l : List (Nat × Nat)) (j i : Nat) (h : i < 2 * l.length) : (tuC l j)[i]? = some (tuV l j i) := by simp [tuC, h]
theorem tuC_zero (l : List (Nat × Nat)) : tuC l 0 = List.replicate (2 * l.length) (.int .i64 0) := by
  apply List.ext_getElem?
  intro i
  by_cases h : i < 2 * l.length
  · rw [tuC_at l 0 i h]; simp [tuV, h]
  · rw [List.getElem?_eq_none (by rw [tuC_len]; omega), List.getElem?_eq_none (by simp; omega)]
theorem tuC_step (l : List (Nat × Nat)) (j : Nat) (h : j < l.length) : ((tuC l j).set (j * 2) (.int .i64 (l[j].2 : Nat))).set (j * 2 + 1) (.int .i64 (l[j].1 : Nat)) = tuC l (j + 1) := by
  apply List.ext_getElem?
  intro i
  rw [List.getElem?_set, List.getElem?_set]
  have hl := tuC_len l j
  simp only [List.length_set, hl]
  by_cases h1 : j * 2 + 1 = i
  · subst h1
    rw [if_pos rfl, if_pos (by omega), tuC_at l (j + 1) _ (by omega)]
    unfold tuV
    rw [show (j * 2 + 1) / 2 = j by omega, if_pos (by omega), List.getElem?_eq_getElem h, show (j * 2 + 1) % 2 = 1 by omega]
    simp
  · rw [if_neg h1]
    by_cases h2 : j * 2 = i
    · subst h2
      rw [if_pos rfl, if_pos (by omega), tuC_at l (j + 1) _ (by omega)]
      unfold tuV
      rw [show (j * 2) / 2 = j by omega, if_pos (by omega), List.getElem?_eq_getElem h, show (j * 2) % 2 = 0 by omega]
      simp
    · rw [if_neg h2]
      by_cases h3 : i < 2 * l.length
      · rw [tuC_at l j i h3, tuC_at l (j + 1) i h3]
        unfold tuV
        by_cases h4 : i / 2 < j
        · rw [if_pos h4, if_pos (by omega)]
        · rw [if_neg h4, if_neg (by omega)]
      · rw [List.getElem?_eq_none (by rw [tuC_len]; omega), List.getElem?_eq_none (by rw [tuC_len]; omega)]
theorem info41p : ∃ i, Try.prog.info? 41 = some i ∧ i.zero = some (.agg #[.int .i64 0, .int .i64 0]) ∧ i.size = 2 ∧ i.bytes = 16 := by
  have hz : (Try.prog.info? 41).map (fun i => (i.zero, i.size, i.bytes)) = some (some (.agg #[.int .i64 0, .int .i64 0]), 2, 16) := by kernel_rfl
  cases hq : Try.prog.info? 41 with
  | none => rw [hq] at hz; cases hz
  | some i =>
    rw [hq] at hz
    have hz2 : i.zero = some (.agg #[.int .i64 0, .int .i64 0]) ∧ i.size = 2 ∧ i.bytes = 16 := by simpa using hz
    exact ⟨i, rfl, hz2⟩
set_option maxRecDepth 10000 in
theorem make37 (w : World) (m : Nat) (h : m < 1000000) : (Instr.makeSlice 37 (.int .i64 (m : Nat)) (.int .i64 (m : Nat))).run Try.prog w = .ok (.slice (some ⟨w.heap.size, 0, none⟩) m m) (w.alloc (.cells (List.replicate (2 * m) (.int .i64 0)).toArray 41)) := by
  obtain ⟨i, hq, z1, z2, z3⟩ := info41p
  have hm := run_make (P := Try.prog) w 37 41 i (.agg #[.int .i64 0, .int .i64 0]) Try.underlying37 hq z1 .i64 .i64 (m : Int) (m : Int) (by omega) (by omega) (by rw [z3]; omega) (by omega)
  have e : madeCells (Value.agg #[.int .i64 0, .int .i64 0]).cells ((m : Int).toNat * i.size) = (List.replicate (2 * m) (.int .i64 0)).toArray := by
    rw [z2]
    apply Array.ext_getElem?
    intro j
    by_cases hj : j < 2 * m
    · have : j % 2 = 0 ∨ j % 2 = 1 := by omega
      rcases this with h | h <;> simp [madeCells, Value.cells, h, show j < m * 2 by omega, hj]
    · simp [madeCells, show ¬ j < m * 2 by omega, hj]
  rw [hm]
  rw [e]
  simp
theorem setTwo (w : World) (g : Nat) (cs : List Value) (e : TypeId) (i : Nat) (x y : Value) (h : w.heap[g]? = some (.cells cs.toArray e (0, 0))) : ((w.setCell ⟨g, i, none⟩ x).setCell ⟨g, i + 1, none⟩ y).heap[g]? = some (.cells ((cs.set i x).set (i + 1) y).toArray e (0, 0)) := by
  have h1 := heap_setCell_same w g i _ e x h
  have h2 := heap_setCell_same _ g (i + 1) _ e y h1
  rw [h2]
  simp
theorem store41 (w : World) (g : Nat) (cs : List Value) (i : Nat) (x y : Value) (h : w.heap[g]? = some (.cells cs.toArray 41 (0, 0))) (hi : i + 2 ≤ cs.length) (hx : x.oneCell' = true) (hy : y.oneCell' = true) : (storeVar 41 ⟨g, i, none⟩ (.agg #[x, y])).run Try.prog w = .ok () (w.setRow g ((cs.set i x).set (i + 1) y).toArray) := by
  have hs : (Try.prog.info? 41).map (·.size) = some (#[x, y] : Array Value).size := by kernel_rfl
  rw [run_storeVar_row (P := Try.prog) w g i 41 #[x, y] cs.toArray 41 h (by simpa using hi) hs (by intro v hv; simp at hv; rcases hv with rfl | rfl; exact hx; exact hy)]
  refine congrArg (fun z => Result.ok () (World.setRow w g z)) (Array.ext' ?_)
  simp only
  apply List.ext_getElem?
  intro k
  rw [List.getElem?_set, List.getElem?_set]
  simp only [List.length_set]
  by_cases h1 : i + 1 = k
  · subst h1
    rw [if_pos rfl, if_pos (by omega), List.append_assoc, List.getElem?_append_right (by simp; omega)]
    simp [Nat.min_eq_left (show i ≤ cs.length by omega)]
  · rw [if_neg h1]
    by_cases h2 : i = k
    · subst h2
      rw [if_pos rfl, if_pos (by omega), List.append_assoc, List.getElem?_append_right (by simp; omega)]
      simp [Nat.min_eq_left (show i ≤ cs.length by omega)]
    · rw [if_neg h2]
      by_cases h3 : k < i
      · rw [List.append_assoc, List.getElem?_append_left (by simp; omega), List.getElem?_take, if_pos h3]
      · rw [List.getElem?_append_right (by simp; omega)]
        simp only [List.length_append, List.length_take, Nat.min_eq_left (show i ≤ cs.length by omega), List.getElem?_drop]
        simp only [List.size_toArray, List.length_cons, List.length_nil]
        rw [show i + (0 + 1 + 1) + (k - (i + (0 + 1 + 1))) = k by omega]
structure TuI (w wr : World) (g : Nat) (l : List (Nat × Nat)) (j : Nat) : Prop where
  row : wr.heap[g]? = some (.cells (tuC l j).toArray 41 (0, 0))
  kp : Kp w wr
  gn : w.heap.size ≤ g
set_option maxHeartbeats 2000000 in
set_option maxRecDepth 10000 in
theorem turned_any (w : World) (v : Value) (l : List (Nat × Nat)) (h : RdE w v l) (hl : l.length < 1000000) :
    Calls Try.prog 23 #[v] w fun e w' => ∃ v', e = .returned v' ∧ RdE w' v' (l.map swp) ∧ Kp w w' ∧ (∀ k, blk v' = some k → w.heap.size ≤ k) := by
  obtain ⟨a, cap, rfl, hc⟩ := h.ex
  have HC : Hid (l = [] ∨ ∃ b o, a = some ⟨b, o, none⟩ ∧ ∀ j (h : j < l.length), w.cell? ⟨b, o + j * 2, none⟩ = some (.int .i64 (l[j].1 : Nat)) ∧ w.cell? ⟨b, o + j * 2 + 1, none⟩ = some (.int .i64 (l[j].2 : Nat))) := hc
  have hmk := make37 w l.length hl
  obtain ⟨w1, hw1⟩ : ∃ w1, w1 = w.alloc (.cells (List.replicate (2 * l.length) (.int .i64 0)).toArray 41) := ⟨_, rfl⟩
  rw [← hw1] at hmk
  have HI0 : Hid (TuI w w1 w.heap.size l 0) := by
    refine ⟨?_, by rw [hw1]; exact (Chg.refl w _).alloc _, Nat.le_refl _⟩
    rw [hw1, tuC_zero]; exact heap_alloc_new w _
  clear hc h hw1
  generalize w.heap.size = g at hmk HI0
  go_enter Try.func23, Try.ntmps23
  go_wp2_with fail
  go_loopw [11, 4, 5] (fun s11 s4 s5 wr => ∃ j : Nat, s11 = .int .i64 j ∧ j ≤ l.length ∧ Hid (TuI w wr g l j)) (fun s11 _ _ _ => l.length - nI s11)
  case atStart => exact ⟨0, rfl, by omega, HI0⟩
  case round =>
    obtain ⟨j, rfl, hj, HI⟩ := hrel
    clear HI0
    by_cases hlt : j < l.length
    · have hjz : (j : Int) < (l.length : Int) := by omega
      rcases HC.out with h0 | ⟨b, o, rfl, hcc⟩
      · subst h0; simp at hlt
      · obtain ⟨h1, h2⟩ := hcc j hlt
        have k1 := Chg.cell' HI.out.kp (fun e => e) h1
        have k2 := Chg.cell' HI.out.kp (fun e => e) h2
        have gl : g < wr.heap.size := hp_lt HI.out.row
        have hz := tuC_step l j hlt
        obtain ⟨E, hE⟩ : ∃ E, E = l[j] := ⟨_, rfl⟩
        rw [← hE] at k1 k2 hz
        obtain ⟨w2, hw2⟩ : ∃ w2, w2 = wr.alloc (.cells #[.int .i64 (E.1 : Nat), .int .i64 (E.2 : Nat)] 41) := ⟨_, rfl⟩
        have r2 : w2.heap[g]? = some (.cells (tuC l j).toArray 41 (0, 0)) := by rw [hw2]; exact al_old _ HI.out.row
        have hst := store41 w2 g (tuC l j) (j * 2) (.int .i64 (E.2 : Nat)) (.int .i64 (E.1 : Nat)) r2 (by rw [tuC_len]; omega) rfl rfl
        rw [hz] at hst
        have HN : Hid (TuI w (w2.setRow g (tuC l (j + 1)).toArray) g l (j + 1)) := by
          refine ⟨setRow_heap w2 g _ _ 41 _ r2, ?_, HI.out.gn⟩
          rw [hw2]
          exact Chg.setRow (HI.out.kp.alloc _) (.inr HI.out.gn) _
        rw [hw2] at hst HN
        clear hcc h1 h2 hE gl hz r2 hw2 HI
        go_wp2_with (refine wpList_store_row rfl 41 (.tmp 23) (.tmp 22) rfl g (j * 2) _ rfl rfl _ hst ?_; simp only [Act.put])
        exact ⟨⟨j + 1, by go_num, by omega, HN⟩, by simp [nI]; omega⟩
    · have hjz : ¬ (j : Int) < (l.length : Int) := by omega
      obtain rfl : j = l.length := by omega
      go_wp2_with fail
      go_ret
      have F := HI.out
      refine ⟨.slice (some ⟨g, 0, none⟩) l.length l.length, rfl, ⟨some ⟨g, 0, none⟩, l.length, by rw [List.length_map], ?_⟩, F.kp, fun k hk => by
        obtain rfl : g = k := by simpa [blk] using hk
        exact Nat.le_refl _⟩
      right
      refine ⟨g, 0, rfl, fun i hi => ?_⟩
      simp only [List.length_map] at hi
      have q1 := (cells_at F.row (i * 2)).1
      have q2 := (cells_at F.row (i * 2 + 1)).1
      rw [List.getElem?_toArray, tuC_at _ _ _ (by omega)] at q1 q2
      rw [Nat.zero_add, q1, q2]
      unfold tuV
      rw [show (i * 2) / 2 = i by omega, show (i * 2 + 1) / 2 = i by omega, if_pos hi, if_pos hi, List.getElem?_eq_getElem hi, show (i * 2) % 2 = 0 by omega, show (i * 2 + 1) % 2 = 1 by omega]
      simp [swp]
end Go.Proofs.Ythgpcmickgcdhaa
