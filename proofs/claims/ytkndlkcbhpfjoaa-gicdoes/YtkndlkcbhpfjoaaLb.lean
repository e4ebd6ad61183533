import Derived.Test.YtkndlkcbhpfjoaaLa
namespace Go.Proofs.Ytkndlkcbhpfjoaa
open Go.ChangeShapes Go.WideShapes Go.ChangeAt Go.RowKit Go.Shelf
set_option linter.unusedVariables false
/-- Lines, in a list of one's own. -/
abbrev OI (w : World) (v : Value) (l : List Nat) : Prop := w.ownsRow 0 3 1 v l.length (l.map fun i => .int .i64 (i : Nat))
theorem OI.at {w : World} {v : Value} {l : List Nat} (h : OI w v l) : (v = .slice none 0 0 ∧ l = []) ∨ ∃ g cap, v = .slice (some ⟨g, 0, none⟩) l.length cap ∧ (∃ o, w.heap[g]? = some o) ∧ ∀ i (hi : i < l.length), w.cell? ⟨g, i, none⟩ = some (.int .i64 (l[i] : Nat)) := by
  rcases h.2 with ⟨h1, h2⟩ | ⟨g, cap, cur, h1, h2, h3, h4, h5, h6, h7⟩
  · left; exact ⟨h1, List.eq_nil_of_length_eq_zero h2⟩
  · right
    refine ⟨g, cap, h1, ⟨_, h3⟩, fun i hi => ?_⟩
    rw [(cells_at h3 i).1, ← Array.getElem?_toList]
    have e := congrArg (fun l => l[i]?) h7
    simp only [Nat.mul_one] at e
    rw [List.getElem?_take, if_pos hi] at e
    rw [e]
    simp [hi]
theorem info3p : ∃ i, Try.prog.info? 3 = some i ∧ i.zero = some (.int .i64 0) ∧ i.size = 1 ∧ i.bytes = 8 := by
  have hz : (Try.prog.info? 3).map (fun i => (i.zero, i.size, i.bytes)) = some (some (.int .i64 0), 1, 8) := by kernel_rfl
  cases hq : Try.prog.info? 3 with
  | none => rw [hq] at hz; cases hz
  | some i =>
    rw [hq] at hz
    have hz2 : i.zero = some (.int .i64 0) ∧ i.size = 1 ∧ i.bytes = 8 := by simpa using hz
    exact ⟨i, rfl, hz2⟩
/-- 'append(v, n)'. -/
theorem app_int (w : World) (v : Value) (l : List Nat) (h : OI w v l) (n : Nat) (hl : l.length < 100) (hn : ∀ k, v.ownBlock = some k → k < w.heap.size) :
    ∃ v' w', (Builtin.append_ #[22, 22] 22 #[v, .slice (some ⟨w.heap.size, 0, none⟩) 1 1]).run Try.prog (w.alloc (.cells #[.int .i64 (n : Nat)] 3)) = .ok v' w' ∧ OI w' v' (l ++ [n]) ∧ Chg w w' (fun i => v.ownBlock = some i) ∧ Loc (w.alloc (.cells #[.int .i64 (n : Nat)] 3)) v v' := by
  obtain ⟨i0, hi, hz, hs, hb⟩ := info3p
  have ha : OI (w.alloc (.cells #[.int .i64 (n : Nat)] 3)) v l := Chg.owns ((Chg.refl w (fun _ => False)).alloc _) h (fun _ _ h => h)
  obtain ⟨v', w', hr, ho, hg, hL⟩ := run_app (P := Try.prog) (w.alloc (.cells #[.int .i64 (n : Nat)] 3)) 22 22 3 i0 (.int .i64 0) 1 8 Try.underlying22 hi hz hs hb rfl (by omega) v l.length _ ha (some ⟨w.heap.size, 0, none⟩) 1 1 [.int .i64 (n : Nat)] rfl (.inr ⟨_, _, rfl, fun j u hu => by
    have : j = 0 := by cases j with
      | zero => rfl
      | succ j => simp at hu
    subst this
    rw [(cells_at (heap_alloc_new w _) _).1]
    simpa using hu⟩) (by simp [Value.oneCell']) (by simp [maxLen]; omega) (by omega)
  refine ⟨v', w', hr, ?_, ?_, hL⟩
  · have e1 : (l ++ [n]).length = l.length + 1 := by simp
    unfold OI
    rw [e1, List.map_append]
    exact ho
  · exact Chg.grown ((Chg.refl w _).alloc _) hg (fun k hk => .inl hk)
theorem flt_succ (f : Nat → Bool) (j : Nat) : (List.range (j + 1)).filter f = (List.range j).filter f ++ (if f j then [j] else []) := by
  rw [List.range_succ, List.filter_append]
  cases h : f j <;> simp [h]
structure LoW (w wr : World) (b6 : Nat) (A : Array Value) (v : Value) (l : List Nat) : Prop where
  bx : wr.heap[b6]? = some (.cells A 38 (0, 0))
  kp : Kp w wr
  ow : OI wr v l
  nw : ∀ k, v.ownBlock = some k → w.heap.size ≤ k ∧ k ≠ b6 ∧ k < wr.heap.size
set_option maxHeartbeats 4000000 in
set_option maxRecDepth 10000 in
theorem lown_any (w : World) (B : Nat) (s : GS) (h : IsG w B s) (c : Int) :
    Calls Try.prog 22 #[.pointer (some ⟨B, 0, none⟩), .int .i64 c] w fun e w' => ∃ v, e = .returned v ∧ OI w' v (lns (s.to c)) ∧ Kp w w' ∧ (∀ k, v.ownBlock = some k → w.heap.size ≤ k) := by
  have hS := state_any w B s h
  clear h
  obtain ⟨f, hf⟩ : ∃ f, f = s.to c := ⟨_, rfl⟩
  rw [← hf]
  have HF : Hid (f = s.to c) := hf
  clear hf
  go_enter Try.func22, Try.ntmps22
  go_wp2_with fail
  go_at_call 17
  refine hS.mono ?_
  rintro e w5 ⟨rfl, k5⟩
  clear hS
  obtain ⟨ZZ, hZ⟩ : ∃ ZZ, ZZ = (gcs GS.zero).toArray := ⟨_, rfl⟩
  have hz := fun w => zero38 w
  rw [← hZ] at hz
  have g3 : (w5.alloc (.cells ZZ 38)).heap[w5.heap.size]? = some (.cells ZZ 38 (0, 0)) := heap_alloc_new w5 _
  have hst := store38 (w5.alloc (.cells ZZ 38)) w5.heap.size ZZ (gcs s).toArray 38 g3 (by rw [hZ]; exact gcs_size _) (gcs_size s) (by simpa using gcs_one s)
  obtain ⟨w6, hw6⟩ : ∃ w6, w6 = (w5.alloc (.cells ZZ 38)).setRow w5.heap.size (gcs s).toArray := ⟨_, rfl⟩
  have g6 : w6.heap[w5.heap.size]? = some (.cells (gcs s).toArray 38 (0, 0)) := by rw [hw6]; exact setRow_heap _ w5.heap.size ZZ _ 38 (0, 0) g3
  have k6 : Kp w w6 := by rw [hw6]; exact Kp.trans k5 (Chg.setRow ((Chg.refl w5 _).alloc _) (.inr (Nat.le_refl _)) _)
  rw [← hw6] at hst
  obtain ⟨b6, hb6⟩ : ∃ b6, b6 = w5.heap.size := ⟨_, rfl⟩
  rw [← hb6] at g6
  have HI0 : Hid (LoW w w6 b6 (gcs s).toArray (.slice none 0 0) []) := ⟨g6, k6, ⟨rfl, .inl ⟨rfl, rfl⟩⟩, fun k hk => by cases hk⟩
  clear hw6 g6 k6 g3 hZ k5
  have hA : ∀ i, i < 32 → (gcs s).toArray[i]? = some (.int .i64 (s.rt i : Nat)) := fun i hi => by rw [List.getElem?_toArray, gcs_rt s i hi]
  generalize (gcs s).toArray = A at *
  go_wp2_with (first | (refine wpList_alloc_zero _ rfl 38 ZZ rfl (hz _) ?_; simp only [Act.put, List.setIfInBounds_toArray, List.set_cons_zero, List.set_cons_succ]) | (refine wpList_store_row rfl 38 (.tmp 6) (.tmp 9) rfl w5.heap.size 0 A rfl rfl _ hst ?_; simp only [Act.put]))
  rw [← hb6]
  clear hst hz hb6
  go_loopw [5, 7] (fun s5 s7 wr => ∃ (v : Value) (j : Nat), v = s5 ∧ s7 = .int .i64 j ∧ j ≤ 32 ∧ Hid (LoW w wr b6 A v ((List.range j).filter f))) (fun _ s7 _ => 32 - (intOf s7).toNat)
  case atStart => exact ⟨_, 0, rfl, rfl, by omega, HI0⟩
  case round =>
    obtain ⟨v, j, rfl, rfl, hj, HI⟩ := hrel
    clear HI0
    by_cases hlt : j < 32
    · have hjz : (j : Int) < 32 := by omega
      have cj := (cells_at HI.out.bx j).1
      rw [hA j hlt] at cj
      have hfj : f j = decide ((s.rt j : Int) = c) := by rw [HF.out]; rfl
      have hL := flt_succ f j
      by_cases hr : (s.rt j : Int) = c
      · have hft : f j = true := by rw [hfj]; simp [hr]
        rw [hft, if_pos rfl] at hL
        have hlen : ((List.range j).filter f).length < 100 := by
          have := List.length_filter_le f (List.range j)
          simp at this; omega
        obtain ⟨v', w', hrun, ho, hc, hLoc⟩ := app_int wr v _ HI.out.ow j hlen (fun k hk => (HI.out.nw k hk).2.2)
        have HN : Hid (LoW w w' b6 A v' ((List.range (j + 1)).filter f)) := by
          rw [hL]
          have hb6 : b6 < wr.heap.size := hp_lt HI.out.bx
          refine ⟨hc.heap HI.out.bx (fun e => (HI.out.nw _ e).2.1 rfl), Chg.trans HI.out.kp hc (fun i hi e => by have := (HI.out.nw i e).1; omega), ho, fun k hk => ?_⟩
          have hk' : k < w'.heap.size := by
            rcases ho.2 with ⟨e, _⟩ | ⟨g, cap, cur, e, _, hg, _⟩
            · rw [e] at hk; cases hk
            · rw [e] at hk; cases hk; exact hp_lt hg
          rcases hLoc with e | ⟨k', e, hk2⟩
          · rw [e] at hk; exact ⟨(HI.out.nw k hk).1, (HI.out.nw k hk).2.1, hk'⟩
          · rw [e] at hk; cases hk
            have := HI.out.kp.size
            simp at hk2
            exact ⟨by omega, by omega, hk'⟩
        clear hL hft hfj hlen ho hc hLoc
        go_wp2_with (at_builtin; refine wpList_append_run _ rfl (.tmp 20) (.tmp 22) 22 22 rfl _ _ v' w' rfl rfl hrun ?_)
        exact ⟨⟨v', j + 1, rfl, by go_num, by omega, HN⟩, by simp [intOf]; omega⟩
      · have hft : f j = false := by rw [hfj]; simp [hr]
        rw [hft] at hL
        simp only [Bool.false_eq_true, if_false, List.append_nil] at hL
        have hrb : ((s.rt j : Int) == c) = false := by rw [beq_eq_false_iff_ne]; exact hr
        have HN : Hid (LoW w wr b6 A v ((List.range (j + 1)).filter f)) := by rw [hL]; exact HI.out
        clear hL hft hfj
        go_wp2
        exact ⟨⟨v, j + 1, rfl, by go_num, by omega, HN⟩, by simp [intOf]; omega⟩
    · have hjz : ¬ (j : Int) < 32 := by omega
      obtain rfl : j = 32 := by omega
      go_wp2
      go_ret
      exact ⟨v, rfl, HI.out.ow, HI.out.kp, fun k hk => (HI.out.nw k hk).1⟩
end Go.Proofs.Ytkndlkcbhpfjoaa
