import Derived.Test.YthgpcmickgcdhaaCk
namespace Go.Proofs.Ythgpcmickgcdhaa
open Go.ChangeShapes Go.WideShapes Go.ChangeAt Go.RowKit Go.Sort
set_option linter.unusedVariables false
/-- Sources, as they are told. -/
structure ToS (w w' : World) (g : Cf) (c : Int) (v : Value) (l : List Nat) : Prop where
  pw : l.Pairwise (· < ·)
  mem : ∀ x : Nat, x ∈ l ↔ (1 ≤ c ∧ c ≤ g.n ∧ Rch (Dn g) c.toNat x)
  rg : ∀ x, x ∈ l → 1 ≤ x ∧ x ≤ g.n
  own : OI w' v (zs l)
  nw : ∀ k, v.ownBlock = some k → w.heap.size ≤ k
  kp : Kp w w'
theorem zs_toNat {l : List Int} (h : ∀ x, x ∈ l → 0 ≤ x) : zs (l.map Int.toNat) = l := by
  unfold zs
  rw [List.map_map]
  refine (List.map_congr_left (g := id) (fun x hx => ?_)).trans (by simp)
  have := h x hx
  simp; omega
/-- The sort of numbers. -/
theorem sort_zs (left : List Nat) (hn : left.Nodup) : ∃ l : List Nat, (zs left).mergeSort (fun x y => decide (x ≤ y)) = zs l ∧ l.Pairwise (· < ·) ∧ ∀ x, x ∈ l ↔ x ∈ left := by
  obtain ⟨m, hm⟩ : ∃ m, m = (zs left).mergeSort (fun x y => decide (x ≤ y)) := ⟨_, rfl⟩
  have hp : m.Perm (zs left) := by rw [hm]; exact List.mergeSort_perm _ _
  have hs : m.Pairwise (fun a b => decide (a ≤ b) = true) := by
    rw [hm]
    exact List.pairwise_mergeSort (fun a b c h1 h2 => by simp at *; omega) (fun a b => by simp; omega) _
  have h0 : ∀ x, x ∈ m → 0 ≤ x := fun x hx => by
    have := hp.mem_iff.1 hx
    simp only [zs, List.mem_map] at this
    obtain ⟨y, _, rfl⟩ := this; omega
  have hz : zs (m.map Int.toNat) = m := zs_toNat h0
  have hpl : (m.map Int.toNat).Perm left := by
    have h1 := hp.map Int.toNat
    have h2 : (zs left).map Int.toNat = left := by
      simp [zs, List.map_map, Function.comp_def]
    rwa [h2] at h1
  refine ⟨m.map Int.toNat, by rw [← hm, hz], ?_, fun x => hpl.mem_iff⟩
  have hnd : (m.map Int.toNat).Nodup := hpl.nodup_iff.2 hn
  have h3 : (m.map Int.toNat).Pairwise (fun a b => a ≤ b) := by
    rw [List.pairwise_map]
    exact hs.imp (fun {a b} h => by simp at h; omega)
  have h4 := List.nodup_iff_pairwise_ne.1 hnd
  exact (h3.and h4).imp (fun {a b} h => by omega)
theorem chg_sortI (w : World) (b n : Nat) (d : Array Int) (os : Array Obj) : Chg w (grow (putRow (Value.int .i64) (Sort.ahead w n) b 0 d) os) (fun k => k = b) := by
  refine ⟨rfl, rfl, rfl, by simp [putRow, mapBlock], fun k hk hn => ?_⟩
  rw [heap_grow_old _ _ (by simpa [putRow, mapBlock] using hk)]
  simp [putRow, mapBlock, Array.getElem?_modify]
  intro e
  exact absurd e.symm hn
/-- Behind the sort the same list is one's own. -/
theorem own_sort {w : World} {b cap n : Nat} {os : Array Obj} {l l' : List Int} (h : OI w (.slice (some ⟨b, 0, none⟩) l.length cap) l) (hl : l'.length = l.length) : OI (grow (putRow (Value.int .i64) (Sort.ahead w n) b 0 l'.toArray) os) (.slice (some ⟨b, 0, none⟩) l.length cap) l' := by
  rcases h.2 with ⟨h1, h2⟩ | ⟨g', cap', cur, h1, h2, h3, h4, h5, h6, h7⟩
  · cases h1
  · simp only [Value.slice.injEq, Option.some.injEq, Addr.mk.injEq, and_true, true_and] at h1
    obtain ⟨rfl, rfl⟩ := h1
    refine ⟨by simp, .inr ⟨b, cap, putCells (Value.int .i64) 0 l'.toArray cur, by rw [hl], h2, ?_, by rw [hl]; exact h4, h5, by simp [putCells, h6], ?_⟩⟩
    · have hg := hp_lt h3
      rw [heap_grow_old _ _ (by simpa [putRow, mapBlock] using hg)]
      simp [putRow, mapBlock, Sort.ahead, Array.getElem?_modify, h3, onCells]
    · rw [Nat.mul_one]
      apply List.ext_getElem?
      intro j
      by_cases hj : j < l'.length
      · rw [List.getElem?_take_of_lt hj, Array.getElem?_toList]
        simp [putCells, hj, show j < cur.size by omega]
      · rw [List.getElem?_take_eq_none (by omega), List.getElem?_eq_none (by simp; omega)]
set_option maxHeartbeats 2000000 in
set_option maxRecDepth 10000 in
theorem sources_no (w : World) (A : CfA) (g : Cf) (h : IsC w A g) (c : Int) (hc : isC g.n c = false) :
    Calls Try.prog 6 #[.agg (cfC A g).toArray, .int .i64 c] w fun e w' => ∃ v l, e = .returned v ∧ ToS w w' g c v l := by
  have l31 := size31 A g
  have hU31 := Try.underlying31
  have g0 : (w.alloc (.cells (cfC A g).toArray 31)).heap[w.heap.size]? = some (.cells (cfC A g).toArray 31 (0, 0)) := heap_alloc_new w _
  have k0 : Kp w (w.alloc (.cells (cfC A g).toArray 31)) := (Chg.refl _ _).alloc _
  obtain ⟨w1, hw1⟩ : ∃ w1, w1 = w.alloc (.cells (cfC A g).toArray 31) := ⟨_, rfl⟩
  rw [← hw1] at g0 k0
  have HW : Hid (w1 = w.alloc (.cells (cfC A g).toArray 31)) := hw1
  have r0 := cfRange g0
  have hI := isCell_any w1 A g c
  rw [hc] at hI
  obtain ⟨LC, hLC⟩ : ∃ LC, LC = cfC A g := ⟨_, rfl⟩
  rw [← hLC] at HW hI l31 r0 ⊢
  have HE : Hid (∀ w', Kp w w' → ToS w w' g c (.slice none 0 0) []) := fun w' k => ⟨List.Pairwise.nil, fun x => by
    constructor
    · intro hx; cases hx
    · rintro ⟨h1, h2, _⟩; simp [isC, h1] at hc; omega, fun x hx => (by cases hx), OI.nil w', fun k hk => (by cases hk), k⟩
  clear hLC g0 h hw1 hc
  go_enter Try.func6, Try.ntmps6
  go_upto_region 1 with (refine wpList_box_run rfl 31 (.tmp 0) rfl LC.toArray rfl ?_; simp only [Act.put, List.setIfInBounds_toArray, List.set_cons_zero, List.set_cons_succ])
  rw [← HW.out]
  go_wp2_with (first | (refine wpList_load_mid rfl 31 (.tmp 2) rfl w.heap.size 0 rfl LC _ r0 hU31 rfl l31 ?_; simp only [Act.put, List.setIfInBounds_toArray, List.set_cons_zero, List.set_cons_succ]) | fail)
  go_at_call 21
  refine hI.mono ?_
  rintro e w2 ⟨rfl, k2⟩
  clear hI
  go_wp2_with fail
  go_ret
  exact ⟨_, _, rfl, HE.out w2 (Kp.trans k0 k2)⟩
set_option maxHeartbeats 2000000 in
set_option maxRecDepth 10000 in
theorem sources_yes (w : World) (A : CfA) (g : Cf) (h : IsC w A g) (c : Nat) (hc : 1 ≤ c ∧ c ≤ g.n) :
    Calls Try.prog 6 #[.agg (cfC A g).toArray, .int .i64 (c : Nat)] w fun e w' => ∃ v l, e = .returned v ∧ ToS w w' g (c : Nat) v l := by
  have l31 := size31 A g
  have hU31 := Try.underlying31
  have g0 : (w.alloc (.cells (cfC A g).toArray 31)).heap[w.heap.size]? = some (.cells (cfC A g).toArray 31 (0, 0)) := heap_alloc_new w _
  have k0 : Kp w (w.alloc (.cells (cfC A g).toArray 31)) := (Chg.refl _ _).alloc _
  obtain ⟨w1, hw1⟩ : ∃ w1, w1 = w.alloc (.cells (cfC A g).toArray 31) := ⟨_, rfl⟩
  rw [← hw1] at g0 k0
  have HW : Hid (w1 = w.alloc (.cells (cfC A g).toArray 31)) := hw1
  have r0 := cfRange g0
  have hI := isCell_any w1 A g (c : Nat)
  rw [show isC g.n (c : Nat) = true by simp [isC]; omega] at hI
  obtain ⟨LC, hLC⟩ : ∃ LC, LC = cfC A g := ⟨_, rfl⟩
  rw [← hLC] at HW hI l31 r0 ⊢
  have HL : Hid (LC = cfC A g ∧ IsC w1 A g ∧ (1 ≤ c ∧ c ≤ g.n) ∧ Kp w w1) := ⟨hLC, h.kp k0, hc, k0⟩
  clear hLC g0 h hw1 hc k0
  go_enter Try.func6, Try.ntmps6
  go_upto_region 1 with (refine wpList_box_run rfl 31 (.tmp 0) rfl LC.toArray rfl ?_; simp only [Act.put, List.setIfInBounds_toArray, List.set_cons_zero, List.set_cons_succ])
  rw [← HW.out]
  go_wp2_with (first | (refine wpList_load_mid rfl 31 (.tmp 2) rfl w.heap.size 0 rfl LC _ r0 hU31 rfl l31 ?_; simp only [Act.put, List.setIfInBounds_toArray, List.set_cons_zero, List.set_cons_succ]) | fail)
  go_at_call 21
  refine hI.mono ?_
  rintro e w2 ⟨rfl, k2⟩
  clear hI
  have RG := fun Q hPan => @reg6_3 w2 w.heap.size c A g LC HL.out.1 (HL.out.2.1.kp k2) (range_kp r0 k2) HL.out.2.2.1 Q hPan
  have HK2 : Hid (Kp w w2) := Kp.trans HL.out.2.2.2 k2
  clear r0 k2
  go_upto_region 3 with fail
  refine RG _ (fun _ _ _ q _ h => by cases q <;> exact h) ?_
  clear RG
  intro v12 v13 Wb v left w4 hU
  have k4 : Kp w w4 := Kp.trans HK2.out (Kp.trans ((Chg.refl _ _).drew) hU.kp)
  have hlen := nodup_le hU.nd hU.rg
  have hcm : c ∈ left := (hU.mem c).2 .refl
  obtain ⟨l, hl1, hl2, hl3⟩ := sort_zs left hU.nd
  rcases hU.own.at with ⟨_, e⟩ | ⟨b, cap, hv, _, h1, h2, h3, h4⟩
  · have : left = [] := by simpa [zs] using e
    rw [this] at hcm; cases hcm
  have hH : Holds (Value.int .i64) w4 b 0 (zs left).toArray := fun j hj => by
    have hj' : j < (zs left).length := by simpa using hj
    rw [Nat.zero_add, h3 j hj']
    refine ⟨?_, h4 j⟩
    congr 2
    rw [getElem!_pos (zs left).toArray j hj]
    simp
  have hb4 : b < w4.heap.size := hU.own.lt (by rw [hv]; rfl)
  have hnn := HL.out.2.1.n
  have hS := Any.slices_Sort_int lays189 b 0 cap (zs left) w4 hH hb4 (by rw [zs_len]; omega)
  change Calls Try.prog 25 _ _ _ at hS
  rw [hl1] at hS
  have hlz : (zs l).length = (zs left).length := by rw [← hl1]; simp
  subst hv
  have HE : Hid (∀ n os, ToS w (grow (putRow (Value.int .i64) (Sort.ahead w4 n) b 0 (zs l).toArray) os) g (c : Nat) (.slice (some ⟨b, 0, none⟩) (zs left).length cap) l) := by
    intro n os
    have hbw : w2.heap.size ≤ b := hU.new b rfl
    refine ⟨hl2, fun x => ?_, fun x hx => hU.rg x ((hl3 x).1 hx), own_sort hU.own hlz, fun k hk => ?_, Chg.trans k4 (chg_sortI w4 b n _ os) (fun i hi e => ?_)⟩
    · rw [hl3 x, hU.mem x]
      have := HL.out.2.2.1
      constructor
      · intro h; exact ⟨by omega, by omega, h⟩
      · rintro ⟨_, _, h⟩; exact h
    · cases hk
      exact Nat.le_trans HK2.out.size hbw
    · have := HK2.out.size; omega
  clear hU k4 hlen hcm hl1 hl2 hl3 h1 h2 h3 h4 hH hb4 hnn hlz
  go_wp2_with (go_at_call 25; refine hS.mono ?_; rintro e w5 ⟨rfl, n, os, rfl⟩)
  go_ret
  exact ⟨_, _, rfl, HE.out n os⟩
theorem sources_any (w : World) (A : CfA) (g : Cf) (h : IsC w A g) (c : Int) :
    Calls Try.prog 6 #[.agg (cfC A g).toArray, .int .i64 c] w fun e w' => ∃ v l, e = .returned v ∧ ToS w w' g c v l := by
  cases hc : isC g.n c with
  | false => exact sources_no w A g h c hc
  | true =>
    simp [isC] at hc
    obtain ⟨m, rfl⟩ : ∃ m : Nat, c = m := ⟨c.toNat, by omega⟩
    exact sources_yes w A g h m (by omega)
end Go.Proofs.Ythgpcmickgcdhaa
