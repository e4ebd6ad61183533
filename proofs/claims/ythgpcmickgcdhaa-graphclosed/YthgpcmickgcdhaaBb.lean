import Derived.Test.YthgpcmickgcdhaaBa
import Derived.Shelf.Abstract
namespace Go.Proofs.Ythgpcmickgcdhaa
open Go.ChangeShapes Go.WideShapes Go.ChangeAt Go.RowKit
set_option linter.unusedVariables false

/-- A walk in memory: box W, rows Bb (been), Ba (ahead; vs its slices). -/
def bnC (n : Nat) (been : Nat → Bool) : List Value := (List.range (n + 1)).map (fun i => .bool (been i))
def ahC (n : Nat) (vs : Nat → Value) : List Value := (List.range (n + 1)).map vs
/-- A slice as slices are. -/
def capOK : Value → Prop
  | .slice _ l c => l ≤ c ∧ c ≤ maxLen
  | _ => False
structure IsW (w : World) (W Bb Ba n : Nat) (been : Nat → Bool) (vs : Nat → Value) (A : Nat → List Int) : Prop where
  box : w.heap[W]? = some (.cells #[.slice (some ⟨Bb, 0, none⟩) (n + 1) (n + 1), .slice (some ⟨Ba, 0, none⟩) (n + 1) (n + 1)] 84 (0, 0))
  bn : w.heap[Bb]? = some (.cells (bnC n been).toArray 4 (0, 0))
  ah : w.heap[Ba]? = some (.cells (ahC n vs).toArray 34 (0, 0))
  rd : ∀ i, i ≤ n → RdI w (vs i) (A i)
  cp : ∀ i, i ≤ n → capOK (vs i)
theorem bnC_at (n : Nat) (been : Nat → Bool) (i : Nat) (h : i ≤ n) : (bnC n been)[i]? = some (.bool (been i)) := by simp [bnC, List.getElem?_range (show i < n + 1 by omega)]
theorem ahC_at (n : Nat) (vs : Nat → Value) (i : Nat) (h : i ≤ n) : (ahC n vs)[i]? = some (vs i) := by simp [ahC, List.getElem?_range (show i < n + 1 by omega)]
theorem bnC_set (n : Nat) (been : Nat → Bool) (i : Nat) (h : i ≤ n) (b : Bool) : (bnC n been).toArray.setIfInBounds i (.bool b) = (bnC n (upd been i b)).toArray := by
  apply Array.ext'
  simp only [Array.toList_setIfInBounds]
  apply List.ext_getElem?
  intro j
  rw [List.getElem?_set]
  have hl : (bnC n been).length = n + 1 := by simp [bnC]
  by_cases hj : i = j
  · subst hj; rw [if_pos rfl, if_pos (by omega), bnC_at n _ i h, upd_same]
  · rw [if_neg hj]
    by_cases h2 : j ≤ n
    · rw [bnC_at n _ j h2, bnC_at n _ j h2, upd_other _ _ (fun e => hj e.symm)]
    · rw [List.getElem?_eq_none (by simp [bnC]; omega), List.getElem?_eq_none (by simp [bnC]; omega)]
theorem ahC_set (n : Nat) (vs : Nat → Value) (i : Nat) (h : i ≤ n) (v : Value) : (ahC n vs).toArray.setIfInBounds i v = (ahC n (upd vs i v)).toArray := by
  apply Array.ext'
  simp only [Array.toList_setIfInBounds]
  apply List.ext_getElem?
  intro j
  rw [List.getElem?_set]
  have hl : (ahC n vs).length = n + 1 := by simp [ahC]
  by_cases hj : i = j
  · subst hj; rw [if_pos rfl, if_pos (by omega), ahC_at n _ i h, upd_same]
  · rw [if_neg hj]
    by_cases h2 : j ≤ n
    · rw [ahC_at n _ j h2, ahC_at n _ j h2, upd_other _ _ (fun e => hj e.symm)]
    · rw [List.getElem?_eq_none (by simp [ahC]; omega), List.getElem?_eq_none (by simp [ahC]; omega)]
section
variable {w w' : World} {W Bb Ba n : Nat} {been : Nat → Bool} {vs : Nat → Value} {A : Nat → List Int}
theorem IsW.no (h : IsW w W Bb Ba n been vs A) : W ≠ Bb ∧ W ≠ Ba ∧ Bb ≠ Ba := by
  refine ⟨fun e => ?_, fun e => ?_, fun e => ?_⟩
  · have := h.box; rw [e, h.bn] at this; simp at this
  · have := h.box; rw [e, h.ah] at this; simp at this
  · have := h.bn; rw [e, h.ah] at this; simp at this
theorem IsW.lt (h : IsW w W Bb Ba n been vs A) : W < w.heap.size ∧ Bb < w.heap.size ∧ Ba < w.heap.size := ⟨hp_lt h.box, hp_lt h.bn, hp_lt h.ah⟩
theorem IsW.chg {S : Nat → Prop} (h : IsW w W Bb Ba n been vs A) (hc : Chg w w' S) (h1 : ¬ S W) (h2 : ¬ S Bb) (h3 : ¬ S Ba) (h4 : ∀ i k, i ≤ n → blk (vs i) = some k → ¬ S k) : IsW w' W Bb Ba n been vs A :=
  ⟨hc.heap h.box h1, hc.heap h.bn h2, hc.heap h.ah h3, fun i hi => (h.rd i hi).chg hc (fun k hk => h4 i k hi hk), h.cp⟩
theorem IsW.c0 (h : IsW w W Bb Ba n been vs A) : w.cell? ⟨W, 0, none⟩ = some (.slice (some ⟨Bb, 0, none⟩) (n + 1) (n + 1)) := by rw [(cells_at h.box 0).1]; rfl
theorem IsW.c1 (h : IsW w W Bb Ba n been vs A) : w.cell? ⟨W, 1, none⟩ = some (.slice (some ⟨Ba, 0, none⟩) (n + 1) (n + 1)) := by rw [(cells_at h.box 1).1]; rfl
theorem IsW.cb (h : IsW w W Bb Ba n been vs A) (i : Nat) (hi : i ≤ n) : w.cell? ⟨Bb, i, none⟩ = some (.bool (been i)) := by rw [(cells_at h.bn i).1, List.getElem?_toArray, bnC_at n been i hi]
theorem IsW.ca (h : IsW w W Bb Ba n been vs A) (i : Nat) (hi : i ≤ n) : w.cell? ⟨Ba, i, none⟩ = some (vs i) := by rw [(cells_at h.ah i).1, List.getElem?_toArray, ahC_at n vs i hi]
end
/-- The rows ahead lie in none of these, and were there ahead of s0. -/
def Rows0 (n s0 Bb Ba : Nat) (vs : Nat → Value) : Prop := ∀ i k, i ≤ n → blk (vs i) = some k → k < s0 ∧ k ≠ Bb ∧ k ≠ Ba

theorem enter_been (w : World) (W Bb Ba n : Nat) (been : Nat → Bool) (vs : Nat → Value) (A : Nat → List Int) (h : IsW w W Bb Ba n been vs A) (v : Value) (c : Nat) (hc : c ≤ n) (hn : n < 4000000) (hb : been c = true) :
    Calls Try.prog 36 #[.pointer (some ⟨W, 0, none⟩), v, .int .i64 (c : Nat)] w fun e w' => e = .returned v ∧ w' = w := by
  have c0 := h.c0
  have cb := h.cb c hc
  rw [hb] at cb
  have hcz : (c : Int) < (n : Int) + 1 := by omega
  have hcz2 : (c : Int) < ((n + 1 : Nat) : Int) := by omega
  clear h
  go_enter Try.func36, Try.ntmps36
  go_wp2
  go_ret
  exact ⟨rfl, rfl⟩
set_option maxHeartbeats 1000000 in
set_option maxRecDepth 10000 in
theorem enter_new (w : World) (W Bb Ba n : Nat) (been : Nat → Bool) (vs : Nat → Value) (A : Nat → List Int) (h : IsW w W Bb Ba n been vs A) (v : Value) (p : List Int) (hv : OI w v p) (hp : p.length < 1000000) (c : Nat) (hc : c ≤ n) (hn : n < 4000000) (hb : been c = false)
    (s0 : Nat) (hr : Rows0 n s0 Bb Ba vs) (hW : W < s0) (hBa : Ba < s0) (hs0 : s0 ≤ w.heap.size) (hvs : ∀ k, v.ownBlock = some k → s0 ≤ k) (hBb : Bb < s0) :
    Calls Try.prog 36 #[.pointer (some ⟨W, 0, none⟩), v, .int .i64 (c : Nat)] w fun e w' => ∃ v', e = .returned v' ∧ OI w' v' (p ++ [(c : Int)]) ∧ IsW w' W Bb Ba n (upd been c true) vs A ∧ Chg w w' (fun k => k = Bb ∨ v.ownBlock = some k) ∧ (v'.ownBlock = v.ownBlock ∨ ∃ k, v'.ownBlock = some k ∧ w.heap.size < k) := by
  have c0 := h.c0
  have cb := h.cb c hc
  have fb := (cells_at h.bn c).2
  rw [hb] at cb
  have hcz : (c : Int) < (n : Int) + 1 := by omega
  have hcz2 : (c : Int) < ((n + 1 : Nat) : Int) := by omega
  obtain ⟨w1, hw1⟩ : ∃ w1, w1 = w.setCell ⟨Bb, c, none⟩ (.bool true) := ⟨_, rfl⟩
  have k1 : Chg w w1 (fun k => k = Bb) := by rw [hw1]; exact Chg.setCell (S := fun k => k = Bb) (Chg.refl w _) (.inl rfl) _
  have hv1 : OI w1 v p := k1.owns hv (fun k hk e => by have := hvs k hk; omega)
  have i1 : IsW w1 W Bb Ba n (upd been c true) vs A := by
    obtain ⟨n1, n2, n3⟩ := h.no
    refine ⟨k1.heap h.box n1, ?_, k1.heap h.ah (fun e => n3 e.symm), fun i hi => (h.rd i hi).chg k1 (fun k hk e => (hr i k hi hk).2.1 e), h.cp⟩
    rw [hw1, ← bnC_set n been c hc true]
    exact heap_setCell_same w Bb c _ 4 (.bool true) h.bn
  have hs1 : w1.heap.size = w.heap.size := by rw [hw1]; simp [World.setCell]
  obtain ⟨v', w2, hrun, ho, hch, hL⟩ := app_int w1 v p hv1 (c : Int) (by omega)
  have HE : Hid (OI w2 v' (p ++ [(c : Int)]) ∧ IsW w2 W Bb Ba n (upd been c true) vs A ∧ Chg w w2 (fun k => k = Bb ∨ v.ownBlock = some k) ∧ (v'.ownBlock = v.ownBlock ∨ ∃ k, v'.ownBlock = some k ∧ w.heap.size < k)) := by
    refine ⟨ho, i1.chg hch (fun e => ?_) (fun e => ?_) (fun e => ?_) (fun i k hi hk e => ?_), Chg.trans (k1.mono (fun _ _ e => .inl e)) hch (fun _ _ e => .inr e), ?_⟩
    · have := hvs _ e; omega
    · have := hvs _ e; omega
    · have := hvs _ e; omega
    · have := hvs _ e; have := (hr i k hi hk).1; omega
    · rw [hs1] at hL; exact hL
  rw [hs1, hw1] at hrun
  clear h k1 hv1 i1 ho hch hL hr hvs hv hs1 hw1
  go_enter Try.func36, Try.ntmps36
  go_wp2_with (at_builtin; refine wpList_append_run _ rfl (.tmp 21) (.tmp 23) 34 34 rfl _ _ v' w2 rfl rfl hrun ?_)
  go_ret
  exact ⟨v', rfl, HE.out⟩
end Go.Proofs.Ythgpcmickgcdhaa
