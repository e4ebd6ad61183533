import Derived.Test.YtadpgaaijdpbiaaLd
import Derived.Test.YtadpgaaijdpbiaaUi
namespace Go.Proofs.Ytadpgaaijdpbiaa
open Go.ChangeShapes Go.WideShapes Go.ChangeAt Go.RowKit Go.Shelf
set_option linter.unusedVariables false

theorem IntsIn.kept0 {w w' : World} {a : Option Addr} {len : Nat} {Z : Nat → Int} {S : Nat → Prop} (h : IntsIn w a len Z) (hc : Chg w w' S) (hS : ∀ x : Addr, a = some x → len ≠ 0 → ¬ S x.block) : IntsIn w' a len Z := by
  by_cases h0 : len = 0
  · exact ⟨.inl h0, h.le⟩
  · exact h.kept hc (fun x hx => hS x hx h0)
theorem goesCells0 (w : World) (S : Nat → Prop) (b : Nat) (a : Option Addr) (len cap : Nat) (Z : Nat → Int) (h : IntsIn w a len Z) (hb : w.heap[b]? = some (.cells #[.slice a len cap] 61 (0, 0))) (hS : ¬ S b) (ha : ∀ x : Addr, a = some x → len ≠ 0 → ¬ S x.block) :
    Goes w S 34 #[.pointer (some ⟨b, 0, none⟩)] (ofCells Z len) := by
  refine ⟨enters_of Try.func34 (by kernel_rfl) rfl, fun W t ht hC => ?_⟩
  have hk : Kp W (W.alloc (.cells #[.int .i64 t.1, .int .u32 ((t.2 : Nat) : Int)] 31)) := (Chg.refl W _).alloc _
  have hI := ContainsInt_any (W.alloc (.cells #[.int .i64 t.1, .int .u32 ((t.2 : Nat) : Int)] 31)) a len cap Z ((h.kept0 hC ha).kept (S := fun _ => False) hk (fun _ _ h => h)) t.1
  have hb' := al_old (.cells #[.int .i64 t.1, .int .u32 ((t.2 : Nat) : Int)] 31) (Chg.heap hC hb hS)
  have c0 : (W.alloc (.cells #[.int .i64 t.1, .int .u32 ((t.2 : Nat) : Int)] 31)).cell? ⟨b, 0, none⟩ = some (.slice a len cap) := by rw [(cells_at hb' _).1]; rfl
  have e : ofCells Z len t = hasInt Z len t.1 := rfl
  rw [e]
  generalize hasInt Z len t.1 = r at *
  unfold tV
  show Calls Try.prog 34 #[.agg #[.int .i64 t.1, .int .u32 ((t.2 : Nat) : Int)], .pointer (some ⟨b, 0, none⟩)] W _
  clear hb hC hb' h ha e
  go_enter Try.func34, Try.ntmps34
  go_wp2_with (go_at_call 35; refine hI.mono ?_; rintro e w' ⟨rfl, rfl⟩)
  go_ret
  exact ⟨rfl, hk⟩
set_option maxRecDepth 10000 in
theorem FlushCell_any0 (w : World) (B M : Nat) (v : Value) (n k : Nat) (s : Sta) (hT : IsT w B M v n k s) (a : Option Addr) (len cap : Nat) (Z : Nat → Int) (h : IntsIn w a len Z) (ha : ∀ x : Addr, a = some x → len ≠ 0 → ¬ Ft B M v x.block) :
    Calls Try.prog 17 #[.pointer (some ⟨B, 0, none⟩), .slice a len cap] w fun e w' => e = .returned (.int .i64 (((s.l.length : Nat) : Int) - (((s.drop (ofCells Z len)).l.length : Nat) : Int))) ∧ ∃ v', IsT w' B M v' n k (s.drop (ofCells Z len)) ∧ v'.ownBlock = v.ownBlock ∧ Chg w w' (Ft B M v) := by
  have hk : Kp w (w.alloc (.cells #[.slice a len cap] 61)) := (Chg.refl w _).alloc _
  have hF := forget_any _ B M v n k s (ofCells Z len) 34 #[.pointer (some ⟨w.heap.size, 0, none⟩)] (hT.kp hk) (goesCells0 _ _ w.heap.size a len cap Z (h.kept (S := fun _ => False) hk (fun _ _ h => h)) (heap_alloc_new w _) (fun h => Nat.lt_irrefl _ (hT.lt h)) ha)
  generalize ((s.l.length : Nat) : Int) - (((s.drop (ofCells Z len)).l.length : Nat) : Int) = r at *
  have HK : Hid (Kp w (w.alloc (.cells #[.slice a len cap] 61))) := hk
  clear hk hT h ha
  go_enter Try.func17, Try.ntmps17
  go_wp2_with (go_at_call 32; refine hF.mono ?_; rintro e w2 ⟨rfl, v', h1, h2, h3⟩)
  go_ret
  exact ⟨rfl, v', h1, h2, (HK.out.mono (fun _ _ h => h.elim)).trans h3 (fun _ _ h => h)⟩

/-! What stays behind a flush, in its order. -/
def cnt (q : Sl4 → Bool) (l : List Sl4) (i : Nat) : Nat := ((l.take i).filter q).length
theorem cnt_zero (q : Sl4 → Bool) (l : List Sl4) : cnt q l 0 = 0 := by simp [cnt]
theorem cnt_all (q : Sl4 → Bool) (l : List Sl4) : cnt q l l.length = (l.filter q).length := by simp [cnt]
theorem take_one (l : List Sl4) (i : Nat) (h : i < l.length) : l.take (i + 1) = l.take i ++ [bAt l i] := by
  rw [List.take_add_one, List.getElem?_eq_getElem h, bAt_get l i h]; rfl
theorem cnt_yes {q : Sl4 → Bool} {l : List Sl4} {i : Nat} (h : i < l.length) (hq : q (bAt l i) = true) : cnt q l (i + 1) = cnt q l i + 1 := by
  unfold cnt
  rw [take_one l i h, List.filter_append, List.filter_cons, if_pos hq]
  simp
theorem cnt_no {q : Sl4 → Bool} {l : List Sl4} {i : Nat} (h : i < l.length) (hq : q (bAt l i) = false) : cnt q l (i + 1) = cnt q l i := by
  unfold cnt
  rw [take_one l i h, List.filter_append, List.filter_cons, if_neg (by rw [hq]; simp)]
  simp
theorem cnt_le (q : Sl4 → Bool) (l : List Sl4) (i : Nat) : cnt q l i ≤ i := by
  have := List.length_filter_le q (l.take i)
  have := List.length_take (l := l) (i := i)
  unfold cnt; omega
theorem cnt_at {q : Sl4 → Bool} {l : List Sl4} {i : Nat} (h : i < l.length) (hq : q (bAt l i) = true) : cnt q l i < (l.filter q).length ∧ bAt (l.filter q) (cnt q l i) = bAt l i := by
  have e : l.filter q = (l.take i).filter q ++ bAt l i :: (l.drop (i + 1)).filter q := by
    conv => lhs; rw [← List.take_append_drop i l]
    rw [List.filter_append, List.drop_eq_getElem_cons h, ← bAt_get l i h, List.filter_cons, if_pos hq]
  refine ⟨by rw [e]; simp [cnt], ?_⟩
  unfold bAt cnt
  rw [e, List.getD_eq_getElem?_getD, List.getElem?_append_right (Nat.le_refl _)]
  simp [bAt]
def stays (Z : Nat → Int) (len : Nat) (x : Sl4) : Bool := !hasInt Z len x.1.1
theorem drop_slots (s : Sta) (Z : Nat → Int) (len : Nat) : (s.drop (ofCells Z len)).slots = s.slots.filter (stays Z len) := by
  unfold Sta.slots
  rw [List.filter_map]
  show (s.l.filter fun t => !ofCells Z len t).map _ = _
  have e1 : (stays Z len ∘ fun t => (t, (s.f t).getD m0)) = fun t => !ofCells Z len t := by funext t; rfl
  rw [e1]
  apply List.map_congr_left
  intro t ht
  have := (List.mem_filter.1 ht).2
  show (t, ((if ofCells Z len t then Option.none else s.f t)).getD m0) = _
  rw [if_neg (by intro e; rw [e] at this; cases this)]

/-- Two TLBs apart, both made since w. -/
structure Dbl (w W : World) (B M : Nat) (v : Value) (k : Nat) (s : Sta) (B' M' : Nat) (v' : Value) (k' : Nat) (s' : Sta) (n : Nat) : Prop where
  a : Fr w W B M v n k s
  b : Fr w W B' M' v' n k' s'
  ap : ∀ i, Ft B M v i → ¬ Ft B' M' v' i
theorem Dbl.later {w W W' : World} {B M : Nat} {v : Value} {k : Nat} {s : Sta} {B' M' : Nat} {v' : Value} {k' : Nat} {s' : Sta} {n : Nat} (h : Dbl w W B M v k s B' M' v' k' s' n) (hk : Kp W W') : Dbl w W' B M v k s B' M' v' k' s' n := ⟨h.a.later hk, h.b.later hk, h.ap⟩
theorem Dbl.turn {w W : World} {B M : Nat} {v : Value} {k : Nat} {s : Sta} {B' M' : Nat} {v' : Value} {k' : Nat} {s' : Sta} {n : Nat} (h : Dbl w W B M v k s B' M' v' k' s' n) : Dbl w W B' M' v' k' s' B M v k s n := ⟨h.b, h.a, fun i h1 h2 => h.ap i h2 h1⟩
theorem Dbl.step {w W W' : World} {B M : Nat} {v u : Value} {k j : Nat} {s r : Sta} {B' M' : Nat} {v' : Value} {k' : Nat} {s' : Sta} {n : Nat} (h : Dbl w W B M v k s B' M' v' k' s' n) (hT : IsT W' B M u n j r) (hC : Chg W W' (Ft B M v)) (hL : Loc W v u) : Dbl w W' B M u j r B' M' v' k' s' n := by
  refine ⟨h.a.step hT hC hL, ⟨h.b.t.kept hC (fun i h1 h2 => h.ap i h2 h1), (h.a.step hT hC hL).kp, h.b.new⟩, fun i h1 h2 => ?_⟩
  rcases h1 with e | e | e
  · exact h.ap i (.inl e) h2
  · exact h.ap i (.inr (.inl e)) h2
  · rcases hL with e' | ⟨q, hq, hqs⟩
    · exact h.ap i (.inr (.inr (by rw [← e', e]))) h2
    · rw [hq] at e; cases e
      have := h.b.t.lt h2
      omega
end Go.Proofs.Ytadpgaaijdpbiaa
