import Derived.Test.YtadpgaaijdpbiaaTd
namespace Go.Proofs.Ytadpgaaijdpbiaa
open Go.ChangeShapes Go.WideShapes Go.ChangeAt Go.RowKit Go.Shelf
set_option linter.unusedVariables false

def mkS (F : Nat) (t : Nat) : Sl4 := ((-1000 - (F : Int) - (t : Int), 0), (0, 0))
/-- The two lists, being written. -/
structure O1 (w wr : World) (ra : Nat → Option Addr) (rc : Nat → Nat) (L F i k : Nat) (ls : Nat → List Sl4) : Prop where
  sr : ∀ t, t < 2 → SR wr (.slice (ra t) L (rc t)) (ls t)
  ln : ∀ t, t < 2 → (ls t).length = L
  mks : ∀ t, t < 2 → ∀ q, q < (if t < i then L else if t = i then k else 0) → bAt (ls t) q = mkS F t
  ch : Chg w wr (fun b => ∃ t, t < 2 ∧ (Value.slice (ra t) L (rc t)).ownBlock = some b)
theorem O1.put {w wr : World} {ra : Nat → Option Addr} {rc : Nat → Nat} {L F i k : Nat} {ls : Nat → List Sl4} (h : O1 w wr ra rc L F i k ls) (hi : i < 2) (hk : k < L) (g : Nat) (hg : ra i = some ⟨g, 0, none⟩)
    (hd : ∀ t, t < 2 → t ≠ i → (Value.slice (ra t) L (rc t)).ownBlock ≠ some g) : O1 w (st4 wr g (k * 4) (mkS F i)) ra rc L F i (k + 1) (fun t => if t = i then (ls i).set k (mkS F i) else ls t) := by
  have hog : (Value.slice (ra i) L (rc i)).ownBlock = some g := by rw [hg]; rfl
  have hrow : ∃ cur, wr.heap[g]? = some (.cells cur 58 (0, 0)) := by
    rcases (h.sr i hi).2 with ⟨e, _⟩ | ⟨g', cap, cur, e, _, hgg, _⟩
    · rw [hg] at e; cases e
    · rw [hg] at e; simp at e; exact ⟨cur, by rw [e.1]; exact hgg⟩
  obtain ⟨cur, hcur⟩ := hrow
  have hC := (st4_row wr g (k * 4) cur (mkS F i) hcur).2
  refine ⟨fun t ht => ?_, fun t ht => ?_, fun t ht q hq => ?_, Chg.trans h.ch hC (fun b _ e => ⟨i, hi, by rw [e]; exact hog⟩)⟩
  · by_cases e : t = i
    · subst e; simp only [if_true]; exact (h.sr t ht).put hog k (by rw [h.ln t ht]; exact hk) _
    · simp only [e, if_false]; exact Chg.owns hC (h.sr t ht) (fun b hb e' => hd t ht e (by rw [← e']; exact hb))
  · by_cases e : t = i
    · subst e; simp only [if_true, List.length_set]; exact h.ln t ht
    · simp only [e, if_false]; exact h.ln t ht
  · by_cases e : t = i
    · subst e
      simp only [if_true]
      simp only [Nat.lt_irrefl, if_false, if_true] at hq
      have hql : q < (ls t).length := by rw [h.ln t ht]; omega
      rw [bAt_get _ _ (by simpa using hql), List.getElem_set]
      by_cases e2 : k = q
      · rw [if_pos e2]
      · rw [if_neg e2, ← bAt_get _ _ hql]
        exact h.mks t ht q (by simp only [Nat.lt_irrefl, if_false, if_true]; omega)
    · simp only [e, if_false] at hq ⊢
      exact h.mks t ht q (by simp only [e, if_false]; exact hq)
theorem O1.next {w wr : World} {ra : Nat → Option Addr} {rc : Nat → Nat} {L F i : Nat} {ls : Nat → List Sl4} (h : O1 w wr ra rc L F i L ls) : O1 w wr ra rc L F (i + 1) 0 ls :=
  ⟨h.sr, h.ln, fun t ht q hq => h.mks t ht q (by
    by_cases e : t < i
    · rw [if_pos e]; rw [if_pos (by omega)] at hq; exact hq
    · by_cases e2 : t = i
      · rw [if_neg e, if_pos e2]; rw [if_pos (by omega)] at hq; exact hq
      · rw [if_neg (by omega)] at hq
        split at hq <;> omega), h.ch⟩
theorem rep_ext {L : Nat} {l : List Sl4} {x : Sl4} (hl : l.length = L) (h : ∀ q, q < L → bAt l q = x) : l = List.replicate L x := by
  apply List.ext_getElem (by simp [hl])
  intro j h1 h2
  rw [← bAt_get l j h1, h j (by omega)]
  simp
/-- Behind the first of the two. -/
structure O2 (w : World) (lab : Nat → Nat) (D : Nat) (ps : List Pr) (F ab : Nat) (ra : Nat → Option Addr) (rc : Nat → Nat) (L i : Nat) (wx : World) (labx : Nat → Nat) (Rx : Rows) (hsx : List Hd) : Prop where
  wi : WI wx labx D Rx ps hsx
  nx : Nx w lab wx labx
  len : hsx.length = F + 2 * i
  sr : ∀ t, i ≤ t → t < 2 → SR wx (.slice (ra t) L (rc t)) (List.replicate L (mkS F t))
  off : ∀ t, i ≤ t → t < 2 → Off hsx (fun b => (Value.slice (ra t) L (rc t)).ownBlock = some b)
  l5 : ∀ t, t < 2 → ∀ b, (Value.slice (ra t) L (rc t)).ownBlock = some b → labx b = 5 ∧ b < wx.heap.size
  ar : wx.heap[ab]? = some (.cells #[.slice (ra 0) L (rc 0), .slice (ra 1) L (rc 1)] 55 (0, 0))
  la : labx ab = 7
/-- A list is made longer. -/
structure O3 (wx wy : World) (rv : Value) (ra : Option Addr) (L F i k : Nat) (lv : Value) : Prop where
  sr : SR wy lv (List.replicate (L + k) (mkS F i))
  loc : lv.ownBlock = rv.ownBlock ∨ ∃ b, lv.ownBlock = some b ∧ wx.heap.size ≤ b
  ch : Chg wx wy (fun b => rv.ownBlock = some b)
  mks : L = 0 ∨ ∃ g, ra = some ⟨g, 0, none⟩ ∧ g < wx.heap.size ∧ ∀ q, q < L → wy.cell? ⟨g, q * 4, none⟩ = some (.int .i64 (mkS F i).1.1)
theorem O3.more {wx wy : World} {ra : Option Addr} {rc L F i k : Nat} {lv : Value} (h : O3 wx wy (.slice ra L rc) ra L F i k lv) {v' : Value} {W' : World} (q1 : SR W' v' (List.replicate (L + k) (mkS F i) ++ [mkS F i])) (q2 : Chg wy W' (fun i => lv.ownBlock = some i)) (q3 : Loc wy lv v') (q5 : v'.ownBlock = lv.ownBlock ∨ Kp wy W') : O3 wx W' (.slice ra L rc) ra L F i (k + 1) v' := by
  have hrep : List.replicate (L + k) (mkS F i) ++ [mkS F i] = List.replicate (L + (k + 1)) (mkS F i) := by rw [← Nat.add_assoc, List.replicate_succ']
  rw [hrep] at q1
  have hloc : v'.ownBlock = (Value.slice ra L rc).ownBlock ∨ ∃ b, v'.ownBlock = some b ∧ wx.heap.size ≤ b := by
    rcases q3 with e | ⟨b, hb, hbs⟩
    · rcases h.loc with e2 | ⟨b, hb, hbs⟩
      · exact .inl (e.trans e2)
      · exact .inr ⟨b, e.trans hb, hbs⟩
    · exact .inr ⟨b, hb, Nat.le_trans h.ch.size hbs⟩
  refine ⟨q1, hloc, Chg.trans h.ch q2 (fun b hb e => ?_), ?_⟩
  · rcases h.loc with e2 | ⟨b', hb', hbs⟩
    · rw [← e2]; exact e
    · rw [hb'] at e; cases e; omega
  · refine h.mks.imp_right ?_
    rintro ⟨g, hg, hgl, hc⟩
    refine ⟨g, hg, hgl, fun q hq => ?_⟩
    have hgy : g < wy.heap.size := Nat.lt_of_lt_of_le hgl h.ch.size
    by_cases e : lv.ownBlock = some g
    · rcases q5 with e5 | e5
      · rw [e] at e5
        rcases q1.2 with ⟨e', _⟩ | ⟨g', cap', cur', e', _⟩
        · rw [e'] at e5; cases e5
        · rw [e'] at e5; cases e5
          rw [e'] at q1
          have hcc := (SR.cells q1 q (by simp; omega)).1
          simp at hcc
          exact hcc
      · exact Kp.cell e5 (hc q hq)
    · exact (q2.cell hgy e).trans (hc q hq)

/-- Both rows of the world are made longer by two. -/
theorem held_two (w : World) (lab : Nat → Nat) (D : Nat) (R : Rows) (ps : List Pr) (hs : List Hd) (h : WI w lab D R ps hs) (h6 : hs.length ≤ 200000) (e1 e2 : Hd) (m1 : Mk w lab e1) (m2 : Mk w lab e2) :
    ∃ v1 W1 v2 W3, (Builtin.append_ #[67, 67] 67 #[R.h, .slice (some ⟨w.heap.size, 0, none⟩) 2 2]).run Try.prog (w.alloc (.cells #[hV e1, hV e2] 55)).drew = .ok v1 W1 ∧
      (∃ a b c, v1 = .slice (some a) b c) ∧ (∃ z, W1.cell? ⟨D, 2, none⟩ = some z) ∧ W1.frozen? ⟨D, 2, none⟩ = false ∧ Chg w W1 (fun b => R.h.ownBlock = some b) ∧ R.h.ownBlock ≠ some D ∧
      (W1.setCell ⟨D, 2, none⟩ v1).cell? ⟨D, 3, none⟩ = some R.m ∧
      (Builtin.append_ #[61, 61] 61 #[R.m, .slice (some ⟨(W1.setCell ⟨D, 2, none⟩ v1).heap.size, 0, none⟩) 2 2]).run Try.prog ((W1.setCell ⟨D, 2, none⟩ v1).alloc (.cells #[.int .i64 e1.2, .int .i64 e2.2] 3)) = .ok v2 W3 ∧
      (∃ a b c, v2 = .slice (some a) b c) ∧ (∃ z, W3.cell? ⟨D, 3, none⟩ = some z) ∧ W3.frozen? ⟨D, 3, none⟩ = false ∧
      ∃ lab' R', WI (W3.setCell ⟨D, 3, none⟩ v2) lab' D R' ps (hs ++ [e1, e2]) ∧ Nx w lab (W3.setCell ⟨D, 3, none⟩ v2) lab' ∧ Chg w (W3.setCell ⟨D, 3, none⟩ v2) (fun i => i = D ∨ R.h.ownBlock = some i ∨ R.m.ownBlock = some i) := by
  have hD := (Array.getElem?_eq_some_iff.1 h.box).1
  have hDx : R.h.ownBlock ≠ some D := fun e => by have := h.lh D e; have := h.d; omega
  have hDy : R.m.ownBlock ≠ some D := fun e => by have := h.lm D e; have := h.d; omega
  have hxyo : ∀ b, R.m.ownBlock = some b → R.h.ownBlock ≠ some b := fun b e e' => by have := h.lh b e'; have := h.lm b e; omega
  have kd : Kp w w.drew := Chg.drew (Chg.refl w _)
  obtain ⟨v1, W1, hr1, r1, r2, r3⟩ := app_gen 67 55 24 Try.underlying67 info55r (by omega) w.drew R.h hs.length (hL hs) (Chg.owns kd h.h (fun _ _ x => x)) (by omega) [hV e1, hV e2] 2 rfl (by omega) (fun u hu => by simp at hu; rcases hu with rfl | rfl <;> rfl)
  have r2' : Chg w W1 (fun b => R.h.ownBlock = some b) := Chg.trans (kd.mono (fun _ _ h => h.elim)) r2 (fun _ _ e => e)
  have r3' : Loc w R.h v1 := r3
  have hb1 := r2'.heap h.box hDx
  have hb2 : (W1.setCell ⟨D, 2, none⟩ v1).heap[D]? = some (.cells #[R.x, R.y, v1, R.m] 69 (0, 0)) := heap_setCell_same W1 D 2 _ 69 v1 hb1
  have hCs : Chg W1 (W1.setCell ⟨D, 2, none⟩ v1) (fun i => i = D) := Chg.setCell (S := fun i => i = D) (Chg.refl _ _) (.inl rfl) _
  have hxD : v1.ownBlock ≠ some D := fun e => by
    rcases r3' with e' | ⟨g, hg, hgs⟩
    · exact hDx (by rw [← e', e])
    · rw [hg] at e; cases e; omega
  have hxlt := fun {b} => own_lt (b := b) r1
  have hy2 := Chg.owns hCs (Chg.owns r2' h.m (fun b hb e => hxyo b hb e)) (fun b hb e => hDy (by rw [← e]; exact hb))
  obtain ⟨v2, W3, hr3, t1, t2, t3⟩ := app_gen 61 3 8 Try.underlying61 info3r (by omega) (W1.setCell ⟨D, 2, none⟩ v1) R.m hs.length (mL hs) hy2 (by omega) [.int .i64 e1.2, .int .i64 e2.2] 2 rfl (by omega) (fun u hu => by simp at hu; rcases hu with rfl | rfl <;> rfl)
  have hb3 := t2.heap hb2 hDy
  have hb4 : (W3.setCell ⟨D, 3, none⟩ v2).heap[D]? = some (.cells #[R.x, R.y, v1, v2] 69 (0, 0)) := heap_setCell_same W3 D 3 _ 69 v2 hb3
  have hCt : Chg W3 (W3.setCell ⟨D, 3, none⟩ v2) (fun i => i = D) := Chg.setCell (S := fun i => i = D) (Chg.refl _ _) (.inl rfl) _
  have hsz : w.heap.size ≤ (W1.setCell ⟨D, 2, none⟩ v1).heap.size := Nat.le_trans r2'.size hCs.size
  have hyD : v2.ownBlock ≠ some D := fun e => by
    rcases t3 with e' | ⟨g, hg, hgs⟩
    · exact hDy (by rw [← e', e])
    · rw [hg] at e; cases e; omega
  have hxy : ∀ b, v2.ownBlock = some b → v1.ownBlock ≠ some b := by
    intro b hb e
    rcases t3 with e' | ⟨g, hg, hgs⟩
    · have hb' : R.m.ownBlock = some b := by rw [← e']; exact hb
      rcases r3' with e'' | ⟨g2, hg2, hgs2⟩
      · exact hxyo b hb' (by rw [← e'', e])
      · rw [hg2] at e; cases e; have := own_lt h.m hb'; omega
    · rw [hg] at hb; cases hb; have := hxlt e; have := hCs.size; omega
  have hx4 := Chg.owns hCt (Chg.owns t2 (Chg.owns hCs r1 (fun b hb e => hxD (by rw [← e]; exact hb))) (fun b hb e => by
    rcases r3' with e'' | ⟨g2, hg2, hgs2⟩
    · exact hxyo b e (by rw [← e'', hb])
    · rw [hg2] at hb; cases hb; have := own_lt h.m e; omega)) (fun b hb e => hxD (by rw [← e]; exact hb))
  have hy4 := Chg.owns hCt t1 (fun b hb e => hyD (by rw [← e]; exact hb))
  have hCall : Chg w (W3.setCell ⟨D, 3, none⟩ v2) (fun i => i = D ∨ R.h.ownBlock = some i ∨ R.m.ownBlock = some i) :=
    Chg.trans (Chg.trans (Chg.trans (r2'.mono (fun i _ e => .inr (.inl e))) hCs (fun i _ e => .inl e)) t2 (fun i _ e => .inr (.inr e))) hCt (fun i _ e => .inl e)
  have ly : Loc w R.m v2 := by
    rcases t3 with e | ⟨g, hg, hgs⟩
    · exact .inl e
    · exact .inr ⟨g, hg, by omega⟩
  obtain ⟨f1, f2⟩ := h.held2 [e1, e2] (fun e he => by simp at he; rcases he with rfl | rfl; exact m1; exact m2) (w' := W3.setCell ⟨D, 3, none⟩ v2) (hv' := v1) (mv' := v2) hx4 hy4 hb4 hCall r3' ly hxy
  have fm : ∀ {V : World} {v : Value} {n e : Nat} {xs : List Value}, V.ownsRow 0 e 1 v (n + 2) xs → ∃ a b c, v = .slice (some a) b c := by
    intro V v n e xs ho
    rcases ho.2 with ⟨_, h0⟩ | ⟨g, cap, cur, rfl, _⟩
    · omega
    · exact ⟨_, _, _, rfl⟩
  exact ⟨v1, W1, v2, W3, hr1, fm r1, ⟨_, (cells4 hb1).2.2.1⟩, (cells_at hb1 2).2, r2', hDx, (cells4 hb2).2.2.2, hr3, fm t1, ⟨_, (cells4 hb3).2.2.2⟩, (cells_at hb3 3).2, _, _, f1, f2, hCall⟩
end Go.Proofs.Ytadpgaaijdpbiaa
namespace Go.Proofs.Ytadpgaaijdpbiaa
open Go.ChangeShapes Go.WideShapes Go.ChangeAt Go.RowKit Go.Shelf
set_option linter.unusedVariables false

set_option maxHeartbeats 4000000 in
set_option maxRecDepth 10000 in
theorem own_any (w : World) (lab : Nat → Nat) (D : Nat) (R : Rows) (ps : List Pr) (hs : List Hd) (h : WI w lab D R ps hs) (h6 : hs.length ≤ 100000)
    (ab L : Nat) (ra : Nat → Option Addr) (rc : Nat → Nat) (ls : Nat → List Sl4) (hL : L ≤ 64) (hab : w.heap[ab]? = some (.cells #[.slice (ra 0) L (rc 0), .slice (ra 1) L (rc 1)] 55 (0, 0))) (hla : lab ab = 7)
    (hsr : ∀ t, t < 2 → SR w (.slice (ra t) L (rc t)) (ls t) ∧ (ls t).length = L) (hl5 : ∀ t, t < 2 → ∀ b, (Value.slice (ra t) L (rc t)).ownBlock = some b → lab b = 5 ∧ ∀ t', t' < 2 → t' ≠ t → (Value.slice (ra t') L (rc t')).ownBlock ≠ some b)
    (hoff : Off hs (fun b => ∃ t, t < 2 ∧ (Value.slice (ra t) L (rc t)).ownBlock = some b)) :
    Calls Try.prog 46 #[.pointer (some ⟨D, 0, none⟩), .slice (some ⟨ab, 0, none⟩) 2 2] w fun e w' => e = .returned (.tuple #[]) ∧ ∃ lab' R' hs', WI w' lab' D R' ps hs' ∧ Nx w lab w' lab' ∧ hs'.length = hs.length + 4 := by
  obtain ⟨ha, hc, hhv, _⟩ := row1 h.h
  obtain ⟨F, hF⟩ : ∃ F, F = hs.length := ⟨_, rfl⟩
  rw [← hF] at hhv h6
  have d2 := (cells4 h.box).2.2.1
  rw [hhv] at d2
  have KH : Hid (WI w lab D R ps hs ∧ F = hs.length ∧ w.heap[ab]? = some (.cells #[.slice (ra 0) L (rc 0), .slice (ra 1) L (rc 1)] 55 (0, 0)) ∧ lab ab = 7 ∧ (∀ t, t < 2 → ∀ b, (Value.slice (ra t) L (rc t)).ownBlock = some b → lab b = 5 ∧ ∀ t', t' < 2 → t' ≠ t → (Value.slice (ra t') L (rc t')).ownBlock ≠ some b) ∧ Off hs (fun b => ∃ t, t < 2 ∧ (Value.slice (ra t) L (rc t)).ownBlock = some b)) := ⟨h, hF, hab, hla, hl5, hoff⟩
  have K0 : Hid (O1 w w ra rc L F 0 0 ls) := ⟨fun t ht => (hsr t ht).1, fun t ht => (hsr t ht).2, fun t ht q hq => by simp at hq, Chg.refl _ _⟩
  have hcell : ∀ wr, Chg w wr (fun b => ∃ t, t < 2 ∧ (Value.slice (ra t) L (rc t)).ownBlock = some b) → ∀ t, t < 2 → wr.cell? ⟨ab, t, none⟩ = some (.slice (ra t) L (rc t)) := by
    intro wr hC t ht
    have hab' := hC.heap hab (fun ⟨t, ht, e⟩ => by have := (hl5 t ht ab e).1; omega)
    rw [(cells_at hab' _).1]
    have : t = 0 ∨ t = 1 := by omega
    rcases this with rfl | rfl <;> rfl
  have KC : Hid (∀ wr, Chg w wr (fun b => ∃ t, t < 2 ∧ (Value.slice (ra t) L (rc t)).ownBlock = some b) → ∀ t, t < 2 → wr.cell? ⟨ab, t, none⟩ = some (.slice (ra t) L (rc t))) := hcell
  clear h hhv hF hab hla hl5 hoff hsr hcell
  go_enter Try.func46, Try.ntmps46
  go_wp2_with fail
  go_loopw [5, 6] (fun s5 s6 wr => ∃ (i : Nat) (l : Nat → List Sl4), s5 = .int .i64 i ∧ i ≤ 2 ∧ Hid (O1 w wr ra rc L F i 0 l)) (fun s5 _ _ => 2 - (intOf s5).toNat)
  case atStart => exact ⟨0, ls, rfl, by omega, K0⟩
  case round =>
    obtain ⟨i, l, rfl, hi, HI⟩ := hrel
    by_cases hi2 : i < 2
    · have hi2z : (i : Int) < 2 := by omega
      go_wp2_with fail
      go_loopw [6] (fun s6 wr => ∃ (k : Nat) (l : Nat → List Sl4), s6 = .int .i64 k ∧ k ≤ L ∧ Hid (O1 w wr ra rc L F i k l)) (fun s6 _ => L - (intOf s6).toNat)
      case atStart => exact ⟨0, l, rfl, by omega, HI⟩
      case round =>
        obtain ⟨k, l2, rfl, hk, HK⟩ := hrel
        have c0 := KC.out wr HK.out.ch i hi2
        by_cases hkL : k < L
        · have hkz : (k : Int) < (L : Int) := by omega
          obtain ⟨g, hg⟩ : ∃ g, ra i = some ⟨g, 0, none⟩ := by
            rcases (HK.out.sr i hi2).2 with ⟨e, e0⟩ | ⟨g', cap, cur, e, _⟩
            · have := HK.out.ln i hi2; omega
            · simp at e; exact ⟨g', e.1⟩
          have hog : (Value.slice (ra i) L (rc i)).ownBlock = some g := by rw [hg]; rfl
          have HP := HK.out.put hi2 hkL g hg (fun t ht hne => (KH.out.2.2.2.2.1 i hi2 g hog).2 t ht hne)
          have HN : Hid (O1 w (st4 wr g (k * 4) (mkS F i)) ra rc L F i (k + 1) (fun t => if t = i then (l2 i).set k (mkS F i) else l2 t)) := HP
          have hrow : ∃ cur, wr.heap[g]? = some (.cells cur 58 (0, 0)) ∧ L * 4 ≤ cur.size := by
            rcases (HK.out.sr i hi2).2 with ⟨e, _⟩ | ⟨g', cap, cur, e, _, hgg, hnc, _, hcs, _⟩
            · rw [hg] at e; cases e
            · rw [hg] at e; simp at e
              have := HK.out.ln i hi2
              exact ⟨cur, by rw [e.1]; exact hgg, by rw [hcs]; omega⟩
          obtain ⟨cur, hcur, hcsz⟩ := hrow
          have ce : ∀ o, o < cur.size → ∃ z, wr.cell? ⟨g, o, none⟩ = some z := fun o ho => ⟨cur[o], by rw [(cells_at hcur _).1]; exact Array.getElem?_eq_getElem _⟩
          obtain ⟨z0, q0⟩ := ce (k * 4) (by omega)
          obtain ⟨z1, q1⟩ := ce (k * 4 + 1) (by omega)
          obtain ⟨z2, q2⟩ := ce (k * 4 + 2) (by omega)
          obtain ⟨z3, q3⟩ := ce (k * 4 + 3) (by omega)
          have f0 := (cells_at hcur (k * 4)).2
          have f1 := (cells_at hcur (k * 4 + 1)).2
          have f2 := (cells_at hcur (k * 4 + 2)).2
          have f3 := (cells_at hcur (k * 4 + 3)).2
          rw [hg] at c0
          unfold mkS st4 at HN
          simp only at HN
          clear HP ce hcur hcsz hog
          go_wp2
          exact ⟨⟨k + 1, _, by go_num, by omega, HN⟩, by simp [intOf]; omega⟩
        · have hkz : ¬ (k : Int) < (L : Int) := by omega
          have ek : k = L := by omega
          subst ek
          have HN : Hid (O1 w wr ra rc k F (i + 1) 0 l2) := HK.out.next
          go_wp2
          exact ⟨⟨i + 1, l2, by go_num, by omega, HN⟩, by simp [intOf]; omega⟩
    · have hi2z : ¬ (i : Int) < 2 := by omega
      have ei : i = 2 := by omega
      subst ei
      have K2 : Hid (O2 w lab D ps F ab ra rc L 0 wr (relab lab w.heap.size 5) R hs) := by
        obtain ⟨hw, hF, hab, hla, hl5, hoff⟩ := KH.out
        have hch := HI.out.ch
        have hlt : ∀ t, t < 2 → ∀ b, (Value.slice (ra t) L (rc t)).ownBlock = some b → b < w.heap.size := fun t ht b hb => own_lt ((K0.out.sr t ht)) hb
        refine ⟨hw.chg5 hch (fun b _ ⟨t, ht, e⟩ => (hl5 t ht b e).1) hoff (fun i hi => relab_old hi), ⟨hch.mono (fun b _ ⟨t, ht, e⟩ => by have := (hl5 t ht b e).1; omega), fun i hi => relab_old hi⟩, by omega, fun t _ ht => ?_, fun t _ ht x hx h0 b off e hb => hoff x hx h0 b off e ⟨t, ht, hb⟩, fun t ht b hb => ⟨by rw [relab_old (hlt t ht b hb)]; exact (hl5 t ht b hb).1, Nat.lt_of_lt_of_le (hlt t ht b hb) hch.size⟩, hch.heap hab (fun ⟨t, ht, e⟩ => by have := (hl5 t ht ab e).1; omega), by rw [relab_old (Array.getElem?_eq_some_iff.1 hab).1]; exact hla⟩
        have := rep_ext (HI.out.ln t ht) (fun q hq => HI.out.mks t ht q (by rw [if_pos ht]; exact hq))
        rw [← this]
        exact HI.out.sr t ht
      have hL2 := hL
      clear HI K0
      go_wp2_with fail
      go_loopw [7, 8, 9, 10] (fun s7 _ _ _ wx => ∃ (i : Nat) (labx : Nat → Nat) (Rx : Rows) (hsx : List Hd), s7 = .int .i64 i ∧ i ≤ 2 ∧ Hid (O2 w lab D ps F ab ra rc L i wx labx Rx hsx)) (fun s7 _ _ _ _ => 2 - (intOf s7).toNat)
      case atStart => exact ⟨0, _, _, _, rfl, by omega, K2⟩
      case round =>
        obtain ⟨i, labx, Rx, hsx, rfl, hi, HI⟩ := hrel
        by_cases hi2 : i < 2
        · have hi2z : (i : Int) < 2 := by omega
          have c0 : wr.cell? ⟨ab, i, none⟩ = some (.slice (ra i) L (rc i)) := by
            rw [(cells_at HI.out.ar _).1]
            have : i = 0 ∨ i = 1 := by omega
            rcases this with rfl | rfl <;> rfl
          obtain ⟨wx, hwx⟩ : ∃ W, W = wr := ⟨_, rfl⟩
          have HW : Hid (O2 w lab D ps F ab ra rc L i wx labx Rx hsx) := by rw [hwx]; exact HI.out
          have K3 : Hid (O3 wx wr (.slice (ra i) L (rc i)) (ra i) L F i 0 (.slice (ra i) L (rc i))) := by
            rw [hwx]
            have hs0 := HI.out.sr i (Nat.le_refl _) hi2
            refine ⟨hs0, .inl rfl, Chg.refl _ _, ?_⟩
            by_cases h0 : L = 0
            · exact .inl h0
            · rcases hs0.2 with ⟨e, e0⟩ | ⟨g, cap, cur, e, _, hgg, _⟩
              · simp at e0; omega
              · simp at e
                rw [e.1] at hs0
                refine .inr ⟨g, e.1, (Array.getElem?_eq_some_iff.1 hgg).1, fun q hq => ?_⟩
                have hcc := (SR.cells hs0 q (by simp; omega)).1
                simp at hcc
                exact hcc
          clear hwx
          go_wp2_with fail
          go_loopw [9, 10] (fun s9 s10 wy => ∃ (k : Nat) (lv : Value), s10 = .int .i64 k ∧ k ≤ 80 ∧ lv = s9 ∧ Hid (O3 wx wy (.slice (ra i) L (rc i)) (ra i) L F i k lv)) (fun _ s10 _ => 80 - (intOf s10).toNat)
          case atStart => exact ⟨0, _, rfl, by omega, rfl, K3⟩
          case round =>
            obtain ⟨k, lv, rfl, hk, rfl, HK⟩ := hrel
            by_cases hk8 : k < 80
            · have hk8z : (k : Int) < 80 := by omega
              obtain ⟨v', W', hr, q1, q2, q3, ⟨ga, ca, q4⟩, q5⟩ := app_slotP wr lv _ HK.out.sr (by simp; omega) (mkS F i)
              have HN : Hid (O3 wx W' (.slice (ra i) L (rc i)) (ra i) L F i (k + 1) v') := HK.out.more q1 q2 q3 q5
              obtain ⟨lla, llc, hlv⟩ := HK.out.sr.form
              generalize (List.replicate (L + k) (mkS F i)).length = lw at hlv
              subst hlv
              generalize (List.replicate (L + k) (mkS F i)).length + 1 = lw2 at q4
              subst q4
              unfold mkS at hr
              simp only at hr
              clear q1 q2 q3 q5 c0
              go_wp2_with (at_builtin; refine wpList_append_run _ rfl (.tmp 61) (.tmp 65) 55 55 rfl _ _ _ W' rfl rfl hr ?_)
              exact ⟨⟨k + 1, _, by go_num, by omega, rfl, HN⟩, by simp [intOf]; omega⟩
            · have hk8z : ¬ (k : Int) < 80 := by omega
              have ek : k = 80 := by omega
              subst ek
              obtain ⟨lla, llc, hlv⟩ := HK.out.sr.form
              have hlen : (List.replicate (L + 80) (mkS F i)).length = L + 80 := by simp
              rw [hlen] at hlv
              subst hlv
              have hWy : WI wr (relab labx wx.heap.size 5) D Rx ps hsx := HW.out.wi.chg5 HK.out.ch (fun b _ e => (HW.out.l5 i hi2 b e).1) (HW.out.off i (Nat.le_refl _) hi2) (fun q hq => relab_old hq)
              have hInI : InI (-1000 - (F : Int) - (i : Int)) := ⟨by omega, by omega⟩
              have hog : ∀ g, ra i = some ⟨g, 0, none⟩ → (Value.slice (ra i) L (rc i)).ownBlock = some g := fun g hg => by rw [hg]; rfl
              have m1 : Mk wr (relab labx wx.heap.size 5) ((ra i, L, rc i), -1000 - (F : Int) - (i : Int)) := by
                refine ⟨by simp; omega, hInI, HK.out.mks.imp_right ?_⟩
                rintro ⟨g, hg, hgl, hc⟩
                exact ⟨g, 0, hg, Nat.lt_of_lt_of_le hgl HK.out.ch.size, by rw [relab_old hgl]; exact (HW.out.l5 i hi2 g (hog g hg)).1, fun q hq => by rw [Nat.zero_add]; exact hc q hq⟩
              have m2 : Mk wr (relab labx wx.heap.size 5) ((lla, L + 80, llc), -1000 - (F : Int) - (i : Int)) := by
                refine ⟨by simp; omega, hInI, .inr ?_⟩
                have hsr := HK.out.sr
                rcases hsr.2 with ⟨e, e0⟩ | ⟨g, cap, cur, e, _, hgg, _⟩
                · simp at e0
                · simp at e
                  have hgl := (Array.getElem?_eq_some_iff.1 hgg).1
                  refine ⟨g, 0, e.1, hgl, ?_, fun q hq => ?_⟩
                  · rcases HK.out.loc with e2 | ⟨b, hb, hbs⟩
                    · have e3 : (Value.slice (ra i) L (rc i)).ownBlock = some g := by rw [← e2, e.1]; rfl
                      obtain ⟨l1, l2⟩ := HW.out.l5 i hi2 g e3
                      rw [relab_old l2]; exact l1
                    · rw [e.1] at hb; cases hb; exact relab_new hbs
                  · rw [e.1] at hsr
                    have hcc := (SR.cells hsr q (by simp; exact hq)).1
                    simp at hcc
                    rw [Nat.zero_add]; exact hcc
              obtain ⟨v1, W1, v2, W3, hr1, hv1, k1, k1f, r2, hDx, c3, hr3, hv2, k3, k3f, lab', R', hW', hN', hCall⟩ := held_two wr _ D Rx ps hsx hWy (by have := HW.out.len; omega) ((ra i, L, rc i), -1000 - (F : Int) - (i : Int)) ((lla, L + 80, llc), -1000 - (F : Int) - (i : Int)) m1 m2
              have hary : wr.heap[ab]? = some (.cells #[.slice (ra 0) L (rc 0), .slice (ra 1) L (rc 1)] 55 (0, 0)) := HK.out.ch.heap HW.out.ar (fun e => by have := (HW.out.l5 i hi2 ab e).1; have := HW.out.la; omega)
              have habl := (Array.getElem?_eq_some_iff.1 HW.out.ar).1
              have hlab : relab labx wx.heap.size 5 ab = 7 := by rw [relab_old habl]; exact HW.out.la
              have hnab : ¬ (ab = D ∨ Rx.h.ownBlock = some ab ∨ Rx.m.ownBlock = some ab) := by
                rintro (e | e | e)
                · have := hWy.d; rw [← e] at this; omega
                · have := hWy.lh ab e; omega
                · have := hWy.lm ab e; omega
              have s46 : ∀ {V : World}, V.heap[ab]? = some (.cells #[.slice (ra 0) L (rc 0), .slice (ra 1) L (rc 1)] 55 (0, 0)) → S46 ab i (ra i) L (rc i) V := fun hV => by
                unfold S46
                rw [(cells_at hV _).1]
                have : i = 0 ∨ i = 1 := by omega
                rcases this with rfl | rfl <;> rfl
              have hab1 := r2.heap hary (fun e => hnab (.inr (.inl e)))
              have hCs : Chg W1 (W1.setCell ⟨D, 2, none⟩ v1) (fun i => i = D) := Chg.setCell (S := fun i => i = D) (Chg.refl _ _) (.inl rfl) _
              have hab2 := hCs.heap hab1 (fun e => hnab (.inl e))
              have hbA := (cells4 (((Chg.refl wr (fun _ => False)).alloc (.cells #[.slice (ra i) L (rc i), .slice lla (L + 80) llc] 55)).heap hWy.box (fun x => x))).2.2.1
              obtain ⟨ha5, hc5, hhv, _⟩ := row1 hWy.h
              have KF : Hid (O2 w lab D ps F ab ra rc L (i + 1) (W3.setCell ⟨D, 3, none⟩ v2) lab' R' (hsx ++ [((ra i, L, rc i), -1000 - (F : Int) - (i : Int)), ((lla, L + 80, llc), -1000 - (F : Int) - (i : Int))])) := by
                have hl5 := KH.out.2.2.2.2.1
                have hdis : ∀ t, t < 2 → t ≠ i → ∀ b, (Value.slice (ra t) L (rc t)).ownBlock = some b → (Value.slice (ra i) L (rc i)).ownBlock ≠ some b := fun t ht hne b hb => (hl5 t ht b hb).2 i hi2 (fun e => hne e.symm)
                have hny : Nx wx labx wr (relab labx wx.heap.size 5) := ⟨HK.out.ch.mono (fun b _ e => by have := (HW.out.l5 i hi2 b e).1; omega), fun q hq => relab_old hq⟩
                have hly : ∀ t, t < 2 → ∀ b, (Value.slice (ra t) L (rc t)).ownBlock = some b → relab labx wx.heap.size 5 b = 5 ∧ b < wr.heap.size := fun t ht b hb => by
                  obtain ⟨l1, l2⟩ := HW.out.l5 t ht b hb
                  exact ⟨by rw [relab_old l2]; exact l1, Nat.lt_of_lt_of_le l2 HK.out.ch.size⟩
                refine ⟨hW', (HW.out.nx.trans hny).trans hN', by simp [HW.out.len]; omega, fun t h1 h2 => ?_, fun t h1 h2 => ?_, fun t ht b hb => ?_, hCall.heap hary hnab, by rw [hN'.2 ab (Nat.lt_of_lt_of_le habl HK.out.ch.size)]; exact hlab⟩
                · refine Chg.owns hCall (Chg.owns HK.out.ch (HW.out.sr t (by omega) h2) (fun b hb => hdis t h2 (by omega) b hb)) (fun b hb e => ?_)
                  have q5 := (hly t h2 b hb).1
                  rcases e with e | e | e
                  · have := hWy.d; rw [← e] at this; omega
                  · have := hWy.lh b e; omega
                  · have := hWy.lm b e; omega
                · intro x hx h0 b off e hb
                  rcases List.mem_append.1 hx with hx | hx
                  · exact HW.out.off t (by omega) h2 x hx h0 b off e hb
                  · simp at hx
                    rcases hx with rfl | rfl
                    · exact hdis t h2 (by omega) b hb (by rw [show ra i = some ⟨b, off, none⟩ from e]; rfl)
                    · rcases HK.out.loc with e2 | ⟨b', hb', hbs⟩
                      · exact hdis t h2 (by omega) b hb (by rw [← e2, show lla = some ⟨b, off, none⟩ from e]; rfl)
                      · rw [show lla = some ⟨b, off, none⟩ from e] at hb'
                        have := (HW.out.l5 t h2 b hb).2
                        cases hb'
                        have hbs2 : wx.heap.size ≤ b := hbs
                        omega
                · obtain ⟨l1, l2⟩ := hly t ht b hb
                  exact ⟨by rw [hN'.2 b l2]; exact l1, Nat.lt_of_lt_of_le l2 hCall.size⟩
              obtain ⟨W2, hW2⟩ : ∃ W, W = W1.setCell ⟨D, 2, none⟩ v1 := ⟨_, rfl⟩
              rw [← hW2] at c3 hr3 hab2
              have dh := (cells4 hWy.box).2.2.1
              obtain ⟨ma5, mc5, hmv, _⟩ := row1 hWy.m
              rw [hmv] at c3 hr3
              unfold hV at hr1
              simp only at hr1 hr3
              have S1 := s46 (V := wr.drew) hary
              have S2 := s46 (V := (wr.alloc (.cells #[.slice (ra i) L (rc i), .slice lla (L + 80) llc] 55)).drew) (((Chg.refl wr (fun _ => False)).alloc (.cells #[.slice (ra i) L (rc i), .slice lla (L + 80) llc] 55)).heap hary (fun x => x))
              have S3 := s46 hab1
              have S4 := s46 hab2
              rw [hW2] at S4
              clear m1 m2 hWy hN' hW' hCall hary habl hlab hnab s46 hab1 hab2 hCs r2 hDx hmv
              go_upto_region 17 with fail
              refine reg46 wr W1 D ab i (ra i) lla L (rc i) (L + 80) llc Rx.h v1 hi2z hi2 _ _ _ _ _ _ _ _ _ _ _ _ _ _ _ _ _ _ _ _ _ _ _ _ _ _ _ _ _ _ _ _ _ _ _ _ _ _ _ _ _ _ _ _ _ _ _ _ _ _ _ _ _ _ _ _ _ _ _ _ _ _ _ _ _ _ _ _ _ _ _ _ _ _ _ _ _ _ _ _ _ _ _ _ _ _ _ _ _ dh hbA ⟨_, _, _, hhv⟩ hv1 S1 S2 S3 S4 hr1 k1 k1f ?_
              clear S1 S2 S3 S4 hr1 k1 k1f dh hbA hhv
              rw [← hW2]
              clear hW2
              obtain ⟨z3, k3⟩ := k3
              obtain ⟨va2, vb2, vc2, rfl⟩ := hv2
              go_wp2_with (at_builtin; refine wpList_append_run _ rfl (.tmp 85) (.tmp 88) 61 61 rfl _ _ _ W3 rfl rfl hr3 ?_)
              exact ⟨⟨i + 1, _, _, _, by go_num, by omega, KF⟩, by simp [intOf]; omega⟩
        · have hi2z : ¬ (i : Int) < 2 := by omega
          have ei : i = 2 := by omega
          subst ei
          have KF : Hid (∃ lab' R' hs', WI wr lab' D R' ps hs' ∧ Nx w lab wr lab' ∧ hs'.length = hs.length + 4) := ⟨labx, Rx, hsx, HI.out.wi, HI.out.nx, by have := HI.out.len; have := KH.out.2.1; omega⟩
          go_wp2
          go_end0
          exact ⟨rfl, KF.out⟩
end Go.Proofs.Ytadpgaaijdpbiaa
