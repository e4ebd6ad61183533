import Derived.Test.YtnblhaeojlpmmaaTl
namespace Go.Proofs.Ytnblhaeojlpmmaa
open Go.ChangeShapes Go.WideShapes Go.ChangeAt Go.RowKit
set_option linter.unusedVariables false
theorem lab_nil (σ : Nat → Nat × Nat) (k : Nat × Nat) : lab σ (.slice none 0 0) k = σ := by
  funext b
  simp [lab, Value.ownBlock]
/-- 'still' is another one. -/
theorem BkM.set8 {w : World} {σ : Nat → Nat × Nat} {K : Nat} {U V : Nat → Value} {X : Nat → List Value} (h : BkM w σ K U V X) (v : Value) : BkM (w.setCell ⟨K, 16, none⟩ v) σ K U (upd V 8 v) X ∧ Chg w (w.setCell ⟨K, 16, none⟩ v) (fun b => b = K) := by
  have c : Chg w (w.setCell ⟨K, 16, none⟩ v) (fun b => b = K) := Chg.setCell (S := fun b => b = K) (Chg.refl _ _) (.inl rfl) _
  refine ⟨⟨?_, h.lk, fun i hi h8 => ?_, h.fz.chg c⟩, c⟩
  · have := heap_setCell_same w K 16 _ 60 v h.box
    rw [this]
    have e := pcl_set (U := U) (V := V) (i := 8) (by omega) v
    exact congrArg (fun z => some (Obj.cells z 60 (0, 0))) e
  · rw [upd_other _ _ h8]
    exact ⟨c.owns (h.own i hi h8).1 (fun b hb e => h.notbox hi h8 (by rw [hb, e])), (h.own i hi h8).2⟩
/-- A list of the book is none any more. -/
theorem BkM.drop {w : World} {σ : Nat → Nat × Nat} {K : Nat} {U V : Nat → Value} {X : Nat → List Value} (h : BkM w σ K U V X) {i : Nat} (hi : i < 13) (h8 : i ≠ 8) : BkM (w.setCell ⟨K, 8 + i, none⟩ (.slice none 0 0)) σ K U (upd V i (.slice none 0 0)) (upd X i []) ∧ Chg w (w.setCell ⟨K, 8 + i, none⟩ (.slice none 0 0)) (fun b => b = K) := by
  obtain ⟨h1, h2, _⟩ := h.put (w' := w) hi h8 (v' := .slice none 0 0) (xs := []) ⟨rfl, .inl ⟨rfl, rfl⟩⟩ (S := fun _ => False) (Chg.refl _ _) (fun _ x => x.elim) (.inr (fun k hk => by simp [Value.ownBlock] at hk))
  rw [lab_nil] at h1
  exact ⟨h1, Chg.setCell (S := fun b => b = K) (Chg.refl _ _) (.inl rfl) _⟩
/-- What the book has when what lay untouched is let go. -/
def relE (σ : Nat → Nat × Nat) : Nat → Nat × Nat := fun b => if σ b = (1, 9) ∨ σ b = (1, 11) then (0, 0) else if (σ b).1 = 4 then (0, 2 * (σ b).2 + 1) else if (σ b).1 = 8 then (0, 2 * (σ b).2 + 2) else σ b
theorem relE_at {σ : Nat → Nat × Nat} {b c n : Nat} (e : σ b = (c, n)) (h4 : c ≠ 4) (h8 : c ≠ 8) (h1 : c = 1 → n ≠ 9 ∧ n ≠ 11) : relE σ b = (c, n) := by
  unfold relE
  rw [e]
  rw [if_neg (by intro h; simp at h; rcases h with ⟨h, h'⟩ | ⟨h, h'⟩ <;> have := h1 h <;> omega), if_neg (by simpa using h4), if_neg (by simpa using h8)]
theorem Ent.relE {w : World} {σ : Nat → Nat × Nat} {T sz c : Nat} {L : List Value} {es : List En} (h : Ent w σ T sz c L es) (h4 : c ≠ 4) (h8 : c ≠ 8) (h1 : c ≠ 1) : Ent w (relE σ) T sz c L es :=
  ⟨h.len, fun i v e hv he => ⟨(h.rw i v e hv he).1, fun b hb => relE_at ((h.rw i v e hv he).2 b hb) h4 h8 (fun x => absurd x h1)⟩⟩
theorem BkC.kpc {w w' : World} {σ : Nat → Nat × Nat} {K : Nat} {U V V' : Nat → Value} {X X' : Nat → List Value} {G : List (List Int)} {O R : List (Nat × Nat × Int)} {L : List (List Mg)} (h : BkC w σ K U V X G O R L) (hm : BkM w' σ K U V' X') (hc : Chg w w' (fun b => b = K)) (hX : ∀ i, i < 8 → X' i = X i) : BkC w' σ K U V' X' G O R L := by
  have n : ∀ c, c ≠ 1 → ∀ b, b = K → (σ b).1 ≠ c := fun c hc b e x => by rw [e, h.m.lk] at x; exact hc x.symm
  refine ⟨hm, ?_, ?_, ?_, ?_, ?_, ?_, ?_, ?_, h.lv⟩
  · rw [hX 2 (by omega)]; exact h.g.chgC hc (n 2 (by omega))
  · rw [hX 3 (by omega)]; exact h.gs
  · rw [hX 0 (by omega)]; exact h.o.chgC hc (n 3 (by omega))
  · rw [hX 1 (by omega)]; exact h.os
  · rw [hX 4 (by omega)]; exact h.r.chgC hc (n 5 (by omega))
  · rw [hX 5 (by omega)]; exact h.rs
  · rw [hX 6 (by omega)]; exact h.l.chgC hc (n 6 (by omega))
  · rw [hX 7 (by omega)]; exact h.lw.chgC hc (n 7 (by omega))
/-- While ends goes on. -/
structure EnI (w : World) (σ : Nat → Nat × Nat) (K : Nat) (U V : Nat → Value) (X : Nat → List Value) (G H : List (List Int)) (O R : List (Nat × Nat × Int)) (L D : List (List Mg)) (i j : Nat) (wr : World) (σr : Nat → Nat × Nat) (Vr : Nat → Value) (Xr : Nat → List Value) (Oq Rr : List (Nat × Nat × Int)) : Prop where
  bk : BkC wr σr K U Vr Xr G Oq Rr L
  v8 : Vr 8 = .bool false
  x9 : Xr 9 = [] ∧ Xr 11 = []
  hb : ∀ k v l, i ≤ k → (X 9)[k]? = some v → H[k]? = some l → OB wr v l ∧ Lb σr v (0, 2 * k + 1)
  db : ∀ k v l, j ≤ k → (X 11)[k]? = some v → D[k]? = some l → OM wr v l ∧ Lb σr v (0, 2 * k + 2)
  o9 : wr.ownsRow 0 37 1 (V 9) (X 9).length (X 9) ∧ Lb σr (V 9) (0, 0)
  o11 : wr.ownsRow 0 62 1 (V 11) (X 11).length (X 11) ∧ Lb σr (V 11) (0, 0)
  c : Chg w wr (fun b => (σ b).1 ≠ 0)
  x : ∀ b, b < w.heap.size → (σ b).1 = 0 → (σr b).1 = 0
  h4 : ∀ k v, (X 9)[k]? = some v → Lb σ v (4, k)
  h8 : ∀ k v, (X 11)[k]? = some v → Lb σ v (8, k)
  ol : Oq.length ≤ O.length + 2 * i ∧ ∀ e ∈ Oq, e ∈ O ∨ e.2.1 ≤ 1080
  rl : Rr.length ≤ R.length + 2 * j ∧ ∀ e ∈ Rr, e ∈ R ∨ e.2.1 ≤ 1064
section
variable {w wr w' : World} {σ σr σ' : Nat → Nat × Nat} {K : Nat} {U V Vr V' : Nat → Value} {X Xr : Nat → List Value} {G H : List (List Int)} {O R Oq Rr : List (Nat × Nat × Int)} {L D E : List (List Mg)} {i j : Nat}
/-- A list that lay untouched is written. -/
theorem EnI.own (h : EnI w σ K U V X G H O R L D i j wr σr Vr Xr Oq Rr) {v u : Value} {l : List Int} (hv : (X 9)[i]? = some v) (hl : H[i]? = some l) (hbl : l.length ≤ 1000) (hd : Owd wr σr K U Vr Xr v l.length u w' σ' V') :
    ∃ X' O', EnI w σ K U V X G H O R L D (i + 1) j w' σ' V' X' O' Rr := by
  obtain ⟨ho, lv⟩ := h.hb i v l (Nat.le_refl _) hv hl
  have h0 : ∀ b, v.ownBlock = some b → (σr b).1 = 0 := fun b hb => by rw [lv b hb]
  have B := h.bk.owned h0 hd
  have ne : ∀ (z : Value) (n : Nat), n ≠ 2 * i + 1 → Lb σr z (0, n) → ∀ b, z.ownBlock = some b → ¬ ((σr b).1 = 1 ∨ v.ownBlock = some b) := fun z n hn hz b hb e => by
    have h1 := hz b hb
    rcases e with e | e
    · rw [h1] at e; simp at e
    · have := lv b e; rw [h1] at this; simp at this; exact hn this
  have kl : ∀ (z : Value) (n : Nat), n ≠ 2 * i + 1 → Lb σr z (0, n) → (∀ b, z.ownBlock = some b → b < wr.heap.size) → Lb σ' z (0, n) := fun z n hn hz hlt b hb => by
    rw [hd.ex b (hlt b hb) (fun e => ne z n hn hz b hb (.inr e))]; exact hz b hb
  refine ⟨_, _, B, hd.vv.trans h.v8, ⟨?_, ?_⟩, fun k z l' hk hz hl' => ?_, fun k z l' hk hz hl' => ?_, ⟨hd.ch.owns h.o9.1 (fun b hb => ne _ 0 (by omega) h.o9.2 b hb), kl _ 0 (by omega) h.o9.2 (fun b hb => own_lt h.o9.1 hb)⟩, ⟨hd.ch.owns h.o11.1 (fun b hb => ne _ 0 (by omega) h.o11.2 b hb), kl _ 0 (by omega) h.o11.2 (fun b hb => own_lt h.o11.1 hb)⟩, Chg.trans h.c hd.ch (fun b hb e => ?_), fun b hb e => ?_, h.h4, h.h8, ⟨?_, fun e he => ?_⟩, h.rl⟩
  · rw [upd_other _ _ (by omega), upd_other _ _ (by omega)]; exact h.x9.1
  · rw [upd_other _ _ (by omega), upd_other _ _ (by omega)]; exact h.x9.2
  · obtain ⟨h1, h2⟩ := h.hb k z l' (by omega) hz hl'
    exact ⟨hd.ch.owns h1 (fun b hb => ne z _ (by omega) h2 b hb), kl z _ (by omega) h2 (fun b hb => h1.lt hb)⟩
  · obtain ⟨h1, h2⟩ := h.db k z l' (by omega) hz hl'
    exact ⟨hd.ch.owns h1 (fun b hb => ne z _ (by omega) h2 b hb), kl z _ (by omega) h2 (fun b hb => h1.lt hb)⟩
  · show (σ b).1 ≠ 0
    intro e0
    rcases e with e | e
    · have := h.x b hb e0; omega
    · have := h.h4 i v hv b e; rw [this] at e0; simp at e0
  · rw [hd.ex b (by have := h.c.size; omega) (fun e' => by have := h.h4 i v hv b e'; rw [this] at e; simp at e)]
    exact h.x b hb e
  · have := h.ol.1; simp; omega
  · simp at he
    rcases he with he | he | he
    · exact h.ol.2 e he
    · right; rw [he]; simp only; omega
    · right; rw [he]; simp only; omega
/-- A row that lay untouched is written. -/
theorem EnI.row (h : EnI w σ K U V X G H O R L D i j wr σr Vr Xr Oq Rr) {v u : Value} {l : List Mg} (hv : (X 11)[j]? = some v) (hl : D[j]? = some l) (hbl : l.length ≤ 1000) (hd : Rwd wr σr K U Vr Xr v l.length u w' σ' V') (hi : H.length ≤ i) (h9 : (X 9).length = H.length) :
    ∃ X' R', EnI w σ K U V X G H O R L D i (j + 1) w' σ' V' X' Oq R' := by
  obtain ⟨ho, lv⟩ := h.db j v l (Nat.le_refl _) hv hl
  have h0 : ∀ b, v.ownBlock = some b → (σr b).1 = 0 := fun b hb => by rw [lv b hb]
  have B := h.bk.rowed h0 hd
  have ne : ∀ (z : Value) (n : Nat), n ≠ 2 * j + 2 → Lb σr z (0, n) → ∀ b, z.ownBlock = some b → ¬ ((σr b).1 = 1 ∨ v.ownBlock = some b) := fun z n hn hz b hb e => by
    have h1 := hz b hb
    rcases e with e | e
    · rw [h1] at e; simp at e
    · have := lv b e; rw [h1] at this; simp at this; exact hn this
  have kl : ∀ (z : Value) (n : Nat), n ≠ 2 * j + 2 → Lb σr z (0, n) → (∀ b, z.ownBlock = some b → b < wr.heap.size) → Lb σ' z (0, n) := fun z n hn hz hlt b hb => by
    rw [hd.ex b (hlt b hb) (fun e => ne z n hn hz b hb (.inr e))]; exact hz b hb
  refine ⟨_, _, B, hd.vv.trans h.v8, ⟨?_, ?_⟩, fun k z l' hk hz hl' => ?_, fun k z l' hk hz hl' => ?_, ⟨hd.ch.owns h.o9.1 (fun b hb => ne _ 0 (by omega) h.o9.2 b hb), kl _ 0 (by omega) h.o9.2 (fun b hb => own_lt h.o9.1 hb)⟩, ⟨hd.ch.owns h.o11.1 (fun b hb => ne _ 0 (by omega) h.o11.2 b hb), kl _ 0 (by omega) h.o11.2 (fun b hb => own_lt h.o11.1 hb)⟩, Chg.trans h.c hd.ch (fun b hb e => ?_), fun b hb e => ?_, h.h4, h.h8, h.ol, ⟨?_, fun e he => ?_⟩⟩
  · rw [upd_other _ _ (by omega), upd_other _ _ (by omega)]; exact h.x9.1
  · rw [upd_other _ _ (by omega), upd_other _ _ (by omega)]; exact h.x9.2
  · have := (List.getElem?_eq_some_iff.1 hl').1; omega
  · obtain ⟨h1, h2⟩ := h.db k z l' (by omega) hz hl'
    exact ⟨hd.ch.owns h1 (fun b hb => ne z _ (by omega) h2 b hb), kl z _ (by omega) h2 (fun b hb => h1.lt hb)⟩
  · show (σ b).1 ≠ 0
    intro e0
    rcases e with e | e
    · have := h.x b hb e0; omega
    · have := h.h8 j v hv b e; rw [this] at e0; simp at e0
  · rw [hd.ex b (by have := h.c.size; omega) (fun e' => by have := h.h8 j v hv b e'; rw [this] at e; simp at e)]
    exact h.x b hb e
  · have := h.rl.1; simp; omega
  · simp at he
    rcases he with he | he | he
    · exact h.rl.2 e he
    · right; rw [he]; simp only; omega
    · right; rw [he]; simp only; omega
end
end Go.Proofs.Ytnblhaeojlpmmaa
namespace Go.Proofs.Ytnblhaeojlpmmaa
open Go.ChangeShapes Go.WideShapes Go.ChangeAt Go.RowKit
set_option linter.unusedVariables false
/-- What lay untouched is let go. -/
theorem Bk.letgo {w : World} {σ : Nat → Nat × Nat} {K : Nat} {U V : Nat → Value} {X : Nat → List Value} {G H : List (List Int)} {O R : List (Nat × Nat × Int)} {L D E : List (List Mg)} (h : Bk w σ K U V X G O H R L D E) :
    ∃ V4 X4, EnI w σ K U V X G H O R L D 0 0 (((w.setCell ⟨K, 16, none⟩ (.bool false)).setCell ⟨K, 17, none⟩ (.slice none 0 0)).setCell ⟨K, 19, none⟩ (.slice none 0 0)) (relE σ) V4 X4 O R := by
  obtain ⟨m1, c1⟩ := h.m.set8 (.bool false)
  obtain ⟨m2, c2⟩ := m1.drop (i := 9) (by omega) (by omega)
  obtain ⟨m3, c3⟩ := m2.drop (i := 11) (by omega) (by omega)
  have b1 := h.c.kpc m1 c1 (fun i _ => rfl)
  have b2 := b1.kpc m2 c2 (fun i hi => upd_other _ _ (by omega))
  have b3 := b2.kpc m3 c3 (fun i hi => upd_other _ _ (by omega))
  have cc : Chg w (((w.setCell ⟨K, 16, none⟩ (.bool false)).setCell ⟨K, 17, none⟩ (.slice none 0 0)).setCell ⟨K, 19, none⟩ (.slice none 0 0)) (fun b => b = K) := Chg.trans (Chg.trans c1 c2 (fun _ _ e => e)) c3 (fun _ _ e => e)
  have nk : ∀ b, (σ b).1 = 4 ∨ (σ b).1 = 8 ∨ σ b = (1, 9) ∨ σ b = (1, 11) → ¬ b = K := fun b hb e => by
    rw [e, h.m.lk] at hb; simp at hb
  have B : BkM (((w.setCell ⟨K, 16, none⟩ (.bool false)).setCell ⟨K, 17, none⟩ (.slice none 0 0)).setCell ⟨K, 19, none⟩ (.slice none 0 0)) (relE σ) K U (upd (upd (upd V 8 (.bool false)) 9 (.slice none 0 0)) 11 (.slice none 0 0)) (upd (upd X 9 []) 11 []) := by
    refine ⟨m3.box, relE_at h.m.lk (by omega) (by omega) (fun _ => by omega), fun i hi h8 => ⟨(m3.own i hi h8).1, fun b hb => ?_⟩, fun b hb => ?_⟩
    · by_cases e9 : i = 9
      · subst e9
        rw [upd_other _ _ (by omega), upd_same] at hb
        simp [Value.ownBlock] at hb
      by_cases e11 : i = 11
      · subst e11
        rw [upd_same] at hb
        simp [Value.ownBlock] at hb
      exact relE_at ((m3.own i hi h8).2 b hb) (by omega) (by omega) (fun _ => ⟨e9, e11⟩)
    · exact relE_at (m3.fz b hb) (by omega) (by omega) (fun e => by omega)
  refine ⟨_, _, ⟨B, b3.g.relE (by omega) (by omega) (by omega), b3.gs, b3.o.relE (by omega) (by omega) (by omega), b3.os, b3.r.relE (by omega) (by omega) (by omega), b3.rs, b3.l.relE (by omega) (by omega) (by omega), b3.lw.relE (by omega) (by omega) (by omega), b3.lv⟩, ?_, ⟨?_, ?_⟩, fun k v l _ hv hl => ?_, fun k v l _ hv hl => ?_, ⟨?_, fun b hb => ?_⟩, ⟨?_, fun b hb => ?_⟩, cc.mono (fun b _ e => by show (σ b).1 ≠ 0; rw [e, h.m.lk]; simp), fun b _ e => ?_, fun k v hv => ?_, fun k v hv => ?_, ⟨by omega, fun e he => .inl he⟩, ⟨by omega, fun e he => .inl he⟩⟩
  · rw [upd_other _ _ (by omega), upd_other _ _ (by omega), upd_same]
  · rw [upd_other _ _ (by omega), upd_same]
  · rw [upd_same]
  · obtain ⟨h1, h2⟩ := h.h.rw k v (eB k l) hv (by rw [List.getElem?_mapIdx, hl]; rfl)
    refine ⟨cc.owns h1 (fun b hb => nk b (.inl (by rw [h2 b hb]))), fun b hb => ?_⟩
    unfold relE
    rw [h2 b hb]
    simp [eB]
  · obtain ⟨h1, h2⟩ := h.d.rw k v (eM k l) hv (by rw [List.getElem?_mapIdx, hl]; rfl)
    refine ⟨cc.owns h1 (fun b hb => nk b (.inr (.inl (by rw [h2 b hb])))), fun b hb => ?_⟩
    unfold relE
    rw [h2 b hb]
    simp [eM]
  · exact cc.owns (h.m.own 9 (by omega) (by omega)).1 (fun b hb => nk b (.inr (.inr (.inl ((h.m.own 9 (by omega) (by omega)).2 b hb)))))
  · unfold relE
    rw [(h.m.own 9 (by omega) (by omega)).2 b hb]
    simp
  · exact cc.owns (h.m.own 11 (by omega) (by omega)).1 (fun b hb => nk b (.inr (.inr (.inr ((h.m.own 11 (by omega) (by omega)).2 b hb)))))
  · unfold relE
    rw [(h.m.own 11 (by omega) (by omega)).2 b hb]
    simp
  · unfold relE
    rw [if_neg (by intro x; rcases x with x | x <;> rw [x] at e <;> simp at e), if_neg (by omega), if_neg (by omega)]
    exact e
  · have hlt := (List.getElem?_eq_some_iff.1 hv).1
    have hl9 : (X 9).length = H.length := by have := h.h.len; simpa using this
    exact (h.h.rw k v (eB k (H[k]'(by omega))) hv (by simp [show k < H.length by omega])).2
  · have hlt := (List.getElem?_eq_some_iff.1 hv).1
    have hl11 : (X 11).length = D.length := by have := h.d.len; simpa using this
    exact (h.d.rw k v (eM k (D[k]'(by omega))) hv (by simp [show k < D.length by omega])).2
set_option maxHeartbeats 4000000 in
set_option maxRecDepth 10000 in
/-- Where nothing lies untouched. -/
theorem holds_nil (w : World) (σ : Nat → Nat × Nat) (K : Nat) (U V : Nat → Value) (X : Nat → List Value) (h : BkM w σ K U V X) (h9 : X 9 = []) (h11 : X 11 = []) :
    Calls Try.prog 37 #[.pointer (some ⟨K, 8, none⟩)] w fun e w' => e = .returned (.bool true) ∧ Kp w w' := by
  obtain ⟨a9, c9, e9⟩ := h.shp (i := 9) (by omega) (by omega)
  obtain ⟨a11, c11, e11⟩ := h.shp (i := 11) (by omega) (by omega)
  rw [h9] at e9
  rw [h11] at e11
  have d9 : w.cell? ⟨K, 17, none⟩ = some (.slice a9 0 c9) := by have := (h.cell (i := 9) (by omega)).1; rw [e9] at this; exact this
  have d11 : w.cell? ⟨K, 19, none⟩ = some (.slice a11 0 c11) := by have := (h.cell (i := 11) (by omega)).1; rw [e11] at this; exact this
  have HK : Hid (Kp w w) := Kp.refl w
  clear h h9 h11 e9 e11
  go_enter Try.func37, Try.ntmps37
  go_wp2_with fail
  refine wp_loop_rounds 1 ?_
  rw [rounds_succ]
  go_wp2_with fail
  refine wp_loop_rounds 1 ?_
  rw [rounds_succ]
  go_wp2_with fail
  go_ret
  exact ⟨rfl, HK.out⟩
end Go.Proofs.Ytnblhaeojlpmmaa
namespace Go.Proofs.Ytnblhaeojlpmmaa
open Go.ChangeShapes Go.WideShapes Go.ChangeAt Go.RowKit
set_option linter.unusedVariables false
set_option maxHeartbeats 8000000 in
set_option maxRecDepth 10000 in
/-- What lay untouched is as it came; then all is written, and looked at. -/
theorem ends_any (w : World) (σ : Nat → Nat × Nat) (K : Nat) (U V : Nat → Value) (X : Nat → List Value) (G H : List (List Int)) (O R : List (Nat × Nat × Int)) (L D E : List (List Mg)) (h : Bk w σ K U V X G O H R L D E) (hd : Bd G H O R L D E) (hH : H.length < 1000000) (hD : D.length < 1000000) (hO : O.length < 1000000) (hR : R.length < 1000000) (hHl : ∀ l ∈ H, l.length ≤ 1000) :
    Calls Try.prog 20 #[.pointer (some ⟨K, 8, none⟩)] w fun e w' => e = .returned (.bool true) ∧ Chg w w' (fun b => (σ b).1 ≠ 0) := by
  have l9 : (X 9).length = H.length := by have := h.h.len; simpa using this
  have l11 : (X 11).length = D.length := by have := h.d.len; simpa using this
  obtain ⟨⟨a9, c9, e9⟩, a11, c11, e11⟩ := h.shp
  have t1 := holds_any w σ K U V X G H O R L D E h hd.d2 hd.h hd.d
  have HB : Hid (Bk w σ K U V X G O H R L D E) := h
  have HD : Hid (Bd G H O R L D E ∧ ∀ l ∈ H, l.length ≤ 1000) := ⟨hd, hHl⟩
  have EV : Hid (V 9 = .slice a9 H.length c9 ∧ V 11 = .slice a11 D.length c11 ∧ (X 9).length = H.length ∧ (X 11).length = D.length) := ⟨e9, e11, l9, l11⟩
  clear h hd e9 e11 l9 l11 hHl
  go_enter Try.func20, Try.ntmps20
  go_wp2_with fail
  go_at_call 37
  refine t1.mono ?_
  rintro e w1 ⟨rfl, k1⟩
  clear t1
  have B1 := HB.out.kp k1
  have y8 := (B1.m.cell (i := 8) (by omega))
  have y9 : w1.cell? ⟨K, 17, none⟩ = some (.slice a9 H.length c9) := by have := (B1.m.cell (i := 9) (by omega)).1; rw [EV.out.1] at this; exact this
  have y11 : w1.cell? ⟨K, 19, none⟩ = some (.slice a11 D.length c11) := by have := (B1.m.cell (i := 11) (by omega)).1; rw [EV.out.2.1] at this; exact this
  have f9 := (B1.m.cell (i := 9) (by omega)).2
  have f11 := (B1.m.cell (i := 11) (by omega)).2
  have f8 : w1.frozen? ⟨K, 16, none⟩ = false := y8.2
  have g8 : w1.cell? ⟨K, 16, none⟩ = some (V 8) := y8.1
  have f9' : w1.frozen? ⟨K, 17, none⟩ = false := f9
  have f11' : w1.frozen? ⟨K, 19, none⟩ = false := f11
  obtain ⟨V4,X4,I4⟩ := B1.letgo
  have J0 : Hid (EnI w1 σ K U V X G H O R L D 0 0 (((w1.setCell ⟨K, 16, none⟩ (.bool false)).setCell ⟨K, 17, none⟩ (.slice none 0 0)).setCell ⟨K, 19, none⟩ (.slice none 0 0)) (relE σ) V4 X4 O R) := I4
  have K1 : Hid (Kp w w1) := k1
  clear I4 B1 y8 f9 f11 k1
  go_upto_region 9 with fail
  generalize ((w1.setCell ⟨K, 16, none⟩ (.bool false)).setCell ⟨K, 17, none⟩ (.slice none 0 0)).setCell ⟨K, 19, none⟩ (.slice none 0 0) = w4 at *
  clear y9 y11 f8 g8 f9' f11'
  go_wp2_with fail
  go_loopw [6] (fun s6 wr => ∃ (i : Nat) (σr : Nat → Nat × Nat) (Vr : Nat → Value) (Xr : Nat → List Value) (Oq : List (Nat × Nat × Int)), s6 = .int .i64 (i : Nat) ∧ i ≤ H.length ∧ Hid (EnI w1 σ K U V X G H O R L D i 0 wr σr Vr Xr Oq R)) (fun s6 _ => H.length - nI s6)
  case atStart => exact ⟨0, _, _, _, _, rfl, by omega, J0⟩
  case round =>
    obtain ⟨i, σr, Vr, Xr, Oq, rfl, hi, HI⟩ := hrel
    clear J0
    by_cases hlt : i < H.length
    · have hz : (i : Int) < (H.length : Nat) := by omega
      obtain ⟨e9, e11, l9, l11⟩ := EV.out
      obtain ⟨v, hv⟩ : ∃ v, (X 9)[i]? = some v := ⟨(X 9)[i]'(by omega), by simp [show i < (X 9).length by omega]⟩
      have hl : H[i]? = some H[i] := by simp
      obtain ⟨ho, lv⟩ := HI.out.hb i v _ (Nat.le_refl _) hv hl
      have o9 := HI.out.o9.1
      rw [l9] at o9
      obtain ⟨g, rfl⟩ : ∃ g, a9 = some ⟨g, 0, none⟩ := by
        rw [e9] at o9
        rcases o9.2 with ⟨x, x2⟩ | ⟨g', cap, cur, x, _⟩
        · omega
        · simp at x; exact ⟨g', x.1⟩
      rw [e9] at o9
      have hc := o9.cells (g := g) rfl i v hv
      rw [Addr.add_lit, Nat.zero_add] at hc
      have hbl := HD.out.2 _ (List.getElem_mem hlt)
      have lens := HI.out.bk.lens
      have ol := HI.out.ol.1
      have t2 := owns_out wr σr K U Vr Xr HI.out.bk.m HI.out.v8 v _ ho hbl (fun b hb e => by rw [lv b hb] at e; simp at e) (by omega) (by omega)
      have HV : Hid ((X 9)[i]? = some v ∧ H[i]? = some H[i] ∧ H[i].length ≤ 1000) := ⟨hv, hl, hbl⟩
      have HLT : Hid (i < H.length) := hlt
      clear hv hl ho lv o9 lens ol e9 e11 l9 l11 hbl
      go_wp2_with fail
      go_at_call 31
      refine t2.mono ?_
      rintro e w2 ⟨rfl, u, σ', V', hd⟩
      obtain ⟨X', O', I'⟩ := HI.out.own HV.out.1 HV.out.2.1 HV.out.2.2 hd
      have HN : Hid (EnI w1 σ K U V X G H O R L D (i + 1) 0 w2 σ' V' X' O' R) := I'
      clear t2 hd I' HI hc
      go_wp2_with fail
      exact ⟨⟨i + 1, _, _, _, _, by go_num, by have := HLT.out; omega, HN⟩, by have := HLT.out; simp [nI]; omega⟩
    · have hz : ¬ (i : Int) < (H.length : Nat) := by omega
      have hin : i = H.length := by omega
      subst hin
      clear hi
      go_wp2_with fail
      rename World => w5
      go_loopw [7] (fun s7 wr => ∃ (j : Nat) (σr : Nat → Nat × Nat) (Vr : Nat → Value) (Xr : Nat → List Value) (Rq : List (Nat × Nat × Int)), s7 = .int .i64 (j : Nat) ∧ j ≤ D.length ∧ Hid (EnI w1 σ K U V X G H O R L D H.length j wr σr Vr Xr Oq Rq)) (fun s7 _ => D.length - nI s7)
      case atStart => exact ⟨0, _, _, _, _, rfl, by omega, HI⟩
      case round =>
        obtain ⟨j, σr, Vr, Xr, Rq, rfl, hj, HJ⟩ := hrel
        clear HI
        by_cases hlt : j < D.length
        · have hz2 : (j : Int) < (D.length : Nat) := by omega
          obtain ⟨e9, e11, l9, l11⟩ := EV.out
          obtain ⟨v, hv⟩ : ∃ v, (X 11)[j]? = some v := ⟨(X 11)[j]'(by omega), by simp [show j < (X 11).length by omega]⟩
          have hl : D[j]? = some D[j] := by simp
          obtain ⟨ho, lv⟩ := HJ.out.db j v _ (Nat.le_refl _) hv hl
          have o11 := HJ.out.o11.1
          rw [l11] at o11
          obtain ⟨g, rfl⟩ : ∃ g, a11 = some ⟨g, 0, none⟩ := by
            rw [e11] at o11
            rcases o11.2 with ⟨x, x2⟩ | ⟨g', cap, cur, x, _⟩
            · omega
            · simp at x; exact ⟨g', x.1⟩
          rw [e11] at o11
          have hc := o11.cells (g := g) rfl j v hv
          rw [Addr.add_lit, Nat.zero_add] at hc
          have hbl := (HD.out.1.d2 _ (List.getElem_mem hlt)).1
          have lens := HJ.out.bk.lens
          have rl := HJ.out.rl.1
          have t2 := row_out wr σr K U Vr Xr HJ.out.bk.m HJ.out.v8 v _ ho hbl (fun b hb e => by rw [lv b hb] at e; simp at e) (by omega) (by omega)
          have HV : Hid ((X 11)[j]? = some v ∧ D[j]? = some D[j] ∧ D[j].length ≤ 1000) := ⟨hv, hl, hbl⟩
          have HLT : Hid (j < D.length) := hlt
          clear hv hl ho lv o11 lens rl e9 e11 l9 l11 hbl
          go_wp2_with fail
          go_at_call 41
          refine t2.mono ?_
          rintro e w2 ⟨rfl, u, σ', V', hd⟩
          obtain ⟨X', R', I'⟩ := HJ.out.row HV.out.1 HV.out.2.1 HV.out.2.2 hd (Nat.le_refl _) EV.out.2.2.1
          have HN : Hid (EnI w1 σ K U V X G H O R L D H.length (j + 1) w2 σ' V' X' Oq R') := I'
          clear t2 hd I' HJ hc
          go_wp2_with fail
          exact ⟨⟨j + 1, _, _, _, _, by go_num, by have := HLT.out; omega, HN⟩, by have := HLT.out; simp [nI]; omega⟩
        · have hz2 : ¬ (j : Int) < (D.length : Nat) := by omega
          have hjn : j = D.length := by omega
          subst hjn
          obtain ⟨hdd, _⟩ := HD.out
          have ol := HJ.out.ol
          have rl := HJ.out.rl
          have hd2 : Bd G [] Oq Rq L [] [] := ⟨hdd.g, by omega, by simp, by omega, hdd.l, by simp, fun e he => by
            rcases ol.2 e he with h | h
            · exact hdd.o2 e h
            · omega, fun e he => by
            rcases rl.2 e he with h | h
            · exact hdd.r2 e h
            · omega, hdd.l2, fun l hl => by simp at hl⟩
          have t3 := looks_core wr σr K U Vr Xr G [] Oq Rq L [] [] HJ.out.bk (fun w1 k1 => holds_nil w1 σr K U Vr Xr (HJ.out.bk.m.kp k1) HJ.out.x9.1 HJ.out.x9.2) hd2
          have KC : Hid (Chg w wr (fun b => (σ b).1 ≠ 0)) := Chg.trans K1.out.any HJ.out.c (fun _ _ e => e)
          clear hdd ol rl hd2 HJ
          go_wp2_with fail
          go_at_call 18
          refine t3.mono ?_
          rintro e w2 ⟨rfl, k2⟩
          have KF : Hid (Chg w w2 (fun b => (σ b).1 ≠ 0)) := Chg.trans KC.out k2.any (fun _ _ e => e)
          clear t3 KC k2
          go_wp2_with fail
          go_ret
          exact ⟨rfl, KF.out⟩
end Go.Proofs.Ytnblhaeojlpmmaa
