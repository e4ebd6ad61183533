import Derived.Test.YtibpbemenjgncaaFb
namespace Go.Proofs.Ytibpbemenjgncaa
open Go.ChangeShapes Go.WideShapes Go.ChangeAt Go.RowKit
set_option linter.unusedVariables false
/-- Whose a row of bytes is, by a label: 0 nobody writes it, 1 the book's marks, 2 to 4 what is handed in again and again, 10 and more a list that came out. -/
def Lb (σ : Nat → Nat) (v : Value) (k : Nat) : Prop := ∀ b, v.ownBlock = some b → σ b = k
theorem Lb.nil (σ : Nat → Nat) (k : Nat) : Lb σ (.slice none 0 0) k := fun b h => by simp [Value.ownBlock] at h
/-- A new row has its label. -/
def lab (σ : Nat → Nat) (v : Value) (k : Nat) : Nat → Nat := fun b => if v.ownBlock = some b then k else σ b
theorem lab_same (σ : Nat → Nat) (v : Value) (k : Nat) : Lb (lab σ v k) v k := fun b h => by unfold lab; rw [if_pos h]
theorem lab_other {σ : Nat → Nat} {v u : Value} {k j : Nat} (h : Lb σ u j) (hne : ∀ b, u.ownBlock = some b → v.ownBlock ≠ some b) : Lb (lab σ v k) u j := fun b hb => by
  unfold lab; rw [if_neg (hne b hb)]; exact h b hb
/-- Lists of bytes in a list: what they read, and their labels. -/
structure Rows (w : World) (σ : Nat → Nat) (L : List Value) (es : List (Nat × List Int)) (f : Nat → Nat) : Prop where
  len : L.length = es.length
  rw : ∀ (i : Nat) (v : Value) (e : Nat × List Int), L[i]? = some v → es[i]? = some e → OB w v e.2 ∧ Lb σ v (f e.1)
theorem Rows.nil (w : World) (σ : Nat → Nat) (f : Nat → Nat) : Rows w σ [] [] f := ⟨rfl, fun i v e h => by simp at h⟩
section
variable {w w' : World} {σ : Nat → Nat} {L : List Value} {es : List (Nat × List Int)} {f : Nat → Nat}
theorem Rows.chg {S : Nat → Prop} (h : Rows w σ L es f) (hc : Chg w w' S) (hn : ∀ (i : Nat) e, es[i]? = some e → ∀ b, S b → σ b ≠ f e.1) : Rows w' σ L es f :=
  ⟨h.len, fun i v e hv he => ⟨hc.owns (h.rw i v e hv he).1 (fun b hb hS => hn i e he b hS ((h.rw i v e hv he).2 b hb)), (h.rw i v e hv he).2⟩⟩
theorem Rows.chgT {S : Nat → Prop} (h : Rows w σ L es f) (hc : Chg w w' S) (hn : ∀ b, S b → ∃ cs T, w.heap[b]? = some (.cells cs T (0, 0)) ∧ T ≠ 5) : Rows w' σ L es f :=
  ⟨h.len, fun i v e hv he => ⟨hc.owns (h.rw i v e hv he).1 (fun b hb hS => by
    obtain ⟨cs, T, h1, h2⟩ := hn b hS
    exact (h.rw i v e hv he).1.no h1 h2 hb), (h.rw i v e hv he).2⟩⟩
theorem Rows.kp (h : Rows w σ L es f) (hc : Kp w w') : Rows w' σ L es f := h.chgT hc (fun _ x => x.elim)
/-- A new row is labelled. -/
theorem Rows.lab (h : Rows w σ L es f) (v : Value) (k : Nat) (hv : Nw w v) : Rows w (lab σ v k) L es f :=
  ⟨h.len, fun i u e hu he => ⟨(h.rw i u e hu he).1, lab_other (h.rw i u e hu he).2 (fun b hb e' => by
    have h1 := OB.lt (h.rw i u e hu he).1 hb
    have h2 := hv b e'
    omega)⟩⟩
theorem Rows.snoc (h : Rows w σ L es f) {v : Value} {e : Nat × List Int} (hv : OB w v e.2) (hl : Lb σ v (f e.1)) : Rows w σ (L ++ [v]) (es ++ [e]) f := by
  refine ⟨by simp [h.len], fun i u e' hu he => ?_⟩
  by_cases hi : i < L.length
  · rw [List.getElem?_append_left hi] at hu
    rw [List.getElem?_append_left (by rw [← h.len]; exact hi)] at he
    exact h.rw i u e' hu he
  · have hi2 : i = L.length := by
      have := (List.getElem?_eq_some_iff.1 hu).1
      simp at this; omega
    subst hi2
    rw [List.getElem?_append_right (Nat.le_refl _)] at hu
    rw [h.len, List.getElem?_append_right (Nat.le_refl _)] at he
    simp at hu he
    subst hu he
    exact ⟨hv, hl⟩
end
/-- The book in memory: its box, its five lists of lists. -/
structure BkM (w : World) (K : Nat) (V : Nat → Value) (X : Nat → List Value) : Prop where
  box : w.heap[K]? = some (.cells #[V 0, V 1, V 2, V 3, V 4, V 5, V 6, V 7, V 8] 57 (0, 0))
  own : ∀ i, i < 6 → i ≠ 1 → w.ownsRow 0 26 1 (V i) (X i).length (X i)
  dj : ∀ i j b, i < 6 → j < 6 → i ≠ 1 → j ≠ 1 → i ≠ j → (V i).ownBlock = some b → (V j).ownBlock ≠ some b
def upd {α : Type} (f : Nat → α) (i : Nat) (x : α) : Nat → α := fun j => if j = i then x else f j
theorem upd_same {α : Type} (f : Nat → α) (i : Nat) (x : α) : upd f i x i = x := by simp [upd]
theorem upd_other {α : Type} (f : Nat → α) {i j : Nat} (x : α) (h : j ≠ i) : upd f i x j = f j := by simp [upd, h]
section
variable {w w' : World} {K : Nat} {V : Nat → Value} {X : Nat → List Value}
theorem BkM.notbox (h : BkM w K V X) {i : Nat} (hi : i < 6) (h1 : i ≠ 1) : (V i).ownBlock ≠ some K := fun e => by
  obtain ⟨cur, hg⟩ := own_tp (h.own i hi h1) e
  rw [h.box] at hg
  simp at hg
theorem BkM.lt (h : BkM w K V X) {i b : Nat} (hi : i < 6) (h1 : i ≠ 1) (hb : (V i).ownBlock = some b) : b < w.heap.size := by
  obtain ⟨cur, hg⟩ := own_tp (h.own i hi h1) hb
  exact hp_lt hg
theorem BkM.chgT {S : Nat → Prop} (h : BkM w K V X) (hc : Chg w w' S) (hn : ∀ b, S b → ∃ cs T, w.heap[b]? = some (.cells cs T (0, 0)) ∧ T ≠ 26 ∧ T ≠ 57) : BkM w' K V X := by
  refine ⟨hc.heap h.box (fun e => ?_), fun i hi h1 => hc.owns (h.own i hi h1) (fun b hb hS => ?_), h.dj⟩
  · obtain ⟨cs, T, h1, _, h2⟩ := hn K e
    rw [h.box] at h1
    simp at h1
    exact h2 h1.2.symm
  · obtain ⟨cs, T, h3, h4, _⟩ := hn b hS
    obtain ⟨cur, hg⟩ := own_tp (h.own i hi h1) hb
    rw [h3] at hg
    simp at hg
    exact h4 hg.2
theorem BkM.kp (h : BkM w K V X) (hc : Kp w w') : BkM w' K V X := h.chgT hc (fun _ x => x.elim)
theorem BkM.cell (h : BkM w K V X) {i : Nat} (hi : i < 9) : w.cell? ⟨K, i, none⟩ = some (V i) ∧ w.frozen? ⟨K, i, none⟩ = false := by
  refine ⟨?_, (cells_at h.box i).2⟩
  rw [(cells_at h.box i).1]
  have : i = 0 ∨ i = 1 ∨ i = 2 ∨ i = 3 ∨ i = 4 ∨ i = 5 ∨ i = 6 ∨ i = 7 ∨ i = 8 := by omega
  rcases this with rfl | rfl | rfl | rfl | rfl | rfl | rfl | rfl | rfl <;> rfl
theorem BkM.setBox (h : BkM w K V X) {i : Nat} (hi : i < 9) (v : Value) : (w.setCell ⟨K, i, none⟩ v).heap[K]? = some (.cells #[upd V i v 0, upd V i v 1, upd V i v 2, upd V i v 3, upd V i v 4, upd V i v 5, upd V i v 6, upd V i v 7, upd V i v 8] 57 (0, 0)) ∧ Chg w (w.setCell ⟨K, i, none⟩ v) (fun k => k = K) := by
  refine ⟨?_, Chg.setCell (S := fun k => k = K) (Chg.refl w _) (.inl rfl) _⟩
  rw [heap_setCell_same w K i _ 57 v h.box]
  have : i = 0 ∨ i = 1 ∨ i = 2 ∨ i = 3 ∨ i = 4 ∨ i = 5 ∨ i = 6 ∨ i = 7 ∨ i = 8 := by omega
  rcases this with rfl | rfl | rfl | rfl | rfl | rfl | rfl | rfl | rfl <;> simp [upd]
/-- A field that is no list of lists is another one. -/
theorem BkM.field (h : BkM w K V X) {i : Nat} (hi : i < 9) (h1 : i = 1 ∨ 6 ≤ i) (v : Value) : BkM (w.setCell ⟨K, i, none⟩ v) K (upd V i v) X := by
  obtain ⟨hb, hc⟩ := h.setBox hi v
  refine ⟨hb, fun j hj hj1 => ?_, fun j j' b hj hj' a1 a2 a3 => ?_⟩
  · rw [upd_other _ _ (by omega)]
    exact hc.owns (h.own j hj hj1) (fun b hb e => h.notbox hj hj1 (by rw [hb, e]))
  · rw [upd_other _ _ (by omega), upd_other _ _ (by omega)]
    exact h.dj j j' b hj hj' a1 a2 a3
/-- One more in one of the lists. -/
theorem BkM.step (h : BkM w K V X) {i : Nat} (hi : i < 6) (h1 : i ≠ 1) {v' x : Value} (ho : w'.ownsRow 0 26 1 v' ((X i).length + 1) (X i ++ [x])) (hc : Chg w w' (fun k => (V i).ownBlock = some k)) (hL : v'.ownBlock = (V i).ownBlock ∨ Nw w v') :
    BkM (w'.setCell ⟨K, i, none⟩ v') K (upd V i v') (upd X i (X i ++ [x])) ∧ Chg w (w'.setCell ⟨K, i, none⟩ v') (fun k => k = K ∨ (V i).ownBlock = some k) := by
  have hb' := hc.heap h.box (fun e => h.notbox hi h1 e)
  have c2 : Chg w' (w'.setCell ⟨K, i, none⟩ v') (fun k => k = K) := Chg.setCell (S := fun k => k = K) (Chg.refl w' _) (.inl rfl) _
  have hnb : ∀ k, v'.ownBlock = some k → k ≠ K := fun k hk e => by
    obtain ⟨cur, hg⟩ := own_tp ho hk
    rw [e, hb'] at hg
    simp at hg
  refine ⟨⟨?_, fun j hj hj1 => ?_, fun j j' k hj hj' a1 a2 hne hk hk' => ?_⟩, Chg.trans (hc.mono (fun _ _ e => .inr e)) c2 (fun _ _ e => .inl e)⟩
  · rw [heap_setCell_same w' K i _ 57 v' hb']
    have : i = 0 ∨ i = 1 ∨ i = 2 ∨ i = 3 ∨ i = 4 ∨ i = 5 := by omega
    rcases this with rfl | rfl | rfl | rfl | rfl | rfl <;> simp [upd]
  · by_cases e : j = i
    · subst e
      rw [upd_same, upd_same]
      have : (X j ++ [x]).length = (X j).length + 1 := by simp
      rw [this]
      exact c2.owns ho (fun k hk e => hnb k hk e)
    · rw [upd_other _ _ e, upd_other _ _ e]
      exact c2.owns (hc.owns (h.own j hj hj1) (fun k hk e' => h.dj j i k hj hi hj1 h1 e hk e')) (fun k hk e' => h.notbox hj hj1 (by rw [← e']; exact hk))
  · have new : ∀ k, v'.ownBlock = some k → ∀ m, m < 6 → m ≠ 1 → m ≠ i → (V m).ownBlock ≠ some k := fun k hk m hm hm1 hmi e => by
      rcases hL with e' | e'
      · rw [e'] at hk; exact h.dj m i k hm hi hm1 h1 hmi e hk
      · have := e' k hk
        have := h.lt hm hm1 e
        omega
    by_cases e1 : j = i
    · subst e1
      rw [upd_same] at hk
      rw [upd_other _ _ (fun e => hne e.symm)] at hk'
      exact new k hk j' hj' a2 (fun e => hne e.symm) hk'
    · rw [upd_other _ _ e1] at hk
      by_cases e2 : j' = i
      · subst e2
        rw [upd_same] at hk'
        exact new k hk' j hj a1 e1 hk
      · rw [upd_other _ _ e2] at hk'
        exact h.dj j j' k hj hj' a1 a2 hne hk hk'
end
theorem info26p : ∃ i, Try.prog.info? 26 = some i ∧ i.zero = some (.slice none 0 0) ∧ i.size = 1 ∧ i.bytes = 24 := by
  have hz : (Try.prog.info? 26).map (fun i => (i.zero, i.size, i.bytes)) = some (some (.slice none 0 0), 1, 24) := by kernel_rfl
  cases hq : Try.prog.info? 26 with
  | none => rw [hq] at hz; cases hz
  | some i =>
    rw [hq] at hz
    have hz2 : i.zero = some (.slice none 0 0) ∧ i.size = 1 ∧ i.bytes = 24 := by simpa using hz
    exact ⟨i, rfl, hz2⟩
/-- 'append(v, l)': one list more. -/
theorem appL (w : World) (v : Value) (xs : List Value) (h : w.ownsRow 0 26 1 v xs.length xs) (x : Value) (hx : x.oneCell' = true) (hl : xs.length < 1000000) :
    ∃ v' w', (Builtin.append_ #[55, 55] 55 #[v, .slice (some ⟨w.heap.size, 0, none⟩) 1 1]).run Try.prog (w.alloc (.cells #[x] 26)) = .ok v' w' ∧ w'.ownsRow 0 26 1 v' (xs.length + 1) (xs ++ [x]) ∧ Chg w w' (fun i => v.ownBlock = some i) ∧ (v'.ownBlock = v.ownBlock ∨ Nw w v') := by
  obtain ⟨i0, hi, hz, hs, hb⟩ := info26p
  have ha : (w.alloc (.cells #[x] 26)).ownsRow 0 26 1 v xs.length xs := Chg.owns ((Chg.refl w (fun _ => False)).alloc _) h (fun _ _ h => h)
  obtain ⟨v', w', hr, ho, hg, hL⟩ := run_app (P := Try.prog) (w.alloc (.cells #[x] 26)) 55 55 26 i0 (.slice none 0 0) 1 24 Try.underlying55 hi hz hs hb rfl (by omega) v xs.length _ ha (some ⟨w.heap.size, 0, none⟩) 1 1 [x] rfl (.inr ⟨_, _, rfl, fun j u hu => by
    have : j = 0 := by cases j with
      | zero => rfl
      | succ j => simp at hu
    subst this
    rw [(cells_at (heap_alloc_new w _) _).1]
    simpa using hu⟩) (by simp [hx]) (by simp [maxLen]; omega) (by omega)
  refine ⟨v', w', hr, ho, Chg.grown ((Chg.refl w _).alloc _) hg (fun k hk => .inl hk), ?_⟩
  rcases hL with e | ⟨k, e, hk⟩
  · exact .inl e
  · exact .inr (fun b hb => by rw [e] at hb; simp at hb hk; omega)
end Go.Proofs.Ytibpbemenjgncaa
