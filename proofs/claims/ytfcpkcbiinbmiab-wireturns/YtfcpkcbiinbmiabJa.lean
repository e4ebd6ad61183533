import Derived.Test.YtfcpkcbiinbmiabHi
import Derived.Test.YtfcpkcbiinbmiabGk
namespace Go.Proofs.Ytfcpkcbiinbmiab
open Go.ChangeShapes Go.WideShapes Go.ChangeAt Go.RowKit Go.ChangeMaps
set_option linter.unusedVariables false
/-- Both writers in one state, and the book; nothing that came in has changed. -/
structure MW (w0 w : World) (σ : Nat → Nat × Nat) (K B M D : Nat) (v : Value) (n : Nat) (vb vo : Value) (s : WS) (es fs hs : List En) : Prop where
  bk : ∃ V X, Bk w σ K V X es fs hs
  pw : PW w B M v n s
  vw : VW w D vb vo s
  lp : ∀ k, Wf B M v k → σ k = (0, 1)
  lv : ∀ k, Vf D vb vo k → σ k = (0, 2)
  bel : Below w0.heap.size w0 w
  lo : ∀ b, b < w0.heap.size → σ b = (0, 0)
section
variable {w0 w w' : World} {σ σ' : Nat → Nat × Nat} {K B M D n : Nat} {v vb vo : Value} {s s' : WS} {es fs hs : List En}
theorem MW.fz (h : MW w0 w σ K B M D v n vb vo s es fs hs) : Fz w σ := by
  obtain ⟨V, X, hb⟩ := h.bk
  exact hb.i.m.fz
theorem MW.kp (h : MW w0 w σ K B M D v n vb vo s es fs hs) (hk : Kp w w') : MW w0 w' σ K B M D v n vb vo s es fs hs := by
  obtain ⟨V, X, hb⟩ := h.bk
  exact ⟨⟨V, X, hb.kp hk⟩, h.pw.kp hk, h.vw.kp hk, h.lp, h.lv, h.bel.trans (Chg.below hk h.bel.size (by simp)), h.lo⟩
/-- Blocks that are nobody's of these are written. -/
theorem MW.chg {S : Nat → Prop} (h : MW w0 w σ K B M D v n vb vo s es fs hs) (hc : Chg w w' S) (hS : ∀ k, S k → (σ k).1 = 0 ∧ σ k ≠ (0, 1) ∧ σ k ≠ (0, 2) ∧ w0.heap.size ≤ k) : MW w0 w' σ K B M D v n vb vo s es fs hs := by
  obtain ⟨V, X, hb⟩ := h.bk
  exact ⟨⟨V, X, hb.chg hc (fun k hk => (hS k hk).1)⟩, h.pw.other hc (fun k hk e => (hS k e).2.1 (h.lp k hk)), h.vw.other hc (fun k hk e => (hS k e).2.2.1 (h.lv k hk)), h.lp, h.lv, h.bel.trans (hc.below h.bel.size (fun k hk e => by have := (hS k e).2.2.2; omega)), h.lo⟩
theorem Bk.ext {V : Nat → Value} {X : Nat → List Value} (h : Bk w σ K V X es fs hs) (hx : Ext w σ σ') (hz : Fz w σ') : Bk w σ' K V X es fs hs := h.relab (fun b hb _ => hx b hb) hz
/-- What a call leaves: one's own blocks have changed, old labels stay. -/
structure Mv (w : World) (σ : Nat → Nat × Nat) (w' : World) (σ' : Nat → Nat × Nat) (c : Nat × Nat → Prop) : Prop where
  ch : Chg w w' (fun k => c (σ k))
  ex : Ext w σ σ'
theorem Mv.trans {w'' : World} {σ'' : Nat → Nat × Nat} {c : Nat × Nat → Prop} (h : Mv w σ w' σ' c) (k : Mv w' σ' w'' σ'' c) : Mv w σ w'' σ'' c :=
  ⟨h.ch.trans k.ch (fun b hb e => by show c (σ b); rw [← h.ex b hb]; exact e), h.ex.trans k.ex h.ch.size⟩
theorem Mv.kp {c : Nat × Nat → Prop} (h : Kp w w') : Mv w σ w' σ c := ⟨h.any, Ext.refl _ _⟩
theorem Mv.mono {c c' : Nat × Nat → Prop} (h : Mv w σ w' σ' c) (hc : ∀ k, c k → c' k) : Mv w σ w' σ' c' := ⟨h.ch.mono (fun k _ e => hc _ e), h.ex⟩
/-- The program's writer has moved. -/
theorem MW.prog {s1 : WS} {m : Nat} (h : MW w0 w σ K B M D v n vb vo s es fs hs) (hE : PwE w w' B M v m s') : ∃ σ' v' n', Mv w σ w' σ' (fun k => k = (0, 1)) ∧ n' ≤ m + 1 ∧ PW w' B M v' n' s' ∧ VW w' D vb vo s ∧ (∃ V X, Bk w' σ' K V X es fs hs) ∧ (∀ k, Wf B M v' k → σ' k = (0, 1)) ∧ (∀ k, Vf D vb vo k → σ' k = (0, 2)) ∧ Below w0.heap.size w0 w' ∧ (∀ b, b < w0.heap.size → σ' b = (0, 0)) := by
  obtain ⟨v', n', q1, q2, q3, q4⟩ := hE
  obtain ⟨V, X, hb⟩ := h.bk
  have hc : Chg w w' (fun k => σ k = (0, 1)) := q2.mono (fun k _ e => h.lp k e)
  have hBl : B < w.heap.size := h.pw.Blt
  have hMl : M < w.heap.size := by
    obtain ⟨mo, hW⟩ := h.pw.is
    exact hp_lt hW.map
  have hx : Ext w σ (lab σ v' (0, 1)) := Ext.lab (fun b hb' hlt => by
    rcases q3 with e | ⟨j, e, hj⟩
    · exact h.lp b (.inr (.inr (by rw [← e]; exact hb')))
    · rw [e] at hb'; cases hb'; omega)
  have hz : Fz w' (lab σ v' (0, 1)) := fz_labs h.fz hc.size (fun b hb' => q1.vlt b hb')
  refine ⟨lab σ v' (0, 1), v', n', ⟨hc, hx⟩, q4, q1, h.vw.other q2 (fun k hk e => by have := h.lv k hk; rw [h.lp k e] at this; simp at this), ⟨V, X, (hb.chg hc (fun k e => by rw [e])).relab (fun b hb' e => ?_) hz⟩, fun k hk => ?_, fun k hk => ?_, h.bel.trans (hc.below h.bel.size (fun k hk e => by rw [h.lo k hk] at e; simp at e)), fun b hb' => ?_⟩
  · by_cases hlt : b < w.heap.size
    · exact hx b hlt
    · rw [h.fz b (by omega)] at e; simp at e
  · rcases hk with e | e | e
    · rw [e, hx B hBl]; exact h.lp B (.inl rfl)
    · rw [e, hx M hMl]; exact h.lp M (.inr (.inl rfl))
    · exact lab_same _ _ _ k e
  · have hlt : k < w.heap.size := by
      rcases hk with e | e | e
      · rw [e]; exact hp_lt h.vw.box
      · exact own_lt h.vw.own.1 e
      · exact own_lt h.vw.opn e
    rw [hx k hlt]; exact h.lv k hk
  · rw [hx b (Nat.lt_of_lt_of_le hb' h.bel.size)]; exact h.lo b hb'
end
/-- Between the two calls of a step. -/
structure MH (w0 w : World) (σ : Nat → Nat × Nat) (K B M D : Nat) (v : Value) (n : Nat) (vb vo : Value) (s s' : WS) (es fs hs : List En) : Prop where
  bk : ∃ V X, Bk w σ K V X es fs hs
  pw : PW w B M v n s'
  vw : VW w D vb vo s
  lp : ∀ k, Wf B M v k → σ k = (0, 1)
  lv : ∀ k, Vf D vb vo k → σ k = (0, 2)
  bel : Below w0.heap.size w0 w
  lo : ∀ b, b < w0.heap.size → σ b = (0, 0)
section
variable {w0 w w' : World} {σ σ' : Nat → Nat × Nat} {K B M D n : Nat} {v vb vo : Value} {s s' : WS} {es fs hs : List En}
theorem MW.go {m : Nat} (h : MW w0 w σ K B M D v n vb vo s es fs hs) (hE : PwE w w' B M v m s') : ∃ σ' v' n', Mv w σ w' σ' (fun k => k = (0, 1)) ∧ n' ≤ m + 1 ∧ MH w0 w' σ' K B M D v' n' vb vo s s' es fs hs := by
  obtain ⟨σ', v', n', q1, q2, q3, q4, q5, q6, q7, q8, q9⟩ := h.prog (s1 := s) hE
  exact ⟨σ', v', n', q1, q2, q5, q3, q4, q6, q7, q8, q9⟩
theorem MH.kp (h : MH w0 w σ K B M D v n vb vo s s' es fs hs) (hk : Kp w w') : MH w0 w' σ K B M D v n vb vo s s' es fs hs := by
  obtain ⟨V, X, hb⟩ := h.bk
  exact ⟨⟨V, X, hb.kp hk⟩, h.pw.kp hk, h.vw.kp hk, h.lp, h.lv, h.bel.trans (Chg.below hk h.bel.size (by simp)), h.lo⟩
theorem MH.chg {S : Nat → Prop} (h : MH w0 w σ K B M D v n vb vo s s' es fs hs) (hc : Chg w w' S) (hS : ∀ k, S k → (σ k).1 = 0 ∧ σ k ≠ (0, 1) ∧ σ k ≠ (0, 2) ∧ w0.heap.size ≤ k) : MH w0 w' σ K B M D v n vb vo s s' es fs hs := by
  obtain ⟨V, X, hb⟩ := h.bk
  exact ⟨⟨V, X, hb.chg hc (fun k hk => (hS k hk).1)⟩, h.pw.other hc (fun k hk e => (hS k e).2.1 (h.lp k hk)), h.vw.other hc (fun k hk e => (hS k e).2.2.1 (h.lv k hk)), h.lp, h.lv, h.bel.trans (hc.below h.bel.size (fun k hk e => by have := (hS k e).2.2.2; omega)), h.lo⟩
/-- The document's writer has moved, too. -/
theorem MH.go (h : MH w0 w σ K B M D v n vb vo s s' es fs hs) (hE : VwE w w' D vb vo s') : ∃ σ' vb' vo', Mv w σ w' σ' (fun k => k = (0, 2)) ∧ MW w0 w' σ' K B M D v n vb' vo' s' es fs hs := by
  obtain ⟨vb', vo', q1, q2, q3, q4⟩ := hE
  obtain ⟨V, X, hb⟩ := h.bk
  have hz0 : Fz w σ := hb.i.m.fz
  have hc : Chg w w' (fun k => σ k = (0, 2)) := q2.mono (fun k _ e => h.lv k e)
  have hDl : D < w.heap.size := hp_lt h.vw.box
  obtain ⟨σ', hσ⟩ : ∃ σ', σ' = lab (lab σ vb' (0, 2)) vo' (0, 2) := ⟨_, rfl⟩
  have hx : Ext w σ σ' := fun b hb' => by
    rw [hσ]; unfold lab
    split
    · next e =>
      rcases q4 b e with e' | e'
      · exact (h.lv b (.inr (.inr e'))).symm
      · omega
    · split
      · next e =>
        rcases q3 b e with e' | e'
        · exact (h.lv b (.inr (.inl e'))).symm
        · omega
      · rfl
  have hz : Fz w' σ' := fun b hb' => by
    rw [hσ]; unfold lab
    rw [if_neg (fun e => by have := own_lt q1.opn e; omega), if_neg (fun e => by have := own_lt q1.own.1 e; omega)]
    exact hz0 b (Nat.le_trans hc.size hb')
  refine ⟨σ', vb', vo', ⟨hc, hx⟩, ⟨V, X, (hb.chg hc (fun k e => by rw [e])).relab (fun b hb' e => ?_) hz⟩, h.pw.other q2 (fun k hk e => by have := h.lp k hk; rw [h.lv k e] at this; simp at this), q1, fun k hk => ?_, fun k hk => ?_, h.bel.trans (hc.below h.bel.size (fun k hk e => by rw [h.lo k hk] at e; simp at e)), fun b hb' => ?_⟩
  · by_cases hlt : b < w.heap.size
    · exact hx b hlt
    · rw [hz0 b (by omega)] at e; simp at e
  · have hlt : k < w.heap.size := by
      rcases hk with e | e | e
      · rw [e]; exact h.pw.Blt
      · rw [e]; obtain ⟨mo, hW⟩ := h.pw.is; exact hp_lt hW.map
      · exact h.pw.vlt k e
    rw [hx k hlt]; exact h.lp k hk
  · rcases hk with e | e | e
    · rw [e, hx D hDl]; exact h.lv D (.inl rfl)
    · rw [hσ]; unfold lab
      simp [e]
    · rw [hσ]; exact lab_same _ _ _ k e
  · rw [hx b (Nat.lt_of_lt_of_le hb' h.bel.size)]; exact h.lo b hb'
/-- A list that came out is the book's. -/
theorem Bk.own {V V' : Nat → Value} {X : Nat → List Value} {x u : Value} {bs : List Int} {o : Nat} (h : Bk w σ K V X es fs hs) (H : Hld w σ K V X x bs o w' σ' V' u) (hl : ∀ b, x.ownBlock = some b → (σ b).1 = 0) (ho : ∀ e, e ∈ hs ++ fs → e.o ≠ o) (hb : bs.length ≤ 100000000) :
    Bk w' σ' K V' (upd (upd X 2 (X 2 ++ [x])) 3 (X 3 ++ [u])) es (fs ++ [⟨o, bs.length, bs.map (Value.int .u8)⟩]) hs := by
  have ent : ∀ {c : Nat} {L : List Value} {zs : List En}, c ≠ 0 → c ≠ 1 → Ent w σ 5 1 c L zs → Ent w' σ' 5 1 c L zs := by
    intro c L zs h0 h1 hE
    have := hE.chgC H.ch (fun k (e : (σ k).1 = 1) => by rw [e]; exact fun x => h1 x.symm)
    refine ⟨this.len, fun i y z hy hz => ⟨(this.rw i y z hy hz).1, fun k hk => ?_⟩⟩
    have e1 := (hE.rw i y z hy hz).2 k hk
    rw [H.ex k (own_lt (hE.rw i y z hy hz).1 hk) (fun e => by have := hl k e; rw [e1] at this; exact h0 this)]
    exact e1
  have x0 : ∀ i, i ≠ 2 → i ≠ 3 → upd (upd X 2 (X 2 ++ [x])) 3 (X 3 ++ [u]) i = X i := fun i h2 h3 => by rw [upd_other _ _ h3, upd_other _ _ h2]
  refine ⟨⟨H.bk, ?_, ?_, h.i.fu, h.i.lo, ?_, ?_, ?_, ?_, ?_, ?_⟩, ?_⟩
  · rw [x0 0 (by decide) (by decide)]; exact ent (by decide) (by decide) h.i.l
  · rw [x0 1 (by decide) (by decide)]; exact h.i.lm
  · rw [upd_other _ _ (by decide), upd_same]; exact (ent (by decide) (by decide) h.i.f).snoc H.ob.1 H.lb
  · rw [upd_same]; exact (ent (by decide) (by decide) h.i.fw).snoc H.ou.1 H.lu
  · rw [x0 4 (by decide) (by decide)]; exact h.i.hl
  · intro j y z hj hy hz
    rw [x0 4 (by decide) (by decide)] at hy
    have hE : Ent w σ 5 1 3 (X 4) hs := ⟨h.i.hl, fun i v e hv he => h.i.h i v e (Nat.zero_le _) hv he⟩
    exact (ent (by decide) (by decide) hE).rw j y z hy hz
  · rw [← List.append_assoc, List.map_append, List.nodup_append]
    refine ⟨h.i.nd, by simp, fun a ha b hb' e => ?_⟩
    simp only [List.map_cons, List.map_nil, List.mem_singleton] at hb'
    obtain ⟨z, hz, rfl⟩ := List.mem_map.1 ha
    exact ho z hz (by rw [e, hb'])
  · intro e he
    rw [← List.append_assoc] at he
    rcases List.mem_append.1 he with h' | h'
    · exact h.i.bys e h'
    · simp at h'
      subst h'
      exact ⟨bs, rfl, rfl, H.ob.2, hb⟩
  · rw [x0 5 (by decide) (by decide)]; exact ent (by decide) (by decide) h.hw
/-- The book has one more list, of nobody else. -/
theorem MW.owned {V V' : Nat → Value} {X : Nat → List Value} {x u : Value} {bs : List Int} {o : Nat} (h : MW w0 w σ K B M D v n vb vo s es fs hs) (hb : Bk w σ K V X es fs hs) (H : Hld w σ K V X x bs o w' σ' V' u) (hl : ∀ b, x.ownBlock = some b → σ b = (0, 0) ∧ w0.heap.size ≤ b) (ho : ∀ e, e ∈ hs ++ fs → e.o ≠ o) (hbl : bs.length ≤ 100000000) :
    MW w0 w' σ' K B M D v n vb vo s es (fs ++ [⟨o, bs.length, bs.map (Value.int .u8)⟩]) hs := by
  have ex : ∀ k, k < w.heap.size → σ k ≠ (0, 0) → σ' k = σ k := fun k hk e => H.ex k hk (fun e' => e (hl k e').1)
  refine ⟨⟨_, _, hb.own H (fun b hb' => by rw [(hl b hb').1]) ho hbl⟩, h.pw.other H.ch (fun k hk e => by rw [h.lp k hk] at e; simp at e), h.vw.other H.ch (fun k hk e => by rw [h.lv k hk] at e; simp at e), fun k hk => ?_, fun k hk => ?_, h.bel.trans (H.ch.below h.bel.size (fun k hk e => by rw [h.lo k hk] at e; simp at e)), fun b hb' => ?_⟩
  · have hlt : k < w.heap.size := by
      rcases hk with e | e | e
      · rw [e]; exact h.pw.Blt
      · rw [e]; obtain ⟨mo, hW⟩ := h.pw.is; exact hp_lt hW.map
      · exact h.pw.vlt k e
    rw [ex k hlt (by rw [h.lp k hk]; decide)]; exact h.lp k hk
  · have hlt : k < w.heap.size := by
      rcases hk with e | e | e
      · rw [e]; exact hp_lt h.vw.box
      · exact own_lt h.vw.own.1 e
      · exact own_lt h.vw.opn e
    rw [ex k hlt (by rw [h.lv k hk]; decide)]; exact h.lv k hk
  · have hlt := Nat.lt_of_lt_of_le hb' h.bel.size
    rw [H.ex b hlt (fun e => by have := (hl b e).2; omega)]; exact h.lo b hb'
end
end Go.Proofs.Ytfcpkcbiinbmiab
