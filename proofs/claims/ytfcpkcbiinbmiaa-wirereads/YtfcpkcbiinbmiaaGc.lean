import Derived.Test.YtfcpkcbiinbmiaaFc
namespace Go.Proofs.Ytfcpkcbiinbmiaa
open Go.ChangeShapes Go.WideShapes Go.ChangeAt Go.RowKit
set_option linter.unusedVariables false
/-- The mark of a list's number. -/
def mrk (o : Nat) : Int := ((o % 254 + 1 : Nat) : Int)
theorem mrk_ok (o : Nat) : 0 ≤ mrk o ∧ mrk o ≤ 255 := by unfold mrk; omega
/-- A list of bytes, not too long. -/
def EnB (e : En) : Prop := ∃ bs : List Int, e.xs = bs.map (Value.int .u8) ∧ bs.length = e.n ∧ (∀ x, x ∈ bs → 0 ≤ x ∧ x ≤ 255) ∧ e.n ≤ 20000
/-- Nothing but the book's blocks has changed, and what is not the book's stays so. -/
structure Sf (w : World) (σ : Nat → Nat × Nat) (w' : World) (σ' : Nat → Nat × Nat) : Prop where
  ch : Chg w w' (fun b => (σ b).1 ≠ 0)
  ex : ∀ b, b < w.heap.size → (σ b).1 = 0 → σ' b = σ b
theorem Sf.refl (w : World) (σ : Nat → Nat × Nat) : Sf w σ w σ := ⟨Chg.refl _ _, fun _ _ _ => rfl⟩
theorem Sf.trans {w w' w'' : World} {σ σ' σ'' : Nat → Nat × Nat} (h : Sf w σ w' σ') (k : Sf w' σ' w'' σ'') : Sf w σ w'' σ'' := by
  refine ⟨h.ch.trans k.ch (fun b hb e e' => e ?_), fun b hb e => ?_⟩
  · rw [h.ex b hb e']; exact e'
  · rw [k.ex b (Nat.lt_of_lt_of_le hb h.ch.size) (by rw [h.ex b hb e]; exact e)]
    exact h.ex b hb e
theorem Sf.kp {w w' : World} {σ : Nat → Nat × Nat} (h : Kp w w') : Sf w σ w' σ := ⟨h.any, fun _ _ _ => rfl⟩
/-- The book while its held lists are gone through: those from i on are still held. -/
structure BkI (w : World) (σ : Nat → Nat × Nat) (K : Nat) (V : Nat → Value) (X : Nat → List Value) (es fs hs : List En) (i : Nat) : Prop where
  m : BkM w σ K V X
  l : Ent w σ 5 1 2 (X 0) es
  lm : X 1 = es.map (fun (e : En) => .int .u8 (mrk e.o))
  fu : ∀ e, e ∈ es → e.xs = List.replicate e.n (.int .u8 (mrk e.o)) ∧ e.n ≤ 30000
  lo : ∀ (j : Nat) (e : En), es[j]? = some e → e.o ≤ j
  f : Ent w σ 5 1 3 (X 2) fs
  fw : Ent w σ 5 1 4 (X 3) fs
  hl : (X 4).length = hs.length
  h : ∀ (j : Nat) (v : Value) (e : En), i ≤ j → (X 4)[j]? = some v → hs[j]? = some e → w.ownsRow 0 5 1 v e.n e.xs ∧ Lb σ v (3, e.o)
  nd : ((hs ++ fs).map (fun e => e.o)).Nodup
  bys : ∀ e, e ∈ hs ++ fs → EnB e
section
variable {w w' : World} {σ σ' : Nat → Nat × Nat} {K : Nat} {V : Nat → Value} {X : Nat → List Value} {es fs hs : List En} {i : Nat}
theorem BkI.chg {S : Nat → Prop} (h : BkI w σ K V X es fs hs i) (hc : Chg w w' S) (hn : ∀ b, S b → (σ b).1 = 0) : BkI w' σ K V X es fs hs i :=
  ⟨h.m.chg hc (fun b hb => by rw [hn b hb]; decide), h.l.chgC hc (fun b hb => by rw [hn b hb]; decide), h.lm, h.fu, h.lo, h.f.chgC hc (fun b hb => by rw [hn b hb]; decide), h.fw.chgC hc (fun b hb => by rw [hn b hb]; decide), h.hl, fun j v e hj hv he => ⟨hc.owns (h.h j v e hj hv he).1 (fun b hb hS => by have := hn b hS; rw [(h.h j v e hj hv he).2 b hb] at this; simp at this), (h.h j v e hj hv he).2⟩, h.nd, h.bys⟩
theorem BkI.kp (h : BkI w σ K V X es fs hs i) (hc : Kp w w') : BkI w' σ K V X es fs hs i := h.chg hc (fun _ x => x.elim)
theorem fz_labs {v : Value} {k : Nat × Nat} (h : Fz w σ) (hs : w.heap.size ≤ w'.heap.size) (hv : ∀ b, v.ownBlock = some b → b < w'.heap.size) : Fz w' (lab σ v k) := fun b hb => by
  show (if v.ownBlock = some b then k else σ b) = (0, 0)
  rw [if_neg (fun e => by have := hv b e; omega)]
  exact h b (by omega)
/-- A held list was written full: it is one of those that were written over. -/
theorem BkI.filled (h : BkI w σ K V X es fs hs i) {v : Value} {e : En} (hv : (X 4)[i]? = some v) (he : hs[i]? = some e) (ho : w'.ownsRow 0 5 1 v e.n (List.replicate e.n (.int .u8 (mrk es.length)))) (hc : Chg w w' (fun b => v.ownBlock = some b)) :
    BkI w' (lab σ v (2, es.length)) K V X es fs hs (i + 1) ∧ Lb (lab σ v (2, es.length)) v (2, es.length) ∧ Sf w σ w' (lab σ v (2, es.length)) := by
  obtain ⟨r0, l0⟩ := h.h i v e (Nat.le_refl _) hv he
  have hne : ∀ b, v.ownBlock ≠ some b → lab σ v (2, es.length) b = σ b := fun b hb => by show (if _ then _ else _) = _; rw [if_neg hb]
  have hz : Fz w' (lab σ v (2, es.length)) := fz_labs h.m.fz hc.size (fun b hb => own_lt ho hb)
  -- rows with another label
  have key : ∀ {T sz n : Nat} {u : Value} {xs : List Value} {k : Nat × Nat}, w.ownsRow 0 T sz u n xs → Lb σ u k → k ≠ (3, e.o) → w'.ownsRow 0 T sz u n xs ∧ Lb (lab σ v (2, es.length)) u k := by
    intro T sz n u xs k hr hL hk
    have hd : ∀ b, u.ownBlock = some b → v.ownBlock ≠ some b := fun b hb hb' => hk (by rw [← hL b hb, ← l0 b hb'])
    exact ⟨hc.owns hr (fun b hb hS => hd b hb hS), fun b hb => by rw [hne b (hd b hb)]; exact hL b hb⟩
  have hmem : e ∈ hs := List.mem_of_getElem? he
  have hnd := h.nd
  rw [List.map_append, List.nodup_append] at hnd
  obtain ⟨n1, n2, n3⟩ := hnd
  have ent : ∀ {c : Nat} {L : List Value} {zs : List En}, Ent w σ 5 1 c L zs → (∀ z, z ∈ zs → (c, z.o) ≠ (3, e.o)) → Ent w' (lab σ v (2, es.length)) 5 1 c L zs := by
    intro c L zs hE hz
    exact ⟨hE.len, fun j u z hu hz' => key (hE.rw j u z hu hz').1 (hE.rw j u z hu hz').2 (hz z (List.mem_of_getElem? hz'))⟩
  refine ⟨⟨⟨?_, ?_, ?_, hz⟩, ent h.l (fun z _ => by simp), h.lm, h.fu, h.lo, ent h.f (fun z hz' e' => ?_), ent h.fw (fun z _ => by simp), h.hl, ?_, h.nd, h.bys⟩, lab_same _ _ _, hc.mono (fun b _ e' => ?_), fun b hb e' => hne b (fun e'' => ?_)⟩
  · exact hc.heap h.m.box (fun e' => by have := l0 K e'; rw [h.m.lk] at this; simp at this)
  · rw [hne K (fun e' => by have := l0 K e'; rw [h.m.lk] at this; simp at this)]; exact h.m.lk
  · intro j hj
    exact key (h.m.own j hj).1 (h.m.own j hj).2 (by simp)
  · simp only [Prod.mk.injEq, true_and] at e'
    exact n3 e.o (List.mem_map.2 ⟨e, hmem, rfl⟩) z.o (List.mem_map.2 ⟨z, hz', rfl⟩) e'.symm
  · intro j u z hj hu hz'
    refine key (h.h j u z (by omega) hu hz').1 (h.h j u z (by omega) hu hz').2 (fun e' => ?_)
    simp only [Prod.mk.injEq, true_and] at e'
    have hlt : i < hs.length := (List.getElem?_eq_some_iff.1 he).1
    have hlj : j < hs.length := (List.getElem?_eq_some_iff.1 hz').1
    have e1 : (hs.map (fun e => e.o))[i]? = some e.o := by simp [he]
    have e2 : (hs.map (fun e => e.o))[j]? = some e.o := by simp [hz', e']
    have := (List.getElem?_inj (by simpa using hlt) n1).1 (e1.trans e2.symm)
    omega
  · show (σ b).1 ≠ 0
    rw [l0 b e']; simp
  · rw [l0 b e''] at e'; simp at e'
/-- A list was made longer. -/
theorem BkI.longed (h : BkI w σ K V X es fs hs i) {j n : Nat} {v v' : Value} {e : En} {ys : List Value} (hv : (X 0)[j]? = some v) (he : es[j]? = some e) (hj : e.o = j) (hu : ∀ k z, es[k]? = some z → z.o = j → k = j)
    (hc : Chg w w' (fun b => v.ownBlock = some b)) (ho : w'.ownsRow 0 5 1 v e.n e.xs) (ho' : w'.ownsRow 0 5 1 v' n ys) (hf : v'.ownBlock = v.ownBlock ∨ Fresh w.heap.size v') :
    BkI w' (lab σ v' (2, j)) K V X es fs hs i ∧ Lb (lab σ v' (2, j)) v' (2, j) ∧ Sf w σ w' (lab σ v' (2, j)) := by
  obtain ⟨r0, l0⟩ := h.l.rw j v e hv he
  rw [hj] at l0
  have hx : ∀ b, b < w.heap.size → lab σ v' (2, j) b = σ b := fun b hb => by
    show (if _ then _ else _) = _
    split
    · next e' =>
      rcases hf with e'' | e''
      · rw [e''] at e'; exact (l0 b e').symm
      · have := e'' b e'; omega
    · rfl
  have hz : Fz w' (lab σ v' (2, j)) := fz_labs h.m.fz hc.size (fun b hb => own_lt ho' hb)
  have key : ∀ {T sz n : Nat} {u : Value} {xs : List Value} {k : Nat × Nat}, w.ownsRow 0 T sz u n xs → Lb σ u k → k ≠ (2, j) → w'.ownsRow 0 T sz u n xs ∧ Lb (lab σ v' (2, j)) u k := by
    intro T sz n u xs k hr hL hk
    have hd : ∀ b, u.ownBlock = some b → v.ownBlock ≠ some b := fun b hb hb' => hk (by rw [← hL b hb, ← l0 b hb'])
    exact ⟨hc.owns hr (fun b hb hS => hd b hb hS), fun b hb => by rw [hx b (own_lt hr hb)]; exact hL b hb⟩
  have ent : ∀ {c : Nat} {L : List Value} {zs : List En}, Ent w σ 5 1 c L zs → c ≠ 2 → Ent w' (lab σ v' (2, j)) 5 1 c L zs := by
    intro c L zs hE hz
    exact ⟨hE.len, fun k u z hu hz' => key (hE.rw k u z hu hz').1 (hE.rw k u z hu hz').2 (fun e' => hz (by simp at e'; exact e'.1))⟩
  refine ⟨⟨⟨?_, ?_, ?_, hz⟩, ⟨h.l.len, fun k u z hu' hz' => ?_⟩, h.lm, h.fu, h.lo, ent h.f (by decide), ent h.fw (by decide), h.hl, ?_, h.nd, h.bys⟩, lab_same _ _ _, hc.mono (fun b _ e' => ?_), fun b hb e' => hx b hb⟩
  · exact hc.heap h.m.box (fun e' => by have := l0 K e'; rw [h.m.lk] at this; simp at this)
  · rw [hx K (hp_lt h.m.box)]; exact h.m.lk
  · intro k hk
    exact key (h.m.own k hk).1 (h.m.own k hk).2 (by simp)
  · by_cases ez : z.o = j
    · have hk := hu k z hz' ez
      subst hk
      rw [he] at hz'; rw [hv] at hu'
      cases hz'; cases hu'
      refine ⟨ho, fun b hb => ?_⟩
      rw [hx b (own_lt r0 hb), hj]; exact l0 b hb
    · exact key (h.l.rw k u z hu' hz').1 (h.l.rw k u z hu' hz').2 (fun e' => ez (by simp at e'; exact e'))
  · intro k u z hk hu' hz'
    exact key (h.h k u z hk hu' hz').1 (h.h k u z hk hu' hz').2 (by simp)
  · show (σ b).1 ≠ 0
    rw [l0 b e']; simp
/-- One more among those that were written over, and its mark. -/
theorem BkI.pushed (h : BkI w σ K V X es fs hs i) {v : Value} {e : En} (hr : w.ownsRow 0 5 1 v e.n e.xs) (hL : Lb σ v (2, e.o)) (hf : e.xs = List.replicate e.n (.int .u8 (mrk e.o)) ∧ e.n ≤ 30000) (ho : e.o ≤ es.length)
    {a : Option Addr} {c : Nat} {w1 w2 : World} {σ2 : Nat → Nat × Nat} {V2 : Nat → Value} {X2 : Nat → List Value} (A : Apd w σ K V X 0 [v] a c w1) (e2 : w2 = w1.setCell ⟨K, 0, none⟩ (.slice a ((X 0).length + 1) c)) (eσ : σ2 = lab σ (.slice a ((X 0).length + 1) c) (1, 0)) (eV : V2 = upd V 0 (.slice a ((X 0).length + 1) c)) (eX : X2 = upd X 0 (X 0 ++ [v]))
    {a' : Option Addr} {c' : Nat} {w3 w4 : World} {wq : World} (kq : Kp w2 wq) (A' : Apd wq σ2 K V2 X2 1 [.int .u8 (mrk e.o)] a' c' w3) (e4 : w4 = w3.setCell ⟨K, 1, none⟩ (.slice a' ((X 1).length + 1) c')) :
    ∃ σ4 V4 X4, BkI w4 σ4 K V4 X4 (es ++ [e]) fs hs i ∧ Sf w σ w4 σ4 := by
  have x1 : X2 1 = X 1 := by rw [eX, upd_other _ _ (by decide)]
  have b2 := A'.bk
  have c2 := A'.ch
  have q2 := A'.ex
  rw [x1] at b2 c2 q2
  simp only [List.length_singleton] at b2 c2 q2
  rw [← e4] at b2 c2
  replace c2 : Chg w2 w4 (fun b => (σ2 b).1 = 1) := Chg.trans kq.any c2 (fun _ _ e => e)
  replace q2 : Ext w2 σ2 (lab σ2 (.slice a' ((X 1).length + 1) c') (1, 1)) := fun b hb => q2 b (Nat.lt_of_lt_of_le hb kq.size)
  have c1 := A.ch
  have q1 := A.ex
  simp only [List.length_singleton] at c1 q1
  rw [← e2] at c1
  rw [← eσ] at q1
  have s1 : Sf w σ w2 σ2 := ⟨c1.mono (fun b _ (e : (σ b).1 = 1) => by show (σ b).1 ≠ 0; rw [e]; decide), fun b hb _ => q1 b hb⟩
  have s2 : Sf w2 σ2 w4 (lab σ2 (.slice a' ((X 1).length + 1) c') (1, 1)) := ⟨c2.mono (fun b _ (e : (σ2 b).1 = 1) => by show (σ2 b).1 ≠ 0; rw [e]; decide), fun b hb _ => q2 b hb⟩
  have ent : ∀ {k : Nat} {L : List Value} {zs : List En}, k ≠ 1 → Ent w σ 5 1 k L zs → Ent w4 (lab σ2 (.slice a' ((X 1).length + 1) c') (1, 1)) 5 1 k L zs := by
    intro k L zs hk hE
    have h1 := (hE.chgC c1 (fun b (hb : (σ b).1 = 1) => by rw [hb]; exact fun e => hk e.symm))
    have h2 : Ent w2 σ2 5 1 k L zs := ⟨h1.len, fun j u z hu hz => ⟨(h1.rw j u z hu hz).1, fun b hb => by rw [q1 b (own_lt (hE.rw j u z hu hz).1 hb)]; exact (h1.rw j u z hu hz).2 b hb⟩⟩
    have h3 := (h2.chgC c2 (fun b (hb : (σ2 b).1 = 1) => by rw [hb]; exact fun e => hk e.symm))
    exact ⟨h3.len, fun j u z hu hz => ⟨(h3.rw j u z hu hz).1, fun b hb => by rw [q2 b (own_lt (h2.rw j u z hu hz).1 hb)]; exact (h3.rw j u z hu hz).2 b hb⟩⟩
  have hl' := ent (k := 2) (by decide) (h.l.snoc hr hL)
  refine ⟨_, _, _, ⟨b2, ?_, ?_, ?_, ?_, ?_, ?_, ?_, ?_, h.nd, h.bys⟩, s1.trans s2⟩
  · rw [upd_other _ _ (by decide), eX, upd_same]; exact hl'
  · rw [upd_same, h.lm]; simp
  · intro z hz
    rcases List.mem_append.1 hz with h' | h'
    · exact h.fu z h'
    · simp at h'; rw [h']; exact hf
  · intro j z hz
    by_cases hj : j < es.length
    · rw [List.getElem?_append_left hj] at hz; exact h.lo j z hz
    · have : j = es.length := by have := (List.getElem?_eq_some_iff.1 hz).1; simp at this; omega
      subst this
      simp at hz
      rw [← hz]; exact ho
  · rw [upd_other _ _ (by decide), eX, upd_other _ _ (by decide)]; exact ent (by decide) h.f
  · rw [upd_other _ _ (by decide), eX, upd_other _ _ (by decide)]; exact ent (by decide) h.fw
  · rw [upd_other _ _ (by decide), eX, upd_other _ _ (by decide)]; exact h.hl
  · intro j u z hj hu hz
    rw [upd_other _ _ (by decide), eX, upd_other _ _ (by decide)] at hu
    obtain ⟨p1, p2⟩ := h.h j u z hj hu hz
    have := ent (k := 3) (L := [u]) (zs := [z]) (by decide) ⟨rfl, fun k u' z' h1 h2 => by
      have : k = 0 := by have := (List.getElem?_eq_some_iff.1 h1).1; simp at this; omega
      subst this; simp at h1 h2; subst h1 h2; exact ⟨p1, p2⟩⟩
    exact this.rw 0 u z rfl rfl
end
end Go.Proofs.Ytfcpkcbiinbmiaa
