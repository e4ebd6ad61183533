import Derived.Test.YtfcpkcbiinbmiabFc
namespace Go.Proofs.Ytfcpkcbiinbmiab
open Go.ChangeShapes Go.WideShapes Go.ChangeAt Go.RowKit
set_option linter.unusedVariables false
/-- The mark of a list's number. -/
def mrk (o : Nat) : Int := ((o % 254 + 1 : Nat) : Int)
theorem mrk_ok (o : Nat) : 0 ≤ mrk o ∧ mrk o ≤ 255 := by unfold mrk; omega
/-- A list of bytes, not too long. -/
def EnB (e : En) : Prop := ∃ bs : List Int, e.xs = bs.map (Value.int .u8) ∧ bs.length = e.n ∧ (∀ x, x ∈ bs → 0 ≤ x ∧ x ≤ 255) ∧ e.n ≤ 100000000
/-- Nothing but the book's blocks has changed, and what is not the book's stays so. -/
structure Sf (w : World) (σ : Nat → Nat × Nat) (w' : World) (σ' : Nat → Nat × Nat) : Prop where
  ch : Chg w w' (fun b => (σ b).1 ≠ 0)
  ex : ∀ b, b < w.heap.size → (σ b).1 = 0 → σ' b = σ b
theorem Sf.refl (w : World) (σ : Nat → Nat × Nat) : Sf w σ w σ := ⟨Chg.refl _ _, fun _ _ _ => rfl⟩
theorem Sf.trans {w w' w'' : World} {σ σ' σ'' : Nat → Nat × Nat} (h : Sf w σ w' σ') (k : Sf w' σ' w'' σ'') : Sf w σ w'' σ'' := by
  refine ⟨h.ch.trans k.ch (fun b hb e e' => e ?_), fun b hb e => ?_⟩
  · rw [h.ex b hb e']; exact e'
  · rw [k.ex b (Nat.lt_of_lt_of_le hb h.ch.size) (by rw [h.ex b hb e]; exact e)]
    exact h.ex b hb e
theorem Sf.kp {w w' : World} {σ : Nat → Nat × Nat} (h : Kp w w') : Sf w σ w' σ := ⟨h.any, fun _ _ _ => rfl⟩
/-- The book while its held lists are gone through: those from i on are still held. -/
structure BkI (w : World) (σ : Nat → Nat × Nat) (K : Nat) (V : Nat → Value) (X : Nat → List Value) (es fs hs : List En) (i : Nat) : Prop where
  m : BkM w σ K V X
  l : Ent w σ 5 1 2 (X 0) es
  lm : X 1 = es.map (fun (e : En) => .int .u8 (mrk e.o))
  fu : ∀ e, e ∈ es → e.xs = List.replicate e.n (.int .u8 (mrk e.o)) ∧ e.n ≤ 100010000
  lo : ∀ (j : Nat) (e : En), es[j]? = some e → e.o ≤ j
  f : Ent w σ 5 1 3 (X 2) fs
  fw : Ent w σ 5 1 4 (X 3) fs
  hl : (X 4).length = hs.length
  h : ∀ (j : Nat) (v : Value) (e : En), i ≤ j → (X 4)[j]? = some v → hs[j]? = some e → w.ownsRow 0 5 1 v e.n e.xs ∧ Lb σ v (3, e.o)
  nd : ((hs ++ fs).map (fun e => e.o)).Nodup
  bys : ∀ e, e ∈ hs ++ fs → EnB e
section
variable {w w' : World} {σ σ' : Nat → Nat × Nat} {K : Nat} {V : Nat → Value} {X : Nat → List Value} {es fs hs : List En} {i : Nat}
theorem BkI.chg {S : Nat → Prop} (h : BkI w σ K V X es fs hs i) (hc : Chg w w' S) (hn : ∀ b, S b → (σ b).1 = 0) : BkI w' σ K V X es fs hs i :=
  ⟨h.m.chg hc (fun b hb => by rw [hn b hb]; decide), h.l.chgC hc (fun b hb => by rw [hn b hb]; decide), h.lm, h.fu, h.lo, h.f.chgC hc (fun b hb => by rw [hn b hb]; decide), h.fw.chgC hc (fun b hb => by rw [hn b hb]; decide), h.hl, fun j v e hj hv he => ⟨hc.owns (h.h j v e hj hv he).1 (fun b hb hS => by have := hn b hS; rw [(h.h j v e hj hv he).2 b hb] at this; simp at this), (h.h j v e hj hv he).2⟩, h.nd, h.bys⟩
theorem BkI.kp (h : BkI w σ K V X es fs hs i) (hc : Kp w w') : BkI w' σ K V X es fs hs i := h.chg hc (fun _ x => x.elim)
theorem fz_labs {v : Value} {k : Nat × Nat} (h : Fz w σ) (hs : w.heap.size ≤ w'.heap.size) (hv : ∀ b, v.ownBlock = some b → b < w'.heap.size) : Fz w' (lab σ v k) := fun b hb => by
  show (if v.ownBlock = some b then k else σ b) = (0, 0)
  rw [if_neg (fun e => by have := hv b e; omega)]
  exact h b (by omega)
/-- A held list was written full: it is one of those that were written over. -/
theorem BkI.filled (h : BkI w σ K V X es fs hs i) {v : Value} {e : En} (hv : (X 4)[i]? = some v) (he : hs[i]? = some e) (ho : w'.ownsRow 0 5 1 v e.n (List.replicate e.n (.int .u8 (mrk es.length)))) (hc : Chg w w' (fun b => v.ownBlock = some b)) :
    BkI w' (lab σ v (2, es.length)) K V X es fs hs (i + 1) ∧ Lb (lab σ v (2, es.length)) v (2, es.length) ∧ Sf w σ w' (lab σ v (2, es.length)) := by
  obtain ⟨r0, l0⟩ := h.h i v e (Nat.le_refl _) hv he
  have hne : ∀ b, v.ownBlock ≠ some b → lab σ v (2, es.length) b = σ b := fun b hb => by show (if _ then _ else _) = _; rw [if_neg hb]
  have hz : Fz w' (lab σ v (2, es.length)) := fz_labs h.m.fz hc.size (fun b hb => own_lt ho hb)
  -- rows with another label
  have key : ∀ {T sz n : Nat} {u : Value} {xs : List Value} {k : Nat × Nat}, w.ownsRow 0 T sz u n xs → Lb σ u k → k ≠ (3, e.o) → w'.ownsRow 0 T sz u n xs ∧ Lb (lab σ v (2, es.length)) u k := by
    intro T sz n u xs k hr hL hk
    have hd : ∀ b, u.ownBlock = some b → v.ownBlock ≠ some b := fun b hb hb' => hk (by rw [← hL b hb, ← l0 b hb'])
    exact ⟨hc.owns hr (fun b hb hS => hd b hb hS), fun b hb => by rw [hne b (hd b hb)]; exact hL b hb⟩
  have hmem : e ∈ hs := List.mem_of_getElem? he
  have hnd := h.nd
  rw [List.map_append, List.nodup_append] at hnd
  obtain ⟨n1, n2, n3⟩ := hnd
  have ent : ∀ {c : Nat} {L : List Value} {zs : List En}, Ent w σ 5 1 c L zs → (∀ z, z ∈ zs → (c, z.o) ≠ (3, e.o)) → Ent w' (lab σ v (2, es.length)) 5 1 c L zs := by
    intro c L zs hE hz
    exact ⟨hE.len, fun j u z hu hz' => key (hE.rw j u z hu hz').1 (hE.rw j u z hu hz').2 (hz z (List.mem_of_getElem? hz'))⟩
  refine ⟨⟨⟨?_, ?_, ?_, hz⟩, ent h.l (fun z _ => by simp), h.lm, h.fu, h.lo, ent h.f (fun z hz' e' => ?_), ent h.fw (fun z _ => by simp), h.hl, ?_, h.nd, h.bys⟩, lab_same _ _ _, hc.mono (fun b _ e' => ?_), fun b hb e' => hne b (fun e'' => ?_)⟩
  · exact hc.heap h.m.box (fun e' => by have := l0 K e'; rw [h.m.lk] at this; simp at this)
  · rw [hne K (fun e' => by have := l0 K e'; rw [h.m.lk] at this; simp at this)]; exact h.m.lk
  · intro j hj
    exact key (h.m.own j hj).1 (h.m.own j hj).2 (by simp)
  · simp only [Prod.mk.injEq, true_and] at e'
    exact n3 e.o (List.mem_map.2 ⟨e, hmem, rfl⟩) z.o (List.mem_map.2 ⟨z, hz', rfl⟩) e'.symm
  · intro j u z hj hu hz'
    refine key (h.h j u z (by omega) hu hz').1 (h.h j u z (by omega) hu hz').2 (fun e' => ?_)
    simp only [Prod.mk.injEq, true_and] at e'
    have hlt : i < hs.length := (List.getElem?_eq_some_iff.1 he).1
    have hlj : j < hs.length := (List.getElem?_eq_some_iff.1 hz').1
    have e1 : (hs.map (fun e => e.o))[i]? = some e.o := by simp [he]
    have e2 : (hs.map (fun e => e.o))[j]? = some e.o := by simp [hz', e']
    have := (List.getElem?_inj (by simpa using hlt) n1).1 (e1.trans e2.symm)
    omega
  · show (σ b).1 ≠ 0
    rw [l0 b e']; simp
  · rw [l0 b e''] at e'; simp at e'
/-- A list was made longer. -/
theorem BkI.longed (h : BkI w σ K V X es fs hs i) {j n : Nat} {v v' : Value} {e : En} {ys : List Value} (hv : (X 0)[j]? = some v) (he : es[j]? = some e) (hj : e.o = j) (hu : ∀ k z, es[k]? = some z → z.o = j → k = j)
    (hc : Chg w w' (fun b => v.ownBlock = some b)) (ho : w'.ownsRow 0 5 1 v e.n e.xs) (ho' : w'.ownsRow 0 5 1 v' n ys) (hf : v'.ownBlock = v.ownBlock ∨ Fresh w.heap.size v') :
    BkI w' (lab σ v' (2, j)) K V X es fs hs i ∧ Lb (lab σ v' (2, j)) v' (2, j) ∧ Sf w σ w' (lab σ v' (2, j)) := by
  obtain ⟨r0, l0⟩ := h.l.rw j v e hv he
  rw [hj] at l0
  have hx : ∀ b, b < w.heap.size → lab σ v' (2, j) b = σ b := fun b hb => by
    show (if _ then _ else _) = _
    split
    · next e' =>
      rcases hf with e'' | e''
      · rw [e''] at e'; exact (l0 b e').symm
      · have := e'' b e'; omega
    · rfl
  have hz : Fz w' (lab σ v' (2, j)) := fz_labs h.m.fz hc.size (fun b hb => own_lt ho' hb)
  have key : ∀ {T sz n : Nat} {u : Value} {xs : List Value} {k : Nat × Nat}, w.ownsRow 0 T sz u n xs → Lb σ u k → k ≠ (2, j) → w'.ownsRow 0 T sz u n xs ∧ Lb (lab σ v' (2, j)) u k := by
    intro T sz n u xs k hr hL hk
    have hd : ∀ b, u.ownBlock = some b → v.ownBlock ≠ some b := fun b hb hb' => hk (by rw [← hL b hb, ← l0 b hb'])
    exact ⟨hc.owns hr (fun b hb hS => hd b hb hS), fun b hb => by rw [hx b (own_lt hr hb)]; exact hL b hb⟩
  have ent : ∀ {c : Nat} {L : List Value} {zs : List En}, Ent w σ 5 1 c L zs → c ≠ 2 → Ent w' (lab σ v' (2, j)) 5 1 c L zs := by
    intro c L zs hE hz
    exact ⟨hE.len, fun k u z hu hz' => key (hE.rw k u z hu hz').1 (hE.rw k u z hu hz').2 (fun e' => hz (by simp at e'; exact e'.1))⟩
  refine ⟨⟨⟨?_, ?_, ?_, hz⟩, ⟨h.l.len, fun k u z hu' hz' => ?_⟩, h.lm, h.fu, h.lo, ent h.f (by decide), ent h.fw (by decide), h.hl, ?_, h.nd, h.bys⟩, lab_same _ _ _, hc.mono (fun b _ e' => ?_), fun b hb e' => hx b hb⟩
  · exact hc.heap h.m.box (fun e' => by have := l0 K e'; rw [h.m.lk] at this; simp at this)
  · rw [hx K (hp_lt h.m.box)]; exact h.m.lk
  · intro k hk
    exact key (h.m.own k hk).1 (h.m.own k hk).2 (by simp)
  · by_cases ez : z.o = j
    · have hk := hu k z hz' ez
      subst hk
      rw [he] at hz'; rw [hv] at hu'
      cases hz'; cases hu'
      refine ⟨ho, fun b hb => ?_⟩
      rw [hx b (own_lt r0 hb), hj]; exact l0 b hb
    · exact key (h.l.rw k u z hu' hz').1 (h.l.rw k u z hu' hz').2 (fun e' => ez (by simp at e'; exact e'))
  · intro k u z hk hu' hz'
    exact key (h.h k u z hk hu' hz').1 (h.h k u z hk hu' hz').2 (by simp)
  · show (σ b).1 ≠ 0
    rw [l0 b e']; simp
/-- One more among those that were written over, and its mark. -/
theorem BkI.pushed (h : BkI w σ K V X es fs hs i) {v : Value} {e : En} (hr : w.ownsRow 0 5 1 v e.n e.xs) (hL : Lb σ v (2, e.o)) (hf : e.xs = List.replicate e.n (.int .u8 (mrk e.o)) ∧ e.n ≤ 100010000) (ho : e.o ≤ es.length)
    {a : Option Addr} {c : Nat} {w1 w2 : World} {σ2 : Nat → Nat × Nat} {V2 : Nat → Value} {X2 : Nat → List Value} (A : Apd w σ K V X 0 [v] a c w1) (e2 : w2 = w1.setCell ⟨K, 0, none⟩ (.slice a ((X 0).length + 1) c)) (eσ : σ2 = lab σ (.slice a ((X 0).length + 1) c) (1, 0)) (eV : V2 = upd V 0 (.slice a ((X 0).length + 1) c)) (eX : X2 = upd X 0 (X 0 ++ [v]))
    {a' : Option Addr} {c' : Nat} {w3 w4 : World} {wq : World} (kq : Kp w2 wq) (A' : Apd wq σ2 K V2 X2 1 [.int .u8 (mrk e.o)] a' c' w3) (e4 : w4 = w3.setCell ⟨K, 1, none⟩ (.slice a' ((X 1).length + 1) c')) :
    ∃ σ4 V4 X4, BkI w4 σ4 K V4 X4 (es ++ [e]) fs hs i ∧ Sf w σ w4 σ4 := by
  have x1 : X2 1 = X 1 := by rw [eX, upd_other _ _ (by decide)]
  have b2 := A'.bk
  have c2 := A'.ch
  have q2 := A'.ex
  rw [x1] at b2 c2 q2
  simp only [List.length_singleton] at b2 c2 q2
  rw [← e4] at b2 c2
  replace c2 : Chg w2 w4 (fun b => (σ2 b).1 = 1) := Chg.trans kq.any c2 (fun _ _ e => e)
  replace q2 : Ext w2 σ2 (lab σ2 (.slice a' ((X 1).length + 1) c') (1, 1)) := fun b hb => q2 b (Nat.lt_of_lt_of_le hb kq.size)
  have c1 := A.ch
  have q1 := A.ex
  simp only [List.length_singleton] at c1 q1
  rw [← e2] at c1
  rw [← eσ] at q1
  have s1 : Sf w σ w2 σ2 := ⟨c1.mono (fun b _ (e : (σ b).1 = 1) => by show (σ b).1 ≠ 0; rw [e]; decide), fun b hb _ => q1 b hb⟩
  have s2 : Sf w2 σ2 w4 (lab σ2 (.slice a' ((X 1).length + 1) c') (1, 1)) := ⟨c2.mono (fun b _ (e : (σ2 b).1 = 1) => by show (σ2 b).1 ≠ 0; rw [e]; decide), fun b hb _ => q2 b hb⟩
  have ent : ∀ {k : Nat} {L : List Value} {zs : List En}, k ≠ 1 → Ent w σ 5 1 k L zs → Ent w4 (lab σ2 (.slice a' ((X 1).length + 1) c') (1, 1)) 5 1 k L zs := by
    intro k L zs hk hE
    have h1 := (hE.chgC c1 (fun b (hb : (σ b).1 = 1) => by rw [hb]; exact fun e => hk e.symm))
    have h2 : Ent w2 σ2 5 1 k L zs := ⟨h1.len, fun j u z hu hz => ⟨(h1.rw j u z hu hz).1, fun b hb => by rw [q1 b (own_lt (hE.rw j u z hu hz).1 hb)]; exact (h1.rw j u z hu hz).2 b hb⟩⟩
    have h3 := (h2.chgC c2 (fun b (hb : (σ2 b).1 = 1) => by rw [hb]; exact fun e => hk e.symm))
    exact ⟨h3.len, fun j u z hu hz => ⟨(h3.rw j u z hu hz).1, fun b hb => by rw [q2 b (own_lt (h2.rw j u z hu hz).1 hb)]; exact (h3.rw j u z hu hz).2 b hb⟩⟩
  have hl' := ent (k := 2) (by decide) (h.l.snoc hr hL)
  refine ⟨_, _, _, ⟨b2, ?_, ?_, ?_, ?_, ?_, ?_, ?_, ?_, h.nd, h.bys⟩, s1.trans s2⟩
  · rw [upd_other _ _ (by decide), eX, upd_same]; exact hl'
  · rw [upd_same, h.lm]; simp
  · intro z hz
    rcases List.mem_append.1 hz with h' | h'
    · exact h.fu z h'
    · simp at h'; rw [h']; exact hf
  · intro j z hz
    by_cases hj : j < es.length
    · rw [List.getElem?_append_left hj] at hz; exact h.lo j z hz
    · have : j = es.length := by have := (List.getElem?_eq_some_iff.1 hz).1; simp at this; omega
      subst this
      simp at hz
      rw [← hz]; exact ho
  · rw [upd_other _ _ (by decide), eX, upd_other _ _ (by decide)]; exact ent (by decide) h.f
  · rw [upd_other _ _ (by decide), eX, upd_other _ _ (by decide)]; exact ent (by decide) h.fw
  · rw [upd_other _ _ (by decide), eX, upd_other _ _ (by decide)]; exact h.hl
  · intro j u z hj hu hz
    rw [upd_other _ _ (by decide), eX, upd_other _ _ (by decide)] at hu
    obtain ⟨p1, p2⟩ := h.h j u z hj hu hz
    have := ent (k := 3) (L := [u]) (zs := [z]) (by decide) ⟨rfl, fun k u' z' h1 h2 => by
      have : k = 0 := by have := (List.getElem?_eq_some_iff.1 h1).1; simp at this; omega
      subst this; simp at h1 h2; subst h1 h2; exact ⟨p1, p2⟩⟩
    exact this.rw 0 u z rfl rfl
end
end Go.Proofs.Ytfcpkcbiinbmiab
namespace Go.Proofs.Ytfcpkcbiinbmiab
open Go.ChangeShapes Go.WideShapes Go.ChangeAt Go.RowKit
set_option linter.unusedVariables false
/-- The whole book between two steps. -/
structure Bk (w : World) (σ : Nat → Nat × Nat) (K : Nat) (V : Nat → Value) (X : Nat → List Value) (es fs hs : List En) : Prop where
  i : BkI w σ K V X es fs hs 0
  hw : Ent w σ 5 1 4 (X 5) hs
/-- A list's cells. -/
theorem own_sh {w : World} {T n : Nat} {v : Value} {xs : List Value} (h : w.ownsRow 0 T 1 v n xs) : ∃ a c, v = .slice a n c := by
  rcases h.2 with ⟨e, e'⟩ | ⟨g, cap, cur, e, _⟩
  · exact ⟨none, 0, by rw [e, e']⟩
  · exact ⟨_, _, e⟩
theorem own_cs {w : World} {T n : Nat} {v : Value} {xs : List Value} (h : w.ownsRow 0 T 1 v n xs) (hp : 0 < n) : ∃ g c, v = .slice (some ⟨g, 0, none⟩) n c ∧ n ≤ c ∧ (∀ j x, xs[j]? = some x → w.cell? ⟨g, j, none⟩ = some x) ∧ ∀ j, w.frozen? ⟨g, j, none⟩ = false := by
  rcases h.2 with ⟨e, e'⟩ | ⟨g, cap, cur, rfl, _, hg, hnc, _⟩
  · omega
  · have hl := h.1
    have hc := h.cells (g := g) rfl
    refine ⟨g, cap, rfl, hnc, fun j x hx => ?_, fun j => h.frozenAt j⟩
    have hj : j < xs.length := (List.getElem?_eq_some_iff.1 hx).1
    have := h.cellAt j (by omega)
    rw [this]
    simpa using hx
section
variable {w w' : World} {σ σ' : Nat → Nat × Nat} {K : Nat} {V : Nat → Value} {X : Nat → List Value} {es fs hs : List En} {i : Nat}
theorem Bk.kp (h : Bk w σ K V X es fs hs) (hc : Kp w w') : Bk w' σ K V X es fs hs := ⟨h.i.kp hc, h.hw.kp hc⟩
theorem Bk.chg {S : Nat → Prop} (h : Bk w σ K V X es fs hs) (hc : Chg w w' S) (hn : ∀ b, S b → (σ b).1 = 0) : Bk w' σ K V X es fs hs := ⟨h.i.chg hc hn, h.hw.chgC hc (fun b hb => by rw [hn b hb]; decide)⟩
def tnV (V : Nat → Value) : Nat → Value | 0 => V 0 | 1 => V 1 | 4 => V 2 | 5 => V 3 | _ => .slice none 0 0
def tnX (X : Nat → List Value) : Nat → List Value | 0 => X 0 | 1 => X 1 | 4 => X 2 | 5 => X 3 | _ => []
/-- What came by the last step is held now. -/
theorem BkI.turned (h : BkI w σ K V X es fs hs i) (hc : Chg w w' (fun b => b = K)) (hb : w'.heap[K]? = some (.cells (pcl (tnV V)) 48 (0, 0))) :
    ∃ σ', Bk w' σ' K (tnV V) (tnX X) es [] fs ∧ Sf w σ w' σ' := by
  obtain ⟨σ', hσ⟩ : ∃ σ', σ' = lab (lab σ (V 2) (1, 4)) (V 3) (1, 5) := ⟨_, rfl⟩
  have l2 := (h.m.own 2 (by decide)).2
  have l3 := (h.m.own 3 (by decide)).2
  have hne : ∀ b, (σ b).1 ≠ 1 → σ' b = σ b := fun b hb => by
    rw [hσ]; unfold lab
    rw [if_neg (fun e => hb (by rw [l3 b e])), if_neg (fun e => hb (by rw [l2 b e]))]
  have hne' : ∀ b, σ b ≠ (1, 2) → σ b ≠ (1, 3) → σ' b = σ b := fun b h2 h3 => by
    rw [hσ]; unfold lab
    rw [if_neg (fun e => h3 (l3 b e)), if_neg (fun e => h2 (l2 b e))]
  have L3 : Lb σ' (V 3) (1, 5) := by rw [hσ]; exact lab_same _ _ _
  have L2 : Lb σ' (V 2) (1, 4) := fun b hb => by
    rw [hσ]; unfold lab
    rw [if_neg (fun e => by have := l3 b e; rw [l2 b hb] at this; simp at this), if_pos hb]
  have hz : Fz w' σ' := fun b hb => by
    have := h.m.fz b (Nat.le_trans hc.size hb)
    rw [hne b (by rw [this]; decide)]; exact this
  have row : ∀ {T n : Nat} {u : Value} {xs : List Value} {k : Nat × Nat}, w.ownsRow 0 T 1 u n xs → Lb σ u k → k ≠ (1, 99) → w'.ownsRow 0 T 1 u n xs := fun hr hL hk => hc.owns hr (fun b hb e => hk (by rw [← hL b hb, e]; exact h.m.lk))
  have ent : ∀ {c : Nat} {L : List Value} {zs : List En}, c ≠ 1 → Ent w σ 5 1 c L zs → Ent w' σ' 5 1 c L zs := fun hk hE => ⟨hE.len, fun j u z hu hz => ⟨row (hE.rw j u z hu hz).1 (hE.rw j u z hu hz).2 (fun e => hk (by simp at e; exact e.1)), fun b hb => by
    have := (hE.rw j u z hu hz).2 b hb
    rw [hne b (by rw [this]; exact hk)]; exact this⟩⟩
  refine ⟨σ', ⟨⟨⟨hb, ?_, ?_, hz⟩, ent (by decide) h.l, h.lm, h.fu, h.lo, Ent.nil _ _ _ _ _, Ent.nil _ _ _ _ _, (ent (by decide) h.f).len, fun j v e _ hv he => (ent (by decide) h.f).rw j v e hv he, ?_, fun e he => h.bys e (by simp at he; simp [he])⟩, ent (by decide) h.fw⟩, hc.mono (fun b _ e => ?_), fun b hb e => hne b (by rw [e]; decide)⟩
  · rw [hne' K (by rw [h.m.lk]; decide) (by rw [h.m.lk]; decide)]; exact h.m.lk
  · intro j hj
    have : j = 0 ∨ j = 1 ∨ j = 2 ∨ j = 3 ∨ j = 4 ∨ j = 5 := by omega
    rcases this with rfl | rfl | rfl | rfl | rfl | rfl
    · refine ⟨row (h.m.own 0 (by decide)).1 (h.m.own 0 (by decide)).2 (by decide), fun b hb => ?_⟩
      have := (h.m.own 0 (by decide)).2 b hb
      rw [hne' b (by rw [this]; decide) (by rw [this]; decide)]; exact this
    · refine ⟨row (h.m.own 1 (by decide)).1 (h.m.own 1 (by decide)).2 (by decide), fun b hb => ?_⟩
      have := (h.m.own 1 (by decide)).2 b hb
      rw [hne' b (by rw [this]; decide) (by rw [this]; decide)]; exact this
    · exact ⟨World.ownsRow_nil _ _ _ _, Lb.nil _ _⟩
    · exact ⟨World.ownsRow_nil _ _ _ _, Lb.nil _ _⟩
    · exact ⟨row (h.m.own 2 (by decide)).1 (h.m.own 2 (by decide)).2 (by decide), L2⟩
    · exact ⟨row (h.m.own 3 (by decide)).1 (h.m.own 3 (by decide)).2 (by decide), L3⟩
  · have := h.nd
    rw [List.map_append, List.nodup_append] at this
    simpa using this.2.1
  · show (σ b).1 ≠ 0
    rw [e, h.m.lk]; decide
end
end Go.Proofs.Ytfcpkcbiinbmiab
namespace Go.Proofs.Ytfcpkcbiinbmiab
open Go.ChangeShapes Go.WideShapes Go.ChangeAt Go.RowKit
set_option linter.unusedVariables false
theorem rep_own {w : World} {v : Value} {n : Nat} {m : Int} (h : w.ownsRow 0 5 1 v n (List.replicate n (.int .u8 m))) (hm : 0 ≤ m ∧ m ≤ 255) : OwnB w v (List.replicate n m) :=
  ⟨by simpa using h, fun x hx => by rw [List.eq_of_mem_replicate hx]; exact hm⟩
theorem own_rep {w : World} {v : Value} {n : Nat} {m : Int} (h : OwnB w v (List.replicate n m)) : w.ownsRow 0 5 1 v n (List.replicate n (.int .u8 m)) := by simpa using h.1
section
variable {w w' : World} {σ σ' : Nat → Nat × Nat} {K : Nat} {V : Nat → Value} {X : Nat → List Value} {es fs hs : List En} {i : Nat}
/-- Another one's cell stays when a list of the book gets one more. -/
theorem Apd.box {j : Nat} {news : List Value} {a : Option Addr} {c : Nat} (h : BkM w σ K V X) (hj : j < 6) (A : Apd w σ K V X j news a c w') {k : Nat} (hk : k < 6) : w'.cell? ⟨K, k, none⟩ = some (V k) := A.cx.cell' (fun e => h.notbox hj e) (h.cell hk).1
/-- A list was put among those that were written over; its mark is not there yet. -/
structure Half (w : World) (σ : Nat → Nat × Nat) (K : Nat) (V : Nat → Value) (X : Nat → List Value) (es fs hs : List En) (i : Nat) (e : En) (v : Value) (W1 : World) (σ1 : Nat → Nat × Nat) (a : Option Addr) (c : Nat) (w2 : World) : Prop where
  b : BkI W1 σ1 K V X es fs hs i
  r : W1.ownsRow 0 5 1 v e.n e.xs
  lb : Lb σ1 v (2, e.o)
  a : Apd W1 σ1 K V X 0 [v] a c w2
  sf : Sf w σ W1 σ1
/-- What one more leaves. -/
def Nxt (w : World) (σ : Nat → Nat × Nat) (K : Nat) (es fs hs : List En) (i : Nat) (w' : World) : Prop := ∃ σ' V' X', BkI w' σ' K V' X' es fs hs i ∧ Sf w σ w' σ'
/-- Its mark. -/
theorem Half.mark {e : En} {v : Value} {W1 w2 w3 wq : World} {σ1 : Nat → Nat × Nat} {a : Option Addr} {c : Nat} (h : Half w σ K V X es fs hs i e v W1 σ1 a c w2) (e3 : w3 = w2.setCell ⟨K, 0, none⟩ (.slice a (es.length + 1) c)) (kq : Kp w3 wq) (hf : e.xs = List.replicate e.n (.int .u8 (mrk e.o)) ∧ e.n ≤ 100010000) (ho : e.o ≤ es.length) (hb : es.length < 300000) :
    ∃ a' c' w4, (Builtin.append_ #[22, 22] 22 #[V 1, .slice (some ⟨wq.heap.size, 0, none⟩) 1 1]).run Try.prog (wq.alloc (.cells #[.int .u8 (mrk e.o)] 5)) = .ok (.slice a' (es.length + 1) c') w4 ∧ wq.cell? ⟨K, 1, none⟩ = some (V 1) ∧ w4.cell? ⟨K, 1, none⟩ = some (V 1) ∧ w4.frozen? ⟨K, 1, none⟩ = false ∧
      Nxt w σ K (es ++ [e]) fs hs i (w4.setCell ⟨K, 1, none⟩ (.slice a' (es.length + 1) c')) := by
  have l0 : (X 0).length = es.length := h.b.l.len
  have l1 : (X 1).length = es.length := by rw [h.b.lm]; simp
  have b2 := h.a.bk
  simp only [List.length_singleton] at b2
  rw [l0, ← e3] at b2
  have bq := b2.kp kq
  obtain ⟨σ2, hσ2⟩ : ∃ σ2, σ2 = lab σ1 (.slice a (es.length + 1) c) (1, 0) := ⟨_, rfl⟩
  obtain ⟨V2, hV2⟩ : ∃ V2, V2 = upd V 0 (.slice a (es.length + 1) c) := ⟨_, rfl⟩
  obtain ⟨X2, hX2⟩ : ∃ X2, X2 = upd X 0 (X 0 ++ [v]) := ⟨_, rfl⟩
  rw [← hσ2, ← hV2, ← hX2] at bq
  have v1 : V2 1 = V 1 := by rw [hV2, upd_other _ _ (by decide)]
  have x1 : X2 1 = X 1 := by rw [hX2, upd_other _ _ (by decide)]
  obtain ⟨a', c', w4, r4, A4⟩ := bq.app (i := 1) (by decide) 22 Try.underlying22 [.int .u8 (mrk e.o)] (by simp; rfl) (by rw [x1, l1]; simp only [List.length_singleton]; omega)
  rw [v1, x1, l1] at r4
  obtain ⟨w5, hw5⟩ : ∃ w5, w5 = w4.setCell ⟨K, 1, none⟩ (.slice a' (es.length + 1) c') := ⟨_, rfl⟩
  have fin := h.b.pushed h.r h.lb hf ho h.a (by rw [l0]; exact e3) (by rw [l0]; exact hσ2) (by rw [l0]; exact hV2) hX2 kq A4 (show w5 = w4.setCell ⟨K, 1, none⟩ (.slice a' ((X 1).length + 1) c') by rw [l1]; exact hw5)
  obtain ⟨σ5, V5, X5, B5, S5⟩ := fin
  have cl := A4.cl
  rw [v1] at cl
  have cq := (bq.cell (i := 1) (by decide)).1
  rw [v1] at cq
  subst hw5
  exact ⟨a', c', w4, r4, cq, cl.1, cl.2, σ5, V5, X5, B5, h.sf.trans S5⟩
end
end Go.Proofs.Ytfcpkcbiinbmiab
namespace Go.Proofs.Ytfcpkcbiinbmiab
open Go.ChangeShapes Go.WideShapes Go.ChangeAt Go.RowKit
set_option linter.unusedVariables false
section
variable {w w' : World} {σ σ' : Nat → Nat × Nat} {K : Nat} {V : Nat → Value} {X : Nat → List Value} {es fs hs : List En} {i : Nat}
/-- A cell of one of the book's lists. -/
theorem BkM.at (h : BkM w σ K V X) {f g n c j : Nat} {x : Value} (hf : f < 6) (hV : V f = .slice (some ⟨g, 0, none⟩) n c) (hx : (X f)[j]? = some x) : w.cell? ⟨g, j, none⟩ = some x := by
  have o := (h.own f hf).1
  obtain ⟨g', c', e1, _, e2, _⟩ := own_cs o (by have := (List.getElem?_eq_some_iff.1 hx).1; omega)
  rw [hV] at e1
  obtain ⟨rfl, _, _⟩ : g = g' ∧ n = (X f).length ∧ c = c' := by simpa using e1
  exact e2 j x hx
theorem BkM.sh (h : BkM w σ K V X) {f : Nat} (hf : f < 6) : ∃ a c, V f = .slice a (X f).length c := own_sh (h.own f hf).1
theorem BkM.sh1 (h : BkM w σ K V X) {f : Nat} (hf : f < 6) (hp : 0 < (X f).length) : ∃ g c, V f = .slice (some ⟨g, 0, none⟩) (X f).length c := by
  obtain ⟨g, c, e, _⟩ := own_cs (h.own f hf).1 hp
  exact ⟨g, c, e⟩
theorem BkI.put (h : BkI w σ K V X es fs hs i) {wq : World} (kq : Kp w wq) {v : Value} {e : En} (hr : w.ownsRow 0 5 1 v e.n e.xs) (hL : Lb σ v (2, e.o)) (hb : es.length < 300000) :
    ∃ a c w2, (Builtin.append_ #[46, 46] 46 #[V 0, .slice (some ⟨wq.heap.size, 0, none⟩) 1 1]).run Try.prog (wq.alloc (.cells #[v] 22)) = .ok (.slice a (es.length + 1) c) w2 ∧ Apd wq σ K V X 0 [v] a c w2 ∧ Half w σ K V X es fs hs i e v wq σ a c w2 := by
  have l0 : (X 0).length = es.length := h.l.len
  have hq := h.kp kq
  have h1 : v.oneCell' = true := by
    obtain ⟨a, c, rfl⟩ := own_sh hr
    rfl
  obtain ⟨a, c, w2, r, A⟩ := hq.m.app (i := 0) (by decide) 46 Try.underlying46 [v] (by simp [h1]) (by rw [l0]; simp only [List.length_singleton]; omega)
  rw [l0] at r
  exact ⟨a, c, w2, r, A, hq, kq.owns hr (fun _ _ x => x), hL, A, Sf.kp kq⟩
/-- What the regions behind an append want of a list that was not the one. -/
theorem Apd.keep {f j g n c : Nat} {x v : Value} {a : Option Addr} {c0 : Nat} (h : BkM w σ K V X) (A : Apd w σ K V X 0 [v] a c0 w') (hf : f < 6) (hf0 : f ≠ 0) (hV : V f = .slice (some ⟨g, 0, none⟩) n c) (hx : (X f)[j]? = some x) :
    w'.cell? ⟨g, j, none⟩ = some x ∧ (w'.setCell ⟨K, 0, none⟩ (.slice a ((X 0).length + 1) c0)).cell? ⟨g, j, none⟩ = some x ∧ (w'.setCell ⟨K, 0, none⟩ (.slice a ((X 0).length + 1) c0)).cell? ⟨K, f, none⟩ = some (V f) := by
  have hb := A.bk
  simp only [List.length_singleton] at hb
  refine ⟨A.cx.cell' (fun e => ?_) (h.at hf hV hx), ?_, ?_⟩
  · have e1 := (h.own 0 (by decide)).2 g e
    have e2 := (h.own f hf).2 g (by rw [hV]; rfl)
    rw [e1] at e2
    simp at e2
    omega
  · exact hb.at (f := f) hf (by rw [upd_other _ _ hf0]; exact hV) (by rw [upd_other _ _ hf0]; exact hx)
  · have := (hb.cell hf).1
    rw [upd_other _ _ hf0] at this
    exact this
/-- What a round of the longer lists leaves half done. -/
def Mdl (w : World) (σ : Nat → Nat × Nat) (K : Nat) (V : Nat → Value) (X : Nat → List Value) (es fs hs : List En) (i j n : Nat) (a2 : Option Addr) (n2 c2 : Nat) (w3 : World) : Prop := n2 = es.length + 1 ∧ ∃ v' W1 σ1 w2, Half w σ K V X es fs hs i ⟨j, n + 97, List.replicate (n + 97) (.int .u8 (mrk j))⟩ v' W1 σ1 a2 c2 w2 ∧ w3 = w2.setCell ⟨K, 0, none⟩ (.slice a2 (es.length + 1) c2)
theorem BkI.long (h : BkI w σ K V X es fs hs i) {j : Nat} {e : En} (he : es[j]? = some e) (hj : e.o = j) (hu : ∀ k z, es[k]? = some z → z.o = j → k = j) (hn : e.n ≤ 100000000) (hb : es.length < 300000) {g0 c0 g1 c1 : Nat} {v : Value} (hV0 : V 0 = .slice (some ⟨g0, 0, none⟩) es.length c0) (hV1 : V 1 = .slice (some ⟨g1, 0, none⟩) es.length c1) (hv : (X 0)[j]? = some v) :
    Calls Try.prog 60 #[v, .int .u8 (mrk j)] w.drew fun e' W1 => ∃ (pa : Option Addr) (pn pc : Nat) (a2 : Option Addr) (n2 c2 : Nat) (w2 : World), e' = .returned (.slice pa pn pc) ∧ (W1.cell? ⟨K, 1, none⟩ = some (.slice (some ⟨g1, 0, none⟩) es.length c1) ∧ W1.cell? ⟨g1, j, none⟩ = some (.int .u8 (mrk j))) ∧ W1.cell? ⟨K, 0, none⟩ = some (.slice (some ⟨g0, 0, none⟩) es.length c0) ∧ (Builtin.append_ #[46, 46] 46 #[.slice (some ⟨g0, 0, none⟩) es.length c0, .slice (some ⟨W1.heap.size, 0, none⟩) 1 1]).run Try.prog (W1.alloc (.cells #[.slice pa pn pc] 22)) = .ok (.slice a2 n2 c2) w2 ∧ ((W1.alloc (.cells #[.slice pa pn pc] 22)).cell? ⟨K, 1, none⟩ = some (.slice (some ⟨g1, 0, none⟩) es.length c1) ∧ (W1.alloc (.cells #[.slice pa pn pc] 22)).cell? ⟨g1, j, none⟩ = some (.int .u8 (mrk j))) ∧ (W1.alloc (.cells #[.slice pa pn pc] 22)).cell? ⟨K, 0, none⟩ = some (.slice (some ⟨g0, 0, none⟩) es.length c0) ∧ (w2.cell? ⟨K, 1, none⟩ = some (.slice (some ⟨g1, 0, none⟩) es.length c1) ∧ w2.cell? ⟨g1, j, none⟩ = some (.int .u8 (mrk j))) ∧ (∃ z, w2.cell? ⟨K, 0, none⟩ = some z) ∧ w2.frozen? ⟨K, 0, none⟩ = false ∧ ((w2.setCell ⟨K, 0, none⟩ (.slice a2 n2 c2)).cell? ⟨K, 1, none⟩ = some (.slice (some ⟨g1, 0, none⟩) es.length c1) ∧ (w2.setCell ⟨K, 0, none⟩ (.slice a2 n2 c2)).cell? ⟨g1, j, none⟩ = some (.int .u8 (mrk j))) ∧ Mdl w σ K V X es fs hs i j e.n a2 n2 c2 (w2.setCell ⟨K, 0, none⟩ (.slice a2 n2 c2)) := by
  have hd := h.kp (Kp.drew w)
  obtain ⟨fx, fn⟩ := hd.fu e (List.mem_of_getElem? he)
  obtain ⟨r0, l0⟩ := hd.l.rw j v e hv he
  have hO : OwnB w.drew v (List.replicate e.n (mrk j)) := rep_own (by rw [← hj, ← fx]; exact r0) (mrk_ok j)
  refine (longer_any w.drew v e.n (mrk j) (mrk_ok j) (by omega) hO).mono ?_
  rintro e' W1 ⟨v', rfl, o1, o2, ch, hf⟩
  obtain ⟨B1, L1, S1⟩ := hd.longed hv he hj hu ch (by rw [fx, hj]; exact own_rep o2) (own_rep o1) hf
  obtain ⟨pa, pc, rfl⟩ := own_sh (own_rep o1)
  obtain ⟨a, c, w2, r, A, H⟩ := B1.put (Kp.refl W1) (e := ⟨j, e.n + 97, List.replicate (e.n + 97) (.int .u8 (mrk j))⟩) (own_rep o1) L1 hb
  have lx : (X 0).length = es.length := h.l.len
  have hm : (X 1)[j]? = some (.int .u8 (mrk j)) := by rw [h.lm]; simp [he, hj]
  obtain ⟨k1, k2, k3⟩ := A.keep B1.m (f := 1) (by decide) (by decide) hV1 hm
  rw [lx] at k2 k3
  have b1 := (B1.m.cell (i := 1) (by decide)).1
  have b0 := (B1.m.cell (i := 0) (by decide)).1
  have m1 := B1.m.at (f := 1) (by decide) hV1 hm
  have y1 := Apd.box B1.m (by decide) A (k := 1) (by decide)
  rw [hV0] at b0 r
  rw [hV1] at b1 k3 y1
  exact ⟨pa, _, pc, a, _, c, w2, rfl, ⟨b1, m1⟩, b0, r, ⟨(Kp.al W1 _).cell b1, (Kp.al W1 _).cell m1⟩, (Kp.al W1 _).cell b0, ⟨y1, k1⟩, ⟨_, A.cl.1⟩, A.cl.2, ⟨k3, k2⟩, rfl, _, _, _, _, ⟨H.b, H.r, H.lb, H.a, (Sf.kp (Kp.drew w)).trans S1⟩, rfl⟩
end
end Go.Proofs.Ytfcpkcbiinbmiab
