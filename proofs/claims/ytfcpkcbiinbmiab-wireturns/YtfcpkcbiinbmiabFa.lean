import Derived.Test.YtfcpkcbiinbmiabDf
import Derived.Deep.Cut
namespace Go.Proofs.Ytfcpkcbiinbmiab
open Go.ChangeShapes Go.WideShapes Go.ChangeAt Go.RowKit
set_option linter.unusedVariables false
/-- Nothing that was there has changed. -/
abbrev Kp (w w' : World) : Prop := Chg w w' (fun _ => False)
theorem Kp.trans {a b c : World} (h : Kp a b) (k : Kp b c) : Kp a c := Chg.trans h k (fun _ _ x => x)
theorem lt_of_cell {w : World} {b o : Nat} {v : Value} (hc : w.cell? ⟨b, o, none⟩ = some v) : b < w.heap.size := by
  rcases Nat.lt_or_ge b w.heap.size with h | h
  · exact h
  · exfalso
    have : w.heap[b]? = none := Array.getElem?_eq_none h
    simp [World.cell?, this] at hc
theorem Chg.cell' {w w' : World} {S : Nat → Prop} (h : Chg w w' S) {b o : Nat} {v : Value} (hn : ¬ S b) (hc : w.cell? ⟨b, o, none⟩ = some v) : w'.cell? ⟨b, o, none⟩ = some v := by
  rw [Chg.cell h (lt_of_cell hc) hn]; exact hc
theorem Kp.cell {w w' : World} (h : Kp w w') {b o : Nat} {v : Value} (hc : w.cell? ⟨b, o, none⟩ = some v) : w'.cell? ⟨b, o, none⟩ = some v := Chg.cell' h (fun x => x) hc
theorem Kp.heap {w w' : World} (h : Kp w w') {k : Nat} {o : Obj} (hk : w.heap[k]? = some o) : w'.heap[k]? = some o := Chg.heap h hk (fun x => x)
theorem Kp.refl (w : World) : Kp w w := Chg.refl w _
theorem Kp.drew (w : World) : Kp w w.drew := Chg.drew (Chg.refl w _)
theorem Kp.drewN (w : World) (n : Nat) : Kp w (w.drewN n) := Chg.drewN (Chg.refl w _) n
theorem Kp.al (w : World) (o : Obj) : Kp w (w.alloc o) := Chg.alloc (Chg.refl w _) o
theorem Kp.any {w w' : World} {S : Nat → Prop} (h : Kp w w') : Chg w w' S := Chg.mono h (fun _ _ x => x.elim)
theorem hp_lt {w : World} {k : Nat} {o : Obj} (h : w.heap[k]? = some o) : k < w.heap.size := (Array.getElem?_eq_some_iff.1 h).1
theorem own_tp {w : World} {e size n : Nat} {v : Value} {xs : List Value} (h : w.ownsRow 0 e size v n xs) {k : Nat} (hk : v.ownBlock = some k) : ∃ cur, w.heap[k]? = some (.cells cur e (0, 0)) := by
  rcases h.2 with ⟨e, _⟩ | ⟨g, cap, cur, e, _, hg, _⟩
  · rw [e] at hk; cases hk
  · rw [e] at hk; cases hk; exact ⟨cur, hg⟩
/-- New, if there is one. -/
def Nw (w : World) (v : Value) : Prop := ∀ k, v.ownBlock = some k → w.heap.size ≤ k
/-- Whose a block is, by a label (class, number): (0, 0) not the book's, class 1 the book's box and its lists, 2 lists that were written over, 3 lists that lie untouched, 4 what they were. -/
def Lb (σ : Nat → Nat × Nat) (v : Value) (k : Nat × Nat) : Prop := ∀ b, v.ownBlock = some b → σ b = k
theorem Lb.nil (σ : Nat → Nat × Nat) (k : Nat × Nat) : Lb σ (.slice none 0 0) k := fun b h => by simp [Value.ownBlock] at h
/-- A row has its label. -/
def lab (σ : Nat → Nat × Nat) (v : Value) (k : Nat × Nat) : Nat → Nat × Nat := fun b => if v.ownBlock = some b then k else σ b
theorem lab_same (σ : Nat → Nat × Nat) (v : Value) (k : Nat × Nat) : Lb (lab σ v k) v k := fun b h => by unfold lab; rw [if_pos h]
/-- What was there has the labels that it had. -/
def Ext (w : World) (σ σ' : Nat → Nat × Nat) : Prop := ∀ b, b < w.heap.size → σ' b = σ b
theorem Ext.refl (w : World) (σ : Nat → Nat × Nat) : Ext w σ σ := fun _ _ => rfl
theorem Ext.trans {w w' : World} {σ σ' σ'' : Nat → Nat × Nat} (h : Ext w σ σ') (k : Ext w' σ' σ'') (hs : w.heap.size ≤ w'.heap.size) : Ext w σ σ'' := fun b hb => by rw [k b (by omega), h b hb]
theorem Ext.lab {w : World} {σ : Nat → Nat × Nat} {v : Value} {k : Nat × Nat} (h : ∀ b, v.ownBlock = some b → b < w.heap.size → σ b = k) : Ext w σ (lab σ v k) := fun b hb => by
  show (if v.ownBlock = some b then k else σ b) = σ b
  split
  · next e => exact (h b e hb).symm
  · rfl
/-- Not there yet: not labelled. -/
def Fz (w : World) (σ : Nat → Nat × Nat) : Prop := ∀ b, w.heap.size ≤ b → σ b = (0, 0)
theorem Fz.chg {w w' : World} {σ : Nat → Nat × Nat} {S : Nat → Prop} (h : Fz w σ) (hc : Chg w w' S) : Fz w' σ := fun b hb => h b (Nat.le_trans hc.size hb)
theorem Fz.lab {w : World} {σ : Nat → Nat × Nat} {v : Value} {k : Nat × Nat} (h : Fz w σ) (hv : ∀ b, v.ownBlock = some b → b < w.heap.size) : Fz w (lab σ v k) := fun b hb => by
  show (if v.ownBlock = some b then k else σ b) = (0, 0)
  rw [if_neg (fun e => by have := hv b e; omega)]
  exact h b hb
/-- One of the lists that the book has: its number, how many elements, its cells. -/
structure En where
  o : Nat
  n : Nat
  xs : List Value
/-- Lists in a list: what they read, and their labels, of one class. -/
structure Ent (w : World) (σ : Nat → Nat × Nat) (T sz c : Nat) (L : List Value) (es : List En) : Prop where
  len : L.length = es.length
  rw : ∀ (i : Nat) (v : Value) (e : En), L[i]? = some v → es[i]? = some e → w.ownsRow 0 T sz v e.n e.xs ∧ Lb σ v (c, e.o)
theorem Ent.nil (w : World) (σ : Nat → Nat × Nat) (T sz c : Nat) : Ent w σ T sz c [] [] := ⟨rfl, fun i v e h => by simp at h⟩
theorem own_lt {w : World} {e size n : Nat} {v : Value} {xs : List Value} (h : w.ownsRow 0 e size v n xs) {k : Nat} (hk : v.ownBlock = some k) : k < w.heap.size := by
  obtain ⟨cur, hg⟩ := own_tp h hk
  exact hp_lt hg
section
variable {w w' : World} {σ σ' : Nat → Nat × Nat} {T sz c : Nat} {L : List Value} {es : List En}
theorem Ent.chg {S : Nat → Prop} (h : Ent w σ T sz c L es) (hc : Chg w w' S) (hn : ∀ b, S b → ∀ e, e ∈ es → σ b ≠ (c, e.o)) : Ent w' σ T sz c L es :=
  ⟨h.len, fun i v e hv he => ⟨hc.owns (h.rw i v e hv he).1 (fun b hb hS => hn b hS e (List.mem_of_getElem? he) ((h.rw i v e hv he).2 b hb)), (h.rw i v e hv he).2⟩⟩
/-- Blocks of another class are written. -/
theorem Ent.chgC {S : Nat → Prop} (h : Ent w σ T sz c L es) (hc : Chg w w' S) (hn : ∀ b, S b → (σ b).1 ≠ c) : Ent w' σ T sz c L es :=
  h.chg hc (fun b hb e _ x => hn b hb (by rw [x]))
theorem Ent.kp (h : Ent w σ T sz c L es) (hc : Kp w w') : Ent w' σ T sz c L es := h.chg hc (fun _ x => x.elim)
theorem Ent.ext (h : Ent w σ T sz c L es) (hx : Ext w σ σ') : Ent w σ' T sz c L es :=
  ⟨h.len, fun i v e hv he => ⟨(h.rw i v e hv he).1, fun b hb => by rw [hx b (own_lt (h.rw i v e hv he).1 hb)]; exact (h.rw i v e hv he).2 b hb⟩⟩
theorem Ent.snoc (h : Ent w σ T sz c L es) {v : Value} {e : En} (hv : w.ownsRow 0 T sz v e.n e.xs) (hl : Lb σ v (c, e.o)) : Ent w σ T sz c (L ++ [v]) (es ++ [e]) := by
  refine ⟨by simp [h.len], fun i u e' hu he => ?_⟩
  by_cases hi : i < L.length
  · rw [List.getElem?_append_left hi] at hu
    rw [List.getElem?_append_left (by rw [← h.len]; exact hi)] at he
    exact h.rw i u e' hu he
  · have hi2 : i = L.length := by
      have := (List.getElem?_eq_some_iff.1 hu).1
      simp at this; omega
    subst hi2
    rw [List.getElem?_append_right (Nat.le_refl _)] at hu
    rw [h.len, List.getElem?_append_right (Nat.le_refl _)] at he
    simp at hu he
    subst hu he
    exact ⟨hv, hl⟩
end
/-- The elements' types of the book's lists. -/
def spT : Nat → Nat
  | 1 => 5 | _ => 22
def upd {α : Type} (f : Nat → α) (i : Nat) (x : α) : Nat → α := fun j => if j = i then x else f j
theorem upd_same {α : Type} (f : Nat → α) (i : Nat) (x : α) : upd f i x i = x := by simp [upd]
theorem upd_other {α : Type} (f : Nat → α) {i j : Nat} (x : α) (h : j ≠ i) : upd f i x j = f j := by simp [upd, h]
/-- The book's cells. -/
def pcl (V : Nat → Value) : Array Value := #[V 0, V 1, V 2, V 3, V 4, V 5]
/-- The book in memory: its box, its six lists. -/
structure BkM (w : World) (σ : Nat → Nat × Nat) (K : Nat) (V : Nat → Value) (X : Nat → List Value) : Prop where
  box : w.heap[K]? = some (.cells (pcl V) 48 (0, 0))
  lk : σ K = (1, 99)
  own : ∀ i, i < 6 → w.ownsRow 0 (spT i) 1 (V i) (X i).length (X i) ∧ Lb σ (V i) (1, i)
  fz : Fz w σ
section
variable {w w' : World} {σ σ' : Nat → Nat × Nat} {K : Nat} {V : Nat → Value} {X : Nat → List Value}
theorem BkM.chg {S : Nat → Prop} (h : BkM w σ K V X) (hc : Chg w w' S) (hn : ∀ b, S b → (σ b).1 ≠ 1) : BkM w' σ K V X :=
  ⟨hc.heap h.box (fun e => hn K e (by rw [h.lk])), h.lk, fun i hi => ⟨hc.owns (h.own i hi).1 (fun b hb hS => hn b hS (by rw [(h.own i hi).2 b hb])), (h.own i hi).2⟩, h.fz.chg hc⟩
theorem BkM.kp (h : BkM w σ K V X) (hc : Kp w w') : BkM w' σ K V X := h.chg hc (fun _ x => x.elim)
theorem BkM.ext (h : BkM w σ K V X) (hx : Ext w σ σ') (hz : Fz w σ') : BkM w σ' K V X :=
  ⟨h.box, by rw [hx K (hp_lt h.box)]; exact h.lk, fun i hi => ⟨(h.own i hi).1, fun b hb => by rw [hx b (own_lt (h.own i hi).1 hb)]; exact (h.own i hi).2 b hb⟩, hz⟩
theorem BkM.cell (h : BkM w σ K V X) {i : Nat} (hi : i < 6) : w.cell? ⟨K, i, none⟩ = some (V i) ∧ w.frozen? ⟨K, i, none⟩ = false := by
  refine ⟨?_, (cells_at h.box _).2⟩
  rw [(cells_at h.box _).1]
  have : i = 0 ∨ i = 1 ∨ i = 2 ∨ i = 3 ∨ i = 4 ∨ i = 5 := by omega
  rcases this with rfl | rfl | rfl | rfl | rfl | rfl <;> rfl
theorem pcl_set {i : Nat} (hi : i < 6) (v : Value) : (pcl V).setIfInBounds (i) v = pcl (upd V i v) := by
  have : i = 0 ∨ i = 1 ∨ i = 2 ∨ i = 3 ∨ i = 4 ∨ i = 5 := by omega
  rcases this with rfl | rfl | rfl | rfl | rfl | rfl <;> simp [pcl, upd]
theorem BkM.notbox (h : BkM w σ K V X) {i : Nat} (hi : i < 6) : (V i).ownBlock ≠ some K := fun e => by
  have := (h.own i hi).2 K e
  rw [h.lk] at this
  simp at this
  omega
/-- A list of the book is another one. -/
theorem BkM.put (h : BkM w σ K V X) {i : Nat} (hi : i < 6) {v' : Value} {xs : List Value} (ho : w'.ownsRow 0 (spT i) 1 v' xs.length xs) {S : Nat → Prop} (hc : Chg w w' S) (hS : ∀ b, S b → σ b = (1, i)) (hL : v'.ownBlock = (V i).ownBlock ∨ Nw w v') :
    BkM (w'.setCell ⟨K, i, none⟩ v') (lab σ v' (1, i)) K (upd V i v') (upd X i xs) ∧ Chg w (w'.setCell ⟨K, i, none⟩ v') (fun b => (σ b).1 = 1) ∧ Ext w σ (lab σ v' (1, i)) := by
  have hSK : ¬ S K := fun e => by have := hS K e; rw [h.lk] at this; simp at this; omega
  have hb' := hc.heap h.box hSK
  have c2 : Chg w' (w'.setCell ⟨K, i, none⟩ v') (fun k => k = K) := Chg.setCell (S := fun k => k = K) (Chg.refl w' _) (.inl rfl) _
  have hnb : ∀ k, v'.ownBlock = some k → k ≠ K := fun k hk e => by
    rcases hL with e' | e'
    · rw [e'] at hk; exact h.notbox hi (by rw [hk, e])
    · have := e' k hk
      have := hp_lt h.box
      omega
  have hx : Ext w σ (lab σ v' (1, i)) := Ext.lab (fun b hb hlt => by
    rcases hL with e | e
    · rw [e] at hb; exact (h.own i hi).2 b hb
    · have := e b hb; omega)
  have hz : Fz w' (lab σ v' (1, i)) := (h.fz.chg hc).lab (fun b hb => own_lt ho hb)
  refine ⟨⟨?_, by rw [hx K (hp_lt h.box)]; exact h.lk, fun j hj => ?_, hz.chg c2⟩, Chg.trans (hc.mono (fun b _ e => by show (σ b).1 = 1; rw [hS b e])) c2 (fun b _ e => by show (σ b).1 = 1; rw [e, h.lk]), hx⟩
  · rw [heap_setCell_same w' K (i) _ 48 v' hb', pcl_set hi]
  · by_cases e : j = i
    · subst e
      rw [upd_same, upd_same]
      exact ⟨c2.owns ho (fun k hk e => hnb k hk e), lab_same _ _ _⟩
    · rw [upd_other _ _ e, upd_other _ _ e]
      refine ⟨c2.owns (hc.owns (h.own j hj).1 (fun k hk e' => ?_)) (fun k hk e' => h.notbox hj (by rw [hk, e'])), fun b hb => ?_⟩
      · have h1 := (h.own j hj).2 k hk
        rw [hS k e'] at h1
        simp at h1
        omega
      · rw [hx b (own_lt (h.own j hj).1 hb)]
        exact (h.own j hj).2 b hb
end
/-- The elements' types: one cell, at most 24 bytes. -/
theorem info1 {i : Nat} (hi : i < 6) : ∃ j z, Try.prog.info? (spT i) = some j ∧ j.zero = some z ∧ z.cells.size = 1 ∧ j.size = 1 ∧ j.bytes ≤ 24 := by
  have hz : ∀ T, (Try.prog.info? T).map (fun i => (i.zero.map (fun z => z.cells.size), i.size, decide (i.bytes ≤ 24))) = some (some 1, 1, true) → ∃ j z, Try.prog.info? T = some j ∧ j.zero = some z ∧ z.cells.size = 1 ∧ j.size = 1 ∧ j.bytes ≤ 24 := by
    intro T hz
    cases hq : Try.prog.info? T with
    | none => rw [hq] at hz; cases hz
    | some j =>
      rw [hq] at hz
      cases hy : j.zero with
      | none => simp [hy] at hz
      | some z =>
        simp [hy] at hz
        exact ⟨j, z, rfl, hy, hz.1, hz.2.1, hz.2.2⟩
  have : i = 0 ∨ i = 1 ∨ i = 2 ∨ i = 3 ∨ i = 4 ∨ i = 5 := by omega
  rcases this with rfl | rfl | rfl | rfl | rfl | rfl <;> exact hz _ (by kernel_rfl)
/-- What one more in a list of the book leaves. -/
structure Apd (w : World) (σ : Nat → Nat × Nat) (K : Nat) (V : Nat → Value) (X : Nat → List Value) (i : Nat) (news : List Value) (a : Option Addr) (c : Nat) (w' : World) : Prop where
  bk : BkM (w'.setCell ⟨K, i, none⟩ (.slice a ((X i).length + news.length) c)) (lab σ (.slice a ((X i).length + news.length) c) (1, i)) K (upd V i (.slice a ((X i).length + news.length) c)) (upd X i (X i ++ news))
  ch : Chg w (w'.setCell ⟨K, i, none⟩ (.slice a ((X i).length + news.length) c)) (fun b => (σ b).1 = 1)
  ex : Ext w σ (lab σ (.slice a ((X i).length + news.length) c) (1, i))
  c1 : Chg w w' (fun b => (σ b).1 = 1)
  cl : w'.cell? ⟨K, i, none⟩ = some (V i) ∧ w'.frozen? ⟨K, i, none⟩ = false
  cx : Chg w w' (fun b => (V i).ownBlock = some b)
/-- 'append(b.list, ..)'. -/
theorem BkM.app {w : World} {σ : Nat → Nat × Nat} {K : Nat} {V : Nat → Value} {X : Nat → List Value} (h : BkM w σ K V X) {i : Nat} (hi : i < 6) (t : TypeId) (ht : Try.prog.underlying t = some (.slice (spT i))) (news : List Value) (h1 : ∀ u ∈ news, u.oneCell' = true) (hl : ((X i).length + news.length) * 24 ≤ 140737488355328) :
    ∃ a c w', (Builtin.append_ #[t, t] t #[V i, .slice (some ⟨w.heap.size, 0, none⟩) news.length news.length]).run Try.prog (w.alloc (.cells news.toArray (spT i))) = .ok (.slice a ((X i).length + news.length) c) w' ∧ Apd w σ K V X i news a c w' := by
  obtain ⟨j, z, e1, e2, e3, e4, e5⟩ := info1 hi
  have ha := (h.own i hi).1
  have ka : Kp w (w.alloc (.cells news.toArray (spT i))) := Kp.al _ _
  obtain ⟨v', w', hr, ho, hg, hL⟩ := run_app (P := Try.prog) (w.alloc (.cells news.toArray (spT i))) t t (spT i) j z 1 j.bytes ht e1 e2 e4 rfl e3 (by omega) (V i) (X i).length (X i) (Chg.owns ka ha (fun _ _ h => h)) (some ⟨w.heap.size, 0, none⟩) news.length news.length news (by simp) (.inr ⟨_, _, rfl, fun j u hu => by
    rw [(cells_at (heap_alloc_new w _) _).1, Nat.zero_add]
    simpa using hu⟩) h1 (by unfold maxLen; omega) (Nat.le_trans (Nat.mul_le_mul_left _ e5) hl)
  have hsh : ∃ a c, v' = .slice a ((X i).length + news.length) c := by
    rcases ho.2 with ⟨e, e'⟩ | ⟨g, cap, cur, e, _⟩
    · exact ⟨none, 0, by rw [e, e']⟩
    · exact ⟨_, _, e⟩
  obtain ⟨a, c, rfl⟩ := hsh
  have hc : Chg w w' (fun b => (V i).ownBlock = some b) := Chg.grown ((Chg.refl w _).alloc _) hg (fun k hk => .inl hk)
  have hS : ∀ b, (V i).ownBlock = some b → σ b = (1, i) := fun b hb => (h.own i hi).2 b hb
  have ho' : w'.ownsRow 0 (spT i) 1 (.slice a ((X i).length + news.length) c) (X i ++ news).length (X i ++ news) := by rw [List.length_append]; exact ho
  obtain ⟨p1, p2, p3⟩ := h.put hi ho' hc hS (by
    rcases hL with e | ⟨k, e, hk⟩
    · exact .inl e
    · exact .inr (fun b hb => by rw [e] at hb; simp at hb hk; omega))
  have hb' := hc.heap h.box (fun e => h.notbox hi e)
  have hcl := h.cell hi
  refine ⟨a, c, w', hr, p1, p2, p3, hc.mono (fun b _ e => by show (σ b).1 = 1; rw [hS b e]), ⟨?_, (cells_at hb' _).2⟩, hc⟩
  rw [(cells_at hb' _).1, ← (cells_at h.box _).1]
  exact hcl.1
end Go.Proofs.Ytfcpkcbiinbmiab
