import Derived.Test.YtnblhaeojlpmmaaTs
import Derived.Test.YtnblhaeojlpmmaaRk
namespace Go.Proofs.Ytnblhaeojlpmmaa
open Go.ChangeShapes Go.WideShapes Go.ChangeAt Go.RowKit
set_option linter.unusedVariables false
/-- What a step may change: nothing that is not labelled, nor what has the label (0, 3); and these keep their labels. -/
structure Sd (w : World) (σ : Nat → Nat × Nat) (w' : World) (σ' : Nat → Nat × Nat) : Prop where
  c : Chg w w' (fun b => σ b ≠ (0, 0) ∧ σ b ≠ (0, 3))
  k : ∀ b, b < w.heap.size → (σ b = (0, 0) ∨ σ b = (0, 3)) → σ' b = σ b
section
variable {w w' w'' : World} {σ σ' σ'' : Nat → Nat × Nat}
theorem Sd.refl (w : World) (σ : Nat → Nat × Nat) : Sd w σ w σ := ⟨Chg.refl _ _, fun _ _ _ => rfl⟩
theorem Sd.kp (k : Kp w w') : Sd w σ w' σ := ⟨k.any, fun _ _ _ => rfl⟩
theorem Sd.trans (h : Sd w σ w' σ') (k : Sd w' σ' w'' σ'') : Sd w σ w'' σ'' := by
  refine ⟨Chg.trans h.c k.c (fun b hb e => ?_), fun b hb e => ?_⟩
  · refine ⟨fun e0 => e.1 ?_, fun e0 => e.2 ?_⟩
    · rw [h.k b hb (.inl e0)]; exact e0
    · rw [h.k b hb (.inr e0)]; exact e0
  · have h1 := h.k b hb e
    rw [← h1]
    refine k.k b (by have := h.c.size; omega) ?_
    rw [h1]; exact e
theorem Sd.heap (h : Sd w σ w' σ') {k : Nat} {o : Obj} (hk : w.heap[k]? = some o) (h0 : σ k = (0, 0) ∨ σ k = (0, 3)) : w'.heap[k]? = some o := h.c.heap hk (fun e => by rcases h0 with h0 | h0; exact e.1 h0; exact e.2 h0)
/-- Blocks that are nobody's, made since, are written. -/
theorem Sd.more (h : Sd w σ w' σ') {S : Nat → Prop} (hc : Chg w' w'' S) (hS : ∀ b, S b → w.heap.size ≤ b) : Sd w σ w'' σ' := ⟨Chg.trans h.c hc (fun b hb e => by have := hS b e; omega), h.k⟩
end
/-- What was made is somebody's. -/
def nwl (w w' : World) (σ : Nat → Nat × Nat) (n : Nat) : Nat → Nat × Nat := fun b => if w.heap.size ≤ b ∧ b < w'.heap.size then (0, n) else σ b
theorem nwl_old {w w' : World} {σ : Nat → Nat × Nat} {n b : Nat} (h : b < w.heap.size) : nwl w w' σ n b = σ b := by unfold nwl; rw [if_neg (by omega)]
theorem nwl_new {w w' : World} {σ : Nat → Nat × Nat} {n b : Nat} (h : w.heap.size ≤ b) (h' : b < w'.heap.size) : nwl w w' σ n b = (0, n) := by unfold nwl; rw [if_pos ⟨h, h'⟩]
theorem nwl_fz {w w' : World} {σ : Nat → Nat × Nat} {n : Nat} (h : Fz w σ) (hs : w.heap.size ≤ w'.heap.size) : Fz w' (nwl w w' σ n) := fun b hb => by unfold nwl; rw [if_neg (by omega)]; exact h b (by omega)
/-- The book's numbers. -/
structure BS where
  V : Nat → Value
  X : Nat → List Value
  G : List (List Int)
  H : List (List Int)
  O : List (Nat × Nat × Int)
  R : List (Nat × Nat × Int)
  L : List (List Mg)
  D : List (List Mg)
  E : List (List Mg)
/-- A port: where it is, and what it has. -/
structure PT where
  B : Nat
  vq : Value
  vs : Value
  p : QS
def PT.on (P : PT) (k : Nat) : Prop := Ft P.B P.vq P.vs k ∨ k ∈ rws (P.p.qd ++ P.p.st)
/-- The play: the book, the port, the document's. -/
structure Pl (W w : World) (σ : Nat → Nat × Nat) (K : Nat) (U : Nat → Value) (b : BS) (P Q : PT) : Prop where
  bk : Bk w σ K U b.V b.X b.G b.O b.H b.R b.L b.D b.E
  q : IsQ w P.B P.vq P.vs P.p
  f : IsR w Q.B Q.vq Q.vs Q.p
  lq : ∀ k, P.on k → σ k = (0, 1)
  lf : ∀ k, Q.on k → σ k = (0, 2)
  kW : Kp W w
  sW : ∀ k, k < W.heap.size → σ k = (0, 0)
  u0 : U 0 = .pointer (some ⟨P.B, 0, none⟩)
  u1 : U 1 = .pointer (some ⟨Q.B, 0, none⟩)
theorem IsQ.chg2 {w w' : World} {B : Nat} {vq vs : Value} {s : QS} {S : Nat → Prop} (h : IsQ w B vq vs s) (hc : Chg w w' S) (hn : ∀ k, Ft B vq vs k ∨ k ∈ rws (s.qd ++ s.st) → ¬ S k) : IsQ w' B vq vs s :=
  ⟨hc.heap h.box (hn B (.inl (.inl rfl))), hc.owns h.q (fun k hk => hn k (.inl (.inr (.inl hk)))), hc.owns h.t (fun k hk => hn k (.inl (.inr (.inr hk)))), fun m hm => hc.owns (h.b m hm) (fun k hk => hn k (.inr (List.mem_filterMap.2 ⟨m, hm, hk⟩))), h.ap, h.nd, h.ok⟩
theorem IsR.chg2 {w w' : World} {B : Nat} {vq vs : Value} {s : QS} {S : Nat → Prop} (h : IsR w B vq vs s) (hc : Chg w w' S) (hn : ∀ k, Ft B vq vs k ∨ k ∈ rws (s.qd ++ s.st) → ¬ S k) : IsR w' B vq vs s :=
  ⟨hc.heap h.box (hn B (.inl (.inl rfl))), hc.owns h.q (fun k hk => hn k (.inl (.inr (.inl hk)))), hc.owns h.t (fun k hk => hn k (.inl (.inr (.inr hk)))), fun m hm => hc.owns (h.b m hm) (fun k hk => hn k (.inr (List.mem_filterMap.2 ⟨m, hm, hk⟩))), h.ap, h.ok⟩
theorem IsQ.on_lt {w : World} {P : PT} (h : IsQ w P.B P.vq P.vs P.p) {k : Nat} (hk : P.on k) : k < w.heap.size := by
  rcases hk with (rfl | hk | hk) | hk
  · exact h.lt
  · exact h.q.lt hk
  · exact h.t.lt hk
  · exact rws_lt h.b hk
theorem IsR.on_lt {w : World} {P : PT} (h : IsR w P.B P.vq P.vs P.p) {k : Nat} (hk : P.on k) : k < w.heap.size := by
  rcases hk with (rfl | hk | hk) | hk
  · exact h.lt
  · exact h.q.lt hk
  · exact h.t.lt hk
  · exact rws_lt h.b hk
section
variable {W w w' : World} {σ σ' : Nat → Nat × Nat} {K : Nat} {U : Nat → Value} {b b' : BS} {P Q : PT}
theorem Pl.kp (h : Pl W w σ K U b P Q) (k : Kp w w') : Pl W w' σ K U b P Q := ⟨h.bk.kp k, h.q.kp k, h.f.kp k, h.lq, h.lf, h.kW.trans k, h.sW, h.u0, h.u1⟩
/-- Somebody's blocks, of which the play says nothing, are written, or others made. -/
theorem Pl.more (h : Pl W w σ K U b P Q) {S : Nat → Prop} (hc : Chg w w' S) (hS : ∀ k, S k → σ k = (0, 0) ∧ W.heap.size ≤ k) : Pl W w' σ K U b P Q :=
  ⟨h.bk.chg hc (fun k e => by rw [(hS k e).1]), h.q.chg2 hc (fun k hk e => by have := h.lq k hk; rw [(hS k e).1] at this; simp at this), h.f.chg2 hc (fun k hk e => by have := h.lf k hk; rw [(hS k e).1] at this; simp at this), h.lq, h.lf, Chg.trans h.kW hc (fun k hk e => by have := (hS k e).2; omega), h.sW, h.u0, h.u1⟩
theorem Pl.lt (h : Pl W w σ K U b P Q) : W.heap.size ≤ w.heap.size := h.kW.size
/-- The port has moved on. -/
theorem Pl.qmove (h : Pl W w σ K U b P Q) {vq' vs' : Value} {p' : QS} (hq : IsQ w' P.B vq' vs' p') (hc : Chg w w' (Ft P.B P.vq P.vs)) (hF : ∀ k, Ft P.B vq' vs' k → Ft P.B P.vq P.vs k ∨ w.heap.size ≤ k) (hr : ∀ k, k ∈ rws (p'.qd ++ p'.st) → k ∈ rws (P.p.qd ++ P.p.st) ∨ w.heap.size ≤ k) :
    Pl W w' (nwl w w' σ 1) K U b ⟨P.B, vq', vs', p'⟩ Q ∧ Sd w σ w' (nwl w w' σ 1) := by
  have hz := h.bk.m.fz
  have hl : ∀ k, Ft P.B P.vq P.vs k → σ k = (0, 1) := fun k hk => h.lq k (.inl hk)
  have hsz := hc.size
  refine ⟨⟨h.bk.move hc (fun k e => by rw [hl k e]) (fun k hk => nwl_old hk) (nwl_fz hz hsz), hq, h.f.chg2 hc (fun k hk e => by have := h.lf k hk; rw [hl k e] at this; simp at this), fun k hk => ?_, fun k hk => ?_, Chg.trans h.kW hc (fun k hk e => ?_), fun k hk => ?_, h.u0, h.u1⟩, hc.mono (fun k _ e => by rw [hl k e]; simp), fun k hk _ => nwl_old hk⟩
  · have hlt := IsQ.on_lt (P := ⟨P.B, vq', vs', p'⟩) hq hk
    have : P.on k ∨ w.heap.size ≤ k := by
      rcases hk with hk | hk
      · rcases hF k hk with e | e
        · exact .inl (.inl e)
        · exact .inr e
      · rcases hr k hk with e | e
        · exact .inl (.inr e)
        · exact .inr e
    by_cases hlt2 : k < w.heap.size
    · rw [nwl_old hlt2]; exact h.lq k (this.resolve_right (by omega))
    · exact nwl_new (by omega) hlt
  · rw [nwl_old (h.f.on_lt hk)]; exact h.lf k hk
  · have := h.sW k hk; rw [hl k e] at this; simp at this
  · rw [nwl_old (Nat.lt_of_lt_of_le hk h.lt)]; exact h.sW k hk
/-- The document's port has moved on. -/
theorem Pl.fmove (h : Pl W w σ K U b P Q) {vq' vs' : Value} {p' : QS} (hq : IsR w' Q.B vq' vs' p') (hc : Chg w w' (Ft Q.B Q.vq Q.vs)) (hF : ∀ k, Ft Q.B vq' vs' k → Ft Q.B Q.vq Q.vs k ∨ w.heap.size ≤ k) (hr : ∀ k, k ∈ rws (p'.qd ++ p'.st) → k ∈ rws (Q.p.qd ++ Q.p.st) ∨ w.heap.size ≤ k) :
    Pl W w' (nwl w w' σ 2) K U b P ⟨Q.B, vq', vs', p'⟩ ∧ Sd w σ w' (nwl w w' σ 2) := by
  have hz := h.bk.m.fz
  have hl : ∀ k, Ft Q.B Q.vq Q.vs k → σ k = (0, 2) := fun k hk => h.lf k (.inl hk)
  have hsz := hc.size
  refine ⟨⟨h.bk.move hc (fun k e => by rw [hl k e]) (fun k hk => nwl_old hk) (nwl_fz hz hsz), h.q.chg2 hc (fun k hk e => by have := h.lq k hk; rw [hl k e] at this; simp at this), hq, fun k hk => ?_, fun k hk => ?_, Chg.trans h.kW hc (fun k hk e => ?_), fun k hk => ?_, h.u0, h.u1⟩, hc.mono (fun k _ e => by rw [hl k e]; simp), fun k hk _ => nwl_old hk⟩
  · rw [nwl_old (h.q.on_lt hk)]; exact h.lq k hk
  · have hlt := IsR.on_lt (P := ⟨Q.B, vq', vs', p'⟩) hq hk
    have : Q.on k ∨ w.heap.size ≤ k := by
      rcases hk with hk | hk
      · rcases hF k hk with e | e
        · exact .inl (.inl e)
        · exact .inr e
      · rcases hr k hk with e | e
        · exact .inl (.inr e)
        · exact .inr e
    by_cases hlt2 : k < w.heap.size
    · rw [nwl_old hlt2]; exact h.lf k (this.resolve_right (by omega))
    · exact nwl_new (by omega) hlt
  · have := h.sW k hk; rw [hl k e] at this; simp at this
  · rw [nwl_old (Nat.lt_of_lt_of_le hk h.lt)]; exact h.sW k hk
/-- The book has moved on: what it wrote is its own, or v's, which was nobody's. -/
theorem Pl.bmove (h : Pl W w σ K U b P Q) (hb : Bk w' σ' K U b'.V b'.X b'.G b'.O b'.H b'.R b'.L b'.D b'.E) {S : Nat → Prop} (hc : Chg w w' (fun k => (σ k).1 ≠ 0 ∨ S k)) (hS : ∀ k, S k → (σ k ≠ (0, 1) ∧ σ k ≠ (0, 2)) ∧ W.heap.size ≤ k) (hx : ∀ k, k < w.heap.size → (σ k).1 = 0 → ¬ S k → σ' k = σ k) :
    Pl W w' σ' K U b' P Q := by
  refine ⟨hb, h.q.chg2 hc (fun k hk e => ?_), h.f.chg2 hc (fun k hk e => ?_), fun k hk => ?_, fun k hk => ?_, Chg.trans h.kW hc (fun k hk e => ?_), fun k hk => ?_, h.u0, h.u1⟩
  · have := h.lq k hk
    rcases e with e | e
    · rw [this] at e; simp at e
    · exact (hS k e).1.1 this
  · have := h.lf k hk
    rcases e with e | e
    · rw [this] at e; simp at e
    · exact (hS k e).1.2 this
  · have := h.lq k hk
    rw [hx k (h.q.on_lt hk) (by rw [this]) (fun e => (hS k e).1.1 this)]; exact this
  · have := h.lf k hk
    rw [hx k (h.f.on_lt hk) (by rw [this]) (fun e => (hS k e).1.2 this)]; exact this
  · have := h.sW k hk
    rcases e with e | e
    · rw [this] at e; simp at e
    · have := (hS k e).2; omega
  · have := h.sW k hk
    rw [hx k (Nat.lt_of_lt_of_le hk h.lt) (by rw [this]) (fun e => by have := (hS k e).2; omega)]; exact this
/-- The same, with nobody's blocks untouched. -/
theorem Pl.bmove0 (h : Pl W w σ K U b P Q) (hb : Bk w' σ' K U b'.V b'.X b'.G b'.O b'.H b'.R b'.L b'.D b'.E) (hc : Chg w w' (fun k => (σ k).1 ≠ 0)) (hx : ∀ k, k < w.heap.size → (σ k).1 = 0 → σ' k = σ k) :
    Pl W w' σ' K U b' P Q ∧ Sd w σ w' σ' :=
  ⟨h.bmove (S := fun _ => False) hb (hc.mono (fun _ _ e => .inl e)) (fun _ e => e.elim) (fun k hk e _ => hx k hk e), hc.mono (fun k _ e => ⟨fun e0 => by rw [e0] at e; simp at e, fun e0 => by rw [e0] at e; simp at e⟩), fun k hk e => hx k hk (by rcases e with e | e <;> rw [e])⟩
end
theorem rws_send {s : QS} {c : Int} {m : Mg} {k : Nat} (h : k ∈ rws ((s.send c m).qd ++ (s.send c m).st)) : k ∈ rws (s.qd ++ s.st) ∨ m.v.ownBlock = some k := by
  unfold QS.send at h
  split at h
  · simp only [QS.push] at h
    rw [← List.append_assoc, rws_app] at h
    rcases List.mem_append.1 h with h | h
    · exact .inl h
    · right
      obtain ⟨x, hx, e⟩ := List.mem_filterMap.1 h
      simp at hx
      subst hx
      exact e
  · exact .inl h
theorem rws_sub {a b : List Mg} (h : ∀ m, m ∈ a → m ∈ b) {k : Nat} (hk : k ∈ rws a) : k ∈ rws b := by
  obtain ⟨x, hx, e⟩ := List.mem_filterMap.1 hk
  exact List.mem_filterMap.2 ⟨x, h x hx, e⟩
theorem rws_recv {s : QS} {c : Int} {k : Nat} (h : k ∈ rws ((s.recv c).qd ++ (s.recv c).st)) : k ∈ rws (s.qd ++ s.st) := by
  refine rws_sub (fun m hm => ?_) h
  unfold QS.recv at hm
  split at hm
  · rcases List.mem_append.1 hm with hm | hm
    · exact List.mem_append_left _ (List.mem_of_mem_tail hm)
    · exact List.mem_append_right _ hm
  · exact hm
theorem rws_turn {s : QS} {c : Int} {k : Nat} (h : k ∈ rws ((s.turn c).qd ++ (s.turn c).st)) : k ∈ rws (s.qd ++ s.st) := by
  refine rws_sub (fun m hm => ?_) h
  unfold QS.turn at hm
  split at hm
  · simp only [QS.joined, List.append_nil] at hm
    rcases List.mem_append.1 hm with hm | hm
    · exact List.mem_append_left _ hm
    · exact List.mem_append_right _ (List.mem_of_mem_take hm)
  · exact hm
end Go.Proofs.Ytnblhaeojlpmmaa
namespace Go.Proofs.Ytnblhaeojlpmmaa
open Go.ChangeShapes Go.WideShapes Go.ChangeAt Go.RowKit
set_option linter.unusedVariables false
/-- How great the book is. -/
structure Sz (b : BS) (g h o r l d : Nat) : Prop where
  g : b.G.length ≤ g
  h : b.H.length ≤ h
  o : b.O.length ≤ o
  r : b.R.length ≤ r
  l : b.L.length ≤ l
  d : b.D.length ≤ d
  g2 : ∀ x ∈ b.G, x.length ≤ 2000000
  h2 : ∀ x ∈ b.H, x.length ≤ 1000
  o2 : ∀ e ∈ b.O, e.2.1 ≤ 1080
  r2 : ∀ e ∈ b.R, e.2.1 ≤ 1064
  l2 : ∀ x ∈ b.L, x.length ≤ 2000000
  d2 : ∀ x ∈ b.D, x.length ≤ 1000 ∧ ∀ m ∈ x, m.bs.length ≤ 1000
theorem Sz.bd {b : BS} {g h o r l d : Nat} (s : Sz b g h o r l d) (hg : g < 1000000000) (hh : h < 1000000) (ho : o < 1000000) (hr : r < 1000000) (hl : l < 1000000) (hd : d < 1000000) : Bd b.G b.H b.O b.R b.L b.D b.E :=
  ⟨by have := s.g; omega, by have := s.o; omega, by have := s.h; omega, by have := s.r; omega, by have := s.l; omega, by have := s.d; omega, fun e he => by have := s.o2 e he; omega, fun e he => by have := s.r2 e he; omega, fun x hx => by have := s.l2 x hx; omega, s.d2⟩
theorem Sz.mono {b : BS} {g h o r l d g' h' o' r' l' d' : Nat} (s : Sz b g h o r l d) (hg : g ≤ g') (hh : h ≤ h') (ho : o ≤ o') (hr : r ≤ r') (hl : l ≤ l') (hd : d ≤ d') : Sz b g' h' o' r' l' d' :=
  ⟨Nat.le_trans s.g hg, Nat.le_trans s.h hh, Nat.le_trans s.o ho, Nat.le_trans s.r hr, Nat.le_trans s.l hl, Nat.le_trans s.d hd, s.g2, s.h2, s.o2, s.r2, s.l2, s.d2⟩
theorem Sd.book {w wr w2 : World} {σ σr σ2 : Nat → Nat × Nat} {S : Nat → Prop} (h : Sd w σ wr σr) (hc : Chg wr w2 (fun k => (σr k).1 ≠ 0 ∨ S k)) (hS : ∀ k, S k → w.heap.size ≤ k ∨ (σr k ≠ (0, 0) ∧ σr k ≠ (0, 3))) (hx : ∀ k, k < wr.heap.size → (σr k).1 = 0 → ¬ S k → σ2 k = σr k) : Sd w σ w2 σ2 := by
  refine ⟨Chg.trans h.c hc (fun b hb e => ?_), fun b hb e => ?_⟩
  · rcases e with e | e
    · refine ⟨fun e0 => e ?_, fun e0 => e ?_⟩
      · rw [h.k b hb (.inl e0), e0]
      · rw [h.k b hb (.inr e0), e0]
    · rcases hS b e with e1 | e1
      · omega
      · exact ⟨fun e0 => e1.1 (by rw [h.k b hb (.inl e0), e0]), fun e0 => e1.2 (by rw [h.k b hb (.inr e0), e0])⟩
  · have h1 := h.k b hb e
    rw [hx b (by have := h.c.size; omega) (by rw [h1]; rcases e with e | e <;> rw [e]) (fun e' => by
      rcases hS b e' with e2 | e2
      · omega
      · rw [h1] at e2
        rcases e with e | e
        · exact e2.1 e
        · exact e2.2 e)]
    exact h1
theorem nd_inj : ∀ (l : List Mg), (rws l).Nodup → ∀ (i j : Nat) (x y : Mg) (b : Nat), l[i]? = some x → l[j]? = some y → x.v.ownBlock = some b → y.v.ownBlock = some b → i = j
  | [], _, i, j, x, y, b, hx, _, _, _ => by simp at hx
  | m :: l, hn, i, j, x, y, b, hx, hy, ex, ey => by
    have hn2 : (rws l).Nodup := rws_cons hn
    have hno : ∀ z, z ∈ l → z.v.ownBlock = some b → m.v.ownBlock = some b → False := fun z hz ez em => by
      have h1 : rws (m :: l) = b :: rws l := by simp [rws, em]
      rw [h1] at hn
      exact (List.nodup_cons.1 hn).1 (List.mem_filterMap.2 ⟨z, hz, ez⟩)
    cases i with
    | zero =>
      cases j with
      | zero => rfl
      | succ j =>
        simp at hx hy
        subst hx
        exact (hno y (List.mem_of_getElem? hy) ey ex).elim
    | succ i =>
      cases j with
      | zero =>
        simp at hx hy
        subst hy
        exact (hno x (List.mem_of_getElem? hx) ex ey).elim
      | succ j =>
        simp at hx hy
        rw [nd_inj l hn2 i j x y b hx hy ex ey]
/-- While what State tells is put into the book: n of the messages M are. -/
structure StI (W w : World) (σ : Nat → Nat × Nat) (K : Nat) (U : Nat → Value) (P Q : PT) (A : Nat) (cs : Array Value) (v1 v2 : Value) (lq ls : List Mg) (st : Bool) (g h o r l d n : Nat) (wr : World) (σr : Nat → Nat × Nat) (b : BS) : Prop where
  pl : Pl W wr σr K U b P Q
  sd : Sd w σ wr σr
  v8 : b.V 8 = .bool st
  sz : Sz b g (h + n) (o + 2 * n) r l d
  bx : wr.heap[A]? = some (.cells cs 64 (0, 0)) ∧ σr A = (0, 0)
  o1 : OM wr v1 lq ∧ Lb σr v1 (0, 0) ∧ Nw w v1
  o2 : OM wr v2 ls ∧ Lb σr v2 (0, 0) ∧ Nw w v2
  ap : ∀ k, v1.ownBlock = some k → v2.ownBlock ≠ some k
  dn : st = true → ∀ k m, k < n → (lq ++ ls)[k]? = some m → OB wr m.v m.bs ∧ ∃ j, Lb σr m.v (4, j)
  rs : ∀ k m, n ≤ k → (lq ++ ls)[k]? = some m → OB wr m.v m.bs ∧ Lb σr m.v (0, 0)
  nd : (rws (lq ++ ls)).Nodup
  nr : ∀ k, k ∈ rws (lq ++ ls) → w.heap.size ≤ k
  bl : ∀ m ∈ lq ++ ls, m.bs.length ≤ 1000
  ww : W.heap.size ≤ w.heap.size
section
variable {W w wr w2 : World} {σ σr σ2 : Nat → Nat × Nat} {K : Nat} {U : Nat → Value} {P Q : PT} {A : Nat} {cs : Array Value} {v1 v2 : Value} {lq ls : List Mg} {st : Bool} {g h o r l d n : Nat} {b : BS}
theorem StI.kp (I : StI W w σ K U P Q A cs v1 v2 lq ls st g h o r l d n wr σr b) (k : Kp wr w2) : StI W w σ K U P Q A cs v1 v2 lq ls st g h o r l d n w2 σr b :=
  ⟨I.pl.kp k, I.sd.trans (Sd.kp k), I.v8, I.sz, ⟨k.heap I.bx.1, I.bx.2⟩, ⟨Chg.owns k I.o1.1 (fun _ _ h => h), I.o1.2⟩, ⟨Chg.owns k I.o2.1 (fun _ _ h => h), I.o2.2⟩, I.ap, fun e q m hq hm => ⟨Chg.owns k (I.dn e q m hq hm).1 (fun _ _ h => h), (I.dn e q m hq hm).2⟩, fun q m hq hm => ⟨Chg.owns k (I.rs q m hq hm).1 (fun _ _ h => h), (I.rs q m hq hm).2⟩, I.nd, I.nr, I.bl, I.ww⟩
/-- The next message's bytes. -/
theorem StI.own (I : StI W w σ K U P Q A cs v1 v2 lq ls st g h o r l d n wr σr b) {m : Mg} (hm : (lq ++ ls)[n]? = some m) (ho : o + 2 * n < 1000000) (hh : h + n < 1000000) :
    Calls Try.prog 31 #[.pointer (some ⟨K, 8, none⟩), m.v] wr fun e w' => e = .returned (.tuple #[]) ∧ ∃ σ' b', StI W w σ K U P Q A cs v1 v2 lq ls st g h o r l d (n + 1) w' σ' b' := by
  obtain ⟨hob, hlb⟩ := I.rs n m (Nat.le_refl _) hm
  have hmem := List.mem_of_getElem? hm
  have hnew : ∀ k, m.v.ownBlock = some k → w.heap.size ≤ k := fun k hk => I.nr k (List.mem_filterMap.2 ⟨m, hmem, hk⟩)
  refine (owns_bk I.pl.bk st I.v8 m.v m.bs hob (I.bl m hmem) (fun k hk => by rw [hlb k hk]) (by have := I.sz.o; omega) (by have := I.sz.h; omega)).mono ?_
  rintro e w' ⟨he, σ', V', X', O', H', hB, hc, hx, h8, hO, hH, hO2, hH2, hst⟩
  have hc2 : Chg wr w' (fun k => (σr k).1 ≠ 0 ∨ m.v.ownBlock = some k) := hc.mono (fun k _ e => by rcases e with e | e; exact .inl (by omega); exact .inr e)
  refine ⟨he, σ', ⟨V', X', b.G, H', O', b.R, b.L, b.D, b.E⟩, ?_⟩
  have hne : ∀ (z : Value), (∀ k, z.ownBlock = some k → m.v.ownBlock ≠ some k) → (∀ k, z.ownBlock = some k → k < wr.heap.size) → ∀ c, Lb σr z c → Lb σ' z c := fun z hz hlt c hl k hk => by
    rw [hx k (hlt k hk) (hz k hk)]; exact hl k hk
  have typ : ∀ (z : Value) (ll : List Mg), OM wr z ll → ∀ k, z.ownBlock = some k → m.v.ownBlock ≠ some k := fun z ll hz k hk e => by
    obtain ⟨cur, hg⟩ := own_tp hz hk
    exact hob.no hg (by decide) e
  have dif : ∀ q m', q ≠ n → (lq ++ ls)[q]? = some m' → ∀ k, m'.v.ownBlock = some k → m.v.ownBlock ≠ some k := fun q m' hq hm' k hk e => hq (nd_inj _ I.nd q n m' m k hm' hm hk e)
  have ww := I.ww
  have pl' : Pl W w' σ' K U ⟨V', X', b.G, H', O', b.R, b.L, b.D, b.E⟩ P Q := I.pl.bmove (S := fun k => m.v.ownBlock = some k) hB hc2 (fun k hk => ⟨by rw [hlb k hk]; simp, by have := hnew k hk; omega⟩) (fun k hk _ hn => hx k hk hn)
  have nA : m.v.ownBlock ≠ some A := fun e => hob.no I.bx.1 (by decide) e
  refine ⟨pl', I.sd.book hc2 (fun k hk => .inl (hnew k hk)) (fun k hk _ hn => hx k hk hn), h8.trans I.v8, ?_, ⟨hc.heap I.bx.1 (fun e => ?_), ?_⟩, ⟨hc.owns I.o1.1 (fun k hk e => ?_), hne v1 (typ v1 lq I.o1.1) (fun k hk => I.o1.1.lt hk) _ I.o1.2.1, I.o1.2.2⟩, ⟨hc.owns I.o2.1 (fun k hk e => ?_), hne v2 (typ v2 ls I.o2.1) (fun k hk => I.o2.1.lt hk) _ I.o2.2.1, I.o2.2.2⟩, I.ap, fun e q m' hq hm' => ?_, fun q m' hq hm' => ?_, I.nd, I.nr, I.bl, I.ww⟩
  · have s := I.sz
    exact ⟨s.g, by have := s.h; show H'.length ≤ _; omega, by have := s.o; show O'.length ≤ _; omega, s.r, s.l, s.d, s.g2, fun x hx => by
      rcases hH2 x hx with e | e
      · exact s.h2 x e
      · rw [e]; exact I.bl m hmem, fun e he => by
      rcases hO2 e he with e' | e'
      · exact s.o2 e e'
      · exact e', s.r2, s.l2, s.d2⟩
  · rcases e with e | e
    · rw [I.bx.2] at e; simp at e
    · exact nA e
  · rw [hx A (hp_lt I.bx.1) nA]; exact I.bx.2
  · rcases e with e | e
    · rw [I.o1.2.1 k hk] at e; simp at e
    · exact typ v1 lq I.o1.1 k hk e
  · rcases e with e | e
    · rw [I.o2.2.1 k hk] at e; simp at e
    · exact typ v2 ls I.o2.1 k hk e
  · obtain ⟨s1, s2, _, _, s5⟩ := hst e
    by_cases hqn : q = n
    · subst hqn
      rw [hm] at hm'
      simp at hm'
      subst hm'
      exact ⟨s1, s2⟩
    · obtain ⟨d1, j, d2⟩ := I.dn e q m' (by omega) hm'
      exact ⟨s5.owns d1 (fun k hk e' => by rw [d2 k hk] at e'; simp at e'), j, hne m'.v (dif q m' hqn hm') (fun k hk => d1.lt hk) _ d2⟩
  · obtain ⟨d1, d2⟩ := I.rs q m' (by omega) hm'
    refine ⟨hc.owns d1 (fun k hk e => ?_), hne m'.v (dif q m' (by omega) hm') (fun k hk => d1.lt hk) _ d2⟩
    rcases e with e | e
    · rw [d2 k hk] at e; simp at e
    · exact dif q m' (by omega) hm' k hk e
/-- A row. -/
theorem StI.row (I : StI W w σ K U P Q A cs v1 v2 lq ls st g h o r l d (lq ++ ls).length wr σr b) (hq : lq.length ≤ 1000) (hs : ls.length ≤ 1000) (hr : r < 1000000) (hd : d < 1000000) :
    Calls Try.prog 41 #[.pointer (some ⟨K, 8, none⟩), v1] wr fun e w' => e = .returned (.tuple #[]) ∧ ∃ σ' b', StI W w σ K U P Q A cs (.slice none 0 0) v2 [] ls st g (h + lq.length) (o + 2 * lq.length) (r + 2) l (d + 1) ls.length w' σ' b' := by
  have hnew : ∀ k, v1.ownBlock = some k → w.heap.size ≤ k := I.o1.2.2
  have mem : ∀ m ∈ lq ++ ls, ∃ k, k < (lq ++ ls).length ∧ (lq ++ ls)[k]? = some m := fun m hm => by
    obtain ⟨k, hk, e⟩ := List.getElem_of_mem hm
    exact ⟨k, hk, by rw [List.getElem?_eq_getElem hk, e]⟩
  refine (row_bk I.pl.bk st I.v8 v1 lq I.o1.1 hq (fun k hk => by rw [I.o1.2.1 k hk]) (fun e m hm => by
    have hm' : m ∈ lq ++ ls := List.mem_append_left _ hm
    obtain ⟨k, hk, e2⟩ := mem m hm'
    exact ⟨I.bl m hm', I.dn e k m hk e2⟩) (by have := I.sz.r; omega) (by have := I.sz.d; omega)).mono ?_
  rintro e w' ⟨he, σ', V', X', R', D', E', hB, hc, hx, h8, hR, hD, hR2, hD2⟩
  have hc2 : Chg wr w' (fun k => (σr k).1 ≠ 0 ∨ v1.ownBlock = some k) := hc.mono (fun k _ e => by rcases e with e | e; exact .inl (by omega); exact .inr e)
  refine ⟨he, σ', ⟨V', X', b.G, b.H, b.O, R', b.L, D', E'⟩, ?_⟩
  have hne : ∀ (z : Value), (∀ k, z.ownBlock = some k → v1.ownBlock ≠ some k) → (∀ k, z.ownBlock = some k → k < wr.heap.size) → ∀ c, Lb σr z c → Lb σ' z c := fun z hz hlt c hl k hk => by
    rw [hx k (hlt k hk) (hz k hk)]; exact hl k hk
  have typ : ∀ (z : Value) (ll : List Int), OB wr z ll → ∀ k, z.ownBlock = some k → v1.ownBlock ≠ some k := fun z ll hz k hk e => by
    obtain ⟨cur, hg⟩ := own_tp I.o1.1 e
    exact hz.no hg (by decide) hk
  have ww := I.ww
  have pl' : Pl W w' σ' K U ⟨V', X', b.G, b.H, b.O, R', b.L, D', E'⟩ P Q := I.pl.bmove (S := fun k => v1.ownBlock = some k) hB hc2 (fun k hk => ⟨by rw [I.o1.2.1 k hk]; simp, by have := hnew k hk; omega⟩) (fun k hk _ hn => hx k hk hn)
  have nA : v1.ownBlock ≠ some A := fun e => I.o1.1.no I.bx.1 (by decide) e
  have ap2 : ∀ k, v2.ownBlock = some k → v1.ownBlock ≠ some k := fun k hk e => I.ap k e hk
  refine ⟨pl', I.sd.book hc2 (fun k hk => .inl (hnew k hk)) (fun k hk _ hn => hx k hk hn), h8.trans I.v8, ?_, ⟨hc.heap I.bx.1 (fun e => ?_), ?_⟩, ⟨OM.nil _, Lb.nil _ _, fun k hk => by simp [Value.ownBlock] at hk⟩, ⟨hc.owns I.o2.1 (fun k hk e => ?_), hne v2 ap2 (fun k hk => I.o2.1.lt hk) _ I.o2.2.1, I.o2.2.2⟩, fun k hk => by simp [Value.ownBlock] at hk, fun e q m' hq' hm' => ?_, fun q m' hq' hm' => ?_, ?_, fun k hk => ?_, fun m hm => I.bl m (List.mem_append_right _ (by simpa using hm)), I.ww⟩
  · have s := I.sz
    refine ⟨s.g, by have := s.h; simp at this; show b.H.length ≤ _; omega, by have := s.o; simp at this; show b.O.length ≤ _; omega, by have := s.r; show R'.length ≤ _; omega, s.l, by have := s.d; show D'.length ≤ _; omega, s.g2, s.h2, s.o2, fun e he => ?_, s.l2, fun x hx => ?_⟩
    · rcases hR2 e he with e' | e'
      · exact s.r2 e e'
      · exact e'
    · rcases hD2 x hx with e' | ⟨e', _⟩
      · exact s.d2 x e'
      · rw [e']; exact ⟨hq, fun m hm => I.bl m (List.mem_append_left _ hm)⟩
  · rcases e with e | e
    · rw [I.bx.2] at e; simp at e
    · exact nA e
  · rw [hx A (hp_lt I.bx.1) nA]; exact I.bx.2
  · rcases e with e | e
    · rw [I.o2.2.1 k hk] at e; simp at e
    · exact ap2 k hk e
  · rw [List.nil_append] at hm'
    have hm2 : (lq ++ ls)[lq.length + q]? = some m' := by rw [List.getElem?_append_right (by omega)]; simpa using hm'
    obtain ⟨d1, j, d2⟩ := I.dn e (lq.length + q) m' (by simp; omega) hm2
    exact ⟨hc.owns d1 (fun k hk e' => by
      rcases e' with e' | e'
      · rw [d2 k hk] at e'; simp at e'
      · exact typ m'.v _ d1 k hk e'), j, hne m'.v (typ m'.v _ d1) (fun k hk => d1.lt hk) _ d2⟩
  · rw [List.nil_append] at hm'
    have := (List.getElem?_eq_some_iff.1 hm').1
    omega
  · have := I.nd; rw [rws_app] at this; rw [List.nil_append]; exact (List.nodup_append.1 this).2.1
  · rw [List.nil_append] at hk; exact I.nr k (by rw [rws_app]; exact List.mem_append_right _ hk)
end
end Go.Proofs.Ytnblhaeojlpmmaa
