import Derived.Test.YtnblhaeojlpmmaaTv
namespace Go.Proofs.Ytnblhaeojlpmmaa
open Go.ChangeShapes Go.WideShapes Go.ChangeAt Go.RowKit
set_option linter.unusedVariables false
/-- In the midst of a step: the step's own box lies at A. -/
structure SI (W w : World) (σ : Nat → Nat × Nat) (K : Nat) (U : Nat → Value) (A : Nat) (cs : Array Value) (wr : World) (σr : Nat → Nat × Nat) (b : BS) (P Q : PT) : Prop where
  pl : Pl W wr σr K U b P Q
  sd : Sd w σ wr σr
  bx : wr.heap[A]? = some (.cells cs 66 (0, 0))
  la : σr A = (0, 0)
  hA : w.heap.size ≤ A
  hW : W.heap.size ≤ w.heap.size
section
variable {W w wr w2 : World} {σ σr σ2 : Nat → Nat × Nat} {K : Nat} {U U2 : Nat → Value} {A : Nat} {cs : Array Value} {b b2 : BS} {P Q P2 Q2 : PT}
theorem SI.kp (I : SI W w σ K U A cs wr σr b P Q) (k : Kp wr w2) : SI W w σ K U A cs w2 σr b P Q := ⟨I.pl.kp k, I.sd.trans (Sd.kp k), k.heap I.bx, I.la, I.hA, I.hW⟩
theorem SI.next (I : SI W w σ K U A cs wr σr b P Q) (hp : Pl W w2 σ2 K U2 b2 P2 Q2) (hs : Sd wr σr w2 σ2) : SI W w σ K U2 A cs w2 σ2 b2 P2 Q2 := ⟨hp, I.sd.trans hs, hs.heap I.bx (.inl I.la), by rw [hs.k A (hp_lt I.bx) (.inl I.la)]; exact I.la, I.hA, I.hW⟩
theorem SI.kc (I : SI W w σ K U A cs wr σr b P Q) : wr.cell? ⟨K, 0, none⟩ = some (.pointer (some ⟨P.B, 0, none⟩)) ∧ wr.cell? ⟨K, 1, none⟩ = some (.pointer (some ⟨Q.B, 0, none⟩)) :=
  ⟨by rw [(cells_at I.pl.bk.m.box 0).1, ← I.pl.u0]; rfl, by rw [(cells_at I.pl.bk.m.box 1).1, ← I.pl.u1]; rfl⟩
/-- Boxes of the step's own, made since, are written. -/
theorem SI.more (I : SI W w σ K U A cs wr σr b P Q) {S : Nat → Prop} (hc : Chg wr w2 S) (hS : ∀ k, S k → σr k = (0, 0) ∧ w.heap.size ≤ k ∧ k ≠ A) : SI W w σ K U A cs w2 σr b P Q :=
  ⟨I.pl.more hc (fun k e => ⟨(hS k e).1, Nat.le_trans I.hW (hS k e).2.1⟩), I.sd.more hc (fun k e => (hS k e).2.1), hc.heap I.bx (fun e => (hS A e).2.2 rfl), I.la, I.hA, I.hW⟩
theorem SI.send (I : SI W w σ K U A cs wr σr b P Q) (c tk : Int) (v : Value) (bs : List Int) (hv : Bs wr v bs) :
    Calls Try.prog 14 #[.pointer (some ⟨P.B, 0, none⟩), .int .i64 c, .int .u64 tk, v] wr fun e w' => e = .returned (.int .i64 (P.p.sE c bs.length)) ∧ ∃ σ' P' v', SI W w σ K U A cs w' σ' b P' Q ∧ P'.p = P.p.send c ⟨v', bs, tk⟩ ∧ P'.B = P.B ∧ Chg wr w' (Ft P.B P.vq P.vs) ∧ (∀ k, k < wr.heap.size → σ' k = σr k) := by
  refine (send_any wr P.B P.vq P.vs P.p I.pl.q c tk v bs hv).mono ?_
  rintro e w' ⟨he, v', vs', h1, h2, h3, h4⟩
  obtain ⟨hp, hs⟩ := I.pl.qmove h1 h2 h3 (fun k hk => by
    rcases rws_send hk with e | e
    · exact .inl e
    · exact .inr (h4 k e))
  exact ⟨he, _, _, v', I.next hp hs, rfl, rfl, h2, fun k hk => nwl_old hk⟩
theorem SI.rsend (I : SI W w σ K U A cs wr σr b P Q) (c tk : Int) (v : Value) (bs : List Int) (hv : Bs wr v bs) :
    Calls Try.prog 28 #[.pointer (some ⟨Q.B, 0, none⟩), .int .i64 c, .int .u64 tk, v] wr fun e w' => e = .returned (.int .i64 (Q.p.sE c bs.length)) ∧ ∃ σ' Q' v', SI W w σ K U A cs w' σ' b P Q' ∧ Q'.p = Q.p.send c ⟨v', bs, tk⟩ ∧ Q'.B = Q.B ∧ Chg wr w' (Ft Q.B Q.vq Q.vs) ∧ (∀ k, k < wr.heap.size → σ' k = σr k) := by
  refine (rsend_any wr Q.B Q.vq Q.vs Q.p I.pl.f c tk v bs hv).mono ?_
  rintro e w' ⟨he, v', vs', h1, h2, h3, h4⟩
  obtain ⟨hp, hs⟩ := I.pl.fmove h1 h2 h3 (fun k hk => by
    rcases rws_send hk with e | e
    · exact .inl e
    · exact .inr (h4 k e))
  exact ⟨he, _, _, v', I.next hp hs, rfl, rfl, h2, fun k hk => nwl_old hk⟩
theorem SI.turn (I : SI W w σ K U A cs wr σr b P Q) (c : Int) :
    Calls Try.prog 13 #[.pointer (some ⟨P.B, 0, none⟩), .int .i64 c] wr fun e w' => e = .returned (.int .i64 (P.p.tN c : Nat)) ∧ ∃ σ' P', SI W w σ K U A cs w' σ' b P' Q ∧ P'.p = P.p.turn c ∧ P'.B = P.B := by
  refine (turn_any wr P.B P.vq P.vs P.p I.pl.q c).mono ?_
  rintro e w' ⟨he, vq', vs', h1, h2, h3⟩
  obtain ⟨hp, hs⟩ := I.pl.qmove h1 h2 h3 (fun k hk => .inl (rws_turn hk))
  exact ⟨he, _, _, I.next hp hs, rfl, rfl⟩
theorem SI.rturn (I : SI W w σ K U A cs wr σr b P Q) (c : Int) :
    Calls Try.prog 32 #[.pointer (some ⟨Q.B, 0, none⟩), .int .i64 c] wr fun e w' => e = .returned (.int .i64 (Q.p.tN c : Nat)) ∧ ∃ σ' Q', SI W w σ K U A cs w' σ' b P Q' ∧ Q'.p = Q.p.turn c ∧ Q'.B = Q.B := by
  refine (rturn_any wr Q.B Q.vq Q.vs Q.p I.pl.f c).mono ?_
  rintro e w' ⟨he, vq', vs', h1, h2, h3⟩
  obtain ⟨hp, hs⟩ := I.pl.fmove h1 h2 h3 (fun k hk => .inl (rws_turn hk))
  exact ⟨he, _, _, I.next hp hs, rfl, rfl⟩
theorem SI.rrecv (I : SI W w σ K U A cs wr σr b P Q) (c : Int) :
    Calls Try.prog 30 #[.pointer (some ⟨Q.B, 0, none⟩), .int .i64 c] wr fun e w' => e = .returned (.tuple #[(Q.p.gM c).v, .int .u64 (Q.p.gM c).tk, .bool (Q.p.gH c), .int .i64 (Q.p.gE c)]) ∧ ∃ σ' Q', SI W w σ K U A cs w' σ' b P Q' ∧ Q'.p = Q.p.recv c ∧ Q'.B = Q.B ∧ OB w' (Q.p.gM c).v (Q.p.gM c).bs ∧ Chg wr w' (fun k => k = Q.B) ∧ (∀ k, k < wr.heap.size → σ' k = σr k) := by
  refine (rrecv_any wr Q.B Q.vq Q.vs Q.p I.pl.f c).mono ?_
  rintro e w' ⟨he, vq', h1, h2, h3, h4⟩
  obtain ⟨hp, hs⟩ := I.pl.fmove h1 (h2.mono (fun k _ e => .inl e)) (fun k hk => by
    rcases hk with e | e | e
    · exact .inl (.inl e)
    · rcases h3 with h3 | h3
      · exact .inl (.inr (.inl (by rw [← h3]; exact e)))
      · exact .inr (h3 k e)
    · exact .inl (.inr (.inr e))) (fun k hk => .inl (rws_recv hk))
  exact ⟨he, _, _, I.next hp hs, rfl, rfl, h4, h2, fun k hk => nwl_old hk⟩
/-- The same with some of nobody's, or the port's former, blocks labelled anew. -/
theorem SI.relab (I : SI W w σ K U A cs wr σr b P Q) (v : Value) (hv : ∀ k, v.ownBlock = some k → σr k = (0, 1) ∧ ¬ P.on k) : SI W w σ K U A cs wr (lab σr v (0, 4)) b P Q ∧ ∀ k, v.ownBlock ≠ some k → lab σr v (0, 4) k = σr k := by
  have ho : ∀ k, v.ownBlock ≠ some k → lab σr v (0, 4) k = σr k := fun k hk => by unfold lab; rw [if_neg hk]
  have ne : ∀ k c, σr k = c → c ≠ (0, 1) → v.ownBlock ≠ some k := fun k c hc h1 e => h1 (by rw [← hc]; exact (hv k e).1)
  have hbm := I.pl.bk.m
  have mv : ∀ k, k < wr.heap.size → (σr k).1 ≠ 0 → lab σr v (0, 4) k = σr k := fun k hk e => ho k (ne k _ rfl (fun x => by rw [x] at e; simp at e))
  have fz : Fz wr (lab σr v (0, 4)) := fun k hk => by
    have h1 := hbm.fz k hk
    rw [ho k (ne k _ h1 (by simp))]; exact h1
  have B : Bk wr (lab σr v (0, 4)) K U b.V b.X b.G b.O b.H b.R b.L b.D b.E := by
    have h := I.pl.bk
    refine ⟨h.m.relab (fun k hk e => mv k hk (by omega)) fz, h.g.moveX (Chg.refl _ (fun _ => False)) (fun _ x => x.elim) (fun k hk e => mv k hk (by omega)), h.gs, h.o.moveX (Chg.refl _ (fun _ => False)) (fun _ x => x.elim) (fun k hk e => mv k hk (by omega)), h.os, h.h.moveX (Chg.refl _ (fun _ => False)) (fun _ x => x.elim) (fun k hk e => mv k hk (by omega)), h.hs, h.r.moveX (Chg.refl _ (fun _ => False)) (fun _ x => x.elim) (fun k hk e => mv k hk (by omega)), h.rs, h.l.moveX (Chg.refl _ (fun _ => False)) (fun _ x => x.elim) (fun k hk e => mv k hk (by omega)), h.lw.moveX (Chg.refl _ (fun _ => False)) (fun _ x => x.elim) (fun k hk e => mv k hk (by omega)), h.lv, h.d.moveX (Chg.refl _ (fun _ => False)) (fun _ x => x.elim) (fun k hk e => mv k hk (by omega)), fun l hL m hm => ?_, h.e.moveX (Chg.refl _ (fun _ => False)) (fun _ x => x.elim) (fun k hk e => mv k hk (by omega)), fun l hL m hm => ?_, h.de⟩
    · obtain ⟨h1, jj, h2⟩ := h.db l hL m hm
      exact ⟨h1, jj, fun k hk => by rw [mv k (h1.lt hk) (by rw [h2 k hk]; simp)]; exact h2 k hk⟩
    · obtain ⟨h1, h2⟩ := h.eb l hL m hm
      exact ⟨h1, fun k hk => by rw [mv k (h1.lt hk) (by rw [h2 k hk]; simp)]; exact h2 k hk⟩
  refine ⟨⟨⟨B, I.pl.q, I.pl.f, fun k hk => ?_, fun k hk => ?_, I.pl.kW, fun k hk => ?_, I.pl.u0, I.pl.u1⟩, ⟨I.sd.c, fun k hk e => ?_⟩, I.bx, ?_, I.hA, I.hW⟩, ho⟩
  · rw [ho k (fun e => (hv k e).2 hk)]; exact I.pl.lq k hk
  · have := I.pl.lf k hk; rw [ho k (ne k _ this (by simp))]; exact this
  · have := I.pl.sW k hk; rw [ho k (ne k _ this (by simp))]; exact this
  · have h1 := I.sd.k k hk e
    rw [ho k (ne k _ h1 (by rcases e with e | e <;> rw [e] <;> simp))]; exact h1
  · rw [ho A (ne A _ I.la (by simp))]; exact I.la
theorem SI.recv (I : SI W w σ K U A cs wr σr b P Q) (c : Int) :
    Calls Try.prog 12 #[.pointer (some ⟨P.B, 0, none⟩), .int .i64 c] wr fun e w' => e = .returned (.tuple #[(P.p.gM c).v, .int .u64 (P.p.gM c).tk, .bool (P.p.gH c), .int .i64 (P.p.gE c)]) ∧ ∃ σ' P', SI W w σ K U A cs w' σ' b P' Q ∧ P'.p = P.p.recv c ∧ P'.B = P.B ∧ OB w' (P.p.gM c).v (P.p.gM c).bs ∧ (∀ k, (P.p.gM c).v.ownBlock = some k → σ' k = (0, 4)) := by
  refine (recv_any wr P.B P.vq P.vs P.p I.pl.q c).mono ?_
  rintro e w' ⟨he, vq', h1, h2, h3, h4, h5⟩
  obtain ⟨hp, hs⟩ := I.pl.qmove h1 h2 (fun k hk => by
    rcases hk with e | e | e
    · exact .inl (.inl e)
    · exact .inl (.inr (.inl (by rw [← h3]; exact e)))
    · exact .inl (.inr (.inr e))) (fun k hk => .inl (rws_recv hk))
  have I2 := I.next hp hs
  have hg : ∀ k, (P.p.gM c).v.ownBlock = some k → k ∈ rws (P.p.qd ++ P.p.st) := fun k hk => by
    unfold QS.gM at hk
    split at hk
    · cases hq : P.p.qd with
      | nil => rw [hq] at hk; simp [Mg.no, Value.ownBlock] at hk
      | cons m l => rw [hq] at hk; exact List.mem_filterMap.2 ⟨m, by simp, by simpa using hk⟩
    · simp [Mg.no, Value.ownBlock] at hk
  obtain ⟨I3, _⟩ := I2.relab (P.p.gM c).v (fun k hk => ⟨by
    have h6 := I.pl.lq k (.inr (hg k hk))
    rw [nwl_old (I.pl.q.on_lt (.inr (hg k hk)))]; exact h6, fun e => by
    rcases e with e | e
    · obtain ⟨cs, T, a, b, _⟩ := IsQ.tp h1 e
      exact h4.no a b hk
    · exact h5 k hk e⟩)
  exact ⟨he, _, _, I3, rfl, rfl, h4, fun k hk => lab_same _ _ _ k hk⟩
end
end Go.Proofs.Ytnblhaeojlpmmaa
namespace Go.Proofs.Ytnblhaeojlpmmaa
open Go.ChangeShapes Go.WideShapes Go.ChangeAt Go.RowKit
set_option linter.unusedVariables false
section
variable {W w wr w2 : World} {σ σr σ2 : Nat → Nat × Nat} {K : Nat} {U U2 : Nat → Value} {A : Nat} {cs : Array Value} {b b2 : BS} {P Q P2 Q2 : PT} {g h o r l d : Nat}
/-- Bytes are lent. -/
theorem SI.lends (I : SI W w σ K U A cs wr σr b P Q) (hs : Sz b g h o r l d) (v : Value) (bs : List Int) (hv : Bs wr v bs) (hb : bs.length ≤ 1048576) (hg : g < 999999990) :
    Calls Try.prog 27 #[.pointer (some ⟨K, 8, none⟩), v] wr fun e w' => ∃ x c, e = .returned (.slice (some ⟨x, 0, none⟩) bs.length c) ∧ ∃ σ' b', SI W w σ K U A cs w' σ' b' P Q ∧ Sz b' (g + 1) h o r l d ∧ b'.V 8 = b.V 8 ∧ b'.G = b.G ++ [bs ++ mk8] ∧ b'.X 2 = b.X 2 ++ [.slice (some ⟨x, 0, none⟩) (bs.length + 8) c] ∧ σ' x = (2, b.G.length) ∧ OB w' (.slice (some ⟨x, 0, none⟩) (bs.length + 8) c) (bs ++ mk8) := by
  refine (lends_bk2 I.pl.bk v bs hv (by have := hs.g; omega)).mono ?_
  rintro e w' ⟨x, c, σ', V', X', he, hB, hc, hx, hn, hl, h8, hob, hX2, hX6⟩
  obtain ⟨hp, hsd⟩ := I.pl.bmove0 (b' := ⟨V', X', b.G ++ [bs ++ mk8], b.H, b.O, b.R, b.L, b.D, b.E⟩) hB (hc.mono (fun k _ e => by show (σr k).1 ≠ 0; omega)) (fun k hk _ => hx k hk)
  refine ⟨x, c, he, σ', _, I.next hp hsd, ?_, h8, rfl, hX2, hl, hob⟩
  refine ⟨by have := hs.g; simp; omega, hs.h, hs.o, hs.r, hs.l, hs.d, fun y hy => ?_, hs.h2, hs.o2, hs.r2, hs.l2, hs.d2⟩
  rcases List.mem_append.1 hy with hy | hy
  · exact hs.g2 y hy
  · simp at hy
    rw [hy]
    simp [mk8]
    omega
/-- All is as it was. -/
theorem SI.looks (I : SI W w σ K U A cs wr σr b P Q) (hs : Sz b g h o r l d) (hg : g < 1000000000) (hh : h < 1000000) (ho : o < 1000000) (hr : r < 1000000) (hl : l < 1000000) (hd : d < 1000000) :
    Calls Try.prog 18 #[.pointer (some ⟨K, 8, none⟩)] wr fun e w' => e = .returned (.bool true) ∧ Kp wr w' :=
  looks_any wr σr K U b.V b.X b.G b.H b.O b.R b.L b.D b.E I.pl.bk (hs.bd hg hh ho hr hl hd)
/-- What was lent is written over. -/
theorem SI.turns (I : SI W w σ K U A cs wr σr b P Q) (hs : Sz b g h o r l d) (hg : g < 1000000000) (hl : l < 1000000) :
    Calls Try.prog 29 #[.pointer (some ⟨K, 8, none⟩)] wr fun e w' => e = .returned (.tuple #[]) ∧ ∃ b', SI W w σ K U A cs w' σr b' P Q ∧ Sz b' g h o r l d ∧ b'.V = b.V ∧ b'.G = b.G.map fB ∧ b'.L = b.L.map fM ∧ b'.X 2 = b.X 2 ∧ b'.X 6 = b.X 6 ∧ Chg wr w' (TuS σr) := by
  refine (turns_any wr σr K U b.V b.X b.G b.H b.O b.R b.L b.D b.E I.pl.bk (by have := hs.g; omega) (fun x hx => by have := hs.g2 x hx; omega) (by have := hs.l; omega) (fun x hx => by have := hs.l2 x hx; omega)).mono ?_
  rintro e w' ⟨he, hB, hc⟩
  obtain ⟨hp, hsd⟩ := I.pl.bmove0 (b' := ⟨b.V, upd b.X 3 (stL (b.G.map fB)), b.G.map fB, b.H, b.O, b.R, b.L.map fM, b.D, b.E⟩) hB (hc.mono (fun k _ e => by
    show (σr k).1 ≠ 0
    rcases e with e | e | e | e
    · rw [e]; simp
    · omega
    · omega
    · omega)) (fun k hk _ => rfl)
  refine ⟨he, _, I.next hp hsd, ⟨by have := hs.g; simpa using this, hs.h, hs.o, hs.r, by have := hs.l; simpa using this, hs.d, fun y hy => ?_, hs.h2, hs.o2, hs.r2, fun y hy => ?_, hs.d2⟩, rfl, rfl, rfl, upd_other b.X (stL (b.G.map fB)) (i := 3) (j := 2) (by omega), upd_other b.X (stL (b.G.map fB)) (i := 3) (j := 6) (by omega), hc⟩
  · obtain ⟨z, hz, rfl⟩ := List.mem_map.1 hy
    have := hs.g2 z hz
    simpa [fB] using this
  · obtain ⟨z, hz, rfl⟩ := List.mem_map.1 hy
    have := hs.l2 z hz
    simpa [fM] using this
/-- What was received is put into the book. -/
theorem SI.owns (I : SI W w σ K U A cs wr σr b P Q) (hs : Sz b g h o r l d) (st : Bool) (h8 : b.V 8 = .bool st) (v : Value) (bs : List Int) (hv : OB wr v bs) (hbl : bs.length ≤ 1000) (hlb : ∀ k, v.ownBlock = some k → σr k = (0, 4)) (ho : o < 999990) (hh : h < 999990) :
    Calls Try.prog 31 #[.pointer (some ⟨K, 8, none⟩), v] wr fun e w' => e = .returned (.tuple #[]) ∧ ∃ σ' b', SI W w σ K U A cs w' σ' b' P Q ∧ Sz b' g (h + 1) (o + 2) r l d ∧ b'.V 8 = .bool st := by
  refine (owns_bk I.pl.bk st h8 v bs hv hbl (fun k hk => by rw [hlb k hk]) (by have := hs.o; omega) (by have := hs.h; omega)).mono ?_
  rintro e w' ⟨he, σ', V', X', O', H', hB, hc, hx, h8', hO, hH, hO2, hH2, hst⟩
  have hc2 : Chg wr w' (fun k => (σr k).1 ≠ 0 ∨ v.ownBlock = some k) := hc.mono (fun k _ e => by rcases e with e | e; exact .inl (by omega); exact .inr e)
  have nA : v.ownBlock ≠ some A := fun e => by have := hlb A e; rw [I.la] at this; simp at this
  have hp : Pl W w' σ' K U ⟨V', X', b.G, H', O', b.R, b.L, b.D, b.E⟩ P Q := I.pl.bmove (S := fun k => v.ownBlock = some k) hB hc2 (fun k hk => ⟨by rw [hlb k hk]; simp, by
    by_cases hlt : k < W.heap.size
    · have := I.pl.sW k hlt; rw [hlb k hk] at this; simp at this
    · omega⟩) (fun k hk _ hn => hx k hk hn)
  refine ⟨he, σ', _, ⟨hp, I.sd.book hc2 (fun k hk => .inr (by rw [hlb k hk]; simp)) (fun k hk _ hn => hx k hk hn), hc.heap I.bx (fun e => ?_), ?_, I.hA, I.hW⟩, ⟨hs.g, by have := hs.h; show H'.length ≤ _; omega, by have := hs.o; show O'.length ≤ _; omega, hs.r, hs.l, hs.d, hs.g2, fun x hx => ?_, fun e he => ?_, hs.r2, hs.l2, hs.d2⟩, h8'.trans h8⟩
  · rcases e with e | e
    · rw [I.la] at e; simp at e
    · exact nA e
  · rw [hx A (hp_lt I.bx) nA]; exact I.la
  · rcases hH2 x hx with e | e
    · exact hs.h2 x e
    · rw [e]; exact hbl
  · rcases hO2 e he with e' | e'
    · exact hs.o2 e e'
    · exact e'
/-- A lent list, as it reads now. -/
theorem SI.lentAt (I : SI W w σ K U A cs wr σr b P Q) {i x n c : Nat} {l : List Int} (hx : (b.X 2)[i]? = some (.slice (some ⟨x, 0, none⟩) n c)) (hl : b.G[i]? = some l) : OB wr (.slice (some ⟨x, 0, none⟩) n c) l :=
  (I.pl.bk.g.rw i _ (eB i l) hx (by rw [List.getElem?_mapIdx, hl]; rfl)).1
theorem SI.lentRow (I : SI W w σ K U A cs wr σr b P Q) {i x n c : Nat} {l : List Mg} (hx : (b.X 6)[i]? = some (.slice (some ⟨x, 0, none⟩) n c)) (hl : b.L[i]? = some l) : OM wr (.slice (some ⟨x, 0, none⟩) n c) l ∧ σr x = (6, i) := by
  obtain ⟨h1, h2⟩ := I.pl.bk.l.rw i _ (eM i l) hx (by rw [List.getElem?_mapIdx, hl]; rfl)
  exact ⟨h1, h2 x rfl⟩
end
theorem msB_sm {sz : Int} {a c : List Mg} (h : Sm a c) : msB sz c = msB sz a := by
  have e : ∀ l : List Mg, msB sz l = (l.map fun m => (m.bs, m.tk)).all (fun p => decide ((p.1.length : Int) ≤ sz) && decide (p.1.length % 4 = 0)) := fun l => by simp [msB, List.all_map, Function.comp_def]
  rw [e c, e a, h]
theorem ldB_sm {d : QD} {x y : SV} (h1 : y.ac = x.ac) (h2 : y.rc = x.rc) (h3 : y.q = x.q) (h4 : y.t = x.t) (h5 : y.lo = x.lo) (h6 : Sm x.lq y.lq) (h7 : Sm x.ls y.ls) : ldB d y = ldB d x := by
  unfold ldB addB
  rw [msB_sm h6, msB_sm h7, h6.len, h7.len, h1, h2, h3, h4, h5]
section
variable {W w wr w2 : World} {σ σr σ2 : Nat → Nat × Nat} {K : Nat} {U U2 : Nat → Value} {A : Nat} {cs : Array Value} {b b2 : BS} {P Q P2 Q2 : PT} {g h o r l d : Nat}
/-- A state is loaded, or refused. -/
theorem SI.load (I : SI W w σ K U A cs wr σr b P Q) (x : SV) (hx : x.rd wr) (hoff : x.off P.B) :
    Calls Try.prog 33 #[.pointer (some ⟨P.B, 0, none⟩), .agg #[.int .i64 x.ac, .int .i64 x.rc, .int .i64 x.q, .int .i64 x.t, .int .i64 x.lo, x.vq, x.vs]] wr fun e w' => e = .returned (.int .i64 (ldE P.p.d x)) ∧ ∃ σ' P', SI W w σ K U A cs w' σ' b P' Q ∧ P'.B = P.B ∧ (∀ k, k < wr.heap.size → σ' k = σr k) ∧ Chg wr w' (fun k => k = P.B) ∧ (ldB P.p.d x = false ∧ P'.p = P.p ∨ ldB P.p.d x = true ∧ ∃ lq ls, P'.p = ⟨P.p.d, x.ac, x.rc, x.lo, lq, ls⟩ ∧ Sm x.lq lq ∧ Sm x.ls ls) := by
  cases hL : ldB P.p.d x with
  | false =>
    refine (load_no wr P.B P.vq P.vs P.p I.pl.q x hx hL).mono ?_
    rintro e w' ⟨he, hk⟩
    exact ⟨by rw [he]; unfold ldE; rw [hL]; rfl, _, P, I.kp hk, rfl, fun _ _ => rfl, hk.any, .inl ⟨rfl, rfl⟩⟩
  | true =>
    refine (load_ok wr P.B P.vq P.vs P.p I.pl.q x hx hL hoff).mono ?_
    rintro e w' ⟨he, vq', vs', lq, ls, h1, h2, h3, h4, h5, h6, h7⟩
    obtain ⟨hp, hs⟩ := I.pl.qmove h1 (h4.mono (fun k _ e => .inl e)) (fun k hk => by
      rcases hk with e | e | e
      · exact .inl (.inl e)
      · exact .inr (h5 k e)
      · exact .inr (h6 k e)) (fun k hk => .inr (h7 k hk))
    exact ⟨by rw [he]; unfold ldE; rw [if_pos hL], _, _, I.next hp hs, rfl, fun k hk => nwl_old hk, h4, .inr ⟨rfl, lq, ls, rfl, h2, h3⟩⟩
theorem SI.rload (I : SI W w σ K U A cs wr σr b P Q) (x : SV) (hx : x.rd wr) :
    Calls Try.prog 36 #[.pointer (some ⟨Q.B, 0, none⟩), .agg #[.int .i64 x.ac, .int .i64 x.rc, .int .i64 x.q, .int .i64 x.t, .int .i64 x.lo, x.vq, x.vs]] wr fun e w' => e = .returned (.int .i64 (ldE Q.p.d x)) ∧ ∃ σ' Q', SI W w σ K U A cs w' σ' b P Q' ∧ Q'.B = Q.B ∧ (∀ k, k < wr.heap.size → σ' k = σr k) ∧ Chg wr w' (fun k => k = Q.B) ∧ (ldB Q.p.d x = false ∧ Q'.p = Q.p ∨ ldB Q.p.d x = true ∧ ∃ lq ls, Q'.p = ⟨Q.p.d, x.ac, x.rc, x.lo, lq, ls⟩ ∧ Sm x.lq lq ∧ Sm x.ls ls) := by
  cases hL : ldB Q.p.d x with
  | false =>
    refine (rload_no wr Q.B Q.vq Q.vs Q.p I.pl.f x hx hL).mono ?_
    rintro e w' ⟨he, hk⟩
    exact ⟨by rw [he]; unfold ldE; rw [hL]; rfl, _, Q, I.kp hk, rfl, fun _ _ => rfl, hk.any, .inl ⟨rfl, rfl⟩⟩
  | true =>
    refine (rload_ok wr Q.B Q.vq Q.vs Q.p I.pl.f x hx hL).mono ?_
    rintro e w' ⟨he, vq', vs', lq, ls, h1, h2, h3, h4, h5, h6, h7⟩
    obtain ⟨hp, hs⟩ := I.pl.fmove h1 (h4.mono (fun k _ e => .inl e)) (fun k hk => by
      rcases hk with e | e | e
      · exact .inl (.inl e)
      · exact .inr (h5 k e)
      · exact .inr (h6 k e)) (fun k hk => .inr (h7 k hk))
    exact ⟨by rw [he]; unfold ldE; rw [if_pos hL], _, _, I.next hp hs, rfl, fun k hk => nwl_old hk, h4, .inr ⟨rfl, lq, ls, rfl, h2, h3⟩⟩
/-- Both loaded with the same: they have the same. -/
theorem qe_load {s s' r r' : QS} {x y : SV} (he : QE s r) (h1 : y.ac = x.ac) (h2 : y.rc = x.rc) (h3 : y.q = x.q) (h4 : y.t = x.t) (h5 : y.lo = x.lo) (h6 : Sm x.lq y.lq) (h7 : Sm x.ls y.ls)
    (hp : ldB s.d x = false ∧ s' = s ∨ ldB s.d x = true ∧ ∃ lq ls, s' = ⟨s.d, x.ac, x.rc, x.lo, lq, ls⟩ ∧ Sm x.lq lq ∧ Sm x.ls ls)
    (hr : ldB r.d y = false ∧ r' = r ∨ ldB r.d y = true ∧ ∃ lq ls, r' = ⟨r.d, y.ac, y.rc, y.lo, lq, ls⟩ ∧ Sm y.lq lq ∧ Sm y.ls ls) : QE s' r' ∧ ldE r.d y = ldE s.d x ∧ s'.d = s.d := by
  have e : ldB r.d y = ldB s.d x := by rw [he.d]; exact ldB_sm h1 h2 h3 h4 h5 h6 h7
  have ee : ldE r.d y = ldE s.d x := by unfold ldE; rw [e]
  rcases hp with ⟨a, rfl⟩ | ⟨a, lq, ls, rfl, a1, a2⟩
  · rcases hr with ⟨_, rfl⟩ | ⟨b', _⟩
    · exact ⟨he, ee, rfl⟩
    · rw [e, a] at b'; simp at b'
  · rcases hr with ⟨b', _⟩ | ⟨_, lq', ls', rfl, b1, b2⟩
    · rw [e, a] at b'; simp at b'
    · exact ⟨⟨he.d, h1, h2, h5, a1.symm.trans (h6.trans b1), a2.symm.trans (h7.trans b2)⟩, ee, rfl⟩
end
end Go.Proofs.Ytnblhaeojlpmmaa
