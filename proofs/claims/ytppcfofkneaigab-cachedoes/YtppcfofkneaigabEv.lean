import Derived.Test.YtppcfofkneaigabEu
namespace Go.Proofs.Ytppcfofkneaigab
open Go.ChangeShapes Go.WideShapes Go.ChangeAt Go.RowKit
set_option linter.unusedVariables false
/-- Where a pair lies, and its shape. -/
structure Pq where
  P : Nat
  C : Nat
  R : Nat
  sets : Nat
  ways : Nat
  line : Nat
def PX (w : World) (x : Pq) (st : Nat → List Ln) (v : Value) (now : Nat) : Prop := PSt w x.P x.C x.R x.sets x.ways x.line st v now
def fq (x : Pq) (v : Value) (k : Nat) : Prop := fp x.P x.C x.R v k
/-- Two pairs, each its own blocks, or one pair twice. -/
structure TwoI (w : World) (b : Nat) (x y : Pq) (N : Nat) (Q : (Nat → List Ln) → Prop) : Prop where
  ex : ∃ sx vx nx sy vy ny, PX w x sx vx nx ∧ PX w y sy vy ny ∧ nx ≤ N ∧ ny ≤ N ∧ ((x = y ∧ vx = vy) ∨ ∀ k, fq x vx k → ¬ fq y vy k) ∧ (∀ k, fq x vx k → b ≤ k) ∧ (∀ k, fq y vy k → b ≤ k) ∧ Q sy
def Any : (Nat → List Ln) → Prop := fun _ => True
theorem TwoI.keptF {w w' : World} {b : Nat} {x y : Pq} {N : Nat} {Q : (Nat → List Ln) → Prop} (h : TwoI w b x y N Q) (hc : Chg w w' (fun _ => False)) : TwoI w' b x y N Q := by
  obtain ⟨sx, vx, nx, sy, vy, ny, h1, h2, r⟩ := h.ex
  exact ⟨sx, vx, nx, sy, vy, ny, h1.keptF hc, h2.keptF hc, r⟩
theorem TwoI.keptB {w w' : World} {b m : Nat} {x y : Pq} {N : Nat} {Q : (Nat → List Ln) → Prop} (h : TwoI w b x y N Q) (hc : Chg w w' (Bty m w)) : TwoI w' b x y N Q := by
  obtain ⟨sx, vx, nx, sy, vy, ny, h1, h2, r⟩ := h.ex
  exact ⟨sx, vx, nx, sy, vy, ny, h1.keptN hc (fun k hk => h1.nb hk), h2.keptN hc (fun k hk => h2.nb hk), r⟩
theorem TwoI.swap {w : World} {b : Nat} {x y : Pq} {N : Nat} {Q : (Nat → List Ln) → Prop} (h : TwoI w b x y N Q) : TwoI w b y x N Any := by
  obtain ⟨sx, vx, nx, sy, vy, ny, h1, h2, h3, h4, h5, h6, h7, _⟩ := h.ex
  exact ⟨sy, vy, ny, sx, vx, nx, h2, h1, h4, h3, h5.imp (fun e => ⟨e.1.symm, e.2.symm⟩) (fun e k hk hx => e k hx hk), h7, h6, trivial⟩
theorem TwoI.mono {w : World} {b : Nat} {x y : Pq} {N N' : Nat} {Q Q' : (Nat → List Ln) → Prop} (h : TwoI w b x y N Q) (hN : N ≤ N') (hQ : ∀ s, Q s → Q' s) : TwoI w b x y N' Q' := by
  obtain ⟨sx, vx, nx, sy, vy, ny, h1, h2, h3, h4, h5, h6, h7, h8⟩ := h.ex
  exact ⟨sx, vx, nx, sy, vy, ny, h1, h2, Nat.le_trans h3 hN, Nat.le_trans h4 hN, h5, h6, h7, hQ _ h8⟩
/-- All that the law knows: the Book, and two pairs. -/
structure LawI (w : World) (b K : Nat) (x y : Pq) (i : Nat) (Q : (Nat → List Ln) → Prop) : Prop where
  ex : ∃ e hv wv lv mv H T, BkI w K e hv wv lv mv H T ∧ b ≤ e ∧ ((∀ k, hv.ownBlock = some k → b ≤ k) ∧ (∀ k, wv.ownBlock = some k → b ≤ k) ∧ (∀ k, lv.ownBlock = some k → b ≤ k) ∧ (∀ k, mv.ownBlock = some k → b ≤ k)) ∧ T.length + 3 * H.length ≤ 6 * i
  bK : b ≤ K
  two : TwoI w b x y (17592186043904 + i) Q
theorem LawI.lt {w : World} {b K : Nat} {x y : Pq} {i : Nat} {Q : (Nat → List Ln) → Prop} (h : LawI w b K x y i Q) : b ≤ w.heap.size := by
  obtain ⟨e, hv, wv, lv, mv, H, T, hk, _⟩ := h.ex
  have := (Array.getElem?_eq_some_iff.1 hk.at_).1
  have := h.bK
  omega
theorem LawI.keptF {w w' : World} {b K : Nat} {x y : Pq} {i : Nat} {Q : (Nat → List Ln) → Prop} (h : LawI w b K x y i Q) (hc : Chg w w' (fun _ => False)) : LawI w' b K x y i Q := by
  obtain ⟨e, hv, wv, lv, mv, H, T, hk, r⟩ := h.ex
  exact ⟨⟨e, hv, wv, lv, mv, H, T, hk.keptF hc, r⟩, h.bK, h.two.keptF hc⟩
theorem LawI.swap {w : World} {b K : Nat} {x y : Pq} {i : Nat} {Q : (Nat → List Ln) → Prop} (h : LawI w b K x y i Q) : LawI w b K y x i Any := ⟨h.ex, h.bK, h.two.swap⟩
theorem LawI.mono {w : World} {b K : Nat} {x y : Pq} {i j : Nat} {Q Q' : (Nat → List Ln) → Prop} (h : LawI w b K x y i Q) (hj : i ≤ j) (hQ : ∀ s, Q s → Q' s) : LawI w b K x y j Q' := by
  obtain ⟨e, hv, wv, lv, mv, H, T, hk, h1, h2, h3⟩ := h.ex
  exact ⟨⟨e, hv, wv, lv, mv, H, T, hk, h1, h2, by omega⟩, h.bK, h.two.mono (by omega) hQ⟩
theorem law_looks (w : World) (b K : Nat) (x y : Pq) (i : Nat) (Q : (Nat → List Ln) → Prop) (h : LawI w b K x y i Q) (hi : i ≤ 1000) : Calls Try.prog 7 #[.pointer (some ⟨K, 0, none⟩)] w fun r w' => r = .returned (.bool true) ∧ Chg w w' (fun _ => False) := by
  obtain ⟨e, hv, wv, lv, mv, H, T, hk, h1, h2, h3⟩ := h.ex
  exact looks_any w K hv wv lv mv H T (hk.rd (by omega) (by omega))
theorem law_untouched (w : World) (b K : Nat) (x y : Pq) (i : Nat) (Q : (Nat → List Ln) → Prop) (h : LawI w b K x y i Q) (hi : i ≤ 1000) : Calls Try.prog 8 #[.pointer (some ⟨K, 0, none⟩)] w fun r w' => r = .returned (.bool true) ∧ Chg w w' (fun _ => False) := by
  obtain ⟨e, hv, wv, lv, mv, H, T, hk, h1, h2, h3⟩ := h.ex
  exact untouched_any w K hv wv lv mv H T (hk.rd (by omega) (by omega))
theorem law_settle (w : World) (b K : Nat) (x y : Pq) (i : Nat) (Q : (Nat → List Ln) → Prop) (h : LawI w b K x y i Q) (hi : i ≤ 1000) : Calls Try.prog 9 #[.pointer (some ⟨K, 0, none⟩)] w fun r w' => r = .returned (.bool true) ∧ LawI w' b K x y i Q ∧ Chg w w' (fun k => b ≤ k) := by
  obtain ⟨e, hv, wv, lv, mv, H, T, hk, h1, h2, h3⟩ := h.ex
  refine (settle_any w b K e h.bK h1 hv wv lv mv h2.2.2.1 h2.2.2.2 H T hk (by omega) (by omega)).mono ?_
  rintro r w' ⟨rfl, lv', mv', T', hk', hT', hc, n1, n2⟩
  refine ⟨rfl, ⟨⟨_, _, _, lv', mv', [], T', hk', Nat.le_trans h.lt hc.size, ⟨fun k hk => (by cases hk), fun k hk => (by cases hk), n1, n2⟩, by simp; omega⟩, h.bK, h.two.keptB hc⟩, hc.mono (fun k _ hb => hb.1)⟩
theorem law_lines (w : World) (b K : Nat) (x y : Pq) (i : Nat) (Q : (Nat → List Ln) → Prop) (h : LawI w b K x y i Q) (hi : i ≤ 1000) : Calls Try.prog 10 #[.pointer (some ⟨y.P, 0, none⟩), .pointer (some ⟨K, 0, none⟩)] w fun r w' => r = .returned (.bool true) ∧ LawI w' b K x y (i + 1) Q ∧ Chg w w' (fun k => b ≤ k) := by
  obtain ⟨e, hv, wv, lv, mv, H, T, hk, h1, h2, h3⟩ := h.ex
  obtain ⟨sx, vx, nx, sy, vy, ny, p1, p2, q3, q4, q5, q6, q7, q8⟩ := h.two.ex
  obtain ⟨L, su, hP, hR, hBd, hLl⟩ := p2.ex
  refine (plines_any w y.P y.C y.R K e y.sets y.ways y.line sy vy L ny su hv wv lv mv H T hP hk hR hLl (by omega) (by omega) (lines_bd hP.c.sh hBd hP.c.good)).mono ?_
  rintro r w' ⟨rfl, hv', wv', a1, a2, a3, hB, hC, n1, n2⟩
  have CT : Chg w w' (Bty b w) := hC.mono (fun k _ hh => by
    rcases hh with hh | hh | hh
    · subst hh; exact ⟨h.bK, _, 29, hk.at_, .inl rfl⟩
    · exact own_bty hk.h (.inr (.inl rfl)) h2.1 hh
    · exact own_bty hk.m (.inr (.inl rfl)) h2.2.1 hh)
  have hlt := h.lt
  refine ⟨rfl, ⟨⟨e, hv', wv', lv, mv, _, T, hB, h1, ⟨fun k hk => (n1 k hk).elim (h2.1 k) (fun q => Nat.le_trans hlt q), fun k hk => (n2 k hk).elim (h2.2.1 k) (fun q => Nat.le_trans hlt q), h2.2.2.1, h2.2.2.2⟩, by simp; omega⟩, h.bK, (h.two.keptB CT).mono (by omega) (fun _ h => h)⟩, CT.mono (fun k _ hb => hb.1)⟩
theorem law_step (w : World) (b K : Nat) (x y : Pq) (i : Nat) (Q : (Nat → List Ln) → Prop) (h : LawI w b K x y i Q) (hi : i ≤ 1000) (kd : Int) (a : Nat) (ha : a < 4294967296) (wr : Bool) (la : Option Addr) (lc : Nat) (l : List (Nat × Ln)) (hU : LsIn w la l) (hl : l.length ≤ 11728124029610) (hN : ∀ z, la = some z → l ≠ [] → z.block < b) :
    Calls Try.prog 5 #[.pointer (some ⟨y.P, 0, none⟩), .pointer (some ⟨K, 0, none⟩), .agg #[.int .i64 kd, .int .u32 (a : Nat), .bool wr, .slice la l.length lc]] w fun r w' => r = .returned (.bool true) ∧ LawI w' b K x y (i + 1) (fun s' => ∃ s, Q s ∧ stQ y.sets y.ways y.line s kd a wr s') ∧ Chg w w' (fun k => b ≤ k) := by
  obtain ⟨e, hv, wv, lv, mv, H, T, hk, h1, h2, h3⟩ := h.ex
  obtain ⟨sx, vx, nx, sy, vy, ny, p1, p2, q3, q4, q5, q6, q7, q8⟩ := h.two.ex
  have hlt := h.lt
  refine (step_any w y.P y.C y.R y.sets y.ways y.line sy vy ny b K e h.bK hv wv lv mv h2.1 h2.2.1 hlt H T p2 hk (by omega) (by omega) kd a ha wr la lc l hU hl (fun z hz hne hf => by have := hN z hz hne; have := q7 _ hf; omega)).mono ?_
  rintro r w' ⟨rfl, hs⟩
  obtain ⟨st', v', now', hv', wv', H', g1, g0, g2, g3, g4, g5, g6, g7⟩ := hs.ex
  have hnew : ∀ k, fq y v' k → fq y vy k ∨ w.heap.size ≤ k := fun k hk => by
    rcases hk with hk | hk | hk | hk
    · exact .inl (.inl hk)
    · exact .inl (.inr (.inl hk))
    · exact .inl (.inr (.inr (.inl hk)))
    · rcases g3 with e | e
      · left; right; right; right; rw [← e]; exact hk
      · right; exact e k hk
  have hb' : ∀ k, fq y v' k → b ≤ k := fun k hk => (hnew k hk).elim (q7 k) (fun e => Nat.le_trans hlt e)
  refine ⟨rfl, ⟨⟨e, hv', wv', lv, mv, H', T, g4, h1, ⟨g6, g7, h2.2.2.1, h2.2.2.2⟩, by omega⟩, h.bK, ?_⟩, hs.chg.mono (fun k _ hh => hh.elim (q7 k) (fun e => e.1))⟩
  have hnow : now' ≤ 17592186043904 + (i + 1) := by omega
  rcases q5 with ⟨rfl, rfl⟩ | hap
  · exact ⟨st', v', now', st', v', now', g1, g1, hnow, hnow, .inl ⟨rfl, rfl⟩, hb', hb', sy, q8, g0⟩
  · refine ⟨sx, vx, nx, st', v', now', p1.keptN hs.chg (fun k hk hh => hh.elim (fun hh => hap k hk hh) (fun hh => p1.nb hk hh)), g1, by omega, hnow, .inr (fun k hk hh => ?_), q6, hb', sy, q8, g0⟩
    rcases hnew k hh with e | e
    · exact hap k hk e
    · have := (p1.ty hk).1; omega
end Go.Proofs.Ytppcfofkneaigab
