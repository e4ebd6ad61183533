import Derived.Test.YtnblhaeojlpmmaaSh
namespace Go.Proofs.Ytnblhaeojlpmmaa
open Go.ChangeShapes Go.WideShapes Go.ChangeAt Go.RowKit
set_option linter.unusedVariables false
/-- A list of bytes, and a row of messages, as one of the book's lists. -/
def eB (o : Nat) (l : List Int) : En := ⟨o, l.length, l.map fun i => .int .u8 i⟩
def eM (o : Nat) (l : List Mg) : En := ⟨o, l.length, mcs l⟩
/-- The whole book: G what was lent, O what came out and was written (number, length, mark), H what lies untouched, R rows that came out and were written (number, length, tick), L rows that were lent, D rows that lie untouched, E what these were. -/
structure Bk (w : World) (σ : Nat → Nat × Nat) (K : Nat) (U V : Nat → Value) (X : Nat → List Value) (G : List (List Int)) (O : List (Nat × Nat × Int)) (H : List (List Int)) (R : List (Nat × Nat × Int)) (L D E : List (List Mg)) : Prop where
  m : BkM w σ K U V X
  g : Ent w σ 5 1 2 (X 2) (G.mapIdx eB)
  gs : X 3 = G.map (fun l => .string (strOf l))
  o : Ent w σ 5 1 3 (X 0) (O.map fun e => eB e.1 (List.replicate e.2.1 e.2.2))
  os : X 1 = O.map (fun e => .int .u8 e.2.2)
  h : Ent w σ 5 1 4 (X 9) (H.mapIdx eB)
  hs : X 10 = H.map (fun l => .string (strOf l))
  r : Ent w σ 75 2 5 (X 4) (R.map fun e => eM e.1 (List.replicate e.2.1 ⟨.slice none 0 0, [], e.2.2⟩))
  rs : X 5 = R.map (fun e => .int .u64 e.2.2)
  l : Ent w σ 75 2 6 (X 6) (L.mapIdx eM)
  lw : Ent w σ 75 2 7 (X 7) (L.mapIdx eM)
  lv : ∀ l ∈ L, ∀ m ∈ l, ∃ a n c, m.v = .slice a n c
  d : Ent w σ 75 2 8 (X 11) (D.mapIdx eM)
  db : ∀ l ∈ D, ∀ m ∈ l, OB w m.v m.bs ∧ ∃ j, Lb σ m.v (4, j)
  e : Ent w σ 75 2 9 (X 12) (E.mapIdx eM)
  eb : ∀ l ∈ E, ∀ m ∈ l, OB w m.v m.bs ∧ Lb σ m.v (10, 0)
  de : D.map (fun l => l.map fun m => (m.bs, m.tk)) = E.map (fun l => l.map fun m => (m.bs, m.tk))
section
variable {w w' : World} {σ σ' : Nat → Nat × Nat} {K : Nat} {U V : Nat → Value} {X : Nat → List Value} {G H : List (List Int)} {O R : List (Nat × Nat × Int)} {L D E : List (List Mg)}
/-- What is not the book's is written, and things of its own are labelled anew. -/
theorem Bk.move {S : Nat → Prop} (h : Bk w σ K U V X G O H R L D E) (hc : Chg w w' S) (hn : ∀ b, S b → (σ b).1 = 0) (hx : Ext w σ σ') (hz : Fz w' σ') : Bk w' σ' K U V X G O H R L D E := by
  have n : ∀ c, c ≠ 0 → ∀ b, S b → (σ b).1 ≠ c := fun c h0 b hb e => h0 (by rw [← e, hn b hb])
  refine ⟨h.m.move hc (n 1 (by omega)) hx hz, h.g.move hc (n 2 (by omega)) hx, h.gs, h.o.move hc (n 3 (by omega)) hx, h.os, h.h.move hc (n 4 (by omega)) hx, h.hs, h.r.move hc (n 5 (by omega)) hx, h.rs, h.l.move hc (n 6 (by omega)) hx, h.lw.move hc (n 7 (by omega)) hx, h.lv, h.d.move hc (n 8 (by omega)) hx, fun l hl m hm => ?_, h.e.move hc (n 9 (by omega)) hx, fun l hl m hm => ?_, h.de⟩
  · obtain ⟨h1, j, h2⟩ := h.db l hl m hm
    exact ⟨hc.owns h1 (fun b hb hS => n 4 (by omega) b hS (by rw [h2 b hb])), j, fun b hb => by rw [hx b (h1.lt hb)]; exact h2 b hb⟩
  · obtain ⟨h1, h2⟩ := h.eb l hl m hm
    exact ⟨hc.owns h1 (fun b hb hS => n 10 (by omega) b hS (by rw [h2 b hb])), fun b hb => by rw [hx b (h1.lt hb)]; exact h2 b hb⟩
theorem Bk.chg {S : Nat → Prop} (h : Bk w σ K U V X G O H R L D E) (hc : Chg w w' S) (hn : ∀ b, S b → (σ b).1 = 0) : Bk w' σ K U V X G O H R L D E := h.move hc hn (Ext.refl _ _) (h.m.fz.chg hc)
theorem Bk.kp (h : Bk w σ K U V X G O H R L D E) (hc : Kp w w') : Bk w' σ K U V X G O H R L D E := h.chg hc (fun _ x => x.elim)
end
/-- The book without what lies untouched. -/
structure BkC (w : World) (σ : Nat → Nat × Nat) (K : Nat) (U V : Nat → Value) (X : Nat → List Value) (G : List (List Int)) (O : List (Nat × Nat × Int)) (R : List (Nat × Nat × Int)) (L : List (List Mg)) : Prop where
  m : BkM w σ K U V X
  g : Ent w σ 5 1 2 (X 2) (G.mapIdx eB)
  gs : X 3 = G.map (fun l => .string (strOf l))
  o : Ent w σ 5 1 3 (X 0) (O.map fun e => eB e.1 (List.replicate e.2.1 e.2.2))
  os : X 1 = O.map (fun e => .int .u8 e.2.2)
  r : Ent w σ 75 2 5 (X 4) (R.map fun e => eM e.1 (List.replicate e.2.1 ⟨.slice none 0 0, [], e.2.2⟩))
  rs : X 5 = R.map (fun e => .int .u64 e.2.2)
  l : Ent w σ 75 2 6 (X 6) (L.mapIdx eM)
  lw : Ent w σ 75 2 7 (X 7) (L.mapIdx eM)
  lv : ∀ l ∈ L, ∀ m ∈ l, ∃ a n c, m.v = .slice a n c
section
variable {w w' : World} {σ σ' : Nat → Nat × Nat} {K : Nat} {U V : Nat → Value} {X : Nat → List Value} {G H : List (List Int)} {O R : List (Nat × Nat × Int)} {L D E : List (List Mg)}
theorem Bk.c (h : Bk w σ K U V X G O H R L D E) : BkC w σ K U V X G O R L := ⟨h.m, h.g, h.gs, h.o, h.os, h.r, h.rs, h.l, h.lw, h.lv⟩
theorem BkC.kp (h : BkC w σ K U V X G O R L) (hc : Kp w w') : BkC w' σ K U V X G O R L := ⟨h.m.kp hc, h.g.kp hc, h.gs, h.o.kp hc, h.os, h.r.kp hc, h.rs, h.l.kp hc, h.lw.kp hc, h.lv⟩
end
theorem mapIdx_snoc {α β : Type} (f : Nat → α → β) (l : List α) (x : α) : (l ++ [x]).mapIdx f = l.mapIdx f ++ [f l.length x] := by simp
/-- The book, when bytes were lent. -/
theorem Bk.lends {w w' : World} {σ σ' : Nat → Nat × Nat} {K : Nat} {U V V' : Nat → Value} {X : Nat → List Value} {G H : List (List Int)} {O R : List (Nat × Nat × Int)} {L D E : List (List Mg)} (h : Bk w σ K U V X G O H R L D E) {bs : List Int} {g c : Nat} (hl : Lnd w σ K U V X bs g c w' σ' V') :
    Bk w' σ' K U V' (upd (upd X 2 (X 2 ++ [.slice (some ⟨g, 0, none⟩) (bs.length + 8) c])) 3 (X 3 ++ [.string (strOf (bs ++ mk8))])) (G ++ [bs ++ mk8]) O H R L D E := by
  have n : ∀ c, c ≠ 1 → ∀ b, (σ b).1 = 1 → (σ b).1 ≠ c := fun c h0 b hb e => h0 (by rw [← e, hb])
  have e2 : (X 2).length = G.length := by have := h.g.len; simpa using this
  refine ⟨hl.bk, ?_, ?_, ?_, ?_, ?_, ?_, ?_, ?_, ?_, ?_, h.lv, ?_, fun l hL m hm => ?_, ?_, fun l hL m hm => ?_, h.de⟩
  · rw [upd_other _ _ (by omega), upd_same, mapIdx_snoc]
    refine (h.g.move hl.ch (n 2 (by omega)) hl.ex).snoc ?_ ?_
    · exact hl.ob
    · intro b hb
      simp [Value.ownBlock] at hb
      subst hb
      show σ' g = (2, G.length)
      rw [hl.lb, e2]
  · rw [upd_same, h.gs]; simp
  · rw [upd_other _ _ (by omega), upd_other _ _ (by omega)]; exact h.o.move hl.ch (n 3 (by omega)) hl.ex
  · rw [upd_other _ _ (by omega), upd_other _ _ (by omega)]; exact h.os
  · rw [upd_other _ _ (by omega), upd_other _ _ (by omega)]; exact h.h.move hl.ch (n 4 (by omega)) hl.ex
  · rw [upd_other _ _ (by omega), upd_other _ _ (by omega)]; exact h.hs
  · rw [upd_other _ _ (by omega), upd_other _ _ (by omega)]; exact h.r.move hl.ch (n 5 (by omega)) hl.ex
  · rw [upd_other _ _ (by omega), upd_other _ _ (by omega)]; exact h.rs
  · rw [upd_other _ _ (by omega), upd_other _ _ (by omega)]; exact h.l.move hl.ch (n 6 (by omega)) hl.ex
  · rw [upd_other _ _ (by omega), upd_other _ _ (by omega)]; exact h.lw.move hl.ch (n 7 (by omega)) hl.ex
  · rw [upd_other _ _ (by omega), upd_other _ _ (by omega)]; exact h.d.move hl.ch (n 8 (by omega)) hl.ex
  · obtain ⟨h1, j, h2⟩ := h.db l hL m hm
    exact ⟨hl.ch.owns h1 (fun b hb hS => n 4 (by omega) b hS (by rw [h2 b hb])), j, fun b hb => by rw [hl.ex b (h1.lt hb)]; exact h2 b hb⟩
  · rw [upd_other _ _ (by omega), upd_other _ _ (by omega)]; exact h.e.move hl.ch (n 9 (by omega)) hl.ex
  · obtain ⟨h1, h2⟩ := h.eb l hL m hm
    exact ⟨hl.ch.owns h1 (fun b hb hS => n 10 (by omega) b hS (by rw [h2 b hb])), fun b hb => by rw [hl.ex b (h1.lt hb)]; exact h2 b hb⟩
end Go.Proofs.Ytnblhaeojlpmmaa
namespace Go.Proofs.Ytnblhaeojlpmmaa
open Go.ChangeShapes Go.WideShapes Go.ChangeAt Go.RowKit
set_option linter.unusedVariables false
theorem Ent.moveX {w w' : World} {σ σ' : Nat → Nat × Nat} {T sz c : Nat} {L : List Value} {es : List En} {S : Nat → Prop} (h : Ent w σ T sz c L es) (hc : Chg w w' S) (hn : ∀ b, S b → (σ b).1 ≠ c) (hx : ∀ b, b < w.heap.size → (σ b).1 = c → σ' b = σ b) : Ent w' σ' T sz c L es :=
  ⟨h.len, fun i v e hv he => ⟨hc.owns (h.rw i v e hv he).1 (fun b hb hS => hn b hS (by rw [(h.rw i v e hv he).2 b hb])), fun b hb => by rw [hx b (own_lt (h.rw i v e hv he).1 hb) (by rw [(h.rw i v e hv he).2 b hb])]; exact (h.rw i v e hv he).2 b hb⟩⟩
/-- A list that came out lies untouched. -/
theorem Bk.held {w w' : World} {σ σ' : Nat → Nat × Nat} {K : Nat} {U V V' : Nat → Value} {X : Nat → List Value} {G H : List (List Int)} {O R : List (Nat × Nat × Int)} {L D E : List (List Mg)} (h : Bk w σ K U V X G O H R L D E) {v : Value} {bs : List Int} (hv : ∀ b, v.ownBlock = some b → (σ b).1 = 0) (hl : Hld w σ K U V X v bs w' σ' V') :
    Bk w' σ' K U V' (upd (upd X 9 (X 9 ++ [v])) 10 (X 10 ++ [.string (strOf bs)])) G O (H ++ [bs]) R L D E := by
  have n : ∀ c, c ≠ 1 → ∀ b, (σ b).1 = 1 → (σ b).1 ≠ c := fun c h0 b hb e => h0 (by rw [← e, hb])
  have x : ∀ b, b < w.heap.size → (σ b).1 ≠ 0 → σ' b = σ b := fun b hb e => hl.ex b hb (fun e' => e (hv b e'))
  have e2 : (X 9).length = H.length := by have := h.h.len; simpa using this
  refine ⟨hl.bk, ?_, ?_, ?_, ?_, ?_, ?_, ?_, ?_, ?_, ?_, h.lv, ?_, fun l hL m hm => ?_, ?_, fun l hL m hm => ?_, h.de⟩
  · rw [upd_other _ _ (by omega), upd_other _ _ (by omega)]; exact h.g.moveX hl.ch (n 2 (by omega)) (fun b hb e => x b hb (by omega))
  · rw [upd_other _ _ (by omega), upd_other _ _ (by omega)]; exact h.gs
  · rw [upd_other _ _ (by omega), upd_other _ _ (by omega)]; exact h.o.moveX hl.ch (n 3 (by omega)) (fun b hb e => x b hb (by omega))
  · rw [upd_other _ _ (by omega), upd_other _ _ (by omega)]; exact h.os
  · rw [upd_other _ _ (by omega), upd_same, mapIdx_snoc]
    refine (h.h.moveX hl.ch (n 4 (by omega)) (fun b hb e => x b hb (by omega))).snoc hl.ob ?_
    have := hl.lb
    rw [e2] at this
    exact this
  · rw [upd_same, h.hs]; simp
  · rw [upd_other _ _ (by omega), upd_other _ _ (by omega)]; exact h.r.moveX hl.ch (n 5 (by omega)) (fun b hb e => x b hb (by omega))
  · rw [upd_other _ _ (by omega), upd_other _ _ (by omega)]; exact h.rs
  · rw [upd_other _ _ (by omega), upd_other _ _ (by omega)]; exact h.l.moveX hl.ch (n 6 (by omega)) (fun b hb e => x b hb (by omega))
  · rw [upd_other _ _ (by omega), upd_other _ _ (by omega)]; exact h.lw.moveX hl.ch (n 7 (by omega)) (fun b hb e => x b hb (by omega))
  · rw [upd_other _ _ (by omega), upd_other _ _ (by omega)]; exact h.d.moveX hl.ch (n 8 (by omega)) (fun b hb e => x b hb (by omega))
  · obtain ⟨h1, jj, h2⟩ := h.db l hL m hm
    exact ⟨hl.ch.owns h1 (fun b hb hS => n 4 (by omega) b hS (by rw [h2 b hb])), jj, fun b hb => by rw [x b (h1.lt hb) (by rw [h2 b hb]; simp)]; exact h2 b hb⟩
  · rw [upd_other _ _ (by omega), upd_other _ _ (by omega)]; exact h.e.moveX hl.ch (n 9 (by omega)) (fun b hb e => x b hb (by omega))
  · obtain ⟨h1, h2⟩ := h.eb l hL m hm
    exact ⟨hl.ch.owns h1 (fun b hb hS => n 10 (by omega) b hS (by rw [h2 b hb])), fun b hb => by rw [x b (h1.lt hb) (by rw [h2 b hb]; simp)]; exact h2 b hb⟩
/-- A list that came out was written full, and made longer. -/
theorem Bk.owned {w w' : World} {σ σ' : Nat → Nat × Nat} {K : Nat} {U V V' : Nat → Value} {X : Nat → List Value} {G H : List (List Int)} {O R : List (Nat × Nat × Int)} {L D E : List (List Mg)} (h : Bk w σ K U V X G O H R L D E) {v u : Value} {k : Nat} (hv : ∀ b, v.ownBlock = some b → (σ b).1 = 0) (hl : Owd w σ K U V X v k u w' σ' V') :
    Bk w' σ' K U V' (upd (upd X 0 (X 0 ++ [v, u])) 1 (X 1 ++ [.int .u8 (mkO (X 0).length), .int .u8 (mkO (X 0).length)])) G (O ++ [((X 0).length, k, mkO (X 0).length), ((X 0).length, k + 80, mkO (X 0).length)]) H R L D E := by
  have n : ∀ c, 1 < c → ∀ b, ((σ b).1 = 1 ∨ v.ownBlock = some b) → (σ b).1 ≠ c := fun c h0 b hb e => by
    rcases hb with hb | hb
    · omega
    · have := hv b hb; omega
  have x : ∀ b, b < w.heap.size → (σ b).1 ≠ 0 → σ' b = σ b := fun b hb e => hl.ex b hb (fun e' => e (hv b e'))
  refine ⟨hl.bk, ?_, ?_, ?_, ?_, ?_, ?_, ?_, ?_, ?_, ?_, h.lv, ?_, fun l hL m hm => ?_, ?_, fun l hL m hm => ?_, h.de⟩
  · rw [upd_other _ _ (by omega), upd_other _ _ (by omega)]; exact h.g.moveX hl.ch (n 2 (by omega)) (fun b hb e => x b hb (by omega))
  · rw [upd_other _ _ (by omega), upd_other _ _ (by omega)]; exact h.gs
  · rw [upd_other _ _ (by omega), upd_same]
    have s1 := (h.o.moveX hl.ch (n 3 (by omega)) (fun b hb e => x b hb (by omega))).snoc (e := eB (X 0).length (List.replicate k (mkO (X 0).length))) hl.o1 hl.l1
    have o2 := hl.o2
    rw [List.replicate_append_replicate] at o2
    have s2 := s1.snoc (e := eB (X 0).length (List.replicate (k + 80) (mkO (X 0).length))) o2 hl.l2
    simpa using s2
  · rw [upd_same, h.os]; simp
  · rw [upd_other _ _ (by omega), upd_other _ _ (by omega)]; exact h.h.moveX hl.ch (n 4 (by omega)) (fun b hb e => x b hb (by omega))
  · rw [upd_other _ _ (by omega), upd_other _ _ (by omega)]; exact h.hs
  · rw [upd_other _ _ (by omega), upd_other _ _ (by omega)]; exact h.r.moveX hl.ch (n 5 (by omega)) (fun b hb e => x b hb (by omega))
  · rw [upd_other _ _ (by omega), upd_other _ _ (by omega)]; exact h.rs
  · rw [upd_other _ _ (by omega), upd_other _ _ (by omega)]; exact h.l.moveX hl.ch (n 6 (by omega)) (fun b hb e => x b hb (by omega))
  · rw [upd_other _ _ (by omega), upd_other _ _ (by omega)]; exact h.lw.moveX hl.ch (n 7 (by omega)) (fun b hb e => x b hb (by omega))
  · rw [upd_other _ _ (by omega), upd_other _ _ (by omega)]; exact h.d.moveX hl.ch (n 8 (by omega)) (fun b hb e => x b hb (by omega))
  · obtain ⟨h1, jj, h2⟩ := h.db l hL m hm
    exact ⟨hl.ch.owns h1 (fun b hb hS => n 4 (by omega) b hS (by rw [h2 b hb])), jj, fun b hb => by rw [x b (h1.lt hb) (by rw [h2 b hb]; simp)]; exact h2 b hb⟩
  · rw [upd_other _ _ (by omega), upd_other _ _ (by omega)]; exact h.e.moveX hl.ch (n 9 (by omega)) (fun b hb e => x b hb (by omega))
  · obtain ⟨h1, h2⟩ := h.eb l hL m hm
    exact ⟨hl.ch.owns h1 (fun b hb hS => n 10 (by omega) b hS (by rw [h2 b hb])), fun b hb => by rw [x b (h1.lt hb) (by rw [h2 b hb]; simp)]; exact h2 b hb⟩
end Go.Proofs.Ytnblhaeojlpmmaa
