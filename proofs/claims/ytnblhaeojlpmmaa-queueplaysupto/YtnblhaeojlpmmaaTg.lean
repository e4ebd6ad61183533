import Derived.Test.YtnblhaeojlpmmaaTc
import Derived.Test.YtnblhaeojlpmmaaSy
namespace Go.Proofs.Ytnblhaeojlpmmaa
open Go.ChangeShapes Go.WideShapes Go.ChangeAt Go.RowKit
set_option linter.unusedVariables false
/-- A list that came out was written full, and made longer. -/
theorem BkC.owned {w w' : World} {σ σ' : Nat → Nat × Nat} {K : Nat} {U V V' : Nat → Value} {X : Nat → List Value} {G : List (List Int)} {O R : List (Nat × Nat × Int)} {L : List (List Mg)} (h : BkC w σ K U V X G O R L) {v u : Value} {k : Nat} (hv : ∀ b, v.ownBlock = some b → (σ b).1 = 0) (hl : Owd w σ K U V X v k u w' σ' V') :
    BkC w' σ' K U V' (upd (upd X 0 (X 0 ++ [v, u])) 1 (X 1 ++ [.int .u8 (mkO (X 0).length), .int .u8 (mkO (X 0).length)])) G (O ++ [((X 0).length, k, mkO (X 0).length), ((X 0).length, k + 80, mkO (X 0).length)]) R L := by
  have n : ∀ c, 1 < c → ∀ b, ((σ b).1 = 1 ∨ v.ownBlock = some b) → (σ b).1 ≠ c := fun c h0 b hb e => by
    rcases hb with hb | hb
    · omega
    · have := hv b hb; omega
  have x : ∀ b, b < w.heap.size → (σ b).1 ≠ 0 → σ' b = σ b := fun b hb e => hl.ex b hb (fun e' => e (hv b e'))
  refine ⟨hl.bk, ?_, ?_, ?_, ?_, ?_, ?_, ?_, ?_, h.lv⟩
  · rw [upd_other _ _ (by omega), upd_other _ _ (by omega)]; exact h.g.moveX hl.ch (n 2 (by omega)) (fun b hb e => x b hb (by omega))
  · rw [upd_other _ _ (by omega), upd_other _ _ (by omega)]; exact h.gs
  · rw [upd_other _ _ (by omega), upd_same]
    have s1 := (h.o.moveX hl.ch (n 3 (by omega)) (fun b hb e => x b hb (by omega))).snoc (e := eB (X 0).length (List.replicate k (mkO (X 0).length))) hl.o1 hl.l1
    have o2 := hl.o2
    rw [List.replicate_append_replicate] at o2
    have s2 := s1.snoc (e := eB (X 0).length (List.replicate (k + 80) (mkO (X 0).length))) o2 hl.l2
    simpa using s2
  · rw [upd_same, h.os]; simp
  · rw [upd_other _ _ (by omega), upd_other _ _ (by omega)]; exact h.r.moveX hl.ch (n 5 (by omega)) (fun b hb e => x b hb (by omega))
  · rw [upd_other _ _ (by omega), upd_other _ _ (by omega)]; exact h.rs
  · rw [upd_other _ _ (by omega), upd_other _ _ (by omega)]; exact h.l.moveX hl.ch (n 6 (by omega)) (fun b hb e => x b hb (by omega))
  · rw [upd_other _ _ (by omega), upd_other _ _ (by omega)]; exact h.lw.moveX hl.ch (n 7 (by omega)) (fun b hb e => x b hb (by omega))
/-- A row that came out was written full, and made longer. -/
theorem BkC.rowed {w w' : World} {σ σ' : Nat → Nat × Nat} {K : Nat} {U V V' : Nat → Value} {X : Nat → List Value} {G : List (List Int)} {O R : List (Nat × Nat × Int)} {L : List (List Mg)} (h : BkC w σ K U V X G O R L) {v u : Value} {k : Nat} (hv : ∀ b, v.ownBlock = some b → (σ b).1 = 0) (hl : Rwd w σ K U V X v k u w' σ' V') :
    BkC w' σ' K U V' (upd (upd X 4 (X 4 ++ [v, u])) 5 (X 5 ++ [.int .u64 (tkO (X 4).length), .int .u64 (tkO (X 4).length)])) G O (R ++ [((X 4).length, k, tkO (X 4).length), ((X 4).length, k + 64, tkO (X 4).length)]) L := by
  have n : ∀ c, 1 < c → ∀ b, ((σ b).1 = 1 ∨ v.ownBlock = some b) → (σ b).1 ≠ c := fun c h0 b hb e => by
    rcases hb with hb | hb
    · omega
    · have := hv b hb; omega
  have x : ∀ b, b < w.heap.size → (σ b).1 ≠ 0 → σ' b = σ b := fun b hb e => hl.ex b hb (fun e' => e (hv b e'))
  refine ⟨hl.bk, ?_, ?_, ?_, ?_, ?_, ?_, ?_, ?_, h.lv⟩
  · rw [upd_other _ _ (by omega), upd_other _ _ (by omega)]; exact h.g.moveX hl.ch (n 2 (by omega)) (fun b hb e => x b hb (by omega))
  · rw [upd_other _ _ (by omega), upd_other _ _ (by omega)]; exact h.gs
  · rw [upd_other _ _ (by omega), upd_other _ _ (by omega)]; exact h.o.moveX hl.ch (n 3 (by omega)) (fun b hb e => x b hb (by omega))
  · rw [upd_other _ _ (by omega), upd_other _ _ (by omega)]; exact h.os
  · rw [upd_other _ _ (by omega), upd_same]
    have s1 := (h.r.moveX hl.ch (n 5 (by omega)) (fun b hb e => x b hb (by omega))).snoc (e := eM (X 4).length (List.replicate k (mz (tkO (X 4).length)))) (by have := hl.o1; unfold OM at this; exact this) hl.l1
    have o2 := hl.o2
    rw [List.replicate_append_replicate] at o2
    have s2 := s1.snoc (e := eM (X 4).length (List.replicate (k + 64) (mz (tkO (X 4).length)))) (by unfold OM at o2; exact o2) hl.l2
    simpa [mz] using s2
  · rw [upd_same, h.rs]; simp
  · rw [upd_other _ _ (by omega), upd_other _ _ (by omega)]; exact h.l.moveX hl.ch (n 6 (by omega)) (fun b hb e => x b hb (by omega))
  · rw [upd_other _ _ (by omega), upd_other _ _ (by omega)]; exact h.lw.moveX hl.ch (n 7 (by omega)) (fun b hb e => x b hb (by omega))
/-- A row that came out was written full, and made longer. -/
theorem Bk.rowed {w w' : World} {σ σ' : Nat → Nat × Nat} {K : Nat} {U V V' : Nat → Value} {X : Nat → List Value} {G H : List (List Int)} {O R : List (Nat × Nat × Int)} {L D E : List (List Mg)} (h : Bk w σ K U V X G O H R L D E) {v u : Value} {k : Nat} (hv : ∀ b, v.ownBlock = some b → (σ b).1 = 0) (hl : Rwd w σ K U V X v k u w' σ' V') :
    Bk w' σ' K U V' (upd (upd X 4 (X 4 ++ [v, u])) 5 (X 5 ++ [.int .u64 (tkO (X 4).length), .int .u64 (tkO (X 4).length)])) G O H (R ++ [((X 4).length, k, tkO (X 4).length), ((X 4).length, k + 64, tkO (X 4).length)]) L D E := by
  have n : ∀ c, 1 < c → ∀ b, ((σ b).1 = 1 ∨ v.ownBlock = some b) → (σ b).1 ≠ c := fun c h0 b hb e => by
    rcases hb with hb | hb
    · omega
    · have := hv b hb; omega
  have x : ∀ b, b < w.heap.size → (σ b).1 ≠ 0 → σ' b = σ b := fun b hb e => hl.ex b hb (fun e' => e (hv b e'))
  obtain ⟨c1, c2, c3, c4, c5, c6, c7, c8, c9, c10⟩ := h.c.rowed hv hl
  refine ⟨c1, c2, c3, c4, c5, ?_, ?_, c6, c7, c8, c9, c10, ?_, fun l hL m hm => ?_, ?_, fun l hL m hm => ?_, h.de⟩
  · rw [upd_other _ _ (by omega), upd_other _ _ (by omega)]; exact h.h.moveX hl.ch (n 4 (by omega)) (fun b hb e => x b hb (by omega))
  · rw [upd_other _ _ (by omega), upd_other _ _ (by omega)]; exact h.hs
  · rw [upd_other _ _ (by omega), upd_other _ _ (by omega)]; exact h.d.moveX hl.ch (n 8 (by omega)) (fun b hb e => x b hb (by omega))
  · obtain ⟨h1, jj, h2⟩ := h.db l hL m hm
    exact ⟨hl.ch.owns h1 (fun b hb hS => n 4 (by omega) b hS (by rw [h2 b hb])), jj, fun b hb => by rw [x b (h1.lt hb) (by rw [h2 b hb]; simp)]; exact h2 b hb⟩
  · rw [upd_other _ _ (by omega), upd_other _ _ (by omega)]; exact h.e.moveX hl.ch (n 9 (by omega)) (fun b hb e => x b hb (by omega))
  · obtain ⟨h1, h2⟩ := h.eb l hL m hm
    exact ⟨hl.ch.owns h1 (fun b hb hS => n 10 (by omega) b hS (by rw [h2 b hb])), fun b hb => by rw [x b (h1.lt hb) (by rw [h2 b hb]; simp)]; exact h2 b hb⟩
section
variable {w : World} {σ : Nat → Nat × Nat} {K : Nat} {U V : Nat → Value} {X : Nat → List Value} {G H : List (List Int)} {O R : List (Nat × Nat × Int)} {L D E : List (List Mg)}
theorem BkC.lens (h : BkC w σ K U V X G O R L) : (X 0).length = O.length ∧ (X 1).length = O.length ∧ (X 2).length = G.length ∧ (X 3).length = G.length ∧ (X 4).length = R.length ∧ (X 5).length = R.length ∧ (X 6).length = L.length ∧ (X 7).length = L.length := by
  refine ⟨?_, ?_, ?_, ?_, ?_, ?_, ?_, ?_⟩
  · have := h.o.len; simpa using this
  · rw [h.os]; simp
  · have := h.g.len; simpa using this
  · rw [h.gs]; simp
  · have := h.r.len; simpa using this
  · rw [h.rs]; simp
  · have := h.l.len; simpa using this
  · have := h.lw.len; simpa using this
/-- A row that came out is put into the book. -/
theorem row_bk (h : Bk w σ K U V X G O H R L D E) (st : Bool) (h8 : V 8 = .bool st) (v : Value) (l : List Mg) (hv : OM w v l) (hbl : l.length ≤ 1000) (hl : ∀ b, v.ownBlock = some b → (σ b).1 = 0) (hb : st = true → ∀ m ∈ l, m.bs.length ≤ 1000 ∧ OB w m.v m.bs ∧ ∃ j, Lb σ m.v (4, j)) (hR : R.length < 1000000) (hD : D.length < 1000000) :
    Calls Try.prog 41 #[.pointer (some ⟨K, 8, none⟩), v] w fun e w' => e = .returned (.tuple #[]) ∧ ∃ σ' V' X' R' D' E', Bk w' σ' K U V' X' G O H R' L D' E' ∧ Chg w w' (fun b => (σ b).1 = 1 ∨ v.ownBlock = some b) ∧ (∀ b, b < w.heap.size → v.ownBlock ≠ some b → σ' b = σ b) ∧ V' 8 = V 8 ∧ R'.length ≤ R.length + 2 ∧ D'.length ≤ D.length + 1 ∧ (∀ e ∈ R', e ∈ R ∨ e.2.1 ≤ 1064) ∧ (∀ l' ∈ D', l' ∈ D ∨ (l' = l ∧ st = true)) := by
  obtain ⟨_, _, _, _, l4, l5, _, _⟩ := h.c.lens
  have l11 : (X 11).length = D.length := by have := h.d.len; simpa using this
  have l12 : (X 12).length = D.length := by
    have h1 := h.e.len
    have h2 := congrArg List.length h.de
    simp at h1 h2
    omega
  have hl1 : ∀ b, v.ownBlock = some b → (σ b).1 ≠ 1 := fun b hb e => by have := hl b hb; omega
  cases st with
  | true =>
    have hb' := hb rfl
    refine (row_still w σ K U V X h.m h8 v l hv (fun m hm => (hb' m hm).2.1.bs (by have := (hb' m hm).1; omega)) hbl hl (by omega) (by omega)).mono ?_
    rintro e w' ⟨he, M, u, σ', V', hs, hd⟩
    exact ⟨he, σ', V', _, R, _, _, h.rheld hl (fun m hm => (hb' m hm).2) hs hd, hd.ch.mono (fun b _ e => .inl e), hd.ex, hd.vv, by omega, by simp, fun e he => .inl he, fun l' hl' => by
      rcases List.mem_append.1 hl' with h1 | h1
      · exact .inl h1
      · simp at h1; exact .inr ⟨h1, rfl⟩⟩
  | false =>
    refine (row_out w σ K U V X h.m h8 v l hv hbl hl1 (by omega) (by omega)).mono ?_
    rintro e w' ⟨he, u, σ', V', hd⟩
    exact ⟨he, σ', V', _, _, D, E, h.rowed hl hd, hd.ch, hd.ex, hd.vv, by simp, by omega, fun e he => by
      simp at he
      rcases he with he | he | he
      · exact .inl he
      · right; rw [he]; simp only; omega
      · right; rw [he]; simp only; omega, fun l' hl' => .inl hl'⟩
end
end Go.Proofs.Ytnblhaeojlpmmaa
namespace Go.Proofs.Ytnblhaeojlpmmaa
open Go.ChangeShapes Go.WideShapes Go.ChangeAt Go.RowKit
set_option linter.unusedVariables false
/-- What is left when a row is lent. -/
structure Lrw (w : World) (σ : Nat → Nat × Nat) (K : Nat) (U V : Nat → Value) (X : Nat → List Value) (v u : Value) (M : List Mg) (w' : World) (σ' : Nat → Nat × Nat) (V' : Nat → Value) : Prop where
  o1 : OM w' v M
  o2 : OM w' u M
  l1 : Lb σ' v (6, (X 6).length)
  l2 : Lb σ' u (7, (X 7).length)
  bk : BkM w' σ' K U V' (upd (upd X 6 (X 6 ++ [v])) 7 (X 7 ++ [u]))
  ch : Chg w w' (fun b => (σ b).1 = 1)
  ex : ∀ b, b < w.heap.size → v.ownBlock ≠ some b → u.ownBlock ≠ some b → σ' b = σ b
  vv : V' 8 = V 8
/-- The two appends at the end. -/
theorem lrw_end {w : World} {σ : Nat → Nat × Nat} {K : Nat} {U V : Nat → Value} {X : Nat → List Value} (h : BkM w σ K U V X) {v u : Value} {M : List Mg} (hv : OM w v M) (hu : OM w u M) (hl : ∀ b, v.ownBlock = some b → (σ b).1 = 0) (hl2 : ∀ b, u.ownBlock = some b → (σ b).1 = 0) (hne : ∀ b, v.ownBlock = some b → u.ownBlock ≠ some b) (h0 : ((X 6).length + 1) * 24 ≤ 140737488355328) (h1 : ((X 7).length + 1) * 24 ≤ 140737488355328) :
    ∃ a4 c4 w4 a6 c6 w6, (Builtin.append_ #[55, 55] 55 #[V 6, .slice (some ⟨w.heap.size, 0, none⟩) 1 1]).run Try.prog (w.alloc (.cells #[v] 62)) = .ok (.slice a4 ((X 6).length + 1) c4) w4 ∧
      w.cell? ⟨K, 14, none⟩ = some (V 6) ∧ w4.cell? ⟨K, 14, none⟩ = some (V 6) ∧ w4.frozen? ⟨K, 14, none⟩ = false ∧
      (w4.setCell ⟨K, 14, none⟩ (.slice a4 ((X 6).length + 1) c4)).cell? ⟨K, 15, none⟩ = some (V 7) ∧
      (Builtin.append_ #[55, 55] 55 #[V 7, .slice (some ⟨(w4.setCell ⟨K, 14, none⟩ (.slice a4 ((X 6).length + 1) c4)).heap.size, 0, none⟩) 1 1]).run Try.prog ((w4.setCell ⟨K, 14, none⟩ (.slice a4 ((X 6).length + 1) c4)).alloc (.cells #[u] 62)) = .ok (.slice a6 ((X 7).length + 1) c6) w6 ∧
      w6.cell? ⟨K, 15, none⟩ = some (V 7) ∧ w6.frozen? ⟨K, 15, none⟩ = false ∧
      ∃ σ' V', Lrw w σ K U V X v u M (w6.setCell ⟨K, 15, none⟩ (.slice a6 ((X 7).length + 1) c6)) σ' V' := by
  obtain ⟨σ0, hσ0⟩ : ∃ σ0, σ0 = lab (lab σ u (7, (X 7).length)) v (6, (X 6).length) := ⟨_, rfl⟩
  have lv : Lb σ0 v (6, (X 6).length) := by rw [hσ0]; exact lab_same _ _ _
  have lu : Lb σ0 u (7, (X 7).length) := fun b hb => by
    rw [hσ0]
    show (if v.ownBlock = some b then (6, (X 6).length) else lab σ u (7, (X 7).length) b) = _
    rw [if_neg (fun e => hne b e hb)]
    exact lab_same _ _ _ b hb
  have x0 : ∀ b, v.ownBlock ≠ some b → u.ownBlock ≠ some b → σ0 b = σ b := fun b h1 h2 => by
    rw [hσ0]
    show (if v.ownBlock = some b then (6, (X 6).length) else if u.ownBlock = some b then _ else σ b) = _
    rw [if_neg h1, if_neg h2]
  have z0 : Fz w σ0 := fun b hb => by
    rw [x0 b (fun e => by have := hv.lt e; omega) (fun e => by have := hu.lt e; omega)]
    exact h.fz b hb
  have B3 := h.relab (σ' := σ0) (fun b hb e => x0 b (fun e' => by have := hl b e'; omega) (fun e' => by have := hl2 b e'; omega)) z0
  obtain ⟨a4, c4, w4, r4, A4⟩ := B3.app (i := 6) (by omega) (by omega) 55 Try.underlying55 [v] (by intro x hx; simp at hx; subst hx; exact hv.one1) h0
  obtain ⟨w5, hw5⟩ : ∃ w5, w5 = w4.setCell ⟨K, 14, none⟩ (.slice a4 ((X 6).length + 1) c4) := ⟨_, rfl⟩
  obtain ⟨σ1, hσ1⟩ : ∃ σ1, σ1 = lab σ0 (.slice a4 ((X 6).length + 1) c4) (1, 6) := ⟨_, rfl⟩
  obtain ⟨V1, hV1⟩ : ∃ V1,V1 = upd V 6 (.slice a4 ((X 6).length + 1) c4) := ⟨_, rfl⟩
  obtain ⟨X1, hX1⟩ : ∃ X1,X1 = upd X 6 (X 6 ++ [v]) := ⟨_, rfl⟩
  have eX : X1 7 = X 7 := by rw [hX1, upd_other _ _ (by omega)]
  have eV : V1 8 = V 8 := by rw [hV1, upd_other _ _ (by omega)]
  have eV1 : V1 7 = V 7 := by rw [hV1, upd_other _ _ (by omega)]
  have b4 : BkM w5 σ1 K U V1 X1 := by rw [hw5, hσ1, hV1, hX1]; exact A4.bk
  have x4 : Ext w σ0 σ1 := by rw [hσ1]; exact A4.ex
  have ch4 : Chg w w5 (fun b => (σ0 b).1 = 1) := by rw [hw5]; exact A4.ch
  have v5 : OM w5 v M := ch4.owns hv (fun b hb e => by rw [lv b hb] at e; simp at e)
  have u5 : OM w5 u M := ch4.owns hu (fun b hb e => by rw [lu b hb] at e; simp at e)
  have lv1 : Lb σ1 v (6, (X 6).length) := fun b hb => by rw [x4 b (hv.lt hb)]; exact lv b hb
  have lu1 : Lb σ1 u (7, (X 7).length) := fun b hb => by rw [x4 b (hu.lt hb)]; exact lu b hb
  obtain ⟨a6, c6, w6, r6, A6⟩ := b4.app (i := 7) (by omega) (by omega) 55 Try.underlying55 [u] (by intro x hx; simp at hx; subst hx; exact hu.one1) (by rw [eX]; exact h1)
  have k5 : w5.cell? ⟨K, 15, none⟩ = some (V 7) := by have := (b4.cell (i := 7) (by omega)).1; rw [eV1] at this; exact this
  have bk6 := A6.bk
  have ch6 := A6.ch
  have x6 := A6.ex
  have d6 := A6.cl
  rw [eX] at bk6 ch6 x6 r6
  rw [eV1] at r6 d6
  refine ⟨a4, c4, w4, a6, c6, w6, r4, (B3.cell (i := 6) (by omega)).1, A4.cl.1, A4.cl.2, by rw [← hw5]; exact k5, by rw [← hw5]; exact r6, d6.1, d6.2, lab σ1 (.slice a6 ((X 7).length + 1) c6) (1, 7), upd V1 7 (.slice a6 ((X 7).length + 1) c6), ch6.owns v5 (fun b hb e => by rw [lv1 b hb] at e; simp at e), ch6.owns u5 (fun b hb e => by rw [lu1 b hb] at e; simp at e), fun b hb => ?_, fun b hb => ?_, ?_, ?_, fun b hb hn1 hn2 => ?_, ?_⟩
  · exact (x6 b (own_lt v5 hb)).trans (lv1 b hb)
  · exact (x6 b (own_lt u5 hb)).trans (lu1 b hb)
  · rw [← hX1]; exact bk6
  · have cl0 : ∀ b, b < w.heap.size → (σ0 b).1 = 1 → (σ b).1 = 1 := fun b hb e => by
      rw [x0 b (fun e' => by rw [lv b e'] at e; simp at e) (fun e' => by rw [lu b e'] at e; simp at e)] at e
      exact e
    refine Chg.trans (ch4.mono cl0) ch6 (fun b hb e => cl0 b hb ?_)
    show (σ0 b).1 = 1
    rw [← x4 b hb]; exact e
  · rw [show (lab σ1 (.slice a6 ((X 7).length + 1) c6) (1, 7)) b = σ1 b from x6 b (by have := ch4.size; omega), x4 b (by omega)]
    exact x0 b hn1 hn2
  · show upd V1 7 _ 8 = V 8
    rw [upd_other _ _ (by omega)]; exact eV
/-- A row is lent. -/
theorem Bk.lrowed {w w' : World} {σ σ' : Nat → Nat × Nat} {K : Nat} {U V V' : Nat → Value} {X : Nat → List Value} {G H : List (List Int)} {O R : List (Nat × Nat × Int)} {L D E : List (List Mg)} (h : Bk w σ K U V X G O H R L D E) {v u : Value} {M : List Mg} (hv : ∀ b, v.ownBlock = some b → (σ b).1 = 0) (hu : ∀ b, u.ownBlock = some b → (σ b).1 = 0) (hM : ∀ m ∈ M, ∃ a n c, m.v = .slice a n c) (hl : Lrw w σ K U V X v u M w' σ' V') :
    Bk w' σ' K U V' (upd (upd X 6 (X 6 ++ [v])) 7 (X 7 ++ [u])) G O H R (L ++ [M]) D E := by
  have n : ∀ c, c ≠ 1 → ∀ b, (σ b).1 = 1 → (σ b).1 ≠ c := fun c h0 b hb e => h0 (by rw [← e, hb])
  have x : ∀ b, b < w.heap.size → (σ b).1 ≠ 0 → σ' b = σ b := fun b hb e => hl.ex b hb (fun e' => e (hv b e')) (fun e' => e (hu b e'))
  have e6 : (X 6).length = L.length := by have := h.l.len; simpa using this
  have e7 : (X 7).length = L.length := by have := h.lw.len; simpa using this
  refine ⟨hl.bk, ?_, ?_, ?_, ?_, ?_, ?_, ?_, ?_, ?_, ?_, fun l hL m hm => ?_, ?_, fun l hL m hm => ?_, ?_, fun l hL m hm => ?_, h.de⟩
  · rw [upd_other _ _ (by omega), upd_other _ _ (by omega)]; exact h.g.moveX hl.ch (n 2 (by omega)) (fun b hb e => x b hb (by omega))
  · rw [upd_other _ _ (by omega), upd_other _ _ (by omega)]; exact h.gs
  · rw [upd_other _ _ (by omega), upd_other _ _ (by omega)]; exact h.o.moveX hl.ch (n 3 (by omega)) (fun b hb e => x b hb (by omega))
  · rw [upd_other _ _ (by omega), upd_other _ _ (by omega)]; exact h.os
  · rw [upd_other _ _ (by omega), upd_other _ _ (by omega)]; exact h.h.moveX hl.ch (n 4 (by omega)) (fun b hb e => x b hb (by omega))
  · rw [upd_other _ _ (by omega), upd_other _ _ (by omega)]; exact h.hs
  · rw [upd_other _ _ (by omega), upd_other _ _ (by omega)]; exact h.r.moveX hl.ch (n 5 (by omega)) (fun b hb e => x b hb (by omega))
  · rw [upd_other _ _ (by omega), upd_other _ _ (by omega)]; exact h.rs
  · rw [upd_other _ _ (by omega), upd_same, mapIdx_snoc]
    refine (h.l.moveX hl.ch (n 6 (by omega)) (fun b hb e => x b hb (by omega))).snoc hl.o1 ?_
    have := hl.l1
    rw [e6] at this
    exact this
  · rw [upd_same, mapIdx_snoc]
    refine (h.lw.moveX hl.ch (n 7 (by omega)) (fun b hb e => x b hb (by omega))).snoc hl.o2 ?_
    have := hl.l2
    rw [e7] at this
    exact this
  · rcases List.mem_append.1 hL with hL | hL
    · exact h.lv l hL m hm
    · simp at hL
      subst hL
      exact hM m hm
  · rw [upd_other _ _ (by omega), upd_other _ _ (by omega)]; exact h.d.moveX hl.ch (n 8 (by omega)) (fun b hb e => x b hb (by omega))
  · obtain ⟨h1, jj, h2⟩ := h.db l hL m hm
    exact ⟨hl.ch.owns h1 (fun b hb hS => n 4 (by omega) b hS (by rw [h2 b hb])), jj, fun b hb => by rw [x b (h1.lt hb) (by rw [h2 b hb]; simp)]; exact h2 b hb⟩
  · rw [upd_other _ _ (by omega), upd_other _ _ (by omega)]; exact h.e.moveX hl.ch (n 9 (by omega)) (fun b hb e => x b hb (by omega))
  · obtain ⟨h1, h2⟩ := h.eb l hL m hm
    exact ⟨hl.ch.owns h1 (fun b hb hS => n 10 (by omega) b hS (by rw [h2 b hb])), fun b hb => by rw [x b (h1.lt hb) (by rw [h2 b hb]; simp)]; exact h2 b hb⟩
end Go.Proofs.Ytnblhaeojlpmmaa
namespace Go.Proofs.Ytnblhaeojlpmmaa
open Go.ChangeShapes Go.WideShapes Go.ChangeAt Go.RowKit
set_option linter.unusedVariables false
/-- Bytes are lent; which of the book's lists have grown. -/
theorem lends_bk2 {w : World} {σ : Nat → Nat × Nat} {K : Nat} {U V : Nat → Value} {X : Nat → List Value} {G H : List (List Int)} {O R : List (Nat × Nat × Int)} {L D E : List (List Mg)} (h : Bk w σ K U V X G O H R L D E) (v : Value) (bs : List Int) (hv : Bs w v bs) (hg : (G.length + 1) * 24 ≤ 140737488355328) :
    Calls Try.prog 27 #[.pointer (some ⟨K, 8, none⟩), v] w fun e w' => ∃ g c σ' V' X', e = .returned (.slice (some ⟨g, 0, none⟩) bs.length c) ∧ Bk w' σ' K U V' X' (G ++ [bs ++ mk8]) O H R L D E ∧ Chg w w' (fun b => (σ b).1 = 1) ∧ Ext w σ σ' ∧ w.heap.size ≤ g ∧ σ' g = (2, G.length) ∧ V' 8 = V 8 ∧ OB w' (.slice (some ⟨g, 0, none⟩) (bs.length + 8) c) (bs ++ mk8) ∧ X' 2 = X 2 ++ [.slice (some ⟨g, 0, none⟩) (bs.length + 8) c] ∧ X' 6 = X 6 := by
  obtain ⟨_, _, l2, l3, _, _⟩ := h.lens
  refine (lends_any w σ K U V X h.m v bs hv (by rw [l2]; exact hg) (by rw [l3]; exact hg)).mono ?_
  rintro e w' ⟨g, c, σ', V', he, hl⟩
  exact ⟨g, c, σ', V', _, he, h.lends hl, hl.ch, hl.ex, hl.nw, by rw [hl.lb, l2], hl.vv, hl.ob, by rw [upd_other _ _ (by omega), upd_same], by rw [upd_other _ _ (by omega), upd_other _ _ (by omega)]⟩
/-- What stays of lent bytes, without the marks. -/
theorem lent_bs {w : World} {g c : Nat} {bs : List Int} (h : OB w (.slice (some ⟨g, 0, none⟩) (bs.length + 8) c) (bs ++ mk8)) (hb : bs.length ≤ 140737488351232) : Bs w (.slice (some ⟨g, 0, none⟩) bs.length c) bs := by
  have h' : OB w (.slice (some ⟨g, 0, none⟩) (bs ++ mk8).length c) (bs ++ mk8) := by rw [show (bs ++ mk8).length = bs.length + 8 by simp [mk8]]; exact h
  exact (OB.pre (n := bs.length) (xs := bs) h' (by simp) rfl).bs hb
/-- A row that is lent, while it is made: A what it is of, N what it has. -/
structure LrI (w : World) (σ : Nat → Nat × Nat) (K : Nat) (U V : Nat → Value) (X : Nat → List Value) (G H : List (List Int)) (O R : List (Nat × Nat × Int)) (L D E : List (List Mg)) (A N : List Mg) (u : Value) (wr : World) (σr : Nat → Nat × Nat) (Vr : Nat → Value) (Xr : Nat → List Value) : Prop where
  bk : Bk wr σr K U Vr Xr G O H R L D E
  o : OM wr u N
  s : Sm A N
  b : ∀ m ∈ N, Bs wr m.v m.bs ∧ ∀ k, blk m.v = some k → (σr k).1 = 2
  nu : Nw w u
  lu : ∀ b, u.ownBlock = some b → (σr b).1 = 0
  c : Chg w wr (fun b => (σ b).1 = 1)
  x : Ext w σ σr
  v8 : Vr 8 = V 8
  x6 : Xr 6 = X 6
theorem Fz.lt {w : World} {σ : Nat → Nat × Nat} (h : Fz w σ) {b : Nat} (hb : (σ b).1 ≠ 0) : b < w.heap.size := by
  by_cases hlt : b < w.heap.size
  · exact hlt
  · exact absurd (by rw [h b (by omega)]) hb
section
variable {w wr w1 : World} {σ σr σ1 : Nat → Nat × Nat} {K : Nat} {U V Vr V1 : Nat → Value} {X Xr X1 : Nat → List Value} {G G1 H : List (List Int)} {O R : List (Nat × Nat × Int)} {L D E : List (List Mg)} {A N : List Mg} {u : Value}
/-- Bytes were lent meanwhile. -/
theorem LrI.lend (h : LrI w σ K U V X G H O R L D E A N u wr σr Vr Xr) (hb : Bk w1 σ1 K U V1 X1 G1 O H R L D E) (hc : Chg wr w1 (fun b => (σr b).1 = 1)) (hx : Ext wr σr σ1) (h8 : V1 8 = Vr 8) (h6 : X1 6 = Xr 6) : LrI w σ K U V X G1 H O R L D E A N u w1 σ1 V1 X1 := by
  refine ⟨hb, hc.owns h.o (fun b hb e => ?_), h.s, fun m hm => ⟨(h.b m hm).1.chg hc (fun k hk e => ?_), fun k hk => ?_⟩, h.nu, fun b hb => ?_, Chg.trans h.c hc (fun b hb e => ?_), h.x.trans hx h.c.size, by rw [h8, h.v8], by rw [h6, h.x6]⟩
  · have := h.lu b hb; omega
  · have := (h.b m hm).2 k hk; omega
  · have := (h.b m hm).2 k hk
    rw [hx k (h.bk.m.fz.lt (by omega))]; exact this
  · rw [hx b (h.o.lt hb)]; exact h.lu b hb
  · show (σ b).1 = 1
    rw [← h.x b hb]; exact e
/-- One more message. -/
theorem LrI.app (h : LrI w σ K U V X G H O R L D E A N u wr σr Vr Xr) (m m' : Mg) (hm : Bs wr m'.v m'.bs ∧ ∀ k, blk m'.v = some k → (σr k).1 = 2) (he : (m'.bs, m'.tk) = (m.bs, m.tk)) (hN : N.length < 1000000000) :
    ∃ a c w', (Builtin.append_ #[62, 62] 62 #[u, .slice (some ⟨wr.heap.size, 0, none⟩) 1 1]).run Try.prog (wr.alloc (.cells #[m'.v, .int .u64 m'.tk] 75)) = .ok (.slice a (N.length + 1) c) w' ∧ LrI w σ K U V X G H O R L D E (A ++ [m]) (N ++ [m']) (.slice a (N.length + 1) c) w' σr Vr Xr := by
  obtain ⟨xa, xc, ex⟩ := hm.1.vshape
  obtain ⟨v', w', hr, ho, hc⟩ := app1M wr u N h.o m' (by rw [ex]; rfl) hN 62
  obtain ⟨a, c, e⟩ := ho.shape
  rw [show (N ++ [m']).length = N.length + 1 by simp] at e
  have cc : Chg wr w' (fun b => u.ownBlock = some b) := by
    rcases hc with ⟨g, cap, c1, c2, c3⟩ | ⟨c1, c2⟩
    · exact c3.mono (fun b _ e => by rw [c1, e]; rfl)
    · exact c2.any
  have hn : v'.ownBlock = u.ownBlock ∨ Nw wr v' := by
    rcases hc with ⟨g, cap, c1, c2, c3⟩ | ⟨c1, c2⟩
    · left; rw [c1, c2]; rfl
    · exact .inr c1
  have hz := h.bk.m.fz
  refine ⟨a, c, w', by rw [← e]; exact hr, ?_⟩
  rw [← e]
  have hb : ∀ m ∈ N ++ [m'], Bs wr m.v m.bs ∧ ∀ k, blk m.v = some k → (σr k).1 = 2 := fun x hx => by
    rcases List.mem_append.1 hx with hx | hx
    · exact h.b x hx
    · simp at hx; subst hx; exact hm
  have sz := h.c.size
  refine ⟨h.bk.chg cc (fun b hb => h.lu b hb), ho, Sm.app h.s (by unfold Sm; simpa using he), fun x hx => ⟨(hb x hx).1.chg cc (fun k hk e => ?_), (hb x hx).2⟩, fun k hk => ?_, fun b hb => ?_, Chg.trans h.c cc (fun b hlt e => ?_), h.x, h.v8, h.x6⟩
  · have h1 := (hb x hx).2 k hk
    have h2 := h.lu k e
    omega
  · rcases hn with e | e
    · rw [e] at hk; exact h.nu k hk
    · have := e k hk; omega
  · rcases hn with e | e
    · rw [e] at hb; exact h.lu b hb
    · rw [hz b (e b hb)]
  · have := h.nu b e; omega
end
/-- What lendsRow leaves. -/
structure LrE (w : World) (σ : Nat → Nat × Nat) (K : Nat) (U V : Nat → Value) (X : Nat → List Value) (G H : List (List Int)) (O R : List (Nat × Nat × Int)) (L D E : List (List Mg)) (l N : List Mg) (g c : Nat) (w' : World) (σ' : Nat → Nat × Nat) (V' : Nat → Value) (X' : Nat → List Value) : Prop where
  bk : Bk w' σ' K U V' X' (G ++ l.map (fun m => m.bs ++ mk8)) O H R (L ++ [N]) D E
  n : N.length = l.length + 3
  s : Sm (l ++ List.replicate 3 (mz 555)) N
  o : OM w' (.slice (some ⟨g, 0, none⟩) (l.length + 3) c) N
  b : ∀ m ∈ N, Bs w' m.v m.bs ∧ ∀ k, blk m.v = some k → (σ' k).1 = 2
  lg : σ' g = (6, L.length)
  ch : Chg w w' (fun b => (σ b).1 = 1)
  x : Ext w σ σ'
  v8 : V' 8 = V 8
  x6 : X' 6 = X 6 ++ [.slice (some ⟨g, 0, none⟩) (l.length + 3) c]
  nw : w.heap.size ≤ g
/-- The row's end: 'was', and both into the book. -/
theorem LrI.fin {w wr : World} {σ σr : Nat → Nat × Nat} {K : Nat} {U V Vr : Nat → Value} {X Xr : Nat → List Value} {G H : List (List Int)} {O R : List (Nat × Nat × Int)} {L D E : List (List Mg)} {l N : List Mg} {u : Value} (h : LrI w σ K U V X (G ++ l.map (fun m => m.bs ++ mk8)) H O R L D E (l ++ List.replicate 3 (mz 555)) N u wr σr Vr Xr) (hl : l.length ≤ 1048576) (hL : L.length < 1000000) :
    ∃ g c a2 c2 w2 a4 c4 w4 a6 c6 w6, u = .slice (some ⟨g, 0, none⟩) (l.length + 3) c ∧ l.length + 3 ≤ c ∧
      (Builtin.append_ #[62, 62] 62 #[.slice none 0 0, .slice (some ⟨g, 0, none⟩) (l.length + 3) c]).run Try.prog wr = .ok (.slice a2 (l.length + 3) c2) w2 ∧
      (Builtin.append_ #[55, 55] 55 #[Vr 6, .slice (some ⟨w2.heap.size, 0, none⟩) 1 1]).run Try.prog (w2.alloc (.cells #[.slice (some ⟨g, 0, none⟩) (l.length + 3) c] 62)) = .ok (.slice a4 (L.length + 1) c4) w4 ∧
      w2.cell? ⟨K, 14, none⟩ = some (Vr 6) ∧ w4.cell? ⟨K, 14, none⟩ = some (Vr 6) ∧ w4.frozen? ⟨K, 14, none⟩ = false ∧
      (w4.setCell ⟨K, 14, none⟩ (.slice a4 (L.length + 1) c4)).cell? ⟨K, 15, none⟩ = some (Vr 7) ∧
      (Builtin.append_ #[55, 55] 55 #[Vr 7, .slice (some ⟨(w4.setCell ⟨K, 14, none⟩ (.slice a4 (L.length + 1) c4)).heap.size, 0, none⟩) 1 1]).run Try.prog ((w4.setCell ⟨K, 14, none⟩ (.slice a4 (L.length + 1) c4)).alloc (.cells #[.slice a2 (l.length + 3) c2] 62)) = .ok (.slice a6 (L.length + 1) c6) w6 ∧
      w6.cell? ⟨K, 15, none⟩ = some (Vr 7) ∧ w6.frozen? ⟨K, 15, none⟩ = false ∧
      ∃ σ' V' X', LrE w σ K U V X G H O R L D E l N g c (w6.setCell ⟨K, 15, none⟩ (.slice a6 (L.length + 1) c6)) σ' V' X' := by
  have hn : N.length = l.length + 3 := by have := h.s.len; simpa using this
  have e6 : (Xr 6).length = L.length := by have := h.bk.l.len; simpa using this
  have e7 : (Xr 7).length = L.length := by have := h.bk.lw.len; simpa using this
  rcases h.o.at with ⟨_, e⟩ | ⟨g, c, cur, eu, hg, hle, _, _, hcu⟩
  · rw [e] at hn; simp at hn
  · rw [hn] at eu hle hcu
    have hon : ∀ u ∈ mcs N, u.oneCell' = true := fun x hx => by
      rcases mcs_mem N x hx with ⟨m, h1, rfl⟩ | ⟨m, h1, rfl⟩
      · obtain ⟨a, c, e⟩ := (h.b m h1).1.vshape; rw [e]; rfl
      · rfl
    obtain ⟨v2, w2, r2, o2, k2, L2⟩ := run_appM wr (.slice none 0 0) [] (OM.nil wr) (some ⟨g, 0, none⟩) N c (.inr ⟨g, 0, rfl, fun j x hx => by
      have hj : j < N.length * 2 := by have := (List.getElem?_eq_some_iff.1 hx).1; rwa [mcs_len] at this
      rw [Nat.zero_add, (cells_at hg j).1, hcu j (by omega)]; exact hx⟩) hon (by simp; omega) 62
    rw [List.nil_append] at o2
    have kk : Kp wr w2 := k2.mono (fun _ _ e => by simp [Value.ownBlock] at e)
    have nn : Nw wr v2 := fun k hk => by
      rcases L2 with e | ⟨k', e, hk'⟩
      · rw [e] at hk; simp [Value.ownBlock] at hk
      · rw [e] at hk; simp at hk; omega
    obtain ⟨a2, c2, e2⟩ := o2.shape
    rw [hn] at e2 r2
    have B2 := h.bk.kp kk
    have O1 : OM w2 u N := Chg.owns kk h.o (fun _ _ h => h)
    have hz := h.bk.m.fz
    obtain ⟨a4, c4, w4, a6, c6, w6, r4, d4, d5, d6, d7, r6, d8, d9, σ', V', HO⟩ := lrw_end B2.m O1 o2 (fun b hb => h.lu b hb) (fun b hb => by rw [hz b (nn b hb)]) (fun b hb e => by have := nn b e; have := h.o.lt hb; omega) (by omega) (by omega)
    have hB := B2.lrowed (fun b hb => h.lu b hb) (fun b hb => by rw [hz b (nn b hb)]) (fun m hm => by obtain ⟨a, c, e⟩ := (h.b m hm).1.vshape; exact ⟨_, _, _, e⟩) HO
    rw [e6] at r4 d7 r6
    rw [e7] at r6 HO hB
    rw [eu] at r4
    refine ⟨g, c, a2, c2, w2, a4, c4, w4, a6, c6, w6, eu, hle, by rw [← e2]; exact r2, r4, d4, d5, d6, d7, by rw [← e2]; exact r6, d8, d9, σ', V', upd (upd Xr 6 (Xr 6 ++ [u])) 7 (Xr 7 ++ [v2]), ?_⟩
    have og : u.ownBlock = some g := by rw [eu]; rfl
    have szr := h.c.size
    have hch : Chg wr (w6.setCell ⟨K, 15, none⟩ (.slice a6 (L.length + 1) c6)) (fun b => (σr b).1 = 1) := Chg.trans kk.any HO.ch (fun b _ e => e)
    have hbs : ∀ m ∈ N, Bs (w6.setCell ⟨K, 15, none⟩ (.slice a6 (L.length + 1) c6)) m.v m.bs := fun m hm => (h.b m hm).1.chg hch (fun k hk e => by have := (h.b m hm).2 k hk; omega)
    refine ⟨hB, hn, h.s, by rw [← eu]; exact HO.o1, fun m hm => ⟨hbs m hm, fun k hk => ?_⟩, by rw [HO.l1 g og, e6], Chg.trans h.c hch (fun b hb e => by rw [h.x b hb] at e; exact e), fun b hb => ?_, HO.vv.trans h.v8, ?_, h.nu g og⟩
    · have h1 := (h.b m hm).2 k hk
      have hlt := hz.lt (b := k) (by omega)
      rw [HO.ex k (Nat.lt_of_lt_of_le hlt kk.size) (fun e => by have := h.lu k e; omega) (fun e => by have := nn k e; omega)]
      exact h1
    · rw [HO.ex b (by have := kk.size; omega) (fun e => by have := h.nu b e; omega) (fun e => by have := nn b e; omega)]
      exact h.x b hb
    · rw [upd_other _ _ (by omega), upd_same, h.x6, eu]
end Go.Proofs.Ytnblhaeojlpmmaa
namespace Go.Proofs.Ytnblhaeojlpmmaa
open Go.ChangeShapes Go.WideShapes Go.ChangeAt Go.RowKit
set_option linter.unusedVariables false
theorem RdL.some {w : World} {a : Option Addr} {n c : Nat} {l : List Mg} (h : RdL w (.slice a n c) l) (hl : 0 < l.length) : ∃ b o, a = Option.some ⟨b, o, none⟩ := by
  obtain ⟨ax, cx, ev, hx⟩ := h.ex
  obtain ⟨b, o, e, _⟩ := hx.resolve_left (by intro e; rw [e] at hl; simp at hl)
  simp only [Value.slice.injEq] at ev
  exact ⟨b, o, by rw [ev.1, e]⟩
theorem RdL.cel {w : World} {b o n c : Nat} {l : List Mg} (h : RdL w (.slice (Option.some ⟨b, o, none⟩) n c) l) {i : Nat} (hi : i < l.length) : w.cell? ⟨b, o + i * 2, none⟩ = Option.some l[i].v ∧ w.cell? ⟨b, o + i * 2 + 1, none⟩ = Option.some (.int .u64 l[i].tk) := by
  obtain ⟨ax, cx, ev, hx⟩ := h.ex
  obtain ⟨b', o', e, hc⟩ := hx.resolve_left (by intro e; rw [e] at hi; simp at hi)
  simp only [Value.slice.injEq] at ev
  rw [e] at ev
  obtain ⟨rfl, rfl⟩ : b = b' ∧ o = o' := by simpa using ev.1
  exact hc i hi
set_option maxHeartbeats 4000000 in
set_option maxRecDepth 10000 in
/-- A row is lent. -/
theorem lendsRow_any (w : World) (σ : Nat → Nat × Nat) (K : Nat) (U V : Nat → Value) (X : Nat → List Value) (G H : List (List Int)) (O R : List (Nat × Nat × Int)) (L D E : List (List Mg)) (h : Bk w σ K U V X G O H R L D E) (v : Value) (l : List Mg) (hv : ∀ wr, Chg w wr (fun b => (σ b).1 = 1) → RdL wr v l) (hl : l.length ≤ 1048576) (hG : G.length < 1000000000) (hL : L.length < 1000000) :
    Calls Try.prog 52 #[.pointer (some ⟨K, 8, none⟩), v] w fun e w' => ∃ g c, e = .returned (.slice (some ⟨g, 0, none⟩) l.length c) ∧ ∃ N σ' V' X', LrE w σ K U V X G H O R L D E l N g c w' σ' V' X' := by
  have I0 : Hid (LrI w σ K U V X (G ++ (l.take 0).map (fun m => m.bs ++ mk8)) H O R L D E (l.take 0) [] (.slice none 0 0) w σ V X) := ⟨by simpa using h, OM.nil w, by unfold Sm; simp, fun m hm => by simp at hm, fun k hk => by simp [Value.ownBlock] at hk, fun k hk => by simp [Value.ownBlock] at hk, Chg.refl _ _, Ext.refl _ _, rfl, rfl⟩
  have RD : Hid (∀ wr, Chg w wr (fun b => (σ b).1 = 1) → RdL wr v l) := hv
  have FIN : Hid (∀ N u wr σr Vr Xr, LrI w σ K U V X (G ++ l.map (fun m => m.bs ++ mk8)) H O R L D E (l ++ List.replicate 3 (mz 555)) N u wr σr Vr Xr → _) := fun N u wr σr Vr Xr hg => hg.fin hl hL
  obtain ⟨a, cp, rfl⟩ := (hv w (Chg.refl _ _)).vshape
  obtain ⟨n, hn⟩ : ∃ n, n = l.length := ⟨_, rfl⟩
  have HN : Hid (n = l.length) := hn
  rw [← hn] at hl ⊢
  clear h hv hn
  go_enter Try.func52, Try.ntmps52
  go_wp2_with fail
  go_loopw [5, 7, 8] (fun s5 s7 s8 wr => ∃ (u : Value) (i : Nat) (N : List Mg) (σr : Nat → Nat × Nat) (Vr : Nat → Value) (Xr : Nat → List Value), u = s5 ∧ s7 = .int .i64 (i : Nat) ∧ i ≤ n ∧ Hid (LrI w σ K U V X (G ++ (l.take i).map (fun m => m.bs ++ mk8)) H O R L D E (l.take i) N u wr σr Vr Xr)) (fun _ s7 _ _ => n - nI s7)
  case atStart => exact ⟨_, 0, [], σ, V, X, rfl, rfl, by omega, I0⟩
  case round =>
    obtain ⟨u, i, N, σr, Vr, Xr, rfl, rfl, hi, HR⟩ := hrel
    clear I0
    by_cases hlt : i < n
    · have hz : (i : Int) < (n : Nat) := by omega
      have hil : i < l.length := by rw [← HN.out]; exact hlt
      have hrd := RD.out wr HR.out.c
      obtain ⟨b, o, rfl⟩ := hrd.some (by omega)
      have f1 := (hrd.cel hil).1
      have hbi := hrd.b _ (List.getElem_mem hil)
      have t1 := lends_bk2 HR.out.bk l[i].v l[i].bs hbi (by simp; omega)
      have hlN : N.length = i := by have := HR.out.s.len; simp at this; omega
      obtain ⟨ua, uc, hu⟩ := HR.out.o.shape
      rw [hlN] at hu
      have HI : Hid (i < l.length) := hil
      have HBI : Hid (Bs wr l[i].v l[i].bs) := hbi
      clear hrd hbi
      subst hu
      go_wp2_with fail
      go_at_call 27
      refine t1.mono ?_
      rintro e w1 ⟨g, c, σ1, V1,X1, rfl, hb1, hc1, hx1, hg1, hl1, h81, ho1, hX2, hX6⟩
      have I1 := HR.out.lend hb1 hc1 hx1 h81 hX6
      have f2 := ((RD.out w1 I1.c).cel HI.out).2
      obtain ⟨a3, c3, w3, r3, I3⟩ := I1.app l[i] ⟨.slice (some ⟨g, 0, none⟩) l[i].bs.length c, l[i].bs, l[i].tk⟩ ⟨lent_bs ho1 HBI.out.len, fun k hk => by simp [blk] at hk; subst hk; rw [hl1]⟩ rfl (by omega)
      rw [hlN] at r3 I3
      have HN2 : Hid (LrI w σ K U V X (G ++ (l.take (i + 1)).map (fun m => m.bs ++ mk8)) H O R L D E (l.take (i + 1)) (N ++ [⟨.slice (some ⟨g, 0, none⟩) l[i].bs.length c, l[i].bs, l[i].tk⟩]) (.slice a3 (i + 1) c3) w3 σ1 V1 X1) := by
        rw [← List.take_append_getElem HI.out, List.map_append, ← List.append_assoc]
        exact I3
      clear I1 I3 HR t1 f1 hb1 hc1 hx1 h81 ho1 hX2 hX6 hl1 HBI
      generalize l[i].bs.length = bl at *
      generalize l[i].tk = tk at *
      go_wp2_with (at_builtin; refine wpList_append_run _ rfl (.tmp 23) (.tmp 31) 62 62 rfl _ _ (.slice a3 (i + 1) c3) w3 rfl rfl r3 ?_)
      exact ⟨⟨_, i + 1, _, σ1, V1,X1, rfl, by go_num, by omega, HN2⟩, by simp [nI]; omega⟩
    · have hz : ¬ (i : Int) < (n : Nat) := by omega
      have hin : i = n := by omega
      have J0 : Hid (LrI w σ K U V X (G ++ l.map (fun m => m.bs ++ mk8)) H O R L D E (l ++ List.replicate 0 (mz 555)) N u wr σr Vr Xr) := by
        have := HR.out
        rw [hin, HN.out, List.take_length] at this
        rw [List.replicate_zero, List.append_nil]; exact this
      clear HR
      go_wp2_with fail
      rename World => w1
      go_loopw [5, 9] (fun s5 s9 wr => ∃ (u : Value) (k : Nat) (N : List Mg), u = s5 ∧ s9 = .int .i64 (k : Nat) ∧ k ≤ 3 ∧ Hid (LrI w σ K U V X (G ++ l.map (fun m => m.bs ++ mk8)) H O R L D E (l ++ List.replicate k (mz 555)) N u wr σr Vr Xr)) (fun _ s9 _ => 3 - nI s9)
      case atStart => exact ⟨_, 0, _, rfl, rfl, by omega, J0⟩
      case round =>
        obtain ⟨u, k, N, rfl, rfl, hk, HJ⟩ := hrel
        clear J0
        by_cases hlt2 : k < 3
        · have hz2 : (k : Int) < 3 := by omega
          have hlN : N.length = n + k := by have := HJ.out.s.len; simp at this; rw [this, HN.out]
          obtain ⟨a3, c3, w3, r3, I3⟩ := HJ.out.app (mz 555) (mz 555) ⟨Bs.nil _, fun k hk => by simp [mz, blk] at hk⟩ rfl (by omega)
          obtain ⟨ua, uc, hu⟩ := HJ.out.o.shape
          rw [hlN] at hu r3 I3
          rw [List.append_assoc, ← List.replicate_succ'] at I3
          have HN2 : Hid (LrI w σ K U V X (G ++ l.map (fun m => m.bs ++ mk8)) H O R L D E (l ++ List.replicate (k + 1) (mz 555)) (N ++ [mz 555]) (.slice a3 (n + k + 1) c3) w3 σr Vr Xr) := I3
          subst hu
          have r4 : (Builtin.append_ #[62, 62] 62 #[.slice ua (n + k) uc, .slice (some ⟨wr.heap.size, 0, none⟩) 1 1]).run Try.prog (wr.alloc (.cells #[.slice none 0 0, .int .u64 555] 75)) = .ok (.slice a3 (n + k + 1) c3) w3 := r3
          clear HJ I3 r3
          go_wp2_with (at_builtin; refine wpList_append_run _ rfl (.tmp 37) (.tmp 39) 62 62 rfl _ _ (.slice a3 (n + k + 1) c3) w3 rfl rfl r4 ?_)
          exact ⟨⟨_, k + 1, _, rfl, by go_num, by omega, HN2⟩, by simp [nI]; omega⟩
        · have hz2 : ¬ (k : Int) < 3 := by omega
          have hk3 : k = 3 := by omega
          subst hk3
          obtain ⟨g, c, a2, c2, w2, a4, c4, w4, a6, c6, w6, e1, hle, r2, r4, d4, d5, d6, d7, r6, d8, d9, σ', V', X', HO⟩ := FIN.out _ _ _ _ _ _ HJ.out
          rw [← HN.out] at e1 hle r2 r4 r6
          have HF : Hid (LrE w σ K U V X G H O R L D E l N g c (w6.setCell ⟨K, 15, none⟩ (.slice a6 (L.length + 1) c6)) σ' V' X') := HO
          subst e1
          have hlez : (n : Int) ≤ (c : Nat) := by omega
          have hlen : n ≤ c := by omega
          obtain ⟨v6, hv6⟩ : ∃ v6, v6 = Vr 6 := ⟨_, rfl⟩
          obtain ⟨v7, hv7⟩ : ∃ v7, v7 = Vr 7 := ⟨_, rfl⟩
          rw [← hv6] at r4 d4 d5
          rw [← hv7] at r6 d7 d8
          clear HJ FIN HO hv6 hv7 hle
          go_upto_region 13 with (at_builtin; refine wpList_append_run _ rfl (.tmp 41) (.tmp 42) 62 62 rfl _ _ (.slice a2 (n + 3) c2) w2 rfl rfl r2 ?_)
          go_upto_region 14 with (at_builtin; refine wpList_append_run _ rfl (.tmp 48) (.tmp 50) 55 55 rfl _ _ (.slice a4 (L.length + 1) c4) w4 rfl rfl r4 ?_)
          generalize w4.setCell ⟨K, 14, none⟩ (.slice a4 (L.length + 1) c4) = w5 at *
          go_upto_region 15 with (at_builtin; refine wpList_append_run _ rfl (.tmp 58) (.tmp 60) 55 55 rfl _ _ (.slice a6 (L.length + 1) c6) w6 rfl rfl r6 ?_)
          go_wp2_with fail
          go_ret
          exact ⟨g, c, rfl, N, σ', V', X', HF.out⟩
end Go.Proofs.Ytnblhaeojlpmmaa
