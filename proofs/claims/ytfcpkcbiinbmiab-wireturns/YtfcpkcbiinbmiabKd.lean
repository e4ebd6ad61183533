import Derived.Test.YtfcpkcbiinbmiabKc
import Derived.Test.YtfcpkcbiinbmiabFh
namespace Go.Proofs.Ytfcpkcbiinbmiab
open Go.ChangeShapes Go.WideShapes Go.ChangeAt Go.RowKit Go.ChangeMaps
set_option linter.unusedVariables false
/-- The book, where a list came out of a reader. -/
theorem Bk.str {w w' : World} {σ σ' : Nat → Nat × Nat} {K R D o : Nat} {a b : Option Addr} {ca cb : Nat} {s : RS} {kk : Int} {V V' : Nat → Value} {X : Nat → List Value} {x u : Value} {es hs : List En} (hb : Bk w σ K V X es [] hs) (ho : ∀ e, e ∈ hs → e.o < o) (z1 : (σ R).1 = 0) (z2 : (σ D).1 = 0) (hln : s.bs.length ≤ 20000) (hs' : StR w σ R D K a b ca cb V X o (s.raw kk).1 (s.raw kk).2 w' σ' V' x u) : Bk w' σ' K V' (upd (upd X 2 [x]) 3 [u]) es [⟨o, (s.raw kk).1.length, (s.raw kk).1.map (Value.int .u8)⟩] hs := by
  have x2 : X 2 = [] := List.eq_nil_of_length_eq_zero hb.i.f.len
  have x3 : X 3 = [] := List.eq_nil_of_length_eq_zero hb.i.fw.len
  have bk := hs'.bk
  rw [x2, x3] at bk
  simp only [List.nil_append] at bk
  have ch : Chg w w' (fun k => (σ k).1 = 0 ∨ (σ k).1 = 1) := hs'.ch.mono (fun k _ e => by
    rcases e with (e | e) | e
    · left; rw [e]; exact z1
    · left; rw [e]; exact z2
    · exact .inr e)
  have ent : ∀ {c : Nat} {L : List Value} {zs : List En}, c ≠ 0 → c ≠ 1 → Ent w σ 5 1 c L zs → Ent w' σ' 5 1 c L zs := by
    intro c L zs h0 h1 hE
    have := hE.chgC ch (fun k e => by
      rcases e with e | e
      · rw [e]; exact fun x => h0 x.symm
      · rw [e]; exact fun x => h1 x.symm)
    exact ⟨this.len, fun i y z hy hz => ⟨(this.rw i y z hy hz).1, fun k hk => by rw [hs'.ex k (own_lt (hE.rw i y z hy hz).1 hk)]; exact (this.rw i y z hy hz).2 k hk⟩⟩
  have sing : ∀ {c : Nat} {y : Value}, OwnB w' y (s.raw kk).1 → Lb σ' y (c, o) → Ent w' σ' 5 1 c [y] [⟨o, (s.raw kk).1.length, (s.raw kk).1.map (Value.int .u8)⟩] := by
    intro c y h1 h2
    refine ⟨rfl, fun i z e hz he => ?_⟩
    have : i = 0 := by have := (List.getElem?_eq_some_iff.1 hz).1; simp at this; omega
    subst this
    simp at hz he
    subst hz he
    exact ⟨h1.1, h2⟩
  refine ⟨⟨bk, ?_, ?_, hb.i.fu, hb.i.lo, ?_, ?_, ?_, ?_, ?_, ?_⟩, ?_⟩
  · rw [upd_other _ _ (by decide), upd_other _ _ (by decide)]; exact ent (by decide) (by decide) hb.i.l
  · rw [upd_other _ _ (by decide), upd_other _ _ (by decide)]; exact hb.i.lm
  · rw [upd_other _ _ (by decide), upd_same]; exact sing hs'.ob hs'.lb
  · rw [upd_same]; exact sing hs'.ou hs'.lu
  · rw [upd_other _ _ (by decide), upd_other _ _ (by decide)]; exact hb.i.hl
  · intro j y z hj hy hz
    rw [upd_other _ _ (by decide), upd_other _ _ (by decide)] at hy
    have hE : Ent w σ 5 1 3 (X 4) hs := ⟨hb.i.hl, fun i v e hv he => hb.i.h i v e (Nat.zero_le _) hv he⟩
    exact (ent (by decide) (by decide) hE).rw j y z hy hz
  · have := hb.i.nd
    simp only [List.append_nil] at this
    rw [List.map_append, List.nodup_append]
    refine ⟨this, by simp, fun x hx y hy e => ?_⟩
    simp at hy
    obtain ⟨z, hz, rfl⟩ := List.mem_map.1 hx
    have := ho z hz
    omega
  · intro e he
    rcases List.mem_append.1 he with h' | h'
    · exact hb.i.bys e (by simpa using h')
    · simp at h'
      subst h'
      exact ⟨(s.raw kk).1, rfl, rfl, hs'.ob.2, by have := s.raw_len kk; show (s.raw kk).1.length ≤ 100000000; omega⟩
  · rw [upd_other _ _ (by decide), upd_other _ _ (by decide)]; exact ent (by decide) (by decide) hb.hw
section
variable {w0 w w' : World} {σ σ' : Nat → Nat × Nat} {q : Wh} {k : Nat} {es fs hs : List En} {g : Bool}
theorem TW.rmoved0 {fs' : List En} {V' : Nat → Value} {X' : Nat → List Value} {a b : Option Addr} {ca cb : Nat} {s s' : RS} (h : TW w0 w σ q k es fs hs g) (hp : Pr w σ q.R0 q.E0 a b ca cb s) (hr : IsRS w' q.R0 a ca s') (hd : IsD w' q.E0 b cb s') (hbs : s'.bs = s.bs) (hc : Chg w w' (fun j => (j = q.R0 ∨ j = q.E0) ∨ (σ j).1 = 1)) (hx : ∀ j, j < w.heap.size → (σ j).1 = 0 → σ' j = σ j) (hb : Bk w' σ' q.K V' X' es fs' hs) : TW w0 w' σ' q k es fs' hs g := by
  obtain ⟨v, n, vb, vo, t, pl, P, sz, dn, m0, g0⟩ := h.a0
  obtain ⟨v', n', vb', vo', t', pl', P', sz', dn', m1, g1⟩ := h.a1
  obtain ⟨a1, b1, ca1, cb1, s1, hp1⟩ := h.r1
  obtain ⟨l0, l1, l2, l3⟩ := h.rlt
  have hS0 : ∀ j, ((j = q.R0 ∨ j = q.E0) ∨ (σ j).1 = 1) → σ j ≠ (0, 1) ∧ σ j ≠ (0, 2) ∧ σ j ≠ (0, 3) ∧ σ j ≠ (0, 4) ∧ σ j ≠ (0, 5) ∧ σ j ≠ (0, 6) := fun j e => by
    rcases e with (e | e) | e
    · rw [e, h.z.1]; decide
    · rw [e, h.z.2.1]; decide
    · refine ⟨fun x => ?_, fun x => ?_, fun x => ?_, fun x => ?_, fun x => ?_, fun x => ?_⟩ <;> (rw [x] at e; simp at e)
  have hS1 : ∀ j, ((j = q.R0 ∨ j = q.E0) ∨ (σ j).1 = 1) → sw (σ j) ≠ (0, 1) ∧ sw (σ j) ≠ (0, 2) ∧ sw (σ j) ≠ (0, 3) := fun j e => by
    obtain ⟨_, _, _, e4, e5, e6⟩ := hS0 j e
    exact ⟨fun x => e4 (by rw [← Tn.sw.tt (σ j), x]; rfl), fun x => e5 (by rw [← Tn.sw.tt (σ j), x]; rfl), fun x => e6 (by rw [← Tn.sw.tt (σ j), x]; rfl)⟩
  have mine : PrX w' σ' q.R0 q.E0 := by
    refine ⟨a, b, ca, cb, s', hr, hd, ?_, ?_, fun x o e hl => ?_, fun x o e hl => ?_, by rw [hbs]; exact hp.ln⟩
    · rw [hx _ (hp_lt hp.r.box) hp.zr]; exact hp.zr
    · rw [hx _ (hp_lt hp.d.box) hp.zd]; exact hp.zd
    · rw [hbs] at hl
      have := hp.r.bytes; rw [e] at this; rw [hx x (bs_lt this hl) (by rw [hp.za x o e hl])]; exact hp.za x o e hl
    · rw [hbs] at hl
      have := hp.d.bytes; rw [e] at this; rw [hx x (bs_lt this hl) (by rw [hp.zb x o e hl])]; exact hp.zb x o e hl
  have other : PrX w' σ' q.R1 q.E1 := ⟨a1, b1, ca1, cb1, s1, hp1.move hp (h.nr.1.symm) (h.nr.2.symm) hc hx⟩
  refine ⟨⟨V', X', hb⟩, ⟨v, n, vb, vo, t, pl, P, sz, dn, m0.keep Tn.id hc (fun j e => ⟨(hS0 j e).1, (hS0 j e).2.1, (hS0 j e).2.2.1⟩) hx, g0⟩, ⟨v', n', vb', vo', t', pl', P', sz', dn', m1.keep Tn.sw hc hS1 hx, g1⟩, mine, other, h.nr, ⟨?_, ?_, ?_, ?_⟩, h.hi, h.bel.trans (hc.below h.bel.size (fun j hj e => ?_)), fun b hb' => ?_⟩
  · rw [hx _ l0 (by rw [h.z.1])]; exact h.z.1
  · rw [hx _ l1 (by rw [h.z.2.1])]; exact h.z.2.1
  · rw [hx _ l2 (by rw [h.z.2.2.1])]; exact h.z.2.2.1
  · rw [hx _ l3 (by rw [h.z.2.2.2])]; exact h.z.2.2.2
  · rcases e with (e | e) | e
    · have := h.hi.1; omega
    · have := h.hi.2.1; omega
    · rw [h.lo j hj] at e; simp at e
  · rw [hx b (Nat.lt_of_lt_of_le hb' h.bel.size) (by rw [h.lo b hb'])]; exact h.lo b hb'
theorem TW.reads0 (h : TW w0 w σ q k es [] hs g) (o : Nat) (ho : ∀ e, e ∈ hs → e.o < o) (kd nn kk : Int) (v1 v2 : Value) (hk2 : kk ≤ 9223372036854775807) :
    Calls Try.prog 13 #[.agg #[.pointer (some ⟨q.R0, 0, none⟩), .pointer (some ⟨q.E0, 0, none⟩)], .agg #[.int .i64 kd, .int .u64 nn, .int .i64 kk, v1, v2], .pointer (some ⟨q.K, 0, none⟩)] w fun r w' => r = .returned (.bool true) ∧ ∃ σ' fs', TW w0 w' σ' q k es fs' hs g ∧ fs'.length ≤ 2 ∧ (∀ e, e ∈ fs' → o ≤ e.o ∧ e.o < o + 2) ∧ Chg w w' (fun j => (j = q.R0 ∨ j = q.E0) ∨ (σ j).1 = 1) ∧ (∀ j, j < w.heap.size → (σ j).1 = 0 → σ' j = σ j) := by
  obtain ⟨a, b, ca, cb, s, hp⟩ := h.r0
  obtain ⟨V, X, hb⟩ := h.bk
  have stp : ∀ {w' : World} {s' : RS} {r : Ending}, Stp w w' q.R0 q.E0 a b ca cb s' r → s'.bs = s.bs → r = .returned (.bool true) ∧ ∃ σ' fs', TW w0 w' σ' q k es fs' hs g ∧ fs'.length ≤ 2 ∧ (∀ e, e ∈ fs' → o ≤ e.o ∧ e.o < o + 2) ∧ Chg w w' (fun j => (j = q.R0 ∨ j = q.E0) ∨ (σ j).1 = 1) ∧ (∀ j, j < w.heap.size → (σ j).1 = 0 → σ' j = σ j) := by
    rintro w' s' r ⟨e, q1, q2, q3⟩ hbs
    have hc : Chg w w' (fun j => (j = q.R0 ∨ j = q.E0) ∨ (σ j).1 = 1) := q3.mono (fun _ _ e => .inl e)
    refine ⟨e, σ, [], h.rmoved0 hp q1 q2 hbs hc (fun _ _ _ => rfl) (hb.chg q3 (fun j e => ?_)), by simp, by simp, hc, fun _ _ _ => rfl⟩
    rcases e with e | e
    · rw [e]; exact hp.zr
    · rw [e]; exact hp.zd
  by_cases e1 : kd = 1
  · subst e1; exact (reads_n1 w q.R0 q.E0 q.K a b ca cb s nn kk v1 v2 hp.r hp.d).mono fun r w' x => stp x (s.take_bs _)
  by_cases e2 : kd = 2
  · subst e2; exact (reads_n2 w q.R0 q.E0 q.K a b ca cb s nn kk v1 v2 hp.r hp.d).mono fun r w' x => stp x (s.take_bs _)
  by_cases e3 : kd = 3
  · subst e3; exact (reads_n3 w q.R0 q.E0 q.K a b ca cb s nn kk v1 v2 hp.r hp.d).mono fun r w' x => stp x (s.take_bs _)
  by_cases e4 : kd = 4
  · subst e4; exact (reads_n4 w q.R0 q.E0 q.K a b ca cb s nn kk v1 v2 hp.r hp.d).mono fun r w' x => stp x (s.take_bs _)
  by_cases e5 : kd = 5
  · subst e5
    have l2 : (X 2).length = 0 := hb.i.f.len
    have l3 : (X 3).length = 0 := hb.i.fw.len
    refine (reads_raw w q.R0 q.E0 q.K a b ca cb s nn kk v1 v2 σ V X o hk2 hb.i.m ⟨by rw [hp.zr]; decide, fun x y e hl => by rw [hp.za x y e hl]; decide⟩ ⟨by rw [hp.zd]; decide, fun x y e hl => by rw [hp.zb x y e hl]; decide⟩ (by omega) (by omega) hp.r hp.d).mono ?_
    rintro r w' ⟨rfl, σ', V', x, u, hs'⟩
    exact ⟨rfl, σ', _, h.rmoved0 hp hs'.rs hs'.ds (RS.raw_bs _ _) hs'.ch (fun j hj _ => hs'.ex j hj) (hb.str ho hp.zr hp.zd hp.ln hs'), by simp, by simp, hs'.ch, fun j hj _ => hs'.ex j hj⟩
  by_cases e6 : kd = 6
  · subst e6; exact (reads_text w q.R0 q.E0 q.K a b ca cb s nn kk v1 v2 hk2 hp.r hp.d).mono fun r w' x => stp x (s.text_bs _)
  by_cases e7 : kd = 7
  · subst e7; exact (reads_pad w q.R0 q.E0 q.K a b ca cb s nn kk v1 v2 hp.r hp.d).mono fun r w' x => stp x (s.pad_bs _)
  by_cases e9 : kd = 9
  · subst e9; exact (reads_end w q.R0 q.E0 q.K a b ca cb s nn kk v1 v2 hp.r hp.d).mono fun r w' x => stp x s.end_bs
  by_cases e11 : kd = 11
  · subst e11; exact (reads_fail w q.R0 q.E0 q.K a b ca cb s nn kk v1 v2 hp.r hp.d).mono fun r w' x => stp x (s.fail_bs _ _)
  exact (reads_none w q.R0 q.E0 q.K a b ca cb s nn kk v1 v2 kd (by simpa using e1) (by simpa using e2) (by simpa using e3) (by simpa using e4) (by simpa using e5) (by simpa using e6) (by simpa using e7) (by simpa using e9) (by simpa using e11) hp.r hp.d).mono fun r w' x => stp x rfl
theorem TW.alike0 (h : TW w0 w σ q k es fs hs g) : Calls Try.prog 14 #[.agg #[.pointer (some ⟨q.R0, 0, none⟩), .pointer (some ⟨q.E0, 0, none⟩)]] w fun r w' => r = .returned (.bool true) ∧ Kp w w' := by
  obtain ⟨a, b, ca, cb, s, hp⟩ := h.r0
  exact alike_any w q.R0 q.E0 a b ca cb s hp.r hp.d
theorem TW.rmoved1 {fs' : List En} {V' : Nat → Value} {X' : Nat → List Value} {a b : Option Addr} {ca cb : Nat} {s s' : RS} (h : TW w0 w σ q k es fs hs g) (hp : Pr w σ q.R1 q.E1 a b ca cb s) (hr : IsRS w' q.R1 a ca s') (hd : IsD w' q.E1 b cb s') (hbs : s'.bs = s.bs) (hc : Chg w w' (fun j => (j = q.R1 ∨ j = q.E1) ∨ (σ j).1 = 1)) (hx : ∀ j, j < w.heap.size → (σ j).1 = 0 → σ' j = σ j) (hb : Bk w' σ' q.K V' X' es fs' hs) : TW w0 w' σ' q k es fs' hs g := by
  obtain ⟨v, n, vb, vo, t, pl, P, sz, dn, m0, g0⟩ := h.a0
  obtain ⟨v', n', vb', vo', t', pl', P', sz', dn', m1, g1⟩ := h.a1
  obtain ⟨a1, b1, ca1, cb1, s1, hp1⟩ := h.r0
  obtain ⟨l0, l1, l2, l3⟩ := h.rlt
  have hS0 : ∀ j, ((j = q.R1 ∨ j = q.E1) ∨ (σ j).1 = 1) → σ j ≠ (0, 1) ∧ σ j ≠ (0, 2) ∧ σ j ≠ (0, 3) ∧ σ j ≠ (0, 4) ∧ σ j ≠ (0, 5) ∧ σ j ≠ (0, 6) := fun j e => by
    rcases e with (e | e) | e
    · rw [e, h.z.2.2.1]; decide
    · rw [e, h.z.2.2.2]; decide
    · refine ⟨fun x => ?_, fun x => ?_, fun x => ?_, fun x => ?_, fun x => ?_, fun x => ?_⟩ <;> (rw [x] at e; simp at e)
  have hS1 : ∀ j, ((j = q.R1 ∨ j = q.E1) ∨ (σ j).1 = 1) → sw (σ j) ≠ (0, 1) ∧ sw (σ j) ≠ (0, 2) ∧ sw (σ j) ≠ (0, 3) := fun j e => by
    obtain ⟨_, _, _, e4, e5, e6⟩ := hS0 j e
    exact ⟨fun x => e4 (by rw [← Tn.sw.tt (σ j), x]; rfl), fun x => e5 (by rw [← Tn.sw.tt (σ j), x]; rfl), fun x => e6 (by rw [← Tn.sw.tt (σ j), x]; rfl)⟩
  have mine : PrX w' σ' q.R1 q.E1 := by
    refine ⟨a, b, ca, cb, s', hr, hd, ?_, ?_, fun x o e hl => ?_, fun x o e hl => ?_, by rw [hbs]; exact hp.ln⟩
    · rw [hx _ (hp_lt hp.r.box) hp.zr]; exact hp.zr
    · rw [hx _ (hp_lt hp.d.box) hp.zd]; exact hp.zd
    · rw [hbs] at hl
      have := hp.r.bytes; rw [e] at this; rw [hx x (bs_lt this hl) (by rw [hp.za x o e hl])]; exact hp.za x o e hl
    · rw [hbs] at hl
      have := hp.d.bytes; rw [e] at this; rw [hx x (bs_lt this hl) (by rw [hp.zb x o e hl])]; exact hp.zb x o e hl
  have other : PrX w' σ' q.R0 q.E0 := ⟨a1, b1, ca1, cb1, s1, hp1.move hp (h.nr.1) (h.nr.2) hc hx⟩
  refine ⟨⟨V', X', hb⟩, ⟨v, n, vb, vo, t, pl, P, sz, dn, m0.keep Tn.id hc (fun j e => ⟨(hS0 j e).1, (hS0 j e).2.1, (hS0 j e).2.2.1⟩) hx, g0⟩, ⟨v', n', vb', vo', t', pl', P', sz', dn', m1.keep Tn.sw hc hS1 hx, g1⟩, other, mine, h.nr, ⟨?_, ?_, ?_, ?_⟩, h.hi, h.bel.trans (hc.below h.bel.size (fun j hj e => ?_)), fun b hb' => ?_⟩
  · rw [hx _ l0 (by rw [h.z.1])]; exact h.z.1
  · rw [hx _ l1 (by rw [h.z.2.1])]; exact h.z.2.1
  · rw [hx _ l2 (by rw [h.z.2.2.1])]; exact h.z.2.2.1
  · rw [hx _ l3 (by rw [h.z.2.2.2])]; exact h.z.2.2.2
  · rcases e with (e | e) | e
    · have := h.hi.2.2.1; omega
    · have := h.hi.2.2.2; omega
    · rw [h.lo j hj] at e; simp at e
  · rw [hx b (Nat.lt_of_lt_of_le hb' h.bel.size) (by rw [h.lo b hb'])]; exact h.lo b hb'
theorem TW.reads1 (h : TW w0 w σ q k es [] hs g) (o : Nat) (ho : ∀ e, e ∈ hs → e.o < o) (kd nn kk : Int) (v1 v2 : Value) (hk2 : kk ≤ 9223372036854775807) :
    Calls Try.prog 13 #[.agg #[.pointer (some ⟨q.R1, 0, none⟩), .pointer (some ⟨q.E1, 0, none⟩)], .agg #[.int .i64 kd, .int .u64 nn, .int .i64 kk, v1, v2], .pointer (some ⟨q.K, 0, none⟩)] w fun r w' => r = .returned (.bool true) ∧ ∃ σ' fs', TW w0 w' σ' q k es fs' hs g ∧ fs'.length ≤ 2 ∧ (∀ e, e ∈ fs' → o ≤ e.o ∧ e.o < o + 2) ∧ Chg w w' (fun j => (j = q.R1 ∨ j = q.E1) ∨ (σ j).1 = 1) ∧ (∀ j, j < w.heap.size → (σ j).1 = 0 → σ' j = σ j) := by
  obtain ⟨a, b, ca, cb, s, hp⟩ := h.r1
  obtain ⟨V, X, hb⟩ := h.bk
  have stp : ∀ {w' : World} {s' : RS} {r : Ending}, Stp w w' q.R1 q.E1 a b ca cb s' r → s'.bs = s.bs → r = .returned (.bool true) ∧ ∃ σ' fs', TW w0 w' σ' q k es fs' hs g ∧ fs'.length ≤ 2 ∧ (∀ e, e ∈ fs' → o ≤ e.o ∧ e.o < o + 2) ∧ Chg w w' (fun j => (j = q.R1 ∨ j = q.E1) ∨ (σ j).1 = 1) ∧ (∀ j, j < w.heap.size → (σ j).1 = 0 → σ' j = σ j) := by
    rintro w' s' r ⟨e, q1, q2, q3⟩ hbs
    have hc : Chg w w' (fun j => (j = q.R1 ∨ j = q.E1) ∨ (σ j).1 = 1) := q3.mono (fun _ _ e => .inl e)
    refine ⟨e, σ, [], h.rmoved1 hp q1 q2 hbs hc (fun _ _ _ => rfl) (hb.chg q3 (fun j e => ?_)), by simp, by simp, hc, fun _ _ _ => rfl⟩
    rcases e with e | e
    · rw [e]; exact hp.zr
    · rw [e]; exact hp.zd
  by_cases e1 : kd = 1
  · subst e1; exact (reads_n1 w q.R1 q.E1 q.K a b ca cb s nn kk v1 v2 hp.r hp.d).mono fun r w' x => stp x (s.take_bs _)
  by_cases e2 : kd = 2
  · subst e2; exact (reads_n2 w q.R1 q.E1 q.K a b ca cb s nn kk v1 v2 hp.r hp.d).mono fun r w' x => stp x (s.take_bs _)
  by_cases e3 : kd = 3
  · subst e3; exact (reads_n3 w q.R1 q.E1 q.K a b ca cb s nn kk v1 v2 hp.r hp.d).mono fun r w' x => stp x (s.take_bs _)
  by_cases e4 : kd = 4
  · subst e4; exact (reads_n4 w q.R1 q.E1 q.K a b ca cb s nn kk v1 v2 hp.r hp.d).mono fun r w' x => stp x (s.take_bs _)
  by_cases e5 : kd = 5
  · subst e5
    have l2 : (X 2).length = 0 := hb.i.f.len
    have l3 : (X 3).length = 0 := hb.i.fw.len
    refine (reads_raw w q.R1 q.E1 q.K a b ca cb s nn kk v1 v2 σ V X o hk2 hb.i.m ⟨by rw [hp.zr]; decide, fun x y e hl => by rw [hp.za x y e hl]; decide⟩ ⟨by rw [hp.zd]; decide, fun x y e hl => by rw [hp.zb x y e hl]; decide⟩ (by omega) (by omega) hp.r hp.d).mono ?_
    rintro r w' ⟨rfl, σ', V', x, u, hs'⟩
    exact ⟨rfl, σ', _, h.rmoved1 hp hs'.rs hs'.ds (RS.raw_bs _ _) hs'.ch (fun j hj _ => hs'.ex j hj) (hb.str ho hp.zr hp.zd hp.ln hs'), by simp, by simp, hs'.ch, fun j hj _ => hs'.ex j hj⟩
  by_cases e6 : kd = 6
  · subst e6; exact (reads_text w q.R1 q.E1 q.K a b ca cb s nn kk v1 v2 hk2 hp.r hp.d).mono fun r w' x => stp x (s.text_bs _)
  by_cases e7 : kd = 7
  · subst e7; exact (reads_pad w q.R1 q.E1 q.K a b ca cb s nn kk v1 v2 hp.r hp.d).mono fun r w' x => stp x (s.pad_bs _)
  by_cases e9 : kd = 9
  · subst e9; exact (reads_end w q.R1 q.E1 q.K a b ca cb s nn kk v1 v2 hp.r hp.d).mono fun r w' x => stp x s.end_bs
  by_cases e11 : kd = 11
  · subst e11; exact (reads_fail w q.R1 q.E1 q.K a b ca cb s nn kk v1 v2 hp.r hp.d).mono fun r w' x => stp x (s.fail_bs _ _)
  exact (reads_none w q.R1 q.E1 q.K a b ca cb s nn kk v1 v2 kd (by simpa using e1) (by simpa using e2) (by simpa using e3) (by simpa using e4) (by simpa using e5) (by simpa using e6) (by simpa using e7) (by simpa using e9) (by simpa using e11) hp.r hp.d).mono fun r w' x => stp x rfl
theorem TW.alike1 (h : TW w0 w σ q k es fs hs g) : Calls Try.prog 14 #[.agg #[.pointer (some ⟨q.R1, 0, none⟩), .pointer (some ⟨q.E1, 0, none⟩)]] w fun r w' => r = .returned (.bool true) ∧ Kp w w' := by
  obtain ⟨a, b, ca, cb, s, hp⟩ := h.r1
  exact alike_any w q.R1 q.E1 a b ca cb s hp.r hp.d
end
end Go.Proofs.Ytfcpkcbiinbmiab
