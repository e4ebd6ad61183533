import Derived.Test.YtfcpkcbiinbmiaaGi
namespace Go.Proofs.Ytfcpkcbiinbmiaa
open Go.ChangeShapes Go.WideShapes Go.ChangeAt Go.RowKit
set_option linter.unusedVariables false
def encP (q : Nat × Nat) : List Value := [.pointer (some ⟨q.1, 0, none⟩), .pointer (some ⟨q.2, 0, none⟩)]
/-- The world of the statement: the book, the pairs, their list; nothing that came in has changed. -/
structure WI (w0 w : World) (σ : Nat → Nat × Nat) (B : Nat) (v : Value) (rd : List (Nat × Nat)) (es fs hs : List En) : Prop where
  bk : ∃ V X, Bk w σ B V X es fs hs
  pr : ∀ q, q ∈ rd → PrX w σ q.1 q.2
  n1 : (rd.map (fun q => q.1)).Nodup
  n2 : (rd.map (fun q => q.2)).Nodup
  row : w.ownsRow 0 77 2 v rd.length (rd.flatMap encP)
  rz : ∀ b, v.ownBlock = some b → σ b = (0, 7) ∧ w0.heap.size ≤ b
  bel : Below w0.heap.size w0 w
  lo : ∀ b, b < w0.heap.size → (σ b).1 = 0
  hi : ∀ q, q ∈ rd → w0.heap.size ≤ q.1 ∧ w0.heap.size ≤ q.2
section
variable {w0 w w' : World} {σ σ' : Nat → Nat × Nat} {B : Nat} {v : Value} {rd : List (Nat × Nat)} {es fs hs : List En}
theorem WI.sz (h : WI w0 w σ B v rd es fs hs) : w0.heap.size ≤ w.heap.size := h.bel.size
theorem WI.rz0 (h : WI w0 w σ B v rd es fs hs) {b : Nat} (hb : v.ownBlock = some b) : (σ b).1 = 0 := by rw [(h.rz b hb).1]
theorem WI.kp (h : WI w0 w σ B v rd es fs hs) (hk : Kp w w') : WI w0 w' σ B v rd es fs hs := by
  obtain ⟨V, X, hb⟩ := h.bk
  refine ⟨⟨V, X, hb.kp hk⟩, fun q hq => ?_, h.n1, h.n2, Chg.owns hk h.row (fun _ _ x => x), h.rz, h.bel.trans (Chg.below hk h.sz (by simp)), h.lo, h.hi⟩
  obtain ⟨a, b, ca, cb, s, hp⟩ := h.pr q hq
  exact ⟨a, b, ca, cb, s, hp.kp hk⟩
/-- The book has looked. -/
theorem WI.sf {es' fs' hs' : List En} {V' : Nat → Value} {X' : Nat → List Value} (h : WI w0 w σ B v rd es fs hs) (hs9 : Sf w σ w' σ') (hb : Bk w' σ' B V' X' es' fs' hs') : WI w0 w' σ' B v rd es' fs' hs' := by
  refine ⟨⟨V', X', hb⟩, fun q hq => ?_, h.n1, h.n2, hs9.ch.owns h.row (fun b hb e => e (h.rz0 hb)), fun b hb => ⟨?_, (h.rz b hb).2⟩, h.bel.trans (hs9.ch.below h.sz (fun k hk e => e (h.lo k hk))), fun b hb => ?_, h.hi⟩
  · obtain ⟨a, b, ca, cb, s, hp⟩ := h.pr q hq
    exact ⟨a, b, ca, cb, s, hp.sf hs9⟩
  · rw [hs9.ex b (own_lt h.row hb) (h.rz0 hb)]; exact (h.rz b hb).1
  · rw [hs9.ex b (Nat.lt_of_lt_of_le hb h.sz) (h.lo b hb)]; exact h.lo b hb
theorem own_not_box {w : World} {e size n b T : Nat} {v : Value} {xs : List Value} {cs : Array Value} (h : w.ownsRow 0 e size v n xs) (hb : w.heap[b]? = some (.cells cs T (0, 0))) (hT : T ≠ e) : v.ownBlock ≠ some b := fun e' => by
  obtain ⟨cur, hg⟩ := own_tp h e'
  rw [hb] at hg
  simp at hg
  exact hT hg.2
/-- One pair has moved; perhaps the book has one more list. -/
theorem WI.moved {fs' : List En} {V' : Nat → Value} {X' : Nat → List Value} {R D : Nat} {a b : Option Addr} {ca cb : Nat} {s s' : RS} (h : WI w0 w σ B v rd es fs hs) (hq : (R, D) ∈ rd) (hp : Pr w σ R D a b ca cb s) (hr : IsRS w' R a ca s') (hd : IsD w' D b cb s') (hbs : s'.bs = s.bs) (hc : Chg w w' (fun k => (k = R ∨ k = D) ∨ (σ k).1 = 1)) (hx : ∀ k, k < w.heap.size → (σ k).1 = 0 → σ' k = σ k) (hb : Bk w' σ' B V' X' es fs' hs) : WI w0 w' σ' B v rd es fs' hs := by
  have ne1 : v.ownBlock ≠ some R := own_not_box h.row hp.r.box (by decide)
  have ne2 : v.ownBlock ≠ some D := own_not_box h.row hp.d.box (by decide)
  refine ⟨⟨V', X', hb⟩, fun q hq' => ?_, h.n1, h.n2, hc.owns h.row (fun b hb e => ?_), fun b hb => ⟨?_, (h.rz b hb).2⟩, h.bel.trans (hc.below h.sz (fun k hk e => ?_)), fun b hb => ?_, h.hi⟩
  · by_cases e : q = (R, D)
    · subst e
      refine ⟨a, b, ca, cb, s', hr, hd, ?_, ?_, fun x o e hl => ?_, fun x o e hl => ?_, by rw [hbs]; exact hp.ln⟩
      · show (σ' R).1 = 0
        rw [hx R (hp_lt hp.r.box) hp.zr]; exact hp.zr
      · show (σ' D).1 = 0
        rw [hx D (hp_lt hp.d.box) hp.zd]; exact hp.zd
      · rw [hbs] at hl
        have := hp.r.bytes; rw [e] at this; rw [hx x (bs_lt this hl) (by rw [hp.za x o e hl])]; exact hp.za x o e hl
      · rw [hbs] at hl
        have := hp.d.bytes; rw [e] at this; rw [hx x (bs_lt this hl) (by rw [hp.zb x o e hl])]; exact hp.zb x o e hl
    · obtain ⟨a1, b1, ca1, cb1, s1, hp1⟩ := h.pr q hq'
      obtain ⟨i, hi, ei⟩ := List.mem_iff_getElem.1 hq'
      obtain ⟨j, hj, ej⟩ := List.mem_iff_getElem.1 hq
      have hij : i ≠ j := fun e' => e (by subst e'; rw [← ei, ej])
      refine ⟨a1, b1, ca1, cb1, s1, hp1.move hp (fun e' => hij ?_) (fun e' => hij ?_) hc hx⟩
      · refine (List.getElem?_inj (i := i) (j := j) (by simpa using hi) h.n1).1 ?_
        simp [hi, hj, ei, ej, e']
      · refine (List.getElem?_inj (i := i) (j := j) (by simpa using hi) h.n2).1 ?_
        simp [hi, hj, ei, ej, e']
  · rcases e with (e | e) | e
    · exact ne1 (by rw [hb, e])
    · exact ne2 (by rw [hb, e])
    · rw [h.rz0 hb] at e; simp at e
  · rw [hx b (own_lt h.row hb) (h.rz0 hb)]; exact (h.rz b hb).1
  · rcases e with (e | e) | e
    · have := (h.hi _ hq).1; simp at this; omega
    · have := (h.hi _ hq).2; simp at this; omega
    · rw [h.lo k hk] at e; simp at e
  · rw [hx b (Nat.lt_of_lt_of_le hb h.sz) (h.lo b hb)]; exact h.lo b hb
end
/-- What a step leaves. -/
def Done (w0 w' : World) (B : Nat) (v : Value) (rd : List (Nat × Nat)) (es hs : List En) (o : Nat) : Prop := ∃ σ' fs', WI w0 w' σ' B v rd es fs' hs ∧ fs'.length ≤ 1 ∧ ∀ e, e ∈ fs' → e.o = o
section
variable {w0 w w' : World} {σ σ' : Nat → Nat × Nat} {B : Nat} {v : Value} {rd : List (Nat × Nat)} {es hs : List En}
theorem WI.stp {R D o : Nat} {a b : Option Addr} {ca cb : Nat} {s s' : RS} {r : Ending} (h : WI w0 w σ B v rd es [] hs) (hq : (R, D) ∈ rd) (hp : Pr w σ R D a b ca cb s) (hs' : Stp w w' R D a b ca cb s' r) (hbs : s'.bs = s.bs) : r = .returned (.bool true) ∧ Done w0 w' B v rd es hs o := by
  obtain ⟨e, q1, q2, q3⟩ := hs'
  obtain ⟨V, X, hb⟩ := h.bk
  refine ⟨e, σ, [], h.moved hq hp q1 q2 hbs (q3.mono (fun _ _ e => .inl e)) (fun _ _ _ => rfl) (hb.chg q3 (fun k e => ?_)), by simp, by simp⟩
  rcases e with e | e
  · rw [e]; exact hp.zr
  · rw [e]; exact hp.zd
theorem WI.str {R D o : Nat} {a b : Option Addr} {ca cb : Nat} {s : RS} {k : Int} {V V' : Nat → Value} {X : Nat → List Value} {x u : Value} (h : WI w0 w σ B v rd es [] hs) (hb : Bk w σ B V X es [] hs) (ho : ∀ e, e ∈ hs → e.o < o) (hq : (R, D) ∈ rd) (hp : Pr w σ R D a b ca cb s) (hs' : StR w σ R D B a b ca cb V X o (s.raw k).1 (s.raw k).2 w' σ' V' x u) : Done w0 w' B v rd es hs o := by
  have x2 : X 2 = [] := List.eq_nil_of_length_eq_zero hb.i.f.len
  have x3 : X 3 = [] := List.eq_nil_of_length_eq_zero hb.i.fw.len
  have bk := hs'.bk
  rw [x2, x3] at bk
  simp only [List.nil_append] at bk
  have ch : Chg w w' (fun k => (σ k).1 = 0 ∨ (σ k).1 = 1) := hs'.ch.mono (fun k _ e => by
    rcases e with (e | e) | e
    · left; rw [e]; exact hp.zr
    · left; rw [e]; exact hp.zd
    · exact .inr e)
  have ent : ∀ {c : Nat} {L : List Value} {zs : List En}, c ≠ 0 → c ≠ 1 → Ent w σ 5 1 c L zs → Ent w' σ' 5 1 c L zs := by
    intro c L zs h0 h1 hE
    have := hE.chgC ch (fun k e => by
      rcases e with e | e
      · rw [e]; exact fun x => h0 x.symm
      · rw [e]; exact fun x => h1 x.symm)
    exact ⟨this.len, fun i y z hy hz => ⟨(this.rw i y z hy hz).1, fun k hk => by rw [hs'.ex k (own_lt (hE.rw i y z hy hz).1 hk)]; exact (this.rw i y z hy hz).2 k hk⟩⟩
  have sing : ∀ {c : Nat} {y : Value}, OwnB w' y (s.raw k).1 → Lb σ' y (c, o) → Ent w' σ' 5 1 c [y] [⟨o, (s.raw k).1.length, (s.raw k).1.map (Value.int .u8)⟩] := by
    intro c y h1 h2
    refine ⟨rfl, fun i z e hz he => ?_⟩
    have : i = 0 := by have := (List.getElem?_eq_some_iff.1 hz).1; simp at this; omega
    subst this
    simp at hz he
    subst hz he
    exact ⟨h1.1, h2⟩
  refine ⟨σ', [⟨o, (s.raw k).1.length, (s.raw k).1.map (Value.int .u8)⟩], h.moved hq hp hs'.rs hs'.ds (RS.raw_bs _ _) hs'.ch (fun k hk _ => hs'.ex k hk) (V' := V') (X' := upd (upd X 2 [x]) 3 [u]) ⟨⟨bk, ?_, ?_, hb.i.fu, hb.i.lo, ?_, ?_, ?_, ?_, ?_, ?_⟩, ?_⟩, by simp, by simp⟩
  · rw [upd_other _ _ (by decide), upd_other _ _ (by decide)]; exact ent (by decide) (by decide) hb.i.l
  · rw [upd_other _ _ (by decide), upd_other _ _ (by decide)]; exact hb.i.lm
  · rw [upd_other _ _ (by decide), upd_same]; exact sing hs'.ob hs'.lb
  · rw [upd_same]; exact sing hs'.ou hs'.lu
  · rw [upd_other _ _ (by decide), upd_other _ _ (by decide)]; exact hb.i.hl
  · intro j y z hj hy hz
    rw [upd_other _ _ (by decide), upd_other _ _ (by decide)] at hy
    have hE : Ent w σ 5 1 3 (X 4) hs := ⟨hb.i.hl, fun i v e hv he => hb.i.h i v e (Nat.zero_le _) hv he⟩
    exact (ent (by decide) (by decide) hE).rw j y z hy hz
  · have := hb.i.nd
    simp only [List.append_nil] at this
    rw [List.map_append, List.nodup_append]
    refine ⟨this, by simp, fun x hx y hy e => ?_⟩
    simp at hy
    obtain ⟨z, hz, rfl⟩ := List.mem_map.1 hx
    have := ho z hz
    omega
  · intro e he
    rcases List.mem_append.1 he with h' | h'
    · exact hb.i.bys e (by simpa using h')
    · simp at h'
      subst h'
      exact ⟨(s.raw k).1, rfl, rfl, hs'.ob.2, Nat.le_trans (s.raw_len k) hp.ln⟩
  · rw [upd_other _ _ (by decide), upd_other _ _ (by decide)]; exact ent (by decide) (by decide) hb.hw
/-- One call of a reader, whatever it is. -/
theorem reads_any {R D o : Nat} {kd n k : Int} {v1 v2 : Value} (h : WI w0 w σ B v rd es [] hs) (hq : (R, D) ∈ rd) (ho : ∀ e, e ∈ hs → e.o < o) (hk : k ≤ 9223372036854775807) :
    Calls Try.prog 40 #[.agg #[.pointer (some ⟨R, 0, none⟩), .pointer (some ⟨D, 0, none⟩)], .agg #[.int .i64 kd, .int .u64 n, .int .i64 k, v1, v2], .pointer (some ⟨B, 0, none⟩)] w fun r w' => r = .returned (.bool true) ∧ Done w0 w' B v rd es hs o := by
  obtain ⟨a, b, ca, cb, s, hp⟩ := h.pr _ hq
  by_cases e1 : kd = 1
  · subst e1; exact (reads_n1 w R D B a b ca cb s n k v1 v2 hp.r hp.d).mono fun r w' x => h.stp hq hp x (s.take_bs _)
  by_cases e2 : kd = 2
  · subst e2; exact (reads_n2 w R D B a b ca cb s n k v1 v2 hp.r hp.d).mono fun r w' x => h.stp hq hp x (s.take_bs _)
  by_cases e3 : kd = 3
  · subst e3; exact (reads_n3 w R D B a b ca cb s n k v1 v2 hp.r hp.d).mono fun r w' x => h.stp hq hp x (s.take_bs _)
  by_cases e4 : kd = 4
  · subst e4; exact (reads_n4 w R D B a b ca cb s n k v1 v2 hp.r hp.d).mono fun r w' x => h.stp hq hp x (s.take_bs _)
  by_cases e5 : kd = 5
  · subst e5
    obtain ⟨V, X, hb⟩ := h.bk
    have l2 : (X 2).length = 0 := hb.i.f.len
    have l3 : (X 3).length = 0 := hb.i.fw.len
    refine (reads_raw w R D B a b ca cb s n k v1 v2 σ V X o hk hb.i.m ⟨by rw [hp.zr]; decide, fun x y e hl => by rw [hp.za x y e hl]; decide⟩ ⟨by rw [hp.zd]; decide, fun x y e hl => by rw [hp.zb x y e hl]; decide⟩ (by omega) (by omega) hp.r hp.d).mono ?_
    rintro r w' ⟨rfl, σ', V', x, u, hs'⟩
    exact ⟨rfl, h.str hb ho hq hp hs'⟩
  by_cases e6 : kd = 6
  · subst e6; exact (reads_text w R D B a b ca cb s n k v1 v2 hk hp.r hp.d).mono fun r w' x => h.stp hq hp x (s.text_bs _)
  by_cases e7 : kd = 7
  · subst e7; exact (reads_pad w R D B a b ca cb s n k v1 v2 hp.r hp.d).mono fun r w' x => h.stp hq hp x (s.pad_bs _)
  by_cases e9 : kd = 9
  · subst e9; exact (reads_end w R D B a b ca cb s n k v1 v2 hp.r hp.d).mono fun r w' x => h.stp hq hp x s.end_bs
  by_cases e11 : kd = 11
  · subst e11; exact (reads_fail w R D B a b ca cb s n k v1 v2 hp.r hp.d).mono fun r w' x => h.stp hq hp x (s.fail_bs _ _)
  exact (reads_none w R D B a b ca cb s n k v1 v2 kd (by simpa using e1) (by simpa using e2) (by simpa using e3) (by simpa using e4) (by simpa using e5) (by simpa using e6) (by simpa using e7) (by simpa using e9) (by simpa using e11) hp.r hp.d).mono fun r w' x => h.stp hq hp x rfl
end
end Go.Proofs.Ytfcpkcbiinbmiaa
