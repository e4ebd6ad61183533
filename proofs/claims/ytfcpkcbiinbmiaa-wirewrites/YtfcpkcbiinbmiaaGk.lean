import Derived.Test.YtfcpkcbiinbmiaaGh
namespace Go.Proofs.Ytfcpkcbiinbmiaa
open Go.ChangeShapes Go.WideShapes Go.ChangeAt Go.RowKit
set_option linter.unusedVariables false
theorem RS.fail_bs (s : RS) (e p : Int) : (s.fail e p).bs = s.bs := rfl
theorem RS.counted_bs (s : RS) (k m : Nat) : (s.counted k m).2.bs = s.bs := by
  unfold RS.counted
  split
  · rw [RS.take_bs, RS.fail_bs]; exact s.take_bs k
  · split
    · rw [RS.take_bs, RS.fail_bs]; exact s.take_bs k
    · rw [RS.take_bs]; exact s.take_bs k
theorem RS.text_bs (s : RS) (k : Int) : (s.text k).2.bs = s.bs := by
  unfold RS.text
  split
  · rfl
  · exact s.counted_bs _ _
theorem RS.padded_bs (s : RS) (q : List Int × RS) : (s.padded q).bs = q.2.bs := by
  unfold RS.padded
  split <;> rfl
theorem RS.pad_bs (s : RS) (k : Int) : (s.pad k).bs = s.bs := by
  unfold RS.pad
  split
  · rw [RS.padded_bs]; exact s.take_bs _
  · rfl
theorem RS.end_bs (s : RS) : s.end.bs = s.bs := by
  unfold RS.end
  split <;> rfl
theorem RS.take_len2 (s : RS) (k : Nat) : (s.take k).1.length ≤ s.bs.length := by
  unfold RS.take
  split
  · simp
  · split
    · simp
    · simp; omega
theorem RS.raw_len (s : RS) (k : Int) : (s.raw k).1.length ≤ s.bs.length := by
  unfold RS.raw
  split
  · simp
  · exact s.take_len2 _
theorem RS.counted_len (s : RS) (k m : Nat) : (s.counted k m).1.length ≤ s.bs.length := by
  have hb := s.take_bs k
  unfold RS.counted
  split
  · refine Nat.le_trans (RS.take_len2 _ _) ?_
    rw [RS.fail_bs]
    exact Nat.le_of_eq (by rw [hb])
  · split
    · refine Nat.le_trans (RS.take_len2 _ _) ?_
      rw [RS.fail_bs]
      exact Nat.le_of_eq (by rw [hb])
    · refine Nat.le_trans (RS.take_len2 _ _) ?_
      exact Nat.le_of_eq (by rw [hb])
/-- A pair of readers in one state, none of whose blocks is the book's. -/
structure Pr (w : World) (σ : Nat → Nat × Nat) (R D : Nat) (a b : Option Addr) (ca cb : Nat) (s : RS) : Prop where
  r : IsRS w R a ca s
  d : IsD w D b cb s
  zr : (σ R).1 = 0
  zd : (σ D).1 = 0
  za : ∀ x o, a = some ⟨x, o, none⟩ → 0 < s.bs.length → σ x = (0, 0)
  zb : ∀ x o, b = some ⟨x, o, none⟩ → 0 < s.bs.length → σ x = (0, 0)
  ln : s.bs.length ≤ 20000
def PrX (w : World) (σ : Nat → Nat × Nat) (R D : Nat) : Prop := ∃ a b ca cb s, Pr w σ R D a b ca cb s
theorem bs_lt {w : World} {x o len : Nat} {bs : List Int} (h : Bs w (some ⟨x, o, none⟩) len bs) (hl : 0 < len) : x < w.heap.size := by
  obtain ⟨_, _, _, h4⟩ := h
  rcases h4 with h4 | ⟨b', off, e, hc⟩
  · omega
  · simp only [Option.some.injEq, Addr.mk.injEq, and_true] at e
    obtain ⟨rfl, rfl⟩ := e
    exact lt_of_cell (hc 0 hl)
section
variable {w w' : World} {σ σ' : Nat → Nat × Nat} {R D R' D' : Nat} {a b a' b' : Option Addr} {ca cb ca' cb' : Nat} {s s' : RS}
theorem Pr.chg {S : Nat → Prop} (h : Pr w σ R D a b ca cb s) (hc : Chg w w' S) (h1 : ¬ S R) (h2 : ¬ S D) (h3 : ∀ x o, a = some ⟨x, o, none⟩ → 0 < s.bs.length → ¬ S x) (h4 : ∀ x o, b = some ⟨x, o, none⟩ → 0 < s.bs.length → ¬ S x) (hx : ∀ k, k < w.heap.size → (σ k).1 = 0 → σ' k = σ k) : Pr w' σ' R D a b ca cb s := by
  refine ⟨h.r.other hc h1 h3, h.d.other hc h2 h4, ?_, ?_, fun x o e hl => ?_, fun x o e hl => ?_, h.ln⟩
  · rw [hx R (hp_lt h.r.box) h.zr]; exact h.zr
  · rw [hx D (hp_lt h.d.box) h.zd]; exact h.zd
  · have := h.r.bytes; rw [e] at this; rw [hx x (bs_lt this hl) (by rw [h.za x o e hl])]; exact h.za x o e hl
  · have := h.d.bytes; rw [e] at this; rw [hx x (bs_lt this hl) (by rw [h.zb x o e hl])]; exact h.zb x o e hl
theorem Pr.sf (h : Pr w σ R D a b ca cb s) (hs : Sf w σ w' σ') : Pr w' σ' R D a b ca cb s :=
  h.chg hs.ch (fun e => e h.zr) (fun e => e h.zd) (fun x o e hl k => k (by rw [h.za x o e hl])) (fun x o e hl k => k (by rw [h.zb x o e hl])) hs.ex
theorem Pr.kp (h : Pr w σ R D a b ca cb s) (hk : Kp w w') : Pr w' σ R D a b ca cb s := h.chg hk (by simp) (by simp) (by simp) (by simp) (fun _ _ _ => rfl)
/-- No box of four cells lies in a reader's bytes. -/
theorem Pr.nob (h : Pr w σ R D a b ca cb s) (h' : Pr w σ R' D' a' b' ca' cb' s') : (∀ x o, a = some ⟨x, o, none⟩ → 0 < s.bs.length → x ≠ R' ∧ x ≠ D') ∧ (∀ x o, b = some ⟨x, o, none⟩ → 0 < s.bs.length → x ≠ R' ∧ x ≠ D') := by
  refine ⟨fun x o e hl => ⟨fun e' => ?_, fun e' => ?_⟩, fun x o e hl => ⟨fun e' => ?_, fun e' => ?_⟩⟩
  · have := h.r.bytes; rw [e, e'] at this; exact bs_nobox (v := .bool true) this hl h'.r.box (by simp) (by simp) (by simp) (by simp)
  · have := h.r.bytes; rw [e, e'] at this; exact bs_nobox (v := .bool true) this hl h'.d.box (by simp) (by simp) (by simp) (by simp)
  · have := h.d.bytes; rw [e, e'] at this; exact bs_nobox (v := .bool true) this hl h'.r.box (by simp) (by simp) (by simp) (by simp)
  · have := h.d.bytes; rw [e, e'] at this; exact bs_nobox (v := .bool true) this hl h'.d.box (by simp) (by simp) (by simp) (by simp)
theorem Pr.rd (h : Pr w σ R D a b ca cb s) (h' : Pr w σ R' D' a' b' ca' cb' s') : R ≠ D' := fun e => by
  have h1 := h.r.box
  have h2 := h'.d.box
  rw [e, h2] at h1
  simp at h1
/-- Another pair has moved. -/
theorem Pr.move (h : Pr w σ R D a b ca cb s) (h' : Pr w σ R' D' a' b' ca' cb' s') (n1 : R ≠ R') (n2 : D ≠ D') (hc : Chg w w' (fun k => (k = R' ∨ k = D') ∨ (σ k).1 = 1)) (hx : ∀ k, k < w.heap.size → (σ k).1 = 0 → σ' k = σ k) : Pr w' σ' R D a b ca cb s := by
  obtain ⟨q1, q2⟩ := h.nob h'
  have e1 := h.rd h'
  have e2 := h'.rd h
  refine h.chg hc (fun e => ?_) (fun e => ?_) (fun x o e hl k => ?_) (fun x o e hl k => ?_) hx
  · rcases e with (e | e) | e
    · exact n1 e
    · exact e1 e
    · rw [h.zr] at e; simp at e
  · rcases e with (e | e) | e
    · exact e2 e.symm
    · exact n2 e
    · rw [h.zd] at e; simp at e
  · rcases k with (k | k) | k
    · exact (q1 x o e hl).1 k
    · exact (q1 x o e hl).2 k
    · rw [h.za x o e hl] at k; simp at k
  · rcases k with (k | k) | k
    · exact (q2 x o e hl).1 k
    · exact (q2 x o e hl).2 k
    · rw [h.zb x o e hl] at k; simp at k
end
end Go.Proofs.Ytfcpkcbiinbmiaa
namespace Go.Proofs.Ytfcpkcbiinbmiaa
open Go.ChangeShapes Go.WideShapes Go.ChangeAt Go.RowKit
set_option linter.unusedVariables false
def encP (q : Nat × Nat) : List Value := [.pointer (some ⟨q.1, 0, none⟩), .pointer (some ⟨q.2, 0, none⟩)]
/-- The world of the statement: the book, the pairs, their list; nothing that came in has changed. -/
structure WI (w0 w : World) (σ : Nat → Nat × Nat) (B : Nat) (v : Value) (rd : List (Nat × Nat)) (es fs hs : List En) : Prop where
  bk : ∃ V X, Bk w σ B V X es fs hs
  pr : ∀ q, q ∈ rd → PrX w σ q.1 q.2
  n1 : (rd.map (fun q => q.1)).Nodup
  n2 : (rd.map (fun q => q.2)).Nodup
  row : w.ownsRow 0 77 2 v rd.length (rd.flatMap encP)
  rz : ∀ b, v.ownBlock = some b → σ b = (0, 7) ∧ w0.heap.size ≤ b
  bel : Below w0.heap.size w0 w
  lo : ∀ b, b < w0.heap.size → (σ b).1 = 0
  hi : ∀ q, q ∈ rd → w0.heap.size ≤ q.1 ∧ w0.heap.size ≤ q.2
section
variable {w0 w w' : World} {σ σ' : Nat → Nat × Nat} {B : Nat} {v : Value} {rd : List (Nat × Nat)} {es fs hs : List En}
theorem WI.sz (h : WI w0 w σ B v rd es fs hs) : w0.heap.size ≤ w.heap.size := h.bel.size
theorem WI.rz0 (h : WI w0 w σ B v rd es fs hs) {b : Nat} (hb : v.ownBlock = some b) : (σ b).1 = 0 := by rw [(h.rz b hb).1]
theorem WI.kp (h : WI w0 w σ B v rd es fs hs) (hk : Kp w w') : WI w0 w' σ B v rd es fs hs := by
  obtain ⟨V, X, hb⟩ := h.bk
  refine ⟨⟨V, X, hb.kp hk⟩, fun q hq => ?_, h.n1, h.n2, Chg.owns hk h.row (fun _ _ x => x), h.rz, h.bel.trans (Chg.below hk h.sz (by simp)), h.lo, h.hi⟩
  obtain ⟨a, b, ca, cb, s, hp⟩ := h.pr q hq
  exact ⟨a, b, ca, cb, s, hp.kp hk⟩
/-- The book has looked. -/
theorem WI.sf {es' fs' hs' : List En} {V' : Nat → Value} {X' : Nat → List Value} (h : WI w0 w σ B v rd es fs hs) (hs9 : Sf w σ w' σ') (hb : Bk w' σ' B V' X' es' fs' hs') : WI w0 w' σ' B v rd es' fs' hs' := by
  refine ⟨⟨V', X', hb⟩, fun q hq => ?_, h.n1, h.n2, hs9.ch.owns h.row (fun b hb e => e (h.rz0 hb)), fun b hb => ⟨?_, (h.rz b hb).2⟩, h.bel.trans (hs9.ch.below h.sz (fun k hk e => e (h.lo k hk))), fun b hb => ?_, h.hi⟩
  · obtain ⟨a, b, ca, cb, s, hp⟩ := h.pr q hq
    exact ⟨a, b, ca, cb, s, hp.sf hs9⟩
  · rw [hs9.ex b (own_lt h.row hb) (h.rz0 hb)]; exact (h.rz b hb).1
  · rw [hs9.ex b (Nat.lt_of_lt_of_le hb h.sz) (h.lo b hb)]; exact h.lo b hb
theorem own_not_box {w : World} {e size n b T : Nat} {v : Value} {xs : List Value} {cs : Array Value} (h : w.ownsRow 0 e size v n xs) (hb : w.heap[b]? = some (.cells cs T (0, 0))) (hT : T ≠ e) : v.ownBlock ≠ some b := fun e' => by
  obtain ⟨cur, hg⟩ := own_tp h e'
  rw [hb] at hg
  simp at hg
  exact hT hg.2
/-- One pair has moved; perhaps the book has one more list. -/
theorem WI.moved {fs' : List En} {V' : Nat → Value} {X' : Nat → List Value} {R D : Nat} {a b : Option Addr} {ca cb : Nat} {s s' : RS} (h : WI w0 w σ B v rd es fs hs) (hq : (R, D) ∈ rd) (hp : Pr w σ R D a b ca cb s) (hr : IsRS w' R a ca s') (hd : IsD w' D b cb s') (hbs : s'.bs = s.bs) (hc : Chg w w' (fun k => (k = R ∨ k = D) ∨ (σ k).1 = 1)) (hx : ∀ k, k < w.heap.size → (σ k).1 = 0 → σ' k = σ k) (hb : Bk w' σ' B V' X' es fs' hs) : WI w0 w' σ' B v rd es fs' hs := by
  have ne1 : v.ownBlock ≠ some R := own_not_box h.row hp.r.box (by decide)
  have ne2 : v.ownBlock ≠ some D := own_not_box h.row hp.d.box (by decide)
  refine ⟨⟨V', X', hb⟩, fun q hq' => ?_, h.n1, h.n2, hc.owns h.row (fun b hb e => ?_), fun b hb => ⟨?_, (h.rz b hb).2⟩, h.bel.trans (hc.below h.sz (fun k hk e => ?_)), fun b hb => ?_, h.hi⟩
  · by_cases e : q = (R, D)
    · subst e
      refine ⟨a, b, ca, cb, s', hr, hd, ?_, ?_, fun x o e hl => ?_, fun x o e hl => ?_, by rw [hbs]; exact hp.ln⟩
      · show (σ' R).1 = 0
        rw [hx R (hp_lt hp.r.box) hp.zr]; exact hp.zr
      · show (σ' D).1 = 0
        rw [hx D (hp_lt hp.d.box) hp.zd]; exact hp.zd
      · rw [hbs] at hl
        have := hp.r.bytes; rw [e] at this; rw [hx x (bs_lt this hl) (by rw [hp.za x o e hl])]; exact hp.za x o e hl
      · rw [hbs] at hl
        have := hp.d.bytes; rw [e] at this; rw [hx x (bs_lt this hl) (by rw [hp.zb x o e hl])]; exact hp.zb x o e hl
    · obtain ⟨a1, b1, ca1, cb1, s1, hp1⟩ := h.pr q hq'
      obtain ⟨i, hi, ei⟩ := List.mem_iff_getElem.1 hq'
      obtain ⟨j, hj, ej⟩ := List.mem_iff_getElem.1 hq
      have hij : i ≠ j := fun e' => e (by subst e'; rw [← ei, ej])
      refine ⟨a1, b1, ca1, cb1, s1, hp1.move hp (fun e' => hij ?_) (fun e' => hij ?_) hc hx⟩
      · refine (List.getElem?_inj (i := i) (j := j) (by simpa using hi) h.n1).1 ?_
        simp [hi, hj, ei, ej, e']
      · refine (List.getElem?_inj (i := i) (j := j) (by simpa using hi) h.n2).1 ?_
        simp [hi, hj, ei, ej, e']
  · rcases e with (e | e) | e
    · exact ne1 (by rw [hb, e])
    · exact ne2 (by rw [hb, e])
    · rw [h.rz0 hb] at e; simp at e
  · rw [hx b (own_lt h.row hb) (h.rz0 hb)]; exact (h.rz b hb).1
  · rcases e with (e | e) | e
    · have := (h.hi _ hq).1; simp at this; omega
    · have := (h.hi _ hq).2; simp at this; omega
    · rw [h.lo k hk] at e; simp at e
  · rw [hx b (Nat.lt_of_lt_of_le hb h.sz) (h.lo b hb)]; exact h.lo b hb
end
/-- What a step leaves. -/
def Done (w0 w' : World) (B : Nat) (v : Value) (rd : List (Nat × Nat)) (es hs : List En) (o : Nat) : Prop := ∃ σ' fs', WI w0 w' σ' B v rd es fs' hs ∧ fs'.length ≤ 1 ∧ ∀ e, e ∈ fs' → e.o = o
section
variable {w0 w w' : World} {σ σ' : Nat → Nat × Nat} {B : Nat} {v : Value} {rd : List (Nat × Nat)} {es hs : List En}
theorem WI.stp {R D o : Nat} {a b : Option Addr} {ca cb : Nat} {s s' : RS} {r : Ending} (h : WI w0 w σ B v rd es [] hs) (hq : (R, D) ∈ rd) (hp : Pr w σ R D a b ca cb s) (hs' : Stp w w' R D a b ca cb s' r) (hbs : s'.bs = s.bs) : r = .returned (.bool true) ∧ Done w0 w' B v rd es hs o := by
  obtain ⟨e, q1, q2, q3⟩ := hs'
  obtain ⟨V, X, hb⟩ := h.bk
  refine ⟨e, σ, [], h.moved hq hp q1 q2 hbs (q3.mono (fun _ _ e => .inl e)) (fun _ _ _ => rfl) (hb.chg q3 (fun k e => ?_)), by simp, by simp⟩
  rcases e with e | e
  · rw [e]; exact hp.zr
  · rw [e]; exact hp.zd
theorem WI.str {R D o : Nat} {a b : Option Addr} {ca cb : Nat} {s : RS} {k : Int} {V V' : Nat → Value} {X : Nat → List Value} {x u : Value} (h : WI w0 w σ B v rd es [] hs) (hb : Bk w σ B V X es [] hs) (ho : ∀ e, e ∈ hs → e.o < o) (hq : (R, D) ∈ rd) (hp : Pr w σ R D a b ca cb s) (hs' : StR w σ R D B a b ca cb V X o (s.raw k).1 (s.raw k).2 w' σ' V' x u) : Done w0 w' B v rd es hs o := by
  have x2 : X 2 = [] := List.eq_nil_of_length_eq_zero hb.i.f.len
  have x3 : X 3 = [] := List.eq_nil_of_length_eq_zero hb.i.fw.len
  have bk := hs'.bk
  rw [x2, x3] at bk
  simp only [List.nil_append] at bk
  have ch : Chg w w' (fun k => (σ k).1 = 0 ∨ (σ k).1 = 1) := hs'.ch.mono (fun k _ e => by
    rcases e with (e | e) | e
    · left; rw [e]; exact hp.zr
    · left; rw [e]; exact hp.zd
    · exact .inr e)
  have ent : ∀ {c : Nat} {L : List Value} {zs : List En}, c ≠ 0 → c ≠ 1 → Ent w σ 5 1 c L zs → Ent w' σ' 5 1 c L zs := by
    intro c L zs h0 h1 hE
    have := hE.chgC ch (fun k e => by
      rcases e with e | e
      · rw [e]; exact fun x => h0 x.symm
      · rw [e]; exact fun x => h1 x.symm)
    exact ⟨this.len, fun i y z hy hz => ⟨(this.rw i y z hy hz).1, fun k hk => by rw [hs'.ex k (own_lt (hE.rw i y z hy hz).1 hk)]; exact (this.rw i y z hy hz).2 k hk⟩⟩
  have sing : ∀ {c : Nat} {y : Value}, OwnB w' y (s.raw k).1 → Lb σ' y (c, o) → Ent w' σ' 5 1 c [y] [⟨o, (s.raw k).1.length, (s.raw k).1.map (Value.int .u8)⟩] := by
    intro c y h1 h2
    refine ⟨rfl, fun i z e hz he => ?_⟩
    have : i = 0 := by have := (List.getElem?_eq_some_iff.1 hz).1; simp at this; omega
    subst this
    simp at hz he
    subst hz he
    exact ⟨h1.1, h2⟩
  refine ⟨σ', [⟨o, (s.raw k).1.length, (s.raw k).1.map (Value.int .u8)⟩], h.moved hq hp hs'.rs hs'.ds (RS.raw_bs _ _) hs'.ch (fun k hk _ => hs'.ex k hk) (V' := V') (X' := upd (upd X 2 [x]) 3 [u]) ⟨⟨bk, ?_, ?_, hb.i.fu, hb.i.lo, ?_, ?_, ?_, ?_, ?_, ?_⟩, ?_⟩, by simp, by simp⟩
  · rw [upd_other _ _ (by decide), upd_other _ _ (by decide)]; exact ent (by decide) (by decide) hb.i.l
  · rw [upd_other _ _ (by decide), upd_other _ _ (by decide)]; exact hb.i.lm
  · rw [upd_other _ _ (by decide), upd_same]; exact sing hs'.ob hs'.lb
  · rw [upd_same]; exact sing hs'.ou hs'.lu
  · rw [upd_other _ _ (by decide), upd_other _ _ (by decide)]; exact hb.i.hl
  · intro j y z hj hy hz
    rw [upd_other _ _ (by decide), upd_other _ _ (by decide)] at hy
    have hE : Ent w σ 5 1 3 (X 4) hs := ⟨hb.i.hl, fun i v e hv he => hb.i.h i v e (Nat.zero_le _) hv he⟩
    exact (ent (by decide) (by decide) hE).rw j y z hy hz
  · have := hb.i.nd
    simp only [List.append_nil] at this
    rw [List.map_append, List.nodup_append]
    refine ⟨this, by simp, fun x hx y hy e => ?_⟩
    simp at hy
    obtain ⟨z, hz, rfl⟩ := List.mem_map.1 hx
    have := ho z hz
    omega
  · intro e he
    rcases List.mem_append.1 he with h' | h'
    · exact hb.i.bys e (by simpa using h')
    · simp at h'
      subst h'
      exact ⟨(s.raw k).1, rfl, rfl, hs'.ob.2, by have := s.raw_len k; have := hp.ln; show (s.raw k).1.length ≤ 100000000; omega⟩
  · rw [upd_other _ _ (by decide), upd_other _ _ (by decide)]; exact ent (by decide) (by decide) hb.hw
/-- One call of a reader, whatever it is. -/
theorem reads_any {R D o : Nat} {kd n k : Int} {v1 v2 : Value} (h : WI w0 w σ B v rd es [] hs) (hq : (R, D) ∈ rd) (ho : ∀ e, e ∈ hs → e.o < o) (hk : k ≤ 9223372036854775807) :
    Calls Try.prog 40 #[.agg #[.pointer (some ⟨R, 0, none⟩), .pointer (some ⟨D, 0, none⟩)], .agg #[.int .i64 kd, .int .u64 n, .int .i64 k, v1, v2], .pointer (some ⟨B, 0, none⟩)] w fun r w' => r = .returned (.bool true) ∧ Done w0 w' B v rd es hs o := by
  obtain ⟨a, b, ca, cb, s, hp⟩ := h.pr _ hq
  by_cases e1 : kd = 1
  · subst e1; exact (reads_n1 w R D B a b ca cb s n k v1 v2 hp.r hp.d).mono fun r w' x => h.stp hq hp x (s.take_bs _)
  by_cases e2 : kd = 2
  · subst e2; exact (reads_n2 w R D B a b ca cb s n k v1 v2 hp.r hp.d).mono fun r w' x => h.stp hq hp x (s.take_bs _)
  by_cases e3 : kd = 3
  · subst e3; exact (reads_n3 w R D B a b ca cb s n k v1 v2 hp.r hp.d).mono fun r w' x => h.stp hq hp x (s.take_bs _)
  by_cases e4 : kd = 4
  · subst e4; exact (reads_n4 w R D B a b ca cb s n k v1 v2 hp.r hp.d).mono fun r w' x => h.stp hq hp x (s.take_bs _)
  by_cases e5 : kd = 5
  · subst e5
    obtain ⟨V, X, hb⟩ := h.bk
    have l2 : (X 2).length = 0 := hb.i.f.len
    have l3 : (X 3).length = 0 := hb.i.fw.len
    refine (reads_raw w R D B a b ca cb s n k v1 v2 σ V X o hk hb.i.m ⟨by rw [hp.zr]; decide, fun x y e hl => by rw [hp.za x y e hl]; decide⟩ ⟨by rw [hp.zd]; decide, fun x y e hl => by rw [hp.zb x y e hl]; decide⟩ (by omega) (by omega) hp.r hp.d).mono ?_
    rintro r w' ⟨rfl, σ', V', x, u, hs'⟩
    exact ⟨rfl, h.str hb ho hq hp hs'⟩
  by_cases e6 : kd = 6
  · subst e6; exact (reads_text w R D B a b ca cb s n k v1 v2 hk hp.r hp.d).mono fun r w' x => h.stp hq hp x (s.text_bs _)
  by_cases e7 : kd = 7
  · subst e7; exact (reads_pad w R D B a b ca cb s n k v1 v2 hp.r hp.d).mono fun r w' x => h.stp hq hp x (s.pad_bs _)
  by_cases e9 : kd = 9
  · subst e9; exact (reads_end w R D B a b ca cb s n k v1 v2 hp.r hp.d).mono fun r w' x => h.stp hq hp x s.end_bs
  by_cases e11 : kd = 11
  · subst e11; exact (reads_fail w R D B a b ca cb s n k v1 v2 hp.r hp.d).mono fun r w' x => h.stp hq hp x (s.fail_bs _ _)
  exact (reads_none w R D B a b ca cb s n k v1 v2 kd (by simpa using e1) (by simpa using e2) (by simpa using e3) (by simpa using e4) (by simpa using e5) (by simpa using e6) (by simpa using e7) (by simpa using e9) (by simpa using e11) hp.r hp.d).mono fun r w' x => h.stp hq hp x rfl
end
end Go.Proofs.Ytfcpkcbiinbmiaa
namespace Go.Proofs.Ytfcpkcbiinbmiaa
open Go.ChangeShapes Go.WideShapes Go.ChangeAt Go.RowKit
set_option linter.unusedVariables false
theorem bs_nobox2 {w : World} {x o T : Nat} {len : Nat} {bs : List Int} {y0 y1 : Value} (hB : Bs w (some ⟨x, o, none⟩) len bs) (hl : 0 < len) (h : w.heap[x]? = some (.cells #[y0, y1] T (0, 0))) (h0 : ∀ n, y0 ≠ .int .u8 n) (h1 : ∀ n, y1 ≠ .int .u8 n) : False := by
  obtain ⟨_, _, _, h4⟩ := hB
  rcases h4 with h4 | ⟨b', off, e, hcell⟩
  · omega
  · simp only [Option.some.injEq, Addr.mk.injEq, and_true] at e
    obtain ⟨rfl, rfl⟩ := e
    have hc := hcell 0 hl
    have := (cells_at h (o + 0)).1
    rw [this] at hc
    rcases ho : o with _ | _ | o
    all_goals (subst ho; simp at hc)
    · exact h0 _ hc
    · exact h1 _ hc
/-- What the program's Part leaves. -/
def P1 (R : Nat) (a : Option Addr) (ca : Nat) (s : RS) (w1 x : World) (R2 : Nat) : Prop := ∃ a2 ca2, IsRS x R2 a2 ca2 s.part.1 ∧ IsRS x R a ca s.part.2 ∧ w1.heap.size ≤ R2 ∧ ∀ y o, a2 = some ⟨y, o, none⟩ → 0 < s.part.1.bs.length → ∃ o', a = some ⟨y, o', none⟩
def P2 (D : Nat) (b : Option Addr) (cb : Nat) (s : RS) (w2 x : World) (D2 : Nat) : Prop := ∃ b2 cb2, IsD x D2 b2 cb2 s.part.1 ∧ IsD x D b cb s.part.2 ∧ w2.heap.size ≤ D2 ∧ ∀ y o, b2 = some ⟨y, o, none⟩ → w2.heap.size ≤ y
section
variable {w0 w w' : World} {σ σ' : Nat → Nat × Nat} {B : Nat} {v : Value} {rd : List (Nat × Nat)} {es fs hs : List En}
/-- Both Parts were made. -/
theorem WI.part {R D R2 D2 q : Nat} {a b : Option Addr} {ca cb : Nat} {s : RS} {w1 x1 w2 x2 w3 : World} (h : WI w0 w σ B v rd es fs hs) (hq : (R, D) ∈ rd) (hp : Pr w σ R D a b ca cb s) (k1 : Kp w w1) (c1 : Chg w1 x1 (fun k => k = R)) (p1 : P1 R a ca s w1 x1 R2) (k2 : Kp x1 w2) (c2 : Chg w2 x2 (fun k => k = D)) (p2 : P2 D b cb s w2 x2 D2) (hqs : w.heap.size ≤ q) (hqb : x2.heap.size ≤ q ∨ x2.heap[q]? = some (.cells #[.pointer none, .pointer none] 77 (0, 0))) (c3 : Chg x2 w3 (fun k => k = q)) :
    WI w0 w3 σ B v rd es fs hs ∧ PrX w3 σ R2 D2 ∧ w.heap.size ≤ R2 ∧ w.heap.size ≤ D2 := by
  obtain ⟨a2, ca2, r2, r1, sR, hA⟩ := p1
  obtain ⟨b2, cb2, d2, d1, sD, hBb⟩ := p2
  obtain ⟨V, X, hb⟩ := h.bk
  have z1 := k1.size
  have z2 := c1.size
  have z3 := k2.size
  have z4 := c2.size
  have hRz := hp_lt hp.r.box
  have hDz := hp_lt hp.d.box
  have hRD : R ≠ D := hp.rd hp
  have n1 := hp.nob hp
  have pb : s.part.2.bs = s.bs := s.counted_bs _ _
  have pl : s.part.1.bs.length ≤ s.bs.length := s.counted_len _ _
  have cw : Chg w w3 (fun k => k = R ∨ k = D) := by
    refine Chg.trans (Chg.trans (Chg.trans (Chg.trans (Chg.trans k1.any c1 (fun _ _ e => .inl e)) k2.any (fun _ _ x => x)) c2 (fun _ _ e => .inr e)) c3 (fun b hb e => ?_)) (Kp.refl w3).any (fun _ _ x => x)
    omega
  -- the reader itself, through the rest
  have cr : Chg x1 w3 (fun k => k = D ∨ k = q) := Chg.trans (Chg.trans k2.any c2 (fun _ _ e => .inl e)) c3 (fun _ _ e => .inr e)
  have lta : ∀ y o, a = some ⟨y, o, none⟩ → 0 < s.bs.length → y < w.heap.size := fun y o e hl => by have := hp.r.bytes; rw [e] at this; exact bs_lt this hl
  have ltb : ∀ y o, b = some ⟨y, o, none⟩ → 0 < s.bs.length → y < w.heap.size := fun y o e hl => by have := hp.d.bytes; rw [e] at this; exact bs_lt this hl
  have R1 : IsRS w3 R a ca s.part.2 := r1.other cr (fun e => by
    rcases e with e | e
    · exact hRD e
    · omega) (fun y o e hl k => by
    rw [pb] at hl
    rcases k with k | k
    · exact (n1.1 y o e hl).2 k
    · have := lta y o e hl; omega)
  have D1 : IsD w3 D b cb s.part.2 := d1.other c3 (fun e => by omega) (fun y o e hl k => by
    rw [pb] at hl
    have := ltb y o e hl; omega)
  have hR2 := hp_lt r2.box
  have hD2 := hp_lt d2.box
  have R2' : IsRS x2 R2 a2 ca2 s.part.1 := r2.other (Chg.trans k2.any c2 (fun _ _ e => e) : Chg x1 x2 (fun k => k = D)) (fun e => by omega) (fun y o e hl k => by
    obtain ⟨o', e'⟩ := hA y o e hl
    exact (n1.1 y o' e' (by omega)).2 k)
  have R2q : R2 ≠ q := fun e => by
    rcases hqb with h' | h'
    · omega
    · have := R2'.box; rw [e, h'] at this; simp at this
  have D2q : D2 ≠ q := fun e => by
    rcases hqb with h' | h'
    · omega
    · have := d2.box; rw [e, h'] at this; simp at this
  have R3 : IsRS w3 R2 a2 ca2 s.part.1 := R2'.other c3 R2q (fun y o e hl k => by
    obtain ⟨o', e'⟩ := hA y o e hl
    have := lta y o' e' (by omega); omega)
  have D3 : IsD w3 D2 b2 cb2 s.part.1 := d2.other c3 D2q (fun y o e hl k => by
    rcases hqb with h' | h'
    · have := d2.bytes; rw [e] at this; have := bs_lt this hl; omega
    · have := d2.bytes; rw [e, k] at this; exact bs_nobox2 this hl h' (by simp) (by simp))
  have fz := hb.i.m.fz
  refine ⟨h.moved hq hp R1 D1 pb (cw.mono (fun _ _ e => .inl e)) (fun _ _ _ => rfl) (hb.chg cw (fun k e => by
    rcases e with e | e
    · rw [e]; exact hp.zr
    · rw [e]; exact hp.zd)), ⟨a2, b2, ca2, cb2, s.part.1, R3, D3, ?_, ?_, fun y o e hl => ?_, fun y o e hl => ?_, Nat.le_trans pl hp.ln⟩, by omega, by omega⟩
  · rw [fz R2 (by omega)]
  · rw [fz D2 (by omega)]
  · obtain ⟨o', e'⟩ := hA y o e hl
    exact hp.za y o' e' (by omega)
  · exact fz y (by have := hBb y o e; omega)
theorem Bk.relab {V : Nat → Value} {X : Nat → List Value} (h : Bk w σ B V X es fs hs) (hx : ∀ b, b < w.heap.size → (σ b).1 ≠ 0 → σ' b = σ b) (hz : Fz w σ') : Bk w σ' B V X es fs hs := by
  have row : ∀ {T n k o : Nat} {u : Value} {xs : List Value}, k ≠ 0 → w.ownsRow 0 T 1 u n xs → Lb σ u (k, o) → Lb σ' u (k, o) := fun hk hr hL b hb => by
    rw [hx b (own_lt hr hb) (by rw [hL b hb]; exact hk)]; exact hL b hb
  have ent : ∀ {c : Nat} {L : List Value} {zs : List En}, c ≠ 0 → Ent w σ 5 1 c L zs → Ent w σ' 5 1 c L zs := fun hc hE => ⟨hE.len, fun j u z hu hz => ⟨(hE.rw j u z hu hz).1, row hc (hE.rw j u z hu hz).1 (hE.rw j u z hu hz).2⟩⟩
  exact ⟨⟨h.i.m.relab (fun b hb e => hx b hb (by rw [e]; decide)) hz, ent (by decide) h.i.l, h.i.lm, h.i.fu, h.i.lo, ent (by decide) h.i.f, ent (by decide) h.i.fw, h.i.hl, fun j u z hj hu hz => ⟨(h.i.h j u z hj hu hz).1, row (by decide) (h.i.h j u z hj hu hz).1 (h.i.h j u z hj hu hz).2⟩, h.i.nd, h.i.bys⟩, ent (by decide) h.hw⟩
theorem info77 : (Try.prog.info? 77).map (fun i => (i.zero.map (fun z => z.cells.size), i.size, i.bytes)) = some (some 2, 2, 16) := by kernel_rfl
/-- A pair more. -/
theorem WI.add {R D : Nat} (h : WI w0 w σ B v rd es fs hs) (hp : PrX w σ R D) (h1 : ∀ q, q ∈ rd → q.1 ≠ R) (h2 : ∀ q, q ∈ rd → q.2 ≠ D) (h3 : w0.heap.size ≤ R) (h4 : w0.heap.size ≤ D) (hl : rd.length < 1000) :
    ∃ a c w', (Builtin.append_ #[78, 78] 78 #[v, .slice (some ⟨w.heap.size, 0, none⟩) 1 1]).run Try.prog (w.alloc (.cells #[.pointer (some ⟨R, 0, none⟩), .pointer (some ⟨D, 0, none⟩)] 77)) = .ok (.slice a (rd.length + 1) c) w' ∧ ∃ σ', WI w0 w' σ' B (.slice a (rd.length + 1) c) (rd ++ [(R, D)]) es fs hs := by
  obtain ⟨j, z, e1, e2, e3, e4, e5⟩ : ∃ j z, Try.prog.info? 77 = some j ∧ j.zero = some z ∧ z.cells.size = 2 ∧ j.size = 2 ∧ j.bytes = 16 := by
    have hz := info77
    cases hq : Try.prog.info? 77 with
    | none => rw [hq] at hz; cases hz
    | some j =>
      rw [hq] at hz
      cases hy : j.zero with
      | none => simp [hy] at hz
      | some z =>
        simp [hy] at hz
        exact ⟨j, z, rfl, hy, hz.1, hz.2.1, hz.2.2⟩
  have ka : Kp w (w.alloc (.cells #[.pointer (some ⟨R, 0, none⟩), .pointer (some ⟨D, 0, none⟩)] 77)) := Kp.al _ _
  obtain ⟨v', w', hr, ho, hg, hL⟩ := run_app (P := Try.prog) (w.alloc (.cells #[.pointer (some ⟨R, 0, none⟩), .pointer (some ⟨D, 0, none⟩)] 77)) 78 78 77 j z 2 16 Try.underlying78 e1 e2 e4 e5 e3 (by omega) v rd.length _ (Chg.owns ka h.row (fun _ _ h => h)) (some ⟨w.heap.size, 0, none⟩) 1 1 [.pointer (some ⟨R, 0, none⟩), .pointer (some ⟨D, 0, none⟩)] (by simp) (.inr ⟨_, _, rfl, fun j u hu => by
    rw [(cells_at (heap_alloc_new w _) _).1, Nat.zero_add]
    simpa using hu⟩) (by simp [Value.oneCell']) (by unfold maxLen; omega) (by omega)
  have hsh : ∃ a c, v' = .slice a (rd.length + 1) c := by
    rcases ho.2 with ⟨e, e'⟩ | ⟨g, cap, cur, e, _⟩
    · exact ⟨none, 0, by rw [e, e']⟩
    · exact ⟨_, _, e⟩
  obtain ⟨a, c, rfl⟩ := hsh
  have hc : Chg w w' (fun b => v.ownBlock = some b) := Chg.grown ((Chg.refl w _).alloc _) hg (fun k hk => .inl hk)
  obtain ⟨V, X, hb⟩ := h.bk
  have fz := hb.i.m.fz
  have hLn : ∀ b, (Value.slice a (rd.length + 1) c).ownBlock = some b → v.ownBlock = some b ∨ w.heap.size ≤ b := fun b hb' => by
    rcases hL with e | ⟨k, e, hk⟩
    · rw [e] at hb'; exact .inl hb'
    · rw [e] at hb'; simp at hb' hk; right; omega
  have hx : ∀ b, b < w.heap.size → lab σ (.slice a (rd.length + 1) c) (0, 7) b = σ b := fun b hb' => by
    show (if _ then _ else _) = _
    split
    · next e =>
      rcases hLn b e with e' | e'
      · exact (h.rz b e').1.symm
      · omega
    · rfl
  have hz : Fz w' (lab σ (.slice a (rd.length + 1) c) (0, 7)) := fz_labs fz hc.size (fun b hb' => own_lt ho hb')
  have prx : ∀ {R D : Nat}, PrX w σ R D → PrX w' (lab σ (.slice a (rd.length + 1) c) (0, 7)) R D := by
    rintro R D ⟨a1, b1, ca1, cb1, s1, hp1⟩
    refine ⟨a1, b1, ca1, cb1, s1, hp1.chg hc (own_not_box h.row hp1.r.box (by decide)) (own_not_box h.row hp1.d.box (by decide)) (fun x o e hl k => ?_) (fun x o e hl k => ?_) (fun k hk _ => hx k hk)⟩
    · have := (h.rz x k).1; rw [hp1.za x o e hl] at this; simp at this
    · have := (h.rz x k).1; rw [hp1.zb x o e hl] at this; simp at this
  refine ⟨a, c, w', hr, lab σ (.slice a (rd.length + 1) c) (0, 7), ⟨V, X, (hb.chg hc (fun b hb' => h.rz0 hb')).relab (fun b hb' e => ?_) hz⟩, ?_, ?_, ?_, ?_, fun b hb' => ⟨lab_same _ _ _ b hb', ?_⟩, h.bel.trans (hc.below h.sz (fun k hk e => ?_)), fun b hb' => ?_, ?_⟩
  · by_cases hlt : b < w.heap.size
    · exact hx b hlt
    · rw [fz b (by omega)] at e; simp at e
  · intro q hq
    rcases List.mem_append.1 hq with h' | h'
    · exact prx (h.pr q h')
    · simp at h'; rw [h']; exact prx hp
  · rw [List.map_append, List.nodup_append]
    refine ⟨h.n1, by simp, fun x hx y hy e => ?_⟩
    simp at hy
    obtain ⟨q, hq, rfl⟩ := List.mem_map.1 hx
    exact h1 q hq (by rw [e, hy])
  · rw [List.map_append, List.nodup_append]
    refine ⟨h.n2, by simp, fun x hx y hy e => ?_⟩
    simp at hy
    obtain ⟨q, hq, rfl⟩ := List.mem_map.1 hx
    exact h2 q hq (by rw [e, hy])
  · have : (rd ++ [(R, D)]).flatMap encP = rd.flatMap encP ++ [.pointer (some ⟨R, 0, none⟩), .pointer (some ⟨D, 0, none⟩)] := by simp [encP]
    rw [this, List.length_append]
    exact ho
  · rcases hLn b hb' with e | e
    · exact (h.rz b e).2
    · have := h.sz; omega
  · have := (h.rz k e).2; omega
  · rw [hx b (Nat.lt_of_lt_of_le hb' h.sz)]; exact h.lo b hb'
  · intro q hq
    rcases List.mem_append.1 hq with h' | h'
    · exact h.hi q h'
    · simp at h'; rw [h']; exact ⟨h3, h4⟩
end
end Go.Proofs.Ytfcpkcbiinbmiaa
