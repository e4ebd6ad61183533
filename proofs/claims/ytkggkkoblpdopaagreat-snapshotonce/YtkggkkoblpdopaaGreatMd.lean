import Derived.Test.YtkggkkoblpdopaaGreatYh
namespace Go.Proofs.YtkggkkoblpdopaaGreat
open Go.ChangeShapes Go.WideShapes Go.ChangeAt Go.RowKit
set_option linter.unusedVariables false
def app (X : WX) (l : List Int) : WX := ⟨⟨X.s.lim, X.s.data ++ l, X.s.ops, X.s.err⟩, X.u⟩
def seg (s s' : RS) : List Int := (s.bs.drop s.at_).take (s'.at_ - s.at_)
structure Rd (s s' : RS) : Prop where
  bs : s'.bs = s.bs
  le : s.at_ ≤ s'.at_
  lim : s.at_ ≤ s.bs.length → s'.at_ ≤ s.bs.length
  e : s.err = 0
  e' : s'.err = 0
/-- Reader and writer keep step. -/
structure Sy (s : RS) (X : WX) : Prop where
  e : X.s.err = 0
  u : X.u = false
  m : X.s.data.length % 4 = s.at_ % 4
  r : X.s.data.length + (s.bs.length - s.at_) ≤ X.s.lim
  l : s.at_ ≤ s.bs.length
theorem seg_len {s s' : RS} (h : Rd s s') (hl : s.at_ ≤ s.bs.length) : (seg s s').length = s'.at_ - s.at_ := by
  unfold seg
  have := h.lim hl
  simp; omega
theorem Sy.app {s s' : RS} {X : WX} (h : Sy s X) (r : Rd s s') : Sy s' (app X (seg s s')) := by
  have hl := seg_len r h.l
  have h1 := r.lim h.l
  have h2 := r.le
  have hm := h.m
  have hr := h.r
  refine ⟨h.e, h.u, ?_, ?_, by rw [r.bs]; exact h1⟩
  · show (X.s.data ++ seg s s').length % 4 = _
    rw [List.length_append, hl]; omega
  · show (X.s.data ++ seg s s').length + _ ≤ X.s.lim
    rw [List.length_append, hl, r.bs]; omega
def J (s s' : RS) (g : WX → WX) : Prop := Rd s s' ∧ ∀ X, Sy s X → g X = app X (seg s s')
theorem J.trans {s s1 s2 : RS} {g1 g2 : WX → WX} (a : J s s1 g1) (b : J s1 s2 g2) : J s s2 (fun X => g2 (g1 X)) := by
  obtain ⟨a1, a2⟩ := a
  obtain ⟨b1, b2⟩ := b
  have l1 := a1.le
  have l2 := b1.le
  refine ⟨⟨b1.bs.trans a1.bs, by omega, fun h => by have := a1.lim h; have := b1.lim (by rw [a1.bs]; exact this); rw [a1.bs] at this; exact this, a1.e, b1.e'⟩, fun X h => ?_⟩
  show g2 (g1 X) = _
  rw [a2 X h, b2 _ (h.app a1)]
  unfold Go.Proofs.YtkggkkoblpdopaaGreat.app
  simp only
  congr 2
  rw [List.append_assoc]
  congr 1
  unfold seg
  rw [a1.bs]
  have e : s2.at_ - s.at_ = (s1.at_ - s.at_) + (s2.at_ - s1.at_) := by omega
  rw [e, List.take_add, List.drop_drop]
  congr 3
  omega
theorem J.id {s : RS} (h : s.err = 0) : J s s (fun X => X) := ⟨⟨rfl, Nat.le_refl _, fun x => x, h, h⟩, fun X _ => by unfold Go.Proofs.YtkggkkoblpdopaaGreat.app seg; simp⟩
/-- What a take tells that does not fail. -/
theorem takes_ok {s : RS} {k : Nat} (h : (s.take k).2.err = 0) : s.err = 0 ∧ s.at_ + k ≤ s.bs.length ∧ s.take k = ((s.bs.drop s.at_).take k, { s with at_ := s.at_ + k }) := by
  unfold RS.take at h ⊢
  by_cases he : s.err = 0
  · rw [if_neg (by simp [he])] at h ⊢
    by_cases hl : s.bs.length < s.at_ + k
    · rw [if_pos hl] at h
      exact absurd h (by show (11 : Int) ≠ 0; decide)
    · rw [if_neg hl]
      exact ⟨he, by omega, rfl⟩
  · rw [if_pos he] at h
    exact absurd h he
theorem take_rd {s : RS} {k : Nat} (h : (s.take k).2.err = 0) : Rd s (s.take k).2 := by
  obtain ⟨h1, h2, h3⟩ := takes_ok h
  rw [h3]
  exact ⟨rfl, by show _ ≤ s.at_ + k; omega, fun _ => h2, h1, h1⟩
theorem take_seg {s : RS} {k : Nat} (h : (s.take k).2.err = 0) : seg s (s.take k).2 = (s.take k).1 ∧ (s.take k).1.length = k := by
  obtain ⟨h1, h2, h3⟩ := takes_ok h
  rw [h3]
  unfold seg
  refine ⟨?_, ?_⟩
  · show List.take (s.at_ + k - s.at_) _ = _
    congr 1; omega
  · simp; omega
theorem raw_app {s s' : RS} {X : WX} (h : Sy s X) (r : Rd s s') : X.raw (seg s s') = app X (seg s s') := by
  unfold WX.raw
  rw [WS.raw_ok h.e _ (by
    have := h.r
    have := seg_len r h.l
    have := r.lim h.l
    omega)]
  rfl
theorem J.raw {s : RS} {k : Nat} (hr : rng s.bs) (h : (s.take k).2.err = 0) : J s (s.take k).2 (fun X => X.raw (Go.Proofs.YtkggkkoblpdopaaGreat.le (s.num k) k)) := by
  refine ⟨take_rd h, fun X hX => ?_⟩
  obtain ⟨e1, e2⟩ := take_seg h
  have e3 : Go.Proofs.YtkggkkoblpdopaaGreat.le (s.num k) k = seg s (s.take k).2 := by
    rw [e1]
    exact le_ofLe k _ e2 (RS.take_range s k hr)
  show X.raw (Go.Proofs.YtkggkkoblpdopaaGreat.le (s.num k) k) = _
  rw [e3]
  exact raw_app hX (take_rd h)
theorem J.num {s : RS} {k : Nat} (hr : rng s.bs) (h : (s.take k).2.err = 0) : J s (s.take k).2 (fun X => X.num k (s.num k : Nat)) := by
  have hj := J.raw hr h
  refine ⟨hj.1, fun X hX => ?_⟩
  show X.num k (s.num k : Nat) = _
  have hl := RS.num_lt s k hr
  have e : (2 : Nat) ^ (8 * k) = 256 ^ k := by rw [Nat.pow_mul]
  rw [e] at hl
  unfold WX.num
  rw [if_neg (by rintro (e | e); omega; have := Int.ofNat_le.1 e; omega), Int.toNat_natCast]
  exact hj.2 X hX
theorem J.pad {s : RS} (hr : rng s.bs) (h : (s.pad 4).err = 0) : J s (s.pad 4) WX.pad := by
  have hp : s.pad 4 = s.padded (s.take (padN s.at_ 4)) := by unfold RS.pad; rw [if_pos (by decide)]; rfl
  rw [hp] at h ⊢
  cases hf : (s.take (padN s.at_ 4)).1.findIdx? (fun x => x != 0) with
  | some i =>
    rw [RS.padded_some s _ i hf] at h
    exfalso
    unfold RS.fail errOf at h
    simp only at h
    split at h
    · cases h
    · contradiction
  | none =>
    rw [RS.padded_none s _ hf] at h ⊢
    have rd := take_rd h
    obtain ⟨e1, e2⟩ := take_seg h
    refine ⟨(⟨rd.bs, rd.le, rd.lim, rd.e, rd.e'⟩ : Rd s _), fun X hX => ?_⟩
    have hz : (s.take (padN s.at_ 4)).1 = List.replicate (padN s.at_ 4) 0 := by
      apply List.eq_replicate_iff.2
      refine ⟨e2, fun x hx => ?_⟩
      have := List.findIdx?_eq_none_iff.1 hf x hx
      simpa using this
    have em : padN X.s.data.length 4 = padN s.at_ 4 := by unfold padN; rw [hX.m]
    unfold WX.pad WS.pad
    rw [if_neg (by simp [hX.e]), if_pos (by decide)]
    show (⟨X.s.raw (List.replicate (padN X.s.data.length 4) 0), X.u⟩ : WX) = _
    rw [em, ← hz, ← e1]
    exact raw_app hX rd
theorem J.flag {s : RS} (hr : rng s.bs) (h : s.flag.err = 0) : J s s.flag (fun X => X.raw (Go.Proofs.YtkggkkoblpdopaaGreat.le (if decide (s.num 1 = 1) then 1 else 0) 1)) := by
  unfold RS.flag at h ⊢
  by_cases hn : 1 < s.num 1
  · rw [if_pos hn] at h
    exfalso
    unfold RS.fail errOf at h
    simp only at h
    split at h
    · cases h
    · contradiction
  · rw [if_neg hn] at h ⊢
    have hj := J.raw hr h
    refine ⟨hj.1, fun X hX => ?_⟩
    have e : (if decide (s.num 1 = 1) then 1 else 0) = s.num 1 := by
      by_cases h1 : s.num 1 = 1
      · rw [h1]; rfl
      · rw [decide_eq_false h1]; simp; omega
    show X.raw (Go.Proofs.YtkggkkoblpdopaaGreat.le (if decide (s.num 1 = 1) then 1 else 0) 1) = _
    rw [e]
    exact hj.2 X hX
/-- Things that are read one behind the other, till one fails. -/
def rl {α : Type} (f : RS → α × RS) : Nat → RS → List α × RS
  | 0, s => ([], s)
  | n + 1, s => if (rl f n s).2.err ≠ 0 then rl f n s else ((rl f n s).1 ++ [(f (rl f n s).2).1], (f (rl f n s).2).2)
/-- A list that is read. -/
def RS.row {α : Type} (s : RS) (f : RS → α × RS) : List α × RS := rl f (s.num 4) (s.take 4).2
theorem rl_bs {α : Type} {f : RS → α × RS} (hb : ∀ s, (f s).2.bs = s.bs) (n : Nat) (s : RS) : (rl f n s).2.bs = s.bs := by
  induction n with
  | zero => rfl
  | succ n ih =>
    unfold rl
    split
    · exact ih
    · rw [hb]; exact ih
theorem row_bs {α : Type} {f : RS → α × RS} (hb : ∀ s, (f s).2.bs = s.bs) (s : RS) : (s.row f).2.bs = s.bs := (rl_bs hb _ _).trans (RS.take_bs s 4)
theorem rl_ok {α : Type} {f : RS → α × RS} {n : Nat} {s : RS} (h : (rl f (n + 1) s).2.err = 0) : (rl f n s).2.err = 0 ∧ rl f (n + 1) s = ((rl f n s).1 ++ [(f (rl f n s).2).1], (f (rl f n s).2).2) := by
  by_cases he : (rl f n s).2.err = 0
  · refine ⟨he, ?_⟩
    show (if (rl f n s).2.err ≠ 0 then _ else _) = _
    rw [if_neg (by simp [he])]
  · exfalso
    have e : rl f (n + 1) s = rl f n s := by
      show (if (rl f n s).2.err ≠ 0 then _ else _) = _
      rw [if_pos he]
    rw [e] at h
    exact he h
theorem rl_len {α : Type} {f : RS → α × RS} : ∀ {n : Nat} {s : RS}, (rl f n s).2.err = 0 → (rl f n s).1.length = n
  | 0, _, _ => rfl
  | n + 1, s, h => by
    obtain ⟨h1, h2⟩ := rl_ok h
    rw [h2]
    simp [rl_len h1]
/-- A number of eight bytes that fits. -/
def RS.lng (s : RS) : RS := if 9223372036854775807 < s.num 8 then (s.take 8).2.fail 230 (s.take 8).2.at_ else (s.take 8).2
theorem RS.lng_bs (s : RS) : s.lng.bs = s.bs := by
  unfold RS.lng; split
  · exact RS.take_bs _ _
  · exact RS.take_bs _ _
theorem fail_err (s : RS) (p : Int) : (s.fail 230 p).err ≠ 0 := by
  intro h
  unfold RS.fail errOf at h
  simp only at h
  split at h
  · cases h
  · contradiction
/-- It as an int. -/
def RS.lv (s : RS) : Int := IntKind.i64.wrap (s.num 8 : Nat)
theorem lv_ok {s : RS} (h : ¬ 9223372036854775807 < s.num 8) : s.lv = (s.num 8 : Nat) := by
  unfold RS.lv
  simp [IntKind.wrap, IntKind.bits, IntKind.signed]; omega
theorem J.lng {s : RS} (hr : rng s.bs) (h : s.lng.err = 0) : J s s.lng (fun X => X.num 8 s.lv) := by
  unfold RS.lng at h ⊢
  by_cases hn : 9223372036854775807 < s.num 8
  · rw [if_pos hn] at h; exact absurd h (fail_err _ _)
  · rw [if_neg hn] at h ⊢; rw [lv_ok hn]; exact J.num hr h
theorem rng_take {s : RS} (k : Nat) (h : rng s.bs) : rng (s.take k).2.bs := by rw [RS.take_bs]; exact h
theorem rng_flag {s : RS} (h : rng s.bs) : rng s.flag.bs := by rw [RS.flag_bs]; exact h
theorem rng_lng {s : RS} (h : rng s.bs) : rng s.lng.bs := by rw [RS.lng_bs]; exact h
end Go.Proofs.YtkggkkoblpdopaaGreat
namespace Go.Proofs.YtkggkkoblpdopaaGreat
open Go.ChangeShapes Go.WideShapes Go.ChangeAt Go.RowKit
set_option linter.unusedVariables false
/-- How each thing is read. -/
def RS.mg (s : RS) : Mg × RS := (⟨(s.take 8).2.bytes.1, (s.num 8 : Nat)⟩, (s.take 8).2.bytes.2)
def RS.pg (s : RS) : Pg × RS := (⟨(s.num 4 : Nat), (s.take 4).2.bytes.1⟩, (s.take 4).2.bytes.2)
def RS.lne (s : RS) : Lne × RS := (⟨(s.num 4 : Nat), ((s.take 4).2.num 4 : Nat), decide (((s.take 4).2.take 4).2.num 1 = 1)⟩, ((((s.take 4).2.take 4).2.flag).pad 4))
def RS.slt (s : RS) : Slt × RS := (⟨(s.num 4 : Nat), ((s.take 4).2.num 4 : Nat), (((s.take 4).2.take 4).2.num 4 : Nat), ((((s.take 4).2.take 4).2.take 4).2.num 1 : Nat)⟩, ((((s.take 4).2.take 4).2.take 4).2.take 1).2.pad 4)
def RS.arr (s : RS) : Arr × RS := (⟨(s.num 8 : Nat), ((s.take 8).2.num 1 : Nat)⟩, (((s.take 8).2.take 1).2.pad 4))
/-- So many numbers of k bytes. -/
def RS.lots (k : Nat) : Nat → RS → List Int × RS
  | 0, s => ([], s)
  | n + 1, s => ((RS.lots k n s).1 ++ [(((RS.lots k n s).2.num k : Nat) : Int)], ((RS.lots k n s).2.take k).2)
def RS.cel1 (s : RS) : RS := (RS.lots 4 16 s).2
def RS.cel2 (s : RS) : RS := (s.cel1.take 4).2
def RS.cel3 (s : RS) : RS := (s.cel2.take 4).2
def RS.cel4 (s : RS) : RS := (s.cel3.take 4).2
def RS.cel (s : RS) : Cel × RS := (⟨(RS.lots 4 16 s).1, (s.cel1.num 4 : Nat), (s.cel2.num 4 : Nat), (s.cel3.num 4 : Nat), decide (s.cel4.num 1 = 1), decide (s.cel4.flag.num 1 = 1), decide (s.cel4.flag.flag.num 1 = 1)⟩, s.cel4.flag.flag.flag.pad 4)
def RS.gic (s : RS) : Gi × RS := (⟨(RS.lots 1 32 s).1, ((RS.lots 1 32 s).2.num 4 : Nat), ((((RS.lots 1 32 s).2.take 4).2).num 4 : Nat)⟩, (((RS.lots 1 32 s).2.take 4).2.take 4).2)
def RS.spl1 (s : RS) : RS := s.flag.flag.pad 4
def RS.spl (s : RS) : Spl × RS := (⟨decide (s.num 1 = 1), decide (s.flag.num 1 = 1), s.spl1.mg.1, s.spl1.mg.2.mg.1⟩, s.spl1.mg.2.mg.2)
def RS.que1 (s : RS) : RS := s.lng.lng.lng.lng.lng
def RS.que (s : RS) : Que × RS := (⟨s.lv, s.lng.lv, s.lng.lng.lv, s.lng.lng.lng.lv, s.lng.lng.lng.lng.lv, (s.que1.row RS.mg).1, ((s.que1.row RS.mg).2.row RS.mg).1⟩, ((s.que1.row RS.mg).2.row RS.mg).2)
def RS.y1 (s : RS) : RS := ((s.take 8).2.flag.pad 4)
def RS.y2 (s : RS) : RS := s.y1.bytes.2
def RS.y3 (s : RS) : RS := (s.y2.row RS.pg).2
def RS.y4 (s : RS) : RS := (s.y3.row RS.cel).2
def RS.y5 (s : RS) : RS := (s.y4.row RS.lne).2
def RS.y6 (s : RS) : RS := (s.y5.row RS.slt).2
def RS.y7 (s : RS) : RS := s.y6.gic.2
def RS.y8 (s : RS) : RS := (s.y7.row RS.spl).2
def RS.y9 (s : RS) : RS := (s.y8.row RS.que).2
def RS.ste (s : RS) : Ste × RS := (⟨s.y1.bytes.1, (s.num 8 : Nat), decide ((s.take 8).2.num 1 = 1), (s.y2.row RS.pg).1, (s.y3.row RS.cel).1, (s.y4.row RS.lne).1, (s.y5.row RS.slt).1, s.y6.gic.1, (s.y7.row RS.spl).1, (s.y8.row RS.que).1, (s.y9.row RS.arr).1⟩, (s.y9.row RS.arr).2)
section
variable (s : RS)
theorem RS.mg_bs : s.mg.2.bs = s.bs := (RS.bytes_bs _).trans (RS.take_bs _ _)
theorem RS.pg_bs : s.pg.2.bs = s.bs := (RS.bytes_bs _).trans (RS.take_bs _ _)
theorem RS.lne_bs : s.lne.2.bs = s.bs := (RS.pad_bs _ _).trans ((RS.flag_bs _).trans ((RS.take_bs _ _).trans (RS.take_bs _ _)))
theorem RS.slt_bs : s.slt.2.bs = s.bs := (RS.pad_bs _ _).trans ((RS.take_bs _ _).trans ((RS.take_bs _ _).trans ((RS.take_bs _ _).trans (RS.take_bs _ _))))
theorem RS.arr_bs : s.arr.2.bs = s.bs := (RS.pad_bs _ _).trans ((RS.take_bs _ _).trans (RS.take_bs _ _))
theorem RS.lots_bs (k n : Nat) : (RS.lots k n s).2.bs = s.bs := by
  induction n with
  | zero => rfl
  | succ n ih => exact (RS.take_bs _ _).trans ih
end
theorem J.words (n : Nat) {s : RS} (hr : rng s.bs) (h : (RS.lots 4 n s).2.err = 0) : J s (RS.lots 4 n s).2 (fun X => X.words (RS.lots 4 n s).1) := by
  induction n with
  | zero => exact J.id h
  | succ n ih =>
    have rn : rng (RS.lots 4 n s).2.bs := by rw [RS.lots_bs]; exact hr
    have j2 := J.raw rn h
    have j := (ih j2.1.e).trans j2
    refine ⟨j.1, fun X hX => ?_⟩
    have e := j.2 X hX
    show ((RS.lots 4 n s).1 ++ [(((RS.lots 4 n s).2.num 4 : Nat) : Int)]).foldl (fun (x : WX) (n : Int) => x.raw (Go.Proofs.YtkggkkoblpdopaaGreat.le n.toNat 4)) X = _
    rw [List.foldl_append]
    exact e
theorem J.nums1 (n : Nat) {s : RS} (hr : rng s.bs) (h : (RS.lots 1 n s).2.err = 0) : J s (RS.lots 1 n s).2 (fun X => X.nums1 (RS.lots 1 n s).1) := by
  induction n with
  | zero => exact J.id h
  | succ n ih =>
    have rn : rng (RS.lots 1 n s).2.bs := by rw [RS.lots_bs]; exact hr
    have j2 := J.num rn h
    have j := (ih j2.1.e).trans j2
    refine ⟨j.1, fun X hX => ?_⟩
    have e := j.2 X hX
    show ((RS.lots 1 n s).1 ++ [(((RS.lots 1 n s).2.num 1 : Nat) : Int)]).foldl (fun (x : WX) (n : Int) => x.num 1 n) X = _
    rw [List.foldl_append]
    exact e
theorem lots_zero (k : Nat) (s : RS) : RS.lots k 0 s = ([], s) := rfl
theorem lots_succ (k n : Nat) (s : RS) : RS.lots k (n + 1) s = ((RS.lots k n s).1 ++ [(((RS.lots k n s).2.num k : Nat) : Int)], ((RS.lots k n s).2.take k).2) := rfl
section
variable (s : RS)
theorem RS.cel4_bs : s.cel4.bs = s.bs := by
  unfold RS.cel4 RS.cel3 RS.cel2 RS.cel1
  rw [RS.take_bs, RS.take_bs, RS.take_bs, RS.lots_bs]
theorem RS.cel_bs : s.cel.2.bs = s.bs := by
  show (s.cel4.flag.flag.flag.pad 4).bs = s.bs
  rw [RS.pad_bs, RS.flag_bs, RS.flag_bs, RS.flag_bs, RS.cel4_bs]
theorem RS.gic_bs : s.gic.2.bs = s.bs := by
  unfold RS.gic
  dsimp only
  rw [RS.take_bs, RS.take_bs, RS.lots_bs]
theorem RS.spl1_bs : s.spl1.bs = s.bs := by
  unfold RS.spl1
  rw [RS.pad_bs, RS.flag_bs, RS.flag_bs]
theorem RS.spl_bs : s.spl.2.bs = s.bs := by
  show s.spl1.mg.2.mg.2.bs = s.bs
  rw [RS.mg_bs, RS.mg_bs, RS.spl1_bs]
theorem RS.que1_bs : s.que1.bs = s.bs := by
  unfold RS.que1
  rw [RS.lng_bs, RS.lng_bs, RS.lng_bs, RS.lng_bs, RS.lng_bs]
theorem RS.que_bs : s.que.2.bs = s.bs := by
  unfold RS.que
  dsimp only
  rw [row_bs RS.mg_bs, row_bs RS.mg_bs, RS.que1_bs]
theorem RS.y1_bs : s.y1.bs = s.bs := by
  unfold RS.y1
  rw [RS.pad_bs, RS.flag_bs, RS.take_bs]
theorem RS.y2_bs : s.y2.bs = s.bs := by
  unfold RS.y2
  rw [RS.bytes_bs, RS.y1_bs]
theorem RS.y3_bs : s.y3.bs = s.bs := by
  unfold RS.y3
  rw [row_bs RS.pg_bs, RS.y2_bs]
theorem RS.y4_bs : s.y4.bs = s.bs := by
  unfold RS.y4
  rw [row_bs RS.cel_bs, RS.y3_bs]
theorem RS.y5_bs : s.y5.bs = s.bs := by
  unfold RS.y5
  rw [row_bs RS.lne_bs, RS.y4_bs]
theorem RS.y6_bs : s.y6.bs = s.bs := by
  unfold RS.y6
  rw [row_bs RS.slt_bs, RS.y5_bs]
theorem RS.y7_bs : s.y7.bs = s.bs := by
  unfold RS.y7
  rw [RS.gic_bs, RS.y6_bs]
theorem RS.y8_bs : s.y8.bs = s.bs := by
  unfold RS.y8
  rw [row_bs RS.spl_bs, RS.y7_bs]
theorem RS.y9_bs : s.y9.bs = s.bs := by
  unfold RS.y9
  rw [row_bs RS.que_bs, RS.y8_bs]
end
/-- What is read is written as it was. -/
theorem J.bytes {s : RS} (hr : rng s.bs) (h : s.bytes.2.err = 0) : J s s.bytes.2 (fun X => X.bytes s.bytes.1) := by
  have r1 := rng_take 4 hr
  have r2 := rng_take (s.num 4) r1
  have j3 := J.pad r2 h
  have h2 := j3.1.e
  have j1 := J.num hr (takes_ok h2).1
  obtain ⟨e1, e2⟩ := take_seg h2
  have j2 : J (s.take 4).2 ((s.take 4).2.take (s.num 4)).2 (fun X => X.raw ((s.take 4).2.take (s.num 4)).1) := ⟨take_rd h2, fun X hX => by
    show X.raw ((s.take 4).2.take (s.num 4)).1 = _
    rw [← e1]; exact raw_app hX (take_rd h2)⟩
  have j := (j1.trans j2).trans j3
  refine ⟨j.1, fun X hX => ?_⟩
  have := j.2 X hX
  show ((X.num 4 ((((s.take 4).2.take (s.num 4)).1).length : Nat)).raw ((s.take 4).2.take (s.num 4)).1).pad = _
  rw [e2]
  exact this
theorem J.mg {s : RS} (hr : rng s.bs) (h : s.mg.2.err = 0) : J s s.mg.2 (fun X => X.mg s.mg.1) := by
  have r1 := rng_take 8 hr
  have j2 := J.bytes r1 h
  have j1 := J.raw hr j2.1.e
  exact j1.trans j2
theorem J.pg {s : RS} (hr : rng s.bs) (h : s.pg.2.err = 0) : J s s.pg.2 (fun X => X.pg s.pg.1) := by
  have r1 := rng_take 4 hr
  have j2 := J.bytes r1 h
  have j1 := J.raw hr j2.1.e
  exact j1.trans j2
theorem J.lne {s : RS} (hr : rng s.bs) (h : s.lne.2.err = 0) : J s s.lne.2 (fun X => X.lne s.lne.1) := by
  have r1 := rng_take 4 hr
  have r2 := rng_take 4 r1
  have j4 := J.pad (rng_flag r2) h
  have j3 := J.flag r2 j4.1.e
  have j2 := J.raw r1 j3.1.e
  have j1 := J.raw hr j2.1.e
  exact ((j1.trans j2).trans j3).trans j4
theorem J.slt {s : RS} (hr : rng s.bs) (h : s.slt.2.err = 0) : J s s.slt.2 (fun X => X.slt s.slt.1) := by
  have r1 := rng_take 4 hr
  have r2 := rng_take 4 r1
  have r3 := rng_take 4 r2
  have j5 := J.pad (rng_take 1 r3) h
  have j4 := J.raw r3 j5.1.e
  have j3 := J.raw r2 j4.1.e
  have j2 := J.raw r1 j3.1.e
  have j1 := J.num hr j2.1.e
  exact (((j1.trans j2).trans j3).trans j4).trans j5
theorem J.arr {s : RS} (hr : rng s.bs) (h : s.arr.2.err = 0) : J s s.arr.2 (fun X => X.arr s.arr.1) := by
  have r1 := rng_take 8 hr
  have j3 := J.pad (rng_take 1 r1) h
  have j2 := J.num r1 j3.1.e
  have j1 := J.raw hr j2.1.e
  exact (j1.trans j2).trans j3
theorem J.cel {s : RS} (hr : rng s.bs) (h : s.cel.2.err = 0) : J s s.cel.2 (fun X => X.cel s.cel.1) := by
  have jw := J.words 16 (s := s) hr
  have r1 : rng (RS.lots 4 16 s).2.bs := by rw [RS.lots_bs]; exact hr
  unfold RS.cel RS.cel4 RS.cel3 RS.cel2 RS.cel1 at h ⊢
  unfold WX.cel
  dsimp only at h ⊢
  generalize RS.lots 4 16 s = t at *
  have r2 := rng_take 4 r1
  have r3 := rng_take 4 r2
  have r4 := rng_take 4 r3
  have j8 := J.pad (rng_flag (rng_flag (rng_flag r4))) h
  have j7 := J.flag (rng_flag (rng_flag r4)) j8.1.e
  have j6 := J.flag (rng_flag r4) j7.1.e
  have j5 := J.flag r4 j6.1.e
  have j4 := J.raw r3 j5.1.e
  have j3 := J.raw r2 j4.1.e
  have j2 := J.raw r1 j3.1.e
  have j1 := jw j2.1.e
  have j := ((((((j1.trans j2).trans j3).trans j4).trans j5).trans j6).trans j7).trans j8
  exact ⟨j.1, fun X hX => j.2 X hX⟩
theorem J.gic {s : RS} (hr : rng s.bs) (h : s.gic.2.err = 0) : J s s.gic.2 (fun X => X.gi s.gic.1) := by
  have jw := J.nums1 32 (s := s) hr
  have r1 : rng (RS.lots 1 32 s).2.bs := by rw [RS.lots_bs]; exact hr
  unfold RS.gic at h ⊢
  unfold WX.gi
  dsimp only at h ⊢
  generalize RS.lots 1 32 s = t at *
  have j3 := J.raw (rng_take 4 r1) h
  have j2 := J.raw r1 j3.1.e
  have j1 := jw j2.1.e
  have j := (j1.trans j2).trans j3
  exact ⟨j.1, fun X hX => j.2 X hX⟩
theorem J.spl {s : RS} (hr : rng s.bs) (h : s.spl.2.err = 0) : J s s.spl.2 (fun X => X.spl s.spl.1) := by
  have r1 : rng s.spl1.bs := by rw [RS.spl1_bs]; exact hr
  have r2 : rng s.spl1.mg.2.bs := by rw [RS.mg_bs]; exact r1
  unfold RS.spl at h ⊢
  unfold WX.spl
  dsimp only at h ⊢
  have j5 := J.mg (s := s.spl1.mg.2) r2 h
  have j4 := J.mg (s := s.spl1) r1 j5.1.e
  have j3 : J s.flag.flag s.spl1 WX.pad := J.pad (s := s.flag.flag) (rng_flag (rng_flag hr)) j4.1.e
  have j2 := J.flag (s := s.flag) (rng_flag hr) j3.1.e
  have j1 := J.flag (s := s) hr j2.1.e
  have j := (((j1.trans j2).trans j3).trans j4).trans j5
  exact ⟨j.1, fun X hX => j.2 X hX⟩
theorem J.rl {α : Type} {f : RS → α × RS} {g : WX → α → WX} (hb : ∀ s, (f s).2.bs = s.bs) (hf : ∀ {s}, rng s.bs → (f s).2.err = 0 → J s (f s).2 (fun X => g X (f s).1)) (n : Nat) {s : RS} (hr : rng s.bs) (h : (rl f n s).2.err = 0) (L : List α) (hL : ∀ k, k < n → L[k]? = (rl f n s).1[k]?) :
    J s (rl f n s).2 (fun X => WX.upto (fun y k => (L[k]?).elim y (g y)) X n) := by
  induction n with
  | zero => exact J.id h
  | succ n ih =>
    obtain ⟨h1, h2⟩ := rl_ok h
    have hl := rl_len h1
    have rn : rng (Go.Proofs.YtkggkkoblpdopaaGreat.rl f n s).2.bs := by rw [rl_bs hb]; exact hr
    rw [h2] at h hL ⊢
    have j2 := hf rn h
    have j1 := ih h1 (fun k hk => by rw [hL k (by omega)]; exact List.getElem?_append_left (by omega))
    have j := j1.trans j2
    refine ⟨j.1, fun X hX => ?_⟩
    have e := j.2 X hX
    rw [← e]
    have hu : (WX.upto (fun y k => (L[k]?).elim y (g y)) X n).u = false := by
      have := j1.2 X hX
      show (WX.upto (fun y k => (L[k]?).elim y (g y)) X n).u = false
      rw [show WX.upto (fun y k => (L[k]?).elim y (g y)) X n = _ from this]
      exact hX.u
    have hn : L[n]? = some (f (Go.Proofs.YtkggkkoblpdopaaGreat.rl f n s).2).1 := by
      rw [hL n (by omega), List.getElem?_append_right (by omega), hl]; simp
    show (if (WX.upto (fun y k => (L[k]?).elim y (g y)) X n).u then _ else _) = _
    rw [if_neg (by simp [hu])]
    show (L[n]?).elim (WX.upto (fun y k => (L[k]?).elim y (g y)) X n) (g (WX.upto (fun y k => (L[k]?).elim y (g y)) X n)) = _
    rw [hn]
    rfl
theorem J.row {α : Type} {f : RS → α × RS} {g : WX → α → WX} (hb : ∀ s, (f s).2.bs = s.bs) (hf : ∀ {s}, rng s.bs → (f s).2.err = 0 → J s (f s).2 (fun X => g X (f s).1)) {s : RS} (hr : rng s.bs) (h : (s.row f).2.err = 0) : J s (s.row f).2 (fun X => X.rowL g (s.row f).1) := by
  have r1 := rng_take 4 hr
  have hl : (s.row f).1.length = s.num 4 := rl_len h
  have j2 := J.rl hb hf (s.num 4) r1 h (s.row f).1 (fun _ _ => rfl)
  have j1 := J.num hr j2.1.e
  have j := j1.trans j2
  refine ⟨j.1, fun X hX => ?_⟩
  have e := j.2 X hX
  show WX.upto _ (X.num 4 ((s.row f).1.length : Nat)) (s.row f).1.length = _
  rw [hl]
  exact e
theorem J.que {s : RS} (hr : rng s.bs) (h : s.que.2.err = 0) : J s s.que.2 (fun X => X.que s.que.1) := by
  have r5 : rng s.que1.bs := by rw [RS.que1_bs]; exact hr
  have r6 : rng (s.que1.row RS.mg).2.bs := by rw [row_bs RS.mg_bs]; exact r5
  unfold RS.que at h ⊢
  unfold WX.que
  dsimp only at h ⊢
  have j7 := J.row (s := (s.que1.row RS.mg).2) (g := WX.mg) RS.mg_bs (fun {_} a b => J.mg a b) r6 h
  have j6 := J.row (s := s.que1) (g := WX.mg) RS.mg_bs (fun {_} a b => J.mg a b) r5 j7.1.e
  have j5 : J s.lng.lng.lng.lng s.que1 _ := J.lng (s := s.lng.lng.lng.lng) (rng_lng (rng_lng (rng_lng (rng_lng hr)))) j6.1.e
  have j4 := J.lng (s := s.lng.lng.lng) (rng_lng (rng_lng (rng_lng hr))) j5.1.e
  have j3 := J.lng (s := s.lng.lng) (rng_lng (rng_lng hr)) j4.1.e
  have j2 := J.lng (s := s.lng) (rng_lng hr) j3.1.e
  have j1 := J.lng (s := s) hr j2.1.e
  have j := (((((j1.trans j2).trans j3).trans j4).trans j5).trans j6).trans j7
  exact ⟨j.1, fun X hX => j.2 X hX⟩
theorem y3_eq (s : RS) : s.y3 = (s.y2.row RS.pg).2 := by unfold RS.y3; rfl
theorem y4_eq (s : RS) : s.y4 = (s.y3.row RS.cel).2 := by unfold RS.y4; rfl
theorem y5_eq (s : RS) : s.y5 = (s.y4.row RS.lne).2 := by unfold RS.y5; rfl
theorem y6_eq (s : RS) : s.y6 = (s.y5.row RS.slt).2 := by unfold RS.y6; rfl
theorem y8_eq (s : RS) : s.y8 = (s.y7.row RS.spl).2 := by unfold RS.y8; rfl
theorem y9_eq (s : RS) : s.y9 = (s.y8.row RS.que).2 := by unfold RS.y9; rfl
theorem y2_eq (s : RS) : s.y2 = s.y1.bytes.2 := by unfold RS.y2; rfl
theorem y7_eq (s : RS) : s.y7 = s.y6.gic.2 := by unfold RS.y7; rfl
theorem y1_eq (s : RS) : s.y1 = (s.take 8).2.flag.pad 4 := by unfold RS.y1; rfl
theorem J.steA {s : RS} (hr : rng s.bs) (h : s.y5.err = 0) : J s s.y5 (fun X => ((((((X.raw (Go.Proofs.YtkggkkoblpdopaaGreat.le (s.num 8) 8)).raw (Go.Proofs.YtkggkkoblpdopaaGreat.le (if decide ((s.take 8).2.num 1 = 1) then 1 else 0) 1)).pad).bytes s.y1.bytes.1).rowL WX.pg (s.y2.row RS.pg).1).rowL WX.cel (s.y3.row RS.cel).1).rowL WX.lne (s.y4.row RS.lne).1) := by
  have r1 : rng s.y1.bs := by rw [s.y1_bs]; exact hr
  have r2 : rng s.y2.bs := by rw [s.y2_bs]; exact hr
  have r3 : rng s.y3.bs := by rw [s.y3_bs]; exact hr
  have r4 : rng s.y4.bs := by rw [s.y4_bs]; exact hr
  have j7 : J s.y4 s.y5 (fun X => X.rowL WX.lne (s.y4.row RS.lne).1) := by
    have e := h
    rw [y5_eq] at e ⊢
    exact J.row (s := s.y4) (g := WX.lne) RS.lne_bs (fun {_} a b => J.lne a b) r4 e
  have j6 : J s.y3 s.y4 (fun X => X.rowL WX.cel (s.y3.row RS.cel).1) := by
    have e := j7.1.e
    rw [y4_eq] at e ⊢
    exact J.row (s := s.y3) (g := WX.cel) RS.cel_bs (fun {_} a b => J.cel a b) r3 e
  have j5 : J s.y2 s.y3 (fun X => X.rowL WX.pg (s.y2.row RS.pg).1) := by
    have e := j6.1.e
    rw [y3_eq] at e ⊢
    exact J.row (s := s.y2) (g := WX.pg) RS.pg_bs (fun {_} a b => J.pg a b) r2 e
  have j4 : J s.y1 s.y2 (fun X => X.bytes s.y1.bytes.1) := by
    have e := j5.1.e
    rw [y2_eq] at e ⊢
    exact J.bytes (s := s.y1) r1 e
  have j3 : J (s.take 8).2.flag s.y1 WX.pad := by
    have e := j4.1.e
    rw [y1_eq] at e ⊢
    exact J.pad (s := (s.take 8).2.flag) (rng_flag (rng_take 8 hr)) e
  have j2 := J.flag (s := (s.take 8).2) (rng_take 8 hr) j3.1.e
  have j1 := J.raw (s := s) hr j2.1.e
  have j := (((((j1.trans j2).trans j3).trans j4).trans j5).trans j6).trans j7
  exact ⟨j.1, fun X hX => j.2 X hX⟩
theorem J.steB {s : RS} (hr : rng s.bs) (h : (s.y9.row RS.arr).2.err = 0) : J s.y5 (s.y9.row RS.arr).2 (fun X => ((((X.rowL WX.slt (s.y5.row RS.slt).1).gi s.y6.gic.1).rowL WX.spl (s.y7.row RS.spl).1).rowL WX.que (s.y8.row RS.que).1).rowL WX.arr (s.y9.row RS.arr).1) := by
  have r5 : rng s.y5.bs := by rw [s.y5_bs]; exact hr
  have r6 : rng s.y6.bs := by rw [s.y6_bs]; exact hr
  have r7 : rng s.y7.bs := by rw [s.y7_bs]; exact hr
  have r8 : rng s.y8.bs := by rw [s.y8_bs]; exact hr
  have r9 : rng s.y9.bs := by rw [s.y9_bs]; exact hr
  have j12 : J s.y9 (s.y9.row RS.arr).2 (fun X => X.rowL WX.arr (s.y9.row RS.arr).1) := J.row (s := s.y9) (g := WX.arr) RS.arr_bs (fun {_} a b => J.arr a b) r9 h
  have j11 : J s.y8 s.y9 (fun X => X.rowL WX.que (s.y8.row RS.que).1) := by
    have e := j12.1.e
    rw [y9_eq] at e ⊢
    exact J.row (s := s.y8) (g := WX.que) RS.que_bs (fun {_} a b => J.que a b) r8 e
  have j10 : J s.y7 s.y8 (fun X => X.rowL WX.spl (s.y7.row RS.spl).1) := by
    have e := j11.1.e
    rw [y8_eq] at e ⊢
    exact J.row (s := s.y7) (g := WX.spl) RS.spl_bs (fun {_} a b => J.spl a b) r7 e
  have j9 : J s.y6 s.y7 (fun X => X.gi s.y6.gic.1) := by
    have e := j10.1.e
    rw [y7_eq] at e ⊢
    exact J.gic (s := s.y6) r6 e
  have j8 : J s.y5 s.y6 (fun X => X.rowL WX.slt (s.y5.row RS.slt).1) := by
    have e := j9.1.e
    rw [y6_eq] at e ⊢
    exact J.row (s := s.y5) (g := WX.slt) RS.slt_bs (fun {_} a b => J.slt a b) r5 e
  have j := (((j8.trans j9).trans j10).trans j11).trans j12
  exact ⟨j.1, fun X hX => j.2 X hX⟩
theorem J.ste {s : RS} (hr : rng s.bs) (h : s.ste.2.err = 0) : J s s.ste.2 (fun X => X.ste s.ste.1) := by
  unfold RS.ste at h ⊢
  unfold WX.ste
  dsimp only at h ⊢
  have jb := J.steB hr h
  have ja := J.steA hr jb.1.e
  have j := ja.trans jb
  exact ⟨j.1, fun X hX => j.2 X hX⟩
end Go.Proofs.YtkggkkoblpdopaaGreat
namespace Go.Proofs.YtkggkkoblpdopaaGreat
open Go.ChangeShapes Go.WideShapes Go.ChangeAt Go.RowKit
set_option linter.unusedVariables false
/-- A writer without a fault. -/
def WX.fine (X : WX) : Prop := X.s.err = 0 ∧ X.u = false
/-- A reader that stands before l. -/
structure Bef (s : RS) (m : Nat) (l : List Int) : Prop where
  e : s.err = 0
  m : s.at_ % 4 = m % 4
  a : s.at_ ≤ s.bs.length
  p : (s.bs.drop s.at_).take l.length = l
def RS.past (s : RS) (n : Nat) : RS := { s with at_ := s.at_ + n }
/-- What is written can be read again. -/
def K (g : WX → WX) (n : RS → RS) (P : RS → Prop) : Prop := ∀ X, (g X).fine → X.fine ∧ ∃ l, rng l ∧ g X = app X l ∧ ∀ s, Bef s X.s.data.length l → n s = s.past l.length ∧ P s
theorem Bef.le {s : RS} {m : Nat} {l : List Int} (h : Bef s m l) : s.at_ + l.length ≤ s.bs.length := by
  have e := congrArg List.length h.p
  have := h.a
  simp at e; omega
theorem Bef.left {s : RS} {m : Nat} {l1 l2 : List Int} (h : Bef s m (l1 ++ l2)) : Bef s m l1 := by
  refine ⟨h.e, h.m, h.a, ?_⟩
  have := congrArg (List.take l1.length) h.p
  rw [List.take_take, List.take_left' rfl, Nat.min_eq_left (by simp)] at this
  exact this
theorem Bef.right {s : RS} {m : Nat} {l1 l2 : List Int} (h : Bef s m (l1 ++ l2)) : Bef (s.past l1.length) (m + l1.length) l2 := by
  have hl := h.le
  rw [List.length_append] at hl
  have hm := h.m
  refine ⟨h.e, ?_, ?_, ?_⟩
  · show (s.at_ + l1.length) % 4 = _; omega
  · show s.at_ + l1.length ≤ s.bs.length; omega
  · show (s.bs.drop (s.at_ + l1.length)).take l2.length = l2
    have := congrArg (List.drop l1.length) h.p
    rw [List.drop_left' rfl, List.length_append, List.drop_take, List.drop_drop, Nat.add_sub_cancel_left] at this
    exact this
theorem app_app (X : WX) (l m : List Int) : app (app X l) m = app X (l ++ m) := by
  unfold app; simp
theorem K.trans {g1 g2 : WX → WX} {n1 n2 : RS → RS} {P1 P2 : RS → Prop} (a : K g1 n1 P1) (b : K g2 n2 P2) : K (fun X => g2 (g1 X)) (fun s => n2 (n1 s)) (fun s => P1 s ∧ P2 (n1 s)) := by
  intro X h
  obtain ⟨f1, l2, r2, e2, k2⟩ := b (g1 X) h
  obtain ⟨f0, l1, r1, e1, k1⟩ := a X f1
  refine ⟨f0, l1 ++ l2, fun x hx => (List.mem_append.1 hx).elim (r1 x) (r2 x), by show g2 (g1 X) = _; rw [e2, e1, app_app], fun s hs => ?_⟩
  obtain ⟨q1, p1⟩ := k1 s hs.left
  have hr := hs.right
  have hlen : (g1 X).s.data.length = X.s.data.length + l1.length := by rw [e1]; show (X.s.data ++ l1).length = _; rw [List.length_append]
  rw [← hlen] at hr
  obtain ⟨q2, p2⟩ := k2 _ hr
  refine ⟨?_, p1, by rw [q1]; exact p2⟩
  show n2 (n1 s) = _
  rw [q1, q2, List.length_append]
  unfold RS.past
  simp only
  rw [Nat.add_assoc]
theorem K.mono {g : WX → WX} {n n' : RS → RS} {P P' : RS → Prop} (a : K g n P) (h : ∀ s, P s → n' s = n s ∧ P' s) : K g n' P' := by
  intro X hX
  obtain ⟨f, l, r, e, k⟩ := a X hX
  refine ⟨f, l, r, e, fun s hs => ?_⟩
  obtain ⟨q, p⟩ := k s hs
  obtain ⟨q', p'⟩ := h s p
  exact ⟨q'.trans q, p'⟩
theorem fine_raw {X : WX} {l : List Int} (h : (X.raw l).fine) : X.fine ∧ X.raw l = app X l := by
  unfold WX.raw at h ⊢
  obtain ⟨h1, h2⟩ := h
  have h2' : X.u = false := h2
  by_cases he : X.s.err = 0
  · by_cases hl : X.s.lim < X.s.data.length + l.length
    · rw [WS.raw_full he l hl] at h1
      exact absurd h1 (by show (12 : Int) ≠ 0; decide)
    · rw [WS.raw_ok he l (by omega)]
      exact ⟨⟨he, h2'⟩, rfl⟩
  · rw [WS.raw_bad he] at h1
    exact absurd h1 he
theorem bef_take {s : RS} {m : Nat} {l : List Int} (h : Bef s m l) : s.take l.length = (l, s.past l.length) := by
  have := h.le
  unfold RS.take
  rw [if_neg (by simp [h.e]), if_neg (by omega), h.p]
  rfl
theorem K.raw (l : List Int) (hr : rng l) : K (fun X => X.raw l) (fun s => (s.take l.length).2) (fun s => (s.take l.length).1 = l) := by
  intro X h
  obtain ⟨f, e⟩ := fine_raw h
  refine ⟨f, l, hr, e, fun s hs => ?_⟩
  have t := bef_take hs
  exact ⟨congrArg Prod.snd t, congrArg Prod.fst t⟩
theorem K.le (v : Int) (k : Nat) (h0 : 0 ≤ v) (h1 : v.toNat < 2 ^ (8 * k)) : K (fun X => X.raw (Go.Proofs.YtkggkkoblpdopaaGreat.le v.toNat k)) (fun s => (s.take k).2) (fun s => ((s.num k : Nat) : Int) = v) := by
  refine (K.raw (Go.Proofs.YtkggkkoblpdopaaGreat.le v.toNat k) (le_range _ _)).mono fun s h => ?_
  rw [le_len] at h ⊢
  refine ⟨rfl, ?_⟩
  unfold RS.num
  rw [h, ofLe_le, Nat.mod_eq_of_lt h1]
  omega
theorem K.num (k : Nat) (v : Int) : K (fun X => X.num k v) (fun s => (s.take k).2) (fun s => ((s.num k : Nat) : Int) = v) := by
  intro X h
  unfold WX.num at h ⊢
  by_cases hv : v < 0 ∨ (256 ^ k : Nat) ≤ v
  · simp only [if_pos hv] at h
    exact absurd h.2 (by simp)
  · simp only [if_neg hv] at h ⊢
    have e : (2 : Nat) ^ (8 * k) = 256 ^ k := by rw [Nat.pow_mul]
    have hv0 : 0 ≤ v := by
      rcases Int.lt_or_le v 0 with q | q
      · exact absurd (.inl q) hv
      · exact q
    have hv1 : v < (256 ^ k : Nat) := by
      rcases Int.lt_or_le v (256 ^ k : Nat) with q | q
      · exact q
      · exact absurd (.inr q) hv
    exact K.le v k hv0 (by rw [e]; omega) X h
theorem K.pad : K WX.pad (fun s => s.pad 4) (fun _ => True) := by
  intro X h
  have hX : X.s.err = 0 := by
    apply Classical.byContradiction
    intro he
    unfold WX.pad WS.pad at h
    rw [if_pos he] at h
    exact he h.1
  have hp : X.pad = X.raw (List.replicate (padN X.s.data.length 4) 0) := by
    unfold WX.pad WS.pad WX.raw
    rw [if_neg (by simp [hX]), if_pos (by decide)]
    rfl
  rw [hp] at h
  obtain ⟨f, e⟩ := fine_raw h
  refine ⟨f, _, fun x hx => by simp at hx; omega, hp.trans e, fun s hs => ?_⟩
  refine ⟨?_, trivial⟩
  have em : padN X.s.data.length 4 = padN s.at_ 4 := by unfold padN; rw [hs.m]
  have t := bef_take hs
  rw [List.length_replicate] at t
  have hq : s.pad 4 = s.padded (s.take (padN s.at_ 4)) := by unfold RS.pad; rw [if_pos (by decide)]; rfl
  show s.pad 4 = _
  rw [hq, ← em, t, RS.padded_none _ _ (by
    rw [List.findIdx?_eq_none_iff]
    intro x hx
    simp at hx
    simp [hx.2]), List.length_replicate]
theorem K.flag (b : Bool) : K (fun X => X.raw (Go.Proofs.YtkggkkoblpdopaaGreat.le (if b then 1 else 0) 1)) RS.flag (fun s => decide (s.num 1 = 1) = b) := by
  have j : K (fun X => X.raw (Go.Proofs.YtkggkkoblpdopaaGreat.le (if b then 1 else 0) 1)) (fun s => (s.take 1).2) (fun s => s.num 1 = if b then 1 else 0) := by
    have := K.le (if b then 1 else 0 : Nat) 1 (by omega) (by cases b <;> decide)
    rw [Int.toNat_natCast] at this
    exact this.mono fun s h => ⟨rfl, Int.ofNat.inj h⟩
  refine j.mono fun s h => ?_
  refine ⟨?_, by rw [h]; cases b <;> rfl⟩
  unfold RS.flag
  rw [if_neg (by rw [h]; cases b <;> decide)]
theorem K.id : K (fun X => X) (fun s => s) (fun _ => True) := fun X h => ⟨h, [], (by intro x hx; simp at hx), by unfold app; simp, fun s _ => ⟨rfl, trivial⟩⟩
theorem K.lng (v : Int) (h : i64ok v) : K (fun X => X.num 8 v) RS.lng (fun s => s.lv = v) := by
  refine (K.num 8 v).mono fun s e => ?_
  have hn : ¬ 9223372036854775807 < s.num 8 := by have := h.2; omega
  refine ⟨?_, by rw [lv_ok hn]; exact e⟩
  unfold RS.lng
  rw [if_neg hn]
theorem K.bytes (l : List Int) (hr : rng l) : K (fun X => X.bytes l) (fun s => s.bytes.2) (fun s => s.bytes.1 = l) := by
  have j := ((K.num 4 (l.length : Nat)).trans (K.raw l hr)).trans K.pad
  refine j.mono fun s h => ?_
  obtain ⟨⟨h1, h2⟩, _⟩ := h
  have h1' := Int.ofNat.inj h1
  unfold RS.bytes
  rw [h1']
  exact ⟨rfl, h2⟩
/-- A message whose parts are of their kinds. -/
structure Mg.fit (r : Mg) : Prop where
  d : rng r.d
  t : u64ok r.t
theorem K.mg (r : Mg) (h : r.fit) : K (fun X => X.mg r) (fun s => s.mg.2) (fun s => s.mg.1 = r) := by
  obtain ⟨hd, ht⟩ := h
  refine ((K.le r.t 8 ht.1 (by have := ht.2; omega)).trans (K.bytes r.d hd)).mono fun s h => ⟨rfl, ?_⟩
  obtain ⟨h1, h2⟩ := h
  exact congr (congrArg Mg.mk h2) h1
theorem K.pg (r : Pg) (hd : rng r.d) (hn : u32ok r.n) : K (fun X => X.pg r) (fun s => s.pg.2) (fun s => s.pg.1 = r) := by
  refine ((K.le r.n 4 hn.1 (by have := hn.2; omega)).trans (K.bytes r.d hd)).mono fun s h => ⟨rfl, ?_⟩
  obtain ⟨h1, h2⟩ := h
  exact congr (congrArg Pg.mk h1) h2
theorem K.lne (r : Lne) (h : r.ok) : K (fun X => X.lne r) (fun s => s.lne.2) (fun s => s.lne.1 = r) := by
  obtain ⟨hs, ht⟩ := h
  refine ((((K.le r.s 4 hs.1 (by have := hs.2; omega)).trans (K.le r.t 4 ht.1 (by have := ht.2; omega))).trans (K.flag r.d)).trans K.pad).mono fun s h => ⟨rfl, ?_⟩
  obtain ⟨⟨⟨h1, h2⟩, h3⟩, _⟩ := h
  exact congr (congr (congrArg Lne.mk h1) h2) h3
theorem K.slt (r : Slt) (h : r.ok) : K (fun X => X.slt r) (fun s => s.slt.2) (fun s => s.slt.1 = r) := by
  obtain ⟨hc, hp, hf, hm⟩ := h
  refine (((((K.num 4 r.c).trans (K.le r.p 4 hp.1 (by have := hp.2; omega))).trans (K.le r.f 4 hf.1 (by have := hf.2; omega))).trans (K.le r.m 1 hm.1 (by have := hm.2; omega))).trans K.pad).mono fun s h => ⟨rfl, ?_⟩
  obtain ⟨⟨⟨⟨h1, h2⟩, h3⟩, h4⟩, _⟩ := h
  exact congr (congr (congr (congrArg Slt.mk h1) h2) h3) h4
theorem K.arr (r : Arr) (h : r.ok) : K (fun X => X.arr r) (fun s => s.arr.2) (fun s => s.arr.1 = r) := by
  obtain ⟨ht, _⟩ := h
  refine (((K.le r.t 8 ht.1 (by have := ht.2; omega)).trans (K.num 1 r.l)).trans K.pad).mono fun s h => ⟨rfl, ?_⟩
  obtain ⟨⟨h1, h2⟩, _⟩ := h
  exact congr (congrArg Arr.mk h1) h2
theorem K.lots {k : Nat} {g : WX → Int → WX} (xs : List Int) (hf : ∀ x, x ∈ xs → K (fun X => g X x) (fun s => (s.take k).2) (fun s => ((s.num k : Nat) : Int) = x)) : K (fun X => xs.foldl g X) (fun s => (RS.lots k xs.length s).2) (fun s => (RS.lots k xs.length s).1 = xs) := by
  obtain ⟨ys, rfl⟩ : ∃ ys, xs = ys.reverse := ⟨xs.reverse, by simp⟩
  induction ys with
  | nil => exact K.id.mono fun s _ => by show (RS.lots k 0 s).2 = _ ∧ (RS.lots k 0 s).1 = _; rw [lots_zero]; exact ⟨rfl, rfl⟩
  | cons y ys ih =>
    rw [List.reverse_cons]
    have j := (ih (fun x hx => hf x (by rw [List.reverse_cons]; exact List.mem_append_left _ hx))).trans (hf y (by simp))
    have e : (ys.reverse ++ [y]).length = ys.reverse.length + 1 := by simp
    have e2 : (fun X => (ys.reverse ++ [y]).foldl g X) = fun X => g (ys.reverse.foldl g X) y := by funext X; rw [List.foldl_append]; rfl
    rw [e, e2]
    refine j.mono fun s h => ?_
    rw [lots_succ]
    refine ⟨rfl, ?_⟩
    dsimp only
    rw [h.1, h.2]
theorem K.words (l : List Int) (n : Nat) (hn : l.length = n) (h : ∀ x, x ∈ l → u32ok x) : K (fun X => X.words l) (fun s => (RS.lots 4 n s).2) (fun s => (RS.lots 4 n s).1 = l) := by
  subst hn
  exact K.lots (k := 4) (g := fun (x : WX) (n : Int) => x.raw (Go.Proofs.YtkggkkoblpdopaaGreat.le n.toNat 4)) l fun x hx => K.le x 4 (h x hx).1 (by have := (h x hx).2; omega)
theorem K.nums1 (l : List Int) (n : Nat) (hn : l.length = n) : K (fun X => X.nums1 l) (fun s => (RS.lots 1 n s).2) (fun s => (RS.lots 1 n s).1 = l) := by
  subst hn
  exact K.lots (k := 1) (g := fun (x : WX) (n : Int) => x.num 1 n) l fun x hx => K.num 1 x
theorem K.cel (r : Cel) (h : r.ok) : K (fun X => X.cel r) (fun s => s.cel.2) (fun s => s.cel.1 = r) := by
  obtain ⟨hl, hr, hp, hv, hb⟩ := h
  refine ((((((((K.words r.r 16 hl hr).trans (K.le r.pc 4 hp.1 (by have := hp.2; omega))).trans (K.le r.ve 4 hv.1 (by have := hv.2; omega))).trans (K.le r.ba 4 hb.1 (by have := hb.2; omega))).trans (K.flag r.on)).trans (K.flag r.hd)).trans (K.flag r.ha)).trans K.pad).mono fun s h => ?_
  obtain ⟨⟨⟨⟨⟨⟨⟨h1, h2⟩, h3⟩, h4⟩, h5⟩, h6⟩, h7⟩, _⟩ := h
  unfold RS.cel RS.cel4 RS.cel3 RS.cel2 RS.cel1
  dsimp only at h1 h2 h3 h4 h5 h6 h7 ⊢
  generalize RS.lots 4 16 s = t at *
  refine ⟨rfl, ?_⟩
  exact congr (congr (congr (congr (congr (congr (congrArg Cel.mk h1) h2) h3) h4) h5) h6) h7
theorem K.gic (r : Gi) (h : r.ok) : K (fun X => X.gi r) (fun s => s.gic.2) (fun s => s.gic.1 = r) := by
  obtain ⟨hl, _, hp, hm⟩ := h
  refine (((K.nums1 r.r 32 hl).trans (K.le r.p 4 hp.1 (by have := hp.2; omega))).trans (K.le r.m 4 hm.1 (by have := hm.2; omega))).mono fun s h => ?_
  obtain ⟨⟨h1, h2⟩, h3⟩ := h
  unfold RS.gic
  dsimp only at h1 h2 h3 ⊢
  generalize RS.lots 1 32 s = t at *
  refine ⟨rfl, ?_⟩
  exact congr (congr (congrArg Gi.mk h1) h2) h3
theorem K.spl (r : Spl) (h1 : r.l.fit) (h2 : r.n.fit) : K (fun X => X.spl r) (fun s => s.spl.2) (fun s => s.spl.1 = r) := by
  have j := (((((K.flag r.a).trans (K.flag r.b)).trans K.pad).trans (K.mg r.l h1)).trans (K.mg r.n h2))
  refine K.mono j fun s h => ?_
  obtain ⟨⟨⟨⟨h1, h2⟩, _⟩, h3⟩, h4⟩ := h
  unfold RS.spl RS.spl1
  exact ⟨rfl, congr (congr (congr (congrArg Spl.mk h1) h2) h3) h4⟩
/-- A list, thing by thing. -/
theorem K.rl {α : Type} {f : RS → α × RS} {g : WX → α → WX} (xs : List α) (hf : ∀ x, x ∈ xs → K (fun X => g X x) (fun s => (f s).2) (fun s => (f s).1 = x)) (n : Nat) (hn : n ≤ xs.length) :
    K (fun X => WX.upto (fun y k => (xs[k]?).elim y (g y)) X n) (fun s => (Go.Proofs.YtkggkkoblpdopaaGreat.rl f n s).2) (fun s => (Go.Proofs.YtkggkkoblpdopaaGreat.rl f n s).1 = xs.take n ∧ (Go.Proofs.YtkggkkoblpdopaaGreat.rl f n s).2.err = 0) := by
  induction n with
  | zero =>
    intro X h
    exact ⟨h, [], (by intro x hx; simp at hx), by show X = _; unfold app; simp, fun s hs => ⟨rfl, rfl, hs.e⟩⟩
  | succ n ih =>
    have ih := ih (by omega)
    have hx : xs[n]? = some xs[n] := List.getElem?_eq_getElem (by omega)
    have j := ih.trans (hf xs[n] (List.getElem_mem _))
    intro X h
    have e : WX.upto (fun y k => (xs[k]?).elim y (g y)) X (n + 1) = g (WX.upto (fun y k => (xs[k]?).elim y (g y)) X n) xs[n] := by
      show (if (WX.upto (fun y k => (xs[k]?).elim y (g y)) X n).u then WX.upto (fun y k => (xs[k]?).elim y (g y)) X n else (xs[n]?).elim (WX.upto (fun y k => (xs[k]?).elim y (g y)) X n) (g (WX.upto (fun y k => (xs[k]?).elim y (g y)) X n))) = _
      rw [hx]
      split
      · rename_i hu
        exfalso
        have e0 : WX.upto (fun y k => (xs[k]?).elim y (g y)) X (n + 1) = WX.upto (fun y k => (xs[k]?).elim y (g y)) X n := by
          show (if (WX.upto (fun y k => (xs[k]?).elim y (g y)) X n).u then _ else _) = _
          rw [if_pos hu]
        have h' : (WX.upto (fun y k => (xs[k]?).elim y (g y)) X (n + 1)).fine := h
        rw [e0] at h'
        rw [h'.2] at hu
        cases hu
      · rfl
    have h' : (g (WX.upto (fun y k => (xs[k]?).elim y (g y)) X n) xs[n]).fine := by rw [← e]; exact h
    obtain ⟨f0, l, r, e1, k⟩ := j X h'
    refine ⟨f0, l, r, by show WX.upto _ X (n + 1) = _; rw [e]; exact e1, fun s hs => ?_⟩
    obtain ⟨q, ⟨p1, p2⟩, p3⟩ := k s hs
    have er : Go.Proofs.YtkggkkoblpdopaaGreat.rl f (n + 1) s = ((Go.Proofs.YtkggkkoblpdopaaGreat.rl f n s).1 ++ [(f (Go.Proofs.YtkggkkoblpdopaaGreat.rl f n s).2).1], (f (Go.Proofs.YtkggkkoblpdopaaGreat.rl f n s).2).2) := by
      show (if (Go.Proofs.YtkggkkoblpdopaaGreat.rl f n s).2.err ≠ 0 then _ else _) = _
      rw [if_neg (by simp [p2])]
    have q' : (f (Go.Proofs.YtkggkkoblpdopaaGreat.rl f n s).2).2 = s.past l.length := q
    have p3' : (f (Go.Proofs.YtkggkkoblpdopaaGreat.rl f n s).2).1 = xs[n] := p3
    show (Go.Proofs.YtkggkkoblpdopaaGreat.rl f (n + 1) s).2 = _ ∧ (Go.Proofs.YtkggkkoblpdopaaGreat.rl f (n + 1) s).1 = _ ∧ (Go.Proofs.YtkggkkoblpdopaaGreat.rl f (n + 1) s).2.err = 0
    rw [er]
    refine ⟨q', ?_, ?_⟩
    · dsimp only
      rw [p1, p3', List.take_add_one, hx]; rfl
    · dsimp only
      rw [q']; exact hs.e
theorem K.row {α : Type} {f : RS → α × RS} {g : WX → α → WX} (xs : List α) (hf : ∀ x, x ∈ xs → K (fun X => g X x) (fun s => (f s).2) (fun s => (f s).1 = x)) : K (fun X => X.rowL g xs) (fun s => (s.row f).2) (fun s => (s.row f).1 = xs) := by
  refine ((K.num 4 (xs.length : Nat)).trans (K.rl xs hf xs.length (Nat.le_refl _))).mono fun s h => ?_
  obtain ⟨h1, h2, _⟩ := h
  have h1' := Int.ofNat.inj h1
  unfold RS.row
  rw [h1']
  exact ⟨rfl, by rw [h2, List.take_length]⟩
theorem K.que (r : Que) (h : r.ok) (hq : ∀ m, m ∈ r.q → m.fit) (hs : ∀ m, m ∈ r.s → m.fit) : K (fun X => X.que r) (fun s => s.que.2) (fun s => s.que.1 = r) := by
  have j := ((((((K.lng r.c0 h.c0).trans (K.lng r.c1 h.c1)).trans (K.lng r.c2 h.c2)).trans (K.lng r.c3 h.c3)).trans (K.lng r.c4 h.c4)).trans (K.row (f := RS.mg) (g := WX.mg) r.q (fun m hm => K.mg m (hq m hm)))).trans (K.row (f := RS.mg) (g := WX.mg) r.s (fun m hm => K.mg m (hs m hm)))
  unfold WX.que
  refine K.mono j fun s h => ?_
  obtain ⟨⟨⟨⟨⟨⟨h0, h1⟩, h2⟩, h3⟩, h4⟩, h5⟩, h6⟩ := h
  unfold RS.que RS.que1
  dsimp only at h0 h1 h2 h3 h4 h5 h6 ⊢
  exact ⟨rfl, congr (congr (congr (congr (congr (congr (congrArg Que.mk h0) h1) h2) h3) h4) h5) h6⟩
/-- A state whose parts are of their kinds. -/
structure Ste.good (z : Ste) : Prop where
  t : u64ok z.t
  bl : rng z.bl
  pg : ∀ p, p ∈ z.pg → rng p.d ∧ u32ok p.n
  ce : ∀ p, p ∈ z.ce → p.ok
  ln : ∀ p, p ∈ z.ln → p.ok
  sl : ∀ p, p ∈ z.sl → p.ok
  gi : z.gi.ok
  sa : ∀ p, p ∈ z.sa → p.l.fit ∧ p.n.fit
  qu : ∀ p, p ∈ z.qu → p.ok ∧ (∀ m, m ∈ p.q → m.fit) ∧ ∀ m, m ∈ p.s → m.fit
  ar : ∀ p, p ∈ z.ar → p.ok
theorem K.ste (z : Ste) (h : z.good) : K (fun X => X.ste z) (fun s => s.ste.2) (fun s => s.ste.1 = z) := by
  have j1 := (((K.le z.t 8 h.t.1 (by have := h.t.2; omega)).trans (K.flag z.w)).trans K.pad).trans (K.bytes z.bl h.bl)
  have j2 := (((j1.trans (K.row (f := RS.pg) (g := WX.pg) z.pg (fun p hp => K.pg p (h.pg p hp).1 (h.pg p hp).2))).trans (K.row (f := RS.cel) (g := WX.cel) z.ce (fun p hp => K.cel p (h.ce p hp)))).trans (K.row (f := RS.lne) (g := WX.lne) z.ln (fun p hp => K.lne p (h.ln p hp)))).trans (K.row (f := RS.slt) (g := WX.slt) z.sl (fun p hp => K.slt p (h.sl p hp)))
  have j := (((j2.trans (K.gic z.gi h.gi)).trans (K.row (f := RS.spl) (g := WX.spl) z.sa (fun p hp => K.spl p (h.sa p hp).1 (h.sa p hp).2))).trans (K.row (f := RS.que) (g := WX.que) z.qu (fun p hp => K.que p (h.qu p hp).1 (h.qu p hp).2.1 (h.qu p hp).2.2))).trans (K.row (f := RS.arr) (g := WX.arr) z.ar (fun p hp => K.arr p (h.ar p hp)))
  unfold WX.ste
  refine K.mono j fun s h => ?_
  obtain ⟨⟨⟨⟨⟨⟨⟨⟨⟨⟨⟨h1, h2⟩, _⟩, h3⟩, h4⟩, h5⟩, h6⟩, h7⟩, h8⟩, h9⟩, h10⟩, h11⟩ := h
  unfold RS.ste RS.y9 RS.y8 RS.y7 RS.y6 RS.y5 RS.y4 RS.y3 RS.y2 RS.y1
  dsimp only at h1 h2 h3 h4 h5 h6 h7 h8 h9 h10 h11 ⊢
  exact ⟨rfl, congr (congr (congr (congr (congr (congr (congr (congr (congr (congr (congrArg Ste.mk h3) h1) h2) h4) h5) h6) h7) h8) h9) h10) h11⟩
end Go.Proofs.YtkggkkoblpdopaaGreat
namespace Go.Proofs.YtkggkkoblpdopaaGreat
open Go.ChangeShapes Go.WideShapes Go.ChangeAt Go.RowKit
set_option linter.unusedVariables false
theorem fail_ne (s : RS) (e p : Int) (he : e ≠ 0) : (s.fail e p).err ≠ 0 := by
  unfold RS.fail errOf
  simp only
  split
  · exact he
  · assumption
theorem rtake_bad {s : RS} (h : s.err ≠ 0) (k : Nat) : s.take k = ([], s) := by
  unfold RS.take; rw [if_pos h]
theorem counted_good {s : RS} {k most : Nat} (h : (s.counted k most).2.err = 0) : (s.take k).2.err = 0 ∧ s.counted k most = (s.take k).2.take (s.num k) := by
  unfold RS.counted at h ⊢
  by_cases h1 : most < s.num k
  · rw [if_pos h1] at h
    have := fail_ne { (s.take k).2 with at_ := s.at_ } 15 s.at_ (by decide)
    rw [rtake_bad this] at h
    exact absurd h this
  · rw [if_neg h1] at h ⊢
    by_cases h2 : (s.take k).2.left < s.num k
    · rw [if_pos h2] at h
      have := fail_ne { (s.take k).2 with at_ := s.at_ } 11 s.at_ (by decide)
      rw [rtake_bad this] at h
      exact absurd h this
    · rw [if_neg h2] at h ⊢
      exact ⟨(takes_ok h).1, rfl⟩
theorem end_ok {s : RS} (h : s.end.err = 0) : s.err = 0 ∧ s.bs.length ≤ s.at_ ∧ s.end = s := by
  unfold RS.end at h ⊢
  by_cases hl : 0 < s.left
  · rw [if_pos hl] at h
    exact absurd h (fail_ne s 14 _ (by decide))
  · rw [if_neg hl] at h ⊢
    refine ⟨h, ?_, rfl⟩
    unfold RS.left at hl
    rw [if_neg (by simp [h])] at hl
    omega
/-- The form of bytes whose body can be read. -/
structure Form (bs : List Int) (n : Nat) : Prop where
  lim : bs.length ≤ 67108864
  len : bs.length = 16 + n
  mag : bs.take 8 = magic
  sz : (bs.drop 8).take 4 = le n 4
  cr : (bs.drop (12 + n)).take 4 = le (crc (bs.take (12 + n))) 4
  body : (rs1 bs).part.1 = ⟨(bs.drop 12).take n, 0, 0, 0⟩
theorem form_of {bs : List Int} (hr : rng bs) (h : opnE bs = none) : ∃ n, Form bs n := by
  unfold opnE at h
  split at h
  · cases h
  · next h0 =>
    split at h
    · cases h
    · next h1 =>
      split at h
      · cases h
      · next h2 =>
        split at h
        · cases h
        · next h4 =>
          have h1' : ((rs0 bs).take 8).1 = magic := by simpa using h1
          have e4 : (rs4 bs).err = 0 := by simpa using h2
          obtain ⟨e3, l9, _⟩ := end_ok (s := rs3 bs) e4
          have h4' : (rs2 bs).num 4 = crc (bs.take (rs2 bs).at_) := by simpa using h4
          obtain ⟨e2, l3, t3⟩ := takes_ok (s := rs2 bs) (k := 4) e3
          have e2' : ((rs1 bs).counted 4 4294967295).2.err = 0 := e2
          obtain ⟨ea, eb⟩ := counted_good e2'
          obtain ⟨e1, la, ta⟩ := takes_ok ea
          have e1' : ((rs0 bs).take 8).2.err = 0 := e1
          obtain ⟨_, l0, t0⟩ := takes_ok e1'
          have r1 : rs1 bs = ⟨bs, 8, 0, 0⟩ := by unfold rs1; rw [t0]; rfl
          rw [eb] at e2'
          obtain ⟨_, lb, tb⟩ := takes_ok e2'
          rw [r1] at ta la eb tb lb ea
          have ra : ((⟨bs, 8, 0, 0⟩ : RS).take 4).2 = ⟨bs, 12, 0, 0⟩ := by rw [ta]
          obtain ⟨n, hn⟩ : ∃ n, n = (⟨bs, 8, 0, 0⟩ : RS).num 4 := ⟨_, rfl⟩
          rw [ra, ← hn] at tb lb eb
          have r2 : rs2 bs = ⟨bs, 12 + n, 0, 0⟩ := by
            show ((rs1 bs).counted 4 4294967295).2 = _
            rw [r1, eb, tb]
          have hpart : (rs1 bs).part.1 = ⟨(bs.drop 12).take n, 0, 0, 0⟩ := by
            unfold RS.part
            rw [r1, eb, tb]
          rw [r2] at l3 t3 h4'
          have r3 : rs3 bs = ⟨bs, 12 + n + 4, 0, 0⟩ := by unfold rs3; rw [r2, t3]
          rw [r3] at l9
          have l9' : bs.length ≤ 12 + n + 4 := l9
          have l3' : 12 + n + 4 ≤ bs.length := l3
          have hlen : bs.length = 16 + n := by omega
          have hsz : ((bs.drop 8).take 4) = le n 4 := by
            have e : n = ofLe ((bs.drop 8).take 4) := by rw [hn]; unfold RS.num; rw [ta]
            rw [e]
            exact (le_ofLe 4 _ (by simp; omega) (fun x hx => hr x (List.mem_of_mem_drop (List.mem_of_mem_take hx)))).symm
          have hcr : (bs.drop (12 + n)).take 4 = le (crc (bs.take (12 + n))) 4 := by
            have e : crc (bs.take (12 + n)) = ofLe ((bs.drop (12 + n)).take 4) := by rw [← h4']; unfold RS.num; rw [t3]
            rw [e]
            exact (le_ofLe 4 _ (by simp; omega) (fun x hx => hr x (List.mem_of_mem_drop (List.mem_of_mem_take hx)))).symm
          have hmg : bs.take 8 = magic := by rw [← h1', t0]; rfl
          exact ⟨n, by omega, hlen, hmg, hsz, hcr, hpart⟩
/-- The reader behind a body, and what it read. -/
def decS (bs : List Int) : RS := ((rs1 bs).part.1.ste.2).end
def decG (bs : List Int) : Ste := (rs1 bs).part.1.ste.1
/-- What is read is written as it was. -/
theorem once_enc {bs : List Int} (hr : rng bs) (h : opnE bs = none) (hd : (decS bs).err = 0) : encOk (decG bs) = true ∧ encB (decG bs) = bs := by
  obtain ⟨n, hF⟩ := form_of hr h
  obtain ⟨body, hbody⟩ : ∃ body, body = (bs.drop 12).take n := ⟨_, rfl⟩
  have hbl : body.length = n := by rw [hbody]; have := hF.len; simp; omega
  have hrb : rng body := fun x hx => by rw [hbody] at hx; exact hr x (List.mem_of_mem_drop (List.mem_of_mem_take hx))
  have hp := hF.body
  rw [← hbody] at hp
  unfold decS at hd
  unfold decG
  rw [hp] at hd ⊢
  obtain ⟨e9, l9, _⟩ := end_ok hd
  have hj := J.ste (s := ⟨body, 0, 0, 0⟩) hrb e9
  have hlim := hj.1.lim (Nat.zero_le _)
  have hb9 := hj.1.bs
  rw [hb9] at l9
  have hat : (RS.ste ⟨body, 0, 0, 0⟩).2.at_ = n := by
    have h1 : (RS.ste ⟨body, 0, 0, 0⟩).2.at_ ≤ body.length := hlim
    have h2 : body.length ≤ (RS.ste ⟨body, 0, 0, 0⟩).2.at_ := l9
    omega
  have hn : 16 + n ≤ 67108864 := by have := hF.lim; have := hF.len; omega
  have hsy : Sy ⟨body, 0, 0, 0⟩ x2 := by
    rw [x2_eq]
    refine ⟨rfl, rfl, by simp [magic], ?_, Nat.zero_le _⟩
    show (magic ++ [0, 0, 0, 0]).length + (body.length - 0) ≤ 67108864
    simp [magic]; omega
  have hw := hj.2 x2 hsy
  have hseg : seg ⟨body, 0, 0, 0⟩ (RS.ste ⟨body, 0, 0, 0⟩).2 = body := by
    unfold seg
    show ((body.drop 0).take ((RS.ste ⟨body, 0, 0, 0⟩).2.at_ - 0)) = body
    rw [hat, List.drop_zero, Nat.sub_zero]
    exact List.take_of_length_le (by omega)
  rw [hseg, x2_eq] at hw
  obtain ⟨g, hg⟩ : ∃ g, g = (RS.ste ⟨body, 0, 0, 0⟩).1 := ⟨_, rfl⟩
  rw [← hg] at hw ⊢
  have hw' : x2.ste g = ⟨⟨67108864, magic ++ [0, 0, 0, 0] ++ body, [8], 0⟩, false⟩ := by
    have e : x2.ste g = app ⟨⟨67108864, magic ++ [0, 0, 0, 0], [8], 0⟩, false⟩ body := by rw [← hw, x2_eq]
    rw [e]; rfl
  clear hw hg hj hd e9 l9 hlim hb9 hat hseg hsy hp
  have hml : magic.length = 8 := rfl
  have hS : encS g = ⟨⟨67108864, magic ++ le n 4 ++ body, [], 0⟩, false⟩ := by
    unfold encS
    rw [hw']
    unfold WS.shut WS.has
    rw [if_neg (by simp), if_pos (by simp)]
    refine congrArg (fun t => (⟨t, false⟩ : WX)) ?_
    have t8 : (magic ++ [0, 0, 0, 0] ++ body).take 8 = magic := by
      rw [List.append_assoc, List.take_left' hml]
    have d12 : (magic ++ [0, 0, 0, 0] ++ body).drop 12 = body := List.drop_left' (by simp [hml])
    have ln : (magic ++ [0, 0, 0, 0] ++ body).length - 8 - 4 = n := by simp [hml]; omega
    show (⟨67108864, (magic ++ [0, 0, 0, 0] ++ body).take 8 ++ le ((magic ++ [0, 0, 0, 0] ++ body).length - 8 - 4) 4 ++ (magic ++ [0, 0, 0, 0] ++ body).drop 12, _, 0⟩ : WS) = _
    rw [t8, d12, ln]
    rfl
  have hout : (encS g).s.out = magic ++ le n 4 ++ body := by rw [hS]; rfl
  have hbs12 : bs.take (12 + n) = magic ++ le n 4 ++ body := by
    have e1 : bs.take (12 + n) = bs.take 8 ++ ((bs.drop 8).take 4 ++ ((bs.drop 12).take n)) := by
      rw [show 12 + n = 8 + (4 + n) by omega, List.take_add, List.take_add, List.drop_drop]
    rw [e1, hF.mag, hF.sz, ← hbody, List.append_assoc]
  have hT : encT g = ⟨67108864, magic ++ le n 4 ++ body ++ le (crc (bs.take (12 + n))) 4, [], 0⟩ := by
    unfold encT
    rw [hbs12, hout, hS]
    unfold WS.raw
    rw [if_neg (by simp), if_neg (by simp [le_len, hml]; omega)]
  refine ⟨?_, ?_⟩
  · unfold encOk
    rw [hT, hS]
    rfl
  · unfold encB
    rw [hT]
    show magic ++ le n 4 ++ body ++ le (crc (bs.take (12 + n))) 4 = bs
    rw [← hbs12, ← hF.cr]
    have e2 : bs = bs.take (12 + n) ++ (bs.drop (12 + n)).take 4 := by
      conv => lhs; rw [← List.take_append_drop (12 + n) bs]
      refine congrArg (fun t => bs.take (12 + n) ++ t) ?_
      exact (List.take_of_length_le (by have := hF.len; simp; omega)).symm
    exact e2.symm
theorem Ste.good.fit {z : Ste} (h : z.good) : z.fit := ⟨h.bl, fun p hp => (h.pg p hp).1, fun p hp => ⟨(h.sa p hp).1.d, (h.sa p hp).2.d⟩, fun p hp => ⟨fun m hm => ((h.qu p hp).2.1 m hm).d, fun m hm => ((h.qu p hp).2.2 m hm).d⟩⟩
end Go.Proofs.YtkggkkoblpdopaaGreat
