import Derived.Test.YtknlpjcdemijgaaGreatYo
import Derived.Lib.SlBytesConst
namespace Go.Proofs.YtknlpjcdemijgaaGreat
open Go.ChangeShapes Go.WideShapes Go.ChangeAt Go.RowKit
set_option linter.unusedVariables false
theorem leB_add (n m k i : Nat) (h : i < k) : leB (n + 2 ^ (8 * k) * m) i = leB n i := by
 unfold leB
 have e : 2 ^ (8 * k) * m = 2 ^ (8 * i) * (256 * (2 ^ (8 * (k - i - 1)) * m)) := by
  rw [← Nat.mul_assoc, ← Nat.mul_assoc, show (256 : Nat) = 2 ^ 8 from rfl, ← Nat.pow_add, ← Nat.pow_add]
  congr 2
  omega
 rw [e, Nat.add_mul_div_left _ _ (Nat.two_pow_pos _)]
 congr 1
 omega
theorem le_add (n m k j : Nat) (h : j ≤ k) : le (n + 2 ^ (8 * k) * m) j = le n j := by
 induction j with
 | zero => rfl
 | succ j ih => simp only [le]; rw [ih (by omega), leB_add n m k j (by omega)]
theorem le_ofLe (k : Nat) : ∀ l : List Int, l.length = k → rng l → le (ofLe l) k = l := by
 induction k with
 | zero => intro l hl _; rw [List.eq_nil_of_length_eq_zero hl]; rfl
 | succ k ih =>
  intro l hl hr
  obtain ⟨l', b, rfl⟩ : ∃ l' b, l = l' ++ [b] := ⟨l.dropLast, l.getLast (by intro e; rw [e] at hl; simp at hl), (List.dropLast_concat_getLast _).symm⟩
  have hl' : l'.length = k := by simp at hl; exact hl
  have hr' : rng l' := fun x hx => hr x (List.mem_append_left _ hx)
  have hb := hr b (by simp)
  rw [ofLe_snoc, hl']
  simp only [le]
  rw [le_add _ _ _ _ (Nat.le_refl k), ih l' hl' hr']
  congr 1
  unfold leB
  rw [Nat.add_mul_div_left _ _ (Nat.two_pow_pos _), Nat.div_eq_of_lt (by have := ofLe_lt l' hr'; rw [hl'] at this; exact this)]
  congr 1
  omega
def app (X : WX) (l : List Int) : WX := ⟨⟨X.s.lim, X.s.data ++ l, X.s.ops, X.s.err⟩, X.u⟩
def seg (s s' : RS) : List Int := (s.bs.drop s.at_).take (s'.at_ - s.at_)
structure Rd (s s' : RS) (c : Nat) : Prop where
 bs : s'.bs = s.bs
 le : s.at_ ≤ s'.at_
 up : s'.at_ ≤ s.at_ + c
 lim : s.at_ ≤ s.bs.length → s'.at_ ≤ s.bs.length
 e : s.err = 0
 e' : s'.err = 0
structure Sy (s : RS) (X : WX) : Prop where
 e : X.s.err = 0
 m : X.s.data.length % 4 = s.at_ % 4
 r : X.s.data.length + (s.bs.length - s.at_) ≤ X.s.lim
 l : s.at_ ≤ s.bs.length
theorem seg_len {s s' : RS} {c : Nat} (h : Rd s s' c) (hl : s.at_ ≤ s.bs.length) : (seg s s').length = s'.at_ - s.at_ := by
 unfold seg
 have := h.lim hl
 simp; omega
theorem Sy.app {s s' : RS} {c : Nat} {X : WX} (h : Sy s X) (r : Rd s s' c) : Sy s' (app X (seg s s')) := by
 have hl := seg_len r h.l
 have h1 := r.lim h.l
 have h2 := r.le
 have hm := h.m
 have hr := h.r
 refine ⟨h.e, ?_, ?_, by rw [r.bs]; exact h1⟩
 ·show (X.s.data ++ seg s s').length % 4 = _
  rw [List.length_append, hl]; omega
 ·show (X.s.data ++ seg s s').length + _ ≤ X.s.lim
  rw [List.length_append, hl, r.bs]; omega
def J (s s' : RS) (c : Nat) (g : WX → WX) : Prop := Rd s s' c ∧ ∀ X, Sy s X → g X = app X (seg s s')
theorem J.trans {s s1 s2 : RS} {c1 c2 : Nat} {g1 g2 : WX → WX} (a : J s s1 c1 g1) (b : J s1 s2 c2 g2) : J s s2 (c1 + c2) (fun X => g2 (g1 X)) := by
 obtain ⟨a1, a2⟩ := a
 obtain ⟨b1, b2⟩ := b
 have l1 := a1.le
 have l2 := b1.le
 have u1 := a1.up
 have u2 := b1.up
 refine ⟨⟨b1.bs.trans a1.bs, by omega, by omega, fun h => by have := a1.lim h; have := b1.lim (by rw [a1.bs]; exact this); rw [a1.bs] at this; exact this, a1.e, b1.e'⟩, fun X h => ?_⟩
 show g2 (g1 X) = _
 rw [a2 X h, b2 _ (h.app a1)]
 unfold Go.Proofs.YtknlpjcdemijgaaGreat.app
 simp only
 congr 2
 rw [List.append_assoc]
 congr 1
 unfold seg
 rw [a1.bs]
 have e : s2.at_ - s.at_ = (s1.at_ - s.at_) + (s2.at_ - s1.at_) := by omega
 rw [e, List.take_add, List.drop_drop]
 congr 3
 omega
theorem J.le {s s' : RS} {c c' : Nat} {g : WX → WX} (h : J s s' c g) (hc : c ≤ c') : J s s' c' g := ⟨⟨h.1.bs, h.1.le, by have := h.1.up; omega, h.1.lim, h.1.e, h.1.e'⟩, h.2⟩
theorem J.id {s : RS} (h : s.err = 0) : J s s 0 (fun X => X) := ⟨⟨rfl, Nat.le_refl _, Nat.le_refl _, fun x => x, h, h⟩, fun X _ => by unfold Go.Proofs.YtknlpjcdemijgaaGreat.app seg; simp⟩
theorem takes_ok {s : RS} {k : Nat} (h : (s.take k).2.err = 0) : s.err = 0 ∧ s.at_ + k ≤ s.bs.length ∧ s.take k = ((s.bs.drop s.at_).take k, { s with at_ := s.at_ + k }) := by
 unfold RS.take at h ⊢
 by_cases he : s.err = 0
 ·rw [if_neg (by simp [he])] at h ⊢
  by_cases hl : s.bs.length < s.at_ + k
  ·rw [if_pos hl] at h
   exact absurd h (by show (11 : Int) ≠ 0; decide)
  ·rw [if_neg hl]
   exact ⟨he, by omega, rfl⟩
 ·rw [if_pos he] at h
  exact absurd h he
theorem take_rd {s : RS} {k : Nat} (h : (s.take k).2.err = 0) : Rd s (s.take k).2 k := by
 obtain ⟨h1, h2, h3⟩ := takes_ok h
 rw [h3]
 exact ⟨rfl, by show _ ≤ s.at_ + k; omega, Nat.le_refl _, fun _ => h2, h1, h1⟩
theorem take_seg {s : RS} {k : Nat} (h : (s.take k).2.err = 0) : seg s (s.take k).2 = (s.take k).1 ∧ (s.take k).1.length = k := by
 obtain ⟨h1, h2, h3⟩ := takes_ok h
 rw [h3]
 unfold seg
 refine ⟨?_, ?_⟩
 ·show List.take (s.at_ + k - s.at_) _ = _
  congr 1; omega
 ·simp; omega
theorem raw_app {s s' : RS} {c : Nat} {X : WX} (h : Sy s X) (r : Rd s s' c) : X.raw (seg s s') = app X (seg s s') := by
 unfold WX.raw
 rw [WS.raw_ok h.e _ (by
  have := h.r
  have := seg_len r h.l
  have := r.lim h.l
  omega)]
 rfl
theorem J.raw {s : RS} {k : Nat} (hr : rng s.bs) (h : (s.take k).2.err = 0) : J s (s.take k).2 k (fun X => X.raw (Go.Proofs.YtknlpjcdemijgaaGreat.le (s.num k) k)) := by
 refine ⟨take_rd h, fun X hX => ?_⟩
 obtain ⟨e1, e2⟩ := take_seg h
 have e3 : Go.Proofs.YtknlpjcdemijgaaGreat.le (s.num k) k = seg s (s.take k).2 := by
  rw [e1]
  exact le_ofLe k _ e2 (RS.take_range s k hr)
 show X.raw (Go.Proofs.YtknlpjcdemijgaaGreat.le (s.num k) k) = _
 rw [e3]
 exact raw_app hX (take_rd h)
theorem J.num {s : RS} {k : Nat} (hr : rng s.bs) (h : (s.take k).2.err = 0) : J s (s.take k).2 k (fun X => X.num k (s.num k : Nat)) := by
 have hj := J.raw hr h
 refine ⟨hj.1, fun X hX => ?_⟩
 show X.num k (s.num k : Nat) = _
 have hl := num_lt s k hr
 have e : (2 : Nat) ^ (8 * k) = 256 ^ k := by rw [Nat.pow_mul]
 rw [e] at hl
 unfold WX.num
 rw [if_neg (by rintro (e | e); omega; have := Int.ofNat_le.1 e; omega), Int.toNat_natCast]
 exact hj.2 X hX
theorem J.pad {s : RS} (hr : rng s.bs) (h : (s.pad 4).err = 0) : J s (s.pad 4) 3 WX.pad := by
 have hp : s.pad 4 = s.padded (s.take (padN s.at_ 4)) := by unfold RS.pad; rw [if_pos (by decide)]; rfl
 rw [hp] at h ⊢
 cases hf : (s.take (padN s.at_ 4)).1.findIdx? (fun x => x != 0) with
 | some i =>
  rw [RS.padded_some s _ i hf] at h
  exfalso
  unfold RS.fail errOf at h
  simp only at h
  split at h
  ·cases h
  ·contradiction
 | none =>
  rw [RS.padded_none s _ hf] at h ⊢
  have hlt := padN_lt s.at_ 4 (by omega)
  have rd := take_rd h
  obtain ⟨e1, e2⟩ := take_seg h
  refine ⟨(⟨rd.bs, rd.le, by have := rd.up; omega, rd.lim, rd.e, rd.e'⟩ : Rd s _ 3), fun X hX => ?_⟩
  have hz : (s.take (padN s.at_ 4)).1 = List.replicate (padN s.at_ 4) 0 := by
   apply List.eq_replicate_iff.2
   refine ⟨e2, fun x hx => ?_⟩
   have := List.findIdx?_eq_none_iff.1 hf x hx
   simpa using this
  have em : padN X.s.data.length 4 = padN s.at_ 4 := by unfold padN; rw [hX.m]
  unfold WX.pad WS.pad
  rw [if_neg (by simp [hX.e]), if_pos (by decide)]
  show (⟨X.s.raw (List.replicate (padN X.s.data.length 4) 0), X.u⟩ : WX) = _
  rw [em, ← hz, ← e1]
  exact raw_app hX rd
theorem J.flag {s : RS} (hr : rng s.bs) (h : s.flag.err = 0) : J s s.flag 1 (fun X => X.raw (Go.Proofs.YtknlpjcdemijgaaGreat.le (if decide (s.num 1 = 1) then 1 else 0) 1)) := by
 unfold RS.flag at h ⊢
 by_cases hn : 1 < s.num 1
 ·rw [if_pos hn] at h
  exfalso
  unfold RS.fail errOf at h
  simp only at h
  split at h
  ·cases h
  ·contradiction
 ·rw [if_neg hn] at h ⊢
  have hj := J.raw hr h
  refine ⟨hj.1, fun X hX => ?_⟩
  have e : (if decide (s.num 1 = 1) then 1 else 0) = s.num 1 := by
   by_cases h1 : s.num 1 = 1
   ·rw [h1]; rfl
   ·rw [decide_eq_false h1]; simp; omega
  show X.raw (Go.Proofs.YtknlpjcdemijgaaGreat.le (if decide (s.num 1 = 1) then 1 else 0) 1) = _
  rw [e]
  exact hj.2 X hX
end Go.Proofs.YtknlpjcdemijgaaGreat
namespace Go.Proofs.YtknlpjcdemijgaaGreat
open Go.ChangeShapes Go.WideShapes Go.ChangeAt Go.RowKit
set_option linter.unusedVariables false
theorem sBs_strOf (l : List Int) (hl : rng l) : sBs (strOf l) = l ∧ (strOf l).size = l.length := by
 rw [strOf_eq l hl]
 refine ⟨?_, by simp [ByteArray.size]⟩
 unfold sBs
 simp only [List.map_map]
 conv => rhs; rw [← List.map_id l]
 apply List.map_congr_left
 intro n hn
 have := hl n hn
 simp only [Function.comp, id]
 rw [UInt8.toNat_ofNat_of_lt' (by show n.toNat < 256; omega)]
 omega
theorem J.name {s : RS} (hr : rng s.bs) (h : s.name.2.err = 0) : J s s.name.2 256 (fun X => X.name s.name.1) := by
 have h2 : ((s.take 1).2.take (s.num 1)).2.err = 0 := h
 have h1 : (s.take 1).2.err = 0 := (takes_ok h2).1
 have hr1 : rng (s.take 1).2.bs := rng_take 1 hr
 have a := J.num hr h1
 have hlt := num_lt s 1 hr
 obtain ⟨e1, e2⟩ := take_seg h2
 obtain ⟨f1, f2⟩ := sBs_strOf ((s.take 1).2.take (s.num 1)).1 (RS.take_range _ _ hr1)
 have b : J (s.take 1).2 ((s.take 1).2.take (s.num 1)).2 (s.num 1) (fun X => X.raw ((s.take 1).2.take (s.num 1)).1) := ⟨take_rd h2, fun X hX => by
  show X.raw ((s.take 1).2.take (s.num 1)).1 = _
  rw [← e1]; exact raw_app hX (take_rd h2)⟩
 have c := (a.trans b).le (c' := 256) (by omega)
 refine ⟨c.1, fun X hX => ?_⟩
 have := c.2 X hX
 show (X.num 1 ((strOf ((s.take 1).2.take (s.num 1)).1).size : Nat)).raw (sBs (strOf ((s.take 1).2.take (s.num 1)).1)) = _
 rw [f1, f2, e2]
 exact this
theorem J.rg {s : RS} (hr : rng s.bs) (h : s.rg.2.err = 0) : J s s.rg.2 16 (fun X => X.rg s.rg.1) := by
 have r1 := rng_take 4 hr
 have r2 := rng_take 4 r1
 have r3 := rng_take 4 r2
 have r4 := rng_take 1 r3
 have j5 := J.pad r4 h
 have j4 := J.raw r3 j5.1.e
 have j3 := J.num r2 j4.1.e
 have j2 := J.raw r1 j3.1.e
 have j1 := J.raw hr j2.1.e
 exact (((j1.trans j2).trans j3).trans j4).trans j5
theorem J.wi {s : RS} (hr : rng s.bs) (h : s.wi.2.err = 0) : J s s.wi.2 20 (fun X => X.wi s.wi.1) := by
 have r1 := rng_take 1 hr
 have r2 := rng_pad r1
 have r3 := rng_take 8 r2
 have j4 := J.raw r3 h
 have j3 := J.raw r2 j4.1.e
 have j2 := J.pad r1 j3.1.e
 have j1 := J.num hr j2.1.e
 exact (((j1.trans j2).trans j3).trans j4)
theorem J.qu {s : RS} (hr : rng s.bs) (h : s.qu.2.err = 0) : J s s.qu.2 12 (fun X => X.qu s.qu.1) := by
 have r1 := rng_take 1 hr
 have r2 := rng_take 1 r1
 have r3 := rng_take 2 r2
 have r4 := rng_take 2 r3
 have r5 := rng_take 2 r4
 have r6 : rng ((((((s.take 1).2.take 1).2.take 2).2.take 2).2.take 2).2.flag).bs := by rw [RS.flag_bs]; exact r5
 have j7 := J.pad r6 h
 have j6 := J.flag r5 j7.1.e
 have j5 := J.num r4 j6.1.e
 have j4 := J.num r3 j5.1.e
 have j3 := J.num r2 j4.1.e
 have j2 := J.num r1 j3.1.e
 have j1 := J.num hr j2.1.e
 exact ((((((j1.trans j2).trans j3).trans j4).trans j5).trans j6).trans j7)
theorem J.mc {s : RS} (hr : rng s.bs) (h : s.mc.2.err = 0) : J s s.mc.2 28 (fun X => X.mc s.mc.1) := by
 have r1 := rng_take 4 hr
 have r2 := rng_take 4 r1
 have r3 := rng_take 4 r2
 have r4 := rng_take 2 r3
 have r5 := rng_take 2 r4
 have r6 := rng_take 2 r5
 have r7 := rng_take 2 r6
 have j8 := J.raw r7 h
 have j7 := J.num r6 j8.1.e
 have j6 := J.num r5 j7.1.e
 have j5 := J.num r4 j6.1.e
 have j4 := J.num r3 j5.1.e
 have j3 := J.num r2 j4.1.e
 have j2 := J.raw r1 j3.1.e
 have j1 := J.num hr j2.1.e
 exact (((((((j1.trans j2).trans j3).trans j4).trans j5).trans j6).trans j7).trans j8)
theorem J.int1 {s : RS} (hr : rng s.bs) (h : s.int1.2.err = 0) : J s s.int1.2 1 (fun X => X.num 1 s.int1.1) := J.num hr h
theorem J.dl {α : Type} {f : RS → α × RS} {g : WX → α → WX} {c : Nat} (hb : ∀ s, (f s).2.bs = s.bs) (hf : ∀ {s}, rng s.bs → (f s).2.err = 0 → J s (f s).2 c (fun X => g X (f s).1)) (n : Nat) {s : RS} (hr : rng s.bs) (h : (dl f n s).2.err = 0) : J s (dl f n s).2 (n * c) (fun X => (dl f n s).1.foldl g X) := by
 induction n with
 | zero => rw [Nat.zero_mul]; exact J.id h
 | succ n ih =>
  have rn : rng (Go.Proofs.YtknlpjcdemijgaaGreat.dl f n s).2.bs := by rw [dl_bs f hb]; exact hr
  have j2 := hf rn h
  have j1 := ih j2.1.e
  have := (j1.trans j2).le (c' := (n + 1) * c) (by rw [Nat.add_mul]; omega)
  refine ⟨this.1, fun X hX => ?_⟩
  have e := this.2 X hX
  show ((Go.Proofs.YtknlpjcdemijgaaGreat.dl f n s).1 ++ [(f (Go.Proofs.YtknlpjcdemijgaaGreat.dl f n s).2).1]).foldl g X = _
  rw [List.foldl_append]
  exact e
theorem J.sa {s : RS} (hr : rng s.bs) (h : s.sa.2.err = 0) : J s s.sa.2 262 (fun X => X.sa s.sa.1) := by
 have r1 := rng_take 1 hr
 have r2 := rng_take 1 r1
 have r3 := rng_take 2 r2
 have r4 : rng (Go.Proofs.YtknlpjcdemijgaaGreat.dl RS.int1 ((s.take 1).2.num 1) (((s.take 1).2.take 1).2.take 2).2).2.bs := by rw [dl_bs RS.int1 (fun s => RS.take_bs s 1)]; exact r3
 have hn := num_lt (s.take 1).2 1 r1
 have j5 := J.pad r4 h
 have j4 := J.dl (f := RS.int1) (g := fun X n => X.num 1 n) (c := 1) (fun s => RS.take_bs s 1) (fun {s} hr h => J.int1 hr h) _ r3 j5.1.e
 have j3 := J.num r2 j4.1.e
 have j2 := J.num r1 j3.1.e
 have j1 := J.num hr j2.1.e
 have := ((((j1.trans j2).trans j3).trans j4).trans j5).le (c' := 262) (by omega)
 refine ⟨this.1, fun X hX => ?_⟩
 have e := this.2 X hX
 show ((((X.num 1 _).num 1 ((Go.Proofs.YtknlpjcdemijgaaGreat.dl RS.int1 _ _).1.length : Nat)).num 2 _).nums _).pad = _
 rw [dl_len]
 exact e
theorem J.ce {s : RS} (hr : rng s.bs) (h : s.ce.2.err = 0) : J s s.ce.2 4610 (fun X => X.ce s.ce.1) := by
 have r1 : rng s.name.2.bs := by rw [RS.name_bs]; exact hr
 have r2 := rng_pad r1
 have rA : rng s.ceA.bs := by rw [RS.ceA_bs]; exact hr
 have r4 := rng_take 1 rA
 have r5 := rng_take 1 r4
 have rB : rng s.ceB.bs := by rw [RS.ceB_bs]; exact hr
 have r7 : rng (Go.Proofs.YtknlpjcdemijgaaGreat.dl RS.rg (s.ceA.num 1) s.ceB).2.bs := by rw [dl_bs RS.rg RS.rg_bs]; exact rB
 have r8 : rng (Go.Proofs.YtknlpjcdemijgaaGreat.dl RS.int1 ((s.ceA.take 1).2.num 1) (Go.Proofs.YtknlpjcdemijgaaGreat.dl RS.rg (s.ceA.num 1) s.ceB).2).2.bs := by rw [dl_bs RS.int1 (fun s => RS.take_bs s 1)]; exact r7
 have hn := num_lt s.ceA 1 rA
 have hm := num_lt (s.ceA.take 1).2 1 r4
 have j9 := J.pad r8 h
 have j8 := J.dl (f := RS.int1) (g := fun X n => X.num 1 n) (c := 1) (fun s => RS.take_bs s 1) (fun {s} hr h => J.int1 hr h) _ r7 j9.1.e
 have j7 := J.dl (f := RS.rg) (g := WX.rg) (c := 16) RS.rg_bs (fun {s} hr h => J.rg hr h) _ rB j8.1.e
 have j6 := J.pad r5 j7.1.e
 have j5 := J.num r4 j6.1.e
 have j4 := J.num rA j5.1.e
 have j3 := J.raw r2 j4.1.e
 have j2 := J.pad r1 j3.1.e
 have j1 := J.name hr j2.1.e
 have := ((((((((j1.trans j2).trans j3).trans j4).trans j5).trans j6).trans j7).trans j8).trans j9).le (c' := 4610) (by omega)
 refine ⟨this.1, fun X hX => ?_⟩
 have e := this.2 X hX
 show ((((((((X.name _).pad).raw _).num 1 ((Go.Proofs.YtknlpjcdemijgaaGreat.dl RS.rg _ _).1.length : Nat)).num 1 ((Go.Proofs.YtknlpjcdemijgaaGreat.dl RS.int1 _ _).1.length : Nat)).pad).rgs _).nums _).pad = _
 rw [dl_len, dl_len]
 exact e
theorem J.cf {s : RS} (hr : rng s.bs) (h : s.cf.2.err = 0) : J s s.cf.2 1252000 (fun X => X.cf s.cf.1) := by
 have rA : rng s.cfA.bs := by rw [RS.cfA_bs]; exact hr
 have rB : rng s.cfB.bs := by rw [RS.cfB_bs]; exact hr
 have rC : rng s.cfC.bs := by rw [RS.cfC_bs]; exact hr
 have rD : rng s.cfD.bs := by rw [RS.cfD_bs]; exact hr
 have rE : rng s.cfE.bs := by rw [RS.cfE_bs]; exact hr
 have rF : rng s.cfF.2.bs := by rw [RS.cfF_bs]; exact hr
 have rG : rng s.cfG.2.bs := by rw [RS.cfG_bs]; exact hr
 have rH : rng s.cfH.2.bs := by rw [RS.cfH_bs]; exact hr
 have n1 := num_lt _ 1 rA
 have n2 := num_lt _ 1 rB
 have n3 := num_lt _ 1 rC
 have n4 := num_lt _ 1 rD
 have j9 := J.dl (f := RS.qu) (g := WX.qu) (c := 12) RS.qu_bs (fun {s} hr h => J.qu hr h) _ rH h
 have j8 := J.dl (f := RS.sa) (g := WX.sa) (c := 262) RS.sa_bs (fun {s} hr h => J.sa hr h) _ rG j9.1.e
 have j7 := J.dl (f := RS.wi) (g := WX.wi) (c := 20) RS.wi_bs (fun {s} hr h => J.wi hr h) _ rF j8.1.e
 have j6 := J.dl (f := RS.ce) (g := WX.ce) (c := 4610) RS.ce_bs (fun {s} hr h => J.ce hr h) _ rE j7.1.e
 have j5 := J.num rD j6.1.e
 have j4 := J.num rC j5.1.e
 have j3 := J.num rB j4.1.e
 have j2 := J.num rA j3.1.e
 have j1 := J.mc hr j2.1.e
 have := ((((((((j1.trans j2).trans j3).trans j4).trans j5).trans j6).trans j7).trans j8).trans j9).le (c' := 1252000) (by omega)
 refine ⟨this.1, fun X hX => ?_⟩
 have e := this.2 X hX
 show List.foldl WX.qu (List.foldl WX.sa (List.foldl WX.wi (List.foldl WX.ce (((((X.mc _).num 1 ((Go.Proofs.YtknlpjcdemijgaaGreat.dl RS.ce _ _).1.length : Nat)).num 1 ((Go.Proofs.YtknlpjcdemijgaaGreat.dl RS.wi _ _).1.length : Nat)).num 1 ((Go.Proofs.YtknlpjcdemijgaaGreat.dl RS.sa _ _).1.length : Nat)).num 1 ((Go.Proofs.YtknlpjcdemijgaaGreat.dl RS.qu _ _).1.length : Nat)) _) _) _) _ = _
 rw [dl_len, dl_len, dl_len, dl_len]
 exact e
end Go.Proofs.YtknlpjcdemijgaaGreat
namespace Go.Proofs.YtknlpjcdemijgaaGreat
open Go.ChangeShapes Go.WideShapes Go.ChangeAt Go.RowKit
set_option linter.unusedVariables false
theorem x2_eq : x2 = ⟨⟨2097152, magic ++ [0, 0, 0, 0], [8], 0⟩, false⟩ := by kernel_rfl
end Go.Proofs.YtknlpjcdemijgaaGreat
namespace Go.Proofs.YtknlpjcdemijgaaGreat
open Go.ChangeShapes Go.WideShapes Go.ChangeAt Go.RowKit
set_option linter.unusedVariables false

def sameB (xs ys : List Int) : Bool := decide (xs = ys)

theorem getD_ne {xs ys : List Int} {k : Nat} (h : xs.getD k 0 ≠ ys.getD k 0) : xs ≠ ys := by rintro rfl; exact h rfl

set_option maxHeartbeats 800000 in
theorem same_eq (w : World) (a b : Option Addr) (la ca cb : Nat) (xs ys : List Int) (hx : Bs w a la xs) (hy : Bs w b la ys) :
  Calls Tryz.prog 12 #[.slice a la ca, .slice b la cb] w fun r w' => r = .returned (.bool (sameB xs ys)) ∧ Chg w w' (fun _ => False) := by
 have hl := hx.2.1
 have hlx := hx.1
 have hly := hy.1
 have H : Hid (Bs w a la xs ∧ Bs w b la ys ∧ xs.length = la ∧ ys.length = la) := ⟨hx, hy, hx.1, hy.1⟩
 clear hx hy hlx hly
 go_enter Tryz.func12, Tryz.ntmps12
 go_wp2
 go_loopw [5] (fun i wr => ∃ k : Nat, k ≤ la ∧ i = .int .i64 k ∧ xs.take k = ys.take k ∧ Chg w wr (fun _ => False)) (fun i _ => la - (intOf i).toNat)
 case atStart => exact ⟨0, by omega, rfl, rfl, Chg.refl _ _⟩
 case round =>
  obtain ⟨k, hk, rfl, ht, hC⟩ := hrel
  have HT : Hid (xs.take k = ys.take k ∧ Chg w wr (fun _ => False)) := ⟨ht, hC⟩
  clear ht hC
  by_cases hlt : k < la
  ·obtain ⟨hx, hy, hlx, hly⟩ := H.out
   have hx2 := hx.chg HT.out.2 (by simp)
   have hy2 := hy.chg HT.out.2 (by simp)
   obtain ⟨bx, ox, e1, hcx⟩ := hx2.2.2.2.resolve_left (by omega)
   obtain ⟨by_, oy, e2, hcy⟩ := hy2.2.2.2.resolve_left (by omega)
   have cx := hcx k hlt
   have cy := hcy k hlt
   have tx : Hid (xs.take (k + 1) = xs.take k ++ [xs.getD k 0]) := take_snoc xs k (by omega)
   have ty : Hid (ys.take (k + 1) = ys.take k ++ [ys.getD k 0]) := take_snoc ys k (by omega)
   have HN : Hid (xs.getD k 0 ≠ ys.getD k 0 → xs ≠ ys) := getD_ne
   obtain ⟨p, hp⟩ : ∃ p, p = xs.getD k 0 := ⟨_, rfl⟩
   obtain ⟨q, hq⟩ : ∃ q, q = ys.getD k 0 := ⟨_, rfl⟩
   rw [← hp] at cx tx HN
   rw [← hq] at cy ty HN
   clear hx hy hx2 hy2 hcx hcy hlx hly hp hq
   subst e1 e2
   by_cases hpq : p = q
   ·subst hpq
    have hpp : (p != p) = false := by simp
    go_wp2
    go_quiet (fail)
    go_wp2
    go_roundw
    case rel => exact ⟨k + 1, by omega, by go_num, by rw [tx.out, ty.out, HT.out.1], HT.out.2.drewN _⟩
    case measure => simp [intOf]; omega
   ·have hpp : (p != q) = true := by simpa using hpq
    go_wp2
    go_quiet (fail)
    go_wp2
    go_ret
    exact ⟨by have := HN.out hpq; simp [sameB, this], HT.out.2.drewN _⟩
  ·go_wp2
   go_ret
   refine ⟨?_, HT.out.2⟩
   obtain ⟨hx, hy, hlx, hly⟩ := H.out
   have := HT.out.1
   rw [List.take_of_length_le (by omega), List.take_of_length_le (by omega)] at this
   simp [sameB, this]
end Go.Proofs.YtknlpjcdemijgaaGreat
