import Derived.Test.YtkggkkoblpdopaaGreatYh
namespace Go.Proofs.YtkggkkoblpdopaaGreat
open Go.ChangeShapes Go.WideShapes Go.ChangeAt Go.RowKit
set_option linter.unusedVariables false
def app (X : WX) (l : List Int) : WX := ⟨⟨X.s.lim, X.s.data ++ l, X.s.ops, X.s.err⟩, X.u⟩
def rl {α : Type} (f : RS → α × RS) : Nat → RS → List α × RS
 | 0, s => ([], s)
 | n + 1, s => if (rl f n s).2.err ≠ 0 then rl f n s else ((rl f n s).1 ++ [(f (rl f n s).2).1], (f (rl f n s).2).2)
def RS.row {α : Type} (s : RS) (f : RS → α × RS) : List α × RS := rl f (s.num 4) (s.take 4).2
theorem rl_bs {α : Type} {f : RS → α × RS} (hb : ∀ s, (f s).2.bs = s.bs) (n : Nat) (s : RS) : (rl f n s).2.bs = s.bs := by
 induction n with
 | zero => rfl
 | succ n ih =>
  unfold rl
  split
  ·exact ih
  ·rw [hb]; exact ih
theorem row_bs {α : Type} {f : RS → α × RS} (hb : ∀ s, (f s).2.bs = s.bs) (s : RS) : (s.row f).2.bs = s.bs := (rl_bs hb _ _).trans (RS.take_bs s 4)
def RS.lng (s : RS) : RS := if 9223372036854775807 < s.num 8 then (s.take 8).2.fail 230 (s.take 8).2.at_ else (s.take 8).2
theorem RS.lng_bs (s : RS) : s.lng.bs = s.bs := by
 unfold RS.lng; split
 ·exact RS.take_bs _ _
 ·exact RS.take_bs _ _
def RS.lv (s : RS) : Int := IntKind.i64.wrap (s.num 8 : Nat)
theorem lv_ok {s : RS} (h : ¬ 9223372036854775807 < s.num 8) : s.lv = (s.num 8 : Nat) := by
 unfold RS.lv
 simp [IntKind.wrap, IntKind.bits, IntKind.signed]; omega
theorem rng_take {s : RS} (k : Nat) (h : rng s.bs) : rng (s.take k).2.bs := by rw [RS.take_bs]; exact h
end Go.Proofs.YtkggkkoblpdopaaGreat
namespace Go.Proofs.YtkggkkoblpdopaaGreat
open Go.ChangeShapes Go.WideShapes Go.ChangeAt Go.RowKit
set_option linter.unusedVariables false
def RS.mg (s : RS) : Mg × RS := (⟨(s.take 8).2.bytes.1, (s.num 8 : Nat)⟩, (s.take 8).2.bytes.2)
def RS.pg (s : RS) : Pg × RS := (⟨(s.num 4 : Nat), (s.take 4).2.bytes.1⟩, (s.take 4).2.bytes.2)
def RS.lne (s : RS) : Lne × RS := (⟨(s.num 4 : Nat), ((s.take 4).2.num 4 : Nat), decide (((s.take 4).2.take 4).2.num 1 = 1)⟩, ((((s.take 4).2.take 4).2.flag).pad 4))
def RS.slt (s : RS) : Slt × RS := (⟨(s.num 4 : Nat), ((s.take 4).2.num 4 : Nat), (((s.take 4).2.take 4).2.num 4 : Nat), ((((s.take 4).2.take 4).2.take 4).2.num 1 : Nat)⟩, ((((s.take 4).2.take 4).2.take 4).2.take 1).2.pad 4)
def RS.arr (s : RS) : Arr × RS := (⟨(s.num 8 : Nat), ((s.take 8).2.num 1 : Nat)⟩, (((s.take 8).2.take 1).2.pad 4))
def RS.lots (k : Nat) : Nat → RS → List Int × RS
 | 0, s => ([], s)
 | n + 1, s => ((RS.lots k n s).1 ++ [(((RS.lots k n s).2.num k : Nat) : Int)], ((RS.lots k n s).2.take k).2)
def RS.cel1 (s : RS) : RS := (RS.lots 4 16 s).2
def RS.cel2 (s : RS) : RS := (s.cel1.take 4).2
def RS.cel3 (s : RS) : RS := (s.cel2.take 4).2
def RS.cel4 (s : RS) : RS := (s.cel3.take 4).2
def RS.cel (s : RS) : Cel × RS := (⟨(RS.lots 4 16 s).1, (s.cel1.num 4 : Nat), (s.cel2.num 4 : Nat), (s.cel3.num 4 : Nat), decide (s.cel4.num 1 = 1), decide (s.cel4.flag.num 1 = 1), decide (s.cel4.flag.flag.num 1 = 1)⟩, s.cel4.flag.flag.flag.pad 4)
def RS.gic (s : RS) : Gi × RS := (⟨(RS.lots 1 32 s).1, ((RS.lots 1 32 s).2.num 4 : Nat), ((((RS.lots 1 32 s).2.take 4).2).num 4 : Nat)⟩, (((RS.lots 1 32 s).2.take 4).2.take 4).2)
def RS.spl1 (s : RS) : RS := s.flag.flag.pad 4
def RS.spl (s : RS) : Spl × RS := (⟨decide (s.num 1 = 1), decide (s.flag.num 1 = 1), s.spl1.mg.1, s.spl1.mg.2.mg.1⟩, s.spl1.mg.2.mg.2)
def RS.que1 (s : RS) : RS := s.lng.lng.lng.lng.lng
def RS.que (s : RS) : Que × RS := (⟨s.lv, s.lng.lv, s.lng.lng.lv, s.lng.lng.lng.lv, s.lng.lng.lng.lng.lv, (s.que1.row RS.mg).1, ((s.que1.row RS.mg).2.row RS.mg).1⟩, ((s.que1.row RS.mg).2.row RS.mg).2)
def RS.y1 (s : RS) : RS := ((s.take 8).2.flag.pad 4)
def RS.y2 (s : RS) : RS := s.y1.bytes.2
def RS.y3 (s : RS) : RS := (s.y2.row RS.pg).2
def RS.y4 (s : RS) : RS := (s.y3.row RS.cel).2
def RS.y5 (s : RS) : RS := (s.y4.row RS.lne).2
def RS.y6 (s : RS) : RS := (s.y5.row RS.slt).2
def RS.y7 (s : RS) : RS := s.y6.gic.2
def RS.y8 (s : RS) : RS := (s.y7.row RS.spl).2
def RS.y9 (s : RS) : RS := (s.y8.row RS.que).2
def RS.ste (s : RS) : Ste × RS := (⟨s.y1.bytes.1, (s.num 8 : Nat), decide ((s.take 8).2.num 1 = 1), (s.y2.row RS.pg).1, (s.y3.row RS.cel).1, (s.y4.row RS.lne).1, (s.y5.row RS.slt).1, s.y6.gic.1, (s.y7.row RS.spl).1, (s.y8.row RS.que).1, (s.y9.row RS.arr).1⟩, (s.y9.row RS.arr).2)
section
variable (s : RS)
theorem RS.mg_bs : s.mg.2.bs = s.bs := (RS.bytes_bs _).trans (RS.take_bs _ _)
theorem RS.pg_bs : s.pg.2.bs = s.bs := (RS.bytes_bs _).trans (RS.take_bs _ _)
theorem RS.lne_bs : s.lne.2.bs = s.bs := (RS.pad_bs _ _).trans ((RS.flag_bs _).trans ((RS.take_bs _ _).trans (RS.take_bs _ _)))
theorem RS.slt_bs : s.slt.2.bs = s.bs := (RS.pad_bs _ _).trans ((RS.take_bs _ _).trans ((RS.take_bs _ _).trans ((RS.take_bs _ _).trans (RS.take_bs _ _))))
theorem RS.arr_bs : s.arr.2.bs = s.bs := (RS.pad_bs _ _).trans ((RS.take_bs _ _).trans (RS.take_bs _ _))
theorem RS.lots_bs (k n : Nat) : (RS.lots k n s).2.bs = s.bs := by
 induction n with
 | zero => rfl
 | succ n ih => exact (RS.take_bs _ _).trans ih
end
theorem lots_zero (k : Nat) (s : RS) : RS.lots k 0 s = ([], s) := rfl
theorem lots_succ (k n : Nat) (s : RS) : RS.lots k (n + 1) s = ((RS.lots k n s).1 ++ [(((RS.lots k n s).2.num k : Nat) : Int)], ((RS.lots k n s).2.take k).2) := rfl
section
variable (s : RS)
theorem RS.cel4_bs : s.cel4.bs = s.bs := by
 unfold RS.cel4 RS.cel3 RS.cel2 RS.cel1
 rw [RS.take_bs, RS.take_bs, RS.take_bs, RS.lots_bs]
theorem RS.cel_bs : s.cel.2.bs = s.bs := by
 show (s.cel4.flag.flag.flag.pad 4).bs = s.bs
 rw [RS.pad_bs, RS.flag_bs, RS.flag_bs, RS.flag_bs, RS.cel4_bs]
theorem RS.gic_bs : s.gic.2.bs = s.bs := by
 unfold RS.gic
 dsimp only
 rw [RS.take_bs, RS.take_bs, RS.lots_bs]
theorem RS.spl1_bs : s.spl1.bs = s.bs := by
 unfold RS.spl1
 rw [RS.pad_bs, RS.flag_bs, RS.flag_bs]
theorem RS.spl_bs : s.spl.2.bs = s.bs := by
 show s.spl1.mg.2.mg.2.bs = s.bs
 rw [RS.mg_bs, RS.mg_bs, RS.spl1_bs]
theorem RS.que1_bs : s.que1.bs = s.bs := by
 unfold RS.que1
 rw [RS.lng_bs, RS.lng_bs, RS.lng_bs, RS.lng_bs, RS.lng_bs]
theorem RS.que_bs : s.que.2.bs = s.bs := by
 unfold RS.que
 dsimp only
 rw [row_bs RS.mg_bs, row_bs RS.mg_bs, RS.que1_bs]
theorem RS.y1_bs : s.y1.bs = s.bs := by
 unfold RS.y1
 rw [RS.pad_bs, RS.flag_bs, RS.take_bs]
theorem RS.y2_bs : s.y2.bs = s.bs := by
 unfold RS.y2
 rw [RS.bytes_bs, RS.y1_bs]
theorem RS.y3_bs : s.y3.bs = s.bs := by
 unfold RS.y3
 rw [row_bs RS.pg_bs, RS.y2_bs]
theorem RS.y4_bs : s.y4.bs = s.bs := by
 unfold RS.y4
 rw [row_bs RS.cel_bs, RS.y3_bs]
theorem RS.y5_bs : s.y5.bs = s.bs := by
 unfold RS.y5
 rw [row_bs RS.lne_bs, RS.y4_bs]
theorem RS.y6_bs : s.y6.bs = s.bs := by
 unfold RS.y6
 rw [row_bs RS.slt_bs, RS.y5_bs]
theorem RS.y7_bs : s.y7.bs = s.bs := by
 unfold RS.y7
 rw [RS.gic_bs, RS.y6_bs]
theorem RS.y8_bs : s.y8.bs = s.bs := by
 unfold RS.y8
 rw [row_bs RS.spl_bs, RS.y7_bs]
theorem RS.y9_bs : s.y9.bs = s.bs := by
 unfold RS.y9
 rw [row_bs RS.que_bs, RS.y8_bs]
end
theorem y3_eq (s : RS) : s.y3 = (s.y2.row RS.pg).2 := by unfold RS.y3; rfl
theorem y4_eq (s : RS) : s.y4 = (s.y3.row RS.cel).2 := by unfold RS.y4; rfl
theorem y5_eq (s : RS) : s.y5 = (s.y4.row RS.lne).2 := by unfold RS.y5; rfl
theorem y6_eq (s : RS) : s.y6 = (s.y5.row RS.slt).2 := by unfold RS.y6; rfl
theorem y8_eq (s : RS) : s.y8 = (s.y7.row RS.spl).2 := by unfold RS.y8; rfl
theorem y9_eq (s : RS) : s.y9 = (s.y8.row RS.que).2 := by unfold RS.y9; rfl
theorem y2_eq (s : RS) : s.y2 = s.y1.bytes.2 := by unfold RS.y2; rfl
theorem y7_eq (s : RS) : s.y7 = s.y6.gic.2 := by unfold RS.y7; rfl
theorem y1_eq (s : RS) : s.y1 = (s.take 8).2.flag.pad 4 := by unfold RS.y1; rfl
end Go.Proofs.YtkggkkoblpdopaaGreat
namespace Go.Proofs.YtkggkkoblpdopaaGreat
open Go.ChangeShapes Go.WideShapes Go.ChangeAt Go.RowKit
set_option linter.unusedVariables false
def WX.fine (X : WX) : Prop := X.s.err = 0 ∧ X.u = false
structure Bef (s : RS) (m : Nat) (l : List Int) : Prop where
 e : s.err = 0
 m : s.at_ % 4 = m % 4
 a : s.at_ ≤ s.bs.length
 p : (s.bs.drop s.at_).take l.length = l
def RS.past (s : RS) (n : Nat) : RS := { s with at_ := s.at_ + n }
def K (g : WX → WX) (n : RS → RS) (P : RS → Prop) : Prop := ∀ X, (g X).fine → X.fine ∧ ∃ l, rng l ∧ g X = app X l ∧ ∀ s, Bef s X.s.data.length l → n s = s.past l.length ∧ P s
theorem Bef.le {s : RS} {m : Nat} {l : List Int} (h : Bef s m l) : s.at_ + l.length ≤ s.bs.length := by
 have e := congrArg List.length h.p
 have := h.a
 simp at e; omega
theorem Bef.left {s : RS} {m : Nat} {l1 l2 : List Int} (h : Bef s m (l1 ++ l2)) : Bef s m l1 := by
 refine ⟨h.e, h.m, h.a, ?_⟩
 have := congrArg (List.take l1.length) h.p
 rw [List.take_take, List.take_left' rfl, Nat.min_eq_left (by simp)] at this
 exact this
theorem Bef.right {s : RS} {m : Nat} {l1 l2 : List Int} (h : Bef s m (l1 ++ l2)) : Bef (s.past l1.length) (m + l1.length) l2 := by
 have hl := h.le
 rw [List.length_append] at hl
 have hm := h.m
 refine ⟨h.e, ?_, ?_, ?_⟩
 ·show (s.at_ + l1.length) % 4 = _; omega
 ·show s.at_ + l1.length ≤ s.bs.length; omega
 ·show (s.bs.drop (s.at_ + l1.length)).take l2.length = l2
  have := congrArg (List.drop l1.length) h.p
  rw [List.drop_left' rfl, List.length_append, List.drop_take, List.drop_drop, Nat.add_sub_cancel_left] at this
  exact this
theorem app_app (X : WX) (l m : List Int) : app (app X l) m = app X (l ++ m) := by
 unfold app; simp
theorem K.trans {g1 g2 : WX → WX} {n1 n2 : RS → RS} {P1 P2 : RS → Prop} (a : K g1 n1 P1) (b : K g2 n2 P2) : K (fun X => g2 (g1 X)) (fun s => n2 (n1 s)) (fun s => P1 s ∧ P2 (n1 s)) := by
 intro X h
 obtain ⟨f1, l2, r2, e2, k2⟩ := b (g1 X) h
 obtain ⟨f0, l1, r1, e1, k1⟩ := a X f1
 refine ⟨f0, l1 ++ l2, fun x hx => (List.mem_append.1 hx).elim (r1 x) (r2 x), by show g2 (g1 X) = _; rw [e2, e1, app_app], fun s hs => ?_⟩
 obtain ⟨q1, p1⟩ := k1 s hs.left
 have hr := hs.right
 have hlen : (g1 X).s.data.length = X.s.data.length + l1.length := by rw [e1]; show (X.s.data ++ l1).length = _; rw [List.length_append]
 rw [← hlen] at hr
 obtain ⟨q2, p2⟩ := k2 _ hr
 refine ⟨?_, p1, by rw [q1]; exact p2⟩
 show n2 (n1 s) = _
 rw [q1, q2, List.length_append]
 unfold RS.past
 simp only
 rw [Nat.add_assoc]
theorem K.mono {g : WX → WX} {n n' : RS → RS} {P P' : RS → Prop} (a : K g n P) (h : ∀ s, P s → n' s = n s ∧ P' s) : K g n' P' := by
 intro X hX
 obtain ⟨f, l, r, e, k⟩ := a X hX
 refine ⟨f, l, r, e, fun s hs => ?_⟩
 obtain ⟨q, p⟩ := k s hs
 obtain ⟨q', p'⟩ := h s p
 exact ⟨q'.trans q, p'⟩
theorem fine_raw {X : WX} {l : List Int} (h : (X.raw l).fine) : X.fine ∧ X.raw l = app X l := by
 unfold WX.raw at h ⊢
 obtain ⟨h1, h2⟩ := h
 have h2' : X.u = false := h2
 by_cases he : X.s.err = 0
 ·by_cases hl : X.s.lim < X.s.data.length + l.length
  ·rw [WS.raw_full he l hl] at h1
   exact absurd h1 (by show (12 : Int) ≠ 0; decide)
  ·rw [WS.raw_ok he l (by omega)]
   exact ⟨⟨he, h2'⟩, rfl⟩
 ·rw [WS.raw_bad he] at h1
  exact absurd h1 he
theorem bef_take {s : RS} {m : Nat} {l : List Int} (h : Bef s m l) : s.take l.length = (l, s.past l.length) := by
 have := h.le
 unfold RS.take
 rw [if_neg (by simp [h.e]), if_neg (by omega), h.p]
 rfl
theorem K.raw (l : List Int) (hr : rng l) : K (fun X => X.raw l) (fun s => (s.take l.length).2) (fun s => (s.take l.length).1 = l) := by
 intro X h
 obtain ⟨f, e⟩ := fine_raw h
 refine ⟨f, l, hr, e, fun s hs => ?_⟩
 have t := bef_take hs
 exact ⟨congrArg Prod.snd t, congrArg Prod.fst t⟩
theorem K.le (v : Int) (k : Nat) (h0 : 0 ≤ v) (h1 : v.toNat < 2 ^ (8 * k)) : K (fun X => X.raw (Go.Proofs.YtkggkkoblpdopaaGreat.le v.toNat k)) (fun s => (s.take k).2) (fun s => ((s.num k : Nat) : Int) = v) := by
 refine (K.raw (Go.Proofs.YtkggkkoblpdopaaGreat.le v.toNat k) (le_range _ _)).mono fun s h => ?_
 rw [le_len] at h ⊢
 refine ⟨rfl, ?_⟩
 unfold RS.num
 rw [h, ofLe_le, Nat.mod_eq_of_lt h1]
 omega
theorem K.num (k : Nat) (v : Int) : K (fun X => X.num k v) (fun s => (s.take k).2) (fun s => ((s.num k : Nat) : Int) = v) := by
 intro X h
 unfold WX.num at h ⊢
 by_cases hv : v < 0 ∨ (256 ^ k : Nat) ≤ v
 ·simp only [if_pos hv] at h
  exact absurd h.2 (by simp)
 ·simp only [if_neg hv] at h ⊢
  have e : (2 : Nat) ^ (8 * k) = 256 ^ k := by rw [Nat.pow_mul]
  have hv0 : 0 ≤ v := by
   rcases Int.lt_or_le v 0 with q | q
   ·exact absurd (.inl q) hv
   ·exact q
  have hv1 : v < (256 ^ k : Nat) := by
   rcases Int.lt_or_le v (256 ^ k : Nat) with q | q
   ·exact q
   ·exact absurd (.inr q) hv
  exact K.le v k hv0 (by rw [e]; omega) X h
theorem K.pad : K WX.pad (fun s => s.pad 4) (fun _ => True) := by
 intro X h
 have hX : X.s.err = 0 := by
  apply Classical.byContradiction
  intro he
  unfold WX.pad WS.pad at h
  rw [if_pos he] at h
  exact he h.1
 have hp : X.pad = X.raw (List.replicate (padN X.s.data.length 4) 0) := by
  unfold WX.pad WS.pad WX.raw
  rw [if_neg (by simp [hX]), if_pos (by decide)]
  rfl
 rw [hp] at h
 obtain ⟨f, e⟩ := fine_raw h
 refine ⟨f, _, fun x hx => by simp at hx; omega, hp.trans e, fun s hs => ?_⟩
 refine ⟨?_, trivial⟩
 have em : padN X.s.data.length 4 = padN s.at_ 4 := by unfold padN; rw [hs.m]
 have t := bef_take hs
 rw [List.length_replicate] at t
 have hq : s.pad 4 = s.padded (s.take (padN s.at_ 4)) := by unfold RS.pad; rw [if_pos (by decide)]; rfl
 show s.pad 4 = _
 rw [hq, ← em, t, RS.padded_none _ _ (by
  rw [List.findIdx?_eq_none_iff]
  intro x hx
  simp at hx
  simp [hx.2]), List.length_replicate]
theorem K.flag (b : Bool) : K (fun X => X.raw (Go.Proofs.YtkggkkoblpdopaaGreat.le (if b then 1 else 0) 1)) RS.flag (fun s => decide (s.num 1 = 1) = b) := by
 have j : K (fun X => X.raw (Go.Proofs.YtkggkkoblpdopaaGreat.le (if b then 1 else 0) 1)) (fun s => (s.take 1).2) (fun s => s.num 1 = if b then 1 else 0) := by
  have := K.le (if b then 1 else 0 : Nat) 1 (by omega) (by cases b <;> decide)
  rw [Int.toNat_natCast] at this
  exact this.mono fun s h => ⟨rfl, Int.ofNat.inj h⟩
 refine j.mono fun s h => ?_
 refine ⟨?_, by rw [h]; cases b <;> rfl⟩
 unfold RS.flag
 rw [if_neg (by rw [h]; cases b <;> decide)]
theorem K.id : K (fun X => X) (fun s => s) (fun _ => True) := fun X h => ⟨h, [], (by intro x hx; simp at hx), by unfold app; simp, fun s _ => ⟨rfl, trivial⟩⟩
theorem K.lng (v : Int) (h : i64ok v) : K (fun X => X.num 8 v) RS.lng (fun s => s.lv = v) := by
 refine (K.num 8 v).mono fun s e => ?_
 have hn : ¬ 9223372036854775807 < s.num 8 := by have := h.2; omega
 refine ⟨?_, by rw [lv_ok hn]; exact e⟩
 unfold RS.lng
 rw [if_neg hn]
theorem K.bytes (l : List Int) (hr : rng l) : K (fun X => X.bytes l) (fun s => s.bytes.2) (fun s => s.bytes.1 = l) := by
 have j := ((K.num 4 (l.length : Nat)).trans (K.raw l hr)).trans K.pad
 refine j.mono fun s h => ?_
 obtain ⟨⟨h1, h2⟩, _⟩ := h
 have h1' := Int.ofNat.inj h1
 unfold RS.bytes
 rw [h1']
 exact ⟨rfl, h2⟩
structure Mg.fit (r : Mg) : Prop where
 d : rng r.d
 t : u64ok r.t
theorem K.mg (r : Mg) (h : r.fit) : K (fun X => X.mg r) (fun s => s.mg.2) (fun s => s.mg.1 = r) := by
 obtain ⟨hd, ht⟩ := h
 refine ((K.le r.t 8 ht.1 (by have := ht.2; omega)).trans (K.bytes r.d hd)).mono fun s h => ⟨rfl, ?_⟩
 obtain ⟨h1, h2⟩ := h
 exact congr (congrArg Mg.mk h2) h1
theorem K.pg (r : Pg) (hd : rng r.d) (hn : u32ok r.n) : K (fun X => X.pg r) (fun s => s.pg.2) (fun s => s.pg.1 = r) := by
 refine ((K.le r.n 4 hn.1 (by have := hn.2; omega)).trans (K.bytes r.d hd)).mono fun s h => ⟨rfl, ?_⟩
 obtain ⟨h1, h2⟩ := h
 exact congr (congrArg Pg.mk h1) h2
theorem K.lne (r : Lne) (h : r.ok) : K (fun X => X.lne r) (fun s => s.lne.2) (fun s => s.lne.1 = r) := by
 obtain ⟨hs, ht⟩ := h
 refine ((((K.le r.s 4 hs.1 (by have := hs.2; omega)).trans (K.le r.t 4 ht.1 (by have := ht.2; omega))).trans (K.flag r.d)).trans K.pad).mono fun s h => ⟨rfl, ?_⟩
 obtain ⟨⟨⟨h1, h2⟩, h3⟩, _⟩ := h
 exact congr (congr (congrArg Lne.mk h1) h2) h3
theorem K.slt (r : Slt) (h : r.ok) : K (fun X => X.slt r) (fun s => s.slt.2) (fun s => s.slt.1 = r) := by
 obtain ⟨hc, hp, hf, hm⟩ := h
 refine (((((K.num 4 r.c).trans (K.le r.p 4 hp.1 (by have := hp.2; omega))).trans (K.le r.f 4 hf.1 (by have := hf.2; omega))).trans (K.le r.m 1 hm.1 (by have := hm.2; omega))).trans K.pad).mono fun s h => ⟨rfl, ?_⟩
 obtain ⟨⟨⟨⟨h1, h2⟩, h3⟩, h4⟩, _⟩ := h
 exact congr (congr (congr (congrArg Slt.mk h1) h2) h3) h4
theorem K.arr (r : Arr) (h : r.ok) : K (fun X => X.arr r) (fun s => s.arr.2) (fun s => s.arr.1 = r) := by
 obtain ⟨ht, _⟩ := h
 refine (((K.le r.t 8 ht.1 (by have := ht.2; omega)).trans (K.num 1 r.l)).trans K.pad).mono fun s h => ⟨rfl, ?_⟩
 obtain ⟨⟨h1, h2⟩, _⟩ := h
 exact congr (congrArg Arr.mk h1) h2
theorem K.lots {k : Nat} {g : WX → Int → WX} (xs : List Int) (hf : ∀ x, x ∈ xs → K (fun X => g X x) (fun s => (s.take k).2) (fun s => ((s.num k : Nat) : Int) = x)) : K (fun X => xs.foldl g X) (fun s => (RS.lots k xs.length s).2) (fun s => (RS.lots k xs.length s).1 = xs) := by
 obtain ⟨ys, rfl⟩ : ∃ ys, xs = ys.reverse := ⟨xs.reverse, by simp⟩
 induction ys with
 | nil => exact K.id.mono fun s _ => by show (RS.lots k 0 s).2 = _ ∧ (RS.lots k 0 s).1 = _; rw [lots_zero]; exact ⟨rfl, rfl⟩
 | cons y ys ih =>
  rw [List.reverse_cons]
  have j := (ih (fun x hx => hf x (by rw [List.reverse_cons]; exact List.mem_append_left _ hx))).trans (hf y (by simp))
  have e : (ys.reverse ++ [y]).length = ys.reverse.length + 1 := by simp
  have e2 : (fun X => (ys.reverse ++ [y]).foldl g X) = fun X => g (ys.reverse.foldl g X) y := by funext X; rw [List.foldl_append]; rfl
  rw [e, e2]
  refine j.mono fun s h => ?_
  rw [lots_succ]
  refine ⟨rfl, ?_⟩
  dsimp only
  rw [h.1, h.2]
theorem K.words (l : List Int) (n : Nat) (hn : l.length = n) (h : ∀ x, x ∈ l → u32ok x) : K (fun X => X.words l) (fun s => (RS.lots 4 n s).2) (fun s => (RS.lots 4 n s).1 = l) := by
 subst hn
 exact K.lots (k := 4) (g := fun (x : WX) (n : Int) => x.raw (Go.Proofs.YtkggkkoblpdopaaGreat.le n.toNat 4)) l fun x hx => K.le x 4 (h x hx).1 (by have := (h x hx).2; omega)
theorem K.nums1 (l : List Int) (n : Nat) (hn : l.length = n) : K (fun X => X.nums1 l) (fun s => (RS.lots 1 n s).2) (fun s => (RS.lots 1 n s).1 = l) := by
 subst hn
 exact K.lots (k := 1) (g := fun (x : WX) (n : Int) => x.num 1 n) l fun x hx => K.num 1 x
theorem K.cel (r : Cel) (h : r.ok) : K (fun X => X.cel r) (fun s => s.cel.2) (fun s => s.cel.1 = r) := by
 obtain ⟨hl, hr, hp, hv, hb⟩ := h
 refine ((((((((K.words r.r 16 hl hr).trans (K.le r.pc 4 hp.1 (by have := hp.2; omega))).trans (K.le r.ve 4 hv.1 (by have := hv.2; omega))).trans (K.le r.ba 4 hb.1 (by have := hb.2; omega))).trans (K.flag r.on)).trans (K.flag r.hd)).trans (K.flag r.ha)).trans K.pad).mono fun s h => ?_
 obtain ⟨⟨⟨⟨⟨⟨⟨h1, h2⟩, h3⟩, h4⟩, h5⟩, h6⟩, h7⟩, _⟩ := h
 unfold RS.cel RS.cel4 RS.cel3 RS.cel2 RS.cel1
 dsimp only at h1 h2 h3 h4 h5 h6 h7 ⊢
 generalize RS.lots 4 16 s = t at *
 refine ⟨rfl, ?_⟩
 exact congr (congr (congr (congr (congr (congr (congrArg Cel.mk h1) h2) h3) h4) h5) h6) h7
theorem K.gic (r : Gi) (h : r.ok) : K (fun X => X.gi r) (fun s => s.gic.2) (fun s => s.gic.1 = r) := by
 obtain ⟨hl, _, hp, hm⟩ := h
 refine (((K.nums1 r.r 32 hl).trans (K.le r.p 4 hp.1 (by have := hp.2; omega))).trans (K.le r.m 4 hm.1 (by have := hm.2; omega))).mono fun s h => ?_
 obtain ⟨⟨h1, h2⟩, h3⟩ := h
 unfold RS.gic
 dsimp only at h1 h2 h3 ⊢
 generalize RS.lots 1 32 s = t at *
 refine ⟨rfl, ?_⟩
 exact congr (congr (congrArg Gi.mk h1) h2) h3
theorem K.spl (r : Spl) (h1 : r.l.fit) (h2 : r.n.fit) : K (fun X => X.spl r) (fun s => s.spl.2) (fun s => s.spl.1 = r) := by
 have j := (((((K.flag r.a).trans (K.flag r.b)).trans K.pad).trans (K.mg r.l h1)).trans (K.mg r.n h2))
 refine K.mono j fun s h => ?_
 obtain ⟨⟨⟨⟨h1, h2⟩, _⟩, h3⟩, h4⟩ := h
 unfold RS.spl RS.spl1
 exact ⟨rfl, congr (congr (congr (congrArg Spl.mk h1) h2) h3) h4⟩
theorem K.rl {α : Type} {f : RS → α × RS} {g : WX → α → WX} (xs : List α) (hf : ∀ x, x ∈ xs → K (fun X => g X x) (fun s => (f s).2) (fun s => (f s).1 = x)) (n : Nat) (hn : n ≤ xs.length) :
  K (fun X => WX.upto (fun y k => (xs[k]?).elim y (g y)) X n) (fun s => (Go.Proofs.YtkggkkoblpdopaaGreat.rl f n s).2) (fun s => (Go.Proofs.YtkggkkoblpdopaaGreat.rl f n s).1 = xs.take n ∧ (Go.Proofs.YtkggkkoblpdopaaGreat.rl f n s).2.err = 0) := by
 induction n with
 | zero =>
  intro X h
  exact ⟨h, [], (by intro x hx; simp at hx), by show X = _; unfold app; simp, fun s hs => ⟨rfl, rfl, hs.e⟩⟩
 | succ n ih =>
  have ih := ih (by omega)
  have hx : xs[n]? = some xs[n] := List.getElem?_eq_getElem (by omega)
  have j := ih.trans (hf xs[n] (List.getElem_mem _))
  intro X h
  have e : WX.upto (fun y k => (xs[k]?).elim y (g y)) X (n + 1) = g (WX.upto (fun y k => (xs[k]?).elim y (g y)) X n) xs[n] := by
   show (if (WX.upto (fun y k => (xs[k]?).elim y (g y)) X n).u then WX.upto (fun y k => (xs[k]?).elim y (g y)) X n else (xs[n]?).elim (WX.upto (fun y k => (xs[k]?).elim y (g y)) X n) (g (WX.upto (fun y k => (xs[k]?).elim y (g y)) X n))) = _
   rw [hx]
   split
   ·rename_i hu
    exfalso
    have e0 : WX.upto (fun y k => (xs[k]?).elim y (g y)) X (n + 1) = WX.upto (fun y k => (xs[k]?).elim y (g y)) X n := by
     show (if (WX.upto (fun y k => (xs[k]?).elim y (g y)) X n).u then _ else _) = _
     rw [if_pos hu]
    have h' : (WX.upto (fun y k => (xs[k]?).elim y (g y)) X (n + 1)).fine := h
    rw [e0] at h'
    rw [h'.2] at hu
    cases hu
   ·rfl
  have h' : (g (WX.upto (fun y k => (xs[k]?).elim y (g y)) X n) xs[n]).fine := by rw [← e]; exact h
  obtain ⟨f0, l, r, e1, k⟩ := j X h'
  refine ⟨f0, l, r, by show WX.upto _ X (n + 1) = _; rw [e]; exact e1, fun s hs => ?_⟩
  obtain ⟨q, ⟨p1, p2⟩, p3⟩ := k s hs
  have er : Go.Proofs.YtkggkkoblpdopaaGreat.rl f (n + 1) s = ((Go.Proofs.YtkggkkoblpdopaaGreat.rl f n s).1 ++ [(f (Go.Proofs.YtkggkkoblpdopaaGreat.rl f n s).2).1], (f (Go.Proofs.YtkggkkoblpdopaaGreat.rl f n s).2).2) := by
   show (if (Go.Proofs.YtkggkkoblpdopaaGreat.rl f n s).2.err ≠ 0 then _ else _) = _
   rw [if_neg (by simp [p2])]
  have q' : (f (Go.Proofs.YtkggkkoblpdopaaGreat.rl f n s).2).2 = s.past l.length := q
  have p3' : (f (Go.Proofs.YtkggkkoblpdopaaGreat.rl f n s).2).1 = xs[n] := p3
  show (Go.Proofs.YtkggkkoblpdopaaGreat.rl f (n + 1) s).2 = _ ∧ (Go.Proofs.YtkggkkoblpdopaaGreat.rl f (n + 1) s).1 = _ ∧ (Go.Proofs.YtkggkkoblpdopaaGreat.rl f (n + 1) s).2.err = 0
  rw [er]
  refine ⟨q', ?_, ?_⟩
  ·dsimp only
   rw [p1, p3', List.take_add_one, hx]; rfl
  ·dsimp only
   rw [q']; exact hs.e
theorem K.row {α : Type} {f : RS → α × RS} {g : WX → α → WX} (xs : List α) (hf : ∀ x, x ∈ xs → K (fun X => g X x) (fun s => (f s).2) (fun s => (f s).1 = x)) : K (fun X => X.rowL g xs) (fun s => (s.row f).2) (fun s => (s.row f).1 = xs) := by
 refine ((K.num 4 (xs.length : Nat)).trans (K.rl xs hf xs.length (Nat.le_refl _))).mono fun s h => ?_
 obtain ⟨h1, h2, _⟩ := h
 have h1' := Int.ofNat.inj h1
 unfold RS.row
 rw [h1']
 exact ⟨rfl, by rw [h2, List.take_length]⟩
theorem K.que (r : Que) (h : r.ok) (hq : ∀ m, m ∈ r.q → m.fit) (hs : ∀ m, m ∈ r.s → m.fit) : K (fun X => X.que r) (fun s => s.que.2) (fun s => s.que.1 = r) := by
 have j := ((((((K.lng r.c0 h.c0).trans (K.lng r.c1 h.c1)).trans (K.lng r.c2 h.c2)).trans (K.lng r.c3 h.c3)).trans (K.lng r.c4 h.c4)).trans (K.row (f := RS.mg) (g := WX.mg) r.q (fun m hm => K.mg m (hq m hm)))).trans (K.row (f := RS.mg) (g := WX.mg) r.s (fun m hm => K.mg m (hs m hm)))
 unfold WX.que
 refine K.mono j fun s h => ?_
 obtain ⟨⟨⟨⟨⟨⟨h0, h1⟩, h2⟩, h3⟩, h4⟩, h5⟩, h6⟩ := h
 unfold RS.que RS.que1
 dsimp only at h0 h1 h2 h3 h4 h5 h6 ⊢
 exact ⟨rfl, congr (congr (congr (congr (congr (congr (congrArg Que.mk h0) h1) h2) h3) h4) h5) h6⟩
structure Ste.good (z : Ste) : Prop where
 t : u64ok z.t
 bl : rng z.bl
 pg : ∀ p, p ∈ z.pg → rng p.d ∧ u32ok p.n
 ce : ∀ p, p ∈ z.ce → p.ok
 ln : ∀ p, p ∈ z.ln → p.ok
 sl : ∀ p, p ∈ z.sl → p.ok
 gi : z.gi.ok
 sa : ∀ p, p ∈ z.sa → p.l.fit ∧ p.n.fit
 qu : ∀ p, p ∈ z.qu → p.ok ∧ (∀ m, m ∈ p.q → m.fit) ∧ ∀ m, m ∈ p.s → m.fit
 ar : ∀ p, p ∈ z.ar → p.ok
theorem K.ste (z : Ste) (h : z.good) : K (fun X => X.ste z) (fun s => s.ste.2) (fun s => s.ste.1 = z) := by
 have j1 := (((K.le z.t 8 h.t.1 (by have := h.t.2; omega)).trans (K.flag z.w)).trans K.pad).trans (K.bytes z.bl h.bl)
 have j2 := (((j1.trans (K.row (f := RS.pg) (g := WX.pg) z.pg (fun p hp => K.pg p (h.pg p hp).1 (h.pg p hp).2))).trans (K.row (f := RS.cel) (g := WX.cel) z.ce (fun p hp => K.cel p (h.ce p hp)))).trans (K.row (f := RS.lne) (g := WX.lne) z.ln (fun p hp => K.lne p (h.ln p hp)))).trans (K.row (f := RS.slt) (g := WX.slt) z.sl (fun p hp => K.slt p (h.sl p hp)))
 have j := (((j2.trans (K.gic z.gi h.gi)).trans (K.row (f := RS.spl) (g := WX.spl) z.sa (fun p hp => K.spl p (h.sa p hp).1 (h.sa p hp).2))).trans (K.row (f := RS.que) (g := WX.que) z.qu (fun p hp => K.que p (h.qu p hp).1 (h.qu p hp).2.1 (h.qu p hp).2.2))).trans (K.row (f := RS.arr) (g := WX.arr) z.ar (fun p hp => K.arr p (h.ar p hp)))
 unfold WX.ste
 refine K.mono j fun s h => ?_
 obtain ⟨⟨⟨⟨⟨⟨⟨⟨⟨⟨⟨h1, h2⟩, _⟩, h3⟩, h4⟩, h5⟩, h6⟩, h7⟩, h8⟩, h9⟩, h10⟩, h11⟩ := h
 unfold RS.ste RS.y9 RS.y8 RS.y7 RS.y6 RS.y5 RS.y4 RS.y3 RS.y2 RS.y1
 dsimp only at h1 h2 h3 h4 h5 h6 h7 h8 h9 h10 h11 ⊢
 exact ⟨rfl, congr (congr (congr (congr (congr (congr (congr (congr (congr (congr (congrArg Ste.mk h3) h1) h2) h4) h5) h6) h7) h8) h9) h10) h11⟩
end Go.Proofs.YtkggkkoblpdopaaGreat
namespace Go.Proofs.YtkggkkoblpdopaaGreat
open Go.ChangeShapes Go.WideShapes Go.ChangeAt Go.RowKit
set_option linter.unusedVariables false
def decS (bs : List Int) : RS := ((rs1 bs).part.1.ste.2).end
def decG (bs : List Int) : Ste := (rs1 bs).part.1.ste.1
theorem Ste.good.fit {z : Ste} (h : z.good) : z.fit := ⟨h.bl, fun p hp => (h.pg p hp).1, fun p hp => ⟨(h.sa p hp).1.d, (h.sa p hp).2.d⟩, fun p hp => ⟨fun m hm => ((h.qu p hp).2.1 m hm).d, fun m hm => ((h.qu p hp).2.2 m hm).d⟩⟩
theorem encS_of {g : Ste} {body : List Int} (hd : (x2.ste g).s = ⟨67108864, magic ++ [0, 0, 0, 0] ++ body, [8], 0⟩) : (encS g).s = ⟨67108864, magic ++ le body.length 4 ++ body, [], 0⟩ := by
 have hml : magic.length = 8 := rfl
 show (x2.ste g).s.shut 8 = _
 rw [hd]
 unfold WS.shut WS.has
 rw [if_neg (by simp), if_pos (by simp)]
 have t8 : (magic ++ [0, 0, 0, 0] ++ body).take 8 = magic := by
  rw [List.append_assoc, List.take_left' hml]
 have d12 : (magic ++ [0, 0, 0, 0] ++ body).drop 12 = body := List.drop_left' (by simp [hml])
 have ln : (magic ++ [0, 0, 0, 0] ++ body).length - 8 - 4 = body.length := by simp [hml]
 show (⟨67108864, (magic ++ [0, 0, 0, 0] ++ body).take 8 ++ le ((magic ++ [0, 0, 0, 0] ++ body).length - 8 - 4) 4 ++ (magic ++ [0, 0, 0, 0] ++ body).drop 12, _, 0⟩ : WS) = _
 rw [t8, d12, ln]
 rfl
theorem enc_back {g : Ste} (hg : g.good) (h : encOk g = true) : ∃ body, rng body ∧ (encB g).length ≤ 67108864 ∧ encB g = (magic ++ le body.length 4 ++ body) ++ le (crc (magic ++ le body.length 4 ++ body)) 4 ∧ RS.ste ⟨body, 0, 0, 0⟩ = (g, ⟨body, body.length, 0, 0⟩) := by
 obtain ⟨b0, _, hn0, hB0⟩ := enc_form hg.fit h
 unfold encOk at h
 have hc : (encT g).code = 0 := by
  have := (Bool.and_eq_true_iff.1 h).1
  simpa using this
 have hu : (x2.ste g).u = false := by
  have := (Bool.and_eq_true_iff.1 h).2
  have e : (encS g).u = false := by simpa using this
  exact e
 have hE : (encT g).err = 0 := by
  apply Classical.byContradiction
  intro hn
  unfold WS.code at hc
  rw [if_pos hn] at hc
  exact hn hc
 have hS : (encS g).s.err = 0 := by
  apply Classical.byContradiction
  intro hn
  unfold encT at hE
  rw [WS.raw_bad hn] at hE
  exact hn hE
 have he : (x2.ste g).s.err = 0 := by
  apply Classical.byContradiction
  intro hn
  unfold encS WS.shut at hS
  simp only [if_pos hn] at hS
  exact hn hS
 obtain ⟨_, body, hr, hw, hk⟩ := K.ste g hg x2 ⟨he, hu⟩
 have hw2 : (x2.ste g).s = ⟨67108864, magic ++ [0, 0, 0, 0] ++ body, [8], 0⟩ := by
  have e : x2.ste g = app x2 body := hw
  rw [e, x2_eq]; rfl
 have hT := encS_of hw2
 have hml : magic.length = 8 := rfl
 obtain ⟨q1, q2⟩ := hk ⟨body, 0, 0, 0⟩ ⟨rfl, by rw [x2_eq]; simp [magic], Nat.zero_le _, by show (body.drop 0).take body.length = body; rw [List.drop_zero, List.take_length]⟩
 have q1' : (RS.ste ⟨body, 0, 0, 0⟩).2 = ⟨body, body.length, 0, 0⟩ := by
  have : (RS.ste ⟨body, 0, 0, 0⟩).2 = (⟨body, 0, 0, 0⟩ : RS).past body.length := q1
  rw [this]; unfold RS.past; simp
 refine ⟨body, hr, hn0, ?_, Prod.ext q2 q1'⟩
 have hout : (encS g).s.out = magic ++ le body.length 4 ++ body := by rw [hT]; rfl
 have hE2 : ((encS g).s.raw (le (crc (encS g).s.out) 4)).err = 0 := hE
 unfold encB encT
 rw [hout] at hE2 ⊢
 rw [hT] at hE2 ⊢
 unfold WS.raw at hE2 ⊢
 rw [if_neg (by simp)] at hE2 ⊢
 split at hE2
 ·cases hE2
 ·rename_i h0
  rw [if_neg h0]
  rfl
theorem back_dec {g : Ste} (hg : g.good) (h : encOk g = true) : opnE (encB g) = none ∧ (decS (encB g)).err = 0 ∧ decG (encB g) = g := by
 obtain ⟨body, hr, hn, hB, hc⟩ := enc_back hg h
 obtain ⟨hd, hhd⟩ : ∃ hd, hd = magic ++ le body.length 4 ++ body := ⟨_, rfl⟩
 obtain ⟨cr, hcr⟩ : ∃ cr, cr = le (crc hd) 4 := ⟨_, rfl⟩
 rw [← hhd, ← hcr] at hB
 have hml : magic.length = 8 := rfl
 have hcl : cr.length = 4 := by rw [hcr, le_len]
 have hhl : hd.length = 12 + body.length := by rw [hhd]; simp [le_len, hml]; omega
 have hhr : rng hd := by
  rw [hhd]
  intro x hx
  rcases List.mem_append.1 hx with hx | hx
  ·rcases List.mem_append.1 hx with hx | hx
   ·exact (by decide : ∀ y, y ∈ magic → 0 ≤ y ∧ y ≤ 255) x hx
   ·exact le_range _ _ x hx
  ·exact hr x hx
 obtain ⟨bs, hbs⟩ : ∃ bs, bs = encB g := ⟨_, rfl⟩
 rw [← hbs] at hB hn ⊢
 have f0 : bs = [] ++ (magic ++ (le body.length 4 ++ body ++ cr)) := by rw [hB, hhd]; simp
 have f1 : bs = magic ++ (le body.length 4 ++ (body ++ cr)) := by rw [hB, hhd]; simp
 have f2 : bs = (magic ++ le body.length 4) ++ (body ++ cr) := by rw [hB, hhd]; simp
 have f3 : bs = hd ++ (cr ++ []) := by rw [hB]; simp
 have t0 : (rs0 bs).take 8 = (magic, ⟨bs, 8, 0, 0⟩) := by
  have := take_mid f0 0 8 rfl rfl
  exact this
 have t1 := take_mid f1 8 4 rfl (by rw [le_len])
 have t2 := take_mid f2 12 body.length (by simp [le_len, hml]) rfl
 have t3 := take_mid f3 (12 + body.length) 4 hhl.symm hcl.symm
 have r1 : rs1 bs = ⟨bs, 8, 0, 0⟩ := by unfold rs1; rw [t0]
 have hbl0 : bs.length = 16 + body.length := by rw [hB, List.length_append, hhl, hcl]; omega
 have hnn : 16 + body.length ≤ 67108864 := by rw [← hbl0]; exact hn
 have n1 : (⟨bs, 8, 0, 0⟩ : RS).num 4 = body.length := by
  unfold RS.num
  rw [t1, ofLe_le, Nat.mod_eq_of_lt (by omega)]
 have hbl : bs.length = 16 + body.length := by rw [hB, List.length_append, hhl, hcl]; omega
 have c1 : (⟨bs, 8, 0, 0⟩ : RS).counted 4 4294967295 = (body, ⟨bs, 12 + body.length, 0, 0⟩) := by
  unfold RS.counted
  rw [n1, if_neg (by omega), t1, if_neg (by
   unfold RS.left
   rw [if_neg (by simp)]
   show ¬ bs.length - (8 + 4) < body.length
   omega)]
  exact t2
 have p1 : (rs1 bs).part = (⟨body, 0, 0, 0⟩, ⟨bs, 12 + body.length, 0, 0⟩) := by
  unfold RS.part
  rw [r1, c1]
 have r2 : rs2 bs = ⟨bs, 12 + body.length, 0, 0⟩ := by unfold rs2; rw [p1]
 have r3 : rs3 bs = ⟨bs, 12 + body.length + 4, 0, 0⟩ := by unfold rs3; rw [r2, t3]
 have hn' : 16 + body.length ≤ 67108864 := by rw [← hbl]; exact hn
 have r4 : rs4 bs = ⟨bs, 12 + body.length + 4, 0, 0⟩ := by
  unfold rs4
  rw [r3]
  unfold RS.end
  rw [if_neg (by
   unfold RS.left
   rw [if_neg (by simp)]
   show ¬ 0 < bs.length - (12 + body.length + 4)
   omega)]
 refine ⟨?_, ?_, ?_⟩
 ·unfold opnE
  rw [if_neg (by omega), if_neg (by rw [t0]; simp), if_neg (by rw [r4]; simp), if_neg]
  rw [r2]
  intro hne
  apply hne
  unfold RS.num
  rw [t3]
  show ofLe cr = crc (bs.take (12 + body.length))
  rw [hB, List.take_left' hhl, hcr, ofLe_le, Nat.mod_eq_of_lt (crc_lt hd hhr)]
 ·unfold decS
  rw [p1]
  show (RS.ste ⟨body, 0, 0, 0⟩).2.end.err = 0
  rw [hc]
  unfold RS.end RS.left
  simp
 ·unfold decG
  rw [p1]
  show (RS.ste ⟨body, 0, 0, 0⟩).1 = g
  rw [hc]
end Go.Proofs.YtkggkkoblpdopaaGreat
