import Derived.Test.YtoagdcdmahpglaaDoorNe
import Derived.Test.YtoagdcdmahpglaaDoorWo
import Derived.Deep.Cut
import Derived.Deep.CutRange
import Derived.Deep.RegionHeld3
namespace Go.Proofs.YtoagdcdmahpglaaDoor
open Go.ChangeShapes Go.WideShapes Go.ChangeAt Go.RowKit
set_option linter.unusedVariables false

/-! few: ranges that stand apart. -/
def pmOf (k : Nat) : Nat := [1, 3, 4, 5, 7].getD k 1
theorem pmOf_ok (k : Nat) : Ent.pm 1 (pmOf k) = true ∧ pmOf k < 256 := by
  unfold pmOf
  match k with
  | 0 | 1 | 2 | 3 | 4 => decide
  | k + 5 => simp; decide
def FR (R : List Rv) : Prop := ∀ (k : Nat) (r : Rv), R[k]? = some r → r.ok ∧ r.may ∧ r.pg ≤ 12 ∧ ((r.ph / 4096 : Nat) : Int) + r.pg ≤ (if k = 2 then 123 else 111) ∧ (r.v : Int) + 4096 * r.pg ≤ (k + 1) * 67108864 ∧ (k * 67108864 ≤ r.v ∨ (k = 2 ∧ ∃ r1, R[1]? = some r1 ∧ (r.v : Int) = r1.v + 4096 * r1.pg))
def pmC : Array Value := #[.int .u8 1, .int .u8 3, .int .u8 4, .int .u8 5, .int .u8 7]
theorem pmC_at (k : Nat) (h : k < 5) : pmC[k]? = some (.int .u8 (pmOf k : Nat)) := by
  match k, h with
  | 0, _ => rfl
  | 1, _ => rfl
  | 2, _ => rfl
  | 3, _ => rfl
  | 4, _ => rfl
theorem pm_plain (k : Nat) (h : k < 256) : -9223372036854775808 ≤ (k : Int) ∧ (k : Int) ≤ 9223372036854775807 := by omega
theorem FR.snoc {R : List Rv} {r : Rv} (h : FR R) (hr : r.ok ∧ r.may ∧ r.pg ≤ 12 ∧ ((r.ph / 4096 : Nat) : Int) + r.pg ≤ (if R.length = 2 then 123 else 111) ∧ (r.v : Int) + 4096 * r.pg ≤ (R.length + 1) * 67108864 ∧ (R.length * 67108864 ≤ r.v ∨ (R.length = 2 ∧ ∃ r1, R[1]? = some r1 ∧ (r.v : Int) = r1.v + 4096 * r1.pg))) : FR (R ++ [r]) := by
  have keep : ∀ r1, R[1]? = some r1 → (R ++ [r])[1]? = some r1 := fun r1 e => by
    have := (List.getElem?_eq_some_iff.1 e).1
    rw [List.getElem?_append_left this]; exact e
  intro k x e
  by_cases hk : k < R.length
  · rw [List.getElem?_append_left hk] at e
    obtain ⟨a1, a2, a3, a4, a5, a6⟩ := h k x e
    refine ⟨a1, a2, a3, a4, a5, ?_⟩
    rcases a6 with q | ⟨q, r1, q1, q2⟩
    · exact .inl q
    · exact .inr ⟨q, r1, keep r1 q1, q2⟩
  · rw [List.getElem?_append_right (by omega)] at e
    have hkk : k = R.length := by
      have := (List.getElem?_eq_some_iff.1 e).1
      simp at this; omega
    subst hkk
    simp at e
    subst e
    obtain ⟨a1, a2, a3, a4, a5, a6⟩ := hr
    refine ⟨a1, a2, a3, a4, a5, ?_⟩
    rcases a6 with q | ⟨q, r1, q1, q2⟩
    · exact .inl q
    · exact .inr ⟨q, r1, keep r1 q1, q2⟩
theorem ck1 {p f : Nat} (hp : Ent.pm 1 p = true) (hf : f < 4096) : Ent.ck 1 p f = 0 := Ent.ck_of (by decide) (by decide) hp (by unfold Ent.fm; rw [if_neg (by decide)]; exact decide_eq_true hf)
theorem FR.one {R : List Rv} (h : FR R) {i c y P p : Nat} (hi : R.length = i) (h4 : i < 4) (hc : c < 33554432) (hc4 : c % 4096 = 0) (hy : y < 409600) (hy4 : y % 4096 = 0) (hP : P ≤ 12 ∧ 1 ≤ P) (hp : Ent.pm 1 p = true ∧ p < 256) : FR (R ++ [⟨i * 67108864 + c, y, P, p⟩]) := by
  refine h.snoc ⟨?_, ?_, ?_, ?_, ?_, .inl ?_⟩
  · unfold Rv.ok; simp only; omega
  · exact ⟨ck1 hp.1 (by simp only; omega), by simp only; omega, hy4, by simp only; omega, by simp only; omega, by simp only; omega⟩
  · simp only; omega
  · simp only; split <;> omega
  · simp only; omega
  · simp only; omega
theorem FR.two {R : List Rv} (h : FR R) {P p : Nat} (hi : R.length = 2) {r1 : Rv} (h1 : R[1]? = some r1) (hP : P ≤ 12 ∧ 1 ≤ P) (hp : Ent.pm 1 p = true ∧ p < 256) {q : Nat} (hq : r1.pg = q) : FR (R ++ [⟨r1.v + 4096 * q, r1.ph + 4096 * q, P, p⟩]) := by
  obtain ⟨a1, a2, a3, a4, a5, a6⟩ := h 1 r1 h1
  obtain ⟨m1, m2, m3, m4, m5, m6⟩ := a2
  rw [if_neg (by decide)] at a4
  rw [hq] at a3 a4 a5 m4
  refine h.snoc ⟨?_, ?_, ?_, ?_, ?_, .inr ⟨hi, r1, h1, ?_⟩⟩
  · unfold Rv.ok; simp only; omega
  · exact ⟨ck1 hp.1 (by simp only; omega), by simp only; omega, by simp only; omega, by simp only; omega, by simp only; omega, by simp only; omega⟩
  · simp only; omega
  · simp only; rw [if_pos hi]; omega
  · simp only; omega
  · simp only; omega
/-- The world while few goes on. -/
structure FwJ (w : World) (a : Option Addr) (l : List Rv) (wr : World) (lv : Value) (R : List Rv) : Prop where
  own : OR wr lv R
  chg : Chg w wr (fun _ => False)
  new : ∀ q, lv.ownBlock = some q → w.heap.size ≤ q
  fr : FR R
theorem FwJ.start (w : World) (a : Option Addr) (l : List Rv) : Hid (FwJ w a l w (.slice none 0 0) []) := ⟨OR.nil w, Chg.refl _ _, (fun q e => by simp [Value.ownBlock] at e), (fun k r e => by simp at e)⟩
theorem sc4 {a b : World} (p : Nat) (hp : a.heap.size ≤ p) (x0 x1 x2 x3 : Value) (o0 o1 o2 o3 : Nat) (h : Chg a b (fun _ => False)) : Chg a ((((b.setCell ⟨p, o0, none⟩ x0).setCell ⟨p, o1, none⟩ x1).setCell ⟨p, o2, none⟩ x2).setCell ⟨p, o3, none⟩ x3) (fun _ => False) :=
  Chg.setCell (Chg.setCell (Chg.setCell (Chg.setCell h (.inr hp) _) (.inr hp) _) (.inr hp) _) (.inr hp) _
theorem OR.lt {w : World} {v : Value} {l : List Rv} (h : OR w v l) {q : Nat} (e : v.ownBlock = some q) : q < w.heap.size := by
  rcases h.2 with ⟨rfl, _⟩ | ⟨g, cap, cur, rfl, _, hg, _⟩
  · simp [Value.ownBlock] at e
  · have : g = q := by simpa [Value.ownBlock] using e
    subst this
    exact (Array.getElem?_eq_some_iff.1 hg).1
/-- r lies in a box of its own. -/
def FwB (w : World) (a : Option Addr) (l : List Rv) (u : Value) (R : List Rv) (b off : Nat) (r : Rv) (Nb : Nat) (x y z p : Value) (W : World) : Prop := w.heap.size ≤ Nb ∧ u.ownBlock ≠ some Nb ∧ FwJ w a l W u R ∧ RgAt W b off r ∧ b ≠ Nb ∧ W.heap[Nb]? = some (.cells #[x, y, z, p] 39 (0, 0))
theorem FwJ.box {w w1 : World} {a : Option Addr} {l : List Rv} {u : Value} {R : List Rv} {b off : Nat} {r : Rv} {x y z p : Value} (h : FwJ w a l w1 u R) (hr : RgAt w1 b off r) : FwB w a l u R b off r w1.heap.size x y z p (w1.alloc (.cells #[x, y, z, p] 39)).drew := by
  have hc : Chg w1 (w1.alloc (.cells #[x, y, z, p] 39)).drew (fun _ => False) := ((Chg.refl _ _).alloc _).drew
  refine ⟨h.chg.size, fun e => ?_, ⟨h.own.chg hc (fun _ _ x => x), h.chg.tr hc, h.new, h.fr⟩, hr.chg hc (fun x => x), fun e => ?_, heap_alloc_new w1 _⟩
  · have := h.own.lt e; omega
  · have := World.block_lt_of_cell? w1 _ hr.1
    simp only at this
    omega
theorem FwB.put {w W W' : World} {a : Option Addr} {l : List Rv} {u : Value} {R : List Rv} {b off : Nat} {r : Rv} {Nb : Nat} {x y z p x' y' z' p' : Value} (h : FwB w a l u R b off r Nb x y z p W) (hc : Chg W W' (fun q => q = Nb)) (hh : W'.heap[Nb]? = some (.cells #[x', y', z', p'] 39 (0, 0))) : FwB w a l u R b off r Nb x' y' z' p' W' := by
  obtain ⟨h1, h2, h3, h4, h5, h6⟩ := h
  refine ⟨h1, h2, ⟨h3.own.chg hc (fun k e q => h2 (by rw [← q]; exact e)), h3.chg.trans hc (fun q hq e => by omega), h3.new, h3.fr⟩, h4.chg hc h5, h5, hh⟩
/-- The new one is put behind the others. -/
theorem FwB.app {w W : World} {a : Option Addr} {l : List Rv} {u : Value} {R : List Rv} {b off : Nat} {r0 : Rv} {Nb : Nat} {r : Rv} (h : FwB w a l u R b off r0 Nb (.int .u32 (r.v : Nat)) (.int .u32 (r.ph : Nat)) (.int .i64 r.pg) (.int .u8 (r.pm : Nat)) W) (hF : FR (R ++ [r])) (hl : R.length ≤ 4) :
    ∃ a3 n3 c3 a2 n2 c2 w2, u = .slice a3 n3 c3 ∧ (Builtin.append_ #[22, 22] 22 #[.slice a3 n3 c3, .slice (some ⟨W.heap.size, 0, none⟩) 1 1]).run Tryd.prog (W.alloc (.cells #[.int .u32 (r.v : Nat), .int .u32 (r.ph : Nat), .int .i64 r.pg, .int .u8 (r.pm : Nat)] 39)) = .ok (.slice a2 n2 c2) w2 ∧ FwJ w a l w2 (.slice a2 n2 c2) (R ++ [r]) := by
  obtain ⟨h1, h2, h3, h4, h5, h6⟩ := h
  have hn := heap_alloc_new W (.cells #[.int .u32 (r.v : Nat), .int .u32 (r.ph : Nat), .int .i64 r.pg, .int .u8 (r.pm : Nat)] 39)
  obtain ⟨x0, x1, x2, x3⟩ := cells4 hn
  have hro : r.ok := (hF R.length r (by simp)).1
  have hsr : RgsIn (W.alloc (.cells #[.int .u32 (r.v : Nat), .int .u32 (r.ph : Nat), .int .i64 r.pg, .int .u8 (r.pm : Nat)] 39)) (some ⟨W.heap.size, 0, none⟩) [r] := by
    refine ⟨by simp, by simp [hro], .inr ⟨_, _, rfl, fun j hj => ?_⟩⟩
    simp at hj
    subst hj
    exact ⟨x0, x1, x2, x3⟩
  obtain ⟨v2, w2, hr2, o2, g2, l2⟩ := run_appR _ u R (h3.own.chg (S := fun _ => False) ((Chg.refl _ _).alloc _) (fun _ _ x => x)) (some ⟨W.heap.size, 0, none⟩) 1 [r] hsr (by simp; omega) 22
  rw [show ([r] : List Rv).length = 1 from rfl] at hr2
  obtain ⟨a2, c2, e2, -⟩ := o2.slice
  obtain ⟨a3, c3, e3, -⟩ := h3.own.slice
  refine ⟨a3, _, c3, a2, _, c2, w2, e3, by rw [← e3, ← e2]; exact hr2, ?_⟩
  rw [← e2]
  refine ⟨o2, (h3.chg.alloc _).grown g2 (fun q e => .inr (h3.new q e)), fun q e => ?_, hF⟩
  rcases l2 with e' | ⟨j, e', hj⟩
  · exact h3.new q (by rw [← e']; exact e)
  · rw [e'] at e; cases e
    exact Nat.le_trans (h3.chg.alloc _).size hj
set_option maxHeartbeats 4000000 in
set_option maxRecDepth 10000 in
theorem few_any (w : World) (a : Option Addr) (len cap : Nat) (l : List Rv) (hl : l.length = min 4 len) (h : RgsIn w a l) :
    Calls Tryd.prog 12 #[.slice a len cap] w fun e w' => ∃ v R, e = .returned v ∧ R.length = l.length ∧ FwJ w a l w' v R := by
  have HI : Hid (RgsIn w a l ∧ l.length = min 4 len) := ⟨h, hl⟩
  have hll : l.length ≤ 4 ∧ l.length ≤ len := by omega
  clear h hl
  go_enter Tryd.func12, Tryd.ntmps12
  go_wp2
  go_loopw [3, 4, 5, 6] (fun s3 s4 s5 s6 wr => ∃ (i : Nat) (lv : Value) (R : List Rv), s3 = lv ∧ s4 = .int .i64 i ∧ i ≤ l.length ∧ R.length = i ∧ Hid (FwJ w a l wr lv R)) (fun _ s4 _ _ _ => l.length - (intOf s4).toNat)
  case atStart => exact ⟨0, _, [], rfl, rfl, by omega, rfl, FwJ.start w a l⟩
  case round =>
    obtain ⟨i, lv, R, e3, rfl, hi, hRi, HJ⟩ := hrel
    subst e3
    by_cases hlt : i < l.length
    · obtain ⟨b, o, e, hr⟩ := HI.out.1.2.2.resolve_left (by omega)
      subst e
      have hat := (hr i hlt).chg HJ.out.chg (fun x => x)
      have hok := HI.out.1.2.1 l[i] (List.getElem_mem _)
      clear hr
      generalize l[i] = r at hat hok
      obtain ⟨v, ph, pg, pm⟩ := r
      obtain ⟨x0, x1, x2, x3⟩ := hat
      obtain ⟨ok0, ok1, ok2, ok3⟩ := hok
      simp only at x0 x1 x2 x3 ok0 ok1 ok2 ok3
      have hP12 : ∀ w, Calls Tryd.prog 19 #[.int .i64 pg, .int .i64 12] w fun e w' => e = .returned (.int .i64 (pk pg 12 : Nat)) ∧ w' = w := fun w => pick_any w pg 12 (by omega) (by omega) ok2.1 ok2.2
      have hP5 : ∀ w, Calls Tryd.prog 19 #[.int .i64 (pm : Nat), .int .i64 5] w fun e w' => e = .returned (.int .i64 (pk pm 5 : Nat)) ∧ w' = w := fun w => pick_any w pm 5 (by omega) (by omega) (pm_plain pm ok3).1 (pm_plain pm ok3).2
      have hP2 : ∀ w, Calls Tryd.prog 19 #[.int .i64 pg, .int .i64 2] w fun e w' => e = .returned (.int .i64 (pk pg 2 : Nat)) ∧ w' = w := fun w => pick_any w pg 2 (by omega) (by omega) ok2.1 ok2.2
      have hk12 := pk_lt pg 12 (by omega)
      have hk5 := pk_lt pm 5 (by omega)
      have hk2 := pk_lt pg 2 (by omega)
      generalize pk pg 12 = k12 at *
      generalize pk pm 5 = k5 at *
      generalize pk pg 2 = k2 at *
      have hz1 : (i : Int) < (len : Int) := by omega
      have hz4 : (i : Int) < 4 := by omega
      have hm := pmC_at k5 hk5
      have HPm : Hid (Ent.pm 1 (pmOf k5) = true ∧ pmOf k5 < 256) := pmOf_ok k5
      have hk5z : (k5 : Int) < 5 := by omega
      obtain ⟨P, hP⟩ : ∃ P : Nat, (P : Int) = 1 + k12 := ⟨1 + k12, by omega⟩
      have hPr : P ≤ 12 ∧ 1 ≤ P := by omega
      have hwq : IntKind.i64.wrap (1 + (k12 : Int)) = (P : Nat) := by rw [← hP]; simp [IntKind.wrap, IntKind.bits, IntKind.signed]; omega
      clear hP
      have hwp : IntKind.i64.wrap (pm : Int) = pm := by simp [IntKind.wrap, IntKind.bits, IntKind.signed]; omega
      generalize pmOf k5 = pm' at *
      go_upto_region 6 with fail
      obtain ⟨Pb, hPb⟩ : ∃ Pb, Pb = wr.heap.size := ⟨_, rfl⟩
      obtain ⟨w1, hw1⟩ : ∃ w1, w1 = wr.alloc (.cells #[.int .u8 1, .int .u8 3, .int .u8 4, .int .u8 5, .int .u8 7] 37) := ⟨_, rfl⟩
      have c1 : Chg wr w1 (fun _ => False) := by rw [hw1]; exact (Chg.refl _ _).alloc _
      have hPh : w1.heap[Pb]? = some (.cells pmC 37 (0, 0)) := by rw [hw1, hPb]; exact heap_alloc_new wr _
      have hat1 : RgAt w1 b (o + i * 4) ⟨v, ph, pg, pm⟩ := RgAt.chg (S := fun _ => False) ⟨x0, x1, x2, x3⟩ c1 (fun x => x)
      have HK : ∀ w', Chg w1 w' (fun _ => False) → (w'.cell? ⟨b, o + i * 4 + 2, none⟩ = some (.int .i64 pg) ∧ w'.cell? ⟨b, o + i * 4 + 3, none⟩ = some (.int .u8 (pm : Nat)) ∧ w'.cell? ⟨Pb, k5, none⟩ = some (.int .u8 (pm' : Nat))) := by
        intro w' c'
        obtain ⟨q0, q1, q2, q3⟩ := hat1.chg c' (fun x => x)
        exact ⟨q2, q3, by rw [(cells_at (c'.heap hPh (fun x => x)) _).1]; exact hm⟩
      obtain ⟨y2, y3, y4⟩ := HK w1 (Chg.refl _ _)
      have hs1 : w1.heap.size = wr.heap.size + 1 := by rw [hw1]; simp
      rw [← hw1, ← hPb]
      have H1 : Hid (FwJ w (some ⟨b, o, none⟩) l w1 u3 R ∧ RgAt w1 b (o + i * 4) ⟨v, ph, pg, pm⟩) := ⟨⟨HJ.out.own.chg c1 (fun _ _ x => x), HJ.out.chg.tr c1, HJ.out.new, HJ.out.fr⟩, hat1⟩
      clear HJ hat1 hPh c1 x0 x1 x2 x3 hw1 hPb hs1 hm
      go_cut [6] from 7 to 96 (fun s6 wx => ∃ Nb, s6 = .pointer (some ⟨Nb, 0, none⟩) ∧ Hid (FwB w (some ⟨b, o, none⟩) l u3 R b (o + i * 4) ⟨v, ph, pg, pm⟩ Nb (.int .u32 0) (.int .u32 0) (.int .i64 (P : Nat)) (.int .u8 (pm' : Nat)) wx))
      case first =>
        go_region_held3 (fun w' => w'.cell? ⟨b, o + i * 4 + 2, none⟩ = some (.int .i64 pg) ∧ w'.cell? ⟨b, o + i * 4 + 3, none⟩ = some (.int .u8 (pm : Nat)) ∧ w'.cell? ⟨Pb, k5, none⟩ = some (.int .u8 (pm' : Nat))) (first | exact ⟨by assumption, by assumption, by assumption⟩ | exact HK _ (Chg.refl _ _).drew | exact HK _ ((Chg.refl _ _).drew.alloc _) | exact HK _ (sc4 _ (Nat.le_refl _) _ _ _ _ _ _ _ _ ((Chg.refl _ _).drew.alloc _))) (first | (go_at_call 19; with_reducible refine (hP12 _).mono ?_; rintro e wz ⟨rfl, hwz⟩; rw [hwz]; clear hwz) | (go_at_call 19; with_reducible refine (hP5 _).mono ?_; rintro e wz ⟨rfl, hwz⟩; rw [hwz]; clear hwz))
        all_goals (go_wp2_with fail; go_meet)
        all_goals exact ⟨_, rfl, H1.out.1.box H1.out.2⟩
      case rest =>
        obtain ⟨Nb, rfl, HB⟩ := hcut
        clear HK y2 y3 y4 H1 hP12 hP5 hwq hwp hk5z
        obtain ⟨x0, x1, x2, x3⟩ := HB.out.2.2.2.1
        simp only at x0 x1 x2 x3
        have hbox := HB.out.2.2.2.2.2
        obtain ⟨z0, z1, z2, z3⟩ := cells4 hbox
        have f0 := (cells_at hbox 0).2
        have f1 := (cells_at hbox 1).2
        clear hbox
        rename World => W2
        have hne1 : (Nb == b) = false := by simp; exact fun e => HB.out.2.2.2.2.1 e.symm
        have hne2 : (b == Nb) = false := by simp; exact fun e => HB.out.2.2.2.2.1 e
        go_upto_region 9 with fail
        obtain ⟨X, hX⟩ : ∃ X : Nat, X = i * 67108864 + v % 33554432 / 4096 * 4096 := ⟨_, rfl⟩
        obtain ⟨Y, hY⟩ : ∃ Y : Nat, Y = ph % 409600 / 4096 * 4096 := ⟨_, rfl⟩
        have eX : ((i : Int) * 67108864 + (v : Int) % 33554432 / 4096 * 4096) = (X : Nat) := by rw [hX]; omega
        have eY : ((ph : Int) % 409600 / 4096 * 4096) = (Y : Nat) := by rw [hY]; omega
        rw [eX, eY]
        obtain ⟨W3, hW3⟩ : ∃ W3, W3 = (W2.setCell ⟨Nb, 0, none⟩ (.int .u32 (X : Nat))).setCell ⟨Nb, 1, none⟩ (.int .u32 (Y : Nat)) := ⟨_, rfl⟩
        rw [← hW3]
        have HB3 : Hid (FwB w (some ⟨b, o, none⟩) l u3 R b (o + i * 4) ⟨v, ph, pg, pm⟩ Nb (.int .u32 (X : Nat)) (.int .u32 (Y : Nat)) (.int .i64 (P : Nat)) (.int .u8 (pm' : Nat)) W3) := by
          refine HB.out.put (W' := W3) ?_ ?_
          · rw [hW3]; exact Chg.setCell (S := fun q => q = Nb) (Chg.setCell (S := fun q => q = Nb) (Chg.refl _ _) (.inl rfl) _) (.inl rfl) _
          · rw [hW3, heap_setCell_same _ Nb 1 _ 39 _ (heap_setCell_same W2 Nb 0 _ 39 _ HB.out.2.2.2.2.2)]; rfl
        have HF1 : Hid (FR (R ++ [⟨X, Y, P, pm'⟩])) := by
          rw [hX, hY]
          exact HB.out.2.2.1.fr.one hRi (by omega) (by omega) (by omega) (by omega) (by omega) hPr HPm.out
        clear HB hX hY eX eY hW3 x0 x1 x2 x3 z0 z1 z2 z3 f0 f1
        obtain ⟨x0, x1, x2, x3⟩ := HB3.out.2.2.2.1
        simp only at x0 x1 x2 x3
        clear x0 x1 x3
        by_cases hi2 : i = 2
        · have hb2 : ((i : Int) == 2) = true := by rw [hi2]; rfl
          have HI2 : Hid (i = 2) := hi2
          clear hi2
          by_cases hk0 : k2 = 0
          · subst hk0
            have h11 := HB3.out.2.2.1.own
            obtain ⟨g, cap', e, hcap, hRR⟩ := h11.rr (by have := HI2.out; omega)
            clear h11
            subst e
            have hR1 : R[1]? = some (R[1]'(by have := HI2.out; omega)) := List.getElem?_eq_getElem _
            have hat := hRR.at_ 1 (by have := HI2.out; omega)
            have hFR := HB3.out.2.2.1.fr
            obtain ⟨b1, b2, b3, b4, b5, b6⟩ := hFR 1 _ hR1
            generalize R[1]'(by have := HI2.out; omega) = r1 at *
            obtain ⟨v1, ph1, pg1, pm1⟩ := r1
            obtain ⟨q, hq⟩ : ∃ q : Nat, pg1 = q := ⟨pg1.toNat, by have := b2.2.2.2.1; simp only at this; omega⟩
            have HF2 : Hid (FR (R ++ [⟨v1 + 4096 * q, ph1 + 4096 * q, P, pm'⟩])) := hFR.two (hRi.trans HI2.out) hR1 hPr HPm.out hq
            subst hq
            obtain ⟨y0, y1, y2, y3⟩ := hat
            simp only [Nat.reduceMul, Nat.reduceAdd] at y0 y1 y2 y3 b3 b4 b5
            have hv1 : v1 ≤ 134217728 := by omega
            have hp1 : ph1 ≤ 507904 := by rw [if_neg (by decide)] at b4; omega
            have hR2 : (1 : Int) < (R.length : Int) := by have := HI2.out; omega
            clear b1 b2 b4 b5 b6 hFR hR1 hRR y3
            go_upto_region 10 with (go_at_call 19; with_reducible refine (hP2 _).mono ?_; rintro e wz ⟨rfl, hwz⟩; rw [hwz]; clear hwz)
            obtain ⟨zz0, zz1, zz2, zz3⟩ := cells4 HB3.out.2.2.2.2.2
            have ff0 := (cells_at HB3.out.2.2.2.2.2 0).2
            have ff1 := (cells_at HB3.out.2.2.2.2.2 1).2
            have hgN : (g == Nb) = false := by simp; exact fun e => HB3.out.2.1 (by rw [e]; rfl)
            have hgN' : ¬ g = Nb := fun e => HB3.out.2.1 (by rw [e]; rfl)
            go_region
            obtain ⟨W4, hW4⟩ : ∃ W4, W4 = (W3.setCell ⟨Nb, 0, none⟩ (.int .u32 ((v1 + 4096 * q : Nat) : Int))).drew := ⟨_, rfl⟩
            have HB4 : Hid (FwB w (some ⟨b, o, none⟩) l (.slice (some ⟨g, 0, none⟩) R.length cap') R b (o + i * 4) ⟨v, ph, pg, pm⟩ Nb (.int .u32 ((v1 + 4096 * q : Nat) : Int)) (.int .u32 (Y : Nat)) (.int .i64 (P : Nat)) (.int .u8 (pm' : Nat)) W4) := by
              refine HB3.out.put (W' := W4) ?_ ?_
              · rw [hW4]; exact (Chg.setCell (S := fun q => q = Nb) (Chg.refl _ _) (.inl rfl) _).drew
              · rw [hW4]; show (W3.setCell _ _).heap[Nb]? = _; rw [heap_setCell_same W3 Nb 0 _ 39 _ HB3.out.2.2.2.2.2]; rfl
            have y1' : W4.cell? ⟨g, 5, none⟩ = some (.int .u32 (ph1 : Nat)) ∧ W4.cell? ⟨g, 6, none⟩ = some (.int .i64 (q : Nat)) := by
              have hc : Chg W3 W4 (fun q => q = Nb) := by rw [hW4]; exact (Chg.setCell (S := fun q => q = Nb) (Chg.refl _ _) (.inl rfl) _).drew
              have hlt : g < W3.heap.size := World.block_lt_of_cell? W3 _ y0
              exact ⟨(hc.cell hlt hgN').trans y1, (hc.cell hlt hgN').trans y2⟩
            have eW : (W3.setCell ⟨Nb, 0, none⟩ (.int .u32 ((v1 : Int) + 4096 * (q : Int)))).drew = W4 := by rw [hW4, show ((v1 + 4096 * q : Nat) : Int) = (v1 : Int) + 4096 * (q : Int) by omega]
            obtain ⟨y1', y2'⟩ := y1'
            go_upto_region 11 with fail
            rw [eW]
            clear hW4 eW HB3 y0 y1 y2 zz0 zz1 zz2 zz3 ff0 ff1 HF1 x2
            obtain ⟨zz0, zz1, zz2, zz3⟩ := cells4 HB4.out.2.2.2.2.2
            have ff0 := (cells_at HB4.out.2.2.2.2.2 0).2
            have ff1 := (cells_at HB4.out.2.2.2.2.2 1).2
            go_region
            obtain ⟨W5, hW5⟩ : ∃ W5, W5 = (W4.setCell ⟨Nb, 1, none⟩ (.int .u32 ((ph1 + 4096 * q : Nat) : Int))).drew := ⟨_, rfl⟩
            have HB5 : Hid (FwB w (some ⟨b, o, none⟩) l (.slice (some ⟨g, 0, none⟩) R.length cap') R b (o + i * 4) ⟨v, ph, pg, pm⟩ Nb (.int .u32 ((v1 + 4096 * q : Nat) : Int)) (.int .u32 ((ph1 + 4096 * q : Nat) : Int)) (.int .i64 (P : Nat)) (.int .u8 (pm' : Nat)) W5) := by
              refine HB4.out.put (W' := W5) ?_ ?_
              · rw [hW5]; exact (Chg.setCell (S := fun q => q = Nb) (Chg.refl _ _) (.inl rfl) _).drew
              · rw [hW5]; show (W4.setCell _ _).heap[Nb]? = _; rw [heap_setCell_same W4 Nb 1 _ 39 _ HB4.out.2.2.2.2.2]; rfl
            have eW : (W4.setCell ⟨Nb, 1, none⟩ (.int .u32 ((ph1 : Int) + 4096 * (q : Int)))).drew = W5 := by rw [hW5, show ((ph1 + 4096 * q : Nat) : Int) = (ph1 : Int) + 4096 * (q : Int) by omega]
            rw [eW]
            clear hW5 eW HB4 zz0 zz1 zz2 zz3 ff0 ff1 y1' y2'
            generalize v1 + 4096 * q = V1 at HB5 HF2
            generalize ph1 + 4096 * q = Y1 at HB5 HF2
            rw [hRi] at HB5
            obtain ⟨z0, z1, z2, z3⟩ := cells4 HB5.out.2.2.2.2.2
            obtain ⟨a3, n3, c3, a2, n2, c2, w2, e3, hr2, hJ⟩ := HB5.out.app HF2.out (by omega)
            have HE : Hid (FwJ w (some ⟨b, o, none⟩) l w2 (.slice a2 n2 c2) _) := hJ
            simp only at hr2
            injection e3 with e3a e3n e3c
            subst e3a e3c
            rw [← e3n] at hr2
            clear e3n
            clear hJ HB5
            go_wp2_with (at_builtin; refine wpList_append_run _ rfl (.tmp 93) (.tmp 95) 22 22 rfl _ _ _ w2 rfl rfl hr2 ?_)
            exact ⟨⟨i + 1, _, _, rfl, by go_num, by omega, by simp; omega, HE⟩, by simp [intOf]; omega⟩
          · have hkb : ((k2 : Int) == 0) = false := by simp; omega
            have hkk : ¬ ((k2 : Int) = 0) := by omega
            go_upto_if 68 with (go_at_call 19; with_reducible refine (hP2 _).mono ?_; rintro e wz ⟨rfl, hwz⟩; rw [hwz]; clear hwz)
            obtain ⟨z0, z1, z2, z3⟩ := cells4 HB3.out.2.2.2.2.2
            obtain ⟨a3, n3, c3, a2, n2, c2, w2, e3, hr2, hJ⟩ := HB3.out.app HF1.out (by omega)
            have HE : Hid (FwJ w (some ⟨b, o, none⟩) l w2 (.slice a2 n2 c2) _) := hJ
            simp only at hr2
            subst e3
            clear hJ HB3
            go_wp2_with (at_builtin; refine wpList_append_run _ rfl (.tmp 93) (.tmp 95) 22 22 rfl _ _ _ w2 rfl rfl hr2 ?_)
            exact ⟨⟨i + 1, _, _, rfl, by go_num, by omega, by simp; omega, HE⟩, by simp [intOf]; omega⟩
        · have hb2 : ((i : Int) == 2) = false := by simp; omega
          go_upto_if 68 with fail
          obtain ⟨z0, z1, z2, z3⟩ := cells4 HB3.out.2.2.2.2.2
          obtain ⟨a3, n3, c3, a2, n2, c2, w2, e3, hr2, hJ⟩ := HB3.out.app HF1.out (by omega)
          have HE : Hid (FwJ w (some ⟨b, o, none⟩) l w2 (.slice a2 n2 c2) _) := hJ
          simp only at hr2
          subst e3
          clear hJ HB3
          go_wp2_with (at_builtin; refine wpList_append_run _ rfl (.tmp 93) (.tmp 95) 22 22 rfl _ _ _ w2 rfl rfl hr2 ?_)
          exact ⟨⟨i + 1, _, _, rfl, by go_num, by omega, by simp; omega, HE⟩, by simp [intOf]; omega⟩
    · have HE : Hid (R.length = l.length) := hRi.trans (show i = l.length by omega)
      by_cases g2 : i < len
      · have g1 : ¬ (i : Int) < 4 := by have := HI.out.2; omega
        have g3 : (i : Int) < (len : Int) := by omega
        clear hi hlt hll g2
        go_wp2
        go_ret
        exact ⟨_, rfl, R, HE.out, HJ.out⟩
      · have g3 : ¬ (i : Int) < (len : Int) := by omega
        clear hi hlt hll g2
        go_wp2
        go_ret
        exact ⟨_, rfl, R, HE.out, HJ.out⟩
end Go.Proofs.YtoagdcdmahpglaaDoor
