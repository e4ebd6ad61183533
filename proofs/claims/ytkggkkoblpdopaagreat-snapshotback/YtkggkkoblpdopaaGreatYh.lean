import Derived.Test.YtkggkkoblpdopaaGreatYg
import Derived.Test.YtkggkkoblpdopaaGreatRn
namespace Go.Proofs.YtkggkkoblpdopaaGreat
open Go.ChangeShapes Go.WideShapes Go.ChangeAt Go.RowKit
set_option linter.unusedVariables false
def rng (l : List Int) : Prop := ∀ x ∈ l, 0 ≤ x ∧ x ≤ 255
theorem ofLe_le (n k : Nat) : ofLe (le n k) = n % 2 ^ (8 * k) := by
 induction k with
 | zero => simp [le, ofLe, Nat.mod_one]
 | succ k ih =>
  show ofLe (le n k ++ [leB n k]) = _
  rw [ofLe_snoc, le_len, ih]
  unfold leB
  rw [Int.toNat_natCast, show 8 * (k + 1) = 8 * k + 8 by omega, Nat.pow_add, Nat.mod_mul]
theorem take_mid {bs a b c : List Int} (h : bs = a ++ (b ++ c)) (p k : Nat) (hp : p = a.length) (hk : k = b.length) : (⟨bs, p, 0, 0⟩ : RS).take k = (b, ⟨bs, p + k, 0, 0⟩) := by
 subst hp hk h
 unfold RS.take
 rw [if_neg (by simp), if_neg (by simp)]
 show (((a ++ (b ++ c)).drop a.length).take b.length, _) = _
 rw [List.drop_left' rfl, List.take_left' rfl]
def A (X Y : WX) : Prop := Y.s.err = 0 → X.s.err = 0 ∧ ∃ l, rng l ∧ Y.s.data = X.s.data ++ l ∧ Y.s.lim = X.s.lim ∧ Y.s.ops = X.s.ops
theorem A.refl (X : WX) : A X X := fun h => ⟨h, [], (by intro x hx; cases hx), by simp, rfl, rfl⟩
theorem A.trans {X Y Z : WX} (a : A X Y) (b : A Y Z) : A X Z := by
 intro h
 obtain ⟨h1, l1, r1, d1, m1, o1⟩ := b h
 obtain ⟨h2, l2, r2, d2, m2, o2⟩ := a h1
 exact ⟨h2, l2 ++ l1, fun x hx => by rcases List.mem_append.1 hx with e | e; exact r2 x e; exact r1 x e, by rw [d1, d2, List.append_assoc], m1.trans m2, o1.trans o2⟩
theorem A.raw1 (X : WX) {l : List Int} (hr : rng l) : A X (X.raw l) := by
 intro h
 unfold WX.raw WS.raw at h ⊢
 by_cases he : X.s.err = 0
 ·by_cases hl : X.s.lim < X.s.data.length + l.length
  ·simp [he, hl] at h
  ·simp only [he, hl, ne_eq, not_true_eq_false, if_false]
   exact ⟨trivial, l, hr, rfl, trivial, trivial⟩
 ·simp [he] at h
section
variable {X Y : WX}
theorem A.raw (h : A X Y) {l : List Int} (hr : rng l) : A X (Y.raw l) := h.trans (A.raw1 Y hr)
theorem A.le (h : A X Y) {n k : Nat} : A X (Y.raw (Go.Proofs.YtkggkkoblpdopaaGreat.le n k)) := h.raw (le_range n k)
theorem A.num (h : A X Y) {k : Nat} {n : Int} : A X (Y.num k n) := by
 unfold WX.num
 split
 ·exact fun e => h e
 ·exact h.le
theorem A.pad (h : A X Y) : A X Y.pad := by
 intro e
 unfold WX.pad WS.pad at e ⊢
 by_cases he : Y.s.err = 0
 ·have q := h.raw (l := List.replicate (padN Y.s.data.length 4) 0) (fun x hx => by rw [List.eq_of_mem_replicate hx]; decide)
  simp only [he, ne_eq, not_true_eq_false, if_false] at e ⊢
  exact q e
 ·simp [he] at e
theorem A.bytes (h : A X Y) {l : List Int} (hr : rng l) : A X (Y.bytes l) := (h.num.raw hr).pad
theorem A.words (h : A X Y) (l : List Int) : A X (Y.words l) := by
 induction l generalizing Y with
 | nil => exact h
 | cons a l ih => exact ih h.le
theorem A.nums1 (h : A X Y) (l : List Int) : A X (Y.nums1 l) := by
 induction l generalizing Y with
 | nil => exact h
 | cons a l ih => exact ih h.num
theorem A.upto (h : A X Y) {f : WX → Nat → WX} (hf : ∀ Z n, A Z (f Z n)) (n : Nat) : A X (WX.upto f Y n) := by
 induction n with
 | zero => exact h
 | succ n ih =>
  unfold WX.upto
  split
  ·exact ih
  ·exact ih.trans (hf _ _)
theorem A.rowL {α : Type} (h : A X Y) {f : WX → α → WX} {l : List α} (hf : ∀ Z r, r ∈ l → A Z (f Z r)) : A X (Y.rowL f l) := by
 refine A.upto h.num (fun Z n => ?_) _
 cases e : l[n]? with
 | none => exact A.refl Z
 | some r => exact hf Z r (List.mem_of_getElem? e)
theorem A.mg (h : A X Y) {r : Mg} (hr : rng r.d) : A X (Y.mg r) := h.le.bytes hr
theorem A.pg (h : A X Y) {r : Pg} (hr : rng r.d) : A X (Y.pg r) := h.le.bytes hr
theorem A.lne (h : A X Y) (r : Lne) : A X (Y.lne r) := h.le.le.le.pad
theorem A.slt (h : A X Y) (r : Slt) : A X (Y.slt r) := h.num.le.le.le.pad
theorem A.arr (h : A X Y) (r : Arr) : A X (Y.arr r) := h.le.num.pad
theorem A.cel (h : A X Y) (r : Cel) : A X (Y.cel r) := (h.words _).le.le.le.le.le.le.pad
theorem A.gi (h : A X Y) (r : Gi) : A X (Y.gi r) := (h.nums1 _).le.le
theorem A.spl (h : A X Y) {r : Spl} (h1 : rng r.l.d) (h2 : rng r.n.d) : A X (Y.spl r) := (h.le.le.pad.mg h1).mg h2
theorem A.que (h : A X Y) {r : Que} (h1 : ∀ m, m ∈ r.q → rng m.d) (h2 : ∀ m, m ∈ r.s → rng m.d) : A X (Y.que r) := (h.num.num.num.num.num.rowL (fun Z m hm => (A.refl Z).mg (h1 m hm))).rowL (fun Z m hm => (A.refl Z).mg (h2 m hm))
structure Ste.fit (z : Ste) : Prop where
 bl : rng z.bl
 pg : ∀ p, p ∈ z.pg → rng p.d
 sa : ∀ p, p ∈ z.sa → rng p.l.d ∧ rng p.n.d
 qu : ∀ p, p ∈ z.qu → (∀ m, m ∈ p.q → rng m.d) ∧ ∀ m, m ∈ p.s → rng m.d
theorem A.ste (h : A X Y) {z : Ste} (hf : z.fit) : A X (Y.ste z) :=
 ((((((((h.le.le.pad.bytes hf.bl).rowL (fun Z p hp => (A.refl Z).pg (hf.pg p hp))).rowL (fun Z p _ => (A.refl Z).cel p)).rowL (fun Z p _ => (A.refl Z).lne p)).rowL (fun Z p _ => (A.refl Z).slt p)).gi _).rowL (fun Z p hp => (A.refl Z).spl (hf.sa p hp).1 (hf.sa p hp).2)).rowL (fun Z p hp => (A.refl Z).que (hf.qu p hp).1 (hf.qu p hp).2)).rowL (fun Z p _ => (A.refl Z).arr p)
end
theorem RdL.all2 {α : Type} {w : World} {N sz : Nat} {P : World → Nat → Nat → α → Prop} {la : Option Addr} {xs : List α} {Q : α → Prop} (h : RdL w N sz P la xs) (hq : ∀ b o y, P w b o y → Q y) : ∀ x, x ∈ xs → Q x := by
 intro x hx
 obtain ⟨i, hi, rfl⟩ := List.getElem_of_mem hx
 rcases h.2 with e | ⟨b, o, _, _, hc⟩
 ·omega
 ·exact hq _ _ _ (hc i hi)
theorem MgAt.rng {w : World} {N b o : Nat} {r : Mg} (h : MgAt N w b o r) : Go.Proofs.YtkggkkoblpdopaaGreat.rng r.d := by
 obtain ⟨_, a, c, _, h⟩ := h
 exact h.1.2.2.1
theorem IsSt.fit {w : World} {u : Value} {z : Ste} (h : IsSt w u z) : z.fit := by
 obtain ⟨_, _, ba, bc, p1, q1, p2, q2, p3, q3, p4, q4, p5, q5, p6, q6, p7, q7, _, b0, l1, _, _, _, l5, l6, _⟩ := h
 refine ⟨b0.1.2.2.1, l1.all2 fun b o y p => ?_, l5.all2 fun b o y p => ⟨p.2.1.rng, p.2.2.rng⟩, l6.all2 fun b o y p => ?_⟩
 ·obtain ⟨_, a, c, _, h⟩ := p
  exact h.1.2.2.1
 ·obtain ⟨_, qa, qc, sa, sc, _, h3, h4⟩ := p
  exact ⟨h3.all2 fun _ _ _ m => m.rng, h4.all2 fun _ _ _ m => m.rng⟩
theorem x2_eq : x2 = ⟨⟨67108864, magic ++ [0, 0, 0, 0], [8], 0⟩, false⟩ := by kernel_rfl
theorem enc_form {g : Ste} (hf : g.fit) (h : encOk g = true) : ∃ body, rng body ∧ (encB g).length ≤ 67108864 ∧ encB g = (magic ++ le body.length 4 ++ body) ++ le (crc (magic ++ le body.length 4 ++ body)) 4 := by
 unfold encOk at h
 have hc : (encT g).code = 0 := by
  have := (Bool.and_eq_true_iff.1 h).1
  simpa using this
 have hE : (encT g).err = 0 := by
  apply Classical.byContradiction
  intro hn
  unfold WS.code at hc
  rw [if_pos hn] at hc
  exact hn hc
 have hO : encB g = (encT g).data := by
  unfold encB WS.out
  unfold WS.code at hc
  rw [if_neg (by simp [hE])] at hc ⊢
  split at hc
  ·cases hc
  ·rename_i h0; rw [if_neg h0]
 have hS : (encS g).s.err = 0 ∧ (encS g).s.data.length + 4 ≤ (encS g).s.lim ∧ encB g = (encS g).s.data ++ le (crc (encS g).s.out) 4 := by
  rw [hO]
  unfold encT WS.raw at hE ⊢
  by_cases he : (encS g).s.err = 0
  ·by_cases hl : (encS g).s.lim < (encS g).s.data.length + (le (crc (encS g).s.out) 4).length
   ·simp [he, hl] at hE
   ·simp only [he, hl, ne_eq, not_true_eq_false, if_false]
    refine ⟨trivial, ?_, trivial⟩
    rw [le_len] at hl
    omega
  ·simp [he] at hE
 obtain ⟨hS1, hS2, hS3⟩ := hS
 have he : (x2.ste g).s.err = 0 := by
  apply Classical.byContradiction
  intro hn
  unfold encS WS.shut at hS1
  simp only [if_pos hn] at hS1
  exact hn hS1
 obtain ⟨_, body, hr, hd, hm, ho⟩ := (A.refl x2).ste hf he
 rw [x2_eq] at hd hm ho
 have hml : magic.length = 8 := rfl
 have hd' : (x2.ste g).s.data = magic ++ [0, 0, 0, 0] ++ body := by rw [x2_eq]; exact hd
 have hm' : (x2.ste g).s.lim = 67108864 := by rw [x2_eq]; exact hm
 have ho' : (x2.ste g).s.ops = [8] := by rw [x2_eq]; exact ho
 clear hd hm ho
 have hX : (x2.ste g).s = ⟨67108864, magic ++ [0, 0, 0, 0] ++ body, [8], 0⟩ := by
  rw [← hd', ← hm', ← ho', ← he]
 have hT : (encS g).s = ⟨67108864, magic ++ le body.length 4 ++ body, [], 0⟩ := by
  show (x2.ste g).s.shut 8 = _
  rw [hX]
  unfold WS.shut WS.has
  rw [if_neg (by simp), if_pos (by simp)]
  have t8 : (magic ++ [0, 0, 0, 0] ++ body).take 8 = magic := by
   rw [List.append_assoc, List.take_left' hml]
  have d12 : (magic ++ [0, 0, 0, 0] ++ body).drop 12 = body := List.drop_left' (by simp [hml])
  have ln : (magic ++ [0, 0, 0, 0] ++ body).length - 8 - 4 = body.length := by simp [hml]
  show (⟨67108864, (magic ++ [0, 0, 0, 0] ++ body).take 8 ++ le ((magic ++ [0, 0, 0, 0] ++ body).length - 8 - 4) 4 ++ (magic ++ [0, 0, 0, 0] ++ body).drop 12, _, 0⟩ : WS) = _
  rw [t8, d12, ln]
  rfl
 rw [hT] at hS2 hS3
 refine ⟨body, hr, ?_, hS3⟩
 rw [hS3, List.length_append, le_len]
 exact hS2
end Go.Proofs.YtkggkkoblpdopaaGreat
