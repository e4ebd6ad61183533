import Derived.Test.YtkggkkoblpdopaaGreatYg
import Derived.Test.YtkggkkoblpdopaaGreatBm
namespace Go.Proofs.YtkggkkoblpdopaaGreat
open Go.ChangeShapes Go.WideShapes Go.ChangeAt Go.RowKit
set_option linter.unusedVariables false
def rng (l : List Int) : Prop := ∀ x ∈ l, 0 ≤ x ∧ x ≤ 255
theorem leB_add (n m k i : Nat) (h : i < k) : leB (n + 2 ^ (8 * k) * m) i = leB n i := by
  unfold leB
  have e : 2 ^ (8 * k) * m = 2 ^ (8 * i) * (256 * (2 ^ (8 * (k - i - 1)) * m)) := by
    rw [← Nat.mul_assoc, ← Nat.mul_assoc, show (256 : Nat) = 2 ^ 8 from rfl, ← Nat.pow_add, ← Nat.pow_add]
    congr 2
    omega
  rw [e, Nat.add_mul_div_left _ _ (Nat.two_pow_pos _)]
  congr 1
  omega
theorem le_add (n m k j : Nat) (h : j ≤ k) : le (n + 2 ^ (8 * k) * m) j = le n j := by
  induction j with
  | zero => rfl
  | succ j ih => simp only [le]; rw [ih (by omega), leB_add n m k j (by omega)]
/-- Bytes are those of their number. -/
theorem le_ofLe (k : Nat) : ∀ l : List Int, l.length = k → rng l → le (ofLe l) k = l := by
  induction k with
  | zero => intro l hl _; rw [List.eq_nil_of_length_eq_zero hl]; rfl
  | succ k ih =>
    intro l hl hr
    obtain ⟨l', b, rfl⟩ : ∃ l' b, l = l' ++ [b] := ⟨l.dropLast, l.getLast (by intro e; rw [e] at hl; simp at hl), (List.dropLast_concat_getLast _).symm⟩
    have hl' : l'.length = k := by simp at hl; exact hl
    have hr' : rng l' := fun x hx => hr x (List.mem_append_left _ hx)
    have hb := hr b (by simp)
    rw [ofLe_snoc, hl']
    simp only [le]
    rw [le_add _ _ _ _ (Nat.le_refl k), ih l' hl' hr']
    congr 1
    unfold leB
    rw [Nat.add_mul_div_left _ _ (Nat.two_pow_pos _), Nat.div_eq_of_lt (by have := ofLe_lt l' hr'; rw [hl'] at this; exact this)]
    congr 1
    omega
theorem ofLe_le (n k : Nat) : ofLe (le n k) = n % 2 ^ (8 * k) := by
  induction k with
  | zero => simp [le, ofLe, Nat.mod_one]
  | succ k ih =>
    show ofLe (le n k ++ [leB n k]) = _
    rw [ofLe_snoc, le_len, ih]
    unfold leB
    rw [Int.toNat_natCast, show 8 * (k + 1) = 8 * k + 8 by omega, Nat.pow_add, Nat.mod_mul]
theorem take_mid {bs a b c : List Int} (h : bs = a ++ (b ++ c)) (p k : Nat) (hp : p = a.length) (hk : k = b.length) : (⟨bs, p, 0, 0⟩ : RS).take k = (b, ⟨bs, p + k, 0, 0⟩) := by
  subst hp hk h
  unfold RS.take
  rw [if_neg (by simp), if_neg (by simp)]
  show (((a ++ (b ++ c)).drop a.length).take b.length, _) = _
  rw [List.drop_left' rfl, List.take_left' rfl]
/-- Only bytes are put behind what a writer has. -/
def A (X Y : WX) : Prop := Y.s.err = 0 → X.s.err = 0 ∧ ∃ l, rng l ∧ Y.s.data = X.s.data ++ l ∧ Y.s.lim = X.s.lim ∧ Y.s.ops = X.s.ops
theorem A.refl (X : WX) : A X X := fun h => ⟨h, [], (by intro x hx; cases hx), by simp, rfl, rfl⟩
theorem A.trans {X Y Z : WX} (a : A X Y) (b : A Y Z) : A X Z := by
  intro h
  obtain ⟨h1, l1, r1, d1, m1, o1⟩ := b h
  obtain ⟨h2, l2, r2, d2, m2, o2⟩ := a h1
  exact ⟨h2, l2 ++ l1, fun x hx => by rcases List.mem_append.1 hx with e | e; exact r2 x e; exact r1 x e, by rw [d1, d2, List.append_assoc], m1.trans m2, o1.trans o2⟩
theorem A.raw1 (X : WX) {l : List Int} (hr : rng l) : A X (X.raw l) := by
  intro h
  unfold WX.raw WS.raw at h ⊢
  by_cases he : X.s.err = 0
  · by_cases hl : X.s.lim < X.s.data.length + l.length
    · simp [he, hl] at h
    · simp only [he, hl, ne_eq, not_true_eq_false, if_false]
      exact ⟨trivial, l, hr, rfl, trivial, trivial⟩
  · simp [he] at h
section
variable {X Y : WX}
theorem A.raw (h : A X Y) {l : List Int} (hr : rng l) : A X (Y.raw l) := h.trans (A.raw1 Y hr)
theorem A.le (h : A X Y) {n k : Nat} : A X (Y.raw (Go.Proofs.YtkggkkoblpdopaaGreat.le n k)) := h.raw (le_range n k)
theorem A.num (h : A X Y) {k : Nat} {n : Int} : A X (Y.num k n) := by
  unfold WX.num
  split
  · exact fun e => h e
  · exact h.le
theorem A.pad (h : A X Y) : A X Y.pad := by
  intro e
  unfold WX.pad WS.pad at e ⊢
  by_cases he : Y.s.err = 0
  · have q := h.raw (l := List.replicate (padN Y.s.data.length 4) 0) (fun x hx => by rw [List.eq_of_mem_replicate hx]; decide)
    simp only [he, ne_eq, not_true_eq_false, if_false] at e ⊢
    exact q e
  · simp [he] at e
theorem A.bytes (h : A X Y) {l : List Int} (hr : rng l) : A X (Y.bytes l) := (h.num.raw hr).pad
theorem A.words (h : A X Y) (l : List Int) : A X (Y.words l) := by
  induction l generalizing Y with
  | nil => exact h
  | cons a l ih => exact ih h.le
theorem A.nums1 (h : A X Y) (l : List Int) : A X (Y.nums1 l) := by
  induction l generalizing Y with
  | nil => exact h
  | cons a l ih => exact ih h.num
theorem A.upto (h : A X Y) {f : WX → Nat → WX} (hf : ∀ Z n, A Z (f Z n)) (n : Nat) : A X (WX.upto f Y n) := by
  induction n with
  | zero => exact h
  | succ n ih =>
    unfold WX.upto
    split
    · exact ih
    · exact ih.trans (hf _ _)
theorem A.rowL {α : Type} (h : A X Y) {f : WX → α → WX} {l : List α} (hf : ∀ Z r, r ∈ l → A Z (f Z r)) : A X (Y.rowL f l) := by
  refine A.upto h.num (fun Z n => ?_) _
  cases e : l[n]? with
  | none => exact A.refl Z
  | some r => exact hf Z r (List.mem_of_getElem? e)
theorem A.mg (h : A X Y) {r : Mg} (hr : rng r.d) : A X (Y.mg r) := h.le.bytes hr
theorem A.pg (h : A X Y) {r : Pg} (hr : rng r.d) : A X (Y.pg r) := h.le.bytes hr
theorem A.lne (h : A X Y) (r : Lne) : A X (Y.lne r) := h.le.le.le.pad
theorem A.slt (h : A X Y) (r : Slt) : A X (Y.slt r) := h.num.le.le.le.pad
theorem A.arr (h : A X Y) (r : Arr) : A X (Y.arr r) := h.le.num.pad
theorem A.cel (h : A X Y) (r : Cel) : A X (Y.cel r) := (h.words _).le.le.le.le.le.le.pad
theorem A.gi (h : A X Y) (r : Gi) : A X (Y.gi r) := (h.nums1 _).le.le
theorem A.spl (h : A X Y) {r : Spl} (h1 : rng r.l.d) (h2 : rng r.n.d) : A X (Y.spl r) := (h.le.le.pad.mg h1).mg h2
theorem A.que (h : A X Y) {r : Que} (h1 : ∀ m, m ∈ r.q → rng m.d) (h2 : ∀ m, m ∈ r.s → rng m.d) : A X (Y.que r) := (h.num.num.num.num.num.rowL (fun Z m hm => (A.refl Z).mg (h1 m hm))).rowL (fun Z m hm => (A.refl Z).mg (h2 m hm))
/-- Bytes are bytes. -/
structure Ste.fit (z : Ste) : Prop where
  bl : rng z.bl
  pg : ∀ p, p ∈ z.pg → rng p.d
  sa : ∀ p, p ∈ z.sa → rng p.l.d ∧ rng p.n.d
  qu : ∀ p, p ∈ z.qu → (∀ m, m ∈ p.q → rng m.d) ∧ ∀ m, m ∈ p.s → rng m.d
theorem A.ste (h : A X Y) {z : Ste} (hf : z.fit) : A X (Y.ste z) :=
  ((((((((h.le.le.pad.bytes hf.bl).rowL (fun Z p hp => (A.refl Z).pg (hf.pg p hp))).rowL (fun Z p _ => (A.refl Z).cel p)).rowL (fun Z p _ => (A.refl Z).lne p)).rowL (fun Z p _ => (A.refl Z).slt p)).gi _).rowL (fun Z p hp => (A.refl Z).spl (hf.sa p hp).1 (hf.sa p hp).2)).rowL (fun Z p hp => (A.refl Z).que (hf.qu p hp).1 (hf.qu p hp).2)).rowL (fun Z p _ => (A.refl Z).arr p)
end
theorem RdL.all2 {α : Type} {w : World} {N sz : Nat} {P : World → Nat → Nat → α → Prop} {la : Option Addr} {xs : List α} {Q : α → Prop} (h : RdL w N sz P la xs) (hq : ∀ b o y, P w b o y → Q y) : ∀ x, x ∈ xs → Q x := by
  intro x hx
  obtain ⟨i, hi, rfl⟩ := List.getElem_of_mem hx
  rcases h.2 with e | ⟨b, o, _, _, hc⟩
  · omega
  · exact hq _ _ _ (hc i hi)
theorem MgAt.rng {w : World} {N b o : Nat} {r : Mg} (h : MgAt N w b o r) : Go.Proofs.YtkggkkoblpdopaaGreat.rng r.d := by
  obtain ⟨_, a, c, _, h⟩ := h
  exact h.1.2.2.1
theorem IsSt.fit {w : World} {u : Value} {z : Ste} (h : IsSt w u z) : z.fit := by
  obtain ⟨_, _, ba, bc, p1, q1, p2, q2, p3, q3, p4, q4, p5, q5, p6, q6, p7, q7, _, b0, l1, _, _, _, l5, l6, _⟩ := h
  refine ⟨b0.1.2.2.1, l1.all2 fun b o y p => ?_, l5.all2 fun b o y p => ⟨p.2.1.rng, p.2.2.rng⟩, l6.all2 fun b o y p => ?_⟩
  · obtain ⟨_, a, c, _, h⟩ := p
    exact h.1.2.2.1
  · obtain ⟨_, qa, qc, sa, sc, _, h3, h4⟩ := p
    exact ⟨h3.all2 fun _ _ _ m => m.rng, h4.all2 fun _ _ _ m => m.rng⟩
theorem x2_eq : x2 = ⟨⟨67108864, magic ++ [0, 0, 0, 0], [8], 0⟩, false⟩ := by kernel_rfl
/-- The form of what is written. -/
theorem enc_form {g : Ste} (hf : g.fit) (h : encOk g = true) : ∃ body, rng body ∧ (encB g).length ≤ 67108864 ∧ encB g = (magic ++ le body.length 4 ++ body) ++ le (crc (magic ++ le body.length 4 ++ body)) 4 := by
  unfold encOk at h
  have hc : (encT g).code = 0 := by
    have := (Bool.and_eq_true_iff.1 h).1
    simpa using this
  have hE : (encT g).err = 0 := by
    apply Classical.byContradiction
    intro hn
    unfold WS.code at hc
    rw [if_pos hn] at hc
    exact hn hc
  have hO : encB g = (encT g).data := by
    unfold encB WS.out
    unfold WS.code at hc
    rw [if_neg (by simp [hE])] at hc ⊢
    split at hc
    · cases hc
    · rename_i h0; rw [if_neg h0]
  have hS : (encS g).s.err = 0 ∧ (encS g).s.data.length + 4 ≤ (encS g).s.lim ∧ encB g = (encS g).s.data ++ le (crc (encS g).s.out) 4 := by
    rw [hO]
    unfold encT WS.raw at hE ⊢
    by_cases he : (encS g).s.err = 0
    · by_cases hl : (encS g).s.lim < (encS g).s.data.length + (le (crc (encS g).s.out) 4).length
      · simp [he, hl] at hE
      · simp only [he, hl, ne_eq, not_true_eq_false, if_false]
        refine ⟨trivial, ?_, trivial⟩
        rw [le_len] at hl
        omega
    · simp [he] at hE
  obtain ⟨hS1, hS2, hS3⟩ := hS
  have he : (x2.ste g).s.err = 0 := by
    apply Classical.byContradiction
    intro hn
    unfold encS WS.shut at hS1
    simp only [if_pos hn] at hS1
    exact hn hS1
  obtain ⟨_, body, hr, hd, hm, ho⟩ := (A.refl x2).ste hf he
  rw [x2_eq] at hd hm ho
  have hml : magic.length = 8 := rfl
  have hd' : (x2.ste g).s.data = magic ++ [0, 0, 0, 0] ++ body := by rw [x2_eq]; exact hd
  have hm' : (x2.ste g).s.lim = 67108864 := by rw [x2_eq]; exact hm
  have ho' : (x2.ste g).s.ops = [8] := by rw [x2_eq]; exact ho
  clear hd hm ho
  have hX : (x2.ste g).s = ⟨67108864, magic ++ [0, 0, 0, 0] ++ body, [8], 0⟩ := by
    rw [← hd', ← hm', ← ho', ← he]
  have hT : (encS g).s = ⟨67108864, magic ++ le body.length 4 ++ body, [], 0⟩ := by
    show (x2.ste g).s.shut 8 = _
    rw [hX]
    unfold WS.shut WS.has
    rw [if_neg (by simp), if_pos (by simp)]
    have t8 : (magic ++ [0, 0, 0, 0] ++ body).take 8 = magic := by
      rw [List.append_assoc, List.take_left' hml]
    have d12 : (magic ++ [0, 0, 0, 0] ++ body).drop 12 = body := List.drop_left' (by simp [hml])
    have ln : (magic ++ [0, 0, 0, 0] ++ body).length - 8 - 4 = body.length := by simp [hml]
    show (⟨67108864, (magic ++ [0, 0, 0, 0] ++ body).take 8 ++ le ((magic ++ [0, 0, 0, 0] ++ body).length - 8 - 4) 4 ++ (magic ++ [0, 0, 0, 0] ++ body).drop 12, _, 0⟩ : WS) = _
    rw [t8, d12, ln]
    rfl
  rw [hT] at hS2 hS3
  refine ⟨body, hr, ?_, hS3⟩
  rw [hS3, List.length_append, le_len]
  exact hS2
/-- What lies ahead of the run stays. -/
theorem flips_take (b : List Int) (f r i m : Nat) (h : 8 * m ≤ f) : (flips b f r i).take m = b.take m := by
  induction i with
  | zero => rfl
  | succ i ih =>
    unfold flips
    split
    · unfold flipBit
      rw [List.take_set_of_le (by omega)]
      exact ih
    · exact ih
/-- The state behind bytes and their own sum is one constant. -/
theorem residue {d : List Int} (hd : rng d) : crcAll 4294967295 (d ++ le (crc d) 4) = crcBits 32 4294967295 := by
  have hl : crc d < 4294967296 := crc_lt d hd
  have hs : crcAll 4294967295 d < 4294967296 := crcAll_lt _ _ (by omega) hd
  rw [crcAll_append, crcAll_eq _ (le_range _ _), le_len, ofLe_le, Nat.mod_eq_of_lt (by omega)]
  congr 1
  unfold crc
  rw [← Nat.xor_assoc, Nat.xor_comm (crcAll 4294967295 d), Nat.xor_assoc, Nat.xor_self, Nat.xor_zero]
/-- Bytes with their own sum, of which a run is turned, have another one. -/
theorem turned_sum {d : List Int} (hd : rng d) {bs : List Int} (hb : bs = d ++ le (crc d) 4) {f r k : Nat} (hk : f + k ≤ 8 * bs.length) (h0 : 0 < k) (h32 : k ≤ 32) (hr : r % 2 = 1) {d' c : List Int} (he : flips bs f r k = d' ++ c) (hc : c = le (crc d') 4) : False := by
  have hrb : rng bs := by
    rw [hb]
    intro x hx
    rcases List.mem_append.1 hx with hx | hx
    · exact hd x hx
    · exact le_range _ _ x hx
  have hrf := flips_range bs f r k hrb
  rw [he] at hrf
  have hd' : rng d' := fun x hx => hrf x (List.mem_append_left _ hx)
  refine burst bs f r k hrb hk h0 h32 hr ?_
  unfold crc
  rw [he, hc, hb, residue hd', residue hd]
/-- A run that is turned behind the length: another sum. -/
theorem turned_open {g : Ste} (hf : g.fit) (h : encOk g = true) {f r k : Nat} (h96 : 96 ≤ f) (hk : f + k ≤ 8 * (encB g).length) (h0 : 0 < k) (h32 : k ≤ 32) (hr1 : r % 2 = 1) : opnE (flips (encB g) f r k) = some 231 := by
  obtain ⟨body, hr, hn, hB⟩ := enc_form hf h
  obtain ⟨hd, hhd⟩ : ∃ hd, hd = magic ++ le body.length 4 ++ body := ⟨_, rfl⟩
  have hml : magic.length = 8 := rfl
  have hhl : hd.length = 12 + body.length := by rw [hhd]; simp [le_len, hml]; omega
  have hhr : rng hd := by
    rw [hhd]
    intro x hx
    rcases List.mem_append.1 hx with hx | hx
    · rcases List.mem_append.1 hx with hx | hx
      · exact (by decide : ∀ y, y ∈ magic → 0 ≤ y ∧ y ≤ 255) x hx
      · exact le_range _ _ x hx
    · exact hr x hx
  rw [← hhd] at hB
  have hno := @turned_sum hd hhr (encB g) hB f r k hk h0 h32 hr1
  have hbl0 : (encB g).length = 16 + body.length := by rw [hB, List.length_append, hhl, le_len]; omega
  have h12 : (flips (encB g) f r k).take 12 = magic ++ le body.length 4 := by
    rw [flips_take _ _ _ _ _ (by omega), hB, hhd, List.append_assoc, List.append_assoc, ← List.append_assoc magic, List.take_left' (by simp [le_len, hml])]
  have hn : 16 + body.length ≤ 67108864 := by rw [← hbl0]; exact hn
  have hbl : (flips (encB g) f r k).length = 16 + body.length := by rw [flips_len, hbl0]
  have hrf : rng (flips (encB g) f r k) := flips_range _ _ _ _ (by
    rw [hB]
    intro x hx
    rcases List.mem_append.1 hx with hx | hx
    · exact hhr x hx
    · exact le_range _ _ x hx)
  generalize flips (encB g) f r k = bs at *
  obtain ⟨body', hb'⟩ : ∃ b', b' = (bs.drop 12).take body.length := ⟨_, rfl⟩
  obtain ⟨cr, hcr⟩ : ∃ cr, cr = bs.drop (12 + body.length) := ⟨_, rfl⟩
  have hcl : cr.length = 4 := by rw [hcr]; simp; omega
  have hb'l : body'.length = body.length := by rw [hb']; simp; omega
  have f2 : bs = (magic ++ le body.length 4) ++ (body' ++ cr) := by
    rw [← h12, hb', hcr, ← List.drop_drop, List.take_append_drop, List.take_append_drop]
  have f0 : bs = [] ++ (magic ++ (le body.length 4 ++ body' ++ cr)) := by rw [f2]; simp
  have f1 : bs = magic ++ (le body.length 4 ++ (body' ++ cr)) := by rw [f2]; simp
  have f3 : bs = (magic ++ le body.length 4 ++ body') ++ (cr ++ []) := by rw [f2]; simp
  have t0 : (rs0 bs).take 8 = (magic, ⟨bs, 8, 0, 0⟩) := by
    have := take_mid f0 0 8 rfl rfl
    exact this
  have t1 := take_mid f1 8 4 rfl (by rw [le_len])
  have t2 := take_mid f2 12 body.length (by simp [le_len, hml]) hb'l.symm
  have t3 := take_mid f3 (12 + body.length) 4 (by simp [le_len, hml, hb'l]; omega) hcl.symm
  have r1 : rs1 bs = ⟨bs, 8, 0, 0⟩ := by unfold rs1; rw [t0]
  have n1 : (⟨bs, 8, 0, 0⟩ : RS).num 4 = body.length := by
    unfold RS.num
    rw [t1, ofLe_le, Nat.mod_eq_of_lt (by omega)]
  have c1 : (⟨bs, 8, 0, 0⟩ : RS).counted 4 4294967295 = (body', ⟨bs, 12 + body.length, 0, 0⟩) := by
    unfold RS.counted
    rw [n1, if_neg (by omega), t1, if_neg (by
      unfold RS.left
      rw [if_neg (by simp)]
      show ¬ bs.length - (8 + 4) < body.length
      omega)]
    exact t2
  have p1 : (rs1 bs).part = (⟨body', 0, 0, 0⟩, ⟨bs, 12 + body.length, 0, 0⟩) := by
    unfold RS.part
    rw [r1, c1]
  have r2 : rs2 bs = ⟨bs, 12 + body.length, 0, 0⟩ := by unfold rs2; rw [p1]
  have r3 : rs3 bs = ⟨bs, 12 + body.length + 4, 0, 0⟩ := by unfold rs3; rw [r2, t3]
  have r4 : rs4 bs = ⟨bs, 12 + body.length + 4, 0, 0⟩ := by
    unfold rs4
    rw [r3]
    unfold RS.end
    rw [if_neg (by
      unfold RS.left
      rw [if_neg (by simp)]
      show ¬ 0 < bs.length - (12 + body.length + 4)
      omega)]
  unfold opnE
  rw [if_neg (by omega), if_neg (by rw [t0]; simp), if_neg (by rw [r4]; simp), if_pos]
  rw [r2]
  intro he
  unfold RS.num at he
  rw [t3] at he
  have he' : ofLe cr = crc (bs.take (12 + body.length)) := he
  have h3' : bs = bs.take (12 + body.length) ++ cr := by rw [hcr, List.take_append_drop]
  refine hno h3' ?_
  rw [← he']
  exact (le_ofLe 4 cr hcl (fun x hx => hrf x (by rw [h3']; exact List.mem_append_right _ hx))).symm
end Go.Proofs.YtkggkkoblpdopaaGreat
