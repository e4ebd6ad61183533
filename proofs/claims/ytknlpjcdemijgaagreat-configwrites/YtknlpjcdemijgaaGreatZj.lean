import Derived.Test.YtknlpjcdemijgaaGreatSme
namespace Go.Proofs.YtknlpjcdemijgaaGreat
open Go.ChangeShapes Go.WideShapes Go.ChangeAt Go.RowKit
set_option linter.unusedVariables false
theorem ofLe_le (n k : Nat) : ofLe (le n k) = n % 2 ^ (8 * k) := by
 induction k with
 | zero => simp [le, ofLe, Nat.mod_one]
 | succ k ih =>
  show ofLe (le n k ++ [leB n k]) = _
  rw [ofLe_snoc, le_len, ih]
  unfold leB
  rw [Int.toNat_natCast, show 8 * (k + 1) = 8 * k + 8 by omega, Nat.pow_add, Nat.mod_mul]
def WX.fine (X : WX) : Prop := X.s.err = 0 ∧ X.u = false
structure Bef (s : RS) (m : Nat) (l : List Int) : Prop where
 e : s.err = 0
 m : s.at_ % 4 = m % 4
 a : s.at_ ≤ s.bs.length
 p : (s.bs.drop s.at_).take l.length = l
def RS.past (s : RS) (n : Nat) : RS := { s with at_ := s.at_ + n }
def K (g : WX → WX) (n : RS → RS) (P : RS → Prop) : Prop := ∀ X, (g X).fine → X.fine ∧ ∃ l, rng l ∧ g X = app X l ∧ ∀ s, Bef s X.s.data.length l → n s = s.past l.length ∧ P s
theorem Bef.le {s : RS} {m : Nat} {l : List Int} (h : Bef s m l) : s.at_ + l.length ≤ s.bs.length := by
 have e := congrArg List.length h.p
 have := h.a
 simp at e; omega
theorem Bef.left {s : RS} {m : Nat} {l1 l2 : List Int} (h : Bef s m (l1 ++ l2)) : Bef s m l1 := by
 refine ⟨h.e, h.m, h.a, ?_⟩
 have := congrArg (List.take l1.length) h.p
 rw [List.take_take, List.take_left' rfl, Nat.min_eq_left (by simp)] at this
 exact this
theorem Bef.right {s : RS} {m : Nat} {l1 l2 : List Int} (h : Bef s m (l1 ++ l2)) : Bef (s.past l1.length) (m + l1.length) l2 := by
 have hl := h.le
 rw [List.length_append] at hl
 have hm := h.m
 refine ⟨h.e, ?_, ?_, ?_⟩
 ·show (s.at_ + l1.length) % 4 = _; omega
 ·show s.at_ + l1.length ≤ s.bs.length; omega
 ·show (s.bs.drop (s.at_ + l1.length)).take l2.length = l2
  have := congrArg (List.drop l1.length) h.p
  rw [List.drop_left' rfl, List.length_append, List.drop_take, List.drop_drop, Nat.add_sub_cancel_left] at this
  exact this
theorem app_app (X : WX) (l m : List Int) : app (app X l) m = app X (l ++ m) := by
 unfold app; simp
theorem K.trans {g1 g2 : WX → WX} {n1 n2 : RS → RS} {P1 P2 : RS → Prop} (a : K g1 n1 P1) (b : K g2 n2 P2) : K (fun X => g2 (g1 X)) (fun s => n2 (n1 s)) (fun s => P1 s ∧ P2 (n1 s)) := by
 intro X h
 obtain ⟨f1, l2, r2, e2, k2⟩ := b (g1 X) h
 obtain ⟨f0, l1, r1, e1, k1⟩ := a X f1
 refine ⟨f0, l1 ++ l2, fun x hx => (List.mem_append.1 hx).elim (r1 x) (r2 x), by show g2 (g1 X) = _; rw [e2, e1, app_app], fun s hs => ?_⟩
 obtain ⟨q1, p1⟩ := k1 s hs.left
 have hr := hs.right
 have hlen : (g1 X).s.data.length = X.s.data.length + l1.length := by rw [e1]; show (X.s.data ++ l1).length = _; rw [List.length_append]
 rw [← hlen] at hr
 obtain ⟨q2, p2⟩ := k2 _ hr
 refine ⟨?_, p1, by rw [q1]; exact p2⟩
 show n2 (n1 s) = _
 rw [q1, q2, List.length_append]
 unfold RS.past
 simp only
 rw [Nat.add_assoc]
theorem K.mono {g : WX → WX} {n n' : RS → RS} {P P' : RS → Prop} (a : K g n P) (h : ∀ s, P s → n' s = n s ∧ P' s) : K g n' P' := by
 intro X hX
 obtain ⟨f, l, r, e, k⟩ := a X hX
 refine ⟨f, l, r, e, fun s hs => ?_⟩
 obtain ⟨q, p⟩ := k s hs
 obtain ⟨q', p'⟩ := h s p
 exact ⟨q'.trans q, p'⟩
theorem fine_raw {X : WX} {l : List Int} (h : (X.raw l).fine) : X.fine ∧ X.raw l = app X l := by
 unfold WX.raw at h ⊢
 obtain ⟨h1, h2⟩ := h
 have h2' : X.u = false := h2
 by_cases he : X.s.err = 0
 ·by_cases hl : X.s.lim < X.s.data.length + l.length
  ·rw [WS.raw_full he l hl] at h1
   exact absurd h1 (by show (12 : Int) ≠ 0; decide)
  ·rw [WS.raw_ok he l (by omega)]
   exact ⟨⟨he, h2'⟩, rfl⟩
 ·rw [WS.raw_bad he] at h1
  exact absurd h1 he
theorem bef_take {s : RS} {m : Nat} {l : List Int} (h : Bef s m l) : s.take l.length = (l, s.past l.length) := by
 have := h.le
 unfold RS.take
 rw [if_neg (by simp [h.e]), if_neg (by omega), h.p]
 rfl
theorem K.raw (l : List Int) (hr : rng l) : K (fun X => X.raw l) (fun s => (s.take l.length).2) (fun s => (s.take l.length).1 = l) := by
 intro X h
 obtain ⟨f, e⟩ := fine_raw h
 refine ⟨f, l, hr, e, fun s hs => ?_⟩
 have t := bef_take hs
 exact ⟨congrArg Prod.snd t, congrArg Prod.fst t⟩
theorem K.le (v : Int) (k : Nat) (h0 : 0 ≤ v) (h1 : v.toNat < 2 ^ (8 * k)) : K (fun X => X.raw (Go.Proofs.YtknlpjcdemijgaaGreat.le v.toNat k)) (fun s => (s.take k).2) (fun s => ((s.num k : Nat) : Int) = v) := by
 refine (K.raw (Go.Proofs.YtknlpjcdemijgaaGreat.le v.toNat k) (le_range _ _)).mono fun s h => ?_
 rw [le_len] at h ⊢
 refine ⟨rfl, ?_⟩
 unfold RS.num
 rw [h, ofLe_le, Nat.mod_eq_of_lt h1]
 omega
theorem K.num (k : Nat) (v : Int) : K (fun X => X.num k v) (fun s => (s.take k).2) (fun s => ((s.num k : Nat) : Int) = v) := by
 intro X h
 unfold WX.num at h ⊢
 by_cases hv : v < 0 ∨ (256 ^ k : Nat) ≤ v
 ·simp only [if_pos hv] at h
  exact absurd h.2 (by simp)
 ·simp only [if_neg hv] at h ⊢
  have e : (2 : Nat) ^ (8 * k) = 256 ^ k := by rw [Nat.pow_mul]
  have hv0 : 0 ≤ v := by
   rcases Int.lt_or_le v 0 with q | q
   ·exact absurd (.inl q) hv
   ·exact q
  have hv1 : v < (256 ^ k : Nat) := by
   rcases Int.lt_or_le v (256 ^ k : Nat) with q | q
   ·exact q
   ·exact absurd (.inr q) hv
  exact K.le v k hv0 (by rw [e]; omega) X h
theorem K.pad : K WX.pad (fun s => s.pad 4) (fun _ => True) := by
 intro X h
 have hX : X.s.err = 0 := by
  apply Classical.byContradiction
  intro he
  unfold WX.pad WS.pad at h
  rw [if_pos he] at h
  exact he h.1
 have hp : X.pad = X.raw (List.replicate (padN X.s.data.length 4) 0) := by
  unfold WX.pad WS.pad WX.raw
  rw [if_neg (by simp [hX]), if_pos (by decide)]
  rfl
 rw [hp] at h
 obtain ⟨f, e⟩ := fine_raw h
 refine ⟨f, _, fun x hx => by simp at hx; omega, hp.trans e, fun s hs => ?_⟩
 refine ⟨?_, trivial⟩
 have em : padN X.s.data.length 4 = padN s.at_ 4 := by unfold padN; rw [hs.m]
 have t := bef_take hs
 rw [List.length_replicate] at t
 have hq : s.pad 4 = s.padded (s.take (padN s.at_ 4)) := by unfold RS.pad; rw [if_pos (by decide)]; rfl
 show s.pad 4 = _
 rw [hq, ← em, t, RS.padded_none _ _ (by
  rw [List.findIdx?_eq_none_iff]
  intro x hx
  simp at hx
  simp [hx.2]), List.length_replicate]
theorem K.flag (b : Bool) : K (fun X => X.raw (Go.Proofs.YtknlpjcdemijgaaGreat.le (if b then 1 else 0) 1)) RS.flag (fun s => decide (s.num 1 = 1) = b) := by
 have j : K (fun X => X.raw (Go.Proofs.YtknlpjcdemijgaaGreat.le (if b then 1 else 0) 1)) (fun s => (s.take 1).2) (fun s => s.num 1 = if b then 1 else 0) := by
  have := K.le (if b then 1 else 0 : Nat) 1 (by omega) (by cases b <;> decide)
  rw [Int.toNat_natCast] at this
  exact this.mono fun s h => ⟨rfl, Int.ofNat.inj h⟩
 refine j.mono fun s h => ?_
 refine ⟨?_, by rw [h]; cases b <;> rfl⟩
 unfold RS.flag
 rw [if_neg (by rw [h]; cases b <;> decide)]
theorem sBs_rng (s : ByteArray) : rng (sBs s) := by
 intro x hx
 unfold sBs at hx
 obtain ⟨b, _, rfl⟩ := List.mem_map.1 hx
 have := b.toNat_lt
 omega
theorem strOf_sBs (s : ByteArray) : strOf (sBs s) = s := by
 rw [strOf_eq _ (sBs_rng s)]
 unfold sBs
 rw [List.map_map]
 have : (List.map ((fun n : Int => UInt8.ofNat n.toNat) ∘ fun x : UInt8 => ((x.toNat : Nat) : Int)) s.data.toList) = s.data.toList := by
  conv => rhs; rw [← List.map_id s.data.toList]
  apply List.map_congr_left
  intro b _
  simp
 rw [this]
theorem K.name (nm : ByteArray) : K (fun X => X.name nm) (fun s => s.name.2) (fun s => s.name.1 = nm) := by
 have j := (K.num 1 (nm.size : Nat)).trans (K.raw (sBs nm) (sBs_rng nm))
 refine j.mono fun s h => ?_
 obtain ⟨h1, h2⟩ := h
 have h1' := Int.ofNat.inj h1
 rw [sBs_len] at h2 ⊢
 unfold RS.name
 refine ⟨?_, ?_⟩
 ·show ((s.take 1).2.take (s.num 1)).2 = _; rw [h1']
 ·show strOf ((s.take 1).2.take (s.num 1)).1 = nm; rw [h1', h2, strOf_sBs]
theorem K.id : K (fun X => X) (fun s => s) (fun _ => True) := fun X h => ⟨h, [], (by intro x hx; simp at hx), by unfold app; simp, fun s _ => ⟨rfl, trivial⟩⟩
theorem K.dl {α : Type} {f : RS → α × RS} {g : WX → α → WX} (xs : List α) (hf : ∀ x, x ∈ xs → K (fun X => g X x) (fun s => (f s).2) (fun s => (f s).1 = x)) : K (fun X => xs.foldl g X) (fun s => (Go.Proofs.YtknlpjcdemijgaaGreat.dl f xs.length s).2) (fun s => (Go.Proofs.YtknlpjcdemijgaaGreat.dl f xs.length s).1 = xs) := by
 obtain ⟨ys, rfl⟩ : ∃ ys, xs = ys.reverse := ⟨xs.reverse, by simp⟩
 induction ys with
 | nil => exact K.id.mono fun s _ => ⟨rfl, rfl⟩
 | cons y ys ih =>
  rw [List.reverse_cons]
  have j := (ih (fun x hx => hf x (by rw [List.reverse_cons]; exact List.mem_append_left _ hx))).trans (hf y (by simp))
  have e : (ys.reverse ++ [y]).length = ys.reverse.length + 1 := by simp
  have e2 : (fun X => (ys.reverse ++ [y]).foldl g X) = fun X => g (ys.reverse.foldl g X) y := by funext X; rw [List.foldl_append]; rfl
  rw [e, e2]
  refine j.mono fun s h => ⟨rfl, ?_⟩
  show (Go.Proofs.YtknlpjcdemijgaaGreat.dl f ys.reverse.length s).1 ++ [(f (Go.Proofs.YtknlpjcdemijgaaGreat.dl f ys.reverse.length s).2).1] = _
  rw [h.1, h.2]
theorem K.rg (r : Rg) (h : r.ok) : K (fun X => X.rg r) (fun s => s.rg.2) (fun s => s.rg.1 = r) := by
 obtain ⟨hv, hp, hn, hm⟩ := h
 have j := ((((K.le r.v 4 hv.1 (by omega)).trans (K.le r.p 4 hp.1 (by omega))).trans (K.num 4 r.n)).trans (K.le r.m 1 hm.1 (by omega))).trans K.pad
 refine j.mono fun s h => ⟨rfl, ?_⟩
 obtain ⟨⟨⟨⟨h1, h2⟩, h3⟩, h4⟩, _⟩ := h
 exact congr (congr (congr (congrArg Rg.mk h1) h2) h3) h4
theorem K.wi (r : Wi) (h : r.ok) : K (fun X => X.wi r) (fun s => s.wi.2) (fun s => s.wi.1 = r) := by
 obtain ⟨hc, hs, hl⟩ := h
 have j := (((K.num 1 r.c).trans K.pad).trans (K.le r.s 8 hs.1 (by omega))).trans (K.le r.l 8 hl.1 (by omega))
 refine j.mono fun s h => ⟨rfl, ?_⟩
 obtain ⟨⟨⟨h1, _⟩, h2⟩, h3⟩ := h
 exact congr (congr (congrArg Wi.mk h1) h2) h3
theorem K.qu (r : Qu) : K (fun X => X.qu r) (fun s => s.qu.2) (fun s => s.qu.1 = r) := by
 have j := ((((((K.num 1 r.w).trans (K.num 1 r.r)).trans (K.num 2 r.s)).trans (K.num 2 r.d)).trans (K.num 2 r.q)).trans (K.flag r.f)).trans K.pad
 refine j.mono fun s h => ⟨rfl, ?_⟩
 obtain ⟨⟨⟨⟨⟨⟨h1, h2⟩, h3⟩, h4⟩, h5⟩, h6⟩, _⟩ := h
 exact congr (congr (congr (congr (congr (congrArg Qu.mk h1) h2) h3) h4) h5) h6
theorem K.mc (r : Mc) (h : r.ok) : K (fun X => X.mc r) (fun s => s.mc.2) (fun s => s.mc.1 = r) := by
 have hob := h.ob
 have hmj := h.mj
 have j := (((((((K.num 4 r.pg).trans (K.le r.ob 4 hob.1 (by omega))).trans (K.num 4 r.op)).trans (K.num 2 r.st)).trans (K.num 2 r.wy)).trans (K.num 2 r.li)).trans (K.num 2 r.sl)).trans (K.le r.mj 8 hmj.1 (by omega))
 refine j.mono fun s h => ⟨rfl, ?_⟩
 obtain ⟨⟨⟨⟨⟨⟨⟨h1, h2⟩, h3⟩, h4⟩, h5⟩, h6⟩, h7⟩, h8⟩ := h
 exact congr (congr (congr (congr (congr (congr (congr (congrArg Mc.mk h1) h2) h3) h4) h5) h6) h7) h8
theorem K.int1 (v : Int) : K (fun X => X.num 1 v) (fun s => s.int1.2) (fun s => s.int1.1 = v) := K.num 1 v
theorem K.nums (l : List Int) : K (fun X => X.nums l) (fun s => (Go.Proofs.YtknlpjcdemijgaaGreat.dl RS.int1 l.length s).2) (fun s => (Go.Proofs.YtknlpjcdemijgaaGreat.dl RS.int1 l.length s).1 = l) := K.dl (f := RS.int1) (g := fun X n => X.num 1 n) l (fun x _ => K.int1 x)
theorem K.rgs (l : List Rg) (h : ∀ x, x ∈ l → x.ok) : K (fun X => X.rgs l) (fun s => (Go.Proofs.YtknlpjcdemijgaaGreat.dl RS.rg l.length s).2) (fun s => (Go.Proofs.YtknlpjcdemijgaaGreat.dl RS.rg l.length s).1 = l) := K.dl (f := RS.rg) (g := WX.rg) l (fun x hx => K.rg x (h x hx))
theorem K.sa (r : Sa) : K (fun X => X.sa r) (fun s => s.sa.2) (fun s => s.sa.1 = r) := by
 have j := ((((K.num 1 r.w).trans (K.num 1 (r.rs.length : Nat))).trans (K.num 2 r.s)).trans (K.nums r.rs)).trans K.pad
 refine j.mono fun s h => ?_
 obtain ⟨⟨⟨⟨h1, h2⟩, h3⟩, h4⟩, _⟩ := h
 have h2' := Int.ofNat.inj h2
 unfold RS.sa
 rw [h2']
 exact ⟨rfl, congr (congr (congrArg Sa.mk h1) h3) h4⟩
structure Ce.fit (c : Ce) : Prop where
 e : 0 ≤ c.e ∧ c.e < 4294967296
 rs : ∀ x, x ∈ c.rs → x.ok
theorem K.ce (c : Ce) (h : c.fit) : K (fun X => X.ce c) (fun s => s.ce.2) (fun s => s.ce.1 = c) := by
 obtain ⟨he, hr⟩ := h
 have j := ((((((((K.name c.nm).trans K.pad).trans (K.le c.e 4 he.1 (by omega))).trans (K.num 1 (c.rs.length : Nat))).trans (K.num 1 (c.ls.length : Nat))).trans K.pad).trans (K.rgs c.rs hr)).trans (K.nums c.ls)).trans K.pad
 refine j.mono fun s h => ?_
 obtain ⟨⟨⟨⟨⟨⟨⟨⟨h1, _⟩, h2⟩, h3⟩, h4⟩, _⟩, h5⟩, h6⟩, _⟩ := h
 have h3' : s.ceA.num 1 = _ := Int.ofNat.inj h3
 have h4' : (s.ceA.take 1).2.num 1 = _ := Int.ofNat.inj h4
 unfold RS.ce
 rw [h3', h4']
 exact ⟨rfl, congr (congr (congr (congrArg Ce.mk h1) h2) h5) h6⟩
structure Cf.fit (g : Cf) : Prop where
 m : g.m.ok
 cs : ∀ x, x ∈ g.cs → x.fit
 ws : ∀ x, x ∈ g.ws → x.ok
theorem K.cf (g : Cf) (h : g.fit) : K (fun X => X.cf g) (fun s => s.cf.2) (fun s => s.cf.1 = g) := by
 obtain ⟨hm, hc, hw⟩ := h
 have j := ((((((((K.mc g.m hm).trans (K.num 1 (g.cs.length : Nat))).trans (K.num 1 (g.ws.length : Nat))).trans (K.num 1 (g.ss.length : Nat))).trans (K.num 1 (g.qs.length : Nat))).trans (K.dl (f := RS.ce) (g := WX.ce) g.cs (fun x hx => K.ce x (hc x hx)))).trans (K.dl (f := RS.wi) (g := WX.wi) g.ws (fun x hx => K.wi x (hw x hx)))).trans (K.dl (f := RS.sa) (g := WX.sa) g.ss (fun x _ => K.sa x))).trans (K.dl (f := RS.qu) (g := WX.qu) g.qs (fun x _ => K.qu x))
 refine j.mono fun s h => ?_
 obtain ⟨⟨⟨⟨⟨⟨⟨⟨h1, h2⟩, h3⟩, h4⟩, h5⟩, h6⟩, h7⟩, h8⟩, h9⟩ := h
 have h2' : s.cfA.num 1 = _ := Int.ofNat.inj h2
 have h3' : s.cfB.num 1 = _ := Int.ofNat.inj h3
 have h4' : s.cfC.num 1 = _ := Int.ofNat.inj h4
 have h5' : s.cfD.num 1 = _ := Int.ofNat.inj h5
 have eF : s.cfF = Go.Proofs.YtknlpjcdemijgaaGreat.dl RS.ce g.cs.length s.cfE := by unfold RS.cfF; rw [h2']
 have eG : s.cfG = Go.Proofs.YtknlpjcdemijgaaGreat.dl RS.wi g.ws.length s.cfF.2 := by unfold RS.cfG; rw [h3']
 have eH : s.cfH = Go.Proofs.YtknlpjcdemijgaaGreat.dl RS.sa g.ss.length s.cfG.2 := by unfold RS.cfH; rw [h4']
 have eI : s.cfI = Go.Proofs.YtknlpjcdemijgaaGreat.dl RS.qu g.qs.length s.cfH.2 := by unfold RS.cfI; rw [h5']
 unfold RS.cf
 rw [eI, eH, eG, eF]
 exact ⟨rfl, congr (congr (congr (congr (congrArg Cf.mk h1) h6) h7) h8) h9⟩
end Go.Proofs.YtknlpjcdemijgaaGreat
namespace Go.Proofs.YtknlpjcdemijgaaGreat
open Go.ChangeShapes Go.WideShapes Go.ChangeAt Go.RowKit
set_option linter.unusedVariables false
theorem enc_form {g : Cf} (hf : g.fit) (h : encOk g = true) : ∃ body, rng body ∧ body.length ≤ 1252000 ∧ encB g = (magic ++ le body.length 4 ++ body) ++ le (crc (magic ++ le body.length 4 ++ body)) 4 ∧ RS.cf ⟨body, 0, 0, 0⟩ = (g, ⟨body, body.length, 0, 0⟩) := by
 unfold encOk at h
 have hc : (encS g).s.code = 0 := by
  have := (Bool.and_eq_true_iff.1 h).1
  simpa using this
 have hu : (encS g).u = false := by
  have := (Bool.and_eq_true_iff.1 h).2
  simpa using this
 have he : (x2.cf g).s.err = 0 := by
  apply Classical.byContradiction
  intro hn
  unfold encS WS.code WS.shut at hc
  simp only [if_pos hn] at hc
  exact hn hc
 obtain ⟨_, body, hr, hw, hk⟩ := K.cf g hf x2 ⟨he, hu⟩
 have hw' : x2.cf g = ⟨⟨2097152, magic ++ [0, 0, 0, 0] ++ body, [8], 0⟩, false⟩ := by
  have e : x2.cf g = app ⟨⟨2097152, magic ++ [0, 0, 0, 0], [8], 0⟩, false⟩ body := by
   have : x2.cf g = app x2 body := hw
   rw [this, x2_eq]
  rw [e]; rfl
 obtain ⟨q1, q2⟩ := hk ⟨body, 0, 0, 0⟩ ⟨rfl, by rw [x2_eq]; simp [magic], Nat.zero_le _, by show (body.drop 0).take body.length = body; rw [List.drop_zero, List.take_length]⟩
 have q1' : (RS.cf ⟨body, 0, 0, 0⟩).2 = ⟨body, body.length, 0, 0⟩ := by
  have : (RS.cf ⟨body, 0, 0, 0⟩).2 = (⟨body, 0, 0, 0⟩ : RS).past body.length := q1
  rw [this]; unfold RS.past; simp
 have hj := J.cf (s := ⟨body, 0, 0, 0⟩) hr (by rw [q1'])
 have hup := hj.1.up
 rw [q1'] at hup
 have hn : body.length ≤ 1252000 := by
  have : body.length ≤ 0 + 1252000 := hup
  omega
 have hml : magic.length = 8 := rfl
 have hS : encS g = ⟨⟨2097152, magic ++ le body.length 4 ++ body, [], 0⟩, false⟩ := by
  unfold encS
  rw [hw']
  unfold WS.shut WS.has
  rw [if_neg (by simp), if_pos (by simp)]
  have t8 : (magic ++ [0, 0, 0, 0] ++ body).take 8 = magic := by
   rw [List.append_assoc, List.take_left' hml]
  have d12 : (magic ++ [0, 0, 0, 0] ++ body).drop 12 = body := List.drop_left' (by simp [hml])
  have ln : (magic ++ [0, 0, 0, 0] ++ body).length - 8 - 4 = body.length := by simp [hml]
  show (⟨⟨2097152, (magic ++ [0, 0, 0, 0] ++ body).take 8 ++ le ((magic ++ [0, 0, 0, 0] ++ body).length - 8 - 4) 4 ++ (magic ++ [0, 0, 0, 0] ++ body).drop 12, _, 0⟩, false⟩ : WX) = _
  rw [t8, d12, ln]
  rfl
 refine ⟨body, hr, hn, ?_, Prod.ext q2 q1'⟩
 have hout : (encS g).s.out = magic ++ le body.length 4 ++ body := by rw [hS]; rfl
 unfold encB
 rw [hout]
 have hraw : (encS g).s.raw (le (crc (magic ++ le body.length 4 ++ body)) 4) = ⟨2097152, magic ++ le body.length 4 ++ body ++ le (crc (magic ++ le body.length 4 ++ body)) 4, [], 0⟩ := by
  rw [hS]
  unfold WS.raw
  rw [if_neg (by simp), if_neg (by simp [le_len, hml]; omega)]
 rw [hraw]
 rfl
end Go.Proofs.YtknlpjcdemijgaaGreat
namespace Go.Proofs.YtknlpjcdemijgaaGreat
open Go.ChangeShapes Go.WideShapes Go.ChangeAt Go.RowKit
set_option linter.unusedVariables false
deriving instance DecidableEq for Rg
deriving instance DecidableEq for Wi
deriving instance DecidableEq for Qu
theorem getQ_ne {α : Type} {xs ys : List α} {k : Nat} {x y : α} (h1 : xs[k]? = some x) (h2 : ys[k]? = some y) (h : x ≠ y) : xs ≠ ys := by
 rintro rfl
 rw [h1] at h2
 exact h (Option.some.inj h2)
theorem take_snocQ {α : Type} {xs : List α} {k : Nat} {x : α} (h : xs[k]? = some x) : xs.take (k + 1) = xs.take k ++ [x] := by
 rw [List.take_add_one, h]; rfl


theorem fields101 : Tryz.prog.underlying 101 = some (.struct (Tryz.prog.fieldsOf 101)) := by simp [Program.fieldsOf, Tryz.underlying101]
theorem stood101 : Tryz.prog.stoodInHeld 101 = false := by kernel_rfl
theorem sameRg (x y : Rg) : x = y ↔ x.v = y.v ∧ x.p = y.p ∧ x.n = y.n ∧ x.m = y.m := by
 constructor
 ·rintro rfl; exact ⟨rfl, rfl, rfl, rfl⟩
 ·rintro ⟨h0, h1, h2, h3⟩
  cases x; cases y
  simp_all
theorem neq101 (x y : Rg) (w : World) : (binOp BinOp.neq 101 (.agg #[.int .u32 x.v, .int .u32 x.p, .int .i64 x.n, .int .u8 x.m]) (.agg #[.int .u32 y.v, .int .u32 y.p, .int .i64 y.n, .int .u8 y.m])).run Tryz.prog w = .ok (.bool (!decide (x = y))) w := by
 rw [run_neq_struct, run_equalIn_agg w 9999 101 _ _ fields101 stood101]
 simp only [sameRg]
 simp [Program.fieldsOf, Tryz.underlying101, go_sem]
 by_cases h0 : x.v = y.v <;> by_cases h1 : x.p = y.p <;> by_cases h2 : x.n = y.n <;> by_cases h3 : x.m = y.m <;> simp [h0, h1, h2, h3]
theorem fields65 : Tryz.prog.underlying 65 = some (.struct (Tryz.prog.fieldsOf 65)) := by simp [Program.fieldsOf, Tryz.underlying65]
theorem stood65 : Tryz.prog.stoodInHeld 65 = false := by kernel_rfl
theorem sameWi (x y : Wi) : x = y ↔ x.c = y.c ∧ x.s = y.s ∧ x.l = y.l := by
 constructor
 ·rintro rfl; exact ⟨rfl, rfl, rfl⟩
 ·rintro ⟨h0, h1, h2⟩
  cases x; cases y
  simp_all
theorem neq65 (x y : Wi) (w : World) : (binOp BinOp.neq 65 (.agg #[.int .i64 x.c, .int .u64 x.s, .int .u64 x.l]) (.agg #[.int .i64 y.c, .int .u64 y.s, .int .u64 y.l])).run Tryz.prog w = .ok (.bool (!decide (x = y))) w := by
 rw [run_neq_struct, run_equalIn_agg w 9999 65 _ _ fields65 stood65]
 simp only [sameWi]
 simp [Program.fieldsOf, Tryz.underlying65, go_sem]
 by_cases h0 : x.c = y.c <;> by_cases h1 : x.s = y.s <;> by_cases h2 : x.l = y.l <;> simp [h0, h1, h2]
theorem fields98 : Tryz.prog.underlying 98 = some (.struct (Tryz.prog.fieldsOf 98)) := by simp [Program.fieldsOf, Tryz.underlying98]
theorem stood98 : Tryz.prog.stoodInHeld 98 = false := by kernel_rfl
theorem sameQu (x y : Qu) : x = y ↔ x.w = y.w ∧ x.r = y.r ∧ x.s = y.s ∧ x.d = y.d ∧ x.q = y.q ∧ x.f = y.f := by
 constructor
 ·rintro rfl; exact ⟨rfl, rfl, rfl, rfl, rfl, rfl⟩
 ·rintro ⟨h0, h1, h2, h3, h4, h5⟩
  cases x; cases y
  simp_all
theorem neq98 (x y : Qu) (w : World) : (binOp BinOp.neq 98 (.agg #[.int .i64 x.w, .int .i64 x.r, .int .i64 x.s, .int .i64 x.d, .int .i64 x.q, .bool x.f]) (.agg #[.int .i64 y.w, .int .i64 y.r, .int .i64 y.s, .int .i64 y.d, .int .i64 y.q, .bool y.f])).run Tryz.prog w = .ok (.bool (!decide (x = y))) w := by
 rw [run_neq_struct, run_equalIn_agg w 9999 98 _ _ fields98 stood98]
 simp only [sameQu]
 simp [Program.fieldsOf, Tryz.underlying98, go_sem]
 by_cases h0 : x.w = y.w <;> by_cases h1 : x.r = y.r <;> by_cases h2 : x.s = y.s <;> by_cases h3 : x.d = y.d <;> by_cases h4 : x.q = y.q <;> by_cases h5 : x.f = y.f <;> simp [h0, h1, h2, h3, h4, h5]
end Go.Proofs.YtknlpjcdemijgaaGreat
namespace Go.Proofs.YtknlpjcdemijgaaGreat
open Go.ChangeShapes Go.WideShapes Go.ChangeAt Go.RowKit
set_option linter.unusedVariables false
deriving instance DecidableEq for Sa
deriving instance DecidableEq for Ce
deriving instance DecidableEq for Mc
deriving instance DecidableEq for Cf
theorem sameSa (x y : Sa) : x = y ↔ x.w = y.w ∧ x.s = y.s ∧ x.rs = y.rs := by
 constructor
 ·rintro rfl; exact ⟨rfl, rfl, rfl⟩
 ·rintro ⟨h1, h2, h3⟩; cases x; cases y; simp_all
theorem sameCe (x y : Ce) : x = y ↔ x.nm = y.nm ∧ x.e = y.e ∧ x.rs = y.rs ∧ x.ls = y.ls := by
 constructor
 ·rintro rfl; exact ⟨rfl, rfl, rfl, rfl⟩
 ·rintro ⟨h1, h2, h3, h4⟩; cases x; cases y; simp_all
theorem RgAts.kp {w wi : World} {N : Nat} {la : Option Addr} {xs : List Rg} (h : RdL w N 4 RgAt la xs) (k : Kp w wi) : RdL wi N 4 RgAt la xs := h.mono fun b o y _ p => ⟨p.1.kp k, p.2⟩
end Go.Proofs.YtknlpjcdemijgaaGreat
