import Derived.Test.YtknlpjcdemijgaaGreatSme
namespace Go.Proofs.YtknlpjcdemijgaaGreat
open Go.ChangeShapes Go.WideShapes Go.ChangeAt Go.RowKit
set_option linter.unusedVariables false
theorem ofLe_le (n k : Nat) : ofLe (le n k) = n % 2 ^ (8 * k) := by
 induction k with
 | zero => simp [le, ofLe, Nat.mod_one]
 | succ k ih =>
  show ofLe (le n k ++ [leB n k]) = _
  rw [ofLe_snoc, le_len, ih]
  unfold leB
  rw [Int.toNat_natCast, show 8 * (k + 1) = 8 * k + 8 by omega, Nat.pow_add, Nat.mod_mul]
def WX.fine (X : WX) : Prop := X.s.err = 0 ∧ X.u = false
structure Bef (s : RS) (m : Nat) (l : List Int) : Prop where
 e : s.err = 0
 m : s.at_ % 4 = m % 4
 a : s.at_ ≤ s.bs.length
 p : (s.bs.drop s.at_).take l.length = l
def RS.past (s : RS) (n : Nat) : RS := { s with at_ := s.at_ + n }
def K (g : WX → WX) (n : RS → RS) (P : RS → Prop) : Prop := ∀ X, (g X).fine → X.fine ∧ ∃ l, rng l ∧ g X = app X l ∧ ∀ s, Bef s X.s.data.length l → n s = s.past l.length ∧ P s
theorem Bef.le {s : RS} {m : Nat} {l : List Int} (h : Bef s m l) : s.at_ + l.length ≤ s.bs.length := by
 have e := congrArg List.length h.p
 have := h.a
 simp at e; omega
theorem Bef.left {s : RS} {m : Nat} {l1 l2 : List Int} (h : Bef s m (l1 ++ l2)) : Bef s m l1 := by
 refine ⟨h.e, h.m, h.a, ?_⟩
 have := congrArg (List.take l1.length) h.p
 rw [List.take_take, List.take_left' rfl, Nat.min_eq_left (by simp)] at this
 exact this
theorem Bef.right {s : RS} {m : Nat} {l1 l2 : List Int} (h : Bef s m (l1 ++ l2)) : Bef (s.past l1.length) (m + l1.length) l2 := by
 have hl := h.le
 rw [List.length_append] at hl
 have hm := h.m
 refine ⟨h.e, ?_, ?_, ?_⟩
 ·show (s.at_ + l1.length) % 4 = _; omega
 ·show s.at_ + l1.length ≤ s.bs.length; omega
 ·show (s.bs.drop (s.at_ + l1.length)).take l2.length = l2
  have := congrArg (List.drop l1.length) h.p
  rw [List.drop_left' rfl, List.length_append, List.drop_take, List.drop_drop, Nat.add_sub_cancel_left] at this
  exact this
theorem app_app (X : WX) (l m : List Int) : app (app X l) m = app X (l ++ m) := by
 unfold app; simp
theorem K.trans {g1 g2 : WX → WX} {n1 n2 : RS → RS} {P1 P2 : RS → Prop} (a : K g1 n1 P1) (b : K g2 n2 P2) : K (fun X => g2 (g1 X)) (fun s => n2 (n1 s)) (fun s => P1 s ∧ P2 (n1 s)) := by
 intro X h
 obtain ⟨f1, l2, r2, e2, k2⟩ := b (g1 X) h
 obtain ⟨f0, l1, r1, e1, k1⟩ := a X f1
 refine ⟨f0, l1 ++ l2, fun x hx => (List.mem_append.1 hx).elim (r1 x) (r2 x), by show g2 (g1 X) = _; rw [e2, e1, app_app], fun s hs => ?_⟩
 obtain ⟨q1, p1⟩ := k1 s hs.left
 have hr := hs.right
 have hlen : (g1 X).s.data.length = X.s.data.length + l1.length := by rw [e1]; show (X.s.data ++ l1).length = _; rw [List.length_append]
 rw [← hlen] at hr
 obtain ⟨q2, p2⟩ := k2 _ hr
 refine ⟨?_, p1, by rw [q1]; exact p2⟩
 show n2 (n1 s) = _
 rw [q1, q2, List.length_append]
 unfold RS.past
 simp only
 rw [Nat.add_assoc]
theorem K.mono {g : WX → WX} {n n' : RS → RS} {P P' : RS → Prop} (a : K g n P) (h : ∀ s, P s → n' s = n s ∧ P' s) : K g n' P' := by
 intro X hX
 obtain ⟨f, l, r, e, k⟩ := a X hX
 refine ⟨f, l, r, e, fun s hs => ?_⟩
 obtain ⟨q, p⟩ := k s hs
 obtain ⟨q', p'⟩ := h s p
 exact ⟨q'.trans q, p'⟩
theorem fine_raw {X : WX} {l : List Int} (h : (X.raw l).fine) : X.fine ∧ X.raw l = app X l := by
 unfold WX.raw at h ⊢
 obtain ⟨h1, h2⟩ := h
 have h2' : X.u = false := h2
 by_cases he : X.s.err = 0
 ·by_cases hl : X.s.lim < X.s.data.length + l.length
  ·rw [WS.raw_full he l hl] at h1
   exact absurd h1 (by show (12 : Int) ≠ 0; decide)
  ·rw [WS.raw_ok he l (by omega)]
   exact ⟨⟨he, h2'⟩, rfl⟩
 ·rw [WS.raw_bad he] at h1
  exact absurd h1 he
theorem bef_take {s : RS} {m : Nat} {l : List Int} (h : Bef s m l) : s.take l.length = (l, s.past l.length) := by
 have := h.le
 unfold RS.take
 rw [if_neg (by simp [h.e]), if_neg (by omega), h.p]
 rfl
theorem K.raw (l : List Int) (hr : rng l) : K (fun X => X.raw l) (fun s => (s.take l.length).2) (fun s => (s.take l.length).1 = l) := by
 intro X h
 obtain ⟨f, e⟩ := fine_raw h
 refine ⟨f, l, hr, e, fun s hs => ?_⟩
 have t := bef_take hs
 exact ⟨congrArg Prod.snd t, congrArg Prod.fst t⟩
theorem K.le (v : Int) (k : Nat) (h0 : 0 ≤ v) (h1 : v.toNat < 2 ^ (8 * k)) : K (fun X => X.raw (Go.Proofs.YtknlpjcdemijgaaGreat.le v.toNat k)) (fun s => (s.take k).2) (fun s => ((s.num k : Nat) : Int) = v) := by
 refine (K.raw (Go.Proofs.YtknlpjcdemijgaaGreat.le v.toNat k) (le_range _ _)).mono fun s h => ?_
 rw [le_len] at h ⊢
 refine ⟨rfl, ?_⟩
 unfold RS.num
 rw [h, ofLe_le, Nat.mod_eq_of_lt h1]
 omega
theorem K.num (k : Nat) (v : Int) : K (fun X => X.num k v) (fun s => (s.take k).2) (fun s => ((s.num k : Nat) : Int) = v) := by
 intro X h
 unfold WX.num at h ⊢
 by_cases hv : v < 0 ∨ (256 ^ k : Nat) ≤ v
 ·simp only [if_pos hv] at h
  exact absurd h.2 (by simp)
 ·simp only [if_neg hv] at h ⊢
  have e : (2 : Nat) ^ (8 * k) = 256 ^ k := by rw [Nat.pow_mul]
  have hv0 : 0 ≤ v := by
   rcases Int.lt_or_le v 0 with q | q
   ·exact absurd (.inl q) hv
   ·exact q
  have hv1 : v < (256 ^ k : Nat) := by
   rcases Int.lt_or_le v (256 ^ k : Nat) with q | q
   ·exact q
   ·exact absurd (.inr q) hv
  exact K.le v k hv0 (by rw [e]; omega) X h
theorem K.pad : K WX.pad (fun s => s.pad 4) (fun _ => True) := by
 intro X h
 have hX : X.s.err = 0 := by
  apply Classical.byContradiction
  intro he
  unfold WX.pad WS.pad at h
  rw [if_pos he] at h
  exact he h.1
 have hp : X.pad = X.raw (List.replicate (padN X.s.data.length 4) 0) := by
  unfold WX.pad WS.pad WX.raw
  rw [if_neg (by simp [hX]), if_pos (by decide)]
  rfl
 rw [hp] at h
 obtain ⟨f, e⟩ := fine_raw h
 refine ⟨f, _, fun x hx => by simp at hx; omega, hp.trans e, fun s hs => ?_⟩
 refine ⟨?_, trivial⟩
 have em : padN X.s.data.length 4 = padN s.at_ 4 := by unfold padN; rw [hs.m]
 have t := bef_take hs
 rw [List.length_replicate] at t
 have hq : s.pad 4 = s.padded (s.take (padN s.at_ 4)) := by unfold RS.pad; rw [if_pos (by decide)]; rfl
 show s.pad 4 = _
 rw [hq, ← em, t, RS.padded_none _ _ (by
  rw [List.findIdx?_eq_none_iff]
  intro x hx
  simp at hx
  simp [hx.2]), List.length_replicate]
theorem K.flag (b : Bool) : K (fun X => X.raw (Go.Proofs.YtknlpjcdemijgaaGreat.le (if b then 1 else 0) 1)) RS.flag (fun s => decide (s.num 1 = 1) = b) := by
 have j : K (fun X => X.raw (Go.Proofs.YtknlpjcdemijgaaGreat.le (if b then 1 else 0) 1)) (fun s => (s.take 1).2) (fun s => s.num 1 = if b then 1 else 0) := by
  have := K.le (if b then 1 else 0 : Nat) 1 (by omega) (by cases b <;> decide)
  rw [Int.toNat_natCast] at this
  exact this.mono fun s h => ⟨rfl, Int.ofNat.inj h⟩
 refine j.mono fun s h => ?_
 refine ⟨?_, by rw [h]; cases b <;> rfl⟩
 unfold RS.flag
 rw [if_neg (by rw [h]; cases b <;> decide)]
theorem sBs_rng (s : ByteArray) : rng (sBs s) := by
 intro x hx
 unfold sBs at hx
 obtain ⟨b, _, rfl⟩ := List.mem_map.1 hx
 have := b.toNat_lt
 omega
theorem strOf_sBs (s : ByteArray) : strOf (sBs s) = s := by
 rw [strOf_eq _ (sBs_rng s)]
 unfold sBs
 rw [List.map_map]
 have : (List.map ((fun n : Int => UInt8.ofNat n.toNat) ∘ fun x : UInt8 => ((x.toNat : Nat) : Int)) s.data.toList) = s.data.toList := by
  conv => rhs; rw [← List.map_id s.data.toList]
  apply List.map_congr_left
  intro b _
  simp
 rw [this]
theorem K.name (nm : ByteArray) : K (fun X => X.name nm) (fun s => s.name.2) (fun s => s.name.1 = nm) := by
 have j := (K.num 1 (nm.size : Nat)).trans (K.raw (sBs nm) (sBs_rng nm))
 refine j.mono fun s h => ?_
 obtain ⟨h1, h2⟩ := h
 have h1' := Int.ofNat.inj h1
 rw [sBs_len] at h2 ⊢
 unfold RS.name
 refine ⟨?_, ?_⟩
 ·show ((s.take 1).2.take (s.num 1)).2 = _; rw [h1']
 ·show strOf ((s.take 1).2.take (s.num 1)).1 = nm; rw [h1', h2, strOf_sBs]
theorem K.id : K (fun X => X) (fun s => s) (fun _ => True) := fun X h => ⟨h, [], (by intro x hx; simp at hx), by unfold app; simp, fun s _ => ⟨rfl, trivial⟩⟩
theorem K.dl {α : Type} {f : RS → α × RS} {g : WX → α → WX} (xs : List α) (hf : ∀ x, x ∈ xs → K (fun X => g X x) (fun s => (f s).2) (fun s => (f s).1 = x)) : K (fun X => xs.foldl g X) (fun s => (Go.Proofs.YtknlpjcdemijgaaGreat.dl f xs.length s).2) (fun s => (Go.Proofs.YtknlpjcdemijgaaGreat.dl f xs.length s).1 = xs) := by
 obtain ⟨ys, rfl⟩ : ∃ ys, xs = ys.reverse := ⟨xs.reverse, by simp⟩
 induction ys with
 | nil => exact K.id.mono fun s _ => ⟨rfl, rfl⟩
 | cons y ys ih =>
  rw [List.reverse_cons]
  have j := (ih (fun x hx => hf x (by rw [List.reverse_cons]; exact List.mem_append_left _ hx))).trans (hf y (by simp))
  have e : (ys.reverse ++ [y]).length = ys.reverse.length + 1 := by simp
  have e2 : (fun X => (ys.reverse ++ [y]).foldl g X) = fun X => g (ys.reverse.foldl g X) y := by funext X; rw [List.foldl_append]; rfl
  rw [e, e2]
  refine j.mono fun s h => ⟨rfl, ?_⟩
  show (Go.Proofs.YtknlpjcdemijgaaGreat.dl f ys.reverse.length s).1 ++ [(f (Go.Proofs.YtknlpjcdemijgaaGreat.dl f ys.reverse.length s).2).1] = _
  rw [h.1, h.2]
theorem K.rg (r : Rg) (h : r.ok) : K (fun X => X.rg r) (fun s => s.rg.2) (fun s => s.rg.1 = r) := by
 obtain ⟨hv, hp, hn, hm⟩ := h
 have j := ((((K.le r.v 4 hv.1 (by omega)).trans (K.le r.p 4 hp.1 (by omega))).trans (K.num 4 r.n)).trans (K.le r.m 1 hm.1 (by omega))).trans K.pad
 refine j.mono fun s h => ⟨rfl, ?_⟩
 obtain ⟨⟨⟨⟨h1, h2⟩, h3⟩, h4⟩, _⟩ := h
 exact congr (congr (congr (congrArg Rg.mk h1) h2) h3) h4
theorem K.wi (r : Wi) (h : r.ok) : K (fun X => X.wi r) (fun s => s.wi.2) (fun s => s.wi.1 = r) := by
 obtain ⟨hc, hs, hl⟩ := h
 have j := (((K.num 1 r.c).trans K.pad).trans (K.le r.s 8 hs.1 (by omega))).trans (K.le r.l 8 hl.1 (by omega))
 refine j.mono fun s h => ⟨rfl, ?_⟩
 obtain ⟨⟨⟨h1, _⟩, h2⟩, h3⟩ := h
 exact congr (congr (congrArg Wi.mk h1) h2) h3
theorem K.qu (r : Qu) : K (fun X => X.qu r) (fun s => s.qu.2) (fun s => s.qu.1 = r) := by
 have j := ((((((K.num 1 r.w).trans (K.num 1 r.r)).trans (K.num 2 r.s)).trans (K.num 2 r.d)).trans (K.num 2 r.q)).trans (K.flag r.f)).trans K.pad
 refine j.mono fun s h => ⟨rfl, ?_⟩
 obtain ⟨⟨⟨⟨⟨⟨h1, h2⟩, h3⟩, h4⟩, h5⟩, h6⟩, _⟩ := h
 exact congr (congr (congr (congr (congr (congrArg Qu.mk h1) h2) h3) h4) h5) h6
theorem K.mc (r : Mc) (h : r.ok) : K (fun X => X.mc r) (fun s => s.mc.2) (fun s => s.mc.1 = r) := by
 have hob := h.ob
 have hmj := h.mj
 have j := (((((((K.num 4 r.pg).trans (K.le r.ob 4 hob.1 (by omega))).trans (K.num 4 r.op)).trans (K.num 2 r.st)).trans (K.num 2 r.wy)).trans (K.num 2 r.li)).trans (K.num 2 r.sl)).trans (K.le r.mj 8 hmj.1 (by omega))
 refine j.mono fun s h => ⟨rfl, ?_⟩
 obtain ⟨⟨⟨⟨⟨⟨⟨h1, h2⟩, h3⟩, h4⟩, h5⟩, h6⟩, h7⟩, h8⟩ := h
 exact congr (congr (congr (congr (congr (congr (congr (congrArg Mc.mk h1) h2) h3) h4) h5) h6) h7) h8
theorem K.int1 (v : Int) : K (fun X => X.num 1 v) (fun s => s.int1.2) (fun s => s.int1.1 = v) := K.num 1 v
theorem K.nums (l : List Int) : K (fun X => X.nums l) (fun s => (Go.Proofs.YtknlpjcdemijgaaGreat.dl RS.int1 l.length s).2) (fun s => (Go.Proofs.YtknlpjcdemijgaaGreat.dl RS.int1 l.length s).1 = l) := K.dl (f := RS.int1) (g := fun X n => X.num 1 n) l (fun x _ => K.int1 x)
theorem K.rgs (l : List Rg) (h : ∀ x, x ∈ l → x.ok) : K (fun X => X.rgs l) (fun s => (Go.Proofs.YtknlpjcdemijgaaGreat.dl RS.rg l.length s).2) (fun s => (Go.Proofs.YtknlpjcdemijgaaGreat.dl RS.rg l.length s).1 = l) := K.dl (f := RS.rg) (g := WX.rg) l (fun x hx => K.rg x (h x hx))
theorem K.sa (r : Sa) : K (fun X => X.sa r) (fun s => s.sa.2) (fun s => s.sa.1 = r) := by
 have j := ((((K.num 1 r.w).trans (K.num 1 (r.rs.length : Nat))).trans (K.num 2 r.s)).trans (K.nums r.rs)).trans K.pad
 refine j.mono fun s h => ?_
 obtain ⟨⟨⟨⟨h1, h2⟩, h3⟩, h4⟩, _⟩ := h
 have h2' := Int.ofNat.inj h2
 unfold RS.sa
 rw [h2']
 exact ⟨rfl, congr (congr (congrArg Sa.mk h1) h3) h4⟩
structure Ce.fit (c : Ce) : Prop where
 e : 0 ≤ c.e ∧ c.e < 4294967296
 rs : ∀ x, x ∈ c.rs → x.ok
theorem K.ce (c : Ce) (h : c.fit) : K (fun X => X.ce c) (fun s => s.ce.2) (fun s => s.ce.1 = c) := by
 obtain ⟨he, hr⟩ := h
 have j := ((((((((K.name c.nm).trans K.pad).trans (K.le c.e 4 he.1 (by omega))).trans (K.num 1 (c.rs.length : Nat))).trans (K.num 1 (c.ls.length : Nat))).trans K.pad).trans (K.rgs c.rs hr)).trans (K.nums c.ls)).trans K.pad
 refine j.mono fun s h => ?_
 obtain ⟨⟨⟨⟨⟨⟨⟨⟨h1, _⟩, h2⟩, h3⟩, h4⟩, _⟩, h5⟩, h6⟩, _⟩ := h
 have h3' : s.ceA.num 1 = _ := Int.ofNat.inj h3
 have h4' : (s.ceA.take 1).2.num 1 = _ := Int.ofNat.inj h4
 unfold RS.ce
 rw [h3', h4']
 exact ⟨rfl, congr (congr (congr (congrArg Ce.mk h1) h2) h5) h6⟩
structure Cf.fit (g : Cf) : Prop where
 m : g.m.ok
 cs : ∀ x, x ∈ g.cs → x.fit
 ws : ∀ x, x ∈ g.ws → x.ok
theorem K.cf (g : Cf) (h : g.fit) : K (fun X => X.cf g) (fun s => s.cf.2) (fun s => s.cf.1 = g) := by
 obtain ⟨hm, hc, hw⟩ := h
 have j := ((((((((K.mc g.m hm).trans (K.num 1 (g.cs.length : Nat))).trans (K.num 1 (g.ws.length : Nat))).trans (K.num 1 (g.ss.length : Nat))).trans (K.num 1 (g.qs.length : Nat))).trans (K.dl (f := RS.ce) (g := WX.ce) g.cs (fun x hx => K.ce x (hc x hx)))).trans (K.dl (f := RS.wi) (g := WX.wi) g.ws (fun x hx => K.wi x (hw x hx)))).trans (K.dl (f := RS.sa) (g := WX.sa) g.ss (fun x _ => K.sa x))).trans (K.dl (f := RS.qu) (g := WX.qu) g.qs (fun x _ => K.qu x))
 refine j.mono fun s h => ?_
 obtain ⟨⟨⟨⟨⟨⟨⟨⟨h1, h2⟩, h3⟩, h4⟩, h5⟩, h6⟩, h7⟩, h8⟩, h9⟩ := h
 have h2' : s.cfA.num 1 = _ := Int.ofNat.inj h2
 have h3' : s.cfB.num 1 = _ := Int.ofNat.inj h3
 have h4' : s.cfC.num 1 = _ := Int.ofNat.inj h4
 have h5' : s.cfD.num 1 = _ := Int.ofNat.inj h5
 have eF : s.cfF = Go.Proofs.YtknlpjcdemijgaaGreat.dl RS.ce g.cs.length s.cfE := by unfold RS.cfF; rw [h2']
 have eG : s.cfG = Go.Proofs.YtknlpjcdemijgaaGreat.dl RS.wi g.ws.length s.cfF.2 := by unfold RS.cfG; rw [h3']
 have eH : s.cfH = Go.Proofs.YtknlpjcdemijgaaGreat.dl RS.sa g.ss.length s.cfG.2 := by unfold RS.cfH; rw [h4']
 have eI : s.cfI = Go.Proofs.YtknlpjcdemijgaaGreat.dl RS.qu g.qs.length s.cfH.2 := by unfold RS.cfI; rw [h5']
 unfold RS.cf
 rw [eI, eH, eG, eF]
 exact ⟨rfl, congr (congr (congr (congr (congrArg Cf.mk h1) h6) h7) h8) h9⟩
end Go.Proofs.YtknlpjcdemijgaaGreat
namespace Go.Proofs.YtknlpjcdemijgaaGreat
open Go.ChangeShapes Go.WideShapes Go.ChangeAt Go.RowKit
set_option linter.unusedVariables false

theorem eq88_len (w : World) (a b : Option Addr) (la lb ca cb : Nat) (h : ((la : Int) != (lb : Int)) = true) :
  Calls Tryz.prog 88 #[.slice a la ca, .slice b lb cb] w fun r w' => r = .returned (.bool false) ∧ w' = w := by
 go_enter Tryz.func88, Tryz.ntmps88
 go_wp2
 go_ret
 exact ⟨rfl, rfl⟩

set_option maxHeartbeats 800000 in
theorem eq88_same (w : World) (N N2 : Nat) (a b : Option Addr) (la ca cb : Nat) (xs ys : List Int) (hx : RdI w N a xs) (hy : RdI w N2 b ys) (hlx : xs.length = la) (hly : ys.length = la) :
  Calls Tryz.prog 88 #[.slice a la ca, .slice b la cb] w fun r w' => r = .returned (.bool (sameB xs ys)) ∧ Kp w w' := by
 have hl : la ≤ 140737488355328 := by have := hx.2.1; omega
 have H : Hid (RdI w N a xs ∧ RdI w N2 b ys ∧ xs.length = la ∧ ys.length = la) := ⟨hx, hy, hlx, hly⟩
 clear hx hy hlx hly
 go_enter Tryz.func88, Tryz.ntmps88
 go_wp2
 go_loopw [13] (fun i wr => ∃ k : Nat, k ≤ la ∧ i = .int .i64 k ∧ xs.take k = ys.take k ∧ Kp w wr) (fun i _ => la - (intOf i).toNat)
 case atStart => exact ⟨0, by omega, rfl, rfl, Kp.refl _⟩
 case round =>
  obtain ⟨k, hk, rfl, ht, hC⟩ := hrel
  have HT : Hid (xs.take k = ys.take k ∧ Kp w wr) := ⟨ht, hC⟩
  clear ht hC
  by_cases hlt : k < la
  ·obtain ⟨hx, hy, hlx, hly⟩ := H.out
   have hx2 := hx.kp HT.out.2
   have hy2 := hy.kp HT.out.2
   obtain ⟨bx, ox, e1, _, hcx⟩ := hx2.2.2.resolve_left (by omega)
   obtain ⟨by_, oy, e2, _, hcy⟩ := hy2.2.2.resolve_left (by omega)
   have cx := hcx k (by omega)
   have cy := hcy k (by omega)
   have gx : xs[k]'(by omega) = xs.getD k 0 := by simp [List.getD, List.getElem?_eq_getElem (show k < xs.length by omega)]
   have gy : ys[k]'(by omega) = ys.getD k 0 := by simp [List.getD, List.getElem?_eq_getElem (show k < ys.length by omega)]
   rw [gx] at cx
   rw [gy] at cy
   have tx : Hid (xs.take (k + 1) = xs.take k ++ [xs.getD k 0]) := take_snoc xs k (by omega)
   have ty : Hid (ys.take (k + 1) = ys.take k ++ [ys.getD k 0]) := take_snoc ys k (by omega)
   have HN : Hid (xs.getD k 0 ≠ ys.getD k 0 → xs ≠ ys) := getD_ne
   clear gx gy
   obtain ⟨p, hp⟩ : ∃ p, p = xs.getD k 0 := ⟨_, rfl⟩
   obtain ⟨q, hq⟩ : ∃ q, q = ys.getD k 0 := ⟨_, rfl⟩
   rw [← hp] at cx tx HN
   rw [← hq] at cy ty HN
   clear hx hy hx2 hy2 hcx hcy hlx hly hp hq
   subst e1 e2
   by_cases hpq : p = q
   ·subst hpq
    have hpp : (p != p) = false := by simp
    go_wp2
    go_quiet (fail)
    go_wp2
    go_roundw
    case rel => exact ⟨k + 1, by omega, by go_num, by rw [tx.out, ty.out, HT.out.1], Chg.drewN HT.out.2 _⟩
    case measure => simp [intOf]; omega
   ·have hpp : (p != q) = true := by simpa using hpq
    go_wp2
    go_quiet (fail)
    go_wp2
    go_ret
    exact ⟨by have := HN.out hpq; simp [sameB, this], Chg.drewN HT.out.2 _⟩
  ·go_wp2
   go_ret
   refine ⟨?_, HT.out.2⟩
   obtain ⟨hx, hy, hlx, hly⟩ := H.out
   have := HT.out.1
   rw [List.take_of_length_le (by omega), List.take_of_length_le (by omega)] at this
   simp [sameB, this]
theorem eq88_any (w : World) (N N2 : Nat) (a b : Option Addr) (ca cb : Nat) (xs ys : List Int) (hx : RdI w N a xs) (hy : RdI w N2 b ys) :
  Calls Tryz.prog 88 #[.slice a xs.length ca, .slice b ys.length cb] w fun r w' => r = .returned (.bool (sameB xs ys)) ∧ Kp w w' := by
 by_cases h : xs.length = ys.length
 ·rw [← h]
  exact eq88_same w N N2 a b xs.length ca cb xs ys hx hy rfl h.symm
 ·refine (eq88_len w a b _ _ ca cb (by simp; omega)).mono ?_
  rintro r w' ⟨rfl, rfl⟩
  refine ⟨?_, Kp.refl _⟩
  have : xs ≠ ys := fun e => h (by rw [e])
  simp [sameB, this]
end Go.Proofs.YtknlpjcdemijgaaGreat
namespace Go.Proofs.YtknlpjcdemijgaaGreat
open Go.ChangeShapes Go.WideShapes Go.ChangeAt Go.RowKit
set_option linter.unusedVariables false
deriving instance DecidableEq for Rg
deriving instance DecidableEq for Wi
deriving instance DecidableEq for Qu
theorem getQ_ne {α : Type} {xs ys : List α} {k : Nat} {x y : α} (h1 : xs[k]? = some x) (h2 : ys[k]? = some y) (h : x ≠ y) : xs ≠ ys := by
 rintro rfl
 rw [h1] at h2
 exact h (Option.some.inj h2)
theorem take_snocQ {α : Type} {xs : List α} {k : Nat} {x : α} (h : xs[k]? = some x) : xs.take (k + 1) = xs.take k ++ [x] := by
 rw [List.take_add_one, h]; rfl


theorem fields101 : Tryz.prog.underlying 101 = some (.struct (Tryz.prog.fieldsOf 101)) := by simp [Program.fieldsOf, Tryz.underlying101]
theorem stood101 : Tryz.prog.stoodInHeld 101 = false := by kernel_rfl
theorem sameRg (x y : Rg) : x = y ↔ x.v = y.v ∧ x.p = y.p ∧ x.n = y.n ∧ x.m = y.m := by
 constructor
 ·rintro rfl; exact ⟨rfl, rfl, rfl, rfl⟩
 ·rintro ⟨h0, h1, h2, h3⟩
  cases x; cases y
  simp_all
theorem neq101 (x y : Rg) (w : World) : (binOp BinOp.neq 101 (.agg #[.int .u32 x.v, .int .u32 x.p, .int .i64 x.n, .int .u8 x.m]) (.agg #[.int .u32 y.v, .int .u32 y.p, .int .i64 y.n, .int .u8 y.m])).run Tryz.prog w = .ok (.bool (!decide (x = y))) w := by
 rw [run_neq_struct, run_equalIn_agg w 9999 101 _ _ fields101 stood101]
 simp only [sameRg]
 simp [Program.fieldsOf, Tryz.underlying101, go_sem]
 by_cases h0 : x.v = y.v <;> by_cases h1 : x.p = y.p <;> by_cases h2 : x.n = y.n <;> by_cases h3 : x.m = y.m <;> simp [h0, h1, h2, h3]
theorem eq87_len (w : World) (a b : Option Addr) (la lb ca cb : Nat) (h : ((la : Int) != (lb : Int)) = true) :
  Calls Tryz.prog 87 #[.slice a la ca, .slice b lb cb] w fun r w' => r = .returned (.bool false) ∧ w' = w := by
 go_enter Tryz.func87, Tryz.ntmps87
 go_wp2
 go_ret
 exact ⟨rfl, rfl⟩
set_option maxHeartbeats 1000000 in
set_option maxRecDepth 10000 in
theorem eq87_same (w : World) (N N2 : Nat) (a b : Option Addr) (la ca cb : Nat) (xs ys : List Rg) (hx : RdL w N 4 RgAt a xs) (hy : RdL w N2 4 RgAt b ys) (hlx : xs.length = la) (hly : ys.length = la) (r : Bool) (hr : r = decide (xs = ys)) :
  Calls Tryz.prog 87 #[.slice a la ca, .slice b la cb] w fun e w' => e = .returned (.bool r) ∧ Kp w w' := by
 have hl : la ≤ 140737488355328 := by have := hx.1; omega
 have H : Hid (RdL w N 4 RgAt a xs ∧ RdL w N2 4 RgAt b ys ∧ xs.length = la ∧ ys.length = la) := ⟨hx, hy, hlx, hly⟩
 have HR : Hid (r = decide (xs = ys)) := hr
 clear hx hy hlx hly hr
 go_enter Tryz.func87, Tryz.ntmps87
 go_wp2
 go_loopw [13] (fun i wr => ∃ k : Nat, k ≤ la ∧ i = .int .i64 k ∧ Hid (xs.take k = ys.take k ∧ Kp w wr)) (fun i _ => la - (intOf i).toNat)
 case atStart => exact ⟨0, by omega, rfl, ⟨rfl, Chg.refl _ _⟩⟩
 case round =>
  obtain ⟨k, hk, rfl, HT⟩ := hrel
  by_cases hlt : k < la
  ·obtain ⟨hx, hy, hlx, hly⟩ := H.out
   obtain ⟨bx, ox, e1, _, hcx⟩ := hx.2.resolve_left (by omega)
   obtain ⟨by_, oy, e2, _, hcy⟩ := hy.2.resolve_left (by omega)
   have h1 : At wr bx (ox + k * 4) (xs[k]'(by omega)).cells := (hcx k (by omega)).1.kp HT.out.2
   have h2 : At wr by_ (oy + k * 4) (ys[k]'(by omega)).cells := (hcy k (by omega)).1.kp HT.out.2
   have hgx : xs[k]? = some (xs[k]'(by omega)) := List.getElem?_eq_getElem (by omega)
   have hgy : ys[k]? = some (ys[k]'(by omega)) := List.getElem?_eq_getElem (by omega)
   obtain ⟨x, hxx⟩ : ∃ x, x = xs[k]'(by omega) := ⟨_, rfl⟩
   obtain ⟨y, hyy⟩ : ∃ y, y = ys[k]'(by omega) := ⟨_, rfl⟩
   rw [← hxx] at h1 hgx
   rw [← hyy] at h2 hgy
   have HX : Hid (xs[k]? = some x ∧ ys[k]? = some y) := ⟨hgx, hgy⟩
   have c10 : wr.cell? ⟨bx, ox + k * 4 + 0, none⟩ = some (.int .u32 x.v) := h1 0 _ rfl
   have c11 : wr.cell? ⟨bx, ox + k * 4 + 1, none⟩ = some (.int .u32 x.p) := h1 1 _ rfl
   have c12 : wr.cell? ⟨bx, ox + k * 4 + 2, none⟩ = some (.int .i64 x.n) := h1 2 _ rfl
   have c13 : wr.cell? ⟨bx, ox + k * 4 + 3, none⟩ = some (.int .u8 x.m) := h1 3 _ rfl
   have c20 : wr.cell? ⟨by_, oy + k * 4 + 0, none⟩ = some (.int .u32 y.v) := h2 0 _ rfl
   have c21 : wr.cell? ⟨by_, oy + k * 4 + 1, none⟩ = some (.int .u32 y.p) := h2 1 _ rfl
   have c22 : wr.cell? ⟨by_, oy + k * 4 + 2, none⟩ = some (.int .i64 y.n) := h2 2 _ rfl
   have c23 : wr.cell? ⟨by_, oy + k * 4 + 3, none⟩ = some (.int .u8 y.m) := h2 3 _ rfl
   rw [Nat.add_zero] at c10 c20
   have hq := fun W => neq101 x y W
   clear hx hy hcx hcy hlx hly hxx hyy hgx hgy h1 h2
   subst e1 e2
   by_cases hxy : x = y
   ·rw [decide_eq_true hxy] at hq
    have HE : Hid (x = y) := hxy
    clear hxy
    go_wp2_with fail
    go_quiet (fail)
    go_wp2
    go_roundw
    case rel => exact ⟨k + 1, by omega, by go_num, ⟨by rw [take_snocQ HX.out.1, take_snocQ HX.out.2, HT.out.1, HE.out], Chg.drewN HT.out.2 _⟩⟩
    case measure => simp [intOf]; omega
   ·rw [decide_eq_false hxy] at hq
    have HE : Hid (r = false) := by
     show r = false
     rw [HR.out]
     exact decide_eq_false (getQ_ne HX.out.1 HX.out.2 hxy)
    clear hxy
    go_wp2_with fail
    go_quiet (fail)
    go_wp2
    go_ret
    exact ⟨by rw [HE.out]; rfl, Chg.drewN HT.out.2 _⟩
  ·have HE : Hid (r = true) := by
    obtain ⟨hx, hy, hlx, hly⟩ := H.out
    have := HT.out.1
    rw [List.take_of_length_le (by omega), List.take_of_length_le (by omega)] at this
    show r = true
    rw [HR.out]
    exact decide_eq_true this
   go_wp2
   go_ret
   exact ⟨by rw [HE.out]; rfl, HT.out.2⟩
theorem eq87_any (w : World) (N N2 : Nat) (a b : Option Addr) (ca cb : Nat) (xs ys : List Rg) (hx : RdL w N 4 RgAt a xs) (hy : RdL w N2 4 RgAt b ys) :
  Calls Tryz.prog 87 #[.slice a xs.length ca, .slice b ys.length cb] w fun r w' => r = .returned (.bool (decide (xs = ys))) ∧ Kp w w' := by
 by_cases h : xs.length = ys.length
 ·rw [← h]
  exact eq87_same w N N2 a b xs.length ca cb xs ys hx hy rfl h.symm _ rfl
 ·refine (eq87_len w a b _ _ ca cb (by simp; omega)).mono ?_
  rintro r w' ⟨rfl, rfl⟩
  refine ⟨?_, Chg.refl _ _⟩
  have : xs ≠ ys := fun e => h (by rw [e])
  simp [this]


theorem fields65 : Tryz.prog.underlying 65 = some (.struct (Tryz.prog.fieldsOf 65)) := by simp [Program.fieldsOf, Tryz.underlying65]
theorem stood65 : Tryz.prog.stoodInHeld 65 = false := by kernel_rfl
theorem sameWi (x y : Wi) : x = y ↔ x.c = y.c ∧ x.s = y.s ∧ x.l = y.l := by
 constructor
 ·rintro rfl; exact ⟨rfl, rfl, rfl⟩
 ·rintro ⟨h0, h1, h2⟩
  cases x; cases y
  simp_all
theorem neq65 (x y : Wi) (w : World) : (binOp BinOp.neq 65 (.agg #[.int .i64 x.c, .int .u64 x.s, .int .u64 x.l]) (.agg #[.int .i64 y.c, .int .u64 y.s, .int .u64 y.l])).run Tryz.prog w = .ok (.bool (!decide (x = y))) w := by
 rw [run_neq_struct, run_equalIn_agg w 9999 65 _ _ fields65 stood65]
 simp only [sameWi]
 simp [Program.fieldsOf, Tryz.underlying65, go_sem]
 by_cases h0 : x.c = y.c <;> by_cases h1 : x.s = y.s <;> by_cases h2 : x.l = y.l <;> simp [h0, h1, h2]
theorem eq35_len (w : World) (a b : Option Addr) (la lb ca cb : Nat) (h : ((la : Int) != (lb : Int)) = true) :
  Calls Tryz.prog 35 #[.slice a la ca, .slice b lb cb] w fun r w' => r = .returned (.bool false) ∧ w' = w := by
 go_enter Tryz.func35, Tryz.ntmps35
 go_wp2
 go_ret
 exact ⟨rfl, rfl⟩
set_option maxHeartbeats 1000000 in
set_option maxRecDepth 10000 in
theorem eq35_same (w : World) (N N2 : Nat) (a b : Option Addr) (la ca cb : Nat) (xs ys : List Wi) (hx : RdL w N 3 WiAt a xs) (hy : RdL w N2 3 WiAt b ys) (hlx : xs.length = la) (hly : ys.length = la) (r : Bool) (hr : r = decide (xs = ys)) :
  Calls Tryz.prog 35 #[.slice a la ca, .slice b la cb] w fun e w' => e = .returned (.bool r) ∧ Kp w w' := by
 have hl : la ≤ 140737488355328 := by have := hx.1; omega
 have H : Hid (RdL w N 3 WiAt a xs ∧ RdL w N2 3 WiAt b ys ∧ xs.length = la ∧ ys.length = la) := ⟨hx, hy, hlx, hly⟩
 have HR : Hid (r = decide (xs = ys)) := hr
 clear hx hy hlx hly hr
 go_enter Tryz.func35, Tryz.ntmps35
 go_wp2
 go_loopw [13] (fun i wr => ∃ k : Nat, k ≤ la ∧ i = .int .i64 k ∧ Hid (xs.take k = ys.take k ∧ Kp w wr)) (fun i _ => la - (intOf i).toNat)
 case atStart => exact ⟨0, by omega, rfl, ⟨rfl, Chg.refl _ _⟩⟩
 case round =>
  obtain ⟨k, hk, rfl, HT⟩ := hrel
  by_cases hlt : k < la
  ·obtain ⟨hx, hy, hlx, hly⟩ := H.out
   obtain ⟨bx, ox, e1, _, hcx⟩ := hx.2.resolve_left (by omega)
   obtain ⟨by_, oy, e2, _, hcy⟩ := hy.2.resolve_left (by omega)
   have h1 : At wr bx (ox + k * 3) (xs[k]'(by omega)).cells := (hcx k (by omega)).1.kp HT.out.2
   have h2 : At wr by_ (oy + k * 3) (ys[k]'(by omega)).cells := (hcy k (by omega)).1.kp HT.out.2
   have hgx : xs[k]? = some (xs[k]'(by omega)) := List.getElem?_eq_getElem (by omega)
   have hgy : ys[k]? = some (ys[k]'(by omega)) := List.getElem?_eq_getElem (by omega)
   obtain ⟨x, hxx⟩ : ∃ x, x = xs[k]'(by omega) := ⟨_, rfl⟩
   obtain ⟨y, hyy⟩ : ∃ y, y = ys[k]'(by omega) := ⟨_, rfl⟩
   rw [← hxx] at h1 hgx
   rw [← hyy] at h2 hgy
   have HX : Hid (xs[k]? = some x ∧ ys[k]? = some y) := ⟨hgx, hgy⟩
   have c10 : wr.cell? ⟨bx, ox + k * 3 + 0, none⟩ = some (.int .i64 x.c) := h1 0 _ rfl
   have c11 : wr.cell? ⟨bx, ox + k * 3 + 1, none⟩ = some (.int .u64 x.s) := h1 1 _ rfl
   have c12 : wr.cell? ⟨bx, ox + k * 3 + 2, none⟩ = some (.int .u64 x.l) := h1 2 _ rfl
   have c20 : wr.cell? ⟨by_, oy + k * 3 + 0, none⟩ = some (.int .i64 y.c) := h2 0 _ rfl
   have c21 : wr.cell? ⟨by_, oy + k * 3 + 1, none⟩ = some (.int .u64 y.s) := h2 1 _ rfl
   have c22 : wr.cell? ⟨by_, oy + k * 3 + 2, none⟩ = some (.int .u64 y.l) := h2 2 _ rfl
   rw [Nat.add_zero] at c10 c20
   have hq := fun W => neq65 x y W
   clear hx hy hcx hcy hlx hly hxx hyy hgx hgy h1 h2
   subst e1 e2
   by_cases hxy : x = y
   ·rw [decide_eq_true hxy] at hq
    have HE : Hid (x = y) := hxy
    clear hxy
    go_wp2_with fail
    go_quiet (fail)
    go_wp2
    go_roundw
    case rel => exact ⟨k + 1, by omega, by go_num, ⟨by rw [take_snocQ HX.out.1, take_snocQ HX.out.2, HT.out.1, HE.out], Chg.drewN HT.out.2 _⟩⟩
    case measure => simp [intOf]; omega
   ·rw [decide_eq_false hxy] at hq
    have HE : Hid (r = false) := by
     show r = false
     rw [HR.out]
     exact decide_eq_false (getQ_ne HX.out.1 HX.out.2 hxy)
    clear hxy
    go_wp2_with fail
    go_quiet (fail)
    go_wp2
    go_ret
    exact ⟨by rw [HE.out]; rfl, Chg.drewN HT.out.2 _⟩
  ·have HE : Hid (r = true) := by
    obtain ⟨hx, hy, hlx, hly⟩ := H.out
    have := HT.out.1
    rw [List.take_of_length_le (by omega), List.take_of_length_le (by omega)] at this
    show r = true
    rw [HR.out]
    exact decide_eq_true this
   go_wp2
   go_ret
   exact ⟨by rw [HE.out]; rfl, HT.out.2⟩
theorem eq35_any (w : World) (N N2 : Nat) (a b : Option Addr) (ca cb : Nat) (xs ys : List Wi) (hx : RdL w N 3 WiAt a xs) (hy : RdL w N2 3 WiAt b ys) :
  Calls Tryz.prog 35 #[.slice a xs.length ca, .slice b ys.length cb] w fun r w' => r = .returned (.bool (decide (xs = ys))) ∧ Kp w w' := by
 by_cases h : xs.length = ys.length
 ·rw [← h]
  exact eq35_same w N N2 a b xs.length ca cb xs ys hx hy rfl h.symm _ rfl
 ·refine (eq35_len w a b _ _ ca cb (by simp; omega)).mono ?_
  rintro r w' ⟨rfl, rfl⟩
  refine ⟨?_, Chg.refl _ _⟩
  have : xs ≠ ys := fun e => h (by rw [e])
  simp [this]


theorem fields98 : Tryz.prog.underlying 98 = some (.struct (Tryz.prog.fieldsOf 98)) := by simp [Program.fieldsOf, Tryz.underlying98]
theorem stood98 : Tryz.prog.stoodInHeld 98 = false := by kernel_rfl
theorem sameQu (x y : Qu) : x = y ↔ x.w = y.w ∧ x.r = y.r ∧ x.s = y.s ∧ x.d = y.d ∧ x.q = y.q ∧ x.f = y.f := by
 constructor
 ·rintro rfl; exact ⟨rfl, rfl, rfl, rfl, rfl, rfl⟩
 ·rintro ⟨h0, h1, h2, h3, h4, h5⟩
  cases x; cases y
  simp_all
theorem neq98 (x y : Qu) (w : World) : (binOp BinOp.neq 98 (.agg #[.int .i64 x.w, .int .i64 x.r, .int .i64 x.s, .int .i64 x.d, .int .i64 x.q, .bool x.f]) (.agg #[.int .i64 y.w, .int .i64 y.r, .int .i64 y.s, .int .i64 y.d, .int .i64 y.q, .bool y.f])).run Tryz.prog w = .ok (.bool (!decide (x = y))) w := by
 rw [run_neq_struct, run_equalIn_agg w 9999 98 _ _ fields98 stood98]
 simp only [sameQu]
 simp [Program.fieldsOf, Tryz.underlying98, go_sem]
 by_cases h0 : x.w = y.w <;> by_cases h1 : x.r = y.r <;> by_cases h2 : x.s = y.s <;> by_cases h3 : x.d = y.d <;> by_cases h4 : x.q = y.q <;> by_cases h5 : x.f = y.f <;> simp [h0, h1, h2, h3, h4, h5]
theorem eq38_len (w : World) (a b : Option Addr) (la lb ca cb : Nat) (h : ((la : Int) != (lb : Int)) = true) :
  Calls Tryz.prog 38 #[.slice a la ca, .slice b lb cb] w fun r w' => r = .returned (.bool false) ∧ w' = w := by
 go_enter Tryz.func38, Tryz.ntmps38
 go_wp2
 go_ret
 exact ⟨rfl, rfl⟩
set_option maxHeartbeats 1000000 in
set_option maxRecDepth 10000 in
theorem eq38_same (w : World) (N N2 : Nat) (a b : Option Addr) (la ca cb : Nat) (xs ys : List Qu) (hx : RdL w N 6 QuAt a xs) (hy : RdL w N2 6 QuAt b ys) (hlx : xs.length = la) (hly : ys.length = la) (r : Bool) (hr : r = decide (xs = ys)) :
  Calls Tryz.prog 38 #[.slice a la ca, .slice b la cb] w fun e w' => e = .returned (.bool r) ∧ Kp w w' := by
 have hl : la ≤ 140737488355328 := by have := hx.1; omega
 have H : Hid (RdL w N 6 QuAt a xs ∧ RdL w N2 6 QuAt b ys ∧ xs.length = la ∧ ys.length = la) := ⟨hx, hy, hlx, hly⟩
 have HR : Hid (r = decide (xs = ys)) := hr
 clear hx hy hlx hly hr
 go_enter Tryz.func38, Tryz.ntmps38
 go_wp2
 go_loopw [13] (fun i wr => ∃ k : Nat, k ≤ la ∧ i = .int .i64 k ∧ Hid (xs.take k = ys.take k ∧ Kp w wr)) (fun i _ => la - (intOf i).toNat)
 case atStart => exact ⟨0, by omega, rfl, ⟨rfl, Chg.refl _ _⟩⟩
 case round =>
  obtain ⟨k, hk, rfl, HT⟩ := hrel
  by_cases hlt : k < la
  ·obtain ⟨hx, hy, hlx, hly⟩ := H.out
   obtain ⟨bx, ox, e1, _, hcx⟩ := hx.2.resolve_left (by omega)
   obtain ⟨by_, oy, e2, _, hcy⟩ := hy.2.resolve_left (by omega)
   have h1 : At wr bx (ox + k * 6) (xs[k]'(by omega)).cells := (hcx k (by omega)).1.kp HT.out.2
   have h2 : At wr by_ (oy + k * 6) (ys[k]'(by omega)).cells := (hcy k (by omega)).1.kp HT.out.2
   have hgx : xs[k]? = some (xs[k]'(by omega)) := List.getElem?_eq_getElem (by omega)
   have hgy : ys[k]? = some (ys[k]'(by omega)) := List.getElem?_eq_getElem (by omega)
   obtain ⟨x, hxx⟩ : ∃ x, x = xs[k]'(by omega) := ⟨_, rfl⟩
   obtain ⟨y, hyy⟩ : ∃ y, y = ys[k]'(by omega) := ⟨_, rfl⟩
   rw [← hxx] at h1 hgx
   rw [← hyy] at h2 hgy
   have HX : Hid (xs[k]? = some x ∧ ys[k]? = some y) := ⟨hgx, hgy⟩
   have c10 : wr.cell? ⟨bx, ox + k * 6 + 0, none⟩ = some (.int .i64 x.w) := h1 0 _ rfl
   have c11 : wr.cell? ⟨bx, ox + k * 6 + 1, none⟩ = some (.int .i64 x.r) := h1 1 _ rfl
   have c12 : wr.cell? ⟨bx, ox + k * 6 + 2, none⟩ = some (.int .i64 x.s) := h1 2 _ rfl
   have c13 : wr.cell? ⟨bx, ox + k * 6 + 3, none⟩ = some (.int .i64 x.d) := h1 3 _ rfl
   have c14 : wr.cell? ⟨bx, ox + k * 6 + 4, none⟩ = some (.int .i64 x.q) := h1 4 _ rfl
   have c15 : wr.cell? ⟨bx, ox + k * 6 + 5, none⟩ = some (.bool x.f) := h1 5 _ rfl
   have c20 : wr.cell? ⟨by_, oy + k * 6 + 0, none⟩ = some (.int .i64 y.w) := h2 0 _ rfl
   have c21 : wr.cell? ⟨by_, oy + k * 6 + 1, none⟩ = some (.int .i64 y.r) := h2 1 _ rfl
   have c22 : wr.cell? ⟨by_, oy + k * 6 + 2, none⟩ = some (.int .i64 y.s) := h2 2 _ rfl
   have c23 : wr.cell? ⟨by_, oy + k * 6 + 3, none⟩ = some (.int .i64 y.d) := h2 3 _ rfl
   have c24 : wr.cell? ⟨by_, oy + k * 6 + 4, none⟩ = some (.int .i64 y.q) := h2 4 _ rfl
   have c25 : wr.cell? ⟨by_, oy + k * 6 + 5, none⟩ = some (.bool y.f) := h2 5 _ rfl
   rw [Nat.add_zero] at c10 c20
   have hq := fun W => neq98 x y W
   clear hx hy hcx hcy hlx hly hxx hyy hgx hgy h1 h2
   subst e1 e2
   by_cases hxy : x = y
   ·rw [decide_eq_true hxy] at hq
    have HE : Hid (x = y) := hxy
    clear hxy
    go_wp2_with fail
    go_quiet (fail)
    go_wp2
    go_roundw
    case rel => exact ⟨k + 1, by omega, by go_num, ⟨by rw [take_snocQ HX.out.1, take_snocQ HX.out.2, HT.out.1, HE.out], Chg.drewN HT.out.2 _⟩⟩
    case measure => simp [intOf]; omega
   ·rw [decide_eq_false hxy] at hq
    have HE : Hid (r = false) := by
     show r = false
     rw [HR.out]
     exact decide_eq_false (getQ_ne HX.out.1 HX.out.2 hxy)
    clear hxy
    go_wp2_with fail
    go_quiet (fail)
    go_wp2
    go_ret
    exact ⟨by rw [HE.out]; rfl, Chg.drewN HT.out.2 _⟩
  ·have HE : Hid (r = true) := by
    obtain ⟨hx, hy, hlx, hly⟩ := H.out
    have := HT.out.1
    rw [List.take_of_length_le (by omega), List.take_of_length_le (by omega)] at this
    show r = true
    rw [HR.out]
    exact decide_eq_true this
   go_wp2
   go_ret
   exact ⟨by rw [HE.out]; rfl, HT.out.2⟩
theorem eq38_any (w : World) (N N2 : Nat) (a b : Option Addr) (ca cb : Nat) (xs ys : List Qu) (hx : RdL w N 6 QuAt a xs) (hy : RdL w N2 6 QuAt b ys) :
  Calls Tryz.prog 38 #[.slice a xs.length ca, .slice b ys.length cb] w fun r w' => r = .returned (.bool (decide (xs = ys))) ∧ Kp w w' := by
 by_cases h : xs.length = ys.length
 ·rw [← h]
  exact eq38_same w N N2 a b xs.length ca cb xs ys hx hy rfl h.symm _ rfl
 ·refine (eq38_len w a b _ _ ca cb (by simp; omega)).mono ?_
  rintro r w' ⟨rfl, rfl⟩
  refine ⟨?_, Chg.refl _ _⟩
  have : xs ≠ ys := fun e => h (by rw [e])
  simp [this]

end Go.Proofs.YtknlpjcdemijgaaGreat
namespace Go.Proofs.YtknlpjcdemijgaaGreat
open Go.ChangeShapes Go.WideShapes Go.ChangeAt Go.RowKit
set_option linter.unusedVariables false
deriving instance DecidableEq for Sa
deriving instance DecidableEq for Ce
deriving instance DecidableEq for Mc
deriving instance DecidableEq for Cf
def saV (x : Sa) (la : Option Addr) (lc : Nat) : Value := .agg #[.int .i64 x.w, .int .i64 x.s, .slice la x.rs.length lc]
def ceV (x : Ce) (ra : Option Addr) (rc : Nat) (la : Option Addr) (lc : Nat) : Value := .agg #[.string x.nm, .int .u32 x.e, .slice ra x.rs.length rc, .slice la x.ls.length lc]
theorem sameSa (x y : Sa) : x = y ↔ x.w = y.w ∧ x.s = y.s ∧ x.rs = y.rs := by
 constructor
 ·rintro rfl; exact ⟨rfl, rfl, rfl⟩
 ·rintro ⟨h1, h2, h3⟩; cases x; cases y; simp_all
theorem sameCe (x y : Ce) : x = y ↔ x.nm = y.nm ∧ x.e = y.e ∧ x.rs = y.rs ∧ x.ls = y.ls := by
 constructor
 ·rintro rfl; exact ⟨rfl, rfl, rfl, rfl⟩
 ·rintro ⟨h1, h2, h3, h4⟩; cases x; cases y; simp_all
set_option maxHeartbeats 1000000 in
set_option maxRecDepth 10000 in
theorem sameSa_any (w : World) (N N2 : Nat) (x y : Sa) (xa ya : Option Addr) (xc yc : Nat) (hx : RdI w N xa x.rs) (hy : RdI w N2 ya y.rs) :
  Calls Tryz.prog 37 #[saV x xa xc, saV y ya yc] w fun r w' => r = .returned (.bool (decide (x = y))) ∧ Kp w w' := by
 have k0 : Kp w ((w.alloc (.cells #[.int .i64 x.w, .int .i64 x.s, .slice xa x.rs.length xc] 94)).alloc (.cells #[.int .i64 y.w, .int .i64 y.s, .slice ya y.rs.length yc] 94)) := Kp.trans (Kp.al _ _) (Kp.al _ _)
 have A1 := eq88_any _ N N2 xa ya xc yc x.rs y.rs (hx.kp k0) (hy.kp k0)
 have HK : Hid (Kp w ((w.alloc (.cells #[.int .i64 x.w, .int .i64 x.s, .slice xa x.rs.length xc] 94)).alloc (.cells #[.int .i64 y.w, .int .i64 y.s, .slice ya y.rs.length yc] 94))) := k0
 have HE : Hid (x = y ↔ x.w = y.w ∧ x.s = y.s ∧ x.rs = y.rs) := sameSa x y
 clear hx hy k0
 obtain ⟨rv, hrv⟩ : ∃ rv, rv = decide (x = y) := ⟨_, rfl⟩
 rw [← hrv]
 have HV : Hid (rv = decide (x = y)) := hrv
 clear hrv
 unfold saV
 by_cases h1 : x.w = y.w
 ·have h1z : (x.w == y.w) = true := by simpa using h1
  by_cases h2 : x.s = y.s
  ·have h2z : (x.s == y.s) = true := by simpa using h2
   have HS : Hid (rv = sameB x.rs y.rs) := by
    show rv = _
    rw [HV.out]
    unfold sameB
    simp [HE.out, h1, h2]
   clear h1 h2
   go_enter Tryz.func37, Tryz.ntmps37
   go_wp2_with fail
   go_at_call 88
   refine A1.mono ?_
   rintro e w1 ⟨rfl, k1⟩
   have HK1 : Hid (Kp w w1) := Kp.trans HK.out k1
   clear A1 k1
   go_wp2
   go_ret
   exact ⟨by rw [HS.out]; rfl, HK1.out⟩
  ·have h2z : (x.s == y.s) = false := by simpa using h2
   have HS : Hid (rv = false) := by
    show rv = _
    rw [HV.out]
    simp [HE.out, h2]
   clear h1 h2 A1
   go_enter Tryz.func37, Tryz.ntmps37
   go_wp2
   go_ret
   exact ⟨by rw [HS.out]; rfl, HK.out⟩
 ·have h1z : (x.w == y.w) = false := by simpa using h1
  have HS : Hid (rv = false) := by
   show rv = _
   rw [HV.out]
   simp [HE.out, h1]
  clear h1 A1
  go_enter Tryz.func37, Tryz.ntmps37
  go_wp2
  go_ret
  exact ⟨by rw [HS.out]; rfl, HK.out⟩

theorem RgAts.kp {w wi : World} {N : Nat} {la : Option Addr} {xs : List Rg} (h : RdL w N 4 RgAt la xs) (k : Kp w wi) : RdL wi N 4 RgAt la xs := h.mono fun b o y _ p => ⟨p.1.kp k, p.2⟩
set_option maxHeartbeats 1000000 in
set_option maxRecDepth 10000 in
theorem sameCe_any (w : World) (N N2 : Nat) (x y : Ce) (xa ya xb yb : Option Addr) (xc yc xd yd : Nat) (hx : RdL w N 4 RgAt xa x.rs) (hy : RdL w N2 4 RgAt ya y.rs) (hx2 : RdI w N xb x.ls) (hy2 : RdI w N2 yb y.ls) :
  Calls Tryz.prog 34 #[ceV x xa xc xb xd, ceV y ya yc yb yd] w fun r w' => r = .returned (.bool (decide (x = y))) ∧ Kp w w' := by
 obtain ⟨w0, hw0⟩ : ∃ w0, w0 = ((w.alloc (.cells #[.string x.nm, .int .u32 x.e, .slice xa x.rs.length xc, .slice xb x.ls.length xd] 89)).alloc (.cells #[.string y.nm, .int .u32 y.e, .slice ya y.rs.length yc, .slice yb y.ls.length yd] 89)) := ⟨_, rfl⟩
 have k0 : Kp w w0 := by rw [hw0]; exact Kp.trans (Kp.al _ _) (Kp.al _ _)
 have g0 : w0.heap[w.heap.size]? = some (.cells #[.string x.nm, .int .u32 x.e, .slice xa x.rs.length xc, .slice xb x.ls.length xd] 89 (0, 0)) := by
  rw [hw0]
  exact (Kp.al _ _).heap (heap_alloc_new w _)
 have g1 : w0.heap[w.heap.size + 1]? = some (.cells #[.string y.nm, .int .u32 y.e, .slice ya y.rs.length yc, .slice yb y.ls.length yd] 89 (0, 0)) := by
  rw [hw0]
  have := heap_alloc_new (w.alloc (.cells #[.string x.nm, .int .u32 x.e, .slice xa x.rs.length xc, .slice xb x.ls.length xd] 89)) (.cells #[.string y.nm, .int .u32 y.e, .slice ya y.rs.length yc, .slice yb y.ls.length yd] 89)
  simpa using this
 have A1 := eq87_any w0 N N2 xa ya xc yc x.rs y.rs (RgAts.kp hx k0) (RgAts.kp hy k0)
 have A2 : ∀ wz, Kp w0 wz → _ := fun wz kz => eq88_any wz N N2 xb yb xd yd x.ls y.ls (hx2.kp (Kp.trans k0 kz)) (hy2.kp (Kp.trans k0 kz))
 have HK : Hid (Kp w w0) := k0
 have HE : Hid (x = y ↔ x.nm = y.nm ∧ x.e = y.e ∧ x.rs = y.rs ∧ x.ls = y.ls) := sameCe x y
 clear hx hy hx2 hy2 k0
 obtain ⟨rv, hrv⟩ : ∃ rv, rv = decide (x = y) := ⟨_, rfl⟩
 rw [← hrv]
 have HV : Hid (rv = decide (x = y)) := hrv
 clear hrv
 unfold ceV
 by_cases h1 : x.nm = y.nm
 ·have h1z : (x.nm.toList == y.nm.toList) = true := (beqS _ _).2 h1
  by_cases h2 : x.e = y.e
  ·have h2z : (x.e == y.e) = true := by simpa using h2
   by_cases h3 : x.rs = y.rs
   ·have HS : Hid (rv = sameB x.ls y.ls) := by
     show rv = _
     rw [HV.out]
     unfold sameB
     simp [HE.out, h1, h2, h3]
    rw [decide_eq_true h3] at A1
    have A1' := A1.mono (R' := fun e w1 => e = .returned (.bool true) ∧ Kp w0 w1 ∧ w1.cell? ⟨w.heap.size, 3, none⟩ = some (.slice xb x.ls.length xd) ∧ w1.cell? ⟨w.heap.size + 1, 3, none⟩ = some (.slice yb y.ls.length yd)) (fun r w' ⟨e, q⟩ => ⟨e, q, by simp [World.cell?, q.heap g0], by simp [World.cell?, q.heap g1]⟩)
    clear h1 h2 h3 A1 g0 g1
    subst hw0
    go_enter Tryz.func34, Tryz.ntmps34
    go_wp2_with fail
    go_at_call 87
    refine A1'.mono ?_
    rintro e w1 ⟨rfl, k1, g0, g1⟩
    have A3 := A2 w1 k1
    have HK1 : Hid (Kp w w1) := Kp.trans HK.out k1
    clear A1' A2 k1
    go_wp2_with fail
    go_at_call 88
    refine A3.mono ?_
    rintro e w2 ⟨rfl, k2⟩
    have HK2 : Hid (Kp w w2) := Kp.trans HK1.out k2
    clear A3 k2
    go_wp2
    go_ret
    exact ⟨by rw [HS.out]; rfl, HK2.out⟩
   ·have HS : Hid (rv = false) := by
     show rv = _
     rw [HV.out]
     simp [HE.out, h3]
    rw [decide_eq_false h3] at A1
    clear h1 h2 h3 A2 g0 g1
    subst hw0
    go_enter Tryz.func34, Tryz.ntmps34
    go_wp2_with fail
    go_at_call 87
    refine A1.mono ?_
    rintro e w1 ⟨rfl, k1⟩
    have HK1 : Hid (Kp w w1) := Kp.trans HK.out k1
    clear A1 k1
    go_wp2
    go_ret
    exact ⟨by rw [HS.out]; rfl, HK1.out⟩
  ·have h2z : (x.e == y.e) = false := by simpa using h2
   have HS : Hid (rv = false) := by
    show rv = _
    rw [HV.out]
    simp [HE.out, h2]
   clear h1 h2 A1 A2 g0 g1
   subst hw0
   go_enter Tryz.func34, Tryz.ntmps34
   go_wp2
   go_ret
   exact ⟨by rw [HS.out]; rfl, HK.out⟩
 ·have h1z : (x.nm.toList == y.nm.toList) = false := by
   cases hc : (x.nm.toList == y.nm.toList) with
   | false => rfl
   | true => exact absurd ((beqS _ _).1 hc) h1
  have HS : Hid (rv = false) := by
   show rv = _
   rw [HV.out]
   simp [HE.out, h1]
  clear h1 A1 A2 g0 g1
  subst hw0
  go_enter Tryz.func34, Tryz.ntmps34
  go_wp2
  go_ret
  exact ⟨by rw [HS.out]; rfl, HK.out⟩
end Go.Proofs.YtknlpjcdemijgaaGreat
namespace Go.Proofs.YtknlpjcdemijgaaGreat
open Go.ChangeShapes Go.WideShapes Go.ChangeAt Go.RowKit
set_option linter.unusedVariables false


theorem eq36_len (w : World) (a b : Option Addr) (la lb ca cb : Nat) (u : Value) (h : ((la : Int) != (lb : Int)) = true) :
  Calls Tryz.prog 36 #[.slice a la ca, .slice b lb cb, u] w fun r w' => r = .returned (.bool false) ∧ w' = w := by
 go_enter Tryz.func36, Tryz.ntmps36
 go_wp2
 go_ret
 exact ⟨rfl, rfl⟩
set_option maxHeartbeats 1000000 in
set_option maxRecDepth 10000 in
theorem eq36_same (w : World) (N N2 : Nat) (a b : Option Addr) (la ca cb : Nat) (xs ys : List Sa) (hx : RdL w N 3 (SaAt N) a xs) (hy : RdL w N2 3 (SaAt N2) b ys) (hlx : xs.length = la) (hly : ys.length = la) (r : Bool) (hr : r = decide (xs = ys)) :
  Calls Tryz.prog 36 #[.slice a la ca, .slice b la cb, .func (.func 37) #[] #[]] w fun e w' => e = .returned (.bool r) ∧ Kp w w' := by
 have hl : la ≤ 140737488355328 := by have := hx.1; omega
 have H : Hid (RdL w N 3 (SaAt N) a xs ∧ RdL w N2 3 (SaAt N2) b ys ∧ xs.length = la ∧ ys.length = la) := ⟨hx, hy, hlx, hly⟩
 have HR : Hid (r = decide (xs = ys)) := hr
 clear hx hy hlx hly hr
 go_enter Tryz.func36, Tryz.ntmps36
 go_wp2
 go_loopw [17] (fun i wr => ∃ k : Nat, k ≤ la ∧ i = .int .i64 k ∧ Hid (xs.take k = ys.take k ∧ Kp w wr)) (fun i _ => la - (intOf i).toNat)
 case atStart => exact ⟨0, by omega, rfl, ⟨rfl, Chg.refl _ _⟩⟩
 case round =>
  obtain ⟨k, hk, rfl, HT⟩ := hrel
  by_cases hlt : k < la
  ·obtain ⟨hx, hy, hlx, hly⟩ := H.out
   obtain ⟨bx, ox, e1, _, hcx⟩ := hx.2.resolve_left (by omega)
   obtain ⟨by_, oy, e2, _, hcy⟩ := hy.2.resolve_left (by omega)
   obtain ⟨x, hgx⟩ : ∃ x, xs[k]? = some x := ⟨_, List.getElem?_eq_getElem (by omega)⟩
   obtain ⟨y, hgy⟩ : ∃ y, ys[k]? = some y := ⟨_, List.getElem?_eq_getElem (by omega)⟩
   have hox : SaAt N w bx (ox + k * 3) x := by
    obtain ⟨h1, e⟩ := List.getElem?_eq_some_iff.1 hgx
    have := hcx k h1
    rw [e] at this
    exact this
   have hoy : SaAt N2 w by_ (oy + k * 3) y := by
    obtain ⟨h1, e⟩ := List.getElem?_eq_some_iff.1 hgy
    have := hcy k h1
    rw [e] at this
    exact this
   obtain ⟨_, _, xa, xc, h1, q1⟩ := hox
   obtain ⟨_, _, ya, yc, h2, q2⟩ := hoy
   clear hx hy hcx hcy hlx hly
   have HX : Hid (xs[k]? = some x ∧ ys[k]? = some y) := ⟨hgx, hgy⟩
   have c10 : wr.cell? ⟨bx, ox + k * 3 + 0, none⟩ = some (.int .i64 x.w) := HT.out.2.cell (h1 0 _ rfl)
   have c11 : wr.cell? ⟨bx, ox + k * 3 + 1, none⟩ = some (.int .i64 x.s) := HT.out.2.cell (h1 1 _ rfl)
   have c12 : wr.cell? ⟨bx, ox + k * 3 + 2, none⟩ = some (.slice xa x.rs.length xc) := HT.out.2.cell (h1 2 _ rfl)
   have c20 : wr.cell? ⟨by_, oy + k * 3 + 0, none⟩ = some (.int .i64 y.w) := HT.out.2.cell (h2 0 _ rfl)
   have c21 : wr.cell? ⟨by_, oy + k * 3 + 1, none⟩ = some (.int .i64 y.s) := HT.out.2.cell (h2 1 _ rfl)
   have c22 : wr.cell? ⟨by_, oy + k * 3 + 2, none⟩ = some (.slice ya y.rs.length yc) := HT.out.2.cell (h2 2 _ rfl)
   rw [Nat.add_zero] at c10 c20
   have A1 : ∀ wz, Kp wr wz → Calls Tryz.prog 37 #[saV x xa xc, saV y ya yc] wz fun r w' => r = .returned (.bool (decide (x = y))) ∧ Kp wz w' := fun wz kz => sameSa_any wz N N2 x y xa ya xc yc ((q1.kp HT.out.2).kp kz) ((q2.kp HT.out.2).kp kz)
   unfold saV at A1
   clear hgx hgy h1 h2
   subst e1 e2
   have d0 := (Kp.al wr (.cells #[.int .i64 x.w, .int .i64 x.s, .slice xa x.rs.length xc] 94)).cell c20
   have d1 := (Kp.al wr (.cells #[.int .i64 x.w, .int .i64 x.s, .slice xa x.rs.length xc] 94)).cell c21
   have d2 := (Kp.al wr (.cells #[.int .i64 x.w, .int .i64 x.s, .slice xa x.rs.length xc] 94)).cell c22
   have kz : Kp wr ((wr.alloc (.cells #[.int .i64 x.w, .int .i64 x.s, .slice xa x.rs.length xc] 94)).alloc (.cells #[.int .i64 y.w, .int .i64 y.s, .slice ya y.rs.length yc] 94)) := Kp.trans (Kp.al _ _) (Kp.al _ _)
   have A2 := A1 _ kz
   have HZ : Hid (Kp w ((wr.alloc (.cells #[.int .i64 x.w, .int .i64 x.s, .slice xa x.rs.length xc] 94)).alloc (.cells #[.int .i64 y.w, .int .i64 y.s, .slice ya y.rs.length yc] 94))) := Kp.trans HT.out.2 kz
   clear A1 kz
   by_cases hxy : x = y
   ·rw [decide_eq_true hxy] at A2
    have HE : Hid (x = y) := hxy
    clear hxy
    go_wp2_with fail
    go_at_call 37
    refine A2.mono ?_
    rintro e w1 ⟨rfl, k1⟩
    have HK1 : Hid (Kp w w1) := Kp.trans HZ.out k1
    clear A2 k1
    go_wp2
    go_roundw
    case rel => exact ⟨k + 1, by omega, by go_num, ⟨by rw [take_snocQ HX.out.1, take_snocQ HX.out.2, HT.out.1, HE.out], HK1.out⟩⟩
    case measure => simp [intOf]; omega
   ·rw [decide_eq_false hxy] at A2
    have HE : Hid (r = false) := by
     show r = false
     rw [HR.out]
     exact decide_eq_false (getQ_ne HX.out.1 HX.out.2 hxy)
    clear hxy
    go_wp2_with fail
    go_at_call 37
    refine A2.mono ?_
    rintro e w1 ⟨rfl, k1⟩
    have HK1 : Hid (Kp w w1) := Kp.trans HZ.out k1
    clear A2 k1
    go_wp2
    go_ret
    exact ⟨by rw [HE.out]; rfl, HK1.out⟩
  ·have HE : Hid (r = true) := by
    obtain ⟨hx, hy, hlx, hly⟩ := H.out
    have := HT.out.1
    rw [List.take_of_length_le (by omega), List.take_of_length_le (by omega)] at this
    show r = true
    rw [HR.out]
    exact decide_eq_true this
   go_wp2
   go_ret
   exact ⟨by rw [HE.out]; rfl, HT.out.2⟩
theorem eq36_any (w : World) (N N2 : Nat) (a b : Option Addr) (ca cb : Nat) (xs ys : List Sa) (hx : RdL w N 3 (SaAt N) a xs) (hy : RdL w N2 3 (SaAt N2) b ys) :
  Calls Tryz.prog 36 #[.slice a xs.length ca, .slice b ys.length cb, .func (.func 37) #[] #[]] w fun r w' => r = .returned (.bool (decide (xs = ys))) ∧ Kp w w' := by
 by_cases h : xs.length = ys.length
 ·rw [← h]
  exact eq36_same w N N2 a b xs.length ca cb xs ys hx hy rfl h.symm _ rfl
 ·refine (eq36_len w a b _ _ ca cb _ (by simp; omega)).mono ?_
  rintro r w' ⟨rfl, rfl⟩
  refine ⟨?_, Chg.refl _ _⟩
  have : xs ≠ ys := fun e => h (by rw [e])
  simp [this]


theorem eq33_len (w : World) (a b : Option Addr) (la lb ca cb : Nat) (u : Value) (h : ((la : Int) != (lb : Int)) = true) :
  Calls Tryz.prog 33 #[.slice a la ca, .slice b lb cb, u] w fun r w' => r = .returned (.bool false) ∧ w' = w := by
 go_enter Tryz.func33, Tryz.ntmps33
 go_wp2
 go_ret
 exact ⟨rfl, rfl⟩
set_option maxHeartbeats 1000000 in
set_option maxRecDepth 10000 in
theorem eq33_same (w : World) (N N2 : Nat) (a b : Option Addr) (la ca cb : Nat) (xs ys : List Ce) (hx : RdL w N 4 (CeAt N) a xs) (hy : RdL w N2 4 (CeAt N2) b ys) (hlx : xs.length = la) (hly : ys.length = la) (r : Bool) (hr : r = decide (xs = ys)) :
  Calls Tryz.prog 33 #[.slice a la ca, .slice b la cb, .func (.func 34) #[] #[]] w fun e w' => e = .returned (.bool r) ∧ Kp w w' := by
 have hl : la ≤ 140737488355328 := by have := hx.1; omega
 have H : Hid (RdL w N 4 (CeAt N) a xs ∧ RdL w N2 4 (CeAt N2) b ys ∧ xs.length = la ∧ ys.length = la) := ⟨hx, hy, hlx, hly⟩
 have HR : Hid (r = decide (xs = ys)) := hr
 clear hx hy hlx hly hr
 go_enter Tryz.func33, Tryz.ntmps33
 go_wp2
 go_loopw [17] (fun i wr => ∃ k : Nat, k ≤ la ∧ i = .int .i64 k ∧ Hid (xs.take k = ys.take k ∧ Kp w wr)) (fun i _ => la - (intOf i).toNat)
 case atStart => exact ⟨0, by omega, rfl, ⟨rfl, Chg.refl _ _⟩⟩
 case round =>
  obtain ⟨k, hk, rfl, HT⟩ := hrel
  by_cases hlt : k < la
  ·obtain ⟨hx, hy, hlx, hly⟩ := H.out
   obtain ⟨bx, ox, e1, _, hcx⟩ := hx.2.resolve_left (by omega)
   obtain ⟨by_, oy, e2, _, hcy⟩ := hy.2.resolve_left (by omega)
   obtain ⟨x, hgx⟩ : ∃ x, xs[k]? = some x := ⟨_, List.getElem?_eq_getElem (by omega)⟩
   obtain ⟨y, hgy⟩ : ∃ y, ys[k]? = some y := ⟨_, List.getElem?_eq_getElem (by omega)⟩
   have hox : CeAt N w bx (ox + k * 4) x := by
    obtain ⟨h1, e⟩ := List.getElem?_eq_some_iff.1 hgx
    have := hcx k h1
    rw [e] at this
    exact this
   have hoy : CeAt N2 w by_ (oy + k * 4) y := by
    obtain ⟨h1, e⟩ := List.getElem?_eq_some_iff.1 hgy
    have := hcy k h1
    rw [e] at this
    exact this
   obtain ⟨_, _, xa, xc, xb, xd, h1, r1, q1⟩ := hox
   obtain ⟨_, _, ya, yc, yb, yd, h2, r2, q2⟩ := hoy
   clear hx hy hcx hcy hlx hly
   have HX : Hid (xs[k]? = some x ∧ ys[k]? = some y) := ⟨hgx, hgy⟩
   have c10 : wr.cell? ⟨bx, ox + k * 4 + 0, none⟩ = some (.string x.nm) := HT.out.2.cell (h1 0 _ rfl)
   have c11 : wr.cell? ⟨bx, ox + k * 4 + 1, none⟩ = some (.int .u32 x.e) := HT.out.2.cell (h1 1 _ rfl)
   have c12 : wr.cell? ⟨bx, ox + k * 4 + 2, none⟩ = some (.slice xa x.rs.length xc) := HT.out.2.cell (h1 2 _ rfl)
   have c13 : wr.cell? ⟨bx, ox + k * 4 + 3, none⟩ = some (.slice xb x.ls.length xd) := HT.out.2.cell (h1 3 _ rfl)
   have c20 : wr.cell? ⟨by_, oy + k * 4 + 0, none⟩ = some (.string y.nm) := HT.out.2.cell (h2 0 _ rfl)
   have c21 : wr.cell? ⟨by_, oy + k * 4 + 1, none⟩ = some (.int .u32 y.e) := HT.out.2.cell (h2 1 _ rfl)
   have c22 : wr.cell? ⟨by_, oy + k * 4 + 2, none⟩ = some (.slice ya y.rs.length yc) := HT.out.2.cell (h2 2 _ rfl)
   have c23 : wr.cell? ⟨by_, oy + k * 4 + 3, none⟩ = some (.slice yb y.ls.length yd) := HT.out.2.cell (h2 3 _ rfl)
   rw [Nat.add_zero] at c10 c20
   have A1 : ∀ wz, Kp wr wz → Calls Tryz.prog 34 #[ceV x xa xc xb xd, ceV y ya yc yb yd] wz fun r w' => r = .returned (.bool (decide (x = y))) ∧ Kp wz w' := fun wz kz => sameCe_any wz N N2 x y xa ya xb yb xc yc xd yd ((RgAts.kp r1 HT.out.2) |> fun h => RgAts.kp h kz) (RgAts.kp (RgAts.kp r2 HT.out.2) kz) ((q1.kp HT.out.2).kp kz) ((q2.kp HT.out.2).kp kz)
   unfold ceV at A1
   clear hgx hgy h1 h2
   subst e1 e2
   have d0 := (Kp.al wr (.cells #[.string x.nm, .int .u32 x.e, .slice xa x.rs.length xc, .slice xb x.ls.length xd] 89)).cell c20
   have d1 := (Kp.al wr (.cells #[.string x.nm, .int .u32 x.e, .slice xa x.rs.length xc, .slice xb x.ls.length xd] 89)).cell c21
   have d2 := (Kp.al wr (.cells #[.string x.nm, .int .u32 x.e, .slice xa x.rs.length xc, .slice xb x.ls.length xd] 89)).cell c22
   have d3 := (Kp.al wr (.cells #[.string x.nm, .int .u32 x.e, .slice xa x.rs.length xc, .slice xb x.ls.length xd] 89)).cell c23
   have kz : Kp wr ((wr.alloc (.cells #[.string x.nm, .int .u32 x.e, .slice xa x.rs.length xc, .slice xb x.ls.length xd] 89)).alloc (.cells #[.string y.nm, .int .u32 y.e, .slice ya y.rs.length yc, .slice yb y.ls.length yd] 89)) := Kp.trans (Kp.al _ _) (Kp.al _ _)
   have A2 := A1 _ kz
   have HZ : Hid (Kp w ((wr.alloc (.cells #[.string x.nm, .int .u32 x.e, .slice xa x.rs.length xc, .slice xb x.ls.length xd] 89)).alloc (.cells #[.string y.nm, .int .u32 y.e, .slice ya y.rs.length yc, .slice yb y.ls.length yd] 89))) := Kp.trans HT.out.2 kz
   clear A1 kz
   by_cases hxy : x = y
   ·rw [decide_eq_true hxy] at A2
    have HE : Hid (x = y) := hxy
    clear hxy
    go_wp2_with fail
    go_at_call 34
    refine A2.mono ?_
    rintro e w1 ⟨rfl, k1⟩
    have HK1 : Hid (Kp w w1) := Kp.trans HZ.out k1
    clear A2 k1
    go_wp2
    go_roundw
    case rel => exact ⟨k + 1, by omega, by go_num, ⟨by rw [take_snocQ HX.out.1, take_snocQ HX.out.2, HT.out.1, HE.out], HK1.out⟩⟩
    case measure => simp [intOf]; omega
   ·rw [decide_eq_false hxy] at A2
    have HE : Hid (r = false) := by
     show r = false
     rw [HR.out]
     exact decide_eq_false (getQ_ne HX.out.1 HX.out.2 hxy)
    clear hxy
    go_wp2_with fail
    go_at_call 34
    refine A2.mono ?_
    rintro e w1 ⟨rfl, k1⟩
    have HK1 : Hid (Kp w w1) := Kp.trans HZ.out k1
    clear A2 k1
    go_wp2
    go_ret
    exact ⟨by rw [HE.out]; rfl, HK1.out⟩
  ·have HE : Hid (r = true) := by
    obtain ⟨hx, hy, hlx, hly⟩ := H.out
    have := HT.out.1
    rw [List.take_of_length_le (by omega), List.take_of_length_le (by omega)] at this
    show r = true
    rw [HR.out]
    exact decide_eq_true this
   go_wp2
   go_ret
   exact ⟨by rw [HE.out]; rfl, HT.out.2⟩
theorem eq33_any (w : World) (N N2 : Nat) (a b : Option Addr) (ca cb : Nat) (xs ys : List Ce) (hx : RdL w N 4 (CeAt N) a xs) (hy : RdL w N2 4 (CeAt N2) b ys) :
  Calls Tryz.prog 33 #[.slice a xs.length ca, .slice b ys.length cb, .func (.func 34) #[] #[]] w fun r w' => r = .returned (.bool (decide (xs = ys))) ∧ Kp w w' := by
 by_cases h : xs.length = ys.length
 ·rw [← h]
  exact eq33_same w N N2 a b xs.length ca cb xs ys hx hy rfl h.symm _ rfl
 ·refine (eq33_len w a b _ _ ca cb _ (by simp; omega)).mono ?_
  rintro r w' ⟨rfl, rfl⟩
  refine ⟨?_, Chg.refl _ _⟩
  have : xs ≠ ys := fun e => h (by rw [e])
  simp [this]

end Go.Proofs.YtknlpjcdemijgaaGreat
