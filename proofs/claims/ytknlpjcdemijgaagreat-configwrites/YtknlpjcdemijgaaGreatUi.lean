import Derived.Test.YtknlpjcdemijgaaGreatUg
namespace Go.Proofs.YtknlpjcdemijgaaGreat
open Go.ChangeShapes Go.WideShapes Go.ChangeAt Go.RowKit
set_option linter.unusedVariables false
structure Cmp (f : WX → WX) (h : RO → RO) : Prop where
 u : ∀ x o, x.u = o.bad → (f x).u = (h o).bad
 m : ∀ o, (h o).bad = false → o.bad = false ∧ o.B.length ≤ (h o).B.length
 d : ∀ (x : WX) (o : RO) (P : List Int), P.length = 12 → x.u = false → x.s.err = 0 → x.s.data = P ++ o.B → (h o).bad = false → 12 + (h o).B.length ≤ x.s.lim → (f x).s.err = 0 ∧ (f x).s.data = P ++ (h o).B ∧ (f x).s.lim = x.s.lim
theorem Cmp.then {f f' : WX → WX} {h h' : RO → RO} (a : Cmp f h) (b : Cmp f' h') : Cmp (fun x => f' (f x)) (fun o => h' (h o)) := by
 refine ⟨fun x o e => b.u _ _ (a.u _ _ e), fun o e => ?_, fun x o P hP hu he hd hb hl => ?_⟩
 ·have q := b.m _ e
  have r := a.m _ q.1
  exact ⟨r.1, Nat.le_trans r.2 q.2⟩
 ·have q := b.m _ hb
  have r := a.m _ q.1
  obtain ⟨e1, e2, e3⟩ := a.d x o P hP hu he hd q.1 (by omega)
  have hu' : (f x).u = false := by rw [a.u x o (by rw [hu, r.1])]; exact q.1
  obtain ⟨e4, e5, e6⟩ := b.d (f x) (h o) P hP hu' e1 e2 hb (by rw [e3]; exact hl)
  exact ⟨e4, e5, e6.trans e3⟩
theorem raw_d (s : WS) (l P B : List Int) (hP : P.length = 12) (he : s.err = 0) (hd : s.data = P ++ B) (hl : 12 + (B ++ l).length ≤ s.lim) : (s.raw l).err = 0 ∧ (s.raw l).data = P ++ (B ++ l) ∧ (s.raw l).lim = s.lim := by
 unfold WS.raw
 rw [if_neg (by omega), if_neg (by rw [hd]; simp at hl ⊢; omega)]
 exact ⟨he, by show s.data ++ l = _; rw [hd, List.append_assoc], rfl⟩
theorem Cmp.raw (l : List Int) : Cmp (fun x => x.raw l) (fun o => o.raw l) :=
 ⟨fun x o e => e, fun o e => ⟨e, by simp [RO.raw]⟩, fun x o P hP hu he hd hb hl => raw_d x.s l P o.B hP he hd hl⟩
theorem Cmp.num (k : Nat) (n : Int) : Cmp (fun x => x.num k n) (fun o => o.num k n) := by
 by_cases hc : n < 0 ∨ (256 ^ k : Nat) ≤ n
 ·have e1 : ∀ x : WX, x.num k n = { x with u := true } := fun x => by unfold WX.num; rw [if_pos hc]
  have e2 : ∀ o : RO, o.num k n = ⟨o.B ++ le 0 k, true⟩ := fun o => by unfold RO.num; rw [if_pos hc]
  exact ⟨fun x o _ => (by rw [e1, e2]), fun o e => (by rw [e2] at e; cases e), fun x o P _ _ _ _ hb _ => (by rw [e2] at hb; cases hb)⟩
 ·have e1 : ∀ x : WX, x.num k n = x.raw (le n.toNat k) := fun x => by unfold WX.num; rw [if_neg hc]
  have e2 : ∀ o : RO, o.num k n = o.raw (le n.toNat k) := fun o => by unfold RO.num; rw [if_neg hc]
  have := Cmp.raw (le n.toNat k)
  exact ⟨fun x o e => by rw [e1, e2]; exact e, fun o e => by rw [e2] at e ⊢; exact this.m o e, fun x o P a b c d e f => by rw [e2] at e f ⊢; rw [e1]; exact this.d x o P a b c d e f⟩
theorem Cmp.pad : Cmp WX.pad RO.pad := by
 refine ⟨fun x o e => e, fun o e => ⟨e, RO.pad_ge o⟩, fun x o P hP hu he hd hb hl => ?_⟩
 have ep : padN x.s.data.length (4 : Int).toNat = padN o.B.length 4 := by
  rw [hd, List.length_append, hP]
  show (4 - (12 + o.B.length) % 4) % 4 = (4 - o.B.length % 4) % 4
  omega
 have e : x.pad.s = x.s.raw (List.replicate (padN o.B.length 4) 0) := by
  show x.s.pad 4 = _
  unfold WS.pad
  rw [if_neg (by omega), if_pos (by omega), ep]
 rw [e]
 exact raw_d x.s _ P o.B hP he hd hl
theorem Cmp.run {α : Type} {f : WX → α → WX} {h : RO → α → RO} : ∀ (xs : List α), (∀ a, a ∈ xs → Cmp (fun x => f x a) (fun o => h o a)) → Cmp (fun x => xs.foldl f x) (fun o => RO.run h o xs)
 | [], _ => ⟨fun x o e => e, fun o e => ⟨e, Nat.le_refl _⟩, fun x o P hP hu he hd hb hl => ⟨he, hd, rfl⟩⟩
 | a :: r, hq => by
  have c1 := hq a (by simp)
  have c2 := Cmp.run r (fun b hb => hq b (by simp [hb]))
  refine ⟨fun x o e => ?_, fun o e => ?_, fun x o P hP hu he hd hb hl => ?_⟩
  ·show (r.foldl f (f x a)).u = (RO.run h o (a :: r)).bad
   cases hb : o.bad with
   | true =>
    rw [RO.run_bad _ _ hb, hb]
    have hb1 : (h o a).bad = true := by
     cases hz : (h o a).bad with
     | true => rfl
     | false => have := (c1.m o hz).1; rw [hb] at this; cases this
    have := c2.u (f x a) (h o a) (c1.u x o e)
    rw [this]
    show (RO.run h (h o a) r).bad = true
    rw [RO.run_bad _ _ hb1, hb1]
   | false =>
    rw [RO.run_step _ _ hb]
    exact c2.u _ _ (c1.u x o e)
  ·have ho : o.bad = false := by
    cases hb : o.bad with
    | false => rfl
    | true =>
     have e' : (RO.run h o (a :: r)).bad = false := e
     rw [RO.run_bad _ _ hb, hb] at e'; cases e'
   have e' : (RO.run h o (a :: r)).bad = false := e
   rw [RO.run_step _ _ ho] at e'
   have q := c2.m _ e'
   have q1 := c1.m _ q.1
   refine ⟨ho, ?_⟩
   show o.B.length ≤ (RO.run h o (a :: r)).B.length
   rw [RO.run_step _ _ ho]
   exact Nat.le_trans q1.2 q.2
  ·have ho : o.bad = false := by
    cases hb' : o.bad with
    | false => rfl
    | true =>
     have e' : (RO.run h o (a :: r)).bad = false := hb
     rw [RO.run_bad _ _ hb', hb'] at e'; cases e'
   have hb' : (RO.run h o (a :: r)).bad = false := hb
   have hl' : 12 + (RO.run h o (a :: r)).B.length ≤ x.s.lim := hl
   show (r.foldl f (f x a)).s.err = 0 ∧ (r.foldl f (f x a)).s.data = P ++ (RO.run h o (a :: r)).B ∧ _
   rw [RO.run_step _ _ ho] at hb' hl' ⊢
   exact (Cmp.then c1 c2).d x o P hP hu he hd hb' hl'
theorem RO.flag (o : RO) (b : Bool) : o.num 1 (if b then 1 else 0) = o.raw (le (if b then 1 else 0) 1) := by
 cases b <;> simp [RO.num]
theorem Cmp.rg (r : Rg) : Cmp (fun x => x.rg r) (fun o => o.rg r) := ((((Cmp.raw _).then (Cmp.raw _)).then (Cmp.num 4 _)).then (Cmp.raw _)).then Cmp.pad
theorem Cmp.wi (r : Wi) : Cmp (fun x => x.wi r) (fun o => o.wi r) := (((Cmp.num 1 _).then Cmp.pad).then (Cmp.raw _)).then (Cmp.raw _)
theorem Cmp.qu (r : Qu) : Cmp (fun x => x.qu r) (fun o => o.qu r) := by
 have := ((((((Cmp.num 1 r.w).then (Cmp.num 1 r.r)).then (Cmp.num 2 r.s)).then (Cmp.num 2 r.d)).then (Cmp.num 2 r.q)).then (Cmp.raw (le (if r.f then 1 else 0) 1))).then Cmp.pad
 have e : (fun o : RO => o.qu r) = fun o => (((((((o.num 1 r.w).num 1 r.r).num 2 r.s).num 2 r.d).num 2 r.q).raw (le (if r.f then 1 else 0) 1))).pad := by
  funext o
  unfold RO.qu
  rw [RO.flag]
 rw [e]
 exact this
theorem Cmp.nums (l : List Int) : Cmp (fun x => x.nums l) (fun o => o.nums l) := Cmp.run l (fun n _ => Cmp.num 1 n)
theorem Cmp.rgs (l : List Rg) : Cmp (fun x => x.rgs l) (fun o => o.rgs l) := Cmp.run l (fun n _ => Cmp.rg n)
theorem Cmp.sa (r : Sa) : Cmp (fun x => x.sa r) (fun o => o.sa r) := ((((Cmp.num 1 _).then (Cmp.num 1 _)).then (Cmp.num 2 _)).then (Cmp.nums _)).then Cmp.pad
theorem Cmp.ce (c : Ce) : Cmp (fun x => x.ce c) (fun o => o.ce c) := (((((((((Cmp.num 1 _).then (Cmp.raw _)).then Cmp.pad).then (Cmp.raw _)).then (Cmp.num 1 _)).then (Cmp.num 1 _)).then Cmp.pad).then (Cmp.rgs _)).then (Cmp.nums _)).then Cmp.pad
theorem Cmp.mc (r : Mc) : Cmp (fun x => x.mc r) (fun o => o.mc r) := (((((((Cmp.num 4 _).then (Cmp.raw _)).then (Cmp.num 4 _)).then (Cmp.num 2 _)).then (Cmp.num 2 _)).then (Cmp.num 2 _)).then (Cmp.num 2 _)).then (Cmp.raw _)
theorem Cmp.cf (g : Cf) : Cmp (fun x => x.cf g) (fun o => o.cf g) :=
 ((((((((Cmp.mc g.m).then (Cmp.num 1 _)).then (Cmp.num 1 _)).then (Cmp.num 1 _)).then (Cmp.num 1 _)).then (Cmp.run g.cs (fun c _ => Cmp.ce c))).then (Cmp.run g.ws (fun c _ => Cmp.wi c))).then (Cmp.run g.ss (fun c _ => Cmp.sa c))).then (Cmp.run g.qs (fun c _ => Cmp.qu c))
theorem ro_enc (g : Cf) (hf : g.fit) (R : RO) (hR : R = RO.cf ⟨[], false⟩ g) : (R.bad = true → encOk g = false) ∧ (R.bad = false → encOk g = true ∧ R.B.length ≤ 1252000 ∧ rng R.B ∧ encB g = (magic ++ le R.B.length 4 ++ R.B) ++ le (crc (magic ++ le R.B.length 4 ++ R.B)) 4) := by
 have hc := Cmp.cf g
 have hu : (x2.cf g).u = R.bad := by rw [hR]; exact hc.u x2 ⟨[], false⟩ (by rw [x2_eq])
 refine ⟨fun hb => ?_, fun hb => ?_⟩
 ·unfold encOk
  have : (encS g).u = true := by show (x2.cf g).u = true; rw [hu, hb]
  rw [this]; simp
 ·have hb' : (RO.cf ⟨[], false⟩ g).bad = false := by rw [← hR]; exact hb
  have hml : magic.length = 8 := rfl
  have hP : (magic ++ [0, 0, 0, 0]).length = 12 := by simp [hml]
  -- a writer with room for just that
  obtain ⟨X, hX⟩ : ∃ X : WX, X = ⟨⟨12 + R.B.length, magic ++ [0, 0, 0, 0], [8], 0⟩, false⟩ := ⟨_, rfl⟩
  obtain ⟨e1, e2, e3⟩ := hc.d X ⟨[], false⟩ (magic ++ [0, 0, 0, 0]) hP (by rw [hX]) (by rw [hX]) (by rw [hX]; simp) hb' (by rw [hX, ← hR]; exact Nat.le_refl _)
  have hXu : (X.cf g).u = false := by rw [hc.u X ⟨[], false⟩ (by rw [hX])]; exact hb'
  obtain ⟨_, body, hr, hw, hk⟩ := K.cf g hf X ⟨e1, hXu⟩
  have hbody : body = R.B := by
   have : (X.cf g).s.data = X.s.data ++ body := by
    have : X.cf g = app X body := hw
    rw [this]; rfl
   rw [e2, hX, ← hR] at this
   exact (List.append_cancel_left this).symm
  obtain ⟨q1, q2⟩ := hk ⟨body, 0, 0, 0⟩ ⟨rfl, by rw [hX]; simp [magic], Nat.zero_le _, by show (body.drop 0).take body.length = body; rw [List.drop_zero, List.take_length]⟩
  have q1' : (RS.cf ⟨body, 0, 0, 0⟩).2 = ⟨body, body.length, 0, 0⟩ := by
   have : (RS.cf ⟨body, 0, 0, 0⟩).2 = (⟨body, 0, 0, 0⟩ : RS).past body.length := q1
   rw [this]; unfold RS.past; simp
  have hj := J.cf (s := ⟨body, 0, 0, 0⟩) hr (by rw [q1'])
  have hup := hj.1.up
  rw [q1'] at hup
  have hn : body.length ≤ 1252000 := by
   have : body.length ≤ 0 + 1252000 := hup
   omega
  -- the program's own
  have hn2 : R.B.length ≤ 1252000 := by rw [← hbody]; exact hn
  obtain ⟨f1, f2, f3⟩ := hc.d x2 ⟨[], false⟩ (magic ++ [0, 0, 0, 0]) hP (by rw [x2_eq]) (by rw [x2_eq]) (by rw [x2_eq]; simp) hb' (by rw [x2_eq, ← hR]; show 12 + R.B.length ≤ 2097152; omega)
  have fu : (x2.cf g).u = false := by rw [hu, hb]
  obtain ⟨_, body2, hr2, hw2, _⟩ := K.cf g hf x2 ⟨f1, fu⟩
  have hw' : x2.cf g = ⟨⟨2097152, magic ++ [0, 0, 0, 0] ++ body2, [8], 0⟩, false⟩ := by
   have e : x2.cf g = app ⟨⟨2097152, magic ++ [0, 0, 0, 0], [8], 0⟩, false⟩ body2 := by
    have : x2.cf g = app x2 body2 := hw2
    rw [this, x2_eq]
   rw [e]; rfl
  have hb2 : body2 = R.B := by
   rw [hw', ← hR] at f2
   exact List.append_cancel_left f2
  have hS : encS g = ⟨⟨2097152, magic ++ le body2.length 4 ++ body2, [], 0⟩, false⟩ := by
   unfold encS
   rw [hw']
   unfold WS.shut WS.has
   rw [if_neg (by simp), if_pos (by simp)]
   have t8 : (magic ++ [0, 0, 0, 0] ++ body2).take 8 = magic := by
    rw [List.append_assoc, List.take_left' hml]
   have d12 : (magic ++ [0, 0, 0, 0] ++ body2).drop 12 = body2 := List.drop_left' (by simp [hml])
   have ln : (magic ++ [0, 0, 0, 0] ++ body2).length - 8 - 4 = body2.length := by simp [hml]
   show (⟨⟨2097152, (magic ++ [0, 0, 0, 0] ++ body2).take 8 ++ le ((magic ++ [0, 0, 0, 0] ++ body2).length - 8 - 4) 4 ++ (magic ++ [0, 0, 0, 0] ++ body2).drop 12, _, 0⟩, false⟩ : WX) = _
   rw [t8, d12, ln]
   rfl
  have hok : encOk g = true := by
   unfold encOk
   rw [hS]
   rfl
  refine ⟨hok, hn2, by rw [← hbody]; exact hr, ?_⟩
  have hout : (encS g).s.out = magic ++ le body2.length 4 ++ body2 := by rw [hS]; rfl
  have hraw : (encS g).s.raw (le (crc (magic ++ le body2.length 4 ++ body2)) 4) = ⟨2097152, magic ++ le body2.length 4 ++ body2 ++ le (crc (magic ++ le body2.length 4 ++ body2)) 4, [], 0⟩ := by
   rw [hS]
   unfold WS.raw
   rw [if_neg (by simp), if_neg (by rw [hb2]; simp [le_len, hml]; omega)]
  unfold encB
  rw [hout, hraw, hb2]
  rfl
end Go.Proofs.YtknlpjcdemijgaaGreat
namespace Go.Proofs.YtknlpjcdemijgaaGreat
open Go.ChangeShapes Go.WideShapes Go.ChangeAt Go.RowKit
set_option linter.unusedVariables false
theorem OwnB.mag (w : World) : OwnB (w.alloc (.cells magV 5)) (.slice (some ⟨w.heap.size, 0, none⟩) magic.length 8) magic := by
 refine ⟨⟨by simp [magic], .inr ⟨w.heap.size, 8, magV, rfl, Nat.zero_le _, heap_alloc_new w _, by simp [magic], by simp [maxLen], by rfl, by rfl⟩⟩, ?_⟩
 exact (by decide : ∀ y, y ∈ magic → 0 ≤ y ∧ y ≤ 255)
theorem head_any (w : World) : Calls Tryz.prog 53 #[] w fun r w' => r = .returned (.slice (some ⟨w.heap.size, 0, none⟩) 8 8) ∧ w' = w.alloc (.cells magV 5) := by
 go_enter Tryz.func53, Tryz.ntmps53
 go_wp2_with fail
 go_ret
 exact ⟨rfl, rfl⟩
def REnc (w : World) (g : Cf) (r : Ending) (w' : World) : Prop := Kp w w' ∧ ((encOk g = false ∧ r = .returned (.tuple #[.slice none 0 0, .int .i64 130])) ∨ (encOk g = true ∧ ∃ a c, r = .returned (.tuple #[.slice a (encB g).length c, .int .i64 0]) ∧ OwnB w' (.slice a (encB g).length c) (encB g) ∧ (∀ k, Value.ownBlock (.slice a (encB g).length c) = some k → w.heap.size ≤ k)))
set_option maxHeartbeats 8000000 in
set_option maxRecDepth 100000 in
theorem renc_walk (w : World) (N : Nat) (g : Cf) (hf : g.fine) (hfit : g.fit) (ca wa sa qa : Option Addr) (cc wc sc qc : Nat)
  (x1 : RdL w N 4 (CeAt N) ca g.cs) (x2 : RdL w N 3 WiAt wa g.ws) (x3 : RdL w N 3 (SaAt N) sa g.ss) (x4 : RdL w N 6 QuAt qa g.qs) :
  Calls Tryz.prog 21 #[.agg #[.int .i64 g.m.pg, .int .u32 g.m.ob, .int .i64 g.m.op, .int .i64 g.m.st, .int .i64 g.m.wy, .int .i64 g.m.li, .int .i64 g.m.sl, .int .u64 g.m.mj, .slice ca g.cs.length cc, .slice wa g.ws.length wc, .slice sa g.ss.length sc, .slice qa g.qs.length qc]] w fun r w' => REnc w g r w' := by
 obtain ⟨R, hR⟩ : ∃ R, R = RO.cf ⟨[], false⟩ g := ⟨_, rfl⟩
 have HR := Hid.mk' (ro_enc g hfit R hR)
 obtain ⟨w0, hw0⟩ : ∃ w0, w0 = w.alloc (.cells #[.int .i64 g.m.pg, .int .u32 g.m.ob, .int .i64 g.m.op, .int .i64 g.m.st, .int .i64 g.m.wy, .int .i64 g.m.li, .int .i64 g.m.sl, .int .u64 g.m.mj, .slice ca g.cs.length cc, .slice wa g.ws.length wc, .slice sa g.ss.length sc, .slice qa g.qs.length qc] 31) := ⟨_, rfl⟩
 have k0 : Kp w w0 := by rw [hw0]; exact Kp.al _ _
 have hB : w0.heap[w.heap.size]? = some (.cells #[.int .i64 g.m.pg, .int .u32 g.m.ob, .int .i64 g.m.op, .int .i64 g.m.st, .int .i64 g.m.wy, .int .i64 g.m.li, .int .i64 g.m.sl, .int .u64 g.m.mj, .slice ca g.cs.length cc, .slice wa g.ws.length wc, .slice sa g.ss.length sc, .slice qa g.qs.length qc] 31 (0, 0)) := by rw [hw0]; exact heap_alloc_new w _
 have A1 := Hid.mk' (body_walk w0 N g hf ca wa sa qa cc wc sc qc (CeAts.kp x1 k0) (WiAts.kp x2 k0) (SaAts.kp x3 k0) (QuAts.kp x4 k0) R hR)
 have HK0 : Hid (Kp w w0) := k0
 clear x1 x2 x3 x4 hf hR k0 hfit
 go_enter Tryz.func21, Tryz.ntmps21
 go_upto_region 1 with fail
 rw [← hw0]
 clear hw0
 go_wp2_with (refine wpList_load_row rfl 31 (.tmp 1) rfl (w.heap.size) rfl 31 #[.int .i64 g.m.pg, .int .u32 g.m.ob, .int .i64 g.m.op, .int .i64 g.m.st, .int .i64 g.m.wy, .int .i64 g.m.li, .int .i64 g.m.sl, .int .u64 g.m.mj, .slice ca g.cs.length cc, .slice wa g.ws.length wc, .slice sa g.ss.length sc, .slice qa g.qs.length qc] (0, 0) _ hB Tryz.underlying31 rfl size31 ?_)
 clear hB
 go_at_call 52
 refine A1.out.mono ?_
 rintro r wb ⟨a, c, rfl, hO, hN, hk, hL⟩
 have HB : Hid (OwnB wb (.slice a R.B.length c) R.B ∧ (∀ k, Value.ownBlock (.slice a R.B.length c) = some k → w0.heap.size ≤ k) ∧ Kp w wb) := ⟨hO, hN, HK0.out.trans hk⟩
 clear hO hN hk A1 HK0 hL
 cases hbd : R.bad with
 | true =>
  go_wp2_with fail
  go_ret2
  exact ⟨HB.out.2.2, .inl ⟨HR.out.1 hbd, rfl⟩⟩
 | false =>
  obtain ⟨hok, hlen, hrg, henc⟩ := HR.out.2 hbd
  have HQ : Hid (encOk g = true ∧ encB g = (magic ++ le R.B.length 4 ++ R.B) ++ le (crc (magic ++ le R.B.length 4 ++ R.B)) 4) := ⟨hok, henc⟩
  clear HR hok henc hrg hbd
  go_wp2_with fail
  go_at_call 53
  refine (head_any wb).mono ?_
  rintro r w2 ⟨rfl, hw2⟩
  obtain ⟨w3, hw3⟩ : ∃ w3, w3 = w2.alloc (.cells #[.slice (some ⟨wb.heap.size, 0, none⟩) 8 8, .bool false] 127) := ⟨_, rfl⟩
  obtain ⟨O, hO⟩ : ∃ O, O = w2.heap.size := ⟨_, rfl⟩
  have hX : OX wb w3 O ⟨magic, false⟩ := by
   refine ⟨some ⟨wb.heap.size, 0, none⟩, 8, ?_, ?_, ?_, ?_, ?_⟩
   ·rw [hw3, hw2]; exact (Kp.al _ _).trans (Kp.al _ _)
   ·rw [hO, hw2]; simp
   ·rw [hw3, hO]; exact heap_alloc_new w2 _
   ·rw [hw3, hw2]; exact (OwnB.mag wb).chg (Kp.al _ _) (fun _ _ e => e)
   ·intro k hk; cases hk; exact Nat.le_refl _
  have HX := Hid.mk' hX
  have hs2 : Hid (w2.heap.size = wb.heap.size + 1) := by rw [hw2]; simp [Hid]
  clear hX hw2
  go_upto_region 5 with fail
  rw [← hO, ← hw3]
  clear hw3 hO
  go_wp2_with fail
  go_at_call 54
  try rw [wu64 (R.B.length : Nat) (by omega) (by omega)]
  refine (clong HX.out (R.B.length : Nat) 4 (by omega) (by omega) (by omega) (by simp [magic])).mono ?_
  rintro r w4 ⟨rfl, h4, t4⟩
  rw [Int.toNat_natCast] at h4
  obtain ⟨o4, ho4⟩ : ∃ o4, o4 = (⟨magic, false⟩ : RO).raw (le R.B.length 4) := ⟨_, rfl⟩
  rw [← ho4] at h4
  have l4 : o4.B.length = 12 := by rw [ho4, RO.raw_len, le_len]; rfl
  obtain ⟨a4, c4, h4⟩ := h4
  obtain ⟨ab, cb, eab, _, _, hbs⟩ := (HB.out.1.chg h4.kp (fun _ _ e => e)).shape (by omega)
  obtain ⟨a5, c5, W7, r7, s7, f7, h7, _⟩ := h4.app (Chg.refl _ _) ab R.B.length cb R.B hbs (by omega)
  obtain ⟨nn, hnn⟩ : ∃ nn, nn = (o4.B ++ R.B).length := ⟨_, rfl⟩
  rw [← hnn] at r7 h7
  clear hnn
  obtain ⟨W8, hW8⟩ : ∃ W8,W8 = W7.setCell ⟨O, 0, none⟩ (.slice a5 nn c5) := ⟨_, rfl⟩
  rw [← hW8] at h7
  have s4 : w4.cell? ⟨O, 0, none⟩ = some (.slice a4 o4.B.length c4) := box_cells h4.box 0 rfl
  have H7 : Hid (OS wb W8 O a5 c5 (o4.B ++ R.B) o4.bad) := h7
  have HE4 : Hid (o4 = (⟨magic, false⟩ : RO).raw (le R.B.length 4) ∧ o4.B.length = 12) := ⟨ho4, l4⟩
  rw [eab]
  clear h4 h7 t4 ho4 l4 hbs HX eab
  go_upto_region 7 with (at_builtin; refine wpList_append_run _ rfl (.tmp 26) (.tmp 27) 33 33 rfl _ _ _ W7 rfl rfl r7 ?_)
  rw [← hW8]
  clear hW8 r7 s7 f7 s4
  obtain ⟨bs, hbs⟩ : ∃ bs, bs = o4.B ++ R.B := ⟨_, rfl⟩
  rw [← hbs] at H7
  have lb : bs.length ≤ 1252012 := by rw [hbs, List.length_append]; have := HE4.out.2; omega
  have sO : W8.cell? ⟨O, 0, none⟩ = some (.slice a5 bs.length c5) := box_cells H7.out.box 0 rfl
  obtain ⟨a6, c6, e6, _, _, hb6⟩ := H7.out.ow.shape (by omega)
  simp only [Value.slice.injEq, true_and] at e6
  obtain ⟨rfl, rfl⟩ := e6
  have HB6 := Hid.mk' hb6
  have HBS : Hid (bs = o4.B ++ R.B) := hbs
  clear hb6 hbs
  go_wp2_with fail
  go_at_call 55
  refine (refSum_any W8 a5 bs.length c5 bs HB6.out).mono ?_
  rintro r w9 ⟨rfl, rfl⟩
  have hcr := crc_lt bs H7.out.ow.2
  go_wp2_with fail
  go_at_call 54
  try rw [wu64 (crc bs : Nat) (by omega) (by omega)]
  refine (clong (o := ⟨bs, o4.bad⟩) ⟨_, _, H7.out⟩ (crc bs : Nat) 4 (by omega) (by omega) (by omega) (by show bs.length + 8 ≤ _; omega)).mono ?_
  rintro r wz ⟨rfl, hz, _⟩
  rw [Int.toNat_natCast] at hz
  have he : (RO.raw ⟨bs, o4.bad⟩ (le (crc bs) 4)).B = encB g := by
   rw [HQ.out.2]
   show bs ++ le (crc bs) 4 = _
   rw [HBS.out, HE4.out.1]
   rfl
  obtain ⟨az, cz, hz⟩ := hz
  rw [he] at hz
  have sz : wz.cell? ⟨O, 0, none⟩ = some (.slice az (encB g).length cz) := box_cells hz.box 0 rfl
  have HZ := Hid.mk' hz
  clear hz he hcr sO lb
  go_wp2_with fail
  go_ret2
  refine ⟨HB.out.2.2.trans HZ.out.kp, .inr ⟨HQ.out.1, az, cz, rfl, HZ.out.ow, fun k hk => ?_⟩⟩
  exact Nat.le_trans HB.out.2.2.size (HZ.out.nw k hk)
end Go.Proofs.YtknlpjcdemijgaaGreat
