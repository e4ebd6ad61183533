import Derived.Test.YtnblhaeojlpmmaaVf
import Derived.Test.YtnblhaeojlpmmaaVc
import Derived.Test.YtnblhaeojlpmmaaVb
import Derived.Test.YtnblhaeojlpmmaaTz
namespace Go.Proofs.Ytnblhaeojlpmmaa
open Go.ChangeShapes Go.WideShapes Go.ChangeAt Go.RowKit
set_option linter.unusedVariables false
/-- A step, whatever it is. -/
theorem step_any (W w : World) (σ : Nat → Nat × Nat) (K : Nat) (U : Nat → Value) (b : BS) (P Q : PT) (kd c tk : Int) (dv : Value) (bs : List Int) (x : SV) (st : Bool) (g h o r l d : Nat) (HB : StB W w σ K U b P Q kd c tk dv bs x st g h o r l d) :
    Calls Try.prog 17 #[.pointer (some ⟨K, 0, none⟩), .agg (scs kd c tk dv x)] w fun e w' => e = .returned (.bool true) ∧ StE W w σ K U P st g h o r l d w' := by
  have hp := pk_lt (c := kd) (n := 8) (by omega)
  have : pk kd 8 = 0 ∨ pk kd 8 = 1 ∨ pk kd 8 = 2 ∨ pk kd 8 = 3 ∨ pk kd 8 = 4 ∨ pk kd 8 = 5 ∨ pk kd 8 = 6 ∨ pk kd 8 = 7 := by omega
  rcases this with e | e | e | e | e | e | e | e
  · exact step_send W w σ K U b P Q kd c tk dv bs x st g h o r l d HB 0 (by omega) e
  · exact step_send W w σ K U b P Q kd c tk dv bs x st g h o r l d HB 1 (by omega) e
  · exact step_send W w σ K U b P Q kd c tk dv bs x st g h o r l d HB 2 (by omega) e
  · exact step_recv W w σ K U b P Q kd c tk dv bs x st g h o r l d HB e
  · exact step_turn W w σ K U b P Q kd c tk dv bs x st g h o r l d HB e
  · exact step_stat W w σ K U b P Q kd c tk dv bs x st g h o r l d HB e
  · exact step_reload W w σ K U b P Q kd c tk dv bs x st g h o r l d HB e
  · exact step_load W w σ K U b P Q kd c tk dv bs x st g h o r l d HB e
theorem Bk.set8 {w : World} {σ : Nat → Nat × Nat} {K : Nat} {U V : Nat → Value} {X : Nat → List Value} {G H : List (List Int)} {O R : List (Nat × Nat × Int)} {L D E : List (List Mg)} (h : Bk w σ K U V X G O H R L D E) (v : Value) : Bk (w.setCell ⟨K, 16, none⟩ v) σ K U (upd V 8 v) X G O H R L D E ∧ Chg w (w.setCell ⟨K, 16, none⟩ v) (fun b => b = K) := by
  obtain ⟨m, c⟩ := h.m.set8 v
  have n : ∀ z, z ≠ 1 → ∀ b, b = K → (σ b).1 ≠ z := fun z hz b e x => by rw [e, h.m.lk] at x; exact hz x.symm
  refine ⟨⟨m, h.g.chgC c (n 2 (by omega)), h.gs, h.o.chgC c (n 3 (by omega)), h.os, h.h.chgC c (n 4 (by omega)), h.hs, h.r.chgC c (n 5 (by omega)), h.rs, h.l.chgC c (n 6 (by omega)), h.lw.chgC c (n 7 (by omega)), h.lv, h.d.chgC c (n 8 (by omega)), fun l hL m hm => ?_, h.e.chgC c (n 9 (by omega)), fun l hL m hm => ?_, h.de⟩, c⟩
  · obtain ⟨h1, jj, h2⟩ := h.db l hL m hm
    exact ⟨c.owns h1 (fun b hb hS => n 4 (by omega) b hS (by rw [h2 b hb])), jj, h2⟩
  · obtain ⟨h1, h2⟩ := h.eb l hL m hm
    exact ⟨c.owns h1 (fun b hb hS => n 10 (by omega) b hS (by rw [h2 b hb])), h2⟩
/-- Whether what comes out now is touched. -/
theorem Pl.set8 {W w : World} {σ : Nat → Nat × Nat} {K : Nat} {U : Nat → Value} {b : BS} {P Q : PT} (h : Pl W w σ K U b P Q) (v : Value) : Pl W (w.setCell ⟨K, 16, none⟩ v) σ K U ⟨upd b.V 8 v, b.X, b.G, b.H, b.O, b.R, b.L, b.D, b.E⟩ P Q ∧ Sd w σ (w.setCell ⟨K, 16, none⟩ v) σ := by
  obtain ⟨hb, hc⟩ := h.bk.set8 v
  exact h.bmove0 (b' := ⟨upd b.V 8 v, b.X, b.G, b.H, b.O, b.R, b.L, b.D, b.E⟩) hb (hc.mono (fun k _ e => by show (σ k).1 ≠ 0; rw [e, h.bk.m.lk]; simp)) (fun _ _ _ => rfl)
/-- The numbers that the play begins with. -/
def uu (B F : Nat) (d : QD) : Nat → Value
  | 0 => .pointer (some ⟨B, 0, none⟩) | 1 => .pointer (some ⟨F, 0, none⟩) | 2 => .int .i64 d.wr | 3 => .int .i64 d.rd | 4 => .int .i64 d.sz | 5 => .int .i64 d.de | 6 => .int .i64 d.qu | _ => .bool d.fl
def v0 : Nat → Value
  | 8 => .bool false | _ => .slice none 0 0
def b0 : BS := ⟨v0, fun _ => [], [], [], [], [], [], [], []⟩
open Classical in
noncomputable def s0 (K B F : Nat) (Z : PT) : Nat → Nat × Nat := fun k => if k = K then (1, 99) else if k = B then (0, 1) else if k = F then (0, 2) else if Z.on k then (0, 3) else (0, 0)
theorem Pl.init {W w : World} (kW : Kp W w) {B F : Nat} {d : QD} (hq : IsQ w B (.slice none 0 0) (.slice none 0 0) (QS.mt d)) (hf : IsR w F (.slice none 0 0) (.slice none 0 0) (QS.mt d)) {Z : PT} (hz : IsQ w Z.B Z.vq Z.vs Z.p) (h1 : W.heap.size ≤ B) (h2 : W.heap.size ≤ F) (h3 : ∀ k, Z.on k → W.heap.size ≤ k ∧ k ≠ B ∧ k ≠ F) :
    Pl W (w.alloc (.cells (pcl (uu B F d) v0) 60)) (s0 w.heap.size B F Z) w.heap.size (uu B F d) b0 ⟨B, .slice none 0 0, .slice none 0 0, QS.mt d⟩ ⟨F, .slice none 0 0, .slice none 0 0, QS.mt d⟩ ∧ (∀ k, Z.on k → s0 w.heap.size B F Z k = (0, 3)) := by
  have ka := Kp.al w (.cells (pcl (uu B F d) v0) 60)
  have lB := hq.lt
  have lF := hf.lt
  have nBF : B ≠ F := fun e => by
    have := hq.box
    rw [e, hf.box] at this
    simp at this
  have onB : ∀ k, (PT.mk B (.slice none 0 0) (.slice none 0 0) (QS.mt d)).on k → k = B := fun k hk => by
    rcases hk with (e | e | e) | e
    · exact e
    · simp [Value.ownBlock] at e
    · simp [Value.ownBlock] at e
    · simp [QS.mt, rws] at e
  have onF : ∀ k, (PT.mk F (.slice none 0 0) (.slice none 0 0) (QS.mt d)).on k → k = F := fun k hk => by
    rcases hk with (e | e | e) | e
    · exact e
    · simp [Value.ownBlock] at e
    · simp [Value.ownBlock] at e
    · simp [QS.mt, rws] at e
  have szW := kW.size
  have fz : Fz (w.alloc (.cells (pcl (uu B F d) v0) 60)) (s0 w.heap.size B F Z) := fun k hk => by
    rw [World.size_alloc] at hk
    unfold s0
    rw [if_neg (by omega), if_neg (by omega), if_neg (by omega), if_neg (fun e => by have := hz.on_lt e; omega)]
  refine ⟨⟨⟨⟨heap_alloc_new w _, by unfold s0; rw [if_pos rfl], fun i hi h8 => ?_, fz⟩, Ent.nil _ _ _ _ _, rfl, Ent.nil _ _ _ _ _, rfl, Ent.nil _ _ _ _ _, rfl, Ent.nil _ _ _ _ _, rfl, Ent.nil _ _ _ _ _, Ent.nil _ _ _ _ _, fun l hl => by simp [b0] at hl, Ent.nil _ _ _ _ _, fun l hl => by simp [b0] at hl, Ent.nil _ _ _ _ _, fun l hl => by simp [b0] at hl, rfl⟩, hq.kp ka, hf.kp ka, fun k hk => ?_, fun k hk => ?_, kW.trans ka, fun k hk => ?_, rfl, rfl⟩, fun k hk => ?_⟩
  · have e : b0.V i = .slice none 0 0 := by
      show v0 i = _
      unfold v0
      split
      · omega
      · rfl
    rw [e]
    exact ⟨⟨rfl, .inl ⟨rfl, rfl⟩⟩, Lb.nil _ _⟩
  · rw [onB k hk]; unfold s0; rw [if_neg (by omega), if_pos rfl]
  · rw [onF k hk]; unfold s0; rw [if_neg (by omega), if_neg (fun e => nBF e.symm), if_pos rfl]
  · unfold s0
    rw [if_neg (by omega), if_neg (by omega), if_neg (by omega), if_neg (fun e => by have := (h3 k e).1; omega)]
  · have h4 := h3 k hk
    unfold s0
    rw [if_neg (by have := hz.on_lt hk; omega), if_neg h4.2.1, if_neg h4.2.2, if_pos hk]
theorem info5q : ∃ i, Try.prog.info? 5 = some i ∧ i.zero = some (.int .u8 0) ∧ i.size = 1 ∧ i.bytes = 1 := info5p
/-- So many noughts. -/
def repB (n : Nat) : Array Value := (List.replicate n (Value.int .u8 0)).toArray
theorem makeB (w : World) (n : Nat) (hn : n ≤ 140737488355328) : (Instr.makeSlice 37 (.int .i64 n) (.int .i64 n)).run Try.prog w = .ok (.slice (some ⟨w.heap.size, 0, none⟩) n n) (w.alloc (.cells (repB n) 5)) := by
  obtain ⟨i0, hi, hz0, hz1, hz2⟩ := info5p
  have := run_make (P := Try.prog) w 37 5 i0 (.int .u8 0) Try.underlying37 hi hz0 .i64 .i64 n n (by omega) (by omega) (by rw [hz2]; omega) (by omega)
  have e : madeCells (Value.int .u8 0).cells ((n : Int).toNat * i0.size) = repB n := by
    rw [hz1, Int.toNat_natCast, Nat.mul_one]
    unfold repB
    apply Array.ext_getElem?
    intro j
    by_cases hj : j < n
    · simp [madeCells, Value.cells, hj, Nat.mod_one]
    · simp [madeCells, Value.cells, hj]
  rw [e] at this
  simpa using this
theorem madeB (w : World) (n : Nat) (hn : n ≤ maxLen) : OB (w.alloc (.cells (repB n) 5)) (.slice (some ⟨w.heap.size, 0, none⟩) n n) (List.replicate n 0) := by
  refine ⟨by simp, .inr ⟨w.heap.size, n, repB n, by simp, Nat.zero_le _, heap_alloc_new w _, by simp, hn, by simp [repB], ?_⟩⟩
  unfold repB
  simp
/-- A step that came in. -/
structure Stp where
  kd : Int
  c : Int
  tk : Int
  dv : Value
  bs : List Int
  x : SV
structure Stp.ok (W : World) (s : Stp) : Prop where
  dvb : Bs W s.dv s.bs
  dc : ∃ a cp, s.dv = .slice a s.bs.length cp ∧ s.bs.length ≤ cp
  bl : s.bs.length ≤ 1048576
  xr : s.x.rd W
  xl : s.x.lq.length ≤ 1048576 ∧ s.x.ls.length ≤ 1048576
  xb : ∀ m ∈ s.x.lq ++ s.x.ls, m.bs.length ≤ 1048576
  kr : -9223372036854775808 ≤ s.kd ∧ s.kd ≤ 9223372036854775807
def Stp.cs (s : Stp) : Array Value := scs s.kd s.c s.tk s.dv s.x
/-- Steps that came in. -/
structure SpI (W : World) (a : Option Addr) (len : Nat) (F : Nat → Stp) : Prop where
  ex : len = 0 ∨ ∃ b off, a = some ⟨b, off, none⟩ ∧ ∀ i, i < len → ∀ q v, (F i).cs[q]? = some v → W.cell? ⟨b, off + i * 11 + q, none⟩ = some v
  ln : len ≤ 1048576
  ok : ∀ i, i < len → (F i).ok W
end Go.Proofs.Ytnblhaeojlpmmaa
namespace Go.Proofs.Ytnblhaeojlpmmaa
open Go.ChangeShapes Go.WideShapes Go.ChangeAt Go.RowKit
set_option linter.unusedVariables false
theorem some_eq {s s' : Bool} {z : Value} (h : z = .bool s) (e : some s = some s') : z = .bool s' := by simp at e; rw [← e]; exact h
/-- While the law goes on: the play, and the port beside it. -/
structure LwJ (W : World) (K : Nat) (d : QD) (Z : PT) (g h o r l e : Nat) (st : Option Bool) (wr : World) : Prop where
  ex : ∃ σ U b P Q, Pl W wr σ K U b P Q ∧ QE P.p Q.p ∧ P.p.d = d ∧ (U 2 = .int .i64 d.wr ∧ U 3 = .int .i64 d.rd ∧ U 4 = .int .i64 d.sz ∧ U 5 = .int .i64 d.de ∧ U 6 = .int .i64 d.qu ∧ U 7 = .bool d.fl) ∧ (∀ s, st = some s → b.V 8 = .bool s) ∧ Sz b g h o r l e ∧ (∀ k, Z.on k → σ k = (0, 3))
  z : IsQ wr Z.B Z.vq Z.vs Z.p
section
variable {W wr w2 : World} {K : Nat} {d : QD} {Z : PT} {g h o r l e : Nat} {st : Option Bool}
theorem LwJ.kp (I : LwJ W K d Z g h o r l e st wr) (k : Kp wr w2) : LwJ W K d Z g h o r l e st w2 := by
  obtain ⟨σ, U, b, P, Q, h1, h2⟩ := I.ex
  exact ⟨⟨σ, U, b, P, Q, h1.kp k, h2⟩, I.z.kp k⟩
theorem LwJ.wid (I : LwJ W K d Z g h o r l e st wr) {g' h' o' r' l' e' : Nat} (hg : g ≤ g') (hh : h ≤ h') (ho : o ≤ o') (hr : r ≤ r') (hl : l ≤ l') (he : e ≤ e') : LwJ W K d Z g' h' o' r' l' e' none wr := by
  obtain ⟨σ, U, b, P, Q, h1, h2, h3, h4, h5, h6, h7⟩ := I.ex
  exact ⟨⟨σ, U, b, P, Q, h1, h2, h3, h4, (fun s hs => by cases hs), h6.mono hg hh ho hr hl he, h7⟩, I.z⟩
theorem LwJ.kc (I : LwJ W K d Z g h o r l e st wr) : (∃ z, wr.cell? ⟨K, 16, none⟩ = some z) ∧ wr.frozen? ⟨K, 16, none⟩ = false := by
  obtain ⟨σ, U, b, P, Q, h1, h2⟩ := I.ex
  have := h1.bk.m.cell (i := 8) (by omega)
  exact ⟨⟨_, this.1⟩, this.2⟩
theorem LwJ.kW (I : LwJ W K d Z g h o r l e st wr) : Kp W wr := by
  obtain ⟨σ, U, b, P, Q, h1, h2⟩ := I.ex
  exact h1.kW
/-- What the port beside has stays. -/
theorem keepZ {σ σ' : Nat → Nat × Nat} (hz : IsQ wr Z.B Z.vq Z.vs Z.p) (hl : ∀ k, Z.on k → σ k = (0, 3)) (hs : Sd wr σ w2 σ') : IsQ w2 Z.B Z.vq Z.vs Z.p ∧ ∀ k, Z.on k → σ' k = (0, 3) :=
  ⟨hz.chg2 hs.c (fun k hk e => e.2 (hl k hk)), fun k hk => by rw [hs.k k (hz.on_lt hk) (.inr (hl k hk))]; exact hl k hk⟩
theorem LwJ.set (I : LwJ W K d Z g h o r l e st wr) (s : Bool) : LwJ W K d Z g h o r l e (some s) (wr.setCell ⟨K, 16, none⟩ (.bool s)) := by
  obtain ⟨σ, U, b, P, Q, h1, h2, h3, h4, h5, h6, h7⟩ := I.ex
  obtain ⟨p1, p2⟩ := h1.set8 (.bool s)
  obtain ⟨z1, z2⟩ := keepZ I.z h7 p2
  exact ⟨⟨σ, U, _, P, Q, p1, h2, h3, h4, (fun _ hs => some_eq (upd_same b.V 8 (.bool s)) hs), ⟨h6.g, h6.h, h6.o, h6.r, h6.l, h6.d, h6.g2, h6.h2, h6.o2, h6.r2, h6.l2, h6.d2⟩, z2⟩, z1⟩
theorem LwJ.step {s : Bool} (I : LwJ W K d Z g h o r l e (some s) wr) (sp : Stp) (ok : sp.ok W) (hg : g + 3000000 < 1000000000) (hh : h + 100 < 999990) (ho : o + 200 < 999990) (hr : r + 10 < 1000000) (hl : l + 10 < 1000000) (he : e + 10 < 1000000) :
    Calls Try.prog 17 #[.pointer (some ⟨K, 0, none⟩), .agg sp.cs] wr fun x w' => x = .returned (.bool true) ∧ LwJ W K d Z (g + 3000000) (h + 1) (o + 2) r (l + 2) e (some s) w' := by
  obtain ⟨σ, U, b, P, Q, h1, h2, h3, h4, h5, h6, h7⟩ := I.ex
  refine (step_any W wr σ K U b P Q sp.kd sp.c sp.tk sp.dv sp.bs sp.x s g h o r l e ⟨h1, h2, h5 s rfl, h6, ok.dvb, ok.dc, ok.bl, ok.xr, ok.xl, ok.xb, ok.kr, hg, hh, ho, hr, hl, he, by rw [h3]; exact h4⟩).mono ?_
  rintro x w' ⟨hx, σ', U', b', P', Q', p1, p2, p3, p4, p5, p6, p7⟩
  obtain ⟨z1, z2⟩ := keepZ I.z h7 p5
  exact ⟨hx, ⟨σ', U', b', P', Q', p1, p2, p3.trans h3, by rw [p4 2 (by omega), p4 3 (by omega), p4 4 (by omega), p4 5 (by omega), p4 6 (by omega), p4 7 (by omega)]; exact h4, (fun _ hs => some_eq p6 hs), p7, z2⟩, z1⟩
theorem LwJ.looks (I : LwJ W K d Z g h o r l e st wr) (hg : g < 1000000000) (hh : h < 1000000) (ho : o < 1000000) (hr : r < 1000000) (hl : l < 1000000) (he : e < 1000000) :
    Calls Try.prog 18 #[.pointer (some ⟨K, 8, none⟩)] wr fun x w' => x = .returned (.bool true) ∧ Kp wr w' := by
  obtain ⟨σ, U, b, P, Q, h1, h2, h3, h4, h5, h6, h7⟩ := I.ex
  exact looks_any wr σ K U b.V b.X b.G b.H b.O b.R b.L b.D b.E h1.bk (h6.bd hg hh ho hr hl he)
theorem LwJ.state {s : Bool} (I : LwJ W K d Z g h o r l e (some s) wr) (hh : h + 64 < 1000000) (ho : o + 128 < 1000000) (hr : r + 4 < 1000000) (he : e + 2 < 1000000) :
    Calls Try.prog 19 #[.pointer (some ⟨K, 0, none⟩)] wr fun x w' => x = .returned (.bool true) ∧ LwJ W K d Z g (h + 64) (o + 128) (r + 4) l (e + 2) (some s) w' := by
  obtain ⟨σ, U, b, P, Q, h1, h2, h3, h4, h5, h6, h7⟩ := I.ex
  refine (pstate_any W wr σ K U b P Q h1 h2 s (h5 s rfl) g h o r l e h6 hh ho hr he).mono ?_
  rintro x w' ⟨hx, σ', b', p1, p2, p3, p4⟩
  obtain ⟨z1, z2⟩ := keepZ I.z h7 p2
  exact ⟨hx, ⟨σ', U, b', P, Q, p1, h2, h3, h4, (fun _ hs => some_eq p3 hs), p4, z2⟩, z1⟩
theorem LwJ.ends (I : LwJ W K d Z g h o r l e st wr) (k : Kp wr w2) (hg : g < 1000000000) (hh : h < 1000000) (ho : o < 1000000) (hr : r < 1000000) (hl : l < 1000000) (he : e < 1000000) :
    Calls Try.prog 20 #[.pointer (some ⟨K, 8, none⟩)] w2 fun x w' => x = .returned (.bool true) ∧ Kp W w' ∧ ∀ A ob, wr.heap.size ≤ A → w2.heap[A]? = some ob → w'.heap[A]? = some ob := by
  obtain ⟨σ, U, b, P, Q, h1, h2, h3, h4, h5, h6, h7⟩ := I.ex
  have hk := h1.kp k
  refine (ends_any w2 σ K U b.V b.X b.G b.H b.O b.R b.L b.D b.E hk.bk (h6.bd hg hh ho hr hl he) (by have := h6.h; omega) (by have := h6.d; omega) (by have := h6.o; omega) (by have := h6.r; omega) h6.h2).mono ?_
  rintro x w' ⟨hx, hc⟩
  exact ⟨hx, Chg.trans hk.kW hc (fun k hk' e => by rw [h1.sW k hk'] at e; simp at e), fun A ob hA hb => hc.heap hb (fun e => by rw [h1.bk.m.fz A hA] at e; simp at e)⟩
end
end Go.Proofs.Ytnblhaeojlpmmaa
