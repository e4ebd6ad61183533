import Derived.Test.YtfolnmmlhknmiaaGreatDoorZh
namespace Go.Proofs.YtfolnmmlhknmiaaGreatDoor
open Go.ChangeShapes Go.WideShapes Go.ChangeAt Go.RowKit
set_option linter.unusedVariables false

theorem St8.step {w0 w w' : World} {X : Nat} {b : Bl} {x x' : Ms} (h : St8 w0 w X b x) (hL : Lv w b x' w') : ∃ b', St8 w0 w' X b' x' ∧ b'.U = b.U ∧ b'.B = b.B ∧ b'.k ≤ b.k + 1 := by
  obtain ⟨b', u, g, c, k, q⟩ := hL
  have hXl := (Array.getElem?_eq_some_iff.1 h.box).1
  have hz := h.c.size
  refine ⟨b', ⟨?_, u, fun e => ?_, h.c.trans c (fun i hi e => ?_), fun i hi => ?_, h.newX⟩, g.1, g.2.2.2.1, k⟩
  · have := c.heap h.box h.nx
    rw [g.1, g.2.2.1, g.2.2.2.1, g.2.2.2.2.2.1]
    exact this
  · rcases g.2.2.2.2.2.2.2 _ e with t | t
    · exact h.nx t
    · omega
  · have := h.new i e; omega
  · rcases g.2.2.2.2.2.2.2 _ hi with t | t
    · exact h.new i t
    · omega
theorem St8.later {w0 w w' : World} {X : Nat} {b : Bl} {x : Ms} (h : St8 w0 w X b x) (hc : Chg w w' (fun _ => False)) : St8 w0 w' X b x :=
  ⟨hc.heap h.box (fun e => e), h.u.kept hc (fun _ _ e => e), h.nx, h.c.tr hc, h.new, h.newX⟩
theorem St8.cells {w0 w : World} {X : Nat} {b : Bl} {x : Ms} (h : St8 w0 w X b x) : w.cell? ⟨X, 0, none⟩ = some (.pointer (some ⟨b.B, 0, none⟩)) ∧ w.cell? ⟨X, 3, none⟩ = some (.pointer (some ⟨b.U, 0, none⟩)) := ⟨(Cac.cells_at h.box 0).1, (Cac.cells_at h.box 3).1⟩
theorem St8.zero {w0 w : World} {X : Nat} {b : Bl} {x : Ms} (h : St8 w0 w X b x) (hP : Ent.Pt w0) : ¬ b.all 0 := fun e => by
  have := World.block_lt_of_cell? w0 _ hP.a0
  have := h.new 0 e
  simp only at *
  omega
theorem St8.pt {w0 w : World} {X : Nat} {b : Bl} {x : Ms} (h : St8 w0 w X b x) (hP : Ent.Pt w0) : Ent.Pt w := Pt_chg hP h.c
/-- What the first access of a page leaves, ahead of its own use. -/
def Ms.way (p f pm : Nat) : List (Nat × Nat) := [(163840 + 4 * (p / 1024), 167953), (167936 + 4 * (p % 1024), Ent.wd 1 pm f)]
def Ms.newS (x : Ms) (p f pm : Nat) : Ms := { (x.steps (Ms.way p f pm)).2 with s := x.s.put x.n (1, p) (f, pm) }
def Ms.newC (x : Ms) (p f pm : Nat) : Int := (x.steps (Ms.way p f pm)).1
def Ms.oldS (x : Ms) (p : Nat) : Ms := { x with s := x.s.look (1, p) }
theorem alF_four {at_ : Nat} (h : at_ % 4 = 0) : alF at_ 4 = true := by simp [alF, h]
theorem InI_small {a : Int} (h1 : 0 ≤ a) (h2 : a ≤ 100) : Ent.InI a := ⟨by omega, by omega⟩
theorem tc_first {w0 w : World} {X : Nat} {b : Bl} {x : Ms} (h : St8 w0 w X b x) (hP : Ent.Pt w0) {p f pm : Nat} (hp : p < 1048576) (hf : f < 64) (hck : Ent.ck 1 pm f = 0) (hpg : x.pages = 64) (hr : x.rt 1 = some 163840) (hT : OneT x.m p f pm) (hs : x.s.f (1, p) = none) {at_ : Nat} (ha : at_ < 4294967296) (hap : at_ / 4096 = p) {a : Int} (h1 : 0 ≤ a) (h2 : a ≤ 100) (hal : Ent.alw pm a = true) (hk : b.k ≤ 2000000) :
    TrC w b x 1 at_ a (4096 * f + at_ % 4096) (x.newC p f pm) 0 (x.newS p f pm) ∧ (0 ≤ x.newC p f pm ∧ x.newC p f pm ≤ 40) := by
  have hw : wk x.pages x.m 163840 at_ a = (4096 * f + at_ % 4096, Ms.way p f pm, 0) := by rw [hpg]; exact hT.wk hck hf hp hap hal
  have := tc_new (h.pt hP) h.u (h.zero hP) 1 (InI_small (by omega) (by omega)) at_ ha a (InI_small h1 h2) hr (by omega) (by rw [hap]; exact hs) hw hk
  rw [hap] at this
  obtain ⟨d1, d2, d3, d4⟩ := Ent.dec_enc hck
  simp only [d3, d4] at this
  have hl := x.steps_le (Ms.way p f pm) 2 (by simp [Ms.way])
  rw [show (Ms.way p f pm).take 2 = Ms.way p f pm from rfl] at hl
  exact ⟨this, hl.1, by unfold Ms.newC; omega⟩
theorem tc_again {w0 w : World} {X : Nat} {b : Bl} {x : Ms} (h : St8 w0 w X b x) (hP : Ent.Pt w0) {p f pm : Nat} (hf : f < 64) (hpg : x.pages = 64) (hr : x.rt 1 = some 163840) (hs : x.s.f (1, p) = some (f, pm)) {at_ : Nat} (ha : at_ < 4294967296) (hap : at_ / 4096 = p) {a : Int} (h1 : 0 ≤ a) (h2 : a ≤ 100) :
    TrC w b x 1 at_ a (wiF 64 (f, pm) at_ a).1 0 (wiF 64 (f, pm) at_ a).2 (x.oldS p) := by
  have := tc_hit (h.pt hP) h.u (h.zero hP) 1 (InI_small (by omega) (by omega)) at_ ha a (InI_small h1 h2) hr (mp := (f, pm)) (by rw [hap]; exact hs)
  have e : wiF x.pages (f, pm) at_ a = wiF 64 (f, pm) at_ a := by rw [hpg]
  rw [hap, e] at this
  exact this
theorem wiF_ok {f pm at_ : Nat} {a : Int} (hf : f < 64) (hal : Ent.alw pm a = true) : wiF 64 (f, pm) at_ a = (4096 * f + at_ % 4096, 0) := by
  unfold wiF
  rw [if_neg (by simp [hal]), if_neg (by simp only; omega)]
theorem wiF_no {f pm at_ : Nat} {a : Int} (hal : Ent.alw pm a = false) : wiF 64 (f, pm) at_ a = (0, 5) := by
  unfold wiF
  rw [if_pos hal]
theorem newS_m (x : Ms) (p f pm : Nat) : (x.newS p f pm).m = x.m ∧ (x.newS p f pm).pages = x.pages ∧ (x.newS p f pm).rt = x.rt ∧ (x.newS p f pm).n = x.n ∧ (x.newS p f pm).s = x.s.put x.n (1, p) (f, pm) := ⟨rfl, rfl, rfl, rfl, rfl⟩
theorem put_at (s : Tlb.Sta) (n : Nat) (t : Tlb.Tg) (m : Tlb.Mp) : (s.put n t m).f t = some m := by
  unfold Tlb.Sta.put Tlb.Sta.set
  simp
theorem look_f (s : Tlb.Sta) (t : Tlb.Tg) : (s.look t).f = s.f := by
  unfold Tlb.Sta.look
  split <;> rfl
/-- Loads and stores of a word. -/
theorem ld_first {w0 w : World} {X : Nat} {b : Bl} {x : Ms} (h : St8 w0 w X b x) (hP : Ent.Pt w0) {p f pm : Nat} (hp : p < 1048576) (hf : f < 64) (hck : Ent.ck 1 pm f = 0) (hpg : x.pages = 64) (hr : x.rt 1 = some 163840) (hT : OneT x.m p f pm) (hs : x.s.f (1, p) = none) {at_ : Nat} (ha : at_ < 4294967296) (hap : at_ / 4096 = p) (h4 : at_ % 4 = 0) (hal : Ent.alw pm 1 = true) (hk : b.k ≤ 2000000) :
    Calls Tryz.prog 13 #[.pointer (some ⟨b.U, 0, none⟩), .int .i64 1, .int .u32 at_, .int .i64 4] w fun e w' => e = .returned (.tuple #[.int .u32 (ldN x.m (4096 * f + at_ % 4096) 4 : Nat), .int .i64 (x.newC p f pm + (x.newS p f pm).cost (4096 * f + at_ % 4096)), .int .i64 0]) ∧ Lv w b ((x.newS p f pm).use (4096 * f + at_ % 4096) false) w' := by
  obtain ⟨t1, t2⟩ := tc_first h hP hp hf hck hpg hr hT hs ha hap (a := 1) (by omega) (by omega) hal hk
  have hR := reach_ok ha (by omega) (by omega) t1 4 (alF_four h4)
  exact load_good (size := 4) (y := (x.newS p f pm).use (4096 * f + at_ % 4096) false) (by omega) (by omega) (by show _ ≤ 4096 * x.pages; rw [hpg]; omega) hR
theorem ld_again {w0 w : World} {X : Nat} {b : Bl} {x : Ms} (h : St8 w0 w X b x) (hP : Ent.Pt w0) {p f pm : Nat} (hf : f < 64) (hpg : x.pages = 64) (hr : x.rt 1 = some 163840) (hs : x.s.f (1, p) = some (f, pm)) {at_ : Nat} (ha : at_ < 4294967296) (hap : at_ / 4096 = p) (h4 : at_ % 4 = 0) (hal : Ent.alw pm 1 = true) :
    Calls Tryz.prog 13 #[.pointer (some ⟨b.U, 0, none⟩), .int .i64 1, .int .u32 at_, .int .i64 4] w fun e w' => e = .returned (.tuple #[.int .u32 (ldN x.m (4096 * f + at_ % 4096) 4 : Nat), .int .i64 ((x.oldS p).cost (4096 * f + at_ % 4096)), .int .i64 0]) ∧ Lv w b ((x.oldS p).use (4096 * f + at_ % 4096) false) w' := by
  have t1 := tc_again h hP hf hpg hr hs ha hap (a := 1) (by omega) (by omega)
  rw [wiF_ok hf hal] at t1
  have hR := reach_ok ha (by omega) (by omega) t1 4 (alF_four h4)
  rw [Int.zero_add] at hR
  exact load_good (size := 4) (y := (x.oldS p).use (4096 * f + at_ % 4096) false) (by omega) (by omega) (by show _ ≤ 4096 * x.pages; rw [hpg]; omega) hR
theorem st_first {w0 w : World} {X : Nat} {b : Bl} {x : Ms} (h : St8 w0 w X b x) (hP : Ent.Pt w0) {p f pm : Nat} (hp : p < 1048576) (hf : f < 64) (hck : Ent.ck 1 pm f = 0) (hpg : x.pages = 64) (hr : x.rt 1 = some 163840) (hT : OneT x.m p f pm) (hs : x.s.f (1, p) = none) {at_ : Nat} (ha : at_ < 4294967296) (hap : at_ / 4096 = p) (h4 : at_ % 4 = 0) (hal : Ent.alw pm 2 = true) (hk : b.k ≤ 2000000) {v : Nat} (hv : v < 4294967296) :
    Calls Tryz.prog 12 #[.pointer (some ⟨b.U, 0, none⟩), .int .i64 1, .int .u32 at_, .int .i64 4, .int .u32 v] w fun e w' => e = .returned (.tuple #[.int .i64 (x.newC p f pm + (x.newS p f pm).cost (4096 * f + at_ % 4096)), .int .i64 0]) ∧ Lv w b { (x.newS p f pm).use (4096 * f + at_ % 4096) true with m := stN x.m (4096 * f + at_ % 4096) v 4 } w' := by
  obtain ⟨t1, t2⟩ := tc_first h hP hp hf hck hpg hr hT hs ha hap (a := 2) (by omega) (by omega) hal hk
  have hR := reach_ok ha (by omega) (by omega) t1 4 (alF_four h4)
  exact store_good (size := 4) hv (y := (x.newS p f pm).use (4096 * f + at_ % 4096) true) (by omega) (by omega) (by show _ ≤ 4096 * x.pages; rw [hpg]; omega) hR
theorem st_no {w0 w : World} {X : Nat} {b : Bl} {x : Ms} (h : St8 w0 w X b x) (hP : Ent.Pt w0) {p f pm : Nat} (hf : f < 64) (hpg : x.pages = 64) (hr : x.rt 1 = some 163840) (hs : x.s.f (1, p) = some (f, pm)) {at_ : Nat} (ha : at_ < 4294967296) (hap : at_ / 4096 = p) (h4 : at_ % 4 = 0) (hal : Ent.alw pm 2 = false) {v : Nat} :
    Calls Tryz.prog 12 #[.pointer (some ⟨b.U, 0, none⟩), .int .i64 1, .int .u32 at_, .int .i64 4, .int .u32 v] w fun e w' => e = .returned (.tuple #[.int .i64 0, .int .i64 5]) ∧ Lv w b (x.oldS p) w' := by
  have t1 := tc_again h hP hf hpg hr hs ha hap (a := 2) (by omega) (by omega)
  rw [wiF_no hal] at t1
  exact store_bad8 (by omega) (reach_bad ha (by omega) t1 4 (alF_four h4))
theorem ld_none {w0 w : World} {X : Nat} {b : Bl} {x : Ms} (h : St8 w0 w X b x) {cell : Int} (hc : Ent.InI cell) (hr : x.rt cell = none) {at_ : Nat} (ha : at_ < 4294967296) (h4 : at_ % 4 = 0) :
    Calls Tryz.prog 13 #[.pointer (some ⟨b.U, 0, none⟩), .int .i64 cell, .int .u32 at_, .int .i64 4] w fun e w' => e = .returned (.tuple #[.int .u32 0, .int .i64 0, .int .i64 3]) ∧ Lv w b x w' :=
  load_bad8 (by omega) (reach_bad ha (by omega) (tc_none h.u cell hc at_ 1 hr) 4 (alF_four h4))
/-- Right behind an access its line is there. -/
theorem use_hit8 (x : Ms) (a : Nat) (wr : Bool) : (x.use a wr).hit a = true := by
  unfold Ms.hit Ms.use
  simp only [Cac.setS, if_true]
  unfold Cac.hitL Cac.useL Cac.atT
  simp [List.findIdx_cons]
theorem cost_hit (x : Ms) (a : Nat) (h : x.hit a = true) : x.cost a = 1 := by
  unfold Ms.cost Ms.back
  rw [h]
  unfold Ms.hit at h
  unfold Cac.backL
  rw [h]
  rfl
/-- A range in a literal. -/
theorem lit8 (w : World) (p f pm : Nat) (hp : p < 1048576) (hf : f < 64) (hpm : pm < 256) (w2 : World) (h : w2 = (w.alloc (.cells #[.int .u32 ((4096 * p : Nat) : Int), .int .u32 ((4096 * f : Nat) : Int), .int .i64 1, .int .u8 (pm : Nat)] 29)).alloc (.cells #[.slice (some ⟨w.heap.size, 0, none⟩) 1 1] 30)) :
    w2.cell? ⟨w.heap.size + 1, 0, none⟩ = some (.slice (some ⟨w.heap.size, 0, none⟩) 1 1) ∧ RgsIn w2 (some ⟨w.heap.size, 0, none⟩) [oneR p f pm] ∧ w.heap.size < w2.heap.size ∧ Chg w w2 (fun _ => False) := by
  have g1 := heap_alloc_new w (.cells #[.int .u32 ((4096 * p : Nat) : Int), .int .u32 ((4096 * f : Nat) : Int), .int .i64 1, .int .u8 (pm : Nat)] 29)
  have g2 := heap_alloc_new (w.alloc (.cells #[.int .u32 ((4096 * p : Nat) : Int), .int .u32 ((4096 * f : Nat) : Int), .int .i64 1, .int .u8 (pm : Nat)] 29)) (.cells #[.slice (some ⟨w.heap.size, 0, none⟩) 1 1] 30)
  rw [Ent.al_size] at g2
  rw [← h] at g2
  have g3 : w2.heap[w.heap.size]? = some (.cells #[.int .u32 ((4096 * p : Nat) : Int), .int .u32 ((4096 * f : Nat) : Int), .int .i64 1, .int .u8 (pm : Nat)] 29 (0, 0)) := by rw [h]; exact Ent.al_old _ g1
  refine ⟨(Cac.cells_at g2 0).1, ⟨by simp, fun r hr => ?_, .inr ⟨_, _, rfl, fun i hi => ?_⟩⟩, (Array.getElem?_eq_some_iff.1 g3).1, by rw [h]; exact ((Chg.refl _ _).alloc _).alloc _⟩
  · simp only [List.mem_singleton] at hr
    subst hr
    unfold Rv.ok oneR
    simp only
    omega
  · have e : i = 0 := by simpa using hi
    subst e
    exact ⟨(Cac.cells_at g3 0).1, (Cac.cells_at g3 1).1, (Cac.cells_at g3 2).1, (Cac.cells_at g3 3).1⟩
end Go.Proofs.YtfolnmmlhknmiaaGreatDoor
namespace Go.Proofs.YtfolnmmlhknmiaaGreatDoor
open Go.ChangeShapes Go.WideShapes Go.ChangeAt Go.RowKit
set_option linter.unusedVariables false

/-- The example's set, with other bytes in its memory. -/
def wx (m : Nat → Nat) : Ms := { ms1 1024 5 1 16 2 16 4 with m := m }
theorem wx_first (m : Nat → Nat) : (wx m).newC 1024 5 1 + ((wx m).newS 1024 5 1).cost 20480 = 36 := by kernel_rfl
def wx2 (m : Nat → Nat) : Ms := ((wx m).newS 1024 5 1).use 20480 false
theorem wx2_s (m : Nat → Nat) : (wx2 m).s.f (1, 1024) = some (5, 1) := put_at _ _ _ _
theorem wx2_cost (m : Nat → Nat) : ((wx2 m).oldS 1024).cost 20484 = 1 := cost_hit _ _ (by kernel_rfl)
def wx3 (m : Nat → Nat) : Ms := ((wx2 m).oldS 1024).use 20484 false
theorem wx3_s (m : Nat → Nat) : (wx3 m).s.f (1, 1024) = some (5, 1) := by
  show ((wx2 m).s.look (1, 1024)).f (1, 1024) = some (5, 1)
  rw [look_f]; exact wx2_s m
theorem ck15 : Ent.ck 1 1 5 = 0 := by decide
theorem sh16 : Cac.ShOk 16 2 16 := ⟨by omega, by omega, by omega, by omega, by omega, by omega⟩
theorem pow16 : Cac.Pow 16 := by unfold Cac.Pow; omega
set_option maxHeartbeats 1000000 in
set_option maxRecDepth 10000 in
theorem works_any (w : World) (hP : Ent.Pt w) : Calls Tryz.prog 9 #[] w fun e w' => e = .returned (.bool true) ∧ Chg w w' (fun _ => False) := by
  obtain ⟨w2, hw2⟩ : ∃ w2, w2 = (w.alloc (.cells #[.int .u32 ((4096 * 1024 : Nat) : Int), .int .u32 ((4096 * 5 : Nat) : Int), .int .i64 1, .int .u8 ((1 : Nat) : Int)] 29)).alloc (.cells #[.slice (some ⟨w.heap.size, 0, none⟩) 1 1] 30) := ⟨_, rfl⟩
  obtain ⟨l1, l2, l3, l4⟩ := lit8 w 1024 5 1 (by omega) (by omega) (by omega) w2 hw2
  rw [show (((4096 * 1024 : Nat)) : Int) = 4194304 from rfl, show (((4096 * 5 : Nat)) : Int) = 20480 from rfl, show (((1 : Nat)) : Int) = 1 from rfl] at hw2
  have hMp := mapped_ok w2 (w.heap.size + 1) 1 w.heap.size 1 1024 5 1 (by omega) (by omega) ck15 l1 l2 l3 16 2 16 4 sh16 pow16 pow16 (by omega) (by omega)
  rw [show (((16 : Nat)) : Int) = 16 from rfl, show (((2 : Nat)) : Int) = 2 from rfl, show (((4 : Nat)) : Int) = 4 from rfl] at hMp
  have H : Hid (Ent.Pt w2 ∧ Chg w w2 (fun _ => False)) := ⟨Pt_chg hP l4, l4⟩
  clear l1 l2 l3 l4 hP
  go_enter Tryz.func9, Tryz.ntmps9
  go_wp2_with fail
  go_at_call 11
  rw [← hw2]
  refine hMp.mono ?_
  rintro e w3 ⟨X, b, rfl, h3, hk3⟩
  clear hMp hw2
  obtain ⟨x0, x3⟩ := h3.cells
  have hSt := store_ok w3 b.B b.M 64 b.f (oneM 1024 5 1) h3.u.mem 20484 4 77 (by omega) (by omega) (by omega) (by omega)
  rw [show (((20484 : Nat)) : Int) = 20484 from rfl, show (((4 : Nat)) : Int) = 4 from rfl, show (((77 : Nat)) : Int) = 77 from rfl] at hSt
  have K3 : Hid (St8 w2 w3 X b (ms1 1024 5 1 16 2 16 4) ∧ b.k = 0) := ⟨h3, hk3⟩
  clear h3 hk3 x3
  go_wp2_with fail
  go_at_call 15
  refine hSt.mono ?_
  rintro e w4 ⟨f4, rfl, m4, c4, gr4⟩
  clear hSt x0
  obtain ⟨u4, g4⟩ := K3.out.1.u.stored m4 c4 (fun i _ e => e) (fun i hi => by
    rcases hi with e | e | ⟨q, e⟩
    · exact .inl (.inl e)
    · exact .inl (.inr (.inl e))
    · rcases gr4 q i e with t | t
      · exact .inl (.inr (.inr ⟨q, t⟩))
      · exact .inr t)
  have hL4 : Lv w3 b (wx (stN (oneM 1024 5 1) 20484 77 4)) w4 := ⟨_, u4, g4, c4.mono (fun _ _ e => .inr (.inr (.inr (.inl e)))), Nat.le_succ _, rfl⟩
  obtain ⟨b4, h4, e4, -, k4⟩ := K3.out.1.step hL4
  obtain ⟨-, x3⟩ := h4.cells
  have hO : OneT (stN (oneM 1024 5 1) 20484 77 4) 1024 5 1 := (oneT_made (by omega) ck15).store (by omega) 77
  have hL1 := ld_first h4 H.out.1 (p := 1024) (f := 5) (pm := 1) (by omega) (by omega) ck15 rfl rfl hO rfl (at_ := 4194304) (by omega) (by omega) (by omega) (by decide) (by have := K3.out.2; omega)
  rw [show 4096 * 5 + 4194304 % 4096 = 20480 from rfl, wx_first, show (((4194304 : Nat)) : Int) = 4194304 from rfl] at hL1
  obtain ⟨V1, hV1⟩ : ∃ V, V = ldN (wx (stN (oneM 1024 5 1) 20484 77 4)).m 20480 4 := ⟨_, rfl⟩
  rw [← hV1] at hL1
  have K4 : Hid (St8 w2 w4 X b4 (wx (stN (oneM 1024 5 1) 20484 77 4)) ∧ b4.k ≤ 1) := ⟨h4, by have := K3.out.2; omega⟩
  clear u4 g4 hL4 h4 e4 k4 m4 c4 gr4 hO K3 hV1
  go_wp2_with fail
  go_at_call 13
  refine hL1.mono ?_
  rintro e w5 ⟨rfl, l5⟩
  clear hL1 x3
  obtain ⟨b5, h5, -, -, k5⟩ := K4.out.1.step l5
  obtain ⟨-, x3⟩ := h5.cells
  have hL2 := ld_again h5 H.out.1 (p := 1024) (f := 5) (pm := 1) (by omega) rfl rfl (wx2_s _) (at_ := 4194308) (by omega) (by omega) (by omega) (by decide)
  rw [show 4096 * 5 + 4194308 % 4096 = 20484 from rfl] at hL2
  have hL2' : Calls Tryz.prog 13 #[.pointer (some ⟨b5.U, 0, none⟩), .int .i64 1, .int .u32 4194308, .int .i64 4] w5 fun e w' => e = .returned (.tuple #[.int .u32 77, .int .i64 1, .int .i64 0]) ∧ Lv w5 b5 (wx3 (stN (oneM 1024 5 1) 20484 77 4)) w' := by
    refine hL2.mono ?_
    rintro e w' ⟨rfl, hl⟩
    refine ⟨?_, hl⟩
    have e1 : ldN (wx2 (stN (oneM 1024 5 1) 20484 77 4)).m 20484 4 = 77 := ld_st_same _ _ _ (by omega)
    have e2 := wx2_cost (stN (oneM 1024 5 1) 20484 77 4)
    unfold wx2 at e1 e2
    rw [e1, e2]
    rfl
  have K5 : Hid (St8 w2 w5 X b5 (wx2 (stN (oneM 1024 5 1) 20484 77 4))) := h5
  clear l5 h5 k5 hL2 K4
  go_wp2_with fail
  go_at_call 13
  refine hL2'.mono ?_
  rintro e w6 ⟨rfl, l6⟩
  clear hL2' x3
  obtain ⟨b6, h6, -, -, k6⟩ := K5.out.step l6
  obtain ⟨-, x3⟩ := h6.cells
  have hL3 := st_no h6 H.out.1 (p := 1024) (f := 5) (pm := 1) (by omega) rfl rfl (wx3_s _) (at_ := 4194304) (by omega) (by omega) (by omega) (by decide) (v := 1)
  rw [show (((4194304 : Nat)) : Int) = 4194304 from rfl, show (((1 : Nat)) : Int) = 1 from rfl] at hL3
  have K6 : Hid (St8 w2 w6 X b6 (wx3 (stN (oneM 1024 5 1) 20484 77 4))) := h6
  clear l6 h6 k6 K5
  go_wp2_with fail
  go_at_call 12
  refine hL3.mono ?_
  rintro e w7 ⟨rfl, l7⟩
  clear hL3 x3
  obtain ⟨b7, h7, -, -, k7⟩ := K6.out.step l7
  obtain ⟨-, x3⟩ := h7.cells
  have hL4 := ld_none h7 (cell := 2) (InI_small (by omega) (by omega)) rfl (at_ := 4194304) (by omega) (by omega)
  rw [show (((4194304 : Nat)) : Int) = 4194304 from rfl] at hL4
  have K7 : Hid (St8 w2 w7 X b7 ((wx3 (stN (oneM 1024 5 1) 20484 77 4)).oldS 1024)) := h7
  clear l7 h7 k7 K6
  go_wp2_with fail
  go_at_call 13
  refine hL4.mono ?_
  rintro e w8 ⟨rfl, l8⟩
  clear hL4 x3
  obtain ⟨b8, h8, -, -, k8⟩ := K7.out.step l8
  have HE : Hid (Chg w w8 (fun _ => False)) := H.out.2.tr h8.c
  clear l8 h8 k8 K7 H
  go_wp2_with fail
  go_ret
  exact ⟨rfl, HE.out⟩
end Go.Proofs.YtfolnmmlhknmiaaGreatDoor
