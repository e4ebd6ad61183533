import Derived.Test.YtfolnmmlhknmiaaGreatDoorZj
namespace Go.Proofs.YtfolnmmlhknmiaaGreatDoor
open Go.ChangeShapes Go.WideShapes Go.ChangeAt Go.RowKit
set_option linter.unusedVariables false

/-- What MMULong holds to. -/
def LgI (p v : Nat) (x : Ms) : Prop := x.pages = 64 ∧ x.rt 1 = some 163840 ∧ x.s.f (1, p) = some (3, 3) ∧ ldN x.m 12304 4 = v ∧ x.hit 12304 = true
theorem LgI.next {p v : Nat} {x : Ms} (h : LgI p v x) : LgI p v ((x.oldS p).use 12304 false) := by
  obtain ⟨h1, h2, h3, h4, h5⟩ := h
  refine ⟨h1, h2, ?_, h4, use_hit8 _ _ _⟩
  show (x.s.look (1, p)).f (1, p) = some (3, 3)
  rw [look_f]; exact h3
theorem LgI.cost {p v : Nat} {x : Ms} (h : LgI p v x) : (x.oldS p).cost 12304 = 1 := cost_hit _ _ h.2.2.2.2
theorem ck33 : Ent.ck 1 3 3 = 0 := by decide
theorem LgI.first (p v n : Nat) (hv : v < 4294967296) : LgI p v { ((ms1 p 3 3 16 2 16 n).newS p 3 3).use 12304 true with m := stN (oneM p 3 3) 12304 v 4 } :=
  ⟨rfl, rfl, put_at _ _ _ _, ld_st_same _ _ _ hv, use_hit8 ((ms1 p 3 3 16 2 16 n).newS p 3 3) 12304 true⟩
/-- One load more. -/
theorem LgI.load {w0 w : World} {X : Nat} {b : Bl} {x : Ms} {p v : Nat} (h : St8 w0 w X b x) (hP : Ent.Pt w0) (hI : LgI p v x) (hp : p < 1048576) :
    Calls Tryz.prog 13 #[.pointer (some ⟨b.U, 0, none⟩), .int .i64 1, .int .u32 ((p : Int) * 4096 + 16), .int .i64 4] w fun e w' => e = .returned (.tuple #[.int .u32 (v : Nat), .int .i64 1, .int .i64 0]) ∧ ∃ b' x', St8 w0 w' X b' x' ∧ LgI p v x' ∧ b'.k ≤ b.k + 1 := by
  have hL := ld_again h hP (p := p) (f := 3) (pm := 3) (by omega) hI.1 hI.2.1 hI.2.2.1 (at_ := 4096 * p + 16) (by omega) (by omega) (by omega) (by decide)
  rw [show 4096 * 3 + (4096 * p + 16) % 4096 = 12304 by omega, hI.2.2.2.1, hI.cost, show (((4096 * p + 16 : Nat)) : Int) = (p : Int) * 4096 + 16 by omega] at hL
  refine hL.mono ?_
  rintro e w' ⟨rfl, l⟩
  obtain ⟨b', h', -, -, k'⟩ := h.step l
  exact ⟨rfl, b', _, h', hI.next, k'⟩
set_option maxHeartbeats 2000000 in
set_option maxRecDepth 10000 in
theorem long_walk (w : World) (hP : Ent.Pt w) (page slots many : Int) (i1 : Ent.InI page) (i2 : Ent.InI slots) (i3 : Ent.InI many) (v : Nat) (hv : v < 4294967296) :
    Calls Tryz.prog 3 #[.int .i64 page, .int .i64 slots, .int .i64 many, .int .u32 v] w fun e w' => e = .returned (.bool true) ∧ Chg w w' (fun _ => False) := by
  have hWo := works_any w hP
  have hp1 := fun w => pick_any w page 1048576 (by omega) (by omega) i1.1 i1.2
  have hp2 := fun w => pick_any w slots 64 (by omega) (by omega) i2.1 i2.2
  have hp3 := fun w => pick_any w many 6000 (by omega) (by omega) i3.1 i3.2
  have l1 := pk_lt page 1048576 (by omega)
  have l2 := pk_lt slots 64 (by omega)
  have l3 := pk_lt many 6000 (by omega)
  simp only [show (((1048576 : Nat)) : Int) = 1048576 from rfl, show (((64 : Nat)) : Int) = 64 from rfl, show (((6000 : Nat)) : Int) = 6000 from rfl] at hp1 hp2 hp3
  generalize pk page 1048576 = p at *
  generalize pk slots 64 = q at *
  generalize pk many 6000 = N at *
  have HP : Hid (Ent.Pt w) := hP
  clear hP i1 i2 i3
  go_enter Tryz.func3, Tryz.ntmps3
  go_wp2_with fail
  go_at_call 9
  refine hWo.mono ?_
  rintro e w1 ⟨rfl, c1⟩
  clear hWo
  go_wp2_with fail
  go_at_call 10
  refine (hp1 _).mono ?_
  rintro e w1' ⟨rfl, e1⟩
  rw [e1]
  clear e1 hp1
  have HC1 : Hid (Chg w w1 (fun _ => False)) := c1
  clear c1
  go_wp2_with fail
  go_at_call 10
  refine (hp2 _).mono ?_
  rintro e w2' ⟨rfl, e2⟩
  rw [e2]
  clear e2 hp2
  go_wp2_with fail
  go_at_call 11
  obtain ⟨w2, hw2⟩ : ∃ w2, w2 = (w1.alloc (.cells #[.int .u32 ((4096 * p : Nat) : Int), .int .u32 ((4096 * 3 : Nat) : Int), .int .i64 1, .int .u8 ((3 : Nat) : Int)] 29)).alloc (.cells #[.slice (some ⟨w1.heap.size, 0, none⟩) 1 1] 30) := ⟨_, rfl⟩
  obtain ⟨t1, t2, t3, t4⟩ := lit8 w1 p 3 3 l1 (by omega) (by omega) w2 hw2
  rw [show (((4096 * p : Nat)) : Int) = (p : Int) * 4096 by omega, show (((4096 * 3 : Nat)) : Int) = 12288 from rfl, show (((3 : Nat)) : Int) = 3 from rfl] at hw2
  have hMp := mapped_ok w2 (w1.heap.size + 1) 1 w1.heap.size 1 p 3 3 l1 (by omega) ck33 t1 t2 t3 16 2 16 (1 + q) sh16 pow16 pow16 (by omega) (by omega)
  rw [show (((16 : Nat)) : Int) = 16 from rfl, show (((2 : Nat)) : Int) = 2 from rfl, show (((1 + q : Nat)) : Int) = 1 + (q : Int) by omega] at hMp
  have H : Hid (Ent.Pt w2 ∧ Chg w w2 (fun _ => False)) := ⟨Pt_chg (Pt_chg HP.out HC1.out) t4, HC1.out.tr t4⟩
  clear t1 t2 t3 t4 HP HC1
  rw [← hw2]
  refine hMp.mono ?_
  rintro e w3 ⟨X, b, rfl, h3, hk3⟩
  clear hMp hw2
  obtain ⟨-, x3⟩ := h3.cells
  have hSt := st_first h3 H.out.1 (p := p) (f := 3) (pm := 3) l1 (by omega) ck33 rfl rfl (oneT_made l1 ck33) rfl (at_ := 4096 * p + 16) (by omega) (by omega) (by omega) (by decide) (by omega) hv
  rw [show 4096 * 3 + (4096 * p + 16) % 4096 = 12304 by omega, show (((4096 * p + 16 : Nat)) : Int) = (p : Int) * 4096 + 16 by omega] at hSt
  generalize (ms1 p 3 3 16 2 16 (1 + q)).newC p 3 3 + ((ms1 p 3 3 16 2 16 (1 + q)).newS p 3 3).cost 12304 = cyc at hSt
  have K3 : Hid (St8 w2 w3 X b (ms1 p 3 3 16 2 16 (1 + q)) ∧ b.k = 0) := ⟨h3, hk3⟩
  clear h3 hk3
  go_wp2_with fail
  go_at_call 12
  refine hSt.mono ?_
  rintro e w4 ⟨rfl, l4⟩
  clear hSt x3
  obtain ⟨b4, h4, -, -, k4⟩ := K3.out.1.step l4
  have hI4 : LgI p v _ := LgI.first p v (1 + q) hv
  obtain ⟨-, x3⟩ := h4.cells
  have hLd := LgI.load h4 H.out.1 hI4 l1
  have K4 : Hid (b4.k ≤ 1) := by have := K3.out.2; show b4.k ≤ 1; omega
  clear l4 h4 hI4 k4 K3
  go_wp2_with fail
  go_at_call 13
  refine hLd.mono ?_
  rintro e w5 ⟨rfl, b5, y5, h5, hI5, k5⟩
  clear hLd x3
  have K5 : Hid (∃ b x, St8 w2 w5 X b x ∧ LgI p v x ∧ b.k ≤ 10 + 0) := ⟨b5, y5, h5, hI5, by have := K4.out; omega⟩
  clear h5 hI5 k5 K4
  go_wp2_with fail
  go_loopw [17, 18, 19, 20] (fun s17 s18 s19 s20 wr => ∃ i : Nat, s17 = .int .i64 i ∧ i ≤ N ∧ Hid (∃ b x, St8 w2 wr X b x ∧ LgI p v x ∧ b.k ≤ 10 + i)) (fun s17 _ _ _ _ => N - (intOf s17).toNat)
  case atStart => exact ⟨0, rfl, by omega, K5⟩
  case round =>
    obtain ⟨i, rfl, hi, HI⟩ := hrel
    clear K5
    by_cases hlt : i < N
    · have hiz : (i : Int) < (N : Int) := by omega
      obtain ⟨b6, y6, h6, hI6, k6⟩ := HI.out
      obtain ⟨-, x3⟩ := h6.cells
      have hLd := LgI.load h6 H.out.1 hI6 l1
      have K6 : Hid (b6.k ≤ 10 + i) := k6
      clear h6 hI6 k6 HI
      go_wp2_with fail
      go_at_call 10
      refine (hp3 _).mono ?_
      rintro e wz ⟨rfl, ez⟩
      rw [ez]
      clear ez
      go_wp2_with fail
      go_at_call 13
      refine hLd.mono ?_
      rintro e w7 ⟨rfl, b7, y7, h7, hI7, k7⟩
      clear hLd x3
      have K7 : Hid (∃ b x, St8 w2 w7 X b x ∧ LgI p v x ∧ b.k ≤ 10 + (i + 1)) := ⟨b7, y7, h7, hI7, by have := K6.out; omega⟩
      clear h7 hI7 k7 K6
      go_wp2_with fail
      exact ⟨⟨i + 1, by go_num, by omega, K7⟩, by simp [intOf]; omega⟩
    · have hiz : ¬ (i : Int) < (N : Int) := by omega
      obtain ⟨b6, y6, h6, hI6, k6⟩ := HI.out
      have HE : Hid (Chg w wr (fun _ => False)) := H.out.2.tr h6.c
      clear h6 hI6 k6 HI
      go_wp2_with fail
      go_at_call 10
      refine (hp3 _).mono ?_
      rintro e wz ⟨rfl, ez⟩
      rw [ez]
      clear ez
      go_wp2_with fail
      go_ret
      exact ⟨rfl, HE.out⟩
end Go.Proofs.YtfolnmmlhknmiaaGreatDoor
