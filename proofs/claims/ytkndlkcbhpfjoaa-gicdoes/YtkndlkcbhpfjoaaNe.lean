import Derived.Test.YtkndlkcbhpfjoaaNd
namespace Go.Proofs.Ytkndlkcbhpfjoaa
open Go.ChangeShapes Go.WideShapes Go.ChangeAt Go.RowKit Go.Shelf
set_option linter.unusedVariables false
def mkJ (s : GS) (c : Int) (m : Nat) (j : Nat) : GS := ⟨s.rt, s.pe, fun i => (s.ma i && !(decide (i < j) && s.ow c i)) || (m.testBit i && (decide (i < j) && s.ow c i))⟩
set_option maxHeartbeats 2000000 in
theorem fMask_any (w : World) (F R P M : Nat) (s : GS) (h : IsF w F R P M s) (hs : ∀ i, i < 32 → s.rt i ≤ 8) (c : Int) (m : Nat) (hm : m < 4294967296) :
    Calls Try.prog 43 #[.pointer (some ⟨F, 0, none⟩), .int .i64 c, .int .u32 (m : Nat)] w fun e w' => (∃ v, e = .returned v) ∧ IsF w' F R P M (s.mask c m) ∧ Chg w w' (fun k => k = M) := by
  have hC := fCell_any w c
  by_cases hc : 1 ≤ c ∧ c ≤ 8
  · have e0 : (decide (1 ≤ c) && decide (c ≤ 8)) = true := by simp [hc]
    rw [e0] at hC
    have HI0 : Hid (IsF w F R P M (mkJ s c m 0) ∧ Chg w w (fun k => k = M)) := ⟨h.ext (fun i hi => ⟨rfl, rfl, by simp [mkJ]⟩), Chg.refl _ _⟩
    have HC : Hid (1 ≤ c) := hc.1
    clear h e0 hc
    go_enter Try.func43, Try.ntmps43
    go_wp2_with fail
    go_at_call 54
    refine hC.mono ?_
    rintro e wz ⟨rfl, hwz⟩
    rw [hwz]
    clear hC hwz
    go_wp2
    go_loopw [7] (fun s7 wr => ∃ j : Nat, s7 = .int .i64 j ∧ j ≤ 32 ∧ Hid (IsF wr F R P M (mkJ s c m j) ∧ Chg w wr (fun k => k = M))) (fun s7 _ => 32 - (intOf s7).toNat)
    case atStart => exact ⟨0, rfl, by omega, HI0⟩
    case round =>
      obtain ⟨j, rfl, hj, HI⟩ := hrel
      clear HI0
      by_cases hlt : j < 32
      · have hjz : (j : Int) < 32 := by omega
        have c0 := HI.out.1.c0
        have c2 := HI.out.1.c2
        have cr : wr.cell? ⟨R, j, none⟩ = some (.int .i64 (s.rt j : Nat)) := HI.out.1.rt j hlt
        have cm := HI.out.1.ma j hlt
        have fm : wr.frozen? ⟨M, j, none⟩ = false := (cells_at HI.out.1.m j).2
        by_cases hr : (s.rt j : Int) = c
        · have how : s.ow c j = true := by unfold GS.ow; have : ¬ c = 0 := by have := HC.out; omega
                                           simp [hr, this]
          have HN : Hid (IsF (wr.drew.setCell ⟨M, j, none⟩ (.bool (m.testBit j))) F R P M (mkJ s c m (j + 1)) ∧ Chg w (wr.drew.setCell ⟨M, j, none⟩ (.bool (m.testBit j))) (fun k => k = M)) := ⟨((HI.out.1.kp ((Chg.refl wr _).drew)).setM j hlt (m.testBit j)).ext (fun i hi => ⟨rfl, rfl, by
            simp only [mkJ]
            by_cases e : i = j
            · subst e; simp [how]
            · have e2 : decide (i < j + 1) = decide (i < j) := by
                by_cases h1 : i < j
                · simp [h1]; omega
                · simp [h1]; omega
              rw [if_neg e, e2]⟩), Chg.setCell (S := fun k => k = M) HI.out.2.drew (.inl rfl) _⟩
          have hB := fBit_any wr.drew m hm j hlt
          have kd : Kp wr wr.drew := (Chg.refl wr _).drew
          have c0d := Kp.cell kd c0
          have c2d := Kp.cell kd c2
          have cmd := Kp.cell kd cm
          have fmd : wr.drew.frozen? ⟨M, j, none⟩ = false := fm
          clear how HI kd
          generalize (mkJ s c m j).ma j = pv at *
          generalize m.testBit j = tb at *
          go_upto_region 5 with fail
          go_region_with (go_at_call 55; with_reducible refine hB.mono ?_; rintro e wz ⟨rfl, hwz⟩; rw [hwz]; clear hwz)
          all_goals (try go_wp2)
          all_goals exact ⟨⟨j + 1, by go_num, by omega, HN⟩, by simp [intOf]; omega⟩
        · have how : s.ow c j = false := by unfold GS.ow; simp [hr]
          have hrb : ((s.rt j : Int) == c) = false := by rw [beq_eq_false_iff_ne]; exact hr
          have HN : Hid (IsF wr F R P M (mkJ s c m (j + 1)) ∧ Chg w wr (fun k => k = M)) := ⟨HI.out.1.ext (fun i hi => ⟨rfl, rfl, by
            simp only [mkJ]
            by_cases e : i = j
            · subst e; simp [how]
            · have e2 : decide (i < j + 1) = decide (i < j) := by
                by_cases h1 : i < j
                · simp [h1]; omega
                · simp [h1]; omega
              rw [e2]⟩), HI.out.2⟩
          clear how HI
          generalize (mkJ s c m j).ma j = pv at *
          go_wp2
          exact ⟨⟨j + 1, by go_num, by omega, HN⟩, by simp [intOf]; omega⟩
      · have hjz : ¬ (j : Int) < 32 := by omega
        obtain rfl : j = 32 := by omega
        go_wp2
        go_end0
        exact ⟨⟨_, rfl⟩, HI.out.1.ext (fun i hi => ⟨rfl, rfl, by simp [mkJ, GS.mask, hi]⟩), HI.out.2⟩
  · have e0 : (decide (1 ≤ c) && decide (c ≤ 8)) = false := by
      by_cases h1 : 1 ≤ c
      · by_cases h2 : c ≤ 8
        · exact absurd ⟨h1, h2⟩ hc
        · simp [h2]
      · simp [h1]
    rw [e0] at hC
    have HN : Hid (IsF w F R P M (s.mask c m)) := h.ext (fun i hi => ⟨rfl, rfl, by simp [GS.mask, ow_none s hs c hc i hi]⟩)
    clear h e0 hc
    go_enter Try.func43, Try.ntmps43
    go_wp2_with fail
    go_at_call 54
    refine hC.mono ?_
    rintro e wz ⟨rfl, hwz⟩
    rw [hwz]
    clear hC hwz
    go_wp2_with fail
    refine wp_loop_rounds 1 ?_
    rw [rounds_succ]
    go_wp2
    go_end0
    exact ⟨⟨_, rfl⟩, HN.out, Chg.refl _ _⟩
end Go.Proofs.Ytkndlkcbhpfjoaa
