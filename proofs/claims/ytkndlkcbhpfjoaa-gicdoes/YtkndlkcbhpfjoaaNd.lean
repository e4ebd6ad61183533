import Derived.Test.YtkndlkcbhpfjoaaNa
namespace Go.Proofs.Ytkndlkcbhpfjoaa
open Go.ChangeShapes Go.WideShapes Go.ChangeAt Go.RowKit Go.Shelf
set_option linter.unusedVariables false
set_option maxHeartbeats 2000000 in
theorem fRaise_any (w : World) (F R P M : Nat) (s : GS) (h : IsF w F R P M s) (n : Int) :
    Calls Try.prog 42 #[.pointer (some ⟨F, 0, none⟩), .int .i64 n] w fun e w' => ∃ (x : Bool) (y : Int) (s' : GS), e = .returned (.tuple #[.bool x, .int .i64 y]) ∧ IsF w' F R P M s' ∧ Chg w w' (fun k => k = P) ∧ (¬ (0 ≤ n ∧ n < 32) → x = false ∧ y = 90 ∧ s' = s) ∧ (∀ l : Nat, l < 32 → n = l → x = s.rz l ∧ y = 0 ∧ s' = s.raise l) := by
  have hL := fLine_any w n
  by_cases hn : 0 ≤ n ∧ n < 32
  · obtain ⟨l, rfl⟩ : ∃ l : Nat, n = l := ⟨n.toNat, by omega⟩
    have hl : l < 32 := by omega
    have e0 : (decide (0 ≤ (l : Int)) && decide ((l : Int) < 32)) = true := by simp; omega
    rw [e0] at hL
    have hlz : (l : Int) < 32 := by omega
    have c0 := h.c0
    have c1 := h.c1
    have cr := h.rt l hl
    have cp := h.pe l hl
    have fp : w.frozen? ⟨P, l, none⟩ = false := (cells_at h.p l).2
    have HU : Hid (∀ l' : Nat, l' < 32 → (l : Int) = l' → l' = l) := fun l' _ e => by omega
    by_cases h0 : s.rt l = 0
    · have hz : s.rz l = false := by simp [GS.rz, h0]
      have HN : Hid (IsF w F R P M (s.raise l) ∧ s.rz l = false) := ⟨h.ext (fun i hi => ⟨rfl, by simp [GS.raise, hz], rfl⟩), hz⟩
      rw [h0] at cr
      change w.cell? ⟨R, l, none⟩ = some (.int .i64 0) at cr
      clear h hn e0 hz h0
      go_enter Try.func42, Try.ntmps42
      go_wp2_with fail
      go_at_call 53
      refine hL.mono ?_
      rintro e w1 ⟨rfl, rfl⟩
      clear hL
      go_wp2
      go_ret2
      exact ⟨false, 0, s.raise l, rfl, HN.out.1, Chg.refl _ _, fun hh => absurd ⟨by omega, hlz⟩ hh, fun l' h1 h2 => by rw [HU.out l' h1 h2]; exact ⟨HN.out.2.symm, rfl, rfl⟩⟩
    · have h0b : ((s.rt l : Int) == 0) = false := by rw [beq_eq_false_iff_ne]; omega
      cases hp : s.pe l with
      | true =>
        have hz : s.rz l = false := by simp [GS.rz, hp]
        have HN : Hid (IsF w F R P M (s.raise l) ∧ s.rz l = false) := ⟨h.ext (fun i hi => ⟨rfl, by simp [GS.raise, hz], rfl⟩), hz⟩
        rw [hp] at cp
        clear h hn e0 hz h0 hp
        go_enter Try.func42, Try.ntmps42
        go_wp2_with fail
        go_at_call 53
        refine hL.mono ?_
        rintro e w1 ⟨rfl, rfl⟩
        clear hL
        go_wp2
        go_ret2
        exact ⟨false, 0, s.raise l, rfl, HN.out.1, Chg.refl _ _, fun hh => absurd ⟨by omega, hlz⟩ hh, fun l' h1 h2 => by rw [HU.out l' h1 h2]; exact ⟨HN.out.2.symm, rfl, rfl⟩⟩
      | false =>
        have hz : s.rz l = true := by simp [GS.rz, hp, h0]
        have HN : Hid (IsF (w.setCell ⟨P, l, none⟩ (.bool true)) F R P M (s.raise l) ∧ s.rz l = true) := ⟨(h.setP l hl true).ext (fun i hi => ⟨rfl, by
          simp only [GS.raise, hz, Bool.and_true]
          by_cases e : i = l
          · simp [e]
          · simp [e], rfl⟩), hz⟩
        rw [hp] at cp
        clear h hn e0 hz h0 hp
        go_enter Try.func42, Try.ntmps42
        go_wp2_with fail
        go_at_call 53
        refine hL.mono ?_
        rintro e w1 ⟨rfl, rfl⟩
        clear hL
        go_wp2
        go_ret2
        exact ⟨true, 0, s.raise l, rfl, HN.out.1, Chg.setCell (S := fun k => k = P) (Chg.refl _ _) (.inl rfl) _, fun hh => absurd ⟨by omega, hlz⟩ hh, fun l' h1 h2 => by rw [HU.out l' h1 h2]; exact ⟨HN.out.2.symm, rfl, rfl⟩⟩
  · have e0 : (decide (0 ≤ n) && decide (n < 32)) = false := by
      by_cases h1 : 0 ≤ n
      · by_cases h2 : n < 32
        · exact absurd ⟨h1, h2⟩ hn
        · simp [h2]
      · simp [h1]
    rw [e0] at hL
    have HN : Hid (IsF w F R P M s ∧ ¬ (0 ≤ n ∧ n < 32)) := ⟨h, hn⟩
    clear h hn e0
    go_enter Try.func42, Try.ntmps42
    go_wp2_with fail
    go_at_call 53
    refine hL.mono ?_
    rintro e w1 ⟨rfl, rfl⟩
    clear hL
    go_wp2
    go_ret2
    exact ⟨false, 90, s, rfl, HN.out.1, Chg.refl _ _, fun _ => ⟨rfl, rfl, rfl⟩, fun l' h1 h2 => absurd ⟨by omega, by omega⟩ HN.out.2⟩
end Go.Proofs.Ytkndlkcbhpfjoaa
namespace Go.Proofs.Ytkndlkcbhpfjoaa
open Go.ChangeShapes Go.WideShapes Go.ChangeAt Go.RowKit Go.Shelf
set_option linter.unusedVariables false
theorem fRoute_line (w : World) (F : Nat) (n c : Int) (hn : ¬ (0 ≤ n ∧ n < 32)) :
    Calls Try.prog 41 #[.pointer (some ⟨F, 0, none⟩), .int .i64 n, .int .i64 c] w fun e w' => e = .returned (.int .i64 90) ∧ w' = w := by
  have hL := fLine_any w n
  have hC := fCell_any w c
  have e0 : (decide (0 ≤ n) && decide (n < 32)) = false := by
    by_cases h1 : 0 ≤ n
    · by_cases h2 : n < 32
      · exact absurd ⟨h1, h2⟩ hn
      · simp [h2]
    · simp [h1]
  rw [e0] at hL
  generalize (decide (1 ≤ c) && decide (c ≤ 8)) = bc at hC
  clear hn e0
  go_enter Try.func41, Try.ntmps41
  go_wp2_with fail
  go_at_call 53
  refine hL.mono ?_
  rintro e wz ⟨rfl, hwz⟩
  rw [hwz]
  clear hL hwz
  go_wp2_with fail
  go_at_call 54
  refine hC.mono ?_
  rintro e wz ⟨rfl, hwz⟩
  rw [hwz]
  clear hC hwz
  go_wp2
  go_ret
  exact ⟨rfl, rfl⟩
theorem fRoute_cell (w : World) (F : Nat) (n c : Int) (hn : 0 ≤ n ∧ n < 32) (hc : ¬ (0 ≤ c ∧ c ≤ 8)) :
    Calls Try.prog 41 #[.pointer (some ⟨F, 0, none⟩), .int .i64 n, .int .i64 c] w fun e w' => e = .returned (.int .i64 91) ∧ w' = w := by
  have hL := fLine_any w n
  have hC := fCell_any w c
  have e1 : (decide (0 ≤ n) && decide (n < 32)) = true := by simp [hn]
  have e0 : (decide (1 ≤ c) && decide (c ≤ 8)) = false := by
    by_cases h1 : 1 ≤ c
    · by_cases h2 : c ≤ 8
      · exact absurd ⟨by omega, h2⟩ hc
      · simp [h2]
    · simp [h1]
  have hcn : ¬ c = 0 := by omega
  have hcb : (c != 0) = true := by simpa using hcn
  rw [e1] at hL
  rw [e0] at hC
  clear hn e0 hc e1
  go_enter Try.func41, Try.ntmps41
  go_wp2_with fail
  go_at_call 53
  refine hL.mono ?_
  rintro e wz ⟨rfl, hwz⟩
  rw [hwz]
  clear hL hwz
  go_wp2_with fail
  go_at_call 54
  refine hC.mono ?_
  rintro e wz ⟨rfl, hwz⟩
  rw [hwz]
  clear hC hwz
  go_wp2
  go_ret
  exact ⟨rfl, rfl⟩
set_option maxHeartbeats 2000000 in
theorem fRoute_ok (w : World) (F R P M : Nat) (s : GS) (h : IsF w F R P M s) (l : Nat) (hl : l < 32) (c : Nat) (hc : c ≤ 8) :
    Calls Try.prog 41 #[.pointer (some ⟨F, 0, none⟩), .int .i64 (l : Nat), .int .i64 (c : Nat)] w fun e w' => e = .returned (.int .i64 0) ∧ IsF w' F R P M (s.route l c) ∧ Chg w w' (Ff F R P M) := by
  have hL := fLine_any w (l : Int)
  have hC := fCell_any w (c : Int)
  have e0 : (decide (0 ≤ (l : Int)) && decide ((l : Int) < 32)) = true := by simp; omega
  rw [e0] at hL
  have hlz : (l : Int) < 32 := by omega
  have c0 := h.c0
  have cr := h.rt l hl
  have fr : w.frozen? ⟨R, l, none⟩ = false := (cells_at h.r l).2
  obtain ⟨w1, hw1⟩ : ∃ w1, w1 = w.setCell ⟨R, l, none⟩ (.int .i64 (c : Nat)) := ⟨_, rfl⟩
  have i1 := h.setR l hl c
  rw [← hw1] at i1
  have d1 := i1.c1
  have p1 := i1.pe l hl
  have fp : w1.frozen? ⟨P, l, none⟩ = false := (cells_at i1.p l).2
  obtain ⟨w2, hw2⟩ : ∃ w2, w2 = w1.setCell ⟨P, l, none⟩ (.bool false) := ⟨_, rfl⟩
  have i2 := i1.setP l hl false
  rw [← hw2] at i2
  have d2 := i2.c2
  have m2 := i2.ma l hl
  have fm : w2.frozen? ⟨M, l, none⟩ = false := (cells_at i2.m l).2
  have i3 := i2.setM l hl false
  have HN : Hid (¬ s.rt l = c → IsF (w2.setCell ⟨M, l, none⟩ (.bool false)) F R P M (s.route l c) ∧ Chg w (w2.setCell ⟨M, l, none⟩ (.bool false)) (Ff F R P M)) := fun hr => by
    refine ⟨i3.ext (fun i hi => ?_), Chg.setCell (S := Ff F R P M) (by rw [hw2]; exact Chg.setCell (S := Ff F R P M) (by rw [hw1]; exact Chg.setCell (S := Ff F R P M) (Chg.refl _ _) (.inl (.inr (.inl rfl))) _) (.inl (.inr (.inr (.inl rfl)))) _) (.inl (.inr (.inr (.inr rfl)))) _⟩
    unfold GS.route
    rw [if_neg hr]
    refine ⟨rfl, ?_, ?_⟩
    · by_cases e : i = l <;> simp [e]
    · by_cases e : i = l <;> simp [e]
  have HY : Hid (s.rt l = c → IsF w F R P M (s.route l c)) := fun hr => by unfold GS.route; rw [if_pos hr]; exact h
  have HW1 : Hid (w1 = w.setCell ⟨R, l, none⟩ (.int .i64 (c : Nat))) := hw1
  have HW2 : Hid (w2 = w1.setCell ⟨P, l, none⟩ (.bool false)) := hw2
  have hcz : (c : Int) ≤ 8 := by omega
  generalize hbc : (decide (1 ≤ (c : Int)) && decide ((c : Int) ≤ 8)) = bc at hC
  have hbc2 : bc = false → (c : Int) = 0 := fun e => by
    rw [e] at hbc
    have : ¬ 1 ≤ (c : Int) := fun h1 => by simp [h1, hcz] at hbc
    omega
  clear h i1 i2 i3 hw1 hw2 hbc e0
  by_cases hr : s.rt l = c
  · have hrz : (s.rt l : Int) = (c : Int) := by omega
    have HZ := HY.out hr
    clear HY HN p1 fp d1 d2 m2 fm hr
    cases bc with
    | true =>
      clear hbc2
      go_enter Try.func41, Try.ntmps41
      go_wp2_with fail
      go_at_call 53
      refine hL.mono ?_
      rintro e wz ⟨rfl, hwz⟩
      rw [hwz]
      clear hL hwz
      go_wp2_with fail
      go_at_call 54
      refine hC.mono ?_
      rintro e wz ⟨rfl, hwz⟩
      rw [hwz]
      clear hC hwz
      go_wp2
      go_ret
      exact ⟨rfl, HZ, Chg.refl _ _⟩
    | false =>
      have hc0 := hbc2 rfl
      obtain rfl : c = 0 := by omega
      clear hbc2 hc0
      go_enter Try.func41, Try.ntmps41
      go_wp2_with fail
      go_at_call 53
      refine hL.mono ?_
      rintro e wz ⟨rfl, hwz⟩
      rw [hwz]
      clear hL hwz
      go_wp2_with fail
      go_at_call 54
      refine (show Calls Try.prog 54 _ w _ from hC).mono ?_
      rintro e wz ⟨rfl, hwz⟩
      rw [hwz]
      clear hC hwz
      go_wp2
      go_ret
      exact ⟨rfl, HZ, Chg.refl _ _⟩
  · have hrz : ¬ (s.rt l : Int) = (c : Int) := by omega
    have hrb : ((s.rt l : Int) != (c : Int)) = true := by simp [bne, hrz]
    have HZ := HN.out hr
    clear HY HN hr
    cases bc with
    | true =>
      clear hbc2
      go_enter Try.func41, Try.ntmps41
      go_wp2_with fail
      go_at_call 53
      refine hL.mono ?_
      rintro e wz ⟨rfl, hwz⟩
      rw [hwz]
      clear hL hwz
      go_wp2_with fail
      go_at_call 54
      refine (show Calls Try.prog 54 _ w _ from hC).mono ?_
      rintro e wz ⟨rfl, hwz⟩
      rw [hwz]
      clear hC hwz
      go_upto_region 9 with fail
      rw [show w.setCell ⟨R, l, none⟩ (.int .i64 (c : Nat)) = w1 from HW1.out.symm]
      go_upto_region 10 with fail
      rw [← HW2.out]
      go_wp2
      go_ret
      exact ⟨rfl, HZ⟩
    | false =>
      have hc0 := hbc2 rfl
      obtain rfl : c = 0 := by omega
      clear hbc2 hc0
      go_enter Try.func41, Try.ntmps41
      go_wp2_with fail
      go_at_call 53
      refine hL.mono ?_
      rintro e wz ⟨rfl, hwz⟩
      rw [hwz]
      clear hL hwz
      go_wp2_with fail
      go_at_call 54
      refine (show Calls Try.prog 54 _ w _ from hC).mono ?_
      rintro e wz ⟨rfl, hwz⟩
      rw [hwz]
      clear hC hwz
      go_upto_region 9 with fail
      rw [show w.setCell ⟨R, l, none⟩ (.int .i64 0) = w1 from HW1.out.symm]
      go_upto_region 10 with fail
      rw [← HW2.out]
      go_wp2
      go_ret
      exact ⟨rfl, HZ⟩
end Go.Proofs.Ytkndlkcbhpfjoaa
namespace Go.Proofs.Ytkndlkcbhpfjoaa
open Go.ChangeShapes Go.WideShapes Go.ChangeAt Go.RowKit Go.Shelf
set_option linter.unusedVariables false
def clJ (s : GS) (c : Int) (j : Nat) : GS := ⟨s.rt, fun i => s.pe i && !(decide (i < j) && s.ow c i), s.ma⟩
theorem ow_none (s : GS) (hs : ∀ i, i < 32 → s.rt i ≤ 8) (c : Int) (hc : ¬ (1 ≤ c ∧ c ≤ 8)) (i : Nat) (hi : i < 32) : s.ow c i = false := by
  unfold GS.ow
  have := hs i hi
  by_cases h0 : c = 0
  · simp [h0]
  · have : ¬ (s.rt i : Int) = c := by omega
    simp [this]
set_option maxHeartbeats 2000000 in
theorem fClear_any (w : World) (F R P M : Nat) (s : GS) (h : IsF w F R P M s) (hs : ∀ i, i < 32 → s.rt i ≤ 8) (c : Int) :
    Calls Try.prog 44 #[.pointer (some ⟨F, 0, none⟩), .int .i64 c] w fun e w' => (∃ v, e = .returned v) ∧ IsF w' F R P M (s.clear c) ∧ Chg w w' (fun k => k = P) := by
  have hC := fCell_any w c
  by_cases hc : 1 ≤ c ∧ c ≤ 8
  · have e0 : (decide (1 ≤ c) && decide (c ≤ 8)) = true := by simp [hc]
    rw [e0] at hC
    have HI0 : Hid (IsF w F R P M (clJ s c 0) ∧ Chg w w (fun k => k = P)) := ⟨h.ext (fun i hi => ⟨rfl, by simp [clJ], rfl⟩), Chg.refl _ _⟩
    have HC : Hid (1 ≤ c) := hc.1
    clear h e0 hc
    go_enter Try.func44, Try.ntmps44
    go_wp2_with fail
    go_at_call 54
    refine hC.mono ?_
    rintro e wz ⟨rfl, hwz⟩
    rw [hwz]
    clear hC hwz
    go_wp2
    go_loopw [5] (fun s5 wr => ∃ j : Nat, s5 = .int .i64 j ∧ j ≤ 32 ∧ Hid (IsF wr F R P M (clJ s c j) ∧ Chg w wr (fun k => k = P))) (fun s5 _ => 32 - (intOf s5).toNat)
    case atStart => exact ⟨0, rfl, by omega, HI0⟩
    case round =>
      obtain ⟨j, rfl, hj, HI⟩ := hrel
      clear HI0
      by_cases hlt : j < 32
      · have hjz : (j : Int) < 32 := by omega
        have c0 := HI.out.1.c0
        have c1 := HI.out.1.c1
        have cr : wr.cell? ⟨R, j, none⟩ = some (.int .i64 (s.rt j : Nat)) := HI.out.1.rt j hlt
        have cp := HI.out.1.pe j hlt
        have fp : wr.frozen? ⟨P, j, none⟩ = false := (cells_at HI.out.1.p j).2
        by_cases hr : (s.rt j : Int) = c
        · have how : s.ow c j = true := by unfold GS.ow; have : ¬ c = 0 := by have := HC.out; omega
                                           simp [hr, this]
          have HN : Hid (IsF (wr.setCell ⟨P, j, none⟩ (.bool false)) F R P M (clJ s c (j + 1)) ∧ Chg w (wr.setCell ⟨P, j, none⟩ (.bool false)) (fun k => k = P)) := ⟨(HI.out.1.setP j hlt false).ext (fun i hi => ⟨rfl, by
            simp only [clJ]
            by_cases e : i = j
            · subst e; simp [how]
            · have e2 : decide (i < j + 1) = decide (i < j) := by
                by_cases h1 : i < j
                · simp [h1]; omega
                · simp [h1]; omega
              rw [if_neg e, e2], rfl⟩), Chg.setCell (S := fun k => k = P) HI.out.2 (.inl rfl) _⟩
          clear how HI
          generalize (clJ s c j).pe j = pv at *
          go_wp2
          exact ⟨⟨j + 1, by go_num, by omega, HN⟩, by simp [intOf]; omega⟩
        · have how : s.ow c j = false := by unfold GS.ow; simp [hr]
          have hrb : ((s.rt j : Int) == c) = false := by rw [beq_eq_false_iff_ne]; exact hr
          have HN : Hid (IsF wr F R P M (clJ s c (j + 1)) ∧ Chg w wr (fun k => k = P)) := ⟨HI.out.1.ext (fun i hi => ⟨rfl, by
            simp only [clJ]
            by_cases e : i = j
            · subst e; simp [how]
            · have e2 : decide (i < j + 1) = decide (i < j) := by
                by_cases h1 : i < j
                · simp [h1]; omega
                · simp [h1]; omega
              rw [e2], rfl⟩), HI.out.2⟩
          clear how HI
          generalize (clJ s c j).pe j = pv at *
          go_wp2
          exact ⟨⟨j + 1, by go_num, by omega, HN⟩, by simp [intOf]; omega⟩
      · have hjz : ¬ (j : Int) < 32 := by omega
        obtain rfl : j = 32 := by omega
        go_wp2
        go_end0
        exact ⟨⟨_, rfl⟩, HI.out.1.ext (fun i hi => ⟨rfl, by simp [clJ, GS.clear, hi], rfl⟩), HI.out.2⟩
  · have e0 : (decide (1 ≤ c) && decide (c ≤ 8)) = false := by
      by_cases h1 : 1 ≤ c
      · by_cases h2 : c ≤ 8
        · exact absurd ⟨h1, h2⟩ hc
        · simp [h2]
      · simp [h1]
    rw [e0] at hC
    have HN : Hid (IsF w F R P M (s.clear c)) := h.ext (fun i hi => ⟨rfl, by simp [GS.clear, ow_none s hs c hc i hi], rfl⟩)
    clear h e0 hc
    go_enter Try.func44, Try.ntmps44
    go_wp2_with fail
    go_at_call 54
    refine hC.mono ?_
    rintro e wz ⟨rfl, hwz⟩
    rw [hwz]
    clear hC hwz
    go_wp2_with fail
    refine wp_loop_rounds 1 ?_
    rw [rounds_succ]
    go_wp2
    go_end0
    exact ⟨⟨_, rfl⟩, HN.out, Chg.refl _ _⟩
end Go.Proofs.Ytkndlkcbhpfjoaa
