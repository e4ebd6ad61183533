import Derived.Test.YtkndlkcbhpfjoaaNe
namespace Go.Proofs.Ytkndlkcbhpfjoaa
open Go.ChangeShapes Go.WideShapes Go.ChangeAt Go.RowKit Go.Shelf
set_option linter.unusedVariables false
/-- A state as it is told, whatever its routes. -/
def gsR (Z : Nat → Int) (p m : Nat) : GS := ⟨fun i => (Z i).toNat, p.testBit, m.testBit⟩
def badR (Z : Nat → Int) (j : Nat) : Prop := ¬ (0 ≤ Z j ∧ Z j ≤ 8)
def badL (Z : Nat → Int) (p m j : Nat) : Prop := Z j = 0 ∧ (p.testBit j = true ∨ m.testBit j = true)
/-- What a Load of it tells. -/
def LdR (Z : Nat → Int) (p m : Nat) (r : Int) : Prop := (r = 91 ∧ ∃ j, j < 32 ∧ badR Z j) ∨ (r = 90 ∧ (∀ j, j < 32 → ¬ badR Z j) ∧ ∃ j, j < 32 ∧ badL Z p m j) ∨ (r = 0 ∧ (∀ j, j < 32 → ¬ badR Z j) ∧ ∀ j, j < 32 → ¬ badL Z p m j)
theorem LdR.one {Z : Nat → Int} {p m : Nat} {r q : Int} (h : LdR Z p m r) (k : LdR Z p m q) : r = q := by
  rcases h with ⟨rfl, j, h1, h2⟩ | ⟨rfl, h1, j, h2, h3⟩ | ⟨rfl, h1, h2⟩
  · rcases k with ⟨rfl, _⟩ | ⟨rfl, k1, _⟩ | ⟨rfl, k1, _⟩
    · rfl
    · exact absurd h2 (k1 j h1)
    · exact absurd h2 (k1 j h1)
  · rcases k with ⟨rfl, i, k1, k2⟩ | ⟨rfl, _⟩ | ⟨rfl, _, k1⟩
    · exact absurd k2 (h1 i k1)
    · rfl
    · exact absurd h3 (k1 j h2)
  · rcases k with ⟨rfl, i, k1, k2⟩ | ⟨rfl, _, i, k1, k2⟩ | ⟨rfl, _⟩
    · exact absurd k2 (h1 i k1)
    · exact absurd k2 (h2 i k1)
    · rfl
def ldJ (s : GS) (Z : Nat → Int) (p m j : Nat) : GS := ⟨fun i => if i < j then (Z i).toNat else s.rt i, fun i => if i < j then p.testBit i else s.pe i, fun i => if i < j then m.testBit i else s.ma i⟩
theorem ldJ_next (s : GS) (Z : Nat → Int) (p m j i : Nat) : (ldJ s Z p m (j + 1)).rt i = (if i = j then (Z j).toNat else (ldJ s Z p m j).rt i) ∧ (ldJ s Z p m (j + 1)).pe i = (if i = j then p.testBit j else (ldJ s Z p m j).pe i) ∧ (ldJ s Z p m (j + 1)).ma i = (if i = j then m.testBit j else (ldJ s Z p m j).ma i) := by
  unfold ldJ
  by_cases e : i = j
  · subst e; simp
  · have e2 : (i < j + 1) = (i < j) := by apply propext; omega
    simp [e, e2]
/-- What the document's Load leaves. -/
def FLd (w : World) (F R P M : Nat) (s : GS) (Z : Nat → Int) (p m : Nat) (e : Ending) (w' : World) : Prop := ∃ (r : Int) (s' : GS), e = .returned (.int .i64 r) ∧ LdR Z p m r ∧ IsF w' F R P M s' ∧ Chg w w' (Ff F R P M) ∧ (r ≠ 0 → s' = s) ∧ (r = 0 → s' = gsR Z p m)
set_option maxHeartbeats 4000000 in
theorem fLoad_any (w : World) (F R P M : Nat) (s : GS) (h : IsF w F R P M s) (Z : Nat → Int) (p m : Nat) (hp : p < 4294967296) (hm : m < 4294967296) (L cap : Nat) (hL : ∀ i, i < 32 → w.cell? ⟨L, i, none⟩ = some (.int .i64 (Z i))) (hLn : ¬ Ff F R P M L) :
    Calls Try.prog 56 #[.pointer (some ⟨F, 0, none⟩), .slice (some ⟨L, 0, none⟩) 32 cap, .int .u32 (p : Nat), .int .u32 (m : Nat)] w fun e w' => FLd w F R P M s Z p m e w' := by
  have HI : Hid (IsF w F R P M s ∧ (∀ i, i < 32 → w.cell? ⟨L, i, none⟩ = some (.int .i64 (Z i))) ∧ ¬ Ff F R P M L) := ⟨h, hL, hLn⟩
  clear h hL hLn
  go_enter Try.func56, Try.ntmps56
  go_wp2
  go_loopw [9, 10] (fun s9 _ wr => ∃ j : Nat, s9 = .int .i64 j ∧ j ≤ 32 ∧ wr = w ∧ Hid (∀ i, i < j → ¬ badR Z i)) (fun s9 _ _ => 32 - (intOf s9).toNat)
  case atStart => exact ⟨0, rfl, by omega, rfl, fun i hi => by omega⟩
  case round =>
    obtain ⟨j, rfl, hj, hwr, HG⟩ := hrel
    rw [hwr]
    clear hwr
    by_cases hlt : j < 32
    · have hjz : (j : Int) < 32 := by omega
      have cz := HI.out.2.1 j hlt
      have hC := fCell_any w (Z j)
      obtain ⟨z, hz⟩ : ∃ z, z = Z j := ⟨_, rfl⟩
      rw [← hz] at cz hC
      have HZ : Hid (z = Z j) := hz
      clear hz
      by_cases hb : 0 ≤ z ∧ z ≤ 8
      · have HN : Hid (∀ i, i < j + 1 → ¬ badR Z i) := fun i hi => by
          by_cases e : i = j
          · subst e; unfold badR; rw [← HZ.out]; exact fun h => h hb
          · exact HG.out i (by omega)
        by_cases h0 : z = 0
        · subst h0
          have e0 : (decide (1 ≤ (0 : Int)) && decide ((0 : Int) ≤ 8)) = false := by decide
          rw [e0] at hC
          clear e0 hb HG
          go_wp2_with fail
          go_at_call 54
          refine hC.mono ?_
          rintro e wz ⟨rfl, hwz⟩
          rw [hwz]
          clear hC hwz
          go_wp2
          exact ⟨⟨j + 1, by go_num, by omega, trivial, HN⟩, by simp [intOf]; omega⟩
        · have e0 : (decide (1 ≤ z) && decide (z ≤ 8)) = true := by simp; omega
          rw [e0] at hC
          clear e0 hb HG
          go_wp2_with fail
          go_at_call 54
          refine hC.mono ?_
          rintro e wz ⟨rfl, hwz⟩
          rw [hwz]
          clear hC hwz
          go_wp2
          exact ⟨⟨j + 1, by go_num, by omega, trivial, HN⟩, by simp [intOf]; omega⟩
      · have e0 : (decide (1 ≤ z) && decide (z ≤ 8)) = false := by
          by_cases h1 : 1 ≤ z
          · have : ¬ z ≤ 8 := by omega
            simp [this]
          · simp [h1]
        have hzb : (z != 0) = true := by
          have : z ≠ 0 := by omega
          simpa using this
        rw [e0] at hC
        have HF : Hid (FLd w F R P M s Z p m (.returned (.int .i64 91)) w) := ⟨91, s, rfl, .inl ⟨rfl, j, hlt, by unfold badR; rw [← HZ.out]; exact hb⟩, HI.out.1, Chg.refl _ _, fun _ => rfl, fun e => by omega⟩
        clear e0 hb HG
        go_wp2_with fail
        go_at_call 54
        refine hC.mono ?_
        rintro e wz ⟨rfl, hwz⟩
        rw [hwz]
        clear hC hwz
        go_wp2
        go_ret
        exact HF.out
    · have hjz : ¬ (j : Int) < 32 := by omega
      obtain rfl : j = 32 := by omega
      have HGR : Hid (∀ i, i < 32 → ¬ badR Z i) := HG.out
      clear HG hlt hj
      go_wp2
      go_loopw [11, 12, 13] (fun s11 _ _ wr => ∃ j : Nat, s11 = .int .i64 j ∧ j ≤ 32 ∧ wr = w ∧ Hid (∀ i, i < j → ¬ badL Z p m i)) (fun s11 _ _ _ => 32 - (intOf s11).toNat)
      case atStart => exact ⟨0, rfl, by omega, rfl, fun i hi => by omega⟩
      case round =>
        obtain ⟨j, rfl, hj, hwr, HG⟩ := hrel
        rw [hwr]
        clear hwr
        by_cases hlt : j < 32
        · have hjz : (j : Int) < 32 := by omega
          have cz := HI.out.2.1 j hlt
          have hB1 := fBit_any w p hp j hlt
          have hB2 := fBit_any w m hm j hlt
          obtain ⟨z, hz⟩ : ∃ z, z = Z j := ⟨_, rfl⟩
          obtain ⟨pb, hpb⟩ : ∃ b, b = p.testBit j := ⟨_, rfl⟩
          obtain ⟨mb, hmb⟩ : ∃ b, b = m.testBit j := ⟨_, rfl⟩
          rw [← hz] at cz
          rw [← hpb] at hB1
          rw [← hmb] at hB2
          have HZ : Hid (z = Z j ∧ pb = p.testBit j ∧ mb = m.testBit j) := ⟨hz, hpb, hmb⟩
          clear hz hpb hmb
          by_cases hb : z = 0 ∧ (pb = true ∨ mb = true)
          · have HF : Hid (FLd w F R P M s Z p m (.returned (.int .i64 90)) w) := ⟨90, s, rfl, .inr (.inl ⟨rfl, HGR.out, j, hlt, by unfold badL; rw [← HZ.out.1, ← HZ.out.2.1, ← HZ.out.2.2]; exact hb⟩), HI.out.1, Chg.refl _ _, fun _ => rfl, fun e => by omega⟩
            obtain ⟨rfl, hpm⟩ := hb
            clear HG
            go_wp2_with fail
            go_at_call 55
            refine hB1.mono ?_
            rintro e wz ⟨rfl, hwz⟩
            rw [hwz]
            clear hB1 hwz
            go_wp2_with fail
            go_at_call 55
            refine hB2.mono ?_
            rintro e wz ⟨rfl, hwz⟩
            rw [hwz]
            clear hB2 hwz
            cases pb with
            | true =>
              clear hpm
              go_wp2
              go_ret
              exact HF.out
            | false =>
              obtain rfl : mb = true := hpm.resolve_left (by simp)
              clear hpm
              go_wp2
              go_ret
              exact HF.out
          · have HN : Hid (∀ i, i < j + 1 → ¬ badL Z p m i) := fun i hi => by
              by_cases e : i = j
              · subst e; unfold badL; rw [← HZ.out.1, ← HZ.out.2.1, ← HZ.out.2.2]; exact hb
              · exact HG.out i (by omega)
            clear HG
            go_wp2_with fail
            go_at_call 55
            refine hB1.mono ?_
            rintro e wz ⟨rfl, hwz⟩
            rw [hwz]
            clear hB1 hwz
            go_wp2_with fail
            go_at_call 55
            refine hB2.mono ?_
            rintro e wz ⟨rfl, hwz⟩
            rw [hwz]
            clear hB2 hwz
            by_cases h0 : z = 0
            · subst h0
              obtain rfl : pb = false := by cases pb with | true => exact absurd ⟨rfl, .inl rfl⟩ hb | false => rfl
              obtain rfl : mb = false := by cases mb with | true => exact absurd ⟨rfl, .inr rfl⟩ hb | false => rfl
              clear hb
              go_wp2
              exact ⟨⟨j + 1, by go_num, by omega, trivial, HN⟩, by simp [intOf]; omega⟩
            · have h0b : (z == 0) = false := by simpa using h0
              clear hb
              go_wp2
              exact ⟨⟨j + 1, by go_num, by omega, trivial, HN⟩, by simp [intOf]; omega⟩
        · have hjz : ¬ (j : Int) < 32 := by omega
          obtain rfl : j = 32 := by omega
          have HGL : Hid (∀ i, i < 32 → ¬ badL Z p m i) := HG.out
          clear HG hlt hj
          go_wp2
          go_loopw [14] (fun s14 wr => ∃ j : Nat, s14 = .int .i64 j ∧ j ≤ 32 ∧ Hid (IsF wr F R P M (ldJ s Z p m j) ∧ Chg w wr (Ff F R P M))) (fun s14 _ => 32 - (intOf s14).toNat)
          case atStart => exact ⟨0, rfl, by omega, HI.out.1.ext (fun i hi => by simp [ldJ]), Chg.refl _ _⟩
          case round =>
            obtain ⟨j, rfl, hj, HX⟩ := hrel
            by_cases hlt : j < 32
            · have hjz : (j : Int) < 32 := by omega
              have hZ : Z j = ((Z j).toNat : Nat) := by
                have := HGR.out j hlt
                unfold badR at this
                omega
              obtain ⟨zn, hzn⟩ : ∃ zn, zn = (Z j).toNat := ⟨_, rfl⟩
              have hLl : L < w.heap.size := World.block_lt_of_cell? w _ (HI.out.2.1 0 (by omega))
              have kd : Kp wr wr.drew := (Chg.refl wr _).drew
              have i0 := HX.out.1.kp kd
              have cz : wr.drew.cell? ⟨L, j, none⟩ = some (.int .i64 (zn : Nat)) := by
                have := (HX.out.2.cell hLl HI.out.2.2).trans (HI.out.2.1 j hlt)
                rw [hZ, ← hzn] at this
                exact Kp.cell kd this
              have c0 := i0.c0
              have cr := i0.rt j hlt
              have fr : wr.drew.frozen? ⟨R, j, none⟩ = false := (cells_at i0.r j).2
              have i1 := i0.setR j hlt zn
              have k1 : Chg w (wr.drew.setCell ⟨R, j, none⟩ (.int .i64 (zn : Nat))) (Ff F R P M) := Chg.setCell (S := Ff F R P M) HX.out.2.drew (.inl (.inr (.inl rfl))) _
              obtain ⟨w1, hw1⟩ : ∃ w1, w1 = wr.drew.setCell ⟨R, j, none⟩ (.int .i64 (zn : Nat)) := ⟨_, rfl⟩
              rw [← hw1] at i1 k1
              have kd1 : Kp w1 w1.drew := (Chg.refl w1 _).drew
              have i1d := i1.kp kd1
              have d1 := i1d.c1
              have p1 := i1d.pe j hlt
              have fp : w1.drew.frozen? ⟨P, j, none⟩ = false := (cells_at i1d.p j).2
              have i2 := i1d.setP j hlt (p.testBit j)
              have k2 : Chg w (w1.drew.setCell ⟨P, j, none⟩ (.bool (p.testBit j))) (Ff F R P M) := Chg.setCell (S := Ff F R P M) k1.drew (.inl (.inr (.inr (.inl rfl)))) _
              obtain ⟨w2, hw2⟩ : ∃ w2, w2 = w1.drew.setCell ⟨P, j, none⟩ (.bool (p.testBit j)) := ⟨_, rfl⟩
              rw [← hw2] at i2 k2
              have kd2 : Kp w2 w2.drew := (Chg.refl w2 _).drew
              have i2d := i2.kp kd2
              have d2 := i2d.c2
              have m2 := i2d.ma j hlt
              have fm : w2.drew.frozen? ⟨M, j, none⟩ = false := (cells_at i2d.m j).2
              have i3 := i2d.setM j hlt (m.testBit j)
              have k3 : Chg w (w2.drew.setCell ⟨M, j, none⟩ (.bool (m.testBit j))) (Ff F R P M) := Chg.setCell (S := Ff F R P M) k2.drew (.inl (.inr (.inr (.inr rfl)))) _
              have HN : Hid (IsF (w2.drew.setCell ⟨M, j, none⟩ (.bool (m.testBit j))) F R P M (ldJ s Z p m (j + 1)) ∧ Chg w (w2.drew.setCell ⟨M, j, none⟩ (.bool (m.testBit j))) (Ff F R P M)) := ⟨i3.ext (fun i hi => by
                obtain ⟨q1, q2, q3⟩ := ldJ_next s Z p m j i
                exact ⟨by rw [q1, hzn], by rw [q2], by rw [q3]⟩), k3⟩
              have hB1 := fBit_any w1.drew p hp j hlt
              have hB2 := fBit_any w2.drew m hm j hlt
              have HW1 : Hid ((wr.setCell ⟨R, j, none⟩ (.int .i64 (zn : Nat))).drew = w1) := (by rw [hw1]; rfl : (wr.setCell ⟨R, j, none⟩ (.int .i64 (zn : Nat))).drew = w1)
              have HW2 : Hid (w1.drew.setCell ⟨P, j, none⟩ (.bool (p.testBit j)) = w2) := hw2.symm
              have HW3 : Hid ((w1.setCell ⟨P, j, none⟩ (.bool (p.testBit j))).drew = w2) := (by rw [hw2]; rfl : (w1.setCell ⟨P, j, none⟩ (.bool (p.testBit j))).drew = w2)
              have HD1 : Hid (w1.drew.cell? ⟨F, 1, none⟩ = some (.slice (some ⟨P, 0, none⟩) 32 32) ∧ w1.drew.cell? ⟨P, j, none⟩ = some (.bool ((ldJ s Z p m j).pe j)) ∧ w1.drew.frozen? ⟨P, j, none⟩ = false) := ⟨d1, p1, fp⟩
              have HD2 : Hid (w2.drew.cell? ⟨F, 2, none⟩ = some (.slice (some ⟨M, 0, none⟩) 32 32) ∧ w2.drew.cell? ⟨M, j, none⟩ = some (.bool ((ldJ s Z p m j).ma j)) ∧ w2.drew.frozen? ⟨M, j, none⟩ = false) := ⟨d2, m2, fm⟩
              clear i0 i1 i1d i2 i2d i3 k1 k2 k3 kd kd1 kd2 hw1 hw2 hZ hzn HX
              generalize (ldJ s Z p m j).rt j = ov at *
              generalize p.testBit j = pb at *
              generalize m.testBit j = mb at *
              generalize (ldJ s Z p m j).pe j = ov1 at *
              generalize (ldJ s Z p m j).ma j = ov2 at *
              clear d1 p1 fp d2 m2 fm
              go_upto_region 17 with fail
              go_region
              all_goals
                rw [HW1.out]
                clear HW1 cz c0 cr fr
                obtain ⟨d1, p1, fp⟩ := HD1.out
                go_upto_region 18 with fail
                go_region_with (go_at_call 55; with_reducible refine hB1.mono ?_; rintro e wz ⟨rfl, hwz⟩; rw [hwz]; clear hwz)
                all_goals
                  first | rw [HW2.out] | rw [HW3.out]
                  clear HW2 HW3 hB1 d1 p1 fp HD1
                  obtain ⟨d2, m2, fm⟩ := HD2.out
                  go_upto_region 19 with fail
                  go_region_with (go_at_call 55; with_reducible refine hB2.mono ?_; rintro e wz ⟨rfl, hwz⟩; rw [hwz]; clear hwz)
                  all_goals (try go_wp2)
                  all_goals exact ⟨⟨j + 1, by go_num, by omega, HN⟩, by simp [intOf]; omega⟩
            · have hjz : ¬ (j : Int) < 32 := by omega
              obtain rfl : j = 32 := by omega
              have HF : Hid (FLd w F R P M s Z p m (.returned (.int .i64 0)) wr) := ⟨0, gsR Z p m, rfl, .inr (.inr ⟨rfl, HGR.out, HGL.out⟩), HX.out.1.ext (fun i hi => by simp [ldJ, gsR, hi]), HX.out.2, fun e => absurd rfl e, fun _ => rfl⟩
              clear HX
              go_wp2
              go_ret
              exact HF.out
end Go.Proofs.Ytkndlkcbhpfjoaa
