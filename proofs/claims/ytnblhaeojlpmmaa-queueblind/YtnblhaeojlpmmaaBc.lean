import Derived.Test.YtnblhaeojlpmmaaBb
namespace Go.Proofs.Ytnblhaeojlpmmaa
open Go.ChangeShapes Go.WideShapes Go.ChangeAt Go.RowKit
set_option linter.unusedVariables false
/-- What QueueBlind holds to. -/
structure BlI (W w : World) (B1 B2 : Nat) (s1 s2 : QS) (qu : Int) (i : Nat) : Prop where
  t : TwQ W w B1 B2 s1 s2
  d1 : s1.d.wr = 3 ∧ s1.d.rd = 5 ∧ s1.d.sz = 8 ∧ s1.d.qu = qu ∧ s1.d.fl = false
  d2 : s2.d.wr = 3 ∧ s2.d.rd = 5 ∧ s2.d.sz = 8 ∧ s2.d.qu = qu ∧ s2.d.fl = false
  e : s1.st.length = s2.st.length
  a1 : s1.ac ≤ i
  a2 : s2.ac ≤ i
section
variable {W w w' : World} {B1 B2 : Nat} {s1 s2 : QS} {qu : Int} {i : Nat}
theorem BlI.sym (h : BlI W w B1 B2 s1 s2 qu i) : BlI W w B2 B1 s2 s1 qu i := ⟨h.t.sym, h.d2, h.d1, h.e.symm, h.a2, h.a1⟩
theorem BlI.kp (h : BlI W w B1 B2 s1 s2 qu i) (k : Kp w w') : BlI W w' B1 B2 s1 s2 qu i := ⟨h.t.kp k, h.d1, h.d2, h.e, h.a1, h.a2⟩
theorem recv_same (s : QS) (c : Int) : (s.recv c).d = s.d ∧ (s.recv c).st = s.st ∧ (s.recv c).ac = s.ac := by
  unfold QS.recv
  split <;> exact ⟨rfl, rfl, rfl⟩
theorem BlI.recv (h : BlI W w B1 B2 s1 s2 qu i) : Calls Try.prog 12 #[.pointer (some ⟨B1, 0, none⟩), .int .i64 5] w fun e w' => ∃ s, (∃ v, e = .returned v) ∧ BlI W w' B1 B2 s s2 qu i := by
  refine (h.t.recv 5).mono ?_
  rintro e w' ⟨he, t⟩
  obtain ⟨r1, r2, r3⟩ := recv_same s1 5
  exact ⟨s1.recv 5, he, t, by rw [r1]; exact h.d1, h.d2, by rw [r2]; exact h.e, by rw [r3]; exact h.a1, h.a2⟩
theorem BlI.recv2 (h : BlI W w B1 B2 s1 s2 qu i) : Calls Try.prog 12 #[.pointer (some ⟨B2, 0, none⟩), .int .i64 5] w fun e w' => ∃ s, (∃ v, e = .returned v) ∧ BlI W w' B1 B2 s1 s qu i := by
  refine h.sym.recv.mono ?_
  rintro e w' ⟨s, he, t⟩
  exact ⟨s, he, t.sym⟩
theorem turn_same {s : QS} (h : s.d.wr = 3) : (s.turn 3).d = s.d ∧ (s.turn 3).st = [] ∧ (s.turn 3).ac = s.ac := by
  unfold QS.turn
  rw [if_pos h.symm]
  exact ⟨rfl, rfl, rfl⟩
/-- Both turn. -/
theorem BlI.turn (h : BlI W w B1 B2 s1 s2 qu i) : Calls Try.prog 13 #[.pointer (some ⟨B1, 0, none⟩), .int .i64 3] w fun e w' => (∃ v, e = .returned v) ∧ TwQ W w' B1 B2 (s1.turn 3) s2 := h.t.turn 3
theorem BlI.turned (h : BlI W w B1 B2 s1 s2 qu i) (t : TwQ W w' B1 B2 (s1.turn 3) s2) : Calls Try.prog 13 #[.pointer (some ⟨B2, 0, none⟩), .int .i64 3] w' fun e w2 => ∃ s s', (∃ v, e = .returned v) ∧ BlI W w2 B1 B2 s s' qu i := by
  refine (t.sym.turn 3).mono ?_
  rintro e w' ⟨he, t⟩
  obtain ⟨r1, r2, r3⟩ := turn_same h.d1.1
  obtain ⟨q1, q2, q3⟩ := turn_same h.d2.1
  exact ⟨s1.turn 3, s2.turn 3, he, t.sym, by rw [r1]; exact h.d1, by rw [q1]; exact h.d2, by rw [r2, q2], by rw [r3]; exact h.a1, by rw [q3]; exact h.a2⟩
/-- What Send answers, of any such port. -/
def sA (qu : Int) (n : Nat) : Int := if qu ≤ (n : Int) then 173 else 0
theorem sE_A {s : QS} (hd : s.d.wr = 3 ∧ s.d.rd = 5 ∧ s.d.sz = 8 ∧ s.d.qu = qu ∧ s.d.fl = false) (ha : s.ac ≤ 1000) : s.sE 3 4 = sA qu s.st.length := by
  unfold QS.sE sA QS.fu
  simp [hd.1, hd.2.2.1, hd.2.2.2.1, hd.2.2.2.2]
  by_cases h : qu ≤ (s.st.length : Int)
  · simp [h]
  · have h1 : ¬ (1152921504606846976 ≤ s.ac) := by omega
    simp [h, h1]
theorem send_same (s : QS) (c : Int) (m : Mg) : (s.send c m).d = s.d ∧ (s.send c m).ac ≤ s.ac + 1 ∧ ((s.send c m).st.length = if s.sE c m.bs.length = 0 then s.st.length + 1 else s.st.length) := by
  unfold QS.send
  split
  · exact ⟨rfl, Int.le_refl _, by simp [QS.push]⟩
  · exact ⟨rfl, by omega, rfl⟩
end
section
variable {W w w' : World} {B1 B2 : Nat} {s1 s2 : QS} {qu : Int} {i : Nat}
theorem BlI.sent (h : BlI W w B1 B2 s1 s2 qu i) (hi : i < 300) {m1 m2 : Mg} (h1 : m1.bs.length = 4) (h2 : m2.bs.length = 4) (t : TwQ W w' B1 B2 (s1.send 3 m1) (s2.send 3 m2)) : BlI W w' B1 B2 (s1.send 3 m1) (s2.send 3 m2) qu (i + 1) := by
  have a1 := h.a1
  have a2 := h.a2
  obtain ⟨r1, r2, r3⟩ := send_same s1 3 m1
  obtain ⟨q1, q2, q3⟩ := send_same s2 3 m2
  have e1 := sE_A h.d1 (by omega)
  have e2 := sE_A h.d2 (by omega)
  refine ⟨t, by rw [r1]; exact h.d1, by rw [q1]; exact h.d2, ?_, by omega, by omega⟩
  rw [r3, q3, h1, h2, e1, e2, h.e]
end
theorem nb_len (n : Int) : (nb n).length = 4 := rfl
set_option maxHeartbeats 4000000 in
set_option maxRecDepth 20000 in
theorem blind_walk (W : World) (de : Int) (h1 : -9223372036854775808 ≤ de ∧ de ≤ 9223372036854775807) (ot : Int) (h2 : -9223372036854775808 ≤ ot ∧ ot ≤ 9223372036854775807) (qu : Int) (h3 : -9223372036854775808 ≤ qu ∧ qu ≤ 9223372036854775807)
    (a : Option Addr) (n cap : Nat) (F : Nat → Int × Int) (hF : RwI W a n F) (a1 : Option Addr) (n1 cap1 : Nat) (F1 : Nat → Int) (hF1 : NmI W a1 n1 F1) (a2 : Option Addr) (n2 cap2 : Nat) (F2 : Nat → Int) (hF2 : NmI W a2 n2 F2) :
    Calls Try.prog 4 #[.int .i64 de, .int .i64 ot, .int .i64 qu, .slice a n cap, .slice a1 n1 cap1, .slice a2 n2 cap2] W fun e w' => e = .returned (.bool true) ∧ Kp W w' := by
  have hl := hF.l
  have hl1 := hF1.l
  have hl2 := hF2.l
  have HF : Hid (RwI W a n F ∧ NmI W a1 n1 F1 ∧ NmI W a2 n2 F2) := ⟨hF, hF1, hF2⟩
  clear hF hF1 hF2
  go_enter Try.func4, Try.ntmps4
  go_wp2_with fail
  go_at_call 7
  refine (known_any W).mono ?_
  rintro e w1 ⟨rfl, k1⟩
  go_wp2_with fail
  go_at_call 10
  refine (declared_any w1 de qu false h1 h3).mono ?_
  rintro e w2 ⟨rfl, k2⟩
  go_wp2_with fail
  go_at_call 8
  refine (new_any w2 _ _ _ _ _ _).mono ?_
  rintro e w3 ⟨k3, hc⟩
  have hm := dcl_may de qu false
  obtain ⟨_, B1, rfl, hB1, hP1⟩ := hc.resolve_left (fun h => by rw [show QD.mk 3 5 8 (1 + pk de 32) (1 + pk qu 16) false = dcl de qu false from rfl, hm] at h; cases h.1)
  have K3 : Hid (Kp W w3 ∧ W.heap.size ≤ B1 ∧ IsQ w3 B1 (.slice none 0 0) (.slice none 0 0) (QS.mt (dcl de qu false))) := ⟨(k1.trans k2).trans k3, by have := (k1.trans k2).size; omega, hP1⟩
  clear hm hc k1 k2 k3 hB1 hP1
  go_wp2_with fail
  go_at_call 10
  refine (declared_any w3 ot qu false h2 h3).mono ?_
  rintro e w4 ⟨rfl, k4⟩
  go_wp2_with fail
  go_at_call 8
  refine (new_any w4 _ _ _ _ _ _).mono ?_
  rintro e w5 ⟨k5, hc⟩
  have hm := dcl_may ot qu false
  obtain ⟨_, B2, rfl, hB2, hP2⟩ := hc.resolve_left (fun h => by rw [show QD.mk 3 5 8 (1 + pk ot 32) (1 + pk qu 16) false = dcl ot qu false from rfl, hm] at h; cases h.1)
  have KI : Hid (BlI W w5 B1 B2 (QS.mt (dcl de qu false)) (QS.mt (dcl ot qu false)) (1 + pk qu 16) 0) := by
    obtain ⟨q1, q2, q3⟩ := K3.out
    have kk := k4.trans k5
    have hlt := q3.lt
    refine ⟨⟨_, _, _, _, q3.kp kk, hP2, q1.trans kk, fun k hk => ?_, fun k hk => ?_⟩, ⟨rfl, rfl, rfl, rfl, rfl⟩, ⟨rfl, rfl, rfl, rfl, rfl⟩, rfl, by simp [QS.mt], by simp [QS.mt]⟩
    · rcases hk with e | e | e
      · refine ⟨by omega, fun e2 => ?_⟩
        rcases e2 with e2 | e2 | e2
        · have := k4.size; omega
        · simp [Value.ownBlock] at e2
        · simp [Value.ownBlock] at e2
      · simp [Value.ownBlock] at e
      · simp [Value.ownBlock] at e
    · rcases hk with e | e | e
      · have := (q1.trans k4).size; omega
      · simp [Value.ownBlock] at e
      · simp [Value.ownBlock] at e
  clear hm hc k4 k5 hB2 hP2 K3
  generalize hqq : 1 + pk qu 16 = qq at *
  clear hqq
  go_wp2_with fail
  go_loopw [18, 19, 20, 21, 22] (fun s18 s19 s20 s21 s22 wr => ∃ (i : Nat) (t1 t2 : QS), s18 = .int .i64 i ∧ i ≤ n ∧ i ≤ 300 ∧ Hid (BlI W wr B1 B2 t1 t2 qq i)) (fun s18 _ _ _ _ _ => 300 - nI s18)
  case atStart => exact ⟨0, _, _, rfl, by omega, by omega, KI⟩
  case round =>
    obtain ⟨i, t1, t2, rfl, hi, hi2, HI⟩ := hrel
    clear KI
    by_cases hlt : i < n ∧ i < 300
    · have hz1 : (i : Int) < (n : Int) := by omega
      have hz2 : (i : Int) < 300 := by omega
      go_upto_block 2 with fail
      go_cut [19] from 56 to 137 (fun s19 wx => ∃ (ta : QS), Hid (BlI W wx B1 B2 ta t2 qq i))
      case first =>
        go_wp2_with fail
        go_loopw [19] (fun s19 wz => ∃ (k : Nat) (ta : QS), s19 = .int .i64 k ∧ k ≤ 4 ∧ Hid (BlI W wz B1 B2 ta t2 qq i)) (fun s19 _ => 4 - nI s19)
        case atStart => exact ⟨0, t1, rfl, by omega, HI⟩
        case round =>
          obtain ⟨k, ta, rfl, hk, HJ⟩ := hrel
          clear HI
          by_cases hn : i < n1
          · have hnz : (i : Int) < (n1 : Int) := by omega
            obtain ⟨b, o, rfl, hcc⟩ := HF.out.2.1.c.resolve_left (by omega)
            have x0 := HJ.out.t.K.cell (hcc i hn)
            have hrg := HF.out.2.1.r i hn
            clear hcc
            have hp := pk_lt (c := F1 i) (n := 4) (by omega)
            have hpk : ∀ W, Calls Try.prog 11 #[.int .i64 (F1 i), .int .i64 4] W fun e w' => e = .returned (.int .i64 (pk (F1 i) 4)) ∧ w' = W := fun W => pick_any W _ 4 (by omega) hrg
            clear hrg
            generalize F1 i = cc at *
            generalize pk cc 4 = pp at *
            go_wp2_with fail
            go_at_call 11
            refine (hpk _).mono ?_
            rintro e wq ⟨rfl, rfl⟩
            by_cases hkp : (k : Int) < pp
            · go_wp2_with fail
              go_at_call 12
              refine HJ.out.recv.mono ?_
              rintro e wq ⟨tq, ⟨v, rfl⟩, hB⟩
              have HB : Hid (BlI W wq B1 B2 tq t2 qq i) := hB
              clear hB HJ x0
              go_wp2_with fail
              exact ⟨⟨k + 1, tq, by go_num, by omega, HB⟩, by simp [nI]; omega⟩
            · go_wp2_with fail
              go_meet
              case rel => exact ⟨_, HJ⟩
          · have hnz : ¬ (i : Int) < (n1 : Int) := by omega
            go_wp2_with fail
            go_meet
            case rel => exact ⟨_, HJ⟩
      case rest =>
        obtain ⟨ta, HJ2⟩ := hcut
        clear HI
        go_upto_block 4 with fail
        go_cut [20] from 56 to 137 (fun s20 wx => ∃ (tb : QS), Hid (BlI W wx B1 B2 ta tb qq i))
        case first =>
          go_wp2_with fail
          go_loopw [20] (fun s20 wz => ∃ (k : Nat) (tb : QS), s20 = .int .i64 k ∧ k ≤ 4 ∧ Hid (BlI W wz B1 B2 ta tb qq i)) (fun s20 _ => 4 - nI s20)
          case atStart => exact ⟨0, t2, rfl, by omega, HJ2⟩
          case round =>
            obtain ⟨k, tb, rfl, hk, HJ⟩ := hrel
            clear HJ2
            by_cases hn : i < n2
            · have hnz : (i : Int) < (n2 : Int) := by omega
              obtain ⟨b, o, rfl, hcc⟩ := HF.out.2.2.c.resolve_left (by omega)
              have x0 := HJ.out.t.K.cell (hcc i hn)
              have hrg := HF.out.2.2.r i hn
              clear hcc
              have hp := pk_lt (c := F2 i) (n := 4) (by omega)
              have hpk : ∀ W, Calls Try.prog 11 #[.int .i64 (F2 i), .int .i64 4] W fun e w' => e = .returned (.int .i64 (pk (F2 i) 4)) ∧ w' = W := fun W => pick_any W _ 4 (by omega) hrg
              clear hrg
              generalize F2 i = cc at *
              generalize pk cc 4 = pp at *
              go_wp2_with fail
              go_at_call 11
              refine (hpk _).mono ?_
              rintro e wq ⟨rfl, rfl⟩
              by_cases hkp : (k : Int) < pp
              · go_wp2_with fail
                go_at_call 12
                refine HJ.out.recv2.mono ?_
                rintro e wq ⟨tq, ⟨v, rfl⟩, hB⟩
                have HB : Hid (BlI W wq B1 B2 ta tq qq i) := hB
                clear hB HJ x0
                go_wp2_with fail
                exact ⟨⟨k + 1, tq, by go_num, by omega, HB⟩, by simp [nI]; omega⟩
              · go_wp2_with fail
                go_meet
                case rel => exact ⟨_, HJ⟩
            · have hnz : ¬ (i : Int) < (n2 : Int) := by omega
              go_wp2_with fail
              go_meet
              case rel => exact ⟨_, HJ⟩
        case rest =>
          obtain ⟨tb, HI⟩ := hcut
          clear HJ2
          obtain ⟨b, o, rfl, hcc⟩ := HF.out.1.c.resolve_left (by omega)
          obtain ⟨y0, y1⟩ := hcc i hlt.1
          have x0 := HI.out.t.K.cell y0
          have hrg := (HF.out.1.r i hlt.1)
          clear hcc
          have hpk : ∀ W, Calls Try.prog 11 #[.int .i64 (F i).1, .int .i64 4] W fun e w' => e = .returned (.int .i64 (pk (F i).1 4)) ∧ w' = W := fun W => pick_any W _ 4 (by omega) hrg.1
          have HY : Hid (W.cell? ⟨b, o + i * 2 + 1, none⟩ = some (.int .i64 (F i).2)) := y1
          have HRg := hrg.2
          clear hrg y0 y1
          generalize (F i).1 = c1 at *
          generalize (F i).2 = c2 at *
          generalize pk c1 4 = pp at *
          go_wp2_with fail
          go_at_call 11
          refine (hpk _).mono ?_
          rintro e wq ⟨rfl, rfl⟩
          clear hpk x0
          by_cases hp : pp = 0
          · subst hp
            go_wp2_with fail
            go_at_call 13
            refine HI.out.turn.mono ?_
            rintro e w6 ⟨⟨v, rfl⟩, hT⟩
            have hC := HI.out.turned hT
            clear hT
            go_wp2_with fail
            go_at_call 13
            refine hC.mono ?_
            rintro e w7 ⟨q1, q2, ⟨v, rfl⟩, hB⟩
            have HB : Hid (BlI W w7 B1 B2 q1 q2 qq (i + 1)) := ⟨hB.t, hB.d1, hB.d2, hB.e, by have := hB.a1; omega, by have := hB.a2; omega⟩
            clear hB hC HI
            go_wp2_with fail
            exact ⟨⟨i + 1, q1, q2, by go_num, by omega, by omega, HB⟩, by simp [nI]; omega⟩
          · have gp : (pp == 0) = false := by simp [hp]
            have x1 := HI.out.t.K.cell HY.out
            go_wp2_with fail
            go_at_call 15
            refine (number_any _ c2 HRg).mono ?_
            rintro e w6 ⟨v6, rfl, hb6, k6⟩
            have H6 : Hid (BlI W w6 B1 B2 ta tb qq i ∧ Bs w6 v6 (nb c2)) := ⟨HI.out.kp k6, hb6⟩
            obtain ⟨va, vc, rfl⟩ := hb6.vshape
            clear hb6 k6 x1
            go_wp2_with fail
            go_at_call 14
            refine (H6.out.1.t.send 3 1 _ (nb c2) H6.out.2).mono ?_
            rintro e w7 ⟨rfl, u1, hT⟩
            have e1 := sE_A H6.out.1.d1 (by have := H6.out.1.a1; omega)
            rw [nb_len, e1]
            have H7 : Hid (BlI W w6 B1 B2 ta tb qq i ∧ TwQ W w7 B1 B2 (ta.send 3 ⟨u1, nb c2, 1⟩) tb) := ⟨H6.out.1, hT⟩
            have x1 := hT.K.cell HY.out
            clear hT H6 e1 HI
            generalize hsa : sA qq ta.st.length = sa at *
            have HSA : Hid (sA qq ta.st.length = sa) := hsa
            clear hsa
            go_wp2_with fail
            go_at_call 15
            refine (number_any _ c2 HRg).mono ?_
            rintro e w8 ⟨v8, rfl, hb8, k8⟩
            have H8 : Hid (TwQ W w8 B2 B1 tb (ta.send 3 ⟨u1, nb c2, 1⟩) ∧ Bs w8 v8 (nb c2)) := ⟨(H7.out.2.kp k8).sym, hb8⟩
            obtain ⟨va8, vc8, rfl⟩ := hb8.vshape
            clear hb8 k8 x1
            go_wp2_with fail
            go_at_call 14
            refine (H8.out.1.send 3 1 _ (nb c2) H8.out.2).mono ?_
            rintro e w9 ⟨rfl, u2, hT⟩
            have e2 := sE_A H7.out.1.d2 (by have := H7.out.1.a2; omega)
            rw [nb_len, e2, ← H7.out.1.e, HSA.out]
            have HB : Hid (BlI W w9 B1 B2 (ta.send 3 ⟨u1, nb c2, 1⟩) (tb.send 3 ⟨u2, nb c2, 1⟩) qq (i + 1)) := H7.out.1.sent hlt.2 rfl rfl hT.sym
            have hs : sa = 0 ∨ sa = 173 := by rw [← HSA.out]; unfold sA; split <;> simp
            clear H7 H8 hT e2 HSA
            rcases hs with rfl | rfl
            · go_wp2_with fail
              exact ⟨⟨i + 1, _, _, by go_num, by omega, by omega, HB⟩, by simp [nI]; omega⟩
            · go_wp2_with fail
              exact ⟨⟨i + 1, _, _, by go_num, by omega, by omega, HB⟩, by simp [nI]; omega⟩
    · have HJ : Hid (Kp W wr) := HI.out.t.K
      by_cases q1 : i < n
      · have q2 : ¬ (i : Int) < 300 := fun h => hlt ⟨q1, by omega⟩
        have q1' : (i : Int) < (n : Int) := by omega
        clear HI
        go_wp2_with fail
        go_ret
        exact ⟨rfl, HJ.out⟩
      · have q1' : ¬ (i : Int) < (n : Int) := by omega
        clear HI
        go_wp2_with fail
        go_ret
        exact ⟨rfl, HJ.out⟩
end Go.Proofs.Ytnblhaeojlpmmaa
