import Derived.Test.YtnblhaeojlpmmaaBf
namespace Go.Proofs.Ytnblhaeojlpmmaa
open Go.ChangeShapes Go.WideShapes Go.ChangeAt Go.RowKit
set_option linter.unusedVariables false
theorem nb_l (n : Int) : (nb n).length = 4 := rfl
theorem recv_len (s : QS) (m : Mg) (l : List Mg) (h5 : s.d.rd = 5) (hq : s.qd = m :: l) : s.gH 5 = true ∧ s.recv 5 = ⟨s.d, s.ac, s.rc + 1, s.lo, l, s.st⟩ ∧ s.gM 5 = m := by
  have e : s.gH 5 = true := by unfold QS.gH; rw [hq, h5]; simp
  exact ⟨e, by unfold QS.recv; rw [if_pos e, hq]; rfl, by unfold QS.gM; rw [if_pos e, hq]; rfl⟩
theorem recv_nil (s : QS) (hq : s.qd = []) : s.gH 5 = false ∧ s.recv 5 = s ∧ s.gM 5 = Mg.no := by
  have e : s.gH 5 = false := by unfold QS.gH; rw [hq]; simp
  exact ⟨e, by unfold QS.recv; rw [if_neg (by simp [e])], by unfold QS.gM; rw [if_neg (by simp [e])]⟩
set_option maxHeartbeats 16000000 in
set_option maxRecDepth 20000 in
theorem keeps_walk (W : World) (de : Int) (h1 : -9223372036854775808 ≤ de ∧ de ≤ 9223372036854775807) (qu : Int) (h2 : -9223372036854775808 ≤ qu ∧ qu ≤ 9223372036854775807) (fl : Bool)
    (a : Option Addr) (n cap : Nat) (F : Nat → Int × Int) (hF : RwI W a n F) :
    Calls Try.prog 5 #[.int .i64 de, .int .i64 qu, .bool fl, .slice a n cap] W fun e w' => e = .returned (.bool true) ∧ Kp W w' := by
  have hl := hF.l
  have HF : Hid (RwI W a n F) := hF
  have HM : Hid (QD.may ⟨3, 5, 8, 1 + pk de 32, 1 + pk qu 16, fl⟩ = true) := dcl_may de qu fl
  clear hF
  go_enter Try.func5, Try.ntmps5
  go_wp2_with fail
  go_at_call 7
  refine (known_any W).mono ?_
  rintro e w1 ⟨rfl, k1⟩
  go_wp2_with fail
  go_at_call 10
  refine (declared_any w1 de qu fl h1 h2).mono ?_
  rintro e w2 ⟨rfl, k2⟩
  generalize 1 + pk de 32 = dd at *
  generalize 1 + pk qu 16 = qq at *
  have HQ : Hid (Kp W (w2.alloc (.cells #[.int .i64 3, .int .i64 5, .int .i64 8, .int .i64 dd, .int .i64 qq, .bool fl] 23)) ∧ (w2.alloc (.cells #[.int .i64 3, .int .i64 5, .int .i64 8, .int .i64 dd, .int .i64 qq, .bool fl] 23)).heap[w2.heap.size]? = some (.cells #[.int .i64 3, .int .i64 5, .int .i64 8, .int .i64 dd, .int .i64 qq, .bool fl] 23 (0, 0))) := ⟨Chg.alloc (k1.trans k2) _, heap_alloc_new _ _⟩
  clear k1 k2 h1 h2
  go_upto_region 3 with fail
  generalize w2.alloc (.cells #[.int .i64 3, .int .i64 5, .int .i64 8, .int .i64 dd, .int .i64 qq, .bool fl] 23) = WQ at *
  generalize w2.heap.size = Nq at *
  have d0 : WQ.cell? ⟨Nq, 0, none⟩ = some (.int .i64 3) := (cells_at HQ.out.2 0).1
  have d1 : WQ.cell? ⟨Nq, 1, none⟩ = some (.int .i64 5) := (cells_at HQ.out.2 1).1
  have d2 : WQ.cell? ⟨Nq, 2, none⟩ = some (.int .i64 8) := (cells_at HQ.out.2 2).1
  have d3 : WQ.cell? ⟨Nq, 3, none⟩ = some (.int .i64 dd) := (cells_at HQ.out.2 3).1
  have d4 : WQ.cell? ⟨Nq, 4, none⟩ = some (.int .i64 qq) := (cells_at HQ.out.2 4).1
  have d5 : WQ.cell? ⟨Nq, 5, none⟩ = some (.bool fl) := (cells_at HQ.out.2 5).1
  go_wp2_with fail
  go_at_call 8
  refine (new_any WQ 3 5 8 dd qq fl).mono ?_
  rintro e w3 ⟨k3, hc⟩
  obtain ⟨_, B, rfl, hB, hP⟩ := hc.resolve_left (fun h => by rw [HM.out] at h; cases h.1)
  have KI : Hid (KeI WQ w3 B (QS.mt ⟨3, 5, 8, dd, qq, fl⟩) ⟨3, 5, 8, dd, qq, fl⟩ 0 0 0 (-1)) := ⟨PoQ.new k3 hB hP, rfl, rfl, rfl, rfl, by omega, fun m hm => by simp [QS.mt] at hm, by simp [QS.mt], fun _ => ⟨fun j m hm => by simp [QS.mt] at hm, by simp [QS.mt]⟩⟩
  have HD : Hid (dd ≤ 32 ∧ 1 ≤ dd ∧ qq ≤ 16 ∧ 1 ≤ qq) := by
    have hh : dd ≤ 32 ∧ 1 ≤ dd ∧ qq ≤ 16 ∧ 1 ≤ qq := by have := may_ok HM.out; simp at this; omega
    exact hh
  clear hc k3 hB hP d0 d1 d2 d3 d4 d5 HM
  go_upto_block 0 with fail
  go_cut [13, 14, 15, 16, 17, 18, 19, 20, 21, 22, 23, 24, 25, 26] from 53 to 217 (fun s13 s14 s15 s16 s17 s18 s19 s20 s21 s22 s23 s24 s25 s26 wx => ∃ (sent staged taken : Nat) (got : Int) (s : QS), s13 = .int .i64 sent ∧ s14 = .int .i64 staged ∧ s15 = .int .i64 got ∧ s16 = .int .i64 taken ∧ Hid (KeI WQ wx B s ⟨3, 5, 8, dd, qq, fl⟩ sent staged taken got ∧ sent ≤ 400))
  case rest =>
    obtain ⟨sent, staged, taken, got, s, rfl, rfl, rfl, rfl, HI⟩ := hcut
    clear KI
    go_wp2_with fail
    go_at_call 13
    refine (HI.out.1.p.turn2 3).mono ?_
    rintro e w4 ⟨rfl, hp, _⟩
    obtain ⟨hK, hst⟩ := HI.out.1.turn rfl hp
    have HT : Hid (PoQ WQ w4 B (s.turn 3) ∧ (s.turn 3).d.rd = 5 ∧ (s.turn 3).ac = sent ∧ (s.turn 3).rc = taken ∧ (s.turn 3).st = [] ∧ ((s.turn 3).qd.length + 0 ≤ 32 ∨ (s.turn 3).qd = [])) := ⟨hp, by rw [hK.dd], hK.ac, hK.rc, hst, .inl (by have := hK.p.ok.q; rw [hK.dd] at this; have := HD.out; simp at *; omega)⟩
    have hse : sent ≤ 400 := by have := HI.out.2; omega
    clear hp hK hst HI
    generalize s.turn 3 = s0 at *
    go_wp2_with fail
    go_loopw [16, 27, 28, 29, 30, 31] (fun s16 s27 s28 s29 s30 s31 wz => ∃ (k tk : Nat) (t : QS), s16 = .int .i64 tk ∧ s27 = .int .i64 k ∧ k ≤ 33 ∧ Hid (PoQ WQ wz B t ∧ t.d.rd = 5 ∧ t.ac = sent ∧ t.rc = tk ∧ t.st = [] ∧ (t.qd.length + k ≤ 32 ∨ t.qd = []))) (fun _ s27 _ _ _ _ _ => 33 - nI s27)
    case atStart => exact ⟨0, taken, s0, rfl, rfl, by omega, HT⟩
    case round =>
      obtain ⟨k, tk, t, rfl, rfl, hk, HT2⟩ := hrel
      clear HT
      have htk : tk ≤ 400 := by
        have e1 := HT2.out.1.ok.e; have e2 := HT2.out.2.2.1; have e3 := HT2.out.2.2.2.1; have e5 := HT2.out.1.ok.l
        omega
      by_cases hk3 : k < 33
      · have hkz : (k : Int) < 33 := by omega
        go_wp2_with fail
        go_at_call 12
        refine (HT2.out.1.recv2 5).mono ?_
        rintro e w5 ⟨rfl, hp, ob, ot⟩
        obtain ⟨t1, t2, t3, t4, t5, t6⟩ := HT2.out
        rcases hq : t.qd with _ | ⟨m, l⟩
        · obtain ⟨hH, hR, hM⟩ := recv_nil t hq
          rw [hR] at hp
          rw [hH, hM]
          have HN : Hid (PoQ WQ w5 B t ∧ t.d.rd = 5 ∧ t.ac = sent ∧ t.rc = tk ∧ t.st = [] ∧ (t.qd.length + (k + 1) ≤ 32 ∨ t.qd = [])) := ⟨hp, t2, t3, t4, t5, .inr hq⟩
          clear HT2 hp ob ot t1 t2 t3 t4 t5 t6 hq hH hR hM
          go_wp2_with fail
          exact ⟨⟨k + 1, tk, t, rfl, by go_num, by omega, HN⟩, by simp [nI]; omega⟩
        · obtain ⟨hH, hR, hM⟩ := recv_len t m l t2 hq
          rw [hR] at hp
          rw [hH, hM]
          have HN : Hid (PoQ WQ w5 B ⟨t.d, t.ac, t.rc + 1, t.lo, l, t.st⟩ ∧ t.d.rd = 5 ∧ t.ac = sent ∧ t.rc + 1 = ((tk + 1 : Nat) : Int) ∧ t.st = [] ∧ (l.length + (k + 1) ≤ 32 ∨ l = [])) := ⟨hp, t2, t3, by rw [t4]; simp, t5, .inl (by rcases t6 with h | h; rw [hq] at h; simp at h; omega; rw [hq] at h; cases h)⟩
          clear HT2 hp ob ot t1 t2 t3 t4 t5 t6 hq hH hR hM
          generalize m.v = mv at *
          go_wp2_with fail
          exact ⟨⟨k + 1, tk + 1, ⟨t.d, t.ac, t.rc + 1, t.lo, l, t.st⟩, by go_num, by go_num, by omega, HN⟩, by simp [nI]; omega⟩
      · have hkz : ¬ (k : Int) < 33 := by omega
        obtain ⟨t1, t2, t3, t4, t5, t6⟩ := HT2.out
        have hq : t.qd = [] := by rcases t6 with h | h; omega; exact h
        have hlo : t.lo = (sent : Int) - (tk : Int) := by
          have e1 := t1.ok.e
          rw [hq, t5, t3, t4] at e1
          simp at e1
          omega
        have hst := t1.stat
        rw [t3, t4, hq, t5, hlo] at hst
        have HK : Hid (Kp W wr) := HQ.out.1.trans t1.K
        have zz : ((([] : List Mg).length : Nat) : Int) = 0 := rfl
        rw [zz] at hst
        clear HT2 t1 t2 t3 t4 t5 t6 hq hlo
        have v1 : IntKind.i64.wrap ((sent : Int) - (tk : Int)) = (sent : Int) - (tk : Int) := w64 (by omega) (by omega)
        go_wp2_with fail
        go_at_call 16
        refine hst.mono ?_
        rintro e w6 ⟨rfl, k6⟩
        have HK6 : Hid (Kp W (w6.alloc (.cells #[.int .i64 sent, .int .i64 tk, .int .i64 0, .int .i64 0, .int .i64 ((sent : Int) - (tk : Int))] 48))) := Chg.alloc (HK.out.trans k6) _
        clear k6 HK hst
        go_wp2_with fail
        go_ret
        exact ⟨by rfl, HK6.out⟩
  case first =>
  go_wp2_with fail
  go_loopw [13, 14, 15, 16, 17, 18, 19, 20, 21, 22, 23, 24, 25, 26] (fun s13 s14 s15 s16 s17 s18 s19 s20 s21 s22 s23 s24 s25 s26 wr => ∃ (i sent staged taken : Nat) (got : Int) (s : QS), s13 = .int .i64 sent ∧ s14 = .int .i64 staged ∧ s15 = .int .i64 got ∧ s16 = .int .i64 taken ∧ s17 = .int .i64 i ∧ i ≤ n ∧ i ≤ 400 ∧ Hid (KeI WQ wr B s ⟨3, 5, 8, dd, qq, fl⟩ sent staged taken got ∧ sent ≤ i)) (fun _ _ _ _ s17 _ _ _ _ _ _ _ _ _ _ => 400 - nI s17)
  case atStart => exact ⟨0, 0, 0, 0, -1, _, rfl, rfl, rfl, rfl, rfl, by omega, by omega, KI.out, by omega⟩
  case round =>
    obtain ⟨i, sent, staged, taken, got, s, rfl, rfl, rfl, rfl, rfl, hi, hi2, HI⟩ := hrel
    clear KI
    by_cases hlt : i < n ∧ i < 400
    · have hz1 : (i : Int) < (n : Int) := by omega
      have hz2 : (i : Int) < 400 := by omega
      go_wp2_with fail
      go_at_call 16
      refine HI.out.1.p.stat.mono ?_
      rintro e w4 ⟨rfl, k4⟩
      rw [HI.out.1.ac, HI.out.1.rc, HI.out.1.sg]
      have H5 : Hid (KeI WQ (w4.alloc (.cells #[.int .i64 sent, .int .i64 taken, .int .i64 (s.qd.length : Nat), .int .i64 staged, .int .i64 s.lo] 48)) B s ⟨3, 5, 8, dd, qq, fl⟩ sent staged taken got ∧ (w4.alloc (.cells #[.int .i64 sent, .int .i64 taken, .int .i64 (s.qd.length : Nat), .int .i64 staged, .int .i64 s.lo] 48)).heap[w4.heap.size]? = some (.cells #[.int .i64 sent, .int .i64 taken, .int .i64 (s.qd.length : Nat), .int .i64 staged, .int .i64 s.lo] 48 (0, 0))) := ⟨HI.out.1.kp (Chg.alloc k4 _), heap_alloc_new _ _⟩
      have hse : sent ≤ i := HI.out.2
      clear HI k4
      go_upto_region 14 with fail
      generalize w4.alloc (.cells #[.int .i64 sent, .int .i64 taken, .int .i64 (s.qd.length : Nat), .int .i64 staged, .int .i64 s.lo] 48) = w5 at *
      generalize w4.heap.size = Nb at *
      obtain ⟨b, o, rfl, hcc⟩ := HF.out.c.resolve_left (by omega)
      have x0 := (HQ.out.1.trans H5.out.1.p.K).cell (hcc i hlt.1).1
      have hrg := (HF.out.r i hlt.1).1
      have hp6 := pk_lt (c := (F i).1) (n := 6) (by omega)
      have hpk : ∀ W, Calls Try.prog 11 #[.int .i64 (F i).1, .int .i64 6] W fun e w' => e = .returned (.int .i64 (pk (F i).1 6)) ∧ w' = W := fun W => pick_any W _ 6 (by omega) hrg
      clear hcc hrg
      generalize (F i).1 = c1 at *
      generalize pk c1 6 = pp at *
      go_wp2_with fail
      go_at_call 11
      refine (hpk _).mono ?_
      rintro e wq ⟨rfl, rfl⟩
      clear hpk x0
      go_upto_block 2 with fail
      go_cut [13, 14, 15, 16, 19, 20, 21, 22, 23, 24, 25] from 53 to 217 (fun s13 s14 s15 s16 s19 s20 s21 s22 s23 s24 s25 wx => ∃ (sent staged taken : Nat) (got : Int) (s : QS), s13 = .int .i64 sent ∧ s14 = .int .i64 staged ∧ s15 = .int .i64 got ∧ s16 = .int .i64 taken ∧ Hid (KeI WQ wx B s ⟨3, 5, 8, dd, qq, fl⟩ sent staged taken got ∧ sent ≤ i + 1))
      case first =>
        have hpp : pp = 0 ∨ pp = 1 ∨ pp = 2 ∨ pp = 3 ∨ pp = 4 ∨ pp = 5 := by omega
        rcases hpp with rfl | rfl | rfl | rfl | rfl | rfl
        · as_aux_lemma =>
            have hr := number_any wq (sent : Int) ⟨by omega, by omega⟩
            have hw : IntKind.u64.wrap (sent : Int) = (sent : Int) := by simp [IntKind.wrap, IntKind.bits, IntKind.signed]; omega
            go_wp2_with fail
            go_at_call 15
            refine hr.mono ?_
            rintro e w6 ⟨v6, rfl, hb6, k6⟩
            have H6 : Hid (KeI WQ w6 B s ⟨3, 5, 8, dd, qq, fl⟩ sent staged taken got ∧ w6.heap[Nb]? = some (.cells #[.int .i64 sent, .int .i64 taken, .int .i64 (s.qd.length : Nat), .int .i64 staged, .int .i64 s.lo] 48 (0, 0)) ∧ Bs w6 v6 (nb sent)) := ⟨H5.out.1.kp k6, k6.heap H5.out.2, hb6⟩
            obtain ⟨va, vc, rfl⟩ := hb6.vshape
            clear hb6 k6 hr H5
            go_wp2_with fail
            go_at_call 14
            refine (H6.out.1.p.send2 3 sent _ (nb sent) H6.out.2.2).mono ?_
            rintro e w7 ⟨rfl, ⟨u, hp⟩, ot⟩
            have hE := H6.out.1.sE ⟨rfl, rfl⟩
            rw [nb_l, hE]
            have bS := ot Nb _ 48 H6.out.2.1 (by decide) (by decide)
            have bQ := ot Nq _ 23 (H6.out.1.p.K.heap HQ.out.2) (by decide) (by decide)
            have z2 : w7.cell? ⟨Nb, 2, none⟩ = some (.int .i64 (s.qd.length : Nat)) := (cells_at bS 2).1
            have z3 : w7.cell? ⟨Nb, 3, none⟩ = some (.int .i64 staged) := (cells_at bS 3).1
            have y3 : w7.cell? ⟨Nq, 3, none⟩ = some (.int .i64 dd) := (cells_at bQ 3).1
            have y4 : w7.cell? ⟨Nq, 4, none⟩ = some (.int .i64 qq) := (cells_at bQ 4).1
            have hlq := H6.out.1.p.ok.q
            have hst : staged ≤ 400 ∧ s.qd.length ≤ 400 := by
              have e1 := H6.out.1.p.ok.e; have e2 := H6.out.1.ac; have e3 := H6.out.1.sg; have e4 := H6.out.1.p.ok.r; have e5 := H6.out.1.p.ok.l
              omega
            have hww : IntKind.i64.wrap ((s.qd.length : Int) + (staged : Int)) = (s.qd.length : Int) + (staged : Int) := w64 (by omega) (by omega)
            cases hfu : s.fu with
            | true =>
              have HK : Hid (KeI WQ w7 B s ⟨3, 5, 8, dd, qq, fl⟩ sent staged taken got) := H6.out.1.sent_no ⟨rfl, rfl⟩ hfu hp
              have hsd := hse
              have fF := H6.out.1.fuF (by omega)
              have fT := H6.out.1.fuT (by omega)
              simp only [hfu] at fF fT
              clear H6 hp ot hE bS bQ hlq hfu
              cases fl with
              | true =>
                have gg : ((s.qd.length : Int) + (staged : Int) == dd) = true := by have := fT rfl; simpa using this
                clear fF fT
                go_wp2_with fail
                go_meet
                case rel => exact ⟨sent, staged, taken, got, s, rfl, rfl, rfl, rfl, HK.out, by omega⟩
              | false =>
                have gg : ((staged : Int) == qq) = true := by have := fF rfl; simpa using this
                clear fF fT
                go_wp2_with fail
                go_meet
                case rel => exact ⟨sent, staged, taken, got, s, rfl, rfl, rfl, rfl, HK.out, by omega⟩
            | false =>
              have HK : Hid (KeI WQ w7 B (s.push ⟨u, nb sent, sent⟩) ⟨3, 5, 8, dd, qq, fl⟩ (sent + 1) (staged + 1) taken got) := H6.out.1.sent_ok ⟨rfl, rfl⟩ hfu hp
              have fF := H6.out.1.fuF (by omega)
              have fT := H6.out.1.fuT (by omega)
              simp only [hfu] at fF fT
              clear H6 hp ot hE bS bQ hlq hfu
              cases fl with
              | true =>
                have gg : ((s.qd.length : Int) + (staged : Int) == dd) = false := by have := fT rfl; simpa using this
                clear fF fT
                go_wp2_with fail
                go_meet
                case rel => exact ⟨sent + 1, staged + 1, taken, got, _, by go_num, by go_num, rfl, rfl, HK.out, by omega⟩
              | false =>
                have gg : ((staged : Int) == qq) = false := by have := fF rfl; simpa using this
                clear fF fT
                go_wp2_with fail
                go_meet
                case rel => exact ⟨sent + 1, staged + 1, taken, got, _, by go_num, by go_num, rfl, rfl, HK.out, by omega⟩
        · as_aux_lemma =>
            have hr := number_any wq (sent : Int) ⟨by omega, by omega⟩
            have hw : IntKind.u64.wrap (sent : Int) = (sent : Int) := by simp [IntKind.wrap, IntKind.bits, IntKind.signed]; omega
            go_wp2_with fail
            go_at_call 15
            refine hr.mono ?_
            rintro e w6 ⟨v6, rfl, hb6, k6⟩
            have H6 : Hid (KeI WQ w6 B s ⟨3, 5, 8, dd, qq, fl⟩ sent staged taken got ∧ w6.heap[Nb]? = some (.cells #[.int .i64 sent, .int .i64 taken, .int .i64 (s.qd.length : Nat), .int .i64 staged, .int .i64 s.lo] 48 (0, 0)) ∧ Bs w6 v6 (nb sent)) := ⟨H5.out.1.kp k6, k6.heap H5.out.2, hb6⟩
            obtain ⟨va, vc, rfl⟩ := hb6.vshape
            clear hb6 k6 hr H5
            go_wp2_with fail
            go_at_call 14
            refine (H6.out.1.p.send2 3 sent _ (nb sent) H6.out.2.2).mono ?_
            rintro e w7 ⟨rfl, ⟨u, hp⟩, ot⟩
            have hE := H6.out.1.sE ⟨rfl, rfl⟩
            rw [nb_l, hE]
            have bS := ot Nb _ 48 H6.out.2.1 (by decide) (by decide)
            have bQ := ot Nq _ 23 (H6.out.1.p.K.heap HQ.out.2) (by decide) (by decide)
            have z2 : w7.cell? ⟨Nb, 2, none⟩ = some (.int .i64 (s.qd.length : Nat)) := (cells_at bS 2).1
            have z3 : w7.cell? ⟨Nb, 3, none⟩ = some (.int .i64 staged) := (cells_at bS 3).1
            have y3 : w7.cell? ⟨Nq, 3, none⟩ = some (.int .i64 dd) := (cells_at bQ 3).1
            have y4 : w7.cell? ⟨Nq, 4, none⟩ = some (.int .i64 qq) := (cells_at bQ 4).1
            have hlq := H6.out.1.p.ok.q
            have hst : staged ≤ 400 ∧ s.qd.length ≤ 400 := by
              have e1 := H6.out.1.p.ok.e; have e2 := H6.out.1.ac; have e3 := H6.out.1.sg; have e4 := H6.out.1.p.ok.r; have e5 := H6.out.1.p.ok.l
              omega
            have hww : IntKind.i64.wrap ((s.qd.length : Int) + (staged : Int)) = (s.qd.length : Int) + (staged : Int) := w64 (by omega) (by omega)
            cases hfu : s.fu with
            | true =>
              have HK : Hid (KeI WQ w7 B s ⟨3, 5, 8, dd, qq, fl⟩ sent staged taken got) := H6.out.1.sent_no ⟨rfl, rfl⟩ hfu hp
              have hsd := hse
              have fF := H6.out.1.fuF (by omega)
              have fT := H6.out.1.fuT (by omega)
              simp only [hfu] at fF fT
              clear H6 hp ot hE bS bQ hlq hfu
              cases fl with
              | true =>
                have gg : ((s.qd.length : Int) + (staged : Int) == dd) = true := by have := fT rfl; simpa using this
                clear fF fT
                go_wp2_with fail
                go_meet
                case rel => exact ⟨sent, staged, taken, got, s, rfl, rfl, rfl, rfl, HK.out, by omega⟩
              | false =>
                have gg : ((staged : Int) == qq) = true := by have := fF rfl; simpa using this
                clear fF fT
                go_wp2_with fail
                go_meet
                case rel => exact ⟨sent, staged, taken, got, s, rfl, rfl, rfl, rfl, HK.out, by omega⟩
            | false =>
              have HK : Hid (KeI WQ w7 B (s.push ⟨u, nb sent, sent⟩) ⟨3, 5, 8, dd, qq, fl⟩ (sent + 1) (staged + 1) taken got) := H6.out.1.sent_ok ⟨rfl, rfl⟩ hfu hp
              have fF := H6.out.1.fuF (by omega)
              have fT := H6.out.1.fuT (by omega)
              simp only [hfu] at fF fT
              clear H6 hp ot hE bS bQ hlq hfu
              cases fl with
              | true =>
                have gg : ((s.qd.length : Int) + (staged : Int) == dd) = false := by have := fT rfl; simpa using this
                clear fF fT
                go_wp2_with fail
                go_meet
                case rel => exact ⟨sent + 1, staged + 1, taken, got, _, by go_num, by go_num, rfl, rfl, HK.out, by omega⟩
              | false =>
                have gg : ((staged : Int) == qq) = false := by have := fF rfl; simpa using this
                clear fF fT
                go_wp2_with fail
                go_meet
                case rel => exact ⟨sent + 1, staged + 1, taken, got, _, by go_num, by go_num, rfl, rfl, HK.out, by omega⟩
        · as_aux_lemma =>
            have hr := number_any wq (sent : Int) ⟨by omega, by omega⟩
            have hw : IntKind.u64.wrap (sent : Int) = (sent : Int) := by simp [IntKind.wrap, IntKind.bits, IntKind.signed]; omega
            go_wp2_with fail
            go_at_call 15
            refine hr.mono ?_
            rintro e w6 ⟨v6, rfl, hb6, k6⟩
            have H6 : Hid (KeI WQ w6 B s ⟨3, 5, 8, dd, qq, fl⟩ sent staged taken got ∧ w6.heap[Nb]? = some (.cells #[.int .i64 sent, .int .i64 taken, .int .i64 (s.qd.length : Nat), .int .i64 staged, .int .i64 s.lo] 48 (0, 0)) ∧ Bs w6 v6 (nb sent)) := ⟨H5.out.1.kp k6, k6.heap H5.out.2, hb6⟩
            obtain ⟨va, vc, rfl⟩ := hb6.vshape
            clear hb6 k6 hr H5
            go_wp2_with fail
            go_at_call 14
            refine (H6.out.1.p.send2 3 sent _ (nb sent) H6.out.2.2).mono ?_
            rintro e w7 ⟨rfl, ⟨u, hp⟩, ot⟩
            have hE := H6.out.1.sE ⟨rfl, rfl⟩
            rw [nb_l, hE]
            have bS := ot Nb _ 48 H6.out.2.1 (by decide) (by decide)
            have bQ := ot Nq _ 23 (H6.out.1.p.K.heap HQ.out.2) (by decide) (by decide)
            have z2 : w7.cell? ⟨Nb, 2, none⟩ = some (.int .i64 (s.qd.length : Nat)) := (cells_at bS 2).1
            have z3 : w7.cell? ⟨Nb, 3, none⟩ = some (.int .i64 staged) := (cells_at bS 3).1
            have y3 : w7.cell? ⟨Nq, 3, none⟩ = some (.int .i64 dd) := (cells_at bQ 3).1
            have y4 : w7.cell? ⟨Nq, 4, none⟩ = some (.int .i64 qq) := (cells_at bQ 4).1
            have hlq := H6.out.1.p.ok.q
            have hst : staged ≤ 400 ∧ s.qd.length ≤ 400 := by
              have e1 := H6.out.1.p.ok.e; have e2 := H6.out.1.ac; have e3 := H6.out.1.sg; have e4 := H6.out.1.p.ok.r; have e5 := H6.out.1.p.ok.l
              omega
            have hww : IntKind.i64.wrap ((s.qd.length : Int) + (staged : Int)) = (s.qd.length : Int) + (staged : Int) := w64 (by omega) (by omega)
            cases hfu : s.fu with
            | true =>
              have HK : Hid (KeI WQ w7 B s ⟨3, 5, 8, dd, qq, fl⟩ sent staged taken got) := H6.out.1.sent_no ⟨rfl, rfl⟩ hfu hp
              have hsd := hse
              have fF := H6.out.1.fuF (by omega)
              have fT := H6.out.1.fuT (by omega)
              simp only [hfu] at fF fT
              clear H6 hp ot hE bS bQ hlq hfu
              cases fl with
              | true =>
                have gg : ((s.qd.length : Int) + (staged : Int) == dd) = true := by have := fT rfl; simpa using this
                clear fF fT
                go_wp2_with fail
                go_meet
                case rel => exact ⟨sent, staged, taken, got, s, rfl, rfl, rfl, rfl, HK.out, by omega⟩
              | false =>
                have gg : ((staged : Int) == qq) = true := by have := fF rfl; simpa using this
                clear fF fT
                go_wp2_with fail
                go_meet
                case rel => exact ⟨sent, staged, taken, got, s, rfl, rfl, rfl, rfl, HK.out, by omega⟩
            | false =>
              have HK : Hid (KeI WQ w7 B (s.push ⟨u, nb sent, sent⟩) ⟨3, 5, 8, dd, qq, fl⟩ (sent + 1) (staged + 1) taken got) := H6.out.1.sent_ok ⟨rfl, rfl⟩ hfu hp
              have fF := H6.out.1.fuF (by omega)
              have fT := H6.out.1.fuT (by omega)
              simp only [hfu] at fF fT
              clear H6 hp ot hE bS bQ hlq hfu
              cases fl with
              | true =>
                have gg : ((s.qd.length : Int) + (staged : Int) == dd) = false := by have := fT rfl; simpa using this
                clear fF fT
                go_wp2_with fail
                go_meet
                case rel => exact ⟨sent + 1, staged + 1, taken, got, _, by go_num, by go_num, rfl, rfl, HK.out, by omega⟩
              | false =>
                have gg : ((staged : Int) == qq) = false := by have := fF rfl; simpa using this
                clear fF fT
                go_wp2_with fail
                go_meet
                case rel => exact ⟨sent + 1, staged + 1, taken, got, _, by go_num, by go_num, rfl, rfl, HK.out, by omega⟩
        · as_aux_lemma =>
            go_wp2_with fail
            go_at_call 12
            refine (H5.out.1.p.recv2 5).mono ?_
            rintro e w7 ⟨rfl, hp, ob, ot⟩
            have hg0 := H5.out.1.g0
            have hE := H5.out.1.gE rfl
            rw [hE]
            have bS := ot Nb _ 48 H5.out.2 (by decide) (by decide)
            have z2 : w7.cell? ⟨Nb, 2, none⟩ = some (.int .i64 (s.qd.length : Nat)) := (cells_at bS 2).1
            have htk : taken ≤ 400 := by
              have e1 := H5.out.1.p.ok.e; have e2 := H5.out.1.ac; have e3 := H5.out.1.rc; have e5 := H5.out.1.p.ok.l
              omega
            rcases hq : s.qd with _ | ⟨m, l⟩
            · obtain ⟨hH, hK⟩ := H5.out.1.recv_no hq hp
              have hM := (recv_nil s hq).2.2
              have HK : Hid (KeI WQ w7 B s ⟨3, 5, 8, dd, qq, fl⟩ sent staged taken got) := hK
              rw [hH, hM]
              rw [hq] at z2
              clear H5 hp ob ot bS hq hE hH hM hK
              simp only [Mg.no, List.length_nil] at z2 ⊢
              go_wp2_with fail
              go_meet
              case rel => exact ⟨sent, staged, taken, got, s, rfl, rfl, rfl, rfl, HK.out, by omega⟩
            · obtain ⟨hH, hM, ⟨hm1, hm2, hm3⟩, hG, hK⟩ := H5.out.1.recv_ok rfl hq hp
              have HK : Hid (KeI WQ w7 B (s.recv 5) ⟨3, 5, 8, dd, qq, fl⟩ sent staged (taken + 1) m.tk) := hK
              have HG : Hid (fl = true → m.tk = got + 1) := hG
              rw [hH, hM]
              rw [hM] at ob
              rw [hm3] at ob
              obtain ⟨xa, xc, hv⟩ := ob.shape
              rw [nb_l] at hv
              rw [hv] at ob ⊢
              have HO : Hid (Bs w7 (.slice xa 4 xc) (nb m.tk)) := ob.bs (by rw [nb_l]; omega)
              rw [hq] at z2
              clear H5 hp ob ot bS hq hE hH hM hK hG hv hm3
              simp only [List.length_cons] at z2
              have z2' : w7.cell? ⟨Nb, 2, none⟩ = some (.int .i64 ((l.length : Int) + 1)) := by rw [z2]; simp
              clear z2
              have hcv : IntKind.i64.wrap m.tk = m.tk := w64 (by omega) (by omega)
              cases fl with
              | true =>
                have hz6 : (0 : Int) < (l.length : Int) + 1 := by omega
                go_upto_region 36 with fail
                have hS : (convert 37 9 (.slice xa 4 xc)).run Try.prog w7.drew = .ok (.string (strOf (nb m.tk))) w7.drew := conv_str _ _ _ (HO.out.kp (Kp.drew _))
                have hNm : Calls Try.prog 15 #[.int .i64 m.tk] w7.drew fun e w1 => ∃ la ln lc, e = .returned (.slice la ln lc) ∧ (convert 37 9 (.slice xa 4 xc)).run Try.prog w1 = .ok (.string (strOf (nb m.tk))) w1 ∧ (convert 37 9 (.slice la ln lc)).run Try.prog w1 = .ok (.string (strOf (nb m.tk))) w1 ∧ Kp w7 w1 := by
                  refine (number_any w7.drew m.tk ⟨by omega, by omega⟩).mono ?_
                  rintro e w8 ⟨v8, rfl, hb8, k8⟩
                  obtain ⟨la, lc, rfl⟩ := hb8.vshape
                  exact ⟨la, _, lc, rfl, conv_str _ _ _ ((HO.out.kp (Kp.drew _)).kp k8), conv_str _ _ _ hb8, (Kp.drew w7).trans k8⟩
                have hg1 : IntKind.i64.wrap (got + 1) = got + 1 := w64 (by omega) (by omega)
                refine reg5_36_t w7 xc xa m.tk got sent _ hm1 hm2 (by simpa using HG.out) hg1 hS _ hNm _ (fun _ _ _ q _ h => by cases q <;> exact h) ?_
                intro la ln lc w8 k8
                have HK8 : Hid (KeI WQ w8 B (s.recv 5) ⟨3, 5, 8, dd, qq, true⟩ sent staged (taken + 1) m.tk) := HK.out.kp k8
                clear HK k8 hS hNm HO
                go_wp2_with fail
                go_meet
                case rel => exact ⟨sent, staged, taken + 1, m.tk, s.recv 5, rfl, rfl, rfl, by go_num, HK8.out, by omega⟩
              | false =>
                have hz6 : (0 : Int) < (l.length : Int) + 1 := by omega
                go_upto_region 36 with fail
                have hS : (convert 37 9 (.slice xa 4 xc)).run Try.prog w7.drew = .ok (.string (strOf (nb m.tk))) w7.drew := conv_str _ _ _ (HO.out.kp (Kp.drew _))
                have hNm : Calls Try.prog 15 #[.int .i64 m.tk] w7.drew fun e w1 => ∃ la ln lc, e = .returned (.slice la ln lc) ∧ (convert 37 9 (.slice xa 4 xc)).run Try.prog w1 = .ok (.string (strOf (nb m.tk))) w1 ∧ (convert 37 9 (.slice la ln lc)).run Try.prog w1 = .ok (.string (strOf (nb m.tk))) w1 ∧ Kp w7 w1 := by
                  refine (number_any w7.drew m.tk ⟨by omega, by omega⟩).mono ?_
                  rintro e w8 ⟨v8, rfl, hb8, k8⟩
                  obtain ⟨la, lc, rfl⟩ := hb8.vshape
                  exact ⟨la, _, lc, rfl, conv_str _ _ _ ((HO.out.kp (Kp.drew _)).kp k8), conv_str _ _ _ hb8, (Kp.drew w7).trans k8⟩
                refine reg5_36_f w7 xc xa m.tk got sent _ hm1 hm2 hS _ hNm _ (fun _ _ _ q _ h => by cases q <;> exact h) ?_
                intro la ln lc w8 k8
                have HK8 : Hid (KeI WQ w8 B (s.recv 5) ⟨3, 5, 8, dd, qq, false⟩ sent staged (taken + 1) m.tk) := HK.out.kp k8
                clear HK k8 hS hNm HO
                go_wp2_with fail
                go_meet
                case rel => exact ⟨sent, staged, taken + 1, m.tk, s.recv 5, rfl, rfl, rfl, by go_num, HK8.out, by omega⟩
        · as_aux_lemma =>
            go_wp2_with fail
            go_at_call 12
            refine (H5.out.1.p.recv2 5).mono ?_
            rintro e w7 ⟨rfl, hp, ob, ot⟩
            have hg0 := H5.out.1.g0
            have hE := H5.out.1.gE rfl
            rw [hE]
            have bS := ot Nb _ 48 H5.out.2 (by decide) (by decide)
            have z2 : w7.cell? ⟨Nb, 2, none⟩ = some (.int .i64 (s.qd.length : Nat)) := (cells_at bS 2).1
            have htk : taken ≤ 400 := by
              have e1 := H5.out.1.p.ok.e; have e2 := H5.out.1.ac; have e3 := H5.out.1.rc; have e5 := H5.out.1.p.ok.l
              omega
            rcases hq : s.qd with _ | ⟨m, l⟩
            · obtain ⟨hH, hK⟩ := H5.out.1.recv_no hq hp
              have hM := (recv_nil s hq).2.2
              have HK : Hid (KeI WQ w7 B s ⟨3, 5, 8, dd, qq, fl⟩ sent staged taken got) := hK
              rw [hH, hM]
              rw [hq] at z2
              clear H5 hp ob ot bS hq hE hH hM hK
              simp only [Mg.no, List.length_nil] at z2 ⊢
              go_wp2_with fail
              go_meet
              case rel => exact ⟨sent, staged, taken, got, s, rfl, rfl, rfl, rfl, HK.out, by omega⟩
            · obtain ⟨hH, hM, ⟨hm1, hm2, hm3⟩, hG, hK⟩ := H5.out.1.recv_ok rfl hq hp
              have HK : Hid (KeI WQ w7 B (s.recv 5) ⟨3, 5, 8, dd, qq, fl⟩ sent staged (taken + 1) m.tk) := hK
              have HG : Hid (fl = true → m.tk = got + 1) := hG
              rw [hH, hM]
              rw [hM] at ob
              rw [hm3] at ob
              obtain ⟨xa, xc, hv⟩ := ob.shape
              rw [nb_l] at hv
              rw [hv] at ob ⊢
              have HO : Hid (Bs w7 (.slice xa 4 xc) (nb m.tk)) := ob.bs (by rw [nb_l]; omega)
              rw [hq] at z2
              clear H5 hp ob ot bS hq hE hH hM hK hG hv hm3
              simp only [List.length_cons] at z2
              have z2' : w7.cell? ⟨Nb, 2, none⟩ = some (.int .i64 ((l.length : Int) + 1)) := by rw [z2]; simp
              clear z2
              have hcv : IntKind.i64.wrap m.tk = m.tk := w64 (by omega) (by omega)
              cases fl with
              | true =>
                have hz6 : (0 : Int) < (l.length : Int) + 1 := by omega
                go_upto_region 36 with fail
                have hS : (convert 37 9 (.slice xa 4 xc)).run Try.prog w7.drew = .ok (.string (strOf (nb m.tk))) w7.drew := conv_str _ _ _ (HO.out.kp (Kp.drew _))
                have hNm : Calls Try.prog 15 #[.int .i64 m.tk] w7.drew fun e w1 => ∃ la ln lc, e = .returned (.slice la ln lc) ∧ (convert 37 9 (.slice xa 4 xc)).run Try.prog w1 = .ok (.string (strOf (nb m.tk))) w1 ∧ (convert 37 9 (.slice la ln lc)).run Try.prog w1 = .ok (.string (strOf (nb m.tk))) w1 ∧ Kp w7 w1 := by
                  refine (number_any w7.drew m.tk ⟨by omega, by omega⟩).mono ?_
                  rintro e w8 ⟨v8, rfl, hb8, k8⟩
                  obtain ⟨la, lc, rfl⟩ := hb8.vshape
                  exact ⟨la, _, lc, rfl, conv_str _ _ _ ((HO.out.kp (Kp.drew _)).kp k8), conv_str _ _ _ hb8, (Kp.drew w7).trans k8⟩
                have hg1 : IntKind.i64.wrap (got + 1) = got + 1 := w64 (by omega) (by omega)
                refine reg5_36_t w7 xc xa m.tk got sent _ hm1 hm2 (by simpa using HG.out) hg1 hS _ hNm _ (fun _ _ _ q _ h => by cases q <;> exact h) ?_
                intro la ln lc w8 k8
                have HK8 : Hid (KeI WQ w8 B (s.recv 5) ⟨3, 5, 8, dd, qq, true⟩ sent staged (taken + 1) m.tk) := HK.out.kp k8
                clear HK k8 hS hNm HO
                go_wp2_with fail
                go_meet
                case rel => exact ⟨sent, staged, taken + 1, m.tk, s.recv 5, rfl, rfl, rfl, by go_num, HK8.out, by omega⟩
              | false =>
                have hz6 : (0 : Int) < (l.length : Int) + 1 := by omega
                go_upto_region 36 with fail
                have hS : (convert 37 9 (.slice xa 4 xc)).run Try.prog w7.drew = .ok (.string (strOf (nb m.tk))) w7.drew := conv_str _ _ _ (HO.out.kp (Kp.drew _))
                have hNm : Calls Try.prog 15 #[.int .i64 m.tk] w7.drew fun e w1 => ∃ la ln lc, e = .returned (.slice la ln lc) ∧ (convert 37 9 (.slice xa 4 xc)).run Try.prog w1 = .ok (.string (strOf (nb m.tk))) w1 ∧ (convert 37 9 (.slice la ln lc)).run Try.prog w1 = .ok (.string (strOf (nb m.tk))) w1 ∧ Kp w7 w1 := by
                  refine (number_any w7.drew m.tk ⟨by omega, by omega⟩).mono ?_
                  rintro e w8 ⟨v8, rfl, hb8, k8⟩
                  obtain ⟨la, lc, rfl⟩ := hb8.vshape
                  exact ⟨la, _, lc, rfl, conv_str _ _ _ ((HO.out.kp (Kp.drew _)).kp k8), conv_str _ _ _ hb8, (Kp.drew w7).trans k8⟩
                refine reg5_36_f w7 xc xa m.tk got sent _ hm1 hm2 hS _ hNm _ (fun _ _ _ q _ h => by cases q <;> exact h) ?_
                intro la ln lc w8 k8
                have HK8 : Hid (KeI WQ w8 B (s.recv 5) ⟨3, 5, 8, dd, qq, false⟩ sent staged (taken + 1) m.tk) := HK.out.kp k8
                clear HK k8 hS hNm HO
                go_wp2_with fail
                go_meet
                case rel => exact ⟨sent, staged, taken + 1, m.tk, s.recv 5, rfl, rfl, rfl, by go_num, HK8.out, by omega⟩
        · as_aux_lemma =>
            go_wp2_with fail
            go_at_call 13
            refine (H5.out.1.p.turn2 3).mono ?_
            rintro e w7 ⟨rfl, hp, ot⟩
            have HK : Hid (KeI WQ w7 B (s.turn 3) ⟨3, 5, 8, dd, qq, fl⟩ sent 0 taken got) := (H5.out.1.turn rfl hp).1
            clear H5 hp ot
            go_wp2_with fail
            go_meet
            case rel => exact ⟨sent, 0, taken, got, s.turn 3, rfl, rfl, rfl, rfl, HK.out, by omega⟩
      case rest => as_aux_lemma =>
        obtain ⟨sent, staged, taken, got, s, rfl, rfl, rfl, rfl, HI⟩ := hcut
        clear H5
        go_wp2_with fail
        go_at_call 16
        refine HI.out.1.p.stat.mono ?_
        rintro e w8 ⟨rfl, k8⟩
        rw [HI.out.1.ac, HI.out.1.rc, HI.out.1.sg]
        have HJ : Hid (KeI WQ (w8.alloc (.cells #[.int .i64 sent, .int .i64 taken, .int .i64 (s.qd.length : Nat), .int .i64 staged, .int .i64 s.lo] 48)) B s ⟨3, 5, 8, dd, qq, fl⟩ sent staged taken got ∧ sent ≤ i + 1 ∧ (w8.alloc (.cells #[.int .i64 sent, .int .i64 taken, .int .i64 (s.qd.length : Nat), .int .i64 staged, .int .i64 s.lo] 48)).heap[w8.heap.size]? = some (.cells #[.int .i64 sent, .int .i64 taken, .int .i64 (s.qd.length : Nat), .int .i64 staged, .int .i64 s.lo] 48 (0, 0))) := ⟨HI.out.1.kp (Chg.alloc k8 _), HI.out.2, heap_alloc_new _ _⟩
        clear HI k8
        go_upto_region 41 with fail
        generalize w8.alloc (.cells #[.int .i64 sent, .int .i64 taken, .int .i64 (s.qd.length : Nat), .int .i64 staged, .int .i64 s.lo] 48) = w9 at *
        generalize w8.heap.size = Ns at *
        have z0 : w9.cell? ⟨Ns, 0, none⟩ = some (.int .i64 sent) := (cells_at HJ.out.2.2 0).1
        have z1 : w9.cell? ⟨Ns, 1, none⟩ = some (.int .i64 taken) := (cells_at HJ.out.2.2 1).1
        have z2 : w9.cell? ⟨Ns, 2, none⟩ = some (.int .i64 (s.qd.length : Nat)) := (cells_at HJ.out.2.2 2).1
        have z3 : w9.cell? ⟨Ns, 3, none⟩ = some (.int .i64 staged) := (cells_at HJ.out.2.2 3).1
        have z4 : w9.cell? ⟨Ns, 4, none⟩ = some (.int .i64 s.lo) := (cells_at HJ.out.2.2 4).1
        have y3 : w9.cell? ⟨Nq, 3, none⟩ = some (.int .i64 dd) := (cells_at (HJ.out.1.p.K.heap HQ.out.2) 3).1
        have hse2 := HJ.out.2.1
        have hsum : (sent : Int) = (taken : Int) + (s.qd.length : Int) + (staged : Int) + s.lo ∧ 0 ≤ s.lo := by
          have e1 := HJ.out.1.p.ok.e; have e2 := HJ.out.1.ac; have e3 := HJ.out.1.rc; have e4 := HJ.out.1.sg; have e5 := HJ.out.1.p.ok.l
          omega
        have hqd : (s.qd.length : Int) ≤ dd := by have := HJ.out.1.p.ok.q; rw [HJ.out.1.dd] at this; exact this
        have hlo : fl = true → s.lo = 0 := fun hf => (HJ.out.1.p.ok.f (by rw [HJ.out.1.dd]; exact hf)).2
        have v1 : IntKind.i64.wrap ((taken : Int) + (s.qd.length : Int)) = (taken : Int) + (s.qd.length : Int) := w64 (by omega) (by omega)
        have v2 : IntKind.i64.wrap ((taken : Int) + (s.qd.length : Int) + (staged : Int)) = (taken : Int) + (s.qd.length : Int) + (staged : Int) := w64 (by omega) (by omega)
        have v3 : IntKind.i64.wrap ((taken : Int) + (s.qd.length : Int) + (staged : Int) + s.lo) = (taken : Int) + (s.qd.length : Int) + (staged : Int) + s.lo := w64 (by omega) (by omega)
        have g1 : ((sent : Int) != (taken : Int) + (s.qd.length : Int) + (staged : Int) + s.lo) = false := by rw [hsum.1]; simp
        have g2 : ((sent : Int) != (sent : Int)) = false := by simp
        have g3 : ((taken : Int) != (taken : Int)) = false := by simp
        have g4 : ((staged : Int) != (staged : Int)) = false := by simp
        have g5 : ¬ dd < (s.qd.length : Int) := by omega
        have HX : Hid (KeI WQ w9 B s ⟨3, 5, 8, dd, qq, fl⟩ sent staged taken got ∧ sent ≤ i + 1) := ⟨HJ.out.1, hse2⟩
        clear HJ hsum hqd hse2
        generalize s.qd.length = ql at *
        generalize s.lo = lo at *
        cases fl with
        | true =>
          have g6 : (lo != 0) = false := by simp [hlo rfl]
          clear hlo
          go_wp2_with fail
          exact ⟨⟨i + 1, sent, staged, taken, got, s, rfl, rfl, rfl, rfl, by go_num, by omega, by omega, HX⟩, by simp [nI]; omega⟩
        | false =>
          clear hlo
          go_wp2_with fail
          exact ⟨⟨i + 1, sent, staged, taken, got, s, rfl, rfl, rfl, rfl, by go_num, by omega, by omega, HX⟩, by simp [nI]; omega⟩
    · by_cases q1 : i < n
      · have q2 : ¬ (i : Int) < 400 := fun h => hlt ⟨q1, by omega⟩
        have q1' : (i : Int) < (n : Int) := by omega
        go_wp2_with fail
        go_meet
        case rel => exact ⟨sent, staged, taken, got, s, rfl, rfl, rfl, rfl, HI.out.1, by have := HI.out.2; omega⟩
      · have q1' : ¬ (i : Int) < (n : Int) := by omega
        go_wp2_with fail
        go_meet
        case rel => exact ⟨sent, staged, taken, got, s, rfl, rfl, rfl, rfl, HI.out.1, by have := HI.out.2; omega⟩
end Go.Proofs.Ytnblhaeojlpmmaa
