import Derived.Test.YtadpgaaijdpbiaaLo
namespace Go.Proofs.Ytadpgaaijdpbiaa
open Go.ChangeShapes Go.WideShapes Go.ChangeAt Go.RowKit Go.Shelf
set_option linter.unusedVariables false

theorem e44 (w : World) : (sizeOf 44).run Try.prog w = .ok 3 w := by
  have : (Try.prog.info? 44).map (·.size) = some 3 := by kernel_rfl
  cases hi : Try.prog.info? 44 with
  | none => rw [hi] at this; cases this
  | some i => rw [hi] at this; simp at this; simp [sizeOf, typeInfo, hi, this]
/-- 's[:h]'. -/
theorem subh41 (a : Option Addr) (len cap h : Nat) (hc : h ≤ cap) (w : World) : (Instr.slice 41 (.slice a len cap) none (some (.int .i64 h)) none).run Try.prog w = .ok (.slice a h cap) w := by
  have e : Option.map (fun x => Addr.add x 0) a = a := by cases a <;> simp [Addr.add]
  simp [Instr.slice, run_underlying Try.underlying41, Instr.sliceBounds, Instr.sliceBound, asIntOf, hc, e, e44 w]

set_option maxHeartbeats 4000000 in
set_option maxRecDepth 100000 in
theorem long_b (w : World) (slots : Int) (a : Option Addr) (len cap : Nat) (F : Nat → Int × Int × Int) (hU : UsesIn w a len cap F) (rounds turn : Int) (i0 : InI slots) (i1 : InI rounds) (i2 : InI turn) (h100 : 100 < len) :
    Calls Try.prog 4 #[.int .i64 slots, .slice a len cap, .int .i64 rounds, .int .i64 turn] w fun e w' => e = .returned (.bool true) ∧ Below w.heap.size w w' := by
  have P1 : ∀ w, Calls Try.prog 10 #[.int .i64 slots, .int .i64 64] w fun e w' => e = .returned (.int .i64 (pk slots 64 : Nat)) ∧ w' = w := fun w => pick_any w slots 64 (by omega) (by omega) i0
  have P2 : ∀ w, Calls Try.prog 10 #[.int .i64 rounds, .int .i64 6000] w fun e w' => e = .returned (.int .i64 (pk rounds 6000 : Nat)) ∧ w' = w := fun w => pick_any w rounds 6000 (by omega) (by omega) i1
  have P3 : ∀ w, Calls Try.prog 10 #[.int .i64 turn, .int .i64 50] w fun e w' => e = .returned (.int .i64 (pk turn 50 : Nat)) ∧ w' = w := fun w => pick_any w turn 50 (by omega) (by omega) i2
  have l1 := pk_lt slots 64 (by omega)
  have l2 := pk_lt rounds 6000 (by omega)
  have l3 := pk_lt turn 50 (by omega)
  generalize pk slots 64 = n0 at P1 l1
  generalize pk rounds 6000 = R at P2 l2
  generalize pk turn 50 = tn at P3 l3
  obtain ⟨n, hn⟩ : ∃ n, n = 1 + n0 := ⟨_, rfl⟩
  have e1 : (1 : Int) + (n0 : Int) = (n : Int) := by omega
  have hn1 : 1 ≤ n := by omega
  have hn64 : n ≤ 64 := by omega
  have hN : ∀ w, Calls Try.prog 11 #[.int .i64 (n : Int)] w _ := fun w => New_any w n hn1 hn64
  obtain ⟨L, hL⟩ : ∃ L, L = 100 := ⟨_, rfl⟩
  have KU : Hid (UsesIn w a L cap F) := hU.cut L (by omega)
  have hsl : ∀ w, (Instr.slice 41 (.slice a len cap) none (some (.int .i64 100)) none).run Try.prog w = .ok (.slice a L cap) w := fun w => by
    rw [hL]; exact subh41 a len cap 100 (by have := hU.lc; omega) w
  have hL100 : L ≤ 100 := by omega
  clear hU i0 i1 i2 hn l1 hL
  go_enter Try.func4, Try.ntmps4
  go_wp2_with fail
  go_at_call 9
  refine (works_any w).mono ?_
  rintro e w1 ⟨rfl, hk1⟩
  go_wp2_with fail
  go_at_call 10
  refine (P1 _).mono ?_
  rintro e w2 ⟨rfl, rfl⟩
  have w11 : IntKind.i64.wrap (1 + (n0 : Int)) = (n : Int) := by rw [e1]; simp [IntKind.wrap, IntKind.bits, IntKind.signed]; omega
  clear P1 e1
  have HK1 : Hid (Kp w w2) := hk1
  clear hk1
  go_wp2_with fail
  go_at_call 11
  refine (hN _).mono ?_
  rintro e W1 ⟨rfl, hT1, hk2⟩
  obtain ⟨B, hB⟩ : ∃ B, B = w2.heap.size + 1 := ⟨_, rfl⟩
  obtain ⟨M, hM⟩ : ∃ M, M = w2.heap.size := ⟨_, rfl⟩
  rw [← hB, ← hM] at hT1
  have hs := HK1.out.size
  have KF : Hid (Fr w W1 B M (.slice none 0 0) n 0 Sta.none) := ⟨hT1, Kp.trans HK1.out hk2, fun i hi => by
    rcases hi with h | h | h
    · omega
    · omega
    · cases h⟩
  clear hT1 hk2 hM hN hs HK1 w11
  have h100' : (100 : Int) < (len : Int) := by omega
  go_wp2_with fail
  rw [← hB]
  clear hB
  go_loopw [13, 14] (fun lvv i wr => ∃ (lv v : Value) (last : List Tg) (s : Sta) (k j : Nat), lv = lvv ∧ i = .int .i64 j ∧ j ≤ R ∧ k ≤ j ∧ last.length ≤ j ∧ Hid (LInv w wr B M v n k s lv last)) (fun _ i _ => R - (intOf i).toNat)
  case atStart => exact ⟨_, .slice none 0 0, [], Sta.none, 0, 0, rfl, rfl, by omega, by omega, by simp, ⟨KF.out, World.ownsRow_nil _ 0 31 2, List.nodup_nil, by simp [Sta.none], fun t h => (by cases h), fun b hb => (by cases hb)⟩⟩
  case round =>
    obtain ⟨lv, v, last, s, k, j, rfl, rfl, hjR, hkj, hlj, HI⟩ := hrel
    clear KF
    by_cases hjl : j < R
    · have hjz : (j : Int) < (R : Int) := by omega
      by_cases hl0 : 0 < L
      · have hlz : (0 : Int) < (L : Int) := by omega
        obtain ⟨b0, off0, rfl, hb0, hcells⟩ := (KU.out.kept HI.out.fr.kp).src.resolve_left (by omega)
        obtain ⟨ix, hix⟩ : ∃ ix : Nat, ix = (j + j / (1 + tn)) % L := ⟨_, rfl⟩
        have hixl : ix < L := by rw [hix]; exact Nat.mod_lt _ hl0
        have huo := KU.out.ok ix hixl
        obtain ⟨u0, u1, u2⟩ := hcells ix hixl
        have hTag := fun W => tag_any W (F ix) huo
        have hdiv : j / (1 + tn) ≤ j := Nat.div_le_self _ _
        obtain ⟨dq, hdq⟩ : ∃ dq : Nat, dq = j / (1 + tn) := ⟨_, rfl⟩
        have hdi : (j : Int) / (1 + (tn : Int)) = (dq : Int) := by rw [hdq]; simp
        rw [← hdq] at hdiv hix
        have hmi : ((j : Int) + (dq : Int)) % (L : Int) = (ix : Int) := by rw [hix]; simp
        have HC : Hid (∀ i, i < L → wr.cell? ⟨b0, off0 + i * 3, none⟩ = some (.int .i64 (F i).1) ∧ wr.cell? ⟨b0, off0 + i * 3 + 1, none⟩ = some (.int .i64 (F i).2.1) ∧ wr.cell? ⟨b0, off0 + i * 3 + 2, none⟩ = some (.int .i64 (F i).2.2)) := hcells
        clear hcells hix hdq
        unfold uV at hTag
        go_wp2_with fail
        go_at_call 10
        refine (P2 _).mono ?_
        rintro e w' ⟨rfl, rfl⟩
        go_wp2_with fail
        go_at_call 10
        refine (P3 _).mono ?_
        rintro e w' ⟨rfl, rfl⟩
        go_wp2_with fail
        go_at_call 15
        refine (hTag _).mono ?_
        rintro e W2 ⟨rfl, hkT⟩
        have htok := uTag_ok (F ix)
        obtain ⟨t, ht⟩ : ∃ t, t = uTag (F ix) := ⟨_, rfl⟩
        rw [← ht] at htok ⊢
        obtain ⟨W3, hW3⟩ : ∃ W, W = W2.alloc (.cells #[.int .i64 t.1, .int .u32 ((t.2 : Nat) : Int)] 31) := ⟨_, rfl⟩
        obtain ⟨b15, hb15⟩ : ∃ b, b = W2.heap.size := ⟨_, rfl⟩
        have hk3 : Kp w' W3 := Kp.trans hkT (by rw [hW3]; exact (Chg.refl W2 _).alloc _)
        have hx15 : W3.heap[b15]? = some (.cells #[.int .i64 t.1, .int .u32 ((t.2 : Nat) : Int)] 31 (0, 0)) := by rw [hW3, hb15]; exact heap_alloc_new W2 _
        have hF3 := HI.out.fr.later hk3
        have hrow3 : OR W3 lv last := Chg.owns hk3 HI.out.row (fun _ _ h => h)
        have hb15s : w'.heap.size ≤ b15 := by rw [hb15]; exact hkT.size
        have hb15F : ¬ Ft B M v b15 := fun h => by have := HI.out.fr.t.lt h; omega
        obtain ⟨la, lc, hlv⟩ := hrow3.form
        obtain ⟨m, hm⟩ : ∃ m, m = last.length := ⟨_, rfl⟩
        rw [← hm] at hlv hlj
        have HJ : Hid (Fr w W3 B M v n k s ∧ OR W3 lv last ∧ last.Nodup ∧ s.l = last.take n ∧ (∀ t ∈ last, TOk t) ∧ (∀ b, lv.ownBlock = some b → ¬ Ft B M v b ∧ w.heap.size ≤ b) ∧ W3.heap[b15]? = some (.cells #[.int .i64 t.1, .int .u32 ((t.2 : Nat) : Int)] 31 (0, 0)) ∧ ¬ Ft B M v b15 ∧ w.heap.size ≤ b15 ∧ m = last.length ∧ (∀ b, lv.ownBlock = some b → b < b15)) :=
          ⟨hF3, hrow3, HI.out.nd, HI.out.tk, HI.out.tok, HI.out.ap, hx15, hb15F, by have := HI.out.fr.kp.size; omega, hm, fun b hb => by have := OR.lt HI.out.row hb; omega⟩
        have HTk : Hid (TOk t) := htok
        clear hk3 hx15 hF3 hrow3 hb15s hb15F hm hkT HI htok hTag u0 u1 u2 HC hdi hmi
        clear ht
        subst hlv
        unfold tV
        go_upto_block 2 with fail
        rw [← hW3, ← hb15]
        clear hW3 hb15
        go_cut [16] from 45 to 127 (fun s16 wx => ∃ q : Nat, s16 = .int .i64 q ∧ q ≤ m ∧ Hid (last.eraseIdx q = last.erase t ∧ ∀ n, (decide (q < last.length) && decide (q < n)) = decide (t ∈ last.take n)) ∧ Kp W3 wx)
        case first =>
          go_wp2_with fail
          go_loopw [16] (fun s16 wq => ∃ q : Nat, s16 = .int .i64 q ∧ q ≤ m ∧ Hid (AtOf t last q) ∧ Kp W3 wq) (fun s16 _ => m - (intOf s16).toNat)
          case atStart => exact ⟨0, rfl, by omega, ⟨Nat.zero_le _, fun j _ h => by omega⟩, Chg.refl _ _⟩
          case round =>
            obtain ⟨q, rfl, hqm, HA, hkq⟩ := hrel
            obtain ⟨j1, j2, j3, j4, j5, j6, j7, j8, j9, j10, j11⟩ := HJ.out
            by_cases hlt : q < m
            · have hltz : (q : Int) < (m : Int) := by omega
              obtain ⟨g, cap', cur, hla, _⟩ := j2.2.resolve_left (by rintro ⟨_, h⟩; omega)
              have hla' : la = some ⟨g, 0, none⟩ := by cases hla; rfl
              subst hla'
              have hqv : q < last.length := by omega
              obtain ⟨c0, c1⟩ := OR.cells j2 q hqv
              have c0 := Kp.cell hkq c0
              have c1 := Kp.cell hkq c1
              obtain ⟨d0, d1, _, _⟩ := cells2 (hkq.heap j7)
              have heq : ∀ W, (binOp BinOp.neq 31 (.agg #[.int .i64 (last[q]).1, .int .u32 (((last[q]).2 : Nat) : Int)]) (.agg #[.int .i64 t.1, .int .u32 ((t.2 : Nat) : Int)])).run Try.prog W = .ok (.bool (!decide (last[q] = t))) W := fun W => by rw [neq31, tag_eq]
              have HK : Hid (Kp W3 wr) := hkq
              by_cases he : last[q] = t
              · rw [decide_eq_true he] at heq
                have HS := HA.out.stop (.inr ⟨hqv, he⟩)
                have HS' : Hid (last.eraseIdx q = last.erase t ∧ ∀ n, (decide (q < last.length) && decide (q < n)) = decide (t ∈ last.take n)) := HS
                clear HS he j1 j2 j3 j4 j5 j6 j7 j8 j9 j10 j11 hkq hla
                generalize (last[q]).1 = xa at *
                generalize (((last[q]).2 : Nat) : Int) = xb at *
                go_wp2_with fail
                go_quiet (fail)
                go_wp2_with fail
                go_meet
                case rel => exact ⟨q, rfl, hqm, HS', Chg.drewN HK.out _⟩
              · rw [decide_eq_false he] at heq
                have HA' : Hid (AtOf t last (q + 1)) := ⟨by omega, fun j h hj => by
                  rcases Nat.lt_or_ge j q with h1 | h1
                  · exact HA.out.ne j h h1
                  · have : j = q := by omega
                    subst this; exact he⟩
                clear he j1 j2 j3 j4 j5 j6 j7 j8 j9 j10 j11 hkq hla
                generalize (last[q]).1 = xa at *
                generalize (((last[q]).2 : Nat) : Int) = xb at *
                go_wp2_with fail
                go_quiet (fail)
                go_wp2
                exact ⟨⟨q + 1, by go_num, by omega, HA', Chg.drewN HK.out _⟩, by simp [intOf]; omega⟩
            · have hltz : ¬ (q : Int) < (m : Int) := by omega
              have HS' : Hid (last.eraseIdx q = last.erase t ∧ ∀ n, (decide (q < last.length) && decide (q < n)) = decide (t ∈ last.take n)) := HA.out.stop (.inl (by omega))
              have HK : Hid (Kp W3 wr) := hkq
              clear j1 j2 j3 j4 j5 j6 j7 j8 j9 j10 j11 hkq
              go_wp2_with fail
              go_quiet (fail)
              go_wp2_with fail
              go_meet
              case rel => exact ⟨q, rfl, hqm, HS', Chg.drewN HK.out _⟩
        case rest =>
          obtain ⟨q, rfl, hqm, HS, hkq⟩ := hcut
          obtain ⟨j1, j2, j3, j4, j5, j6, j7, j8, j9, j10, j11⟩ := HJ.out
          have hF4 := j1.later hkq
          have hrow4 : OR wc (.slice la m lc) last := Chg.owns hkq j2 (fun _ _ h => h)
          have hx4 := hkq.heap j7
          obtain ⟨d0, d1, _, _⟩ := cells2 hx4
          have hK := Look_any wc B M v n k s hF4.t t HTk.out
          obtain ⟨fd, hfd⟩ : ∃ fd : Bool, fd = decide (t ∈ last.take n) := ⟨_, rfl⟩
          have hfs : (s.f t).isSome = fd := by
            rw [hfd]
            cases h : (s.f t).isSome
            · exact (decide_eq_false (fun hm => by
                have := (j1.t.ok.mem t HTk.out).1 (by rw [j4]; exact hm)
                rw [h] at this; cases this)).symm
            · exact (decide_eq_true (by rw [← j4]; exact (j1.t.ok.mem t HTk.out).2 h)).symm
          rw [hfs] at hK
          obtain ⟨mp, hmp⟩ : ∃ mp : Mp, mp = (s.f t).getD m0 := ⟨_, rfl⟩
          rw [← hmp] at hK
          have hqb := HS.out.2 n
          rw [← hfd, ← j10] at hqb
          have HX4 : Hid (Fr w wc B M v n k s ∧ OR wc (.slice la m lc) last ∧ last.Nodup ∧ s.l = last.take n ∧ (∀ t ∈ last, TOk t) ∧ (∀ b, (Value.slice la m lc).ownBlock = some b → ¬ Ft B M v b ∧ w.heap.size ≤ b) ∧ wc.heap[b15]? = some (.cells #[.int .i64 t.1, .int .u32 ((t.2 : Nat) : Int)] 31 (0, 0)) ∧ ¬ Ft B M v b15 ∧ w.heap.size ≤ b15 ∧ m = last.length ∧ fd = decide (t ∈ last.take n) ∧ (∀ b, (Value.slice la m lc).ownBlock = some b → b < wc.heap.size)) := ⟨hF4, hrow4, j3, j4, j5, j6, hx4, j8, j9, j10, hfd, fun b hb => OR.lt hrow4 hb⟩
          clear j1 j2 j3 j4 j5 j6 j7 j8 j9 j10 j11 hkq hF4 hrow4 hx4 hfd hfs hmp HJ
          unfold tV mV at hK
          go_wp2_with fail
          go_at_call 13
          refine hK.mono ?_
          rintro e W5 ⟨rfl, v5, hT5, hC5, hL5⟩
          obtain ⟨x1, x2, x3, x4, x5, x6, x7, x8, x9, x10, x11, x12⟩ := HX4.out
          obtain ⟨W6, hW6⟩ : ∃ W, W = W5.alloc (.cells #[.int .u32 ((mp.1 : Nat) : Int), .int .u8 ((mp.2 : Nat) : Int)] 36) := ⟨_, rfl⟩
          have hk6 : Kp W5 W6 := by rw [hW6]; exact (Chg.refl W5 _).alloc _
          have hF6 := (x1.step hT5 hC5 hL5).later hk6
          have hrow6 : OR W6 (.slice la m lc) last := Chg.owns hk6 (Chg.owns hC5 x2 (fun b hb => (x6 b hb).1)) (fun _ _ h => h)
          have hx6 := hk6.heap (Chg.heap hC5 x7 x8)
          have hb15c : b15 < wc.heap.size := (Array.getElem?_eq_some_iff.1 x7).1
          have hap6 : ∀ b, (Value.slice la m lc).ownBlock = some b → ¬ Ft B M v5 b ∧ w.heap.size ≤ b := fun b hb => by
            refine ⟨fun h => ?_, (x6 b hb).2⟩
            rcases h with h | h | h
            · exact (x6 b hb).1 (.inl h)
            · exact (x6 b hb).1 (.inr (.inl h))
            · rcases hL5 with e | ⟨i, hi, his⟩
              · exact (x6 b hb).1 (.inr (.inr (by rw [← e, h])))
              · rw [hi] at h; cases h; have := x12 b hb; omega
          have hn15 : ¬ Ft B M v5 b15 := fun h => by
            rcases h with h | h | h
            · exact x8 (.inl h)
            · exact x8 (.inr (.inl h))
            · rcases hL5 with e | ⟨i, hi, his⟩
              · exact x8 (.inr (.inr (by rw [← e, h])))
              · rw [hi] at h; cases h; omega
          have HX6 : Hid (Fr w W6 B M v5 n k (s.look t) ∧ OR W6 (.slice la m lc) last ∧ last.Nodup ∧ s.l = last.take n ∧ (∀ t ∈ last, TOk t) ∧ (∀ b, (Value.slice la m lc).ownBlock = some b → ¬ Ft B M v5 b ∧ w.heap.size ≤ b) ∧ W6.heap[b15]? = some (.cells #[.int .i64 t.1, .int .u32 ((t.2 : Nat) : Int)] 31 (0, 0)) ∧ ¬ Ft B M v5 b15 ∧ w.heap.size ≤ b15 ∧ m = last.length ∧ fd = decide (t ∈ last.take n) ∧ s.Ok n) := ⟨hF6, hrow6, x3, x4, x5, hap6, hx6, hn15, x9, x10, x11, x1.t.ok⟩
          clear x1 x2 x3 x4 x5 x6 x7 x8 x9 x10 x11 x12 hk6 hF6 hrow6 hx6 hb15c hap6 hn15 hT5 hC5 hL5 hK HX4 d0 d1
          go_upto_region 17 with fail
          rw [← hW6]
          clear hW6
          go_cut [100] from 45 to 127 (fun s100 wx => s100 = .bool false ∧ wx = W6)
          case first =>
            by_cases hq1 : q < m
            · have hz1 : (q : Int) < (m : Int) := by omega
              by_cases hq2 : q < n
              · have hz2 : (q : Int) < (n : Int) := by omega
                have hfd : fd = true := by rw [← hqb]; simp [hq1, hq2]
                subst hfd
                clear hqb
                go_wp2_with fail
                go_meet
                case rel => exact ⟨rfl, rfl⟩
              · have hz2 : ¬ (q : Int) < (n : Int) := by omega
                have hfd : fd = false := by rw [← hqb]; simp [hq1, hq2]
                subst hfd
                clear hqb
                go_wp2_with fail
                go_meet
                case rel => exact ⟨rfl, rfl⟩
            · have hz1 : ¬ (q : Int) < (m : Int) := by omega
              have hfd : fd = false := by rw [← hqb]; simp [hq1]
              subst hfd
              clear hqb
              go_wp2_with fail
              go_meet
              case rel => exact ⟨rfl, rfl⟩
          case rest =>
            obtain ⟨rfl, rfl⟩ := hcut
            clear hqb
            go_upto_if 102 with fail
            go_cut [] from 45 to 127 (fun wx => ∃ (v' : Value) (k' : Nat) (s' : Sta), k' ≤ k + 1 ∧ Hid (LX w wx B M v' n k' s' (.slice la m lc) last t b15))
            case first =>
              obtain ⟨x1, x2, x3, x4, x5, x6, x7, x8, x9, x10, x11, x12⟩ := HX6.out
              cases fd with
              | true =>
                have hin : t ∈ last.take n := of_decide_eq_true x11.symm
                have KX : Hid (LX w wc B M v5 n k (s.look t) (.slice la m lc) last t b15) := ⟨x1, x2, look_found x12 hn1 x4 HTk.out hin, fun b hb => (x6 b hb).1, x7⟩
                clear x1 x2 x3 x4 x5 x6 x7 x8 x9 x10 x11 x12 hin HX6
                go_wp2_with fail
                go_meet
                case rel => exact ⟨_, _, _, by omega, KX⟩
              | false =>
                have hin : t ∉ last.take n := of_decide_eq_false x11.symm
                rw [look_none x12 x4 HTk.out hin] at x1
                have hP := Put_any wc B M v5 n k s x1.t t HTk.out (j, 0) (by unfold MOk; simp; omega) (by omega)
                have wj : IntKind.u32.wrap (j : Int) = (j : Int) := by simp [IntKind.wrap, IntKind.bits, IntKind.signed]; omega
                obtain ⟨d0, d1, _, _⟩ := cells2 x7
                have HY : Hid (Fr w wc B M v5 n k s ∧ OR wc (.slice la m lc) last ∧ (∀ b, (Value.slice la m lc).ownBlock = some b → ¬ Ft B M v5 b ∧ w.heap.size ≤ b) ∧ wc.heap[b15]? = some (.cells #[.int .i64 t.1, .int .u32 ((t.2 : Nat) : Int)] 31 (0, 0)) ∧ ¬ Ft B M v5 b15 ∧ (s.put n t (j, 0)).l = (mv t last).take n) := ⟨x1, x2, x6, x7, x8, put_new x12 hn1 x4 HTk.out hin _⟩
                clear x1 x2 x3 x4 x5 x6 x7 x8 x9 x10 x11 x12 hin HX6
                unfold tV mV at hP
                go_wp2_with fail
                go_at_call 12
                refine hP.mono ?_
                rintro e W7 ⟨rfl, v7, hT7, hC7, hL7⟩
                obtain ⟨y1, y2, y3, y4, y5, y6⟩ := HY.out
                have KX : Hid (LX w W7 B M v7 n (k + 1) (s.put n t (j, 0)) (.slice la m lc) last t b15) := by
                  refine ⟨y1.step hT7 hC7 hL7, Chg.owns hC7 y2 (fun b hb => (y3 b hb).1), y6, fun b hb h => ?_, Chg.heap hC7 y4 y5⟩
                  rcases h with h | h | h
                  · exact (y3 b hb).1 (.inl h)
                  · exact (y3 b hb).1 (.inr (.inl h))
                  · rcases hL7 with e | ⟨i, hi, his⟩
                    · exact (y3 b hb).1 (.inr (.inr (by rw [← e, h])))
                    · rw [hi] at h; cases h; have := OR.lt y2 hb; omega
                clear y1 y2 y3 y4 y5 y6 hT7 hC7 hL7 hP d0 d1 wj
                go_wp2_with fail
                go_meet
                case rel => exact ⟨_, _, _, by omega, KX⟩
            case rest =>
              obtain ⟨v7, k7, s7, hk7, KX⟩ := hcut
              obtain ⟨x1, x2, x3, x4, x5, x6, x7, x8, x9, x10, x11, x12⟩ := HX6.out
              have HZ : Hid (last.Nodup ∧ (∀ t ∈ last, TOk t) ∧ m = last.length) := ⟨x3, x5, x10⟩
              clear x1 x2 x3 x4 x5 x6 x7 x8 x9 x10 x11 x12 HX6
              obtain ⟨gN, hgN⟩ : ∃ g, g = wc.heap.size := ⟨_, rfl⟩
              obtain ⟨W8, hW8⟩ : ∃ W, W = wc.alloc (.cells #[.int .i64 t.1, .int .u32 ((t.2 : Nat) : Int)] 31) := ⟨_, rfl⟩
              have hk8 : Kp wc W8 := by rw [hW8]; exact (Chg.refl wc _).alloc _
              have hx8 : W8.heap[gN]? = some (.cells #[.int .i64 t.1, .int .u32 ((t.2 : Nat) : Int)] 31 (0, 0)) := by rw [hW8, hgN]; exact heap_alloc_new wc _
              have KN : Hid (LN w W8 B M v7 n k7 s7 (.slice la m lc) last (.slice (some ⟨gN, 0, none⟩) 1 1) (t :: (last.take 0).eraseIdx q)) := by
                have hsz := KX.out.fr.kp.size
                refine ⟨KX.out.fr.later hk8, Chg.owns hk8 KX.out.row (fun _ _ h => h), ⟨rfl, .inr ⟨gN, 1, _, rfl, Nat.zero_le _, hx8, Nat.le_refl _, by simp [maxLen], rfl, rfl⟩⟩, fun b hb => ?_⟩
                have hbe : b = gN := by cases hb; rfl
                clear hb
                refine ⟨fun h => ?_, by omega, fun e => ?_⟩
                · have := KX.out.fr.t.lt h; omega
                · have := OR.lt KX.out.row e; omega
              obtain ⟨d0, d1, _, _⟩ := cells2 KX.out.box
              have HTK : Hid (s7.l = (mv t last).take n) := KX.out.tk
              clear hk8 hx8 KX
              go_wp2_with fail
              rw [← hW8, ← hgN]
              clear hW8 hgN d0 d1
              go_loopw [19, 20] (fun nvv s20 wq => ∃ (nv : Value) (kk : Nat), nv = nvv ∧ s20 = .int .i64 kk ∧ kk ≤ m ∧ Hid (LN w wq B M v7 n k7 s7 (.slice la m lc) last nv (t :: (last.take kk).eraseIdx q))) (fun _ s20 _ => m - (intOf s20).toNat)
              case atStart => exact ⟨_, 0, rfl, rfl, by omega, KN⟩
              case round =>
                obtain ⟨nv, kk, rfl, rfl, hkm, HN⟩ := hrel
                clear KN
                by_cases hlt : kk < m
                · have hltz : (kk : Int) < (m : Int) := by omega
                  have hkl : kk < last.length := by have := HZ.out.2.2; omega
                  have hes := erase_take_succ last q kk hkl
                  by_cases hkq : kk = q
                  · have HN' : Hid (LN w wr B M v7 n k7 s7 (.slice la m lc) last nv (t :: (last.take (kk + 1)).eraseIdx q)) := by rw [hes, if_pos hkq]; exact HN.out
                    have hne : ((kk : Int) != (q : Int)) = false := by simp [hkq]
                    clear hes hkq
                    go_wp2
                    exact ⟨⟨nv, kk + 1, rfl, by go_num, by omega, HN'⟩, by simp [intOf]; omega⟩
                  · have hne : ((kk : Int) != (q : Int)) = true := by simp; omega
                    obtain ⟨g, cap', cur, hla, _⟩ := HN.out.row.2.resolve_left (by rintro ⟨_, h⟩; omega)
                    have hla' : la = some ⟨g, 0, none⟩ := by cases hla; rfl
                    subst hla'
                    obtain ⟨c0, c1⟩ := OR.cells HN.out.row kk hkl
                    obtain ⟨v', W', hr, hLN⟩ := HN.out.more (last[kk]) (by
                      have h1 : ((last.take kk).eraseIdx q).length ≤ (last.take kk).length := List.length_eraseIdx_le _ _
                      simp only [List.length_cons, List.length_take] at h1 ⊢
                      omega)
                    have HN' : Hid (LN w W' B M v7 n k7 s7 (.slice (some ⟨g, 0, none⟩) m lc) last v' (t :: (last.take (kk + 1)).eraseIdx q)) := by rw [hes, if_neg hkq]; exact hLN
                    clear hes hLN hla
                    generalize (last[kk]).1 = xa at *
                    generalize (((last[kk]).2 : Nat) : Int) = xb at *
                    go_wp2_with (at_builtin; refine wpList_append_run _ rfl (.tmp 120) (.tmp 125) 42 42 rfl _ _ v' W' rfl rfl hr ?_)
                    exact ⟨⟨v', kk + 1, rfl, by go_num, by omega, HN'⟩, by simp [intOf]; omega⟩
                · have hltz : ¬ (kk : Int) < (m : Int) := by omega
                  have hml := HZ.out.2.2
                  have hfin : t :: (last.take kk).eraseIdx q = mv t last := by
                    rw [List.take_of_length_le (by omega), HS.out.1]; rfl
                  have HL : Hid (LInv w wr B M v7 n k7 s7 nv (mv t last)) := by
                    have h1 := HN.out.nrow
                    rw [hfin] at h1
                    refine ⟨HN.out.fr, h1, mv_nodup HZ.out.1, HTK.out, fun x hx => ?_, fun b hb => ⟨(HN.out.nap b hb).1, (HN.out.nap b hb).2.1⟩⟩
                    rcases (mem_mv HZ.out.1).1 hx with rfl | h
                    · exact HTk.out
                    · exact HZ.out.2.1 x h
                  have hlen : (mv t last).length ≤ j + 1 := by rw [mv_len]; split <;> omega
                  clear hml hfin
                  go_wp2
                  exact ⟨⟨nv, v7, mv t last, s7, k7, j + 1, rfl, by go_num, by omega, by omega, hlen, HL⟩, by simp [intOf]; omega⟩
      · have hlz : ¬ (0 : Int) < (L : Int) := by omega
        go_wp2_with (go_at_call 10; refine (P2 _).mono ?_; rintro e w' ⟨rfl, rfl⟩)
        go_ret
        exact ⟨rfl, HI.out.fr.kp.below (Nat.le_refl _) (fun _ _ h => h)⟩
    · have hjz : ¬ (j : Int) < (R : Int) := by omega
      go_wp2_with (go_at_call 10; refine (P2 _).mono ?_; rintro e w' ⟨rfl, rfl⟩)
      go_ret
      exact ⟨rfl, HI.out.fr.kp.below (Nat.le_refl _) (fun _ _ h => h)⟩

theorem long_walk (w : World) (slots : Int) (a : Option Addr) (len cap : Nat) (F : Nat → Int × Int × Int) (hU : UsesIn w a len cap F) (rounds turn : Int) (i0 : InI slots) (i1 : InI rounds) (i2 : InI turn) :
    Calls Try.prog 4 #[.int .i64 slots, .slice a len cap, .int .i64 rounds, .int .i64 turn] w fun e w' => e = .returned (.bool true) ∧ Below w.heap.size w w' := by
  by_cases h : len ≤ 100
  · exact long_a w slots a len cap F hU rounds turn i0 i1 i2 h
  · exact long_b w slots a len cap F hU rounds turn i0 i1 i2 (by omega)
end Go.Proofs.Ytadpgaaijdpbiaa
