import Derived.Test.YtadpgaaijdpbiaaAp
import Derived.Deep.CutBlock
import Derived.Deep.CutRange
namespace Go.Proofs.Ytadpgaaijdpbiaa
open Go.ChangeShapes Go.WideShapes Go.ChangeAt Go.RowKit Go.Shelf
set_option linter.unusedVariables false

/-- A box with a tag; one with a mapping. -/
abbrev Bx (W : World) (b : Nat) (t : Tg) : Prop := W.heap[b]? = some (.cells #[.int .i64 t.1, .int .u32 ((t.2 : Nat) : Int)] 31 (0, 0))
abbrev Bm (W : World) (b : Nat) (m : Mp) : Prop := W.heap[b]? = some (.cells #[.int .u32 ((m.1 : Nat) : Int), .int .u8 ((m.2 : Nat) : Int)] 36 (0, 0))
theorem Ft.off {B M : Nat} {v v' : Value} {W : World} {b : Nat} (h : ¬ Ft B M v b) (hL : Loc W v v') (hb : b < W.heap.size) : ¬ Ft B M v' b := by
  rintro (e | e | e)
  · exact h (.inl e)
  · exact h (.inr (.inl e))
  · rcases hL with e' | ⟨i, hi, his⟩
    · exact h (.inr (.inr (by rw [← e', e])))
    · rw [hi] at e; cases e; omega
theorem hasInt_succ (Z : Nat → Int) (j : Nat) (c : Int) : hasInt Z (j + 1) c = (hasInt Z j c || decide (Z j = c)) := by
  simp [hasInt, List.range_succ]
set_option maxHeartbeats 4000000 in
set_option maxRecDepth 100000 in
theorem apart_walk (w : World) (slots : Int) (a b c : Option Addr) (la ca lb cb lc cc : Nat) (F G : Nat → Int × Int × Int) (Z : Nat → Int) (hU : UsesIn w a la ca F) (hZ : IntsIn w b lb Z) (hV : UsesIn w c lc cc G) (i0 : InI slots) :
    Calls Try.prog 7 #[.int .i64 slots, .slice a la ca, .slice b lb cb, .slice c lc cc] w fun e w' => e = .returned (.bool true) ∧ Below w.heap.size w w' := by
  have P1 : ∀ w, Calls Try.prog 10 #[.int .i64 slots, .int .i64 64] w fun e w' => e = .returned (.int .i64 (pk slots 64 : Nat)) ∧ w' = w := fun w => pick_any w slots 64 (by omega) (by omega) i0
  have l1 := pk_lt slots 64 (by omega)
  generalize pk slots 64 = n0 at P1 l1
  obtain ⟨n, hn⟩ : ∃ n, n = 1 + n0 := ⟨_, rfl⟩
  have e1 : (1 : Int) + (n0 : Int) = (n : Int) := by omega
  have hn1 : 1 ≤ n := by omega
  have hn64 : n ≤ 64 := by omega
  have hN : ∀ w, Calls Try.prog 11 #[.int .i64 (n : Int)] w _ := fun w => New_any w n hn1 hn64
  have KU : Hid (UsesIn w a la ca F) := hU
  have KV : Hid (UsesIn w c lc cc G) := hV
  have KZ : Hid (IntsIn w b lb Z ∧ (∀ x : Addr, b = some x → lb ≠ 0 → x.block < w.heap.size)) := ⟨hZ, fun x hx h0 => by
    obtain ⟨g, off, e, hb, _⟩ := hZ.src.resolve_left h0
    rw [e] at hx; cases hx; exact hb⟩
  have hlen := hU.le
  have hlenV := hV.le
  have hlenZ := hZ.le
  clear hU hV hZ i0 hn l1
  go_enter Try.func7, Try.ntmps7
  go_wp2_with fail
  go_at_call 9
  refine (works_any w).mono ?_
  rintro e w1 ⟨rfl, hk1⟩
  go_wp2_with fail
  go_at_call 10
  refine (P1 _).mono ?_
  rintro e w2 ⟨rfl, rfl⟩
  have w11 : IntKind.i64.wrap (1 + (n0 : Int)) = (n : Int) := by rw [e1]; simp [IntKind.wrap, IntKind.bits, IntKind.signed]; omega
  clear P1 e1
  have HK1 : Hid (Kp w w2) := hk1
  clear hk1
  go_wp2_with fail
  go_at_call 11
  refine (hN _).mono ?_
  rintro e W1 ⟨rfl, hT1, hk2⟩
  obtain ⟨B, hB⟩ : ∃ B, B = w2.heap.size + 1 := ⟨_, rfl⟩
  obtain ⟨M, hM⟩ : ∃ M, M = w2.heap.size := ⟨_, rfl⟩
  rw [← hB, ← hM] at hT1
  have hs := HK1.out.size
  have KF : Hid (Fr w W1 B M (.slice none 0 0) n 0 Sta.none) := ⟨hT1, Kp.trans HK1.out hk2, fun i hi => by
    rcases hi with h | h | h
    · omega
    · omega
    · cases h⟩
  clear hT1 hk2 hM hN hs HK1 w11
  go_upto_block 0 with fail
  rw [← hB]
  clear hB
  go_cut [13, 14, 15, 16] from 57 to 85 (fun s13 s14 s15 s16 wx => ∃ (v : Value) (s : Sta) (k : Nat), k ≤ 300 ∧ Hid (Fr w wx B M v n k s))
  case first =>
    go_wp2_with fail
    go_loopw [13, 14, 15, 16] (fun s13 s14 s15 s16 wr => ∃ (v : Value) (s : Sta) (k j : Nat), s13 = .int .i64 j ∧ j ≤ la ∧ j ≤ 300 ∧ k ≤ j ∧ Hid (Fr w wr B M v n k s)) (fun s13 _ _ _ _ => 300 - (intOf s13).toNat)
    case atStart => exact ⟨.slice none 0 0, Sta.none, 0, 0, rfl, by omega, by omega, by omega, KF⟩
    case round =>
      obtain ⟨v, s, k, j, rfl, hjl, hj3, hkj, HI⟩ := hrel
      clear KF
      by_cases hj1 : j < la
      · have hz1 : (j : Int) < (la : Int) := by omega
        by_cases hj2 : j < 300
        · have hz2 : (j : Int) < 300 := by omega
          obtain ⟨b0, off0, hab, hb0, hcells⟩ := (KU.out.kept HI.out.kp).src.resolve_left (by omega)
          subst hab
          have huo := KU.out.ok j hj1
          obtain ⟨u0, u1, u2⟩ := hcells j hj1
          have htk : TOk (uTag (F j)) := uTag_ok _
          have hTag := tag_any wr (F j) huo
          unfold uV tV at hTag
          generalize uTag (F j) = t at hTag htk
          generalize (F j).1 = y0 at hTag u0
          generalize (F j).2.1 = y1 at hTag u1
          generalize (F j).2.2 = y2 at hTag u2
          clear hcells huo hb0
          go_wp2_with fail
          go_at_call 15
          refine hTag.mono ?_
          rintro e W2 ⟨rfl, hk2⟩
          clear hTag u0 u1 u2
          obtain ⟨W3, hW3⟩ : ∃ W, W = W2.alloc (.cells #[.int .i64 t.1, .int .u32 ((t.2 : Nat) : Int)] 31) := ⟨_, rfl⟩
          obtain ⟨b14, hb14⟩ : ∃ b, b = W2.heap.size := ⟨_, rfl⟩
          have hk3 : Kp wr W3 := Kp.trans hk2 (by rw [hW3]; exact (Chg.refl W2 _).alloc _)
          have hx14 : W3.heap[b14]? = some (.cells #[.int .i64 t.1, .int .u32 ((t.2 : Nat) : Int)] 31 (0, 0)) := by rw [hW3, hb14]; exact heap_alloc_new W2 _
          have HJ : Hid (Fr w W3 B M v n k s ∧ W3.heap[b14]? = some (.cells #[.int .i64 t.1, .int .u32 ((t.2 : Nat) : Int)] 31 (0, 0)) ∧ ¬ Ft B M v b14) :=
            ⟨HI.out.later hk3, hx14, fun h => by
              have h1 := HI.out.t.lt h
              have h2 := hk2.size
              omega⟩
          obtain ⟨d0, d1, _, _⟩ := cells2 hx14
          clear hk3 hx14 hk2 HI
          have hK := Look_any W3 B M v n k s HJ.out.1.t t htk
          obtain ⟨is, his⟩ : ∃ is, is = (s.f t).isSome := ⟨_, rfl⟩
          generalize (s.f t).getD m0 = mp at hK
          rw [← his] at hK
          clear his
          unfold tV mV at hK
          go_upto_region 10 with fail
          rw [← hW3, ← hb14]
          clear hW3 hb14
          go_wp2_with fail
          go_at_call 13
          refine hK.mono ?_
          rintro e W6 ⟨rfl, v6, hT6, hC6, hL6⟩
          obtain ⟨b15, hb15⟩ : ∃ b, b = W6.heap.size := ⟨_, rfl⟩
          obtain ⟨W7, hW7⟩ : ∃ W, W = W6.alloc (.cells #[.int .u32 ((mp.1 : Nat) : Int), .int .u8 ((mp.2 : Nat) : Int)] 36) := ⟨_, rfl⟩
          have hk7 : Kp W6 W7 := by rw [hW7]; exact (Chg.refl W6 _).alloc _
          obtain ⟨x1, x4, x5⟩ := HJ.out
          have hF7 := (x1.step hT6 hC6 hL6).later hk7
          have hx7 := hk7.heap (Chg.heap hC6 x4 x5)
          have HY : Hid (Fr w W7 B M v6 n k (s.look t)) := hF7
          obtain ⟨e0, e1, _, _⟩ := cells2 hx7
          clear hk7 hF7 hT6 hC6 hL6 hK x1 x4 x5 HJ d0 d1 hx7
          generalize s.look t = s7 at HY
          go_upto_region 11 with fail
          rw [← hW7, ← hb15]
          clear hW7 hb15
          cases is with
          | true =>
            go_wp2
            exact ⟨⟨v6, s7, k, j + 1, by go_num, by omega, by omega, by omega, HY⟩, by simp [intOf]; omega⟩
          | false =>
            have hP := Put_any W7 B M v6 n k s7 HY.out.t t htk (j, 1) (by unfold MOk; simp; omega) (by omega)
            generalize s7.gone n t = gn at hP
            generalize s7.went n t = wn at hP
            have w32 : IntKind.u32.wrap (j : Int) = (j : Int) := by simp [IntKind.wrap, IntKind.bits, IntKind.signed]; omega
            unfold tV mV at hP
            go_wp2_with fail
            go_at_call 12
            refine hP.mono ?_
            rintro e W8 ⟨rfl, v8, hT8, hC8, hL8⟩
            have KX : Hid (Fr w W8 B M v8 n (k + 1) (s7.put n t (j, 1))) := HY.out.step hT8 hC8 hL8
            clear hT8 hC8 hL8 hP
            go_wp2
            exact ⟨⟨v8, _, k + 1, j + 1, by go_num, by omega, by omega, by omega, KX⟩, by simp [intOf]; omega⟩
        · have hz2 : ¬ (j : Int) < 300 := by omega
          go_wp2_with fail
          go_meet
          case rel => exact ⟨v, s, k, by omega, HI⟩
      · have hz1 : ¬ (j : Int) < (la : Int) := by omega
        go_wp2_with fail
        go_meet
        case rel => exact ⟨v, s, k, by omega, HI⟩
  case rest =>
    obtain ⟨v, s, k, hk3, HI⟩ := hcut
    clear KF
    have hSl := Slots_any wc B M v n k s HI.out.t
    go_wp2_with fail
    go_at_call 21
    refine hSl.mono ?_
    rintro e W2 ⟨vb, rfl, hb2, hbn, hk2⟩
    obtain ⟨vba, vbc, rfl⟩ := hb2.form
    have HB2 : Hid (SR W2 (.slice vba s.slots.length vbc) s.slots ∧ (∀ b, (Value.slice vba s.slots.length vbc).ownBlock = some b → wc.heap.size ≤ b) ∧ Fr w W2 B M v n k s ∧ (∀ i, Ft B M v i → i < wc.heap.size)) := ⟨hb2, hbn, HI.out.later hk2, fun i hi => HI.out.t.lt hi⟩
    obtain ⟨L, hL⟩ : ∃ L, L = s.slots.length := ⟨_, rfl⟩
    have HL : Hid (L = s.slots.length ∧ L ≤ 64) := ⟨hL, by rw [hL, s.slots_len]; have := HI.out.t.ok.len; omega⟩
    rw [← hL] at HB2 ⊢
    clear hSl hb2 hbn hk2 HI hL
    have hFl := FlushCell_any0 W2 B M v n k s HB2.out.2.2.1.t b lb cb Z (KZ.out.1.kept (S := fun _ => False) HB2.out.2.2.1.kp (fun _ _ h => h)) (fun x hx h0 h => by
      have h1 := KZ.out.2 x hx h0
      have h2 := HB2.out.2.2.1.new _ h
      omega)
    obtain ⟨L2, hL2⟩ : ∃ L2, L2 = (s.drop (ofCells Z lb)).slots.length := ⟨_, rfl⟩
    have hr : ((s.l.length : Nat) : Int) - (((s.drop (ofCells Z lb)).l.length : Nat) : Int) = (L : Int) - (L2 : Int) := by
      rw [hL2, HL.out.1, Sta.slots_len, Sta.slots_len]
    rw [hr] at hFl
    go_wp2_with fail
    go_at_call 17
    refine hFl.mono ?_
    rintro e W3 ⟨rfl, v3, hT3, hv3, hC3⟩
    obtain ⟨y1, y2, y3, y4⟩ := HB2.out
    have HB3 : Hid (SR W3 (.slice vba L vbc) s.slots ∧ Fr w W3 B M v3 n k (s.drop (ofCells Z lb)) ∧ L2 = (s.drop (ofCells Z lb)).slots.length ∧ L2 ≤ 64) := ⟨Chg.owns hC3 y1 (fun g hg e => by
      have h1 := y2 g hg
      have h2 := y4 g e
      omega), y3.step hT3 hC3 (.inl hv3), hL2, by
        have := hT3.ok.len
        rw [hL2, Sta.slots_len]; omega⟩
    clear hFl hr hT3 hv3 hC3 y1 y2 y3 y4 HB2 hL2
    have hSl := Slots_any W3 B M v3 n k _ HB3.out.2.1.t
    go_wp2_with fail
    go_at_call 21
    refine hSl.mono ?_
    rintro e W4 ⟨va, rfl, hb4, hbn4, hk4⟩
    obtain ⟨vaa, vac, rfl⟩ := hb4.form
    rw [← HB3.out.2.2.1] at hb4 hbn4 ⊢
    obtain ⟨y1, y2, y3, y4⟩ := HB3.out
    have HB4 : Hid (Fr w W4 B M v3 n k (s.drop (ofCells Z lb)) ∧ SlotsIn W4 vba L s.slots ∧ SlotsIn W4 vaa L2 (s.slots.filter (stays Z lb))) := by
      rw [drop_slots] at hb4
      exact ⟨y2.later hk4, (SR.slotsIn y1 HL.out.1).kp hk4, SR.slotsIn hb4 (by rw [← drop_slots]; exact y3)⟩
    have HL2 : Hid (L2 = (s.drop (ofCells Z lb)).slots.length ∧ L2 ≤ 64 ∧ L2 = (s.slots.filter (stays Z lb)).length) := ⟨y3, y4, by rw [← drop_slots]; exact y3⟩
    clear hSl hb4 hbn4 hk4 y1 y2 y3 y4 HB3
    go_upto_block 2 with fail
    go_cut [18, 20, 21, 22, 23] from 93 to 138 (fun s18 s20 s21 s22 s23 wx => s18 = .int .i64 0 ∧ s20 = .int .i64 (L2 : Int) ∧ Hid (Kp W4 wx))
    case first =>
      go_wp2_with fail
      go_loopw [18, 20, 21, 22, 23] (fun s18 s20 s21 s22 s23 wr => ∃ i p : Nat, i ≤ L ∧ p ≤ i ∧ s21 = .int .i64 i ∧ s20 = .int .i64 p ∧ s18 = .int .i64 ((L : Int) - (L2 : Int) - ((i : Int) - (p : Int))) ∧ Hid (Kp W4 wr ∧ p = cnt (stays Z lb) s.slots i)) (fun _ _ s21 _ _ _ => L - (intOf s21).toNat)
      case atStart => exact ⟨0, 0, by omega, by omega, rfl, rfl, by go_num, ⟨Chg.refl _ _, (cnt_zero _ _).symm⟩⟩
      case round =>
        obtain ⟨i, p, hi, hpi, rfl, rfl, rfl, HI⟩ := hrel
        have hl64 := HL.out.2
        have hl64' := HL2.out.2.1
        by_cases hlt : i < L
        · have hltz : (i : Int) < (L : Int) := by omega
          obtain ⟨y1, y2, y3⟩ := HB4.out
          have hi1 : i < s.slots.length := by have := HL.out.1; omega
          obtain ⟨gb, ob, eb, _, cb'⟩ := y2.src.resolve_left (by omega)
          subst eb
          obtain ⟨x, hx⟩ : ∃ x, x = bAt s.slots i := ⟨_, rfl⟩
          obtain ⟨c0, c1, c2, c3⟩ := cb' i hi1
          rw [← bAt_get s.slots i hi1, ← hx] at c0 c1 c2 c3
          have HX : Hid (W4.cell? ⟨gb, ob + i * 4, none⟩ = some (.int .i64 x.1.1) ∧ W4.cell? ⟨gb, ob + i * 4 + 1, none⟩ = some (.int .u32 ((x.1.2 : Nat) : Int)) ∧ W4.cell? ⟨gb, ob + i * 4 + 2, none⟩ = some (.int .u32 ((x.2.1 : Nat) : Int)) ∧ W4.cell? ⟨gb, ob + i * 4 + 3, none⟩ = some (.int .u8 ((x.2.2 : Nat) : Int)) ∧ x = bAt s.slots i ∧ i < s.slots.length) := ⟨c0, c1, c2, c3, hx, hi1⟩
          have HP : Hid (p = cnt (stays Z lb) s.slots i) := HI.out.2
          have HKo : Hid (Kp W4 wr) := HI.out.1
          clear y1 y2 y3 cb' c0 c1 c2 c3 hx hi1 HI
          go_upto_block 4 with fail
          go_cut [22, 23] from 99 to 118 (fun s22 s23 wx => s22 = .bool (hasInt Z lb x.1.1) ∧ Hid (Kp W4 wx))
          case first =>
            go_wp2_with fail
            go_loopw [22, 23] (fun s22 s23 wr => ∃ j : Nat, j ≤ lb ∧ s23 = .int .i64 j ∧ s22 = .bool (hasInt Z j x.1.1) ∧ Hid (Kp W4 wr)) (fun _ s23 _ => lb - (intOf s23).toNat)
            case atStart => exact ⟨0, by omega, rfl, by simp [hasInt], HKo⟩
            case round =>
              obtain ⟨j, hj, rfl, rfl, HI⟩ := hrel
              by_cases hlj : j < lb
              · have hljz : (j : Int) < (lb : Int) := by omega
                have hsu := hasInt_succ Z j x.1.1
                cases hq : hasInt Z j x.1.1 with
                | true =>
                  rw [hq, Bool.true_or] at hsu
                  have HS : Hid (hasInt Z (j + 1) x.1.1 = true) := hsu
                  have HK : Hid (Kp W4 wr) := HI.out
                  clear hsu hq HI
                  go_wp2_with fail
                  go_quiet (fail)
                  go_wp2
                  exact ⟨⟨j + 1, by omega, by go_num, by rw [HS.out], Chg.drewN HK.out _⟩, by simp [intOf]; omega⟩
                | false =>
                  rw [hq, Bool.false_or] at hsu
                  obtain ⟨gz, oz, ez, _, cz⟩ := (KZ.out.1.kept (S := fun _ => False) (Kp.trans HB4.out.1.kp HI.out) (fun _ _ h => h)).src.resolve_left (by omega)
                  subst ez
                  have z0 := cz j hlj
                  have c0 := Kp.cell HI.out HX.out.1
                  have HS : Hid (hasInt Z (j + 1) x.1.1 = decide (Z j = x.1.1)) := hsu
                  have HK : Hid (Kp W4 wr) := HI.out
                  clear hsu hq HI cz
                  generalize Z j = zj at *
                  generalize x.1.1 = xc at *
                  go_wp2_with fail
                  go_quiet (fail)
                  go_wp2
                  refine ⟨⟨j + 1, by omega, by go_num, ?_, Chg.drewN HK.out _⟩, by simp [intOf]; omega⟩
                  rw [HS.out]
                  rfl
              · have hljz : ¬ (j : Int) < (lb : Int) := by omega
                have ej : j = lb := by omega
                subst ej
                go_wp2_with fail
                go_meet
                case rel => exact ⟨rfl, HI⟩
          case rest =>
            obtain ⟨rfl, HK⟩ := hcut
            cases hq : hasInt Z lb x.1.1 with
            | true =>
              have HE : Hid (p = cnt (stays Z lb) s.slots (i + 1)) := by
                rw [cnt_no HX.out.2.2.2.2.2 (by rw [← HX.out.2.2.2.2.1]; unfold stays; rw [hq]; rfl)]
                exact HP.out
              clear hq
              go_wp2
              exact ⟨⟨i + 1, p, by omega, by omega, by go_num, rfl, by go_num, ⟨HK.out, HE.out⟩⟩, by simp [intOf]; omega⟩
            | false =>
              have hst : stays Z lb (bAt s.slots i) = true := by rw [← HX.out.2.2.2.2.1]; unfold stays; rw [hq]; rfl
              have HE : Hid (p + 1 = cnt (stays Z lb) s.slots (i + 1)) := by
                rw [cnt_yes HX.out.2.2.2.2.2 hst, HP.out]; rfl
              obtain ⟨q1, q2⟩ := cnt_at HX.out.2.2.2.2.2 hst
              rw [← HP.out, ← HL2.out.2.2] at q1
              rw [← HP.out, ← HX.out.2.2.2.2.1] at q2
              obtain ⟨ga, oa, ea, _, ca'⟩ := (HB4.out.2.2.kp HK.out).src.resolve_left (by omega)
              subst ea
              have hp2 : p < (s.slots.filter (stays Z lb)).length := by rw [← HL2.out.2.2]; exact q1
              obtain ⟨a0, a1, a2, a3⟩ := ca' p hp2
              rw [← bAt_get _ p hp2, q2] at a0 a1 a2 a3
              have c0 := Kp.cell HK.out HX.out.1
              have c1 := Kp.cell HK.out HX.out.2.1
              have c2 := Kp.cell HK.out HX.out.2.2.1
              have c3 := Kp.cell HK.out HX.out.2.2.2.1
              have hnq := fun W => neqS x x W
              rw [decide_eq_true rfl] at hnq
              have hpz : ¬ ((L2 : Int) ≤ (p : Int)) := by omega
              have hpd : decide ((L2 : Int) ≤ (p : Int)) = false := decide_eq_false hpz
              have hpd2 : decide (L2 ≤ p) = false := decide_eq_false (by omega)
              have hpl : (p : Int) < (L2 : Int) := by omega
              clear hq hst q1 q2 ca' hp2
              go_wp2_with fail
              go_quiet (fail)
              go_wp2
              exact ⟨⟨i + 1, p + 1, by omega, by omega, by go_num, by go_num, by go_num, ⟨Chg.drewN HK.out _, HE.out⟩⟩, by simp [intOf]; omega⟩
        · have hltz : ¬ (i : Int) < (L : Int) := by omega
          have HE : Hid (p = L2) := by
            have e1 : i = L := by omega
            have h1 := HI.out.2
            rw [e1, HL.out.1, cnt_all, ← HL2.out.2.2] at h1
            exact h1
          have HK : Hid (Kp W4 wr) := HI.out.1
          clear HI
          go_wp2_with fail
          go_meet
          case rel => exact ⟨by have := HE.out; go_num, by rw [HE.out], HK⟩
    case rest =>
      obtain ⟨rfl, rfl, HK⟩ := hcut
      obtain ⟨S2, hS2⟩ : ∃ x, x = s.drop (ofCells Z lb) := ⟨_, rfl⟩
      have hF2 : Fr w wc B M v3 n k S2 := by rw [hS2]; exact HB4.out.1.later HK.out
      have hl2 : L2 = S2.slots.length := by rw [hS2]; exact HL2.out.1
      have hsl : SlotsIn wc vaa L2 S2.slots := by rw [hS2, drop_slots]; exact HB4.out.2.2.kp HK.out
      have hnn : L2 ≤ n := by rw [hl2, Sta.slots_len]; exact hF2.t.ok.len
      obtain ⟨hq1, hq2⟩ := ldF_eqv hF2.t.ok hn1
      have hLd := Load_any wc n hn1 hn64 vaa L2 vac S2.slots hsl (slots_ok hF2.t.ok) hnn hq2
      generalize ldF n S2.slots S2.slots.length = S3 at hq1 hLd
      have HF2 : Hid (Fr w wc B M v3 n k S2 ∧ Eqv S2 S3) := ⟨hF2, hq1⟩
      clear hF2 hl2 hsl hnn hq1 hq2 hS2 HB4 HL HL2 HK
      go_wp2_with fail
      go_at_call 23
      refine hLd.mono ?_
      rintro e W5 ⟨B', M', v', k', rfl, hT5, hn5, hk5, hk5'⟩
      have HD : Hid (Dbl w W5 B M v3 k S2 B' M' v' k' S3 n ∧ Eqv S2 S3) := ⟨⟨HF2.out.1.later hk5, ⟨hT5, Kp.trans HF2.out.1.kp hk5, fun i hi => Nat.le_trans HF2.out.1.kp.size (hn5 i hi)⟩, fun i h1 h2 => by
        have h3 := HF2.out.1.t.lt h1
        have h4 := hn5 i h2
        omega⟩, HF2.out.2⟩
      clear hT5 hn5 hk5 HF2 hLd
      go_upto_block 6 with fail
      go_cut [26, 27, 28, 29, 30, 31, 32, 33, 34, 35] from 161 to 219 (fun s26 s27 s28 s29 s30 s31 s32 s33 s34 s35 wx => ∃ (v v' : Value) (s s' : Sta) (k k' : Nat), Hid (Dbl w wx B M v k s B' M' v' k' s' n ∧ Eqv s s'))
      case first =>
        go_wp2_with fail
        go_loopw [26, 27, 28, 29, 30, 31, 32, 33, 34, 35] (fun s26 s27 s28 s29 s30 s31 s32 s33 s34 s35 wr => ∃ (v v' : Value) (s s' : Sta) (k k' j : Nat), s26 = .int .i64 j ∧ j ≤ lc ∧ j ≤ 200 ∧ k ≤ 300 + j ∧ k' ≤ 1000 + j ∧ Hid (Dbl w wr B M v k s B' M' v' k' s' n ∧ Eqv s s')) (fun s26 _ _ _ _ _ _ _ _ _ _ => 200 - (intOf s26).toNat)
        case atStart => exact ⟨v3, v', S2, S3, k, k', 0, rfl, by omega, by omega, by omega, by omega, HD⟩
        case round =>
          clear HD
          obtain ⟨v4, v4', s4, s4', k4, k4', j, rfl, hjl, hj2, hkj, hkj', HI⟩ := hrel
          by_cases hj1 : j < lc
          · have hz1 : (j : Int) < (lc : Int) := by omega
            by_cases hj3 : j < 200
            · have hz2 : (j : Int) < 200 := by omega
              obtain ⟨b0, off0, hab, hb0, hcells⟩ := (KV.out.kept HI.out.1.a.kp).src.resolve_left (by omega)
              subst hab
              have huo := KV.out.ok j hj1
              obtain ⟨u0, u1, u2⟩ := hcells j hj1
              have htk : TOk (uTag (G j)) := uTag_ok _
              have hTag := tag_any wr (G j) huo
              unfold uV tV at hTag
              generalize uTag (G j) = t at hTag htk
              generalize (G j).1 = y0 at hTag u0
              generalize (G j).2.1 = y1 at hTag u1
              generalize (G j).2.2 = y2 at hTag u2
              clear hcells huo hb0
              go_wp2_with fail
              go_at_call 15
              refine hTag.mono ?_
              rintro e W2 ⟨rfl, hk2⟩
              clear hTag u0 u1 u2
              obtain ⟨W3, hW3⟩ : ∃ W, W = W2.alloc (.cells #[.int .i64 t.1, .int .u32 ((t.2 : Nat) : Int)] 31) := ⟨_, rfl⟩
              obtain ⟨b27, hb27⟩ : ∃ b, b = W2.heap.size := ⟨_, rfl⟩
              have hk3 : Kp wr W3 := Kp.trans hk2 (by rw [hW3]; exact (Chg.refl W2 _).alloc _)
              have hx27 : W3.heap[b27]? = some (.cells #[.int .i64 t.1, .int .u32 ((t.2 : Nat) : Int)] 31 (0, 0)) := by rw [hW3, hb27]; exact heap_alloc_new W2 _
              have hbig : wr.heap.size ≤ b27 := by rw [hb27]; exact hk2.size
              have HJ : Hid (Dbl w W3 B M v4 k4 s4 B' M' v4' k4' s4' n ∧ Eqv s4 s4' ∧ Bx W3 b27 t ∧ ¬ Ft B M v4 b27 ∧ ¬ Ft B' M' v4' b27) :=
                ⟨HI.out.1.later hk3, HI.out.2, hx27, fun h => by have h1 := HI.out.1.a.t.lt h; omega, fun h => by have h1 := HI.out.1.b.t.lt h; omega⟩
              obtain ⟨d0, d1, _, _⟩ := cells2 hx27
              clear hk3 hx27 hk2 HI hbig
              have hK := Look_any W3 B M v4 n k4 s4 HJ.out.1.a.t t htk
              obtain ⟨is, his⟩ : ∃ is, is = (s4.f t).isSome := ⟨_, rfl⟩
              obtain ⟨mp, hmp⟩ : ∃ mp : Mp, mp = (s4.f t).getD m0 := ⟨_, rfl⟩
              rw [← his, ← hmp] at hK
              have HIs : Hid (is = (s4'.f t).isSome ∧ mp = (s4'.f t).getD m0) := by rw [← HJ.out.2.1.f t htk]; exact ⟨his, hmp⟩
              clear his hmp
              unfold tV mV at hK
              go_upto_region 37 with fail
              rw [← hW3, ← hb27]
              clear hW3 hb27
              go_wp2_with fail
              go_at_call 13
              refine hK.mono ?_
              rintro e W6 ⟨rfl, v6, hT6, hC6, hL6⟩
              obtain ⟨b28, hb28⟩ : ∃ b, b = W6.heap.size := ⟨_, rfl⟩
              obtain ⟨W7, hW7⟩ : ∃ W, W = W6.alloc (.cells #[.int .u32 ((mp.1 : Nat) : Int), .int .u8 ((mp.2 : Nat) : Int)] 36) := ⟨_, rfl⟩
              have hk7 : Kp W6 W7 := by rw [hW7]; exact (Chg.refl W6 _).alloc _
              have hx28 : W7.heap[b28]? = some (.cells #[.int .u32 ((mp.1 : Nat) : Int), .int .u8 ((mp.2 : Nat) : Int)] 36 (0, 0)) := by rw [hW7, hb28]; exact heap_alloc_new W6 _
              obtain ⟨x1, x2, x3, x4, x5⟩ := HJ.out
              have hD7 := (x1.step hT6 hC6 hL6).later hk7
              have hx7 : Bx W7 b27 t := hk7.heap (Chg.heap hC6 x3 x4)
              have hbl := (Array.getElem?_eq_some_iff.1 x3).1
              have HY : Hid (Dbl w W7 B M v6 k4 (s4.look t) B' M' v4' k4' s4' n ∧ Eqv s4 s4' ∧ Bx W7 b27 t ∧ Bm W7 b28 mp ∧ ¬ Ft B M v6 b27 ∧ ¬ Ft B' M' v4' b27 ∧ ¬ Ft B' M' v4' b28) := ⟨hD7, x2, hx7, hx28, Ft.off x4 hL6 hbl, x5, fun h => by
                have h1 := (x1.step hT6 hC6 hL6).b.t.lt h
                omega⟩
              obtain ⟨d0', d1', _, _⟩ := cells2 hx7
              clear hk7 hD7 hT6 hC6 hL6 hK x1 x2 x3 x4 x5 HJ d0 d1 hx7 hx28 hbl
              have hK := Look_any W7 B' M' v4' n k4' s4' HY.out.1.b.t t htk
              rw [← HIs.out.1, ← HIs.out.2] at hK
              unfold tV mV at hK
              go_upto_region 38 with fail
              rw [← hW7, ← hb28]
              clear hW7 hb28
              go_wp2_with fail
              go_at_call 13
              refine hK.mono ?_
              rintro e W8 ⟨rfl, v8, hT8, hC8, hL8⟩
              obtain ⟨b30, hb30⟩ : ∃ b, b = W8.heap.size := ⟨_, rfl⟩
              obtain ⟨W9, hW9⟩ : ∃ W, W = W8.alloc (.cells #[.int .u32 ((mp.1 : Nat) : Int), .int .u8 ((mp.2 : Nat) : Int)] 36) := ⟨_, rfl⟩
              have hk9 : Kp W8 W9 := by rw [hW9]; exact (Chg.refl W8 _).alloc _
              have hx30 : W9.heap[b30]? = some (.cells #[.int .u32 ((mp.1 : Nat) : Int), .int .u8 ((mp.2 : Nat) : Int)] 36 (0, 0)) := by rw [hW9, hb30]; exact heap_alloc_new W8 _
              obtain ⟨x1, x2, x3, x4, x5, x6, x7⟩ := HY.out
              have hD9 := (x1.turn.step hT8 hC8 hL8).turn.later hk9
              have hx9 : Bx W9 b27 t := hk9.heap (Chg.heap hC8 x3 x6)
              have hy9 : Bm W9 b28 mp := hk9.heap (Chg.heap hC8 x4 x7)
              have hbl := (Array.getElem?_eq_some_iff.1 x3).1
              have HZ : Hid (Dbl w W9 B M v6 k4 (s4.look t) B' M' v8 k4' (s4'.look t) n ∧ Eqv (s4.look t) (s4'.look t) ∧ Bx W9 b27 t ∧ ¬ Ft B M v6 b27 ∧ ¬ Ft B' M' v8 b27) := ⟨hD9, x2.look htk, hx9, x5, Ft.off x6 hL8 hbl⟩
              obtain ⟨d0, d1, _, _⟩ := cells2 hx9
              obtain ⟨f0, f1, _, _⟩ := cells2 hy9
              obtain ⟨g0, g1, _, _⟩ := cells2 hx30
              have hnq := fun W => neq36 ((mp.1 : Nat) : Int) ((mp.1 : Nat) : Int) ((mp.2 : Nat) : Int) ((mp.2 : Nat) : Int) W
              rw [decide_eq_true ⟨rfl, rfl⟩] at hnq
              clear hk9 hD9 hT8 hC8 hL8 hK x1 x2 x3 x4 x5 x6 x7 HY d0' d1' hx9 hy9 hx30 hbl HIs
              generalize s4.look t = s5 at HZ
              generalize s4'.look t = s5' at HZ
              go_upto_region 39 with fail
              rw [← hW9, ← hb30]
              clear hW9 hb30
              cases is with
              | true =>
                have HE : Hid (Dbl w W9 B M v6 k4 s5 B' M' v8 k4' s5' n ∧ Eqv s5 s5') := ⟨HZ.out.1, HZ.out.2.1⟩
                go_wp2
                exact ⟨⟨v6, v8, s5, s5', k4, k4', j + 1, by go_num, by omega, by omega, by omega, by omega, HE⟩, by simp [intOf]; omega⟩
              | false =>
                have hP := Put_any W9 B M v6 n k4 s5 HZ.out.1.a.t t htk (9, 0) (by unfold MOk; simp) (by omega)
                obtain ⟨gn, hgn⟩ : ∃ x, x = s5.gone n t := ⟨_, rfl⟩
                obtain ⟨wn, hwn⟩ : ∃ x, x = s5.went n t := ⟨_, rfl⟩
                rw [← hgn, ← hwn] at hP
                have HG : Hid (s5'.gone n t = gn ∧ s5'.went n t = wn) := by
                  obtain ⟨q1, q2⟩ := HZ.out.2.1.gone n htk
                  exact ⟨by rw [hgn, q1], by rw [hwn, q2]⟩
                clear hgn hwn
                unfold tV mV at hP
                go_wp2_with fail
                go_at_call 12
                refine hP.mono ?_
                rintro e W10 ⟨rfl, v10, hT10, hC10, hL10⟩
                obtain ⟨b32, hb32⟩ : ∃ b, b = W10.heap.size := ⟨_, rfl⟩
                obtain ⟨W11, hW11⟩ : ∃ W, W = W10.alloc (.cells #[.int .i64 gn.1, .int .u32 ((gn.2 : Nat) : Int)] 31) := ⟨_, rfl⟩
                have hk11 : Kp W10 W11 := by rw [hW11]; exact (Chg.refl W10 _).alloc _
                have hx32 : Bx W11 b32 gn := by rw [hW11, hb32]; exact heap_alloc_new W10 _
                obtain ⟨x1, x2, x3, x4, x5⟩ := HZ.out
                have hD11 := (x1.step hT10 hC10 hL10).later hk11
                have hx11 : Bx W11 b27 t := hk11.heap (Chg.heap hC10 x3 x4)
                have HY : Hid (Dbl w W11 B M v10 (k4 + 1) (s5.put n t (9, 0)) B' M' v8 k4' s5' n ∧ Eqv s5 s5' ∧ Bx W11 b32 gn ∧ ¬ Ft B' M' v8 b32) := ⟨hD11, x2, hx32, fun h => by
                  have h1 := (x1.step hT10 hC10 hL10).b.t.lt h
                  omega⟩
                obtain ⟨d0', d1', _, _⟩ := cells2 hx11
                clear hk11 hD11 hT10 hC10 hL10 hP x1 x2 x3 x4 x5 HZ d0 d1 hx11 hx32 f0 f1 g0 g1 hnq
                have hP := Put_any W11 B' M' v8 n k4' s5' HY.out.1.b.t t htk (9, 0) (by unfold MOk; simp) (by omega)
                rw [HG.out.1, HG.out.2] at hP
                unfold tV mV at hP
                go_upto_region 43 with fail
                rw [← hW11, ← hb32]
                clear hW11 hb32
                go_wp2_with fail
                go_at_call 12
                refine hP.mono ?_
                rintro e W12 ⟨rfl, v12, hT12, hC12, hL12⟩
                obtain ⟨b34, hb34⟩ : ∃ b, b = W12.heap.size := ⟨_, rfl⟩
                obtain ⟨W13, hW13⟩ : ∃ W, W = W12.alloc (.cells #[.int .i64 gn.1, .int .u32 ((gn.2 : Nat) : Int)] 31) := ⟨_, rfl⟩
                have hk13 : Kp W12 W13 := by rw [hW13]; exact (Chg.refl W12 _).alloc _
                have hx34 : Bx W13 b34 gn := by rw [hW13, hb34]; exact heap_alloc_new W12 _
                obtain ⟨x1, x2, x3, x4⟩ := HY.out
                have hD13 := (x1.turn.step hT12 hC12 hL12).turn.later hk13
                have hx13 : Bx W13 b32 gn := hk13.heap (Chg.heap hC12 x3 x4)
                have HE : Hid (Dbl w W13 B M v10 (k4 + 1) (s5.put n t (9, 0)) B' M' v12 (k4' + 1) (s5'.put n t (9, 0)) n ∧ Eqv (s5.put n t (9, 0)) (s5'.put n t (9, 0))) := ⟨hD13, x2.put n htk _⟩
                obtain ⟨f0, f1, _, _⟩ := cells2 hx13
                obtain ⟨g0, g1, _, _⟩ := cells2 hx34
                have hnq := fun W => neq31 gn.1 gn.1 ((gn.2 : Nat) : Int) ((gn.2 : Nat) : Int) W
                rw [decide_eq_true ⟨rfl, rfl⟩] at hnq
                clear hk13 hD13 hT12 hC12 hL12 hP x1 x2 x3 x4 HY d0' d1' hx13 hx34
                generalize s5.put n t (9, 0) = s6 at HE
                generalize s5'.put n t (9, 0) = s6' at HE
                go_upto_region 44 with fail
                rw [← hW13, ← hb34]
                clear hW13 hb34
                have hwb : (wn != wn) = false := by simp
                go_wp2
                exact ⟨⟨v10, v12, s6, s6', k4 + 1, k4' + 1, j + 1, by go_num, by omega, by omega, by omega, by omega, HE⟩, by simp [intOf]; omega⟩
            · have hz2 : ¬ (j : Int) < 200 := by omega
              go_wp2_with fail
              go_meet
              case rel => exact ⟨_, _, _, _, _, _, HI⟩
          · have hz1 : ¬ (j : Int) < (lc : Int) := by omega
            go_wp2_with fail
            go_meet
            case rel => exact ⟨_, _, _, _, _, _, HI⟩
      case rest =>
        clear HD
        obtain ⟨v4, v4', s4, s4', k4, k4', HI⟩ := hcut
        have hS1 := Slots_any wc B M v4 n k4 s4 HI.out.1.a.t
        go_wp2_with fail
        go_at_call 21
        refine hS1.mono ?_
        rintro e W6 ⟨vp, rfl, hb6, hbn6, hk6⟩
        obtain ⟨vpa, vpc, rfl⟩ := hb6.form
        have HJ : Hid (Dbl w W6 B M v4 k4 s4 B' M' v4' k4' s4' n ∧ Eqv s4 s4' ∧ SlotsIn W6 vpa s4.slots.length s4.slots) := ⟨HI.out.1.later hk6, HI.out.2, SR.slotsIn hb6 rfl⟩
        obtain ⟨lp, hlp⟩ : ∃ x, x = s4.slots.length := ⟨_, rfl⟩
        have HLp : Hid (lp = s4.slots.length ∧ lp ≤ 64) := ⟨hlp, by rw [hlp, Sta.slots_len]; have := HI.out.1.a.t.ok.len; omega⟩
        rw [← hlp] at HJ ⊢
        clear hb6 hbn6 hk6 HI hS1 hlp
        have hS2 := Slots_any W6 B' M' v4' n k4' s4' HJ.out.1.b.t
        go_wp2_with fail
        go_at_call 21
        refine hS2.mono ?_
        rintro e W7 ⟨vq, rfl, hb7, hbn7, hk7⟩
        obtain ⟨vqa, vqc, rfl⟩ := hb7.form
        obtain ⟨lq, hlq⟩ : ∃ x, x = s4'.slots.length := ⟨_, rfl⟩
        have hE := HJ.out.2.1.slots HJ.out.1.a.t.ok
        have hSm := sameSlots_any W7 vpa vqa lp lq vpc vqc s4.slots s4'.slots (HJ.out.2.2.kp hk7) (SR.slotsIn (by rw [← hlq] at hb7; exact hb7) hlq) (by have := HLp.out; omega) true (decide_eq_true hE).symm
        rw [← hlq]
        have HK7 : Hid (Kp w W7) := Kp.trans HJ.out.1.a.kp hk7
        clear hb7 hbn7 hk7 hE hS2 hlq HJ HLp
        go_wp2_with fail
        go_at_call 22
        refine hSm.mono ?_
        rintro e W8 ⟨rfl, hk8⟩
        have HK8 : Hid (Kp w W8) := Kp.trans HK7.out hk8
        clear hSm hk8
        go_wp2
        go_ret
        exact ⟨rfl, HK8.out.below (Nat.le_refl _) (fun _ _ h => h)⟩
end Go.Proofs.Ytadpgaaijdpbiaa
