import Derived.Test.YtfcpkcbiinbmiabGf
import Derived.Test.YtfcpkcbiinbmiabGb
import Derived.BigQuiet
namespace Go.Proofs.Ytfcpkcbiinbmiab
open Go.ChangeShapes Go.WideShapes Go.ChangeAt Go.RowKit
set_option linter.unusedVariables false
def nI : Value → Nat
  | .int _ x => x.toNat
  | _ => 0
theorem w64 {x : Int} (h0 : -9223372036854775808 ≤ x) (h1 : x ≤ 9223372036854775807) : IntKind.i64.wrap x = x := by simp [IntKind.wrap, IntKind.bits, IntKind.signed]; omega
theorem fill_next (xs : List Int) (m : Int) (k : Nat) (hk : k < xs.length) : (List.replicate k m ++ xs.drop k).set k m = List.replicate (k + 1) m ++ xs.drop (k + 1) := by
  apply List.ext_getElem?
  intro j
  rw [List.getElem?_set]
  by_cases e : k = j
  · subst e
    rw [if_pos rfl, if_pos (by simp; omega), List.getElem?_append_left (by simp)]
    simp
  · rw [if_neg e]
    by_cases h : j < k
    · rw [List.getElem?_append_left (by simpa using h), List.getElem?_append_left (by simp; omega)]
      simp [h, Nat.lt_succ_of_lt h]
    · rw [List.getElem?_append_right (by simp; omega), List.getElem?_append_right (by simp; omega)]
      simp
      congr 1
      omega
theorem fill_len (xs : List Int) (m : Int) (k : Nat) (hk : k ≤ xs.length) : (List.replicate k m ++ xs.drop k).length = xs.length := by simp; omega
/-- While the held lists are written over. -/
structure L2 (w : World) (σ : Nat → Nat × Nat) (K : Nat) (es fs hs : List En) (i : Nat) (wr : World) (es1 : List En) : Prop where
  b : Nxt w σ K es1 fs hs i wr
  ln : es1.length = es.length + i
  ba : ∀ (j : Nat) (e : En), es.length ≤ j → es1[j]? = some e → e.o = j ∧ e.n ≤ 100000000
/-- While they are made longer. -/
structure L4 (w : World) (σ : Nat → Nat × Nat) (K : Nat) (es fs hs : List En) (t : Nat) (wr : World) (es1 : List En) : Prop where
  b : Nxt w σ K es1 fs hs hs.length wr
  ln : es1.length = es.length + hs.length + t
  ba : ∀ (j : Nat) (e : En), es.length ≤ j → j < es.length + hs.length → es1[j]? = some e → e.o = j ∧ e.n ≤ 100000000
  up : ∀ (j : Nat) (e : En), es.length + hs.length ≤ j → es1[j]? = some e → e.o < es.length + t
theorem L2.next {w : World} {σ : Nat → Nat × Nat} {K : Nat} {es fs hs es1 : List En} {i n : Nat} {wr wn : World} {xs : List Value} (h : L2 w σ K es fs hs i wr es1) (hb : Nxt w σ K (es1 ++ [⟨es1.length, n, xs⟩]) fs hs (i + 1) wn) (hn : n ≤ 100000000) : L2 w σ K es fs hs (i + 1) wn (es1 ++ [⟨es1.length, n, xs⟩]) := by
  refine ⟨hb, by simp [h.ln]; omega, fun j e hj he => ?_⟩
  by_cases hlt : j < es1.length
  · rw [List.getElem?_append_left hlt] at he; exact h.ba j e hj he
  · have : j = es1.length := by have := (List.getElem?_eq_some_iff.1 he).1; simp at this; omega
    subst this
    simp at he
    rw [← he]; exact ⟨rfl, hn⟩
theorem L4.next {w : World} {σ : Nat → Nat × Nat} {K : Nat} {es fs hs es1 : List En} {t n : Nat} {wr wn : World} {xs : List Value} (h : L4 w σ K es fs hs t wr es1) (ht : t < hs.length) (hb : Nxt w σ K (es1 ++ [⟨es.length + t, n, xs⟩]) fs hs hs.length wn) : L4 w σ K es fs hs (t + 1) wn (es1 ++ [⟨es.length + t, n, xs⟩]) := by
  refine ⟨hb, by simp [h.ln]; omega, fun j e hj hj' he => ?_, fun j e hj he => ?_⟩
  · rw [List.getElem?_append_left (by rw [h.ln]; omega)] at he; exact h.ba j e hj hj' he
  · by_cases hlt : j < es1.length
    · rw [List.getElem?_append_left hlt] at he; have := h.up j e hj he; omega
    · have : j = es1.length := by have := (List.getElem?_eq_some_iff.1 he).1; simp at this; omega
      subst this
      simp at he
      rw [← he]; simp
/-- The label of a list that is made longer is its own alone. -/
theorem L4.one {w : World} {σ : Nat → Nat × Nat} {K : Nat} {es fs hs es1 : List En} {t : Nat} {wr : World} (h : L4 w σ K es fs hs t wr es1) (ht : t < hs.length) : ∀ k z, es1[k]? = some z → z.o = es.length + t → k = es.length + t := by
  intro k z hz hk
  obtain ⟨_, _, _, B, _⟩ := h.b
  have lo := B.lo k z hz
  by_cases h1 : k < es.length
  · omega
  · by_cases h2 : k < es.length + hs.length
    · have := (h.ba k z (by omega) h2 hz).1; omega
    · have := h.up k z (by omega) hz; omega
set_option maxHeartbeats 4000000 in
set_option maxRecDepth 10000 in
theorem looks_any (w : World) (σ : Nat → Nat × Nat) (K : Nat) (V : Nat → Value) (X : Nat → List Value) (es fs hs : List En) (hB : Bk w σ K V X es fs hs) (hn : es.length + 2 * hs.length < 200000) :
    Calls Try.prog 15 #[.pointer (some ⟨K, 0, none⟩)] w fun e w' => e = .returned (.bool true) ∧ ∃ σ' V' X' es', Bk w' σ' K V' X' es' [] fs ∧ Sf w σ w' σ' ∧ es'.length = es.length + 2 * hs.length := by
  have HB : Hid (Bk w σ K V X es fs hs) := hB
  have l4 : (X 4).length = hs.length := hB.i.hl
  have l5 : (X 5).length = hs.length := hB.hw.len
  have l0 : (X 0).length = es.length := hB.i.l.len
  obtain ⟨a4, c4, e4⟩ := hB.i.m.sh (f := 4) (by omega)
  obtain ⟨a5, c5, e5⟩ := hB.i.m.sh (f := 5) (by omega)
  obtain ⟨a0, c0, e0⟩ := hB.i.m.sh (f := 0) (by omega)
  have q4 := (hB.i.m.cell (i := 4) (by omega)).1
  have q5 := (hB.i.m.cell (i := 5) (by omega)).1
  have q0 := (hB.i.m.cell (i := 0) (by omega)).1
  rw [e4, l4] at q4
  rw [e5, l5] at q5
  rw [e0, l0] at q0
  have HE : Hid (V 4 = .slice a4 hs.length c4 ∧ V 5 = .slice a5 hs.length c5 ∧ (X 4).length = hs.length ∧ (X 5).length = hs.length) := ⟨by rw [e4, l4], by rw [e5, l5], l4, l5⟩
  clear hB e4 e5 e0 l4 l5 l0
  go_enter Try.func15, Try.ntmps15
  go_wp2_with fail
  go_loopw [3, 4, 5] (fun s3 s4 s5 wr => ∃ i : Nat, s4 = .int .i64 i ∧ s3 = .bool true ∧ i ≤ hs.length ∧ Kp w wr) (fun _ s4 _ _ => hs.length - nI s4)
  case atStart => exact ⟨0, rfl, rfl, by omega, Kp.refl _⟩
  case round =>
    obtain ⟨i, rfl, rfl, hi, hkp⟩ := hrel
    have HK : Hid (Kp w wr) := hkp
    have z4 := hkp.cell q4
    have z5 := hkp.cell q5
    by_cases hlt : i < hs.length
    · have hiz : (i : Int) < (hs.length : Int) := by omega
      obtain ⟨E4, E5, l4, l5⟩ := HE.out
      have hB := HB.out
      obtain ⟨g4, k4, t4⟩ := hB.i.m.sh1 (f := 4) (by omega) (by omega)
      obtain ⟨g5, k5, t5⟩ := hB.i.m.sh1 (f := 5) (by omega) (by omega)
      rw [E4, l4] at t4
      rw [E5, l5] at t5
      obtain ⟨rfl, rfl⟩ : a4 = some ⟨g4, 0, none⟩ ∧ c4 = k4 := by simpa using t4
      obtain ⟨rfl, rfl⟩ : a5 = some ⟨g5, 0, none⟩ ∧ c5 = k5 := by simpa using t5
      obtain ⟨v, hv⟩ : ∃ v, (X 4)[i]? = some v := ⟨_, List.getElem?_eq_getElem (by omega)⟩
      obtain ⟨u, hu⟩ : ∃ u, (X 5)[i]? = some u := ⟨_, List.getElem?_eq_getElem (by omega)⟩
      obtain ⟨e, he⟩ : ∃ e, hs[i]? = some e := ⟨_, List.getElem?_eq_getElem hlt⟩
      have o4 := (hB.i.h i v e (Nat.zero_le _) hv he).1
      have o5 := (hB.hw.rw i u e hu he).1
      obtain ⟨bs, b1, b2, b3, b4⟩ := hB.i.bys e (List.mem_append.2 (.inl (List.mem_of_getElem? he)))
      rw [b1, ← b2] at o4 o5
      have hkd : Kp w wr.drew := hkp.trans (Kp.drew wr)
      have y4 := (hkd).cell (hB.i.m.at (f := 4) (by omega) E4 hv)
      have y5 := hkd.cell (hB.i.m.at (f := 5) (by omega) E5 hu)
      have x4 := hkd.cell q4
      have x5 := hkd.cell q5
      have W4 : OwnB wr.drew v bs := OwnB.chg (v := v) (bs := bs) ⟨o4, b3⟩ hkd (fun _ _ x => x)
      have W5 : OwnB wr.drew u bs := OwnB.chg (v := u) (bs := bs) ⟨o5, b3⟩ hkd (fun _ _ x => x)
      obtain ⟨pa, pc, rfl, _, _, B4⟩ := W4.shape (by omega)
      obtain ⟨ra, rc, rfl, _, _, B5⟩ := W5.shape (by omega)
      have hcall : Hid (Calls Try.prog 26 #[.slice pa bs.length pc, .slice ra bs.length rc] wr.drew fun e x1 => e = .returned (.bool true) ∧ (x1.cell? ⟨K, 4, none⟩ = some (.slice (some ⟨g4, 0, none⟩) hs.length c4) ∧ x1.cell? ⟨K, 5, none⟩ = some (.slice (some ⟨g5, 0, none⟩) hs.length c5) ∧ x1.cell? ⟨g4, i, none⟩ = some (.slice pa bs.length pc) ∧ x1.cell? ⟨g5, i, none⟩ = some (.slice ra bs.length rc)) ∧ Kp w x1) := by
        refine (same_eq wr.drew pa ra bs.length pc rc bs bs B4 B5).mono ?_
        rintro e x1 ⟨rfl, hc⟩
        have hc' : Kp wr.drew x1 := hc
        exact ⟨by simp [sameB], ⟨hc'.cell x4, hc'.cell x5, hc'.cell y4, hc'.cell y5⟩, hkd.trans hc'⟩
      clear hB E4 E5 t4 t5 o4 o5 hv hu he W4 W5 B4 B5 hkp hkd b1 b2 b3 b4 l4 l5
      go_upto_region 5 with fail
      refine reg35_5 wr K g4 g5 hs.length c4 c5 i (.slice pa bs.length pc) (.slice ra bs.length rc) hlt ⟨x4, x5, y4, y5⟩ (fun x => Kp w x) hcall.out _ (fun _ _ _ q _ h => by cases q <;> exact h) ?_
      intro w1 hk1
      clear x4 x5 y4 y5 hcall z4 z5
      have HK1 : Hid (Kp w w1) := hk1
      clear hk1
      go_wp2_with fail
      exact ⟨⟨i + 1, by go_num, by first | rfl | simp, by omega, HK1.out⟩, by simp [nI]; omega⟩
    · have hiz : ¬ (i : Int) < (hs.length : Int) := by omega
      have z0 := hkp.cell q0
      have HL0 : Hid (L2 w σ K es fs hs 0 wr es) := ⟨⟨σ, V, X, HB.out.i.kp hkp, Sf.kp hkp⟩, rfl, fun j e hj he => by have := (List.getElem?_eq_some_iff.1 he).1; omega⟩
      clear hkp
      go_wp2_with fail
      clear z0 z4 z5 hlt hiz hi HK
      go_loopw [7, 8, 9] (fun s7 s8 s9 wr => ∃ i : Nat, s7 = .int .i64 i ∧ i ≤ hs.length ∧ Hid (∃ es1, L2 w σ K es fs hs i wr es1)) (fun s7 _ _ _ => hs.length - nI s7)
      case atStart => exact ⟨0, rfl, by omega, es, HL0.out⟩
      case round =>
        obtain ⟨i, rfl, hi2, HI⟩ := hrel
        obtain ⟨wz, rfl⟩ : ∃ wz, wz = wr := ⟨_, rfl⟩
        obtain ⟨es1, hL⟩ := HI.out
        clear HI
        have HL : Hid (L2 w σ K es fs hs i wz es1) := hL
        obtain ⟨σ1, V1, X1, B, S1⟩ := hL.b
        have HS1 : Hid (BkI wz σ1 K V1 X1 es1 fs hs i ∧ Sf w σ wz σ1) := ⟨B, S1⟩
        have l0 : (X1 0).length = es1.length := B.l.len
        obtain ⟨b0, d0, f0⟩ := B.m.sh (f := 0) (by omega)
        obtain ⟨b4, d4, f4⟩ := B.m.sh (f := 4) (by omega)
        have z0 := (B.m.cell (i := 0) (by omega)).1
        have z4 := (B.m.cell (i := 4) (by omega)).1
        rw [f0, l0] at z0
        rw [f4, B.hl] at z4
        obtain ⟨N, hN⟩ : ∃ N, es1.length = N := ⟨_, rfl⟩
        have HN : Hid (es1.length = N ∧ V1 0 = .slice b0 N d0 ∧ V1 4 = .slice b4 hs.length d4) := ⟨hN, by rw [f0, l0, hN], by rw [f4, B.hl]⟩
        have hNb : N < 300000 := by rw [← hN, hL.ln]; omega
        rw [hN] at z0
        by_cases hlt : i < hs.length
        · have hiz : (i : Int) < (hs.length : Int) := by omega
          obtain ⟨v, hv⟩ : ∃ v, (X1 4)[i]? = some v := ⟨_, List.getElem?_eq_getElem (by rw [B.hl]; omega)⟩
          obtain ⟨e, he⟩ : ∃ e, hs[i]? = some e := ⟨_, List.getElem?_eq_getElem hlt⟩
          obtain ⟨g4, k4, t4⟩ := B.m.sh1 (f := 4) (by omega) (by rw [B.hl]; omega)
          rw [f4] at t4
          obtain ⟨rfl, rfl⟩ : b4 = some ⟨g4, 0, none⟩ ∧ d4 = k4 := by simpa using t4
          obtain ⟨o4, lb4⟩ := B.h i v e (Nat.le_refl _) hv he
          obtain ⟨bs, b1, b2, b3, b5⟩ := B.bys e (List.mem_append.2 (.inl (List.mem_of_getElem? he)))
          have y4 := B.m.at (f := 4) (by omega) f4 hv
          rw [b1, ← b2] at o4
          have W4 : OwnB wz v bs := ⟨o4, b3⟩
          obtain ⟨pa, pc, rfl, _, _, B4⟩ := W4.shape (by omega)
          have hbK : ∀ b, (Value.slice pa bs.length pc).ownBlock = some b → b ≠ K ∧ b ≠ g4 := fun b hb => by
            have e1 := lb4 b hb
            refine ⟨fun e' => ?_, fun e' => ?_⟩
            · rw [e', B.m.lk] at e1; simp at e1
            · have e2 := (B.m.own 4 (by omega)).2 g4 (by rw [f4]; rfl)
              rw [e', e2] at e1; simp at e1
          have HV : Hid ((X1 4)[i]? = some (.slice pa bs.length pc) ∧ hs[i]? = some e ∧ bs.length = e.n ∧ OwnB wz (.slice pa bs.length pc) bs ∧ e.n ≤ 100000000 ∧ ∀ b, (Value.slice pa bs.length pc).ownBlock = some b → b ≠ K ∧ b ≠ g4) := ⟨hv, he, b2, W4, b5, hbK⟩
          have hbl : bs.length ≤ 100000000 := by omega
          have hmb : N % 254 < 254 := Nat.mod_lt _ (by omega)
          have hrm : ((N : Nat) : Int).tmod 254 = ((N % 254 : Nat) : Int) := rfl
          have hw1 : IntKind.i64.wrap ((N % 254 : Nat) : Int) = ((N % 254 : Nat) : Int) := w64 (by omega) (by omega)
          have hw2 : IntKind.i64.wrap (((N % 254 : Nat) : Int) + 1) = mrk N := by rw [w64 (by omega) (by omega)]; rfl
          have hw3 : IntKind.u8.wrap (mrk N) = mrk N := by have := mrk_ok N; simp [IntKind.wrap, IntKind.bits, IntKind.signed]; omega
          clear hL B S1 l0 f0 f4 hN hv he t4 o4 lb4 b1 b2 b3 b5 W4 B4 hbK hmb
          have HM : Hid (mrk es1.length = mrk N) := congrArg mrk HN.out.1
          generalize ((N % 254 : Nat) : Int) = qq at *
          have HMo : Hid (0 ≤ mrk N ∧ mrk N ≤ 255) := mrk_ok N
          generalize mrk N = mm at *
          go_wp2_with fail
          clear z0 hrm hw1 hw2 hw3
          go_loopw [9] (fun s9 wq => ∃ k : Nat, s9 = .int .i64 k ∧ k ≤ bs.length ∧ Hid (Chg wz wq (fun b => (Value.slice pa bs.length pc).ownBlock = some b) ∧ OwnB wq (.slice pa bs.length pc) (List.replicate k mm ++ bs.drop k))) (fun s9 _ => bs.length - nI s9)
          case atStart => exact ⟨0, rfl, by omega, Chg.refl _ _, by simpa using HV.out.2.2.2.1⟩
          case round =>
            obtain ⟨k, rfl, hk, HJ⟩ := hrel
            have x4 : wr.cell? ⟨K, 4, none⟩ = some (.slice (some ⟨g4, 0, none⟩) hs.length d4) := HJ.out.1.cell' (fun hb => (HV.out.2.2.2.2.2 _ hb).1 rfl) z4
            have x5 : wr.cell? ⟨g4, i, none⟩ = some (.slice pa bs.length pc) := HJ.out.1.cell' (fun hb => (HV.out.2.2.2.2.2 _ hb).2 rfl) y4
            by_cases hkt : k < bs.length
            · have hkz : (k : Int) < (bs.length : Int) := by omega
              have fl := fill_len bs mm k hk
              have ow := HJ.out.2
              obtain ⟨gx, cx, ex, _⟩ := own_cs ow.1 (by rw [fl]; omega)
              have ex' : pa = some ⟨gx, 0, none⟩ ∧ pc = cx := by
                rw [fl] at ex
                simpa using ex
              obtain ⟨rfl, rfl⟩ := ex'
              have ow' : OwnB wr (.slice (some ⟨gx, 0, none⟩) (List.replicate k mm ++ bs.drop k).length pc) (List.replicate k mm ++ bs.drop k) := by rw [fl]; exact ow
              obtain ⟨p1, p2⟩ := ow'.cellAt k (by omega)
              have HS : Hid (OwnB (wr.setCell ⟨gx, k, none⟩ (.int .u8 mm)) (.slice (some ⟨gx, 0, none⟩) bs.length pc) (List.replicate (k + 1) mm ++ bs.drop (k + 1))) := by
                have := ow'.set k mm HMo.out
                rw [fl, fill_next _ _ _ hkt] at this
                exact this
              clear fl ow ow' ex
              generalize (List.replicate k mm ++ bs.drop k).getD k 0 = yy at p1
              go_wp2_with fail
              exact ⟨⟨k + 1, by go_num, by omega, Chg.setCell (p := ⟨gx, k, none⟩) HJ.out.1 (.inl rfl) _, HS.out⟩, by simp [nI]; omega⟩
            · have hkz : ¬ (k : Int) < (bs.length : Int) := by omega
              have hke : k = bs.length := by omega
              subst hke
              obtain ⟨hcx, hox⟩ := HJ.out
              rw [List.drop_of_length_le (Nat.le_refl _), List.append_nil] at hox
              obtain ⟨v1, v2, v3, v4, v5, v6⟩ := HV.out
              obtain ⟨n1, n2, n3⟩ := HN.out
              obtain ⟨Bz, Sz⟩ := HS1.out
              have hox' := own_rep hox
              rw [v3, ← HM.out] at hox'
              rw [v3] at v1 hcx
              obtain ⟨B2, L2', S2⟩ := Bz.filled v1 v2 hox' hcx
              obtain ⟨aq, cq, w2, r2, A2, H2⟩ := B2.put (Kp.drew wr) (e := ⟨es1.length, e.n, List.replicate e.n (.int .u8 (mrk es1.length))⟩) hox' L2' (by rw [n1]; exact hNb)
              have lx : (X1 0).length = es1.length := Bz.l.len
              obtain ⟨k1, k2, k3⟩ := A2.keep (B2.m.kp (Kp.drew wr)) (f := 4) (by decide) (by decide) n3 v1
              obtain ⟨w3, hw3⟩ : ∃ w3, w3 = w2.setCell ⟨K, 0, none⟩ (.slice aq (es1.length + 1) cq) := ⟨_, rfl⟩
              obtain ⟨am, cm, em⟩ := B2.m.sh (f := 1) (by omega)
              obtain ⟨a6, c6, w4, r4, m1, m2, m3, m4⟩ := H2.mark hw3 (Kp.refl w3) ⟨rfl, by show e.n ≤ 100010000; omega⟩ (Nat.le_refl _) (by rw [n1]; exact hNb)
              have l1 : (X1 1).length = es1.length := by rw [Bz.lm]; simp
              dsimp only at r4
              rw [HM.out, em, l1, n1] at r4
              rw [em, l1, n1] at m1 m2
              rw [lx, n1] at k2 k3
              rw [n3] at k3
              rw [n1] at hw3 r2
              rw [n2, ← v3] at r2
              have bx4 := Apd.box (B2.m.kp (Kp.drew wr)) (by decide) A2 (k := 4) (by decide)
              rw [n3] at bx4
              have x0' : wr.cell? ⟨K, 0, none⟩ = some (.slice b0 N d0) := by rw [← n2]; exact (B2.m.cell (i := 0) (by decide)).1
              have HP : Hid (L2 w σ K es fs hs (i + 1) (w4.setCell ⟨K, 1, none⟩ (.slice a6 (N + 1) c6)) (es1 ++ [⟨es1.length, e.n, List.replicate e.n (.int .u8 (mrk es1.length))⟩])) := by
                refine HL.out.next ?_ v5
                rw [← n1]
                obtain ⟨σ9, V9, X9, B9, S9⟩ := m4
                exact ⟨σ9, V9, X9, B9, (Sz.trans S2).trans S9⟩
              rw [← v3] at k1 k2
              have acl := A2.cl
              have HR4 : Hid ((Builtin.append_ #[22, 22] 22 #[.slice am N cm, .slice (some ⟨w3.heap.size, 0, none⟩) 1 1]).run Try.prog (w3.alloc (.cells #[.int .u8 mm] 5)) = .ok (.slice a6 (N + 1) c6) w4) := r4
              have HR2 : Hid ((Builtin.append_ #[46, 46] 46 #[.slice b0 N d0, .slice (some ⟨wr.heap.size, 0, none⟩) 1 1]).run Try.prog (wr.drew.alloc (.cells #[.slice pa bs.length pc] 22)) = .ok (.slice aq (N + 1) cq) w2) := by rw [v3] at r2 ⊢; exact r2
              have s4 := (Kp.drew wr).cell x4
              have s5 := (Kp.drew wr).cell x5
              have HS9 : Hid (((wr.drew.alloc (.cells #[.slice pa bs.length pc] 22)).cell? ⟨K, 4, none⟩ = some (.slice (some ⟨g4, 0, none⟩) hs.length d4) ∧ (wr.drew.alloc (.cells #[.slice pa bs.length pc] 22)).cell? ⟨g4, i, none⟩ = some (.slice pa bs.length pc)) ∧ (w2.cell? ⟨K, 4, none⟩ = some (.slice (some ⟨g4, 0, none⟩) hs.length d4) ∧ w2.cell? ⟨g4, i, none⟩ = some (.slice pa bs.length pc)) ∧ (∃ z, w2.cell? ⟨K, 0, none⟩ = some z) ∧ w2.frozen? ⟨K, 0, none⟩ = false ∧ ((w2.setCell ⟨K, 0, none⟩ (.slice aq (N + 1) cq)).cell? ⟨K, 4, none⟩ = some (.slice (some ⟨g4, 0, none⟩) hs.length d4) ∧ (w2.setCell ⟨K, 0, none⟩ (.slice aq (N + 1) cq)).cell? ⟨g4, i, none⟩ = some (.slice pa bs.length pc))) :=
                ⟨⟨(Kp.al _ _).cell s4, (Kp.al _ _).cell s5⟩, ⟨bx4, k1⟩, ⟨_, acl.1⟩, acl.2, k3, k2⟩
              have HM4 : Hid (w3.cell? ⟨K, 1, none⟩ = some (.slice am N cm) ∧ w4.cell? ⟨K, 1, none⟩ = some (.slice am N cm) ∧ w4.frozen? ⟨K, 1, none⟩ = false) := ⟨m1, m2, m3⟩
              clear hcx hox v1 v2 v3 v4 v5 v6 n1 n2 n3 Bz Sz hox' B2 L2' S2 r2 A2 H2 lx k1 k2 k3 em r4 m1 m2 m3 m4 l1 bx4 acl
              go_upto_region 16 with fail
              refine reg35_16 wr w2 K g4 hs.length d4 i bs.length pc pa hlt b0 aq N d0 (N + 1) cq ⟨s4, s5⟩ x0' HR2.out HS9.out.1 HS9.out.2.1 HS9.out.2.2.1 HS9.out.2.2.2.1 HS9.out.2.2.2.2 _ (fun _ _ _ q _ h => by cases q <;> exact h) ?_
              rw [← hw3]
              clear HS9 HR2 x4 x5 s4 s5 z4 y4 x0' hw3
              obtain ⟨m1, m2, m3⟩ := HM4.out
              have r4 := HR4.out
              go_wp2_with (first | (at_builtin; refine wpList_append_run _ rfl (.tmp 106) (.tmp 108) 22 22 rfl _ _ (.slice a6 (N + 1) c6) w4 rfl rfl r4 ?_) | fail)
              exact ⟨⟨i + 1, by go_num, by omega, _, HP.out⟩, by simp [nI]; omega⟩
        · have hiz : ¬ (i : Int) < (hs.length : Int) := by omega
          have hie : i = hs.length := by omega
          subst hie
          have hN2 : N = es.length + hs.length := by rw [← hN, hL.ln]
          have HL4 : Hid (L4 w σ K es fs hs 0 wz es1) := ⟨hL.b, by rw [hL.ln]; rfl, fun j e h1 h2 he => hL.ba j e h1 he, fun j e h1 he => by have := (List.getElem?_eq_some_iff.1 he).1; rw [hL.ln] at this; omega⟩
          have hNl : es.length ≤ N := by omega
          have HN2 : Hid (N = es.length + hs.length) := hN2
          clear hL HL B S1 HS1 l0 f0 f4 hN hN2 HN hiz
          go_wp2_with fail
          clear z0 z4
          go_loopw [11] (fun s11 wr => ∃ i t : Nat, s11 = .int .i64 i ∧ i ≤ N ∧ Hid (i = es.length + t) ∧ Hid (∃ es1, L4 w σ K es fs hs t wr es1)) (fun s11 _ => N - nI s11)
          case atStart => exact ⟨es.length, 0, rfl, hNl, rfl, es1, HL4.out⟩
          case round =>
            obtain ⟨i, t, rfl, hiN, HI, HJ⟩ := hrel
            obtain ⟨wy, rfl⟩ : ∃ wy, wy = wr := ⟨_, rfl⟩
            obtain ⟨es2, hL⟩ := HJ.out
            clear HJ
            obtain ⟨σ1, V1, X1, B, S1⟩ := hL.b
            have HL : Hid (L4 w σ K es fs hs t wy es2) := hL
            by_cases hit : i < N
            · have hiz : (i : Int) < (N : Int) := by omega
              have ht : t < hs.length := by have := HI.out; have := HN2.out; omega
              have hln := hL.ln
              obtain ⟨e, he⟩ : ∃ e, es2[es.length + t]? = some e := ⟨_, List.getElem?_eq_getElem (by omega)⟩
              obtain ⟨hj, hn2⟩ := hL.ba _ e (by omega) (by omega) he
              have l0 : (X1 0).length = es2.length := B.l.len
              have l1 : (X1 1).length = es2.length := by rw [B.lm]; simp
              obtain ⟨g0, c0', t0⟩ := B.m.sh1 (f := 0) (by omega) (by omega)
              obtain ⟨g1, c1', t1⟩ := B.m.sh1 (f := 1) (by omega) (by omega)
              rw [l0] at t0
              rw [l1] at t1
              obtain ⟨v, hv⟩ : ∃ v, (X1 0)[es.length + t]? = some v := ⟨_, List.getElem?_eq_getElem (by omega)⟩
              have hm : (X1 1)[es.length + t]? = some (.int .u8 (mrk (es.length + t))) := by rw [B.lm]; simp [he, hj]
              have hbe : es2.length < 300000 := by omega
              have HC := B.long he hj (hL.one ht) hn2 hbe t0 t1 hv
              have y0 := (B.m.cell (i := 0) (by omega)).1
              have y1 := (B.m.cell (i := 1) (by omega)).1
              rw [t0] at y0
              rw [t1] at y1
              have y2 := B.m.at (f := 0) (by omega) t0 hv
              have y3 := B.m.at (f := 1) (by omega) t1 hm
              have d1 := (Kp.drew wy).cell y1
              have d3 := (Kp.drew wy).cell y3
              have HF : Hid (V1 1 = .slice (some ⟨g1, 0, none⟩) es2.length c1' ∧ (X1 1)[es.length + t]? = some (.int .u8 (mrk (es.length + t))) ∧ es2.length < 300000 ∧ e.n ≤ 100000000 ∧ es.length + t ≤ es2.length ∧ Sf w σ wy σ1 ∧ (X1 0).length = es2.length) := ⟨t1, hm, hbe, hn2, by omega, S1, l0⟩
              have HH : Hid (i = es.length + t) := HI.out
              have hi2 : i < es2.length := by have := HI.out; omega
              rw [← HH.out] at HC y2 y3 d3
              have HC2 : Hid (_ ∧ True) := ⟨HC, trivial⟩
              clear HC hL B S1 hln he hj hn2 l0 l1 t0 t1 hv hm y1 y3
              go_upto_region 22 with fail
              refine reg35_22 wy K g0 g1 i es2.length c1' es2.length c0' (mrk i) v hi2 hi2 ⟨d1, d3⟩ y2 y0 (fun _ _ a2 n2 c2 w3 => Mdl wy σ1 K V1 X1 es2 fs hs hs.length i e.n a2 n2 c2 w3) HC2.out.1 _ (fun _ _ _ q _ h => by cases q <;> exact h) ?_
              rintro pa pn pc W1 a2 n2 c2 w3 ⟨rfl, v', W2, σ2, w2, hH, hw3⟩
              clear HC2 y0 y2 d1 d3
              obtain ⟨f1, f2, f3, f4, f5, f6, f7⟩ := HF.out
              rw [← HH.out] at f2 f5
              obtain ⟨a6, c6, w4, r4, m1, m2, m3, m4⟩ := hH.mark hw3 (Kp.drew w3) ⟨rfl, by show e.n + 97 ≤ 100010000; omega⟩ f5 f3
              obtain ⟨k1, k2, k3⟩ := hH.a.keep hH.b.m (f := 1) (by decide) (by decide) f1 f2
              rw [f7, ← hw3] at k2 k3
              rw [f1] at k3 m2 r4
              have HP : Hid (L4 w σ K es fs hs (t + 1) (w4.setCell ⟨K, 1, none⟩ (.slice a6 (es2.length + 1) c6)) (es2 ++ [⟨es.length + t, e.n + 97, List.replicate (e.n + 97) (.int .u8 (mrk i))⟩])) := by
                refine HL.out.next ht ?_
                obtain ⟨σ9, V9, X9, B9, S9⟩ := m4
                refine ⟨σ9, V9, X9, ?_, f6.trans S9⟩
                rw [← HH.out]; exact B9
              have HR : Hid ((Builtin.append_ #[22, 22] 22 #[.slice (some ⟨g1, 0, none⟩) es2.length c1', .slice (some ⟨w3.heap.size, 0, none⟩) 1 1]).run Try.prog (w3.drew.alloc (.cells #[.int .u8 (mrk i)] 5)) = .ok (.slice a6 (es2.length + 1) c6) w4) := r4
              clear f1 f2 f3 f4 f5 f6 f7 hH hw3 r4 m1 m4 k1
              go_upto_region 23 with fail
              refine reg35_23 w3 w4 K g1 i es2.length c1' (es2.length + 1) c6 (mrk i) hi2 a6 trivial k2 k3 HR.out trivial trivial ⟨_, m2⟩ m3 trivial _ (fun _ _ _ q _ h => by cases q <;> exact h) ?_
              clear k2 k3 m2 m3 HR
              go_wp2_with fail
              exact ⟨⟨i + 1, t + 1, by go_num, by omega, by have := HI.out; exact (show i + 1 = es.length + (t + 1) by omega), _, HP.out⟩, by simp [nI]; omega⟩
            · have hiz : ¬ (i : Int) < (N : Int) := by omega
              have ht : t = hs.length := by have := HI.out; have := HN2.out; omega
              subst ht
              obtain ⟨sa, sc, E2⟩ := B.m.sh (f := 2) (by omega)
              obtain ⟨ra, rc, E3⟩ := B.m.sh (f := 3) (by omega)
              have bK := B.m.box
              have bA := heap_setCell_same wy K 4 _ 48 (V1 2) bK
              rw [pcl_set (by omega)] at bA
              have bB := heap_setCell_same _ K 5 _ 48 (V1 3) bA
              rw [pcl_set (by omega)] at bB
              have bC := heap_setCell_same _ K 2 _ 48 (.slice none 0 0) bB
              rw [pcl_set (by omega)] at bC
              have bD := heap_setCell_same _ K 3 _ 48 (.slice none 0 0) bC
              rw [pcl_set (by omega)] at bD
              have f1 : wy.cell? ⟨K, 2, none⟩ = some (V1 2) := (B.m.cell (i := 2) (by omega)).1
              have f2 : wy.cell? ⟨K, 4, none⟩ = some (V1 4) := (B.m.cell (i := 4) (by omega)).1
              have f3 : wy.frozen? ⟨K, 4, none⟩ = false := (B.m.cell (i := 4) (by omega)).2
              have f4 : (wy.setCell ⟨K, 4, none⟩ (V1 2)).cell? ⟨K, 3, none⟩ = some (V1 3) := by rw [(cells_at bA _).1]; rfl
              have f5 : (wy.setCell ⟨K, 4, none⟩ (V1 2)).cell? ⟨K, 5, none⟩ = some (V1 5) := by rw [(cells_at bA _).1]; rfl
              have f6 : (wy.setCell ⟨K, 4, none⟩ (V1 2)).frozen? ⟨K, 5, none⟩ = false := (cells_at bA _).2
              have f7 : ((wy.setCell ⟨K, 4, none⟩ (V1 2)).setCell ⟨K, 5, none⟩ (V1 3)).cell? ⟨K, 2, none⟩ = some (V1 2) := by rw [(cells_at bB _).1]; rfl
              have f8 : ((wy.setCell ⟨K, 4, none⟩ (V1 2)).setCell ⟨K, 5, none⟩ (V1 3)).frozen? ⟨K, 2, none⟩ = false := (cells_at bB _).2
              have f9 : (((wy.setCell ⟨K, 4, none⟩ (V1 2)).setCell ⟨K, 5, none⟩ (V1 3)).setCell ⟨K, 2, none⟩ (.slice none 0 0)).cell? ⟨K, 3, none⟩ = some (V1 3) := by rw [(cells_at bC _).1]; rfl
              have f10 : (((wy.setCell ⟨K, 4, none⟩ (V1 2)).setCell ⟨K, 5, none⟩ (V1 3)).setCell ⟨K, 2, none⟩ (.slice none 0 0)).frozen? ⟨K, 3, none⟩ = false := (cells_at bC _).2
              have hch : Chg wy ((((wy.setCell ⟨K, 4, none⟩ (V1 2)).setCell ⟨K, 5, none⟩ (V1 3)).setCell ⟨K, 2, none⟩ (.slice none 0 0)).setCell ⟨K, 3, none⟩ (.slice none 0 0)) (fun b => b = K) := Chg.setCell (S := fun k => k = K) (Chg.setCell (S := fun k => k = K) (Chg.setCell (S := fun k => k = K) (Chg.setCell (S := fun k => k = K) (Chg.refl wy _) (.inl rfl) _) (.inl rfl) _) (.inl rfl) _) (.inl rfl) _
              have HZ : Hid (∃ σ', Bk ((((wy.setCell ⟨K, 4, none⟩ (V1 2)).setCell ⟨K, 5, none⟩ (V1 3)).setCell ⟨K, 2, none⟩ (.slice none 0 0)).setCell ⟨K, 3, none⟩ (.slice none 0 0)) σ' K (tnV V1) (tnX X1) es2 [] fs ∧ Sf w σ ((((wy.setCell ⟨K, 4, none⟩ (V1 2)).setCell ⟨K, 5, none⟩ (V1 3)).setCell ⟨K, 2, none⟩ (.slice none 0 0)).setCell ⟨K, 3, none⟩ (.slice none 0 0)) σ' ∧ es2.length = es.length + 2 * hs.length) := by
                obtain ⟨σ', q1, q2⟩ := B.turned hch (by rw [bD]; rfl)
                exact ⟨σ', q1, S1.trans q2, by rw [hL.ln]; omega⟩
              clear hL HL B S1 bK bA bB bC bD hch
              generalize V1 4 = o4 at *
              generalize V1 5 = o5 at *
              rw [E2] at f1 f4 f5 f6 f7 f8 f9 f10 HZ
              rw [E3] at f4 f7 f8 f9 f10 HZ
              clear E2 E3
              generalize (X1 2).length = sn at *
              generalize (X1 3).length = rn at *
              go_upto_region 25 with fail
              generalize wy.setCell ⟨K, 4, none⟩ (.slice sa sn sc) = wA at *
              go_upto_region 26 with fail
              generalize wA.setCell ⟨K, 5, none⟩ (.slice ra rn rc) = wB at *
              go_upto_region 27 with fail
              generalize wB.setCell ⟨K, 2, none⟩ (.slice none 0 0) = wC at *
              go_wp2_with fail
              generalize wC.setCell ⟨K, 3, none⟩ (.slice none 0 0) = wD at *
              clear f1 f2 f3 f4 f5 f6 f7 f8 f9 f10
              obtain ⟨σ', hD, hS, hE⟩ := HZ.out
              generalize tnV V1 = V' at *
              generalize tnX X1 = X' at *
              have lX : (X' 0).length = es2.length := hD.i.l.len
              have lM : (X' 1).length = es2.length := by rw [hD.i.lm]; simp
              obtain ⟨b0, k0, E0⟩ := hD.i.m.sh (f := 0) (by omega)
              obtain ⟨bm, km, Em⟩ := hD.i.m.sh (f := 1) (by omega)
              have x0 := (hD.i.m.cell (i := 0) (by omega)).1
              have x1 := (hD.i.m.cell (i := 1) (by omega)).1
              rw [lX] at E0
              rw [lM] at Em
              rw [E0] at x0
              rw [Em] at x1
              obtain ⟨T, hT⟩ : ∃ T, es2.length = T := ⟨_, rfl⟩
              have hTb : T < 400000 := by omega
              have HD : Hid (Bk wD σ' K V' X' es2 [] fs ∧ Sf w σ wD σ' ∧ es2.length = es.length + 2 * hs.length ∧ es2.length = T ∧ V' 0 = .slice b0 es2.length k0 ∧ V' 1 = .slice bm es2.length km) := ⟨hD, hS, hE, hT, E0, Em⟩
              rw [hT] at x0 x1
              clear hD hS hE E0 Em hT lX lM HZ
              go_loopw [12, 13] (fun s12 s13 wr => ∃ i : Nat, s12 = .int .i64 i ∧ i ≤ T ∧ ∃ m, wr = wD.drewN m) (fun s12 _ _ => T - nI s12)
              case atStart => exact ⟨0, rfl, by omega, 0, rfl⟩
              case round =>
                obtain ⟨i, rfl, hi, m, rfl⟩ := hrel
                have y0 := Kp.cell (Kp.drewN wD m) x0
                by_cases hlt : i < T
                · have hiz : (i : Int) < (T : Int) := by omega
                  obtain ⟨hD, hS, hE, hT, E0, Em⟩ := HD.out
                  have lX : (X' 0).length = es2.length := hD.i.l.len
                  have lM : (X' 1).length = es2.length := by rw [hD.i.lm]; simp
                  obtain ⟨e, he⟩ : ∃ e, es2[i]? = some e := ⟨_, List.getElem?_eq_getElem (by omega)⟩
                  obtain ⟨v, hv⟩ : ∃ v, (X' 0)[i]? = some v := ⟨_, List.getElem?_eq_getElem (by omega)⟩
                  have hm : (X' 1)[i]? = some (.int .u8 (mrk e.o)) := by rw [hD.i.lm]; simp [he]
                  obtain ⟨g0, k0', u0⟩ := hD.i.m.sh1 (f := 0) (by omega) (by omega)
                  obtain ⟨gm, km', um⟩ := hD.i.m.sh1 (f := 1) (by omega) (by omega)
                  rw [E0, lX] at u0
                  rw [Em, lM] at um
                  obtain ⟨rfl, rfl⟩ : b0 = some ⟨g0, 0, none⟩ ∧ k0 = k0' := by simpa using u0
                  obtain ⟨rfl, rfl⟩ : bm = some ⟨gm, 0, none⟩ ∧ km = km' := by simpa using um
                  have d0 := hD.i.m.at (f := 0) (by omega) E0 hv
                  have dm := hD.i.m.at (f := 1) (by omega) Em hm
                  obtain ⟨o1, _⟩ := hD.i.l.rw i v e hv he
                  obtain ⟨fx, fn⟩ := hD.i.fu e (List.mem_of_getElem? he)
                  obtain ⟨xa, xc, rfl⟩ := own_sh o1
                  have HX : Hid (e.n = 0 ∨ ∃ gx, xa = some ⟨gx, 0, none⟩ ∧ ∀ j, j < e.n → wD.cell? ⟨gx, j, none⟩ = some (.int .u8 (mrk e.o))) := by
                    rcases Nat.eq_zero_or_pos e.n with h0 | h0
                    · exact .inl h0
                    · obtain ⟨gx, cx, ex, _, ec, _⟩ := own_cs o1 h0
                      refine .inr ⟨gx, by simp at ex; exact ex.1, fun j hj => ec j _ ?_⟩
                      rw [fx]; simp [hj]
                  have hnb : e.n ≤ 100010000 := fn
                  clear hD hS hE hT E0 Em lX lM he hv hm u0 um o1 fx fn
                  generalize e.n = n at *
                  generalize mrk e.o = mm at *
                  have y1 := Kp.cell (Kp.drewN wD m) d0
                  have hne : (mm != mm) = false := by simp
                  go_wp2_with fail
                  clear y0 y1
                  go_loopw [13] (fun s13 wr => ∃ j : Nat, s13 = .int .i64 j ∧ j ≤ n ∧ ∃ m, wr = wD.drewN m) (fun s13 _ => n - nI s13)
                  case atStart => exact ⟨0, rfl, by omega, m, rfl⟩
                  case round =>
                    obtain ⟨j, rfl, hj, m, rfl⟩ := hrel
                    have y0 := Kp.cell (Kp.drewN wD m) x0
                    have y1 := Kp.cell (Kp.drewN wD m) d0
                    by_cases hjt : j < n
                    · have hjz : (j : Int) < (n : Int) := by omega
                      have y2 := Kp.cell (Kp.drewN wD m) x1
                      have y3 := Kp.cell (Kp.drewN wD m) dm
                      rcases HX.out with q | ⟨gx, rfl, hc⟩
                      · omega
                      have y5 := hc j hjt
                      have y4 := Kp.cell (Kp.drewN wD m) y5
                      clear hc
                      go_upto_region 34 with fail
                      go_quiet (fail)
                      go_wp2_with fail
                      exact ⟨⟨j + 1, by go_num, by omega, _, by first | rfl | exact World.drewN_drewN _ _ _⟩, by simp [nI]; omega⟩
                    · have hjz : ¬ (j : Int) < (n : Int) := by omega
                      go_wp2_with fail
                      exact ⟨⟨i + 1, by go_num, by omega, _, by first | rfl | trivial⟩, by simp [nI]; omega⟩
                · have hiz : ¬ (i : Int) < (T : Int) := by omega
                  go_wp2_with fail
                  go_ret
                  obtain ⟨hD, hS, hE, _⟩ := HD.out
                  exact ⟨rfl, σ', V', X', es2, hD.kp (Kp.drewN _ _), hS.trans (Sf.kp (Kp.drewN _ _)), hE⟩
end Go.Proofs.Ytfcpkcbiinbmiab
