import Derived.Test.YtggjfbfilidgoaaHl
import Derived.Deep.RegionHeld3
namespace Go.Proofs.Ytggjfbfilidgoaa
open Go.ChangeShapes Go.WideShapes Go.ChangeAt Go.RowKit Go.Shelf
set_option linter.unusedVariables false

set_option maxHeartbeats 4000000 in
set_option maxRecDepth 200000 in
theorem holds_walk (w : World) (a0 : Option Addr) (len cap : Nat) (F : Nat → PutV) (hF : PutsIn w a0 len F) :
    Calls Try.prog 5 #[.slice a0 len cap] w fun e w' => e = .returned (.bool true) ∧ Below w.heap.size w w' := by
  have hn := mptr_nil_no
  have hlen := hF.len_le
  have hmk := make38 8192 (by omega)
  rw [rowOf_zero] at hmk
  obtain ⟨Z, hZ⟩ : ∃ Z, Z = rowOf 8192 (fun _ => 0) := ⟨_, rfl⟩
  rw [← hZ] at hmk
  have hmk2 : ∀ w : World, (Instr.makeSlice 38 (.int .i64 8192) (.int .i64 8192)).run Try.prog w = .ok (.slice (some ⟨w.heap.size, 0, none⟩) 8192 8192) (w.alloc (.cells Z 5)) := hmk
  have H : Hid (PutsIn w a0 len F ∧ Z = rowOf 8192 (fun _ => 0)) := ⟨hF, hZ⟩
  clear hF hZ hmk
  go_enter Try.func5, Try.ntmps5
  go_wp2_with fail
  go_at_call 9
  refine (works_any w).mono ?_
  rintro e w1 ⟨rfl, hC1⟩
  go_wp2_with fail
  go_at_call 10
  refine (new_ok w1 3 (by omega) (by omega)).mono ?_
  rintro e w2 ⟨B, M, rfl, hI, hB, hM, hC2⟩
  have K0 : Hid (Hk w.heap.size (w2.alloc (.cells Z 5)) B M w2.heap.size (fun _ => none) (fun _ => 0) ∧ Chg w (w2.alloc (.cells Z 5)) (fun _ => False)) := by
    have hs1 := hC1.size
    have hs2 := hC2.size
    have hc : Chg w2 (w2.alloc (.cells Z 5)) (fun _ => False) := (Chg.refl _ _).alloc _
    refine ⟨⟨hI.other hc (fun _ _ h => h), ?_, fun _ _ => rfl, ?_⟩, (hC1.trans hC2 (fun _ _ h => h)).trans hc (fun _ _ h => h)⟩
    · rw [heap_alloc_new w2, H.out.2]
    · rintro k ((rfl | rfl | ⟨p, hp⟩) | rfl)
      · omega
      · omega
      · cases hp
      · omega
  obtain ⟨g0, hg0⟩ : ∃ g0, g0 = w2.heap.size := ⟨_, rfl⟩
  rw [← hg0] at K0
  clear hC1 hC2 hB hM hI
  go_wp2
  rw [← hg0]
  obtain ⟨w3, hw3⟩ : ∃ w3, w3 = w2.alloc (.cells Z 5) := ⟨_, rfl⟩
  rw [← hw3] at K0 ⊢
  clear hw3 hg0 hmk2
  go_loopw [7] (fun i wr => ∃ (j : Nat) (f : Nat → Option Nat) (m : Nat → Nat), j ≤ len ∧ i = .int .i64 j ∧ Hk w.heap.size wr B M g0 f m ∧ Chg w wr (fun _ => False)) (fun i _ => len - (intOf i).toNat)
  case atStart => exact ⟨0, _, _, by omega, rfl, K0.out.1, K0.out.2⟩
  case round =>
    obtain ⟨j, f, m, hj, rfl, hK, hC⟩ := hrel
    have KR : Hid (Hk w.heap.size wr B M g0 f m ∧ Chg w wr (fun _ => False)) := ⟨hK, hC⟩
    by_cases hlt : j < len ∧ j < 60
    · obtain ⟨hjl, hj60⟩ := hlt
      obtain ⟨b, off, e0, hcells⟩ := H.out.1.src.resolve_left (by omega)
      obtain ⟨x0, x1, x2, x3, x4, x5⟩ := hcells j hjl
      have hbl : b < w.heap.size := World.block_lt_of_cell? w _ x0
      obtain ⟨k1, k2, k3, k4, k5, k6, k7, k8, k9⟩ := H.out.1.ok j hjl
      have tr : ∀ o u, w.cell? ⟨b, o, none⟩ = some u → wr.cell? ⟨b, o, none⟩ = some u := fun o u h => (hC.cell hbl (fun h => h)).trans h
      have y0 := tr _ _ x0
      have y1 := tr _ _ x1
      have y2 := tr _ _ x2
      have y3 := tr _ _ x3
      have y4 := tr _ _ x4
      have y5 := tr _ _ x5
      obtain ⟨p, hp⟩ : ∃ p, p = F j := ⟨_, rfl⟩
      rw [← hp] at y0 y1 y2 y3 y4 y5 k1 k2 k3 k4 k5 k6 k7 k8 k9
      obtain ⟨kind, pat, pto, pn, pv_, ba, bl, bc, bs⟩ := p
      simp only at y0 y1 y2 y3 y4 y5 k1 k2 k3 k4 k5 k6 k7 k8 k9
      have KB : Hid (Bs w ba bl bs ∧ bl ≤ 140737488351232 ∧ bl ≤ bc ∧ (ba = none → bc = 0)) := ⟨k6, k7, k8, k9⟩
      subst e0
      clear x0 x1 x2 x3 x4 x5 hp tr hcells hK hC k6 k7 k8 k9
      have P1 : ∀ w, Calls Try.prog 11 #[.int .i64 pat, .int .i64 8192] w fun e w' => e = .returned (.int .i64 (pk pat 8192 : Nat)) ∧ w' = w := fun w => pick_any w pat 8192 (by omega) (by omega) k2.1 k2.2
      have l1 := pk_lt pat 8192 (by omega)
      generalize pk pat 8192 = A at P1 l1
      have P2 : ∀ w, Calls Try.prog 11 #[.int .i64 pn, .int .i64 (8192 - (A : Int) + 1)] w fun e w' => e = .returned (.int .i64 (pk pn (8192 - A + 1) : Nat)) ∧ w' = w := by
        intro w
        have e : (8192 - (A : Int) + 1) = ((8192 - A + 1 : Nat) : Int) := by omega
        rw [e]
        exact pick_any w pn (8192 - A + 1) (by omega) (by omega) k4.1 k4.2
      have l2 := pk_lt pn (8192 - A + 1) (by omega)
      generalize pk pn (8192 - A + 1) = n at P2 l2
      have P3 : ∀ w, Calls Try.prog 11 #[.int .i64 kind, .int .i64 4] w fun e w' => e = .returned (.int .i64 (pk kind 4 : Nat)) ∧ w' = w := fun w => pick_any w kind 4 (by omega) (by omega) k1.1 k1.2
      have l3 := pk_lt kind 4 (by omega)
      generalize pk kind 4 = kd at P3 l3
      go_wp2_with fail
      go_at_call 11
      refine (P1 _).mono ?_
      rintro e wa ⟨rfl, rfl⟩
      clear P1
      go_wp2_with fail
      go_at_call 11
      refine (P2 _).mono ?_
      rintro e wa ⟨rfl, rfl⟩
      clear P2
      go_wp2_with fail
      go_at_call 11
      refine (P3 _).mono ?_
      rintro e wa ⟨rfl, rfl⟩
      clear P3
      obtain ⟨pb, hpb⟩ : ∃ pb, pb = wr.heap.size := ⟨_, rfl⟩
      obtain ⟨wp, hwp⟩ : ∃ wp, wp = wr.alloc (.cells #[.int .i64 kind, .int .i64 pat, .int .i64 pto, .int .i64 pn, .int .u32 pv_, .slice ba bl bc] 40) := ⟨_, rfl⟩
      have hcp : Chg wr wp (fun _ => False) := by rw [hwp]; exact (Chg.refl _ _).alloc _
      have hbx : wp.heap[pb]? = some (.cells #[.int .i64 kind, .int .i64 pat, .int .i64 pto, .int .i64 pn, .int .u32 pv_, .slice ba bl bc] 40 (0, 0)) := by rw [hwp, hpb]; exact heap_alloc_new wr _
      have KP : Hid (Hk w.heap.size wp B M g0 f m ∧ Chg w wp (fun _ => False) ∧ wp.heap[pb]? = some (.cells #[.int .i64 kind, .int .i64 pat, .int .i64 pto, .int .i64 pn, .int .u32 pv_, .slice ba bl bc] 40 (0, 0))) := ⟨KR.out.1.same hcp, KR.out.2.trans hcp (fun _ _ h => h), hbx⟩
      rw [← hwp]
      have q2 := (cells_at hbx 2).1
      have q3 := (cells_at hbx 3).1
      have q4 := (cells_at hbx 4).1
      have q5 := (cells_at hbx 5).1
      simp only [List.getElem?_toArray, List.getElem?_cons_zero, List.getElem?_cons_succ] at q2 q3 q4 q5
      have hpl : pb < wp.heap.size := (Array.getElem?_eq_some_iff.1 hbx).1
      rw [← hpb]
      clear y0 y1 y2 y3 y4 y5 hcp hbx hwp hpb KR
      have hkd : kd = 0 ∨ kd = 1 ∨ kd = 2 ∨ kd = 3 := by omega
      rcases hkd with rfl | rfl | rfl | rfl
      · as_aux_lemma =>
        have P4 : ∀ w, Calls Try.prog 11 #[.int .i64 pn, .int .i64 3] w fun e w' => e = .returned (.int .i64 (pk pn 3 : Nat)) ∧ w' = w := fun w => pick_any w pn 3 (by omega) (by omega) k4.1 k4.2
        have l4 := pk_lt pn 3 (by omega)
        generalize pk pn 3 = ix at P4 l4
        obtain ⟨ws, hws, hcw⟩ : ∃ ws : Nat, (ws = 1 ∨ ws = 2 ∨ ws = 4) ∧ (wp.alloc (.cells #[.int .i64 1, .int .i64 2, .int .i64 4] 3)).cell? ⟨wp.heap.size, ix, none⟩ = some (.int .i64 ws) := by
          have hh := fun i => (cells_at (heap_alloc_new wp (.cells #[.int .i64 1, .int .i64 2, .int .i64 4] 3)) i).1
          have : ix = 0 ∨ ix = 1 ∨ ix = 2 := by omega
          rcases this with rfl | rfl | rfl
          · exact ⟨1, by omega, hh 0⟩
          · exact ⟨2, by omega, hh 1⟩
          · exact ⟨4, by omega, hh 2⟩
        have q3a : (wp.alloc (.cells #[.int .i64 1, .int .i64 2, .int .i64 4] 3)).cell? ⟨pb, 3, none⟩ = some (.int .i64 pn) := (World.cell?_of_block (Below.heap_alloc _ _ _ hpl)).trans q3
        have q4a : (wp.alloc (.cells #[.int .i64 1, .int .i64 2, .int .i64 4] 3)).cell? ⟨pb, 4, none⟩ = some (.int .u32 pv_) := (World.cell?_of_block (Below.heap_alloc _ _ _ hpl)).trans q4
        have hq1 := quo_ws A ws l1 hws
        have hq2 := mul_ws A ws l1 hws
        have hA1 : A / ws * ws % ws = 0 := Nat.mul_mod_left _ _
        obtain ⟨hA2, hw0, hw4, hq3⟩ := fit_ws A ws l1 hws
        generalize A / ws = qq at hq1 hq2 hA1 hA2 hq3
        generalize qq * ws = A' at hq2 hA1 hA2 hq3
        have hca : Chg wp (wp.alloc (.cells #[.int .i64 1, .int .i64 2, .int .i64 4] 3)) (fun _ => False) := (Chg.refl _ _).alloc _
        have KQ : Hid (Hk w.heap.size (wp.alloc (.cells #[.int .i64 1, .int .i64 2, .int .i64 4] 3)) B M g0 f m ∧ Chg w (wp.alloc (.cells #[.int .i64 1, .int .i64 2, .int .i64 4] 3)) (fun _ => False) ∧ (wp.alloc (.cells #[.int .i64 1, .int .i64 2, .int .i64 4] 3)).heap[pb]? = some (.cells #[.int .i64 kind, .int .i64 pat, .int .i64 pto, .int .i64 pn, .int .u32 pv_, .slice ba bl bc] 40 (0, 0))) := ⟨KP.out.1.same hca, KP.out.2.1.trans hca (fun _ _ h => h), hca.heap KP.out.2.2 (fun h => h)⟩
        have hSt := store_ok _ B M 3 f m KQ.out.1.isM A' ws pv_ hws hA1 (by omega) k5
        clear hca q2 q5 q3 q4
        go_wp2_with fail
        go_at_call 11
        refine (P4 _).mono ?_
        rintro e wq ⟨rfl, rfl⟩
        clear P4
        go_wp2_with fail
        go_at_call 12
        refine hSt.mono ?_
        rintro e W1 ⟨f', rfl, hI1, hC1, hF1⟩
        have hMc : Mc _ f W1 B M 3 f' (stN m A' pv_ ws) := ⟨hI1, hC1, hF1⟩
        have K1 : Hid (Hj w.heap.size W1 B M g0 f' (stN m A' pv_ ws) m ∧ Chg w W1 (fun _ => False) ∧ W1.heap[pb]? = some (.cells #[.int .i64 kind, .int .i64 pat, .int .i64 pto, .int .i64 pn, .int .u32 pv_, .slice ba bl bc] 40 (0, 0))) :=
          ⟨KQ.out.1.step KQ.out.2.1.size hMc (stN_zero KQ.out.1.zero A' pv_ ws hA2), KQ.out.1.chg KQ.out.2.1 hMc, hMc.box KQ.out.1.isM KQ.out.2.2 (by decide) (by decide)⟩
        clear hI1 hC1 hF1 hMc hSt q3a q4a hcw hq1
        go_wp2
        go_loopw [13] (fun i wr => ∃ k : Nat, k ≤ ws ∧ i = .int .i64 k ∧ Hj w.heap.size wr B M g0 f' (stN m A' pv_ ws) (stN m A' pv_ k) ∧ Chg w wr (fun _ => False) ∧ wr.heap[pb]? = some (.cells #[.int .i64 kind, .int .i64 pat, .int .i64 pto, .int .i64 pn, .int .u32 pv_, .slice ba bl bc] 40 (0, 0))) (fun i _ => ws - (intOf i).toNat)
        case atStart => exact ⟨0, by omega, rfl, K1.out⟩
        case round =>
          obtain ⟨k, hk, rfl, hJ, hCk, hbk⟩ := hrel
          by_cases hkl : k < ws
          · have ck := (cells_at hJ.know (A' + k)).1
            rw [rowOf_get _ _ _ (by omega)] at ck
            have fk := (cells_at hJ.know (A' + k)).2
            have cv := (cells_at hbk 4).1
            simp only [List.getElem?_toArray, List.getElem?_cons_zero, List.getElem?_cons_succ] at cv
            have hw8 := wrap_u8_div pv_ k
            have hJ2 := hJ.set (A' + k) (leB pv_ k) (by omega)
            have KN : Hid (Hj w.heap.size (wr.setCell ⟨g0, A' + k, none⟩ (.int .u8 (leB pv_ k : Nat))) B M g0 f' (stN m A' pv_ ws) (stN m A' pv_ (k + 1)) ∧ Chg w (wr.setCell ⟨g0, A' + k, none⟩ (.int .u8 (leB pv_ k : Nat))) (fun _ => False) ∧ (wr.setCell ⟨g0, A' + k, none⟩ (.int .u8 (leB pv_ k : Nat))).heap[pb]? = some (.cells #[.int .i64 kind, .int .i64 pat, .int .i64 pto, .int .i64 pn, .int .u32 pv_, .slice ba bl bc] 40 (0, 0))) := by
              refine ⟨hJ2, hJ.chgSet hCk _ _, ?_⟩
              rw [Below.heap_setCell _ _ _ _ ?_]
              · exact hbk
              · intro e
                have : g0 = pb := e.symm
                have h9 := hJ.know
                rw [this, hbk] at h9
                simp at h9
            obtain ⟨old, hold⟩ : ∃ old, old = Value.int .u8 ((stN m A' pv_ k (A' + k) : Nat) : Int) := ⟨_, rfl⟩
            rw [← hold] at ck
            clear hold hJ hCk hbk hJ2
            go_wp2
            exact ⟨⟨k + 1, by omega, by go_num, KN.out⟩, by simp [intOf]; omega⟩
          · have hkw : k = ws := by omega
            have KE : Hid (Hj w.heap.size wr B M g0 f' (stN m A' pv_ ws) (stN m A' pv_ ws) ∧ Chg w wr (fun _ => False)) := by rw [hkw] at hJ; exact ⟨hJ, hCk⟩
            clear hJ hCk hbk hkw
            go_wp2
            exact ⟨⟨j + 1, f', _, by omega, by go_num, KE.out.1.done, KE.out.2⟩, by simp [intOf]; omega⟩
      · as_aux_lemma =>
        obtain ⟨L, hL1, hL2, hcase⟩ : ∃ L, L ≤ bl ∧ A + L ≤ 8192 ∧ ((8192 - A < bl ∧ L = 8192 - A) ∨ (bl ≤ 8192 - A ∧ L = bl)) := by
          by_cases hb : 8192 - A < bl
          · exact ⟨8192 - A, by omega, by omega, .inl ⟨hb, rfl⟩⟩
          · exact ⟨bl, Nat.le_refl _, by omega, .inr ⟨by omega, rfl⟩⟩
        obtain ⟨kb1, kb2, kb3, kb4⟩ := KB.out
        have hLb : L ≤ bc := by omega
        have hBL : Bs wp ba L (bs.take L) := (kb1.take L hL1).kept KP.out.2.1
        obtain ⟨ad, hadn, had, hsB⟩ := sub38o ba L bc (L / 2) (by omega)
        have hsA := subh38 ba L bc (L / 2) (by omega)
        have hsA2 : ∀ w, (Instr.slice 38 (.slice ba L bc) none (some (.int .i64 ((L : Int) / 2))) none).run Try.prog w = .ok (.slice ba (L / 2) bc) w := hsA
        have hsB2 : ∀ w, (Instr.slice 38 (.slice ba L bc) (some (.int .i64 ((L : Int) / 2))) none none).run Try.prog w = .ok (.slice ad (L - L / 2) (bc - L / 2)) w := hsB
        have hcx : Chg wp (wp.drew.alloc (.cells #[.slice ba (L / 2) bc, .slice none 0 0, .slice ad (L - L / 2) (bc - L / 2)] 38)) (fun _ => False) := (Chg.refl _ _).drew.alloc _
        have hKx := KP.out.1.same hcx
        have hfr := KP.out.1.fresh
        have hPt := halves (B := B) (M := M) (f := f) (gp := wp.heap.size) (hBL.kept hcx) hLb had (fun g off e h0 => by
          obtain ⟨g', off', e', hc⟩ := kb1.src.resolve_left (by omega)
          rw [e] at e'
          simp only [Option.some.injEq, Addr.mk.injEq, and_true] at e'
          have hgw : g < w.heap.size := by rw [e'.1]; exact World.block_lt_of_cell? w _ (hc 0 (by omega))
          have h1 := KP.out.2.1.size
          have h2 := hcx.size
          exact ⟨fun hm => by have := hfr g (.inl hm); omega, by omega⟩) (fun hm => by have := KP.out.1.isM.lt _ hm; omega) (heap_alloc_new wp.drew _)
        have hWr0 := write_any _ B M 3 f m hKx.isM A wp.heap.size 3 3 _ _ _ _ hPt (by omega) (by rw [halves_sum]; omega) (by omega)
        rw [halves_sum, halves_cat] at hWr0
        have hWr : Calls Try.prog 15 #[.pointer (some ⟨B, 0, none⟩), .int .u32 (A : Int), .slice (some ⟨wp.heap.size, 0, none⟩) 3 3] (wp.drew.alloc (.cells #[.slice ba (L / 2) bc, .slice none 0 0, .slice ad (L - L / 2) (bc - L / 2)] 38)) fun e w' => e = .returned (.int .i64 0) ∧ ∃ f', Mc (wp.drew.alloc (.cells #[.slice ba (L / 2) bc, .slice none 0 0, .slice ad (L - L / 2) (bc - L / 2)] 38)) f w' B M 3 f' (layN m A (bs.take L)) := by
          refine hWr0.mono ?_
          rintro e w' (⟨-, h1, h2⟩ | ⟨h1, -, -⟩)
          · exact ⟨h1, h2⟩
          · omega
        have KX : Hid (Hk w.heap.size (wp.drew.alloc (.cells #[.slice ba (L / 2) bc, .slice none 0 0, .slice ad (L - L / 2) (bc - L / 2)] 38)) B M g0 f m ∧ Chg w (wp.drew.alloc (.cells #[.slice ba (L / 2) bc, .slice none 0 0, .slice ad (L - L / 2) (bc - L / 2)] 38)) (fun _ => False) ∧ Bs w ba L (bs.take L)) := ⟨hKx, KP.out.2.1.trans hcx (fun _ _ h => h), kb1.take L hL1⟩
        obtain ⟨ad0, had0, hsub0⟩ := sub38 g0 0 8192 8192 A (by omega)
        rw [had0 (by omega), Nat.zero_add] at hsub0
        have eA : IntKind.u32.wrap (A : Int) = (A : Int) := by rw [wrap_u32]; omega
        have eL : IntKind.i64.wrap ((L : Int) / 2) = (L : Int) / 2 := by rw [IntKind.wrap_i64]; omega
        have hmx : Try.prog.follows .mixedOrders = true := by kernel_rfl
        clear kb1 kb2 kb3 kb4 hBL hadn had hsA hsB hcx hKx hfr hPt hWr0 had0 q2 q3 q4
        rcases hcase with ⟨hb, hLe⟩ | ⟨hb, hLe⟩
        · as_aux_lemma =>
            have hsh : ∀ w, (Instr.slice 38 (.slice ba bl bc) none (some (.int .i64 (8192 - (A : Int)))) none).run Try.prog w = .ok (.slice ba L bc) w := by
              intro w
              have := subh38 ba bl bc L (by omega) w
              have e : ((L : Nat) : Int) = 8192 - (A : Int) := by omega
              rw [e] at this; exact this
            have hLe' : Hid (L = 8192 - A) := hLe
            clear hLe
            go_wp2_with fail
            refine wp_region_held_drew (S := fun _ => True) hmx trivial (fun hS => ?_)
            refine wpAnyH_take (i := 0) (oi := { dst := some 124, op := Op.move (Operand.tmp 4), type := 24, pos := "law.go:344", after := #[], guard := none }) (v := .pointer (some ⟨B, 0, none⟩)) rfl (by kernel_rfl) (by kernel_rfl) (by kernel_rfl) (fun _ _ _ h => h) (Or.inl ⟨by rfl, ?_⟩) hS ?_
            · intro wx _
              go_simp
            simp only [Act.put, List.setIfInBounds_toArray, List.set_cons_zero, List.set_cons_succ]
            refine wpAnyH_take (i := 1) (oi := { dst := some 125, op := Op.move (Operand.tmp 9), type := 3, pos := "law.go:344", after := #[], guard := none }) (v := .int .i64 (A : Int)) rfl (by kernel_rfl) (by kernel_rfl) (by kernel_rfl) (fun _ _ _ h => h) (Or.inl ⟨by rfl, ?_⟩) hS ?_
            · intro wx _
              go_simp
            simp only [Act.put, List.setIfInBounds_toArray, List.set_cons_zero, List.set_cons_succ]
            refine wpAnyH_take (i := 2) (oi := { dst := some 126, op := Op.convert 3 22 (Operand.tmp 125), type := 22, pos := "law.go:344", after := #[{ on := 1, ground := Ground.data }], guard := none }) (v := .int .u32 (A : Int)) rfl (by kernel_rfl) (by kernel_rfl) (by kernel_rfl) (fun _ _ _ h => h) (Or.inl ⟨by rfl, ?_⟩) hS ?_
            · intro wx _
              go_simp
            simp only [Act.put, List.setIfInBounds_toArray, List.set_cons_zero, List.set_cons_succ]
            refine wpAnyH_take (i := 3) (oi := { dst := some 127, op := Op.move (Operand.tmp 14), type := 38, pos := "law.go:344", after := #[], guard := none }) (v := .slice ba L bc) rfl (by kernel_rfl) (by kernel_rfl) (by kernel_rfl) (fun _ _ _ h => h) (Or.inl ⟨by rfl, ?_⟩) hS ?_
            · intro wx _
              go_simp
            simp only [Act.put, List.setIfInBounds_toArray, List.set_cons_zero, List.set_cons_succ]
            refine wpAnyH_take (i := 4) (oi := { dst := some 128, op := Op.move (Operand.tmp 14), type := 38, pos := "law.go:344", after := #[], guard := none }) (v := .slice ba L bc) rfl (by kernel_rfl) (by kernel_rfl) (by kernel_rfl) (fun _ _ _ h => h) (Or.inl ⟨by rfl, ?_⟩) hS ?_
            · intro wx _
              go_simp
            simp only [Act.put, List.setIfInBounds_toArray, List.set_cons_zero, List.set_cons_succ]
            refine wpAnyH_take (i := 5) (oi := { dst := some 129, op := Op.call { callee := Callee.builtin Builtin.len, args := #[Operand.tmp 128], argTypes := #[38] }, type := 3, pos := "law.go:344", after := #[{ on := 4, ground := Ground.data }], guard := none }) (v := .int .i64 (L : Int)) rfl (by kernel_rfl) (by kernel_rfl) (by kernel_rfl) (fun _ _ _ h => h) (Or.inl ⟨by rfl, ?_⟩) hS ?_
            · intro wx _
              go_simp
            simp only [Act.put, List.setIfInBounds_toArray, List.set_cons_zero, List.set_cons_succ]
            refine wpAnyH_take (i := 6) (oi := { dst := some 130, op := Op.binOp BinOp.quo 3 (Operand.tmp 129) (Operand.const (Value.int IntKind.i64 2)) 3, type := 3, pos := "law.go:344", after := #[{ on := 5, ground := Ground.data }], guard := none }) (v := .int .i64 ((L : Int) / 2)) rfl (by kernel_rfl) (by kernel_rfl) (by kernel_rfl) (fun _ _ _ h => h) (Or.inl ⟨by rfl, ?_⟩) hS ?_
            · intro wx _
              go_simp
            simp only [Act.put, List.setIfInBounds_toArray, List.set_cons_zero, List.set_cons_succ]
            refine wpAnyH_take (i := 7) (oi := { dst := some 131, op := Op.slice 38 (Operand.tmp 127) none (some (Operand.tmp 130)) none, type := 38, pos := "law.go:344", after := #[{ on := 3, ground := Ground.data }, { on := 6, ground := Ground.data }], guard := none }) (v := .slice ba (L / 2) bc) rfl (by kernel_rfl) (by kernel_rfl) (by kernel_rfl) (fun _ _ _ h => h) (Or.inl ⟨by rfl, ?_⟩) hS ?_
            · intro wx _
              refine exec_slice rfl ?_
              show (Instr.sliceAt 38 (.slice ba L bc) none (some (.int .i64 ((L : Int) / 2))) none).run Try.prog wx = _
              exact (sliceAt38 _ _ _ _ _).trans (hsA2 wx)
            simp only [Act.put, List.setIfInBounds_toArray, List.set_cons_zero, List.set_cons_succ]
            refine wpAnyH_take (i := 8) (oi := { dst := some 132, op := Op.move (Operand.tmp 14), type := 38, pos := "law.go:344", after := #[], guard := none }) (v := .slice ba L bc) rfl (by kernel_rfl) (by kernel_rfl) (by kernel_rfl) (fun _ _ _ h => h) (Or.inl ⟨by rfl, ?_⟩) hS ?_
            · intro wx _
              go_simp
            simp only [Act.put, List.setIfInBounds_toArray, List.set_cons_zero, List.set_cons_succ]
            refine wpAnyH_take (i := 9) (oi := { dst := some 133, op := Op.move (Operand.tmp 14), type := 38, pos := "law.go:344", after := #[], guard := none }) (v := .slice ba L bc) rfl (by kernel_rfl) (by kernel_rfl) (by kernel_rfl) (fun _ _ _ h => h) (Or.inl ⟨by rfl, ?_⟩) hS ?_
            · intro wx _
              go_simp
            simp only [Act.put, List.setIfInBounds_toArray, List.set_cons_zero, List.set_cons_succ]
            refine wpAnyH_take (i := 10) (oi := { dst := some 134, op := Op.call { callee := Callee.builtin Builtin.len, args := #[Operand.tmp 133], argTypes := #[38] }, type := 3, pos := "law.go:344", after := #[{ on := 9, ground := Ground.data }], guard := none }) (v := .int .i64 (L : Int)) rfl (by kernel_rfl) (by kernel_rfl) (by kernel_rfl) (fun _ _ _ h => h) (Or.inl ⟨by rfl, ?_⟩) hS ?_
            · intro wx _
              go_simp
            simp only [Act.put, List.setIfInBounds_toArray, List.set_cons_zero, List.set_cons_succ]
            refine wpAnyH_take (i := 11) (oi := { dst := some 135, op := Op.binOp BinOp.quo 3 (Operand.tmp 134) (Operand.const (Value.int IntKind.i64 2)) 3, type := 3, pos := "law.go:344", after := #[{ on := 10, ground := Ground.data }], guard := none }) (v := .int .i64 ((L : Int) / 2)) rfl (by kernel_rfl) (by kernel_rfl) (by kernel_rfl) (fun _ _ _ h => h) (Or.inl ⟨by rfl, ?_⟩) hS ?_
            · intro wx _
              go_simp
            simp only [Act.put, List.setIfInBounds_toArray, List.set_cons_zero, List.set_cons_succ]
            refine wpAnyH_take (i := 12) (oi := { dst := some 136, op := Op.slice 38 (Operand.tmp 132) (some (Operand.tmp 135)) none none, type := 38, pos := "law.go:344", after := #[{ on := 8, ground := Ground.data }, { on := 11, ground := Ground.data }], guard := none }) (v := .slice ad (L - L / 2) (bc - L / 2)) rfl (by kernel_rfl) (by kernel_rfl) (by kernel_rfl) (fun _ _ _ h => h) (Or.inl ⟨by rfl, ?_⟩) hS ?_
            · intro wx _
              refine exec_slice rfl ?_
              show (Instr.sliceAt 38 (.slice ba L bc) (some (.int .i64 ((L : Int) / 2))) none none).run Try.prog wx = _
              exact (sliceAt38 _ _ _ _ _).trans (hsB2 wx)
            simp only [Act.put, List.setIfInBounds_toArray, List.set_cons_zero, List.set_cons_succ]
            refine wpAnyH_ready (rs := [13]) (by kernel_rfl) (by simp) ?_
            refine AllReadyH.cons (o := { dst := some 137, op := Op.buildSlice 64 3 #[(0, Operand.tmp 131), (1, Operand.const (Value.slice none 0 0)), (2, Operand.tmp 136)], type := 64, pos := "law.go:344", after := #[{ on := 7, ground := Ground.data }, { on := 12, ground := Ground.data }], guard := none }) rfl (fun K hK => ?_) AllReadyH.nil
            rw [if_pos (by rfl)]
            go_simp
            refine hK.out _ _ trivial (fun hS2 => ?_)
            clear hK K
            refine wpAnyH_ready (rs := [14]) (by kernel_rfl) (by simp) ?_
            refine AllReadyH.cons (o := { dst := some 138, op := Op.call { callee := Callee.value (Operand.func 15), args := #[Operand.tmp 124, Operand.tmp 126, Operand.tmp 137], argTypes := #[24, 22, 64] }, type := 25, pos := "law.go:344", after := #[{ on := 0, ground := Ground.data }, { on := 2, ground := Ground.data }, { on := 13, ground := Ground.data }], guard := none }) rfl (fun K hK => ?_) AllReadyH.nil
            rw [if_pos (by rfl)]
            go_simp
            refine hWr.mono ?_
            rintro e W1 ⟨rfl, f', hMc⟩
            refine hK.out _ _ trivial (fun hS3 => ?_)
            clear hK K
            refine wpAnyH_take (i := 15) (oi := { dst := some 5, op := Op.assign (Operand.tmp 138), type := 25, pos := "law.go:344", after := #[{ on := 14, ground := Ground.data }, { on := 14, ground := Ground.chain }, { on := 0, ground := Ground.phase }, { on := 1, ground := Ground.phase }, { on := 2, ground := Ground.phase }, { on := 3, ground := Ground.phase }, { on := 4, ground := Ground.phase }, { on := 5, ground := Ground.phase }, { on := 6, ground := Ground.phase }, { on := 7, ground := Ground.phase }, { on := 8, ground := Ground.phase }, { on := 9, ground := Ground.phase }, { on := 10, ground := Ground.phase }, { on := 11, ground := Ground.phase }, { on := 12, ground := Ground.phase }, { on := 13, ground := Ground.phase }, { on := 14, ground := Ground.phase }], guard := none }) (v := .int .i64 0) rfl (by kernel_rfl) (by kernel_rfl) (by kernel_rfl) (fun _ _ _ h => h) (Or.inl ⟨by rfl, ?_⟩) hS3 ?_
            · intro wx _
              go_simp
            simp only [Act.put, List.setIfInBounds_toArray, List.set_cons_zero, List.set_cons_succ]
            refine wpAnyH_done (by kernel_rfl) ?_ _
            have hJ : Hj w.heap.size W1 B M g0 f' (layN m A (bs.take L)) m := KX.out.1.step KX.out.2.1.size hMc (layN_zeros KX.out.1.zero A _ (by rw [KX.out.2.2.len_eq]; exact hL2))
            have hC1 : Chg w W1 (fun _ => False) := KX.out.1.chg KX.out.2.1 hMc
            have hcp := copy_know W1 g0 m hJ.know A (bs.take L) ba L bc (KX.out.2.2.kept hC1) hL2 ⟨g0, A, none⟩ (fun _ => rfl)
            have KJ : Hid (Hk w.heap.size (W1.setRow g0 (rowOf 8192 (layN m A (bs.take L)))) B M g0 f' (layN m A (bs.take L)) ∧ Chg w (W1.setRow g0 (rowOf 8192 (layN m A (bs.take L)))) (fun _ => False)) :=
              ⟨(hJ.lay A (bs.take L) (by rw [KX.out.2.2.len_eq]; exact hL2)).done, hJ.chgRow hC1 _⟩
            obtain ⟨W3, hW3⟩ : ∃ W3, W3 = W1.setRow g0 (rowOf 8192 (layN m A (bs.take L))) := ⟨_, rfl⟩
            rw [← hW3] at KJ hcp
            clear hMc hJ hC1 hW3 hS hS2 hS3 hWr hsA2 hsB2
            go_wp2
            exact ⟨⟨j + 1, f', _, by omega, by go_num, KJ.out.1, KJ.out.2⟩, by simp [intOf]; omega⟩
        · as_aux_lemma =>
            subst hLe
            go_wp2_with fail
            refine wp_region_held_drew (S := fun _ => True) hmx trivial (fun hS => ?_)
            refine wpAnyH_take (i := 0) (oi := { dst := some 124, op := Op.move (Operand.tmp 4), type := 24, pos := "law.go:344", after := #[], guard := none }) (v := .pointer (some ⟨B, 0, none⟩)) rfl (by kernel_rfl) (by kernel_rfl) (by kernel_rfl) (fun _ _ _ h => h) (Or.inl ⟨by rfl, ?_⟩) hS ?_
            · intro wx _
              go_simp
            simp only [Act.put, List.setIfInBounds_toArray, List.set_cons_zero, List.set_cons_succ]
            refine wpAnyH_take (i := 1) (oi := { dst := some 125, op := Op.move (Operand.tmp 9), type := 3, pos := "law.go:344", after := #[], guard := none }) (v := .int .i64 (A : Int)) rfl (by kernel_rfl) (by kernel_rfl) (by kernel_rfl) (fun _ _ _ h => h) (Or.inl ⟨by rfl, ?_⟩) hS ?_
            · intro wx _
              go_simp
            simp only [Act.put, List.setIfInBounds_toArray, List.set_cons_zero, List.set_cons_succ]
            refine wpAnyH_take (i := 2) (oi := { dst := some 126, op := Op.convert 3 22 (Operand.tmp 125), type := 22, pos := "law.go:344", after := #[{ on := 1, ground := Ground.data }], guard := none }) (v := .int .u32 (A : Int)) rfl (by kernel_rfl) (by kernel_rfl) (by kernel_rfl) (fun _ _ _ h => h) (Or.inl ⟨by rfl, ?_⟩) hS ?_
            · intro wx _
              go_simp
            simp only [Act.put, List.setIfInBounds_toArray, List.set_cons_zero, List.set_cons_succ]
            refine wpAnyH_take (i := 3) (oi := { dst := some 127, op := Op.move (Operand.tmp 14), type := 38, pos := "law.go:344", after := #[], guard := none }) (v := .slice ba L bc) rfl (by kernel_rfl) (by kernel_rfl) (by kernel_rfl) (fun _ _ _ h => h) (Or.inl ⟨by rfl, ?_⟩) hS ?_
            · intro wx _
              go_simp
            simp only [Act.put, List.setIfInBounds_toArray, List.set_cons_zero, List.set_cons_succ]
            refine wpAnyH_take (i := 4) (oi := { dst := some 128, op := Op.move (Operand.tmp 14), type := 38, pos := "law.go:344", after := #[], guard := none }) (v := .slice ba L bc) rfl (by kernel_rfl) (by kernel_rfl) (by kernel_rfl) (fun _ _ _ h => h) (Or.inl ⟨by rfl, ?_⟩) hS ?_
            · intro wx _
              go_simp
            simp only [Act.put, List.setIfInBounds_toArray, List.set_cons_zero, List.set_cons_succ]
            refine wpAnyH_take (i := 5) (oi := { dst := some 129, op := Op.call { callee := Callee.builtin Builtin.len, args := #[Operand.tmp 128], argTypes := #[38] }, type := 3, pos := "law.go:344", after := #[{ on := 4, ground := Ground.data }], guard := none }) (v := .int .i64 (L : Int)) rfl (by kernel_rfl) (by kernel_rfl) (by kernel_rfl) (fun _ _ _ h => h) (Or.inl ⟨by rfl, ?_⟩) hS ?_
            · intro wx _
              go_simp
            simp only [Act.put, List.setIfInBounds_toArray, List.set_cons_zero, List.set_cons_succ]
            refine wpAnyH_take (i := 6) (oi := { dst := some 130, op := Op.binOp BinOp.quo 3 (Operand.tmp 129) (Operand.const (Value.int IntKind.i64 2)) 3, type := 3, pos := "law.go:344", after := #[{ on := 5, ground := Ground.data }], guard := none }) (v := .int .i64 ((L : Int) / 2)) rfl (by kernel_rfl) (by kernel_rfl) (by kernel_rfl) (fun _ _ _ h => h) (Or.inl ⟨by rfl, ?_⟩) hS ?_
            · intro wx _
              go_simp
            simp only [Act.put, List.setIfInBounds_toArray, List.set_cons_zero, List.set_cons_succ]
            refine wpAnyH_take (i := 7) (oi := { dst := some 131, op := Op.slice 38 (Operand.tmp 127) none (some (Operand.tmp 130)) none, type := 38, pos := "law.go:344", after := #[{ on := 3, ground := Ground.data }, { on := 6, ground := Ground.data }], guard := none }) (v := .slice ba (L / 2) bc) rfl (by kernel_rfl) (by kernel_rfl) (by kernel_rfl) (fun _ _ _ h => h) (Or.inl ⟨by rfl, ?_⟩) hS ?_
            · intro wx _
              refine exec_slice rfl ?_
              show (Instr.sliceAt 38 (.slice ba L bc) none (some (.int .i64 ((L : Int) / 2))) none).run Try.prog wx = _
              exact (sliceAt38 _ _ _ _ _).trans (hsA2 wx)
            simp only [Act.put, List.setIfInBounds_toArray, List.set_cons_zero, List.set_cons_succ]
            refine wpAnyH_take (i := 8) (oi := { dst := some 132, op := Op.move (Operand.tmp 14), type := 38, pos := "law.go:344", after := #[], guard := none }) (v := .slice ba L bc) rfl (by kernel_rfl) (by kernel_rfl) (by kernel_rfl) (fun _ _ _ h => h) (Or.inl ⟨by rfl, ?_⟩) hS ?_
            · intro wx _
              go_simp
            simp only [Act.put, List.setIfInBounds_toArray, List.set_cons_zero, List.set_cons_succ]
            refine wpAnyH_take (i := 9) (oi := { dst := some 133, op := Op.move (Operand.tmp 14), type := 38, pos := "law.go:344", after := #[], guard := none }) (v := .slice ba L bc) rfl (by kernel_rfl) (by kernel_rfl) (by kernel_rfl) (fun _ _ _ h => h) (Or.inl ⟨by rfl, ?_⟩) hS ?_
            · intro wx _
              go_simp
            simp only [Act.put, List.setIfInBounds_toArray, List.set_cons_zero, List.set_cons_succ]
            refine wpAnyH_take (i := 10) (oi := { dst := some 134, op := Op.call { callee := Callee.builtin Builtin.len, args := #[Operand.tmp 133], argTypes := #[38] }, type := 3, pos := "law.go:344", after := #[{ on := 9, ground := Ground.data }], guard := none }) (v := .int .i64 (L : Int)) rfl (by kernel_rfl) (by kernel_rfl) (by kernel_rfl) (fun _ _ _ h => h) (Or.inl ⟨by rfl, ?_⟩) hS ?_
            · intro wx _
              go_simp
            simp only [Act.put, List.setIfInBounds_toArray, List.set_cons_zero, List.set_cons_succ]
            refine wpAnyH_take (i := 11) (oi := { dst := some 135, op := Op.binOp BinOp.quo 3 (Operand.tmp 134) (Operand.const (Value.int IntKind.i64 2)) 3, type := 3, pos := "law.go:344", after := #[{ on := 10, ground := Ground.data }], guard := none }) (v := .int .i64 ((L : Int) / 2)) rfl (by kernel_rfl) (by kernel_rfl) (by kernel_rfl) (fun _ _ _ h => h) (Or.inl ⟨by rfl, ?_⟩) hS ?_
            · intro wx _
              go_simp
            simp only [Act.put, List.setIfInBounds_toArray, List.set_cons_zero, List.set_cons_succ]
            refine wpAnyH_take (i := 12) (oi := { dst := some 136, op := Op.slice 38 (Operand.tmp 132) (some (Operand.tmp 135)) none none, type := 38, pos := "law.go:344", after := #[{ on := 8, ground := Ground.data }, { on := 11, ground := Ground.data }], guard := none }) (v := .slice ad (L - L / 2) (bc - L / 2)) rfl (by kernel_rfl) (by kernel_rfl) (by kernel_rfl) (fun _ _ _ h => h) (Or.inl ⟨by rfl, ?_⟩) hS ?_
            · intro wx _
              refine exec_slice rfl ?_
              show (Instr.sliceAt 38 (.slice ba L bc) (some (.int .i64 ((L : Int) / 2))) none none).run Try.prog wx = _
              exact (sliceAt38 _ _ _ _ _).trans (hsB2 wx)
            simp only [Act.put, List.setIfInBounds_toArray, List.set_cons_zero, List.set_cons_succ]
            refine wpAnyH_ready (rs := [13]) (by kernel_rfl) (by simp) ?_
            refine AllReadyH.cons (o := { dst := some 137, op := Op.buildSlice 64 3 #[(0, Operand.tmp 131), (1, Operand.const (Value.slice none 0 0)), (2, Operand.tmp 136)], type := 64, pos := "law.go:344", after := #[{ on := 7, ground := Ground.data }, { on := 12, ground := Ground.data }], guard := none }) rfl (fun K hK => ?_) AllReadyH.nil
            rw [if_pos (by rfl)]
            go_simp
            refine hK.out _ _ trivial (fun hS2 => ?_)
            clear hK K
            refine wpAnyH_ready (rs := [14]) (by kernel_rfl) (by simp) ?_
            refine AllReadyH.cons (o := { dst := some 138, op := Op.call { callee := Callee.value (Operand.func 15), args := #[Operand.tmp 124, Operand.tmp 126, Operand.tmp 137], argTypes := #[24, 22, 64] }, type := 25, pos := "law.go:344", after := #[{ on := 0, ground := Ground.data }, { on := 2, ground := Ground.data }, { on := 13, ground := Ground.data }], guard := none }) rfl (fun K hK => ?_) AllReadyH.nil
            rw [if_pos (by rfl)]
            go_simp
            refine hWr.mono ?_
            rintro e W1 ⟨rfl, f', hMc⟩
            refine hK.out _ _ trivial (fun hS3 => ?_)
            clear hK K
            refine wpAnyH_take (i := 15) (oi := { dst := some 5, op := Op.assign (Operand.tmp 138), type := 25, pos := "law.go:344", after := #[{ on := 14, ground := Ground.data }, { on := 14, ground := Ground.chain }, { on := 0, ground := Ground.phase }, { on := 1, ground := Ground.phase }, { on := 2, ground := Ground.phase }, { on := 3, ground := Ground.phase }, { on := 4, ground := Ground.phase }, { on := 5, ground := Ground.phase }, { on := 6, ground := Ground.phase }, { on := 7, ground := Ground.phase }, { on := 8, ground := Ground.phase }, { on := 9, ground := Ground.phase }, { on := 10, ground := Ground.phase }, { on := 11, ground := Ground.phase }, { on := 12, ground := Ground.phase }, { on := 13, ground := Ground.phase }, { on := 14, ground := Ground.phase }], guard := none }) (v := .int .i64 0) rfl (by kernel_rfl) (by kernel_rfl) (by kernel_rfl) (fun _ _ _ h => h) (Or.inl ⟨by rfl, ?_⟩) hS3 ?_
            · intro wx _
              go_simp
            simp only [Act.put, List.setIfInBounds_toArray, List.set_cons_zero, List.set_cons_succ]
            refine wpAnyH_done (by kernel_rfl) ?_ _
            have hJ : Hj w.heap.size W1 B M g0 f' (layN m A (bs.take L)) m := KX.out.1.step KX.out.2.1.size hMc (layN_zeros KX.out.1.zero A _ (by rw [KX.out.2.2.len_eq]; exact hL2))
            have hC1 : Chg w W1 (fun _ => False) := KX.out.1.chg KX.out.2.1 hMc
            have hcp := copy_know W1 g0 m hJ.know A (bs.take L) ba L bc (KX.out.2.2.kept hC1) hL2 ⟨g0, A, none⟩ (fun _ => rfl)
            have KJ : Hid (Hk w.heap.size (W1.setRow g0 (rowOf 8192 (layN m A (bs.take L)))) B M g0 f' (layN m A (bs.take L)) ∧ Chg w (W1.setRow g0 (rowOf 8192 (layN m A (bs.take L)))) (fun _ => False)) :=
              ⟨(hJ.lay A (bs.take L) (by rw [KX.out.2.2.len_eq]; exact hL2)).done, hJ.chgRow hC1 _⟩
            obtain ⟨W3, hW3⟩ : ∃ W3, W3 = W1.setRow g0 (rowOf 8192 (layN m A (bs.take L))) := ⟨_, rfl⟩
            rw [← hW3] at KJ hcp
            clear hMc hJ hC1 hW3 hS hS2 hS3 hWr hsA2 hsB2
            go_wp2
            exact ⟨⟨j + 1, f', _, by omega, by go_num, KJ.out.1, KJ.out.2⟩, by simp [intOf]; omega⟩
      · as_aux_lemma =>
        have hFi := fill_ok wp B M 3 f m KP.out.1.isM A n (pv_ % 256) (by omega) (by omega)
        have hbb : ((pv_ : Int) % 256) = ((pv_ % 256 : Nat) : Int) := by omega
        generalize pv_ % 256 = bb at hFi hbb
        clear q2 q3 q5
        go_wp2_with fail
        go_at_call 16
        refine hFi.mono ?_
        rintro e W1 ⟨f', rfl, hI1, hC1, hF1⟩
        have hMc : Mc _ f W1 B M 3 f' (fillN m A n bb) := ⟨hI1, hC1, hF1⟩
        have K1 : Hid (Hj w.heap.size W1 B M g0 f' (fillN m A n bb) m ∧ Chg w W1 (fun _ => False) ∧ W1.heap[pb]? = some (.cells #[.int .i64 kind, .int .i64 pat, .int .i64 pto, .int .i64 pn, .int .u32 pv_, .slice ba bl bc] 40 (0, 0))) :=
          ⟨KP.out.1.step KP.out.2.1.size hMc (fillN_zeros KP.out.1.zero A n bb (by omega)), KP.out.1.chg KP.out.2.1 hMc, hMc.box KP.out.1.isM KP.out.2.2 (by decide) (by decide)⟩
        clear hI1 hC1 hF1 hMc hFi q4
        go_wp2
        go_loopw [15] (fun i wr => ∃ k : Nat, k ≤ n ∧ i = .int .i64 k ∧ Hj w.heap.size wr B M g0 f' (fillN m A n bb) (fillN m A k bb) ∧ Chg w wr (fun _ => False) ∧ wr.heap[pb]? = some (.cells #[.int .i64 kind, .int .i64 pat, .int .i64 pto, .int .i64 pn, .int .u32 pv_, .slice ba bl bc] 40 (0, 0))) (fun i _ => n - (intOf i).toNat)
        case atStart => exact ⟨0, by omega, rfl, by rw [fillN_zero]; exact K1.out.1, K1.out.2⟩
        case round =>
          obtain ⟨k, hk, rfl, hJ, hCk, hbk⟩ := hrel
          by_cases hkl : k < n
          · have ck := (cells_at hJ.know (A + k)).1
            rw [rowOf_get _ _ _ (by omega)] at ck
            have fk := (cells_at hJ.know (A + k)).2
            have cv := (cells_at hbk 4).1
            simp only [List.getElem?_toArray, List.getElem?_cons_zero, List.getElem?_cons_succ] at cv
            have hJ2 := hJ.set (A + k) bb (by omega)
            rw [fillN_step] at hJ2
            have KN : Hid (Hj w.heap.size (wr.setCell ⟨g0, A + k, none⟩ (.int .u8 (bb : Nat))) B M g0 f' (fillN m A n bb) (fillN m A (k + 1) bb) ∧ Chg w (wr.setCell ⟨g0, A + k, none⟩ (.int .u8 (bb : Nat))) (fun _ => False) ∧ (wr.setCell ⟨g0, A + k, none⟩ (.int .u8 (bb : Nat))).heap[pb]? = some (.cells #[.int .i64 kind, .int .i64 pat, .int .i64 pto, .int .i64 pn, .int .u32 pv_, .slice ba bl bc] 40 (0, 0))) := by
              refine ⟨hJ2, hJ.chgSet hCk _ _, ?_⟩
              rw [Below.heap_setCell _ _ _ _ ?_]
              · exact hbk
              · intro e
                have : g0 = pb := e.symm
                have h9 := hJ.know
                rw [this, hbk] at h9
                simp at h9
            obtain ⟨old, hold⟩ : ∃ old, old = Value.int .u8 ((fillN m A k bb (A + k) : Nat) : Int) := ⟨_, rfl⟩
            rw [← hold] at ck
            clear hold hJ hCk hbk hJ2
            go_wp2
            exact ⟨⟨k + 1, by omega, by go_num, KN.out⟩, by simp [intOf]; omega⟩
          · have hkw : k = n := by omega
            have KE : Hid (Hj w.heap.size wr B M g0 f' (fillN m A n bb) (fillN m A n bb) ∧ Chg w wr (fun _ => False)) := by rw [hkw] at hJ; exact ⟨hJ, hCk⟩
            clear hJ hCk hbk hkw
            go_wp2
            exact ⟨⟨j + 1, f', _, by omega, by go_num, KE.out.1.done, KE.out.2⟩, by simp [intOf]; omega⟩
      · as_aux_lemma =>
        have P5 : ∀ w, Calls Try.prog 11 #[.int .i64 pto, .int .i64 (8192 - (n : Int) + 1)] w fun e w' => e = .returned (.int .i64 (pk pto (8192 - n + 1) : Nat)) ∧ w' = w := by
          intro w
          have e : (8192 - (n : Int) + 1) = ((8192 - n + 1 : Nat) : Int) := by omega
          rw [e]
          exact pick_any w pto (8192 - n + 1) (by omega) (by omega) k3.1 k3.2
        have l5 := pk_lt pto (8192 - n + 1) (by omega)
        generalize pk pto (8192 - n + 1) = to at P5 l5
        have hCo := copy_ok wp B M 3 f m KP.out.1.isM to A n (by omega) (by omega)
        clear q3 q4 q5
        go_wp2_with fail
        go_at_call 11
        refine (P5 _).mono ?_
        rintro e wq ⟨rfl, rfl⟩
        clear P5 q2
        go_wp2_with fail
        go_at_call 17
        refine hCo.mono ?_
        rintro e W1 ⟨rfl, f', hMc⟩
        have hJ : Hj w.heap.size W1 B M g0 f' (layN m to (rdN m A n)) m := KP.out.1.step KP.out.2.1.size hMc (layN_zeros KP.out.1.zero to _ (by rw [rdN_len]; omega))
        have hC1 : Chg w W1 (fun _ => False) := KP.out.1.chg KP.out.2.1 hMc
        have hsl := sublh38 g0 8192 8192 A (A + n) (by omega) (by omega) (by omega)
        have hsl2 : ∀ w, (Instr.slice 38 (.slice (some ⟨g0, 0, none⟩) 8192 8192) (some (.int .i64 (A : Int))) (some (.int .i64 ((A : Int) + (n : Int)))) none).run Try.prog w = .ok (.slice (some ⟨g0, A, none⟩) n (8192 - A)) w := by
          intro w
          have e2 : A + n - A = n := by omega
          have := hsl w
          rw [e2] at this
          exact this
        obtain ⟨wa, wc, W2, hap, hBw, hC2⟩ := app_know W1 g0 m hJ.know KP.out.1.isM.byte A n (8192 - A) (by omega)
        have hJ2 := hJ.same hC2
        obtain ⟨ad, had, hsub⟩ := sub38 g0 0 8192 8192 to (by omega)
        have hcp := copy_know W2 g0 m hJ2.know to (rdN m A n) wa n wc hBw (by omega) ad (fun h => by rw [had h, Nat.zero_add])
        have KJ : Hid (Hk w.heap.size (W2.setRow g0 (rowOf 8192 (layN m to (rdN m A n)))) B M g0 f' (layN m to (rdN m A n)) ∧ Chg w (W2.setRow g0 (rowOf 8192 (layN m to (rdN m A n)))) (fun _ => False)) :=
          ⟨(hJ2.lay to (rdN m A n) (by rw [rdN_len]; omega)).done, hJ2.chgRow (hC1.trans hC2 (fun _ _ h => h)) _⟩
        obtain ⟨W3, hW3⟩ : ∃ W3, W3 = W2.setRow g0 (rowOf 8192 (layN m to (rdN m A n))) := ⟨_, rfl⟩
        rw [← hW3] at KJ hcp
        clear hMc hJ hC1 hsl hC2 hJ2 hBw had hW3 hCo
        go_wp2_with (at_builtin; refine wpList_append_run _ rfl (.tmp 182) (.tmp 188) 38 38 rfl _ _ (.slice wa n wc) W2 rfl rfl hap ?_)
        exact ⟨⟨j + 1, f', _, by omega, by go_num, KJ.out.1, KJ.out.2⟩, by simp [intOf]; omega⟩
    · have hx : (j < len ∧ 60 ≤ j) ∨ len ≤ j := by omega
      clear hlt hK hC
      have hR1 := read_ok wr B M 3 f m KR.out.1.isM 0 8192 (by omega)
      rcases hx with ⟨hx1, hx2⟩ | hx1
      all_goals
        as_aux_lemma =>
          go_wp2_with fail
          go_at_call 18
          refine hR1.mono ?_
          rintro e wa ⟨g1, rfl, hg1, hb1, hCa⟩
          have hKa := KR.out.1.same hCa
          have hR2 := read_ok wa B M 3 f m hKa.isM 8192 4096 (by omega)
          have KA : Hid (Hk w.heap.size wa B M g0 f m ∧ Chg w wa (fun _ => False) ∧ wa.heap[g1]? = some (.cells (bv (rdN m 0 8192)).toArray 5 (0, 0))) := ⟨hKa, KR.out.2.trans hCa (fun _ _ h => h), hb1⟩
          clear hKa hCa hb1 hg1
          go_wp2_with fail
          go_at_call 18
          refine hR2.mono ?_
          rintro e wb ⟨g2, rfl, hg2, hb2, hCb⟩
          have hKb := KA.out.1.same hCb
          have hb1 := hCb.heap KA.out.2.2 (fun h => h)
          have hB1 : Bs wb (some ⟨g1, 0, none⟩) 8192 (rdN m 0 8192) := ⟨rdN_len _ _ _, rdN_byte hKb.isM.byte _ _, .inr ⟨g1, 0, rfl, fun i hi => by rw [Nat.zero_add]; exact (row_cell hb1 i (by rw [rdN_len]; exact hi)).1⟩⟩
          have hB0 : Bs wb (some ⟨g0, 0, none⟩) 8192 (rdN m 0 8192) := ⟨rdN_len _ _ _, rdN_byte hKb.isM.byte _ _, .inr ⟨g0, 0, rfl, fun i hi => by
            have hk := hKb.know
            rw [← rowOf_rd] at hk
            rw [Nat.zero_add]; exact (row_cell hk i (by rw [rdN_len]; exact hi)).1⟩⟩
          have hSa := same_yes wb (some ⟨g1, 0, none⟩) (some ⟨g0, 0, none⟩) 8192 8192 8192 (rdN m 0 8192) hB1 hB0 (by omega)
          have KC : Hid (Hk w.heap.size wb B M g0 f m ∧ Chg w wb (fun _ => False) ∧ wb.heap[g2]? = some (.cells (bv (rdN m 8192 4096)).toArray 5 (0, 0))) := ⟨hKb, KA.out.2.1.trans hCb (fun _ _ h => h), hb2⟩
          clear hKb hb1 hB1 hB0 hb2 hCb hg2 hR1 hR2
          go_wp2_with (go_at_call 19; refine hSa.mono ?_; rintro e wc ⟨rfl, rfl⟩)
          go_loop [22] (fun i => ∃ t : Nat, t ≤ 4096 ∧ i = .int .i64 t) (fun i => 4096 - (intOf i).toNat)
          case atStart => exact ⟨0, by omega, rfl⟩
          case round =>
            obtain ⟨t, ht, rfl⟩ := hrel
            by_cases htl : t < 4096
            · have ct := (row_cell KC.out.2.2 t (by rw [rdN_len]; exact htl)).1
              have e0 : (rdN m 8192 4096).getD t 0 = 0 := by
                have : m (8192 + t) = 0 := KC.out.1.zero _ (by omega)
                simp [rdN, List.getD_eq_getElem?_getD, htl, this]
              rw [e0] at ct
              have ct2 : wc.cell? ⟨g2, t, none⟩ = some (.int .u8 0) := ct
              clear ct e0
              go_wp2
              go_round
              case rel => exact ⟨t + 1, by omega, by go_num⟩
              case measure => simp [intOf]; omega
            · go_wp2
              go_loop [23] (fun i => ∃ x : Nat, x ≤ 8192 ∧ x % 4 = 0 ∧ i = .int .i64 x) (fun i => 8192 - (intOf i).toNat)
              case atStart => exact ⟨0, by omega, rfl, rfl⟩
              case round =>
                obtain ⟨x, hx8, hx4, rfl⟩ := hrel
                by_cases hxl : x < 8192
                · have hI := KC.out.1.isM
                  have hL4 := load_ok wc B M 3 f m hI x 4 (by omega) (by omega) (by omega)
                  have hL2 := load_ok wc B M 3 f m hI x 2 (by omega) (by omega) (by omega)
                  have hL2b : Calls Try.prog 13 #[.pointer (some ⟨B, 0, none⟩), .int .u32 ((x : Int) + 2), .int .i64 2] wc _ := load_ok wc B M 3 f m hI (x + 2) 2 (by omega) (by omega) (by omega)
                  have hL1 : Calls Try.prog 13 #[.pointer (some ⟨B, 0, none⟩), .int .u32 ((x : Int) + 3), .int .i64 1] wc _ := load_ok wc B M 3 f m hI (x + 3) 1 (by omega) (by omega) (by omega)
                  rw [ldN_four] at hL4
                  rw [ldN_two] at hL2 hL2b
                  rw [ldN_one] at hL1
                  have hcl : ∀ q, q < 4 → wc.cell? ⟨g0, x + q, none⟩ = some (.int .u8 (m (x + q) : Nat)) := fun q hq => by
                    rw [(cells_at KC.out.1.know (x + q)).1, rowOf_get _ _ _ (by omega)]
                  have z0 := hcl 0 (by omega)
                  have z1 := hcl 1 (by omega)
                  have z2 := hcl 2 (by omega)
                  have z3 := hcl 3 (by omega)
                  have hb := hI.byte
                  have m0 := hb x
                  have m1 := hb (x + 1)
                  have m2 := hb (x + 2)
                  have m3 := hb (x + 3)
                  rw [show x + 2 + 1 = x + 3 by omega] at hL2b
                  rw [Nat.add_zero] at z0
                  generalize m x = y0 at hL4 hL2 z0 m0
                  generalize m (x + 1) = y1 at hL4 hL2 z1 m1
                  generalize m (x + 2) = y2 at hL4 hL2b z2 m2
                  generalize m (x + 3) = y3 at hL4 hL2b hL1 z3 m3
                  obtain ⟨d1, d2, d3, d4, d5⟩ := ld_two y0 y1 y2 y3 m0 m1 m2 m3
                  have vl : y0 + 256 * y1 + 65536 * y2 + 16777216 * y3 < 4294967296 := by omega
                  generalize y0 + 256 * y1 + 65536 * y2 + 16777216 * y3 = V at hL4 d2 d3 d4 d5 vl
                  generalize 65536 * (y2 + 256 * y3) = H6 at d1 d2
                  generalize y0 + 256 * y1 = Lo at hL2 d2
                  generalize y2 + 256 * y3 = Hi at hL2b d1
                  clear hcl hI hb
                  go_wp2_with fail
                  go_at_call 13
                  refine hL4.mono ?_
                  rintro e wd ⟨rfl, rfl⟩
                  go_wp2_with fail
                  go_at_call 13
                  refine hL2.mono ?_
                  rintro e wd ⟨rfl, rfl⟩
                  go_wp2_with fail
                  go_at_call 13
                  refine hL2b.mono ?_
                  rintro e wd ⟨rfl, rfl⟩
                  go_wp2_with fail
                  go_at_call 13
                  refine hL1.mono ?_
                  rintro e wd ⟨rfl, rfl⟩
                  go_wp2
                  exact ⟨⟨x + 4, by omega, by omega, by go_num⟩, by simp [intOf]; omega⟩
                · go_wp2
                  go_ret
                  exact ⟨rfl, KC.out.2.1.below (Nat.le_refl _) (fun _ _ h => h)⟩
end Go.Proofs.Ytggjfbfilidgoaa
