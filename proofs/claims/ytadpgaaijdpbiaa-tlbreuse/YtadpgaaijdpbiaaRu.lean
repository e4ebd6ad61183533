import Derived.Test.YtadpgaaijdpbiaaSc
import Derived.Test.YtadpgaaijdpbiaaLq
namespace Go.Proofs.Ytadpgaaijdpbiaa
open Go.ChangeShapes Go.WideShapes Go.ChangeAt Go.RowKit Go.Shelf
set_option linter.unusedVariables false

theorem RInv.all {h : List (Int × Int × Int)} {n : Nat} {s : Sta} {pu : Bool} (hi : RInv h n s pu) (hok : s.Ok n) {u : Int × Int × Int} (hu : u.2.2 = 1) : RInv (u :: h) n (s.drop (fun _ => true)) false :=
  hi.drop _ (fun x _ _ => g1 x u h [] hu) (fun x hp => by cases hp) hok (fun x A hA => by rw [g1 x u h [] hu] at hA; cases hA)
theorem RInv.cell {h : List (Int × Int × Int)} {n : Nat} {s : Sta} {pu : Bool} (hi : RInv h n s pu) (hok : s.Ok n) {u : Int × Int × Int} (hu : u.2.2 = 2) (Z : Nat → Int) (hZ : Z 0 = (uTag u).1) : RInv (u :: h) n (s.drop (ofCells Z 1)) false := by
  have hp : ∀ x : Tg, ofCells Z 1 x = decide ((uTag u).1 = x.1) := fun x => by
    simp [ofCells, hasInt, hZ]
  refine hi.drop _ (fun x _ hx => ?_) (fun x hx => ?_) hok (fun x A hA => ?_)
  · rw [hp] at hx
    rw [g2 x u h [] hu, if_pos (of_decide_eq_true hx)]
  · rw [hp] at hx
    rw [g2 x u h [] hu, if_neg (of_decide_eq_false hx)]
  · rw [hp]
    rw [g2 x u h [] hu] at hA
    by_cases e : (uTag u).1 = x.1
    · rw [if_pos e] at hA; cases hA
    · exact decide_eq_false e
theorem RInv.one {h : List (Int × Int × Int)} {n : Nat} {s : Sta} {pu : Bool} (hi : RInv h n s pu) (hok : s.Ok n) {u : Int × Int × Int} (hu : u.2.2 = 3) : RInv (u :: h) n (s.drop (isTag (uTag u))) false := by
  refine hi.drop _ (fun x _ hx => ?_) (fun x hx => ?_) hok (fun x A hA => ?_)
  · rw [g3 x u h [] hu, if_pos (of_decide_eq_true hx).symm]
  · rw [g3 x u h [] hu, if_neg (fun e => of_decide_eq_false hx e.symm)]
  · rw [g3 x u h [] hu] at hA
    by_cases e : uTag u = x
    · rw [if_pos e] at hA; cases hA
    · exact decide_eq_false (fun e' => e e'.symm)
theorem Fr.same {w W W' : World} {B M : Nat} {v v' : Value} {n k k' : Nat} {s s' : Sta} (h : Fr w W B M v n k s) (hT : IsT W' B M v' n k' s') (hv : v'.ownBlock = v.ownBlock) (hC : Chg W W' (Ft B M v)) : Fr w W' B M v' n k' s' := h.step hT hC (.inl hv)

theorem sliceAt41 (x : Value) (lo hi mx : Option Value) (w : World) : (Instr.sliceAt 41 x lo hi mx).run Try.prog w = (Instr.slice 41 x lo hi mx).run Try.prog w := by
  simp [Instr.sliceAt, run_underlying Try.underlying41]

set_option maxHeartbeats 4000000 in
set_option maxRecDepth 100000 in
theorem reuse_walk (w : World) (slots : Int) (a : Option Addr) (len cap : Nat) (F : Nat → Int × Int × Int) (hU : UsesIn w a len cap F) (i0 : InI slots) :
    Calls Try.prog 5 #[.int .i64 slots, .slice a len cap] w fun e w' => e = .returned (.bool true) ∧ Below w.heap.size w w' := by
  have P1 : ∀ w, Calls Try.prog 10 #[.int .i64 slots, .int .i64 64] w fun e w' => e = .returned (.int .i64 (pk slots 64 : Nat)) ∧ w' = w := fun w => pick_any w slots 64 (by omega) (by omega) i0
  have l1 := pk_lt slots 64 (by omega)
  generalize pk slots 64 = n0 at P1 l1
  obtain ⟨n, hn⟩ : ∃ n, n = 1 + n0 := ⟨_, rfl⟩
  have e1 : (1 : Int) + (n0 : Int) = (n : Int) := by omega
  have hn1 : 1 ≤ n := by omega
  have hn64 : n ≤ 64 := by omega
  have hN : ∀ w, Calls Try.prog 11 #[.int .i64 (n : Int)] w _ := fun w => New_any w n hn1 hn64
  have KU : Hid (UsesIn w a len cap F) := hU
  have hlen := hU.le
  clear hU i0 hn l1
  go_enter Try.func5, Try.ntmps5
  go_wp2_with fail
  go_at_call 9
  refine (works_any w).mono ?_
  rintro e w1 ⟨rfl, hk1⟩
  go_wp2_with fail
  go_at_call 10
  refine (P1 _).mono ?_
  rintro e w2 ⟨rfl, rfl⟩
  have w11 : IntKind.i64.wrap (1 + (n0 : Int)) = (n : Int) := by rw [e1]; simp [IntKind.wrap, IntKind.bits, IntKind.signed]; omega
  clear P1 e1
  have HK1 : Hid (Kp w w2) := hk1
  clear hk1
  go_wp2_with fail
  go_at_call 11
  refine (hN _).mono ?_
  rintro e W1 ⟨rfl, hT1, hk2⟩
  obtain ⟨B, hB⟩ : ∃ B, B = w2.heap.size + 1 := ⟨_, rfl⟩
  obtain ⟨M, hM⟩ : ∃ M, M = w2.heap.size := ⟨_, rfl⟩
  rw [← hB, ← hM] at hT1
  have hs := HK1.out.size
  have KF : Hid (Fr w W1 B M (.slice none 0 0) n 0 Sta.none) := ⟨hT1, Kp.trans HK1.out hk2, fun i hi => by
    rcases hi with h | h | h
    · omega
    · omega
    · cases h⟩
  clear hT1 hk2 hM hN hs HK1 w11
  go_wp2_with fail
  rw [← hB]
  clear hB
  go_loopw [9, 10] (fun s9 s10 wr => ∃ (pu : Bool) (v : Value) (s : Sta) (k j : Nat), s9 = .bool pu ∧ s10 = .int .i64 j ∧ j ≤ len ∧ j ≤ 300 ∧ k ≤ j ∧ Hid (Fr w wr B M v n k s ∧ RInv (hst F j) n s pu)) (fun _ s10 _ => 300 - (intOf s10).toNat)
  case atStart => exact ⟨true, .slice none 0 0, Sta.none, 0, 0, rfl, rfl, by omega, by omega, by omega, ⟨KF.out, RInv.start n hn1⟩⟩
  case round =>
    obtain ⟨pu, v, s, k, j, rfl, rfl, hjl, hj3, hkj, HI⟩ := hrel
    clear KF
    by_cases hj : j < len ∧ j < 300
    · obtain ⟨hj1, hj2⟩ := hj
      have hz1 : (j : Int) < (len : Int) := by omega
      have hz2 : (j : Int) < 300 := by omega
      obtain ⟨b0, off0, hab, hb0, hcells⟩ := (KU.out.kept HI.out.1.kp).src.resolve_left (by omega)
      subst hab
      have huo := KU.out.ok j hj1
      obtain ⟨u0, u1, u2⟩ := hcells j hj1
      obtain ⟨t, ht⟩ : ∃ t, t = uTag (F j) := ⟨_, rfl⟩
      obtain ⟨f, hf⟩ : ∃ f, f = (F j).2.2 := ⟨_, rfl⟩
      obtain ⟨Wa, hWa⟩ : ∃ W, W = wr.alloc (.cells #[.int .i64 (F j).1, .int .i64 (F j).2.1, .int .i64 f] 44) := ⟨_, rfl⟩
      obtain ⟨b11, hb11⟩ : ∃ b, b = wr.heap.size := ⟨_, rfl⟩
      have hka : Kp wr Wa := by rw [hWa]; exact (Chg.refl wr _).alloc _
      have hxa : Wa.heap[b11]? = some (.cells #[.int .i64 (F j).1, .int .i64 (F j).2.1, .int .i64 f] 44 (0, 0)) := by rw [hWa, hb11]; exact heap_alloc_new wr _
      have hTag := tag_any Wa (F j) huo
      rw [← ht] at hTag
      rw [← hf] at u2
      unfold uV tV at hTag
      rw [← hf] at hTag
      have HG : Hid (t = uTag (F j) ∧ f = (F j).2.2 ∧ Kp wr Wa ∧ Wa.heap[b11]? = some (.cells #[.int .i64 (F j).1, .int .i64 (F j).2.1, .int .i64 f] 44 (0, 0)) ∧ b11 = wr.heap.size) := ⟨ht, hf, hka, hxa, hb11⟩
      obtain ⟨e0, e1, e2, _⟩ := cells3 hxa
      rw [hWa] at hTag
      clear hcells hf ht huo hka hxa hb0
      generalize hy0 : (F j).1 = y0 at *
      generalize hy1 : (F j).2.1 = y1 at *
      clear hy0 hy1
      go_wp2_with fail
      go_at_call 15
      refine hTag.mono ?_
      rintro e W2 ⟨rfl, hk2⟩
      rw [← hWa] at hk2
      clear hTag u0 u1 u2 hWa e0 e1 e2
      obtain ⟨g1', g2', g3', g4', g5'⟩ := HG.out
      obtain ⟨W3, hW3⟩ : ∃ W, W = W2.alloc (.cells #[.int .i64 t.1, .int .u32 ((t.2 : Nat) : Int)] 31) := ⟨_, rfl⟩
      obtain ⟨b12, hb12⟩ : ∃ b, b = W2.heap.size := ⟨_, rfl⟩
      have hk3 : Kp wr W3 := Kp.trans (Kp.trans g3' hk2) (by rw [hW3]; exact (Chg.refl W2 _).alloc _)
      have hx12 : W3.heap[b12]? = some (.cells #[.int .i64 t.1, .int .u32 ((t.2 : Nat) : Int)] 31 (0, 0)) := by rw [hW3, hb12]; exact heap_alloc_new W2 _
      have hx11 : W3.heap[b11]? = some (.cells #[.int .i64 y0, .int .i64 y1, .int .i64 f] 44 (0, 0)) := Kp.heap (Kp.trans hk2 (by rw [hW3]; exact (Chg.refl W2 _).alloc _)) g4'
      obtain ⟨e0, e1, e2, _⟩ := cells3 hx11
      obtain ⟨d0, d1, _, _⟩ := cells2 hx12
      have HJ : Hid (Fr w W3 B M v n k s ∧ RInv (hst F j) n s pu ∧ t = uTag (F j) ∧ f = (F j).2.2 ∧ W3.heap[b12]? = some (.cells #[.int .i64 t.1, .int .u32 ((t.2 : Nat) : Int)] 31 (0, 0)) ∧ ¬ Ft B M v b12) :=
        ⟨HI.out.1.later hk3, HI.out.2, g1', g2', hx12, fun h => by
          have h1 := HI.out.1.t.lt h
          have h2 := (Kp.trans g3' hk2).size
          omega⟩
      clear g1' g2' g3' g4' g5' hk3 hx12 hx11 hk2 HG HI
      rw [hW3, hb11] at e2
      go_upto_region 13 with fail
      rw [← hW3, ← hb12]
      clear hW3 hb12 e0 e1 e2
      clear hb11
      by_cases f1 : f = 1
      · subst f1
        have hF := Flush_any W3 B M v n k s HJ.out.1.t
        generalize ((s.l.length : Nat) : Int) - (((s.drop (fun _ => true)).l.length : Nat) : Int) = r at hF
        go_wp2_with fail
        go_at_call 16
        refine hF.mono ?_
        rintro e W4 ⟨rfl, v4, hT4, hv4, hC4⟩
        have KI : Hid (Fr w W4 B M v4 n k (s.drop (fun _ => true)) ∧ RInv (hst F (j + 1)) n (s.drop (fun _ => true)) false) := ⟨HJ.out.1.same hT4 hv4 hC4, HJ.out.2.1.all HJ.out.1.t.ok HJ.out.2.2.2.1.symm⟩
        clear hF hT4 hv4 hC4 HJ
        go_wp2
        exact ⟨⟨false, v4, _, k, j + 1, rfl, by go_num, by omega, by omega, by omega, KI⟩, by simp [intOf]; omega⟩
      · have f1' : (f == 1) = false := by simp [f1]
        by_cases f2 : f = 2
        · subst f2
          have hkS : Kp W3 (W3.alloc (.cells #[.int .i64 t.1] 3)) := (Chg.refl W3 _).alloc _
          have hF := FlushCell_any (W3.alloc (.cells #[.int .i64 t.1] 3)) B M v n k s (HJ.out.1.t.kp hkS) (some ⟨W3.heap.size, 0, none⟩) 1 1 (fun _ => t.1) ⟨.inr ⟨_, _, rfl, by simp, fun i hi => by
            rw [(cells_at (heap_alloc_new W3 _) _).1]
            have : i = 0 := by omega
            subst this; rfl⟩, by omega⟩ (fun x hx => by
            cases hx
            exact fun h => Nat.lt_irrefl _ (HJ.out.1.t.lt h))
          generalize ((s.l.length : Nat) : Int) - (((s.drop (ofCells (fun _ => t.1) 1)).l.length : Nat) : Int) = r at hF
          go_wp2_with fail
          go_at_call 17
          refine hF.mono ?_
          rintro e W4 ⟨rfl, v4, hT4, hv4, hC4⟩
          have KI : Hid (Fr w W4 B M v4 n k (s.drop (ofCells (fun _ => t.1) 1)) ∧ RInv (hst F (j + 1)) n (s.drop (ofCells (fun _ => t.1) 1)) false) := ⟨(HJ.out.1.later hkS).same hT4 hv4 hC4, HJ.out.2.1.cell HJ.out.1.t.ok HJ.out.2.2.2.1.symm _ (by rw [HJ.out.2.2.1])⟩
          clear hF hT4 hv4 hC4 HJ hkS
          go_wp2
          exact ⟨⟨false, v4, _, k, j + 1, rfl, by go_num, by omega, by omega, by omega, KI⟩, by simp [intOf]; omega⟩
        · have f2' : (f == 2) = false := by simp [f2]
          by_cases f3 : f = 3
          · subst f3
            have hF := Drop_any W3 B M v n k s HJ.out.1.t t
            generalize decide (t ∈ s.l) = r at hF
            unfold tV at hF
            go_wp2_with fail
            go_at_call 18
            refine hF.mono ?_
            rintro e W4 ⟨rfl, v4, hT4, hv4, hC4⟩
            have KI : Hid (Fr w W4 B M v4 n k (s.drop (isTag t)) ∧ RInv (hst F (j + 1)) n (s.drop (isTag t)) false) := ⟨HJ.out.1.same hT4 hv4 hC4, by rw [HJ.out.2.2.1]; exact HJ.out.2.1.one HJ.out.1.t.ok HJ.out.2.2.2.1.symm⟩
            clear hF hT4 hv4 hC4 HJ
            go_wp2
            exact ⟨⟨false, v4, _, k, j + 1, rfl, by go_num, by omega, by omega, by omega, KI⟩, by simp [intOf]; omega⟩
          · have f3' : (f == 3) = false := by simp [f3]
            have HU : Hid (isUse (F j)) := ⟨by rw [← HJ.out.2.2.2.1]; exact f1, by rw [← HJ.out.2.2.2.1]; exact f2, by rw [← HJ.out.2.2.2.1]; exact f3⟩
            clear f1 f2 f3
            obtain ⟨us, hus⟩ : ∃ us, us = (sinceG t (hst F j) []).isSome := ⟨_, rfl⟩
            obtain ⟨o, ho⟩ : ∃ o, o = ((sinceG t (hst F j) []).getD []).length := ⟨_, rfl⟩
            have hjc : j ≤ cap := by have := KU.out.lc; omega
            have hSc := since_any W3.drew (some ⟨b0, off0, none⟩) j cap F ((KU.out.kept (Chg.drew HJ.out.1.kp)).cut j (by omega)) t (by omega) us o hus ho
            have htk : TOk t := by rw [HJ.out.2.2.1]; exact uTag_ok _
            have hAsk := HJ.out.2.1.asks HJ.out.1.t.ok htk us o hus ho
            have HAsk : Hid ((s.f t).isSome = true → us = true ∧ s.f t = some (uval t)) := hAsk.1
            have HAsk2 : Hid ((us = true → o < n → (s.f t).isSome = true) ∧ (pu = true → (s.f t).isSome = (us && decide (o < n)))) := hAsk.2
            have HTk : Hid (TOk t ∧ 1 ≤ t.1 ∧ t.1 ≤ 4 ∧ t.2 < 200) := ⟨htk, by
              have h1 := pk_lt (F j).1 4 (by omega)
              have h2 := pk_lt (F j).2.1 200 (by omega)
              rw [HJ.out.2.2.1]; unfold uTag; simp; omega⟩
            have hS1 : Sy b12 t W3.drew := ⟨d0, d1⟩
            clear hAsk hus ho htk
            unfold tV at hSc
            go_wp2_with fail
            refine wp_region_held_drew (S := Sy b12 t) hmx hS1 (fun hS => ?_)
            refine wpAnyH_take (i := 0) (oi := { dst := some 71, op := Op.move (Operand.tmp 1), type := 41, pos := "law.go:354", after := #[], guard := none }) (v := .slice (some ⟨b0, off0, none⟩) len cap) rfl (by kernel_rfl) (by kernel_rfl) (by kernel_rfl) (fun _ _ _ h => h) (Or.inl ⟨by rfl, ?_⟩) hS ?_
            · rintro wx ⟨c0, c1⟩
              go_simp
            simp only [Act.put, List.setIfInBounds_toArray, List.set_cons_zero, List.set_cons_succ]
            refine wpAnyH_take (i := 1) (oi := { dst := some 72, op := Op.move (Operand.tmp 10), type := 3, pos := "law.go:354", after := #[], guard := none }) (v := .int .i64 (j : Int)) rfl (by kernel_rfl) (by kernel_rfl) (by kernel_rfl) (fun _ _ _ h => h) (Or.inl ⟨by rfl, ?_⟩) hS ?_
            · rintro wx ⟨c0, c1⟩
              go_simp
            simp only [Act.put, List.setIfInBounds_toArray, List.set_cons_zero, List.set_cons_succ]
            refine wpAnyH_take (i := 2) (oi := { dst := some 73, op := Op.slice 41 (Operand.tmp 71) none (some (Operand.tmp 72)) none, type := 41, pos := "law.go:354", after := #[{ on := 0, ground := Ground.data }, { on := 1, ground := Ground.data }], guard := none }) (v := .slice (some ⟨b0, off0, none⟩) j cap) rfl (by kernel_rfl) (by kernel_rfl) (by kernel_rfl) (fun _ _ _ h => h) (Or.inl ⟨by rfl, ?_⟩) hS ?_
            · rintro wx ⟨c0, c1⟩
              refine exec_slice rfl ?_
              show (Instr.sliceAt 41 (.slice (some ⟨b0, off0, none⟩) len cap) none (some (.int .i64 (j : Int))) none).run Try.prog wx = _
              exact (sliceAt41 _ _ _ _ _).trans (subh41 _ len cap j hjc wx)
            simp only [Act.put, List.setIfInBounds_toArray, List.set_cons_zero, List.set_cons_succ]
            refine wpAnyH_take (i := 3) (oi := { dst := some 74, op := Op.load 31 (Operand.tmp 12), type := 31, pos := "law.go:354", after := #[], guard := none }) (v := .agg #[.int .i64 t.1, .int .u32 ((t.2 : Nat) : Int)]) rfl (by kernel_rfl) (by kernel_rfl) (by kernel_rfl) (fun _ _ _ h => h) (Or.inl ⟨by rfl, ?_⟩) hS ?_
            · rintro wx ⟨c0, c1⟩
              go_simp
            simp only [Act.put, List.setIfInBounds_toArray, List.set_cons_zero, List.set_cons_succ]
            refine wpAnyH_ready (rs := [4]) (by kernel_rfl) (by simp) ?_
            refine AllReadyH.cons (o := { dst := some 75, op := Op.call { callee := Callee.value (Operand.func 19), args := #[Operand.tmp 73, Operand.tmp 74], argTypes := #[41, 31] }, type := 49, pos := "law.go:354", after := #[{ on := 2, ground := Ground.data }, { on := 3, ground := Ground.data }], guard := none }) rfl (fun K hK => ?_) AllReadyH.nil
            rw [if_pos (by rfl)]
            go_simp
            refine hSc.mono ?_
            rintro e W5 ⟨rfl, hk5⟩
            have hk5' : Kp W3 W5 := ⟨hk5.os, hk5.tape, hk5.output, hk5.size, hk5.block⟩
            have hx5 := hk5'.heap HJ.out.2.2.2.2.1
            have hS5 : Sy b12 t W5 := ⟨(cells2 hx5).1, (cells2 hx5).2.1⟩
            have hF5 := HJ.out.1.later hk5'
            have HX : Hid (Fr w W5 B M v n k s ∧ RInv (hst F j) n s pu ∧ t = uTag (F j) ∧ W5.heap[b12]? = some (.cells #[.int .i64 t.1, .int .u32 ((t.2 : Nat) : Int)] 31 (0, 0)) ∧ ¬ Ft B M v b12) := ⟨hF5, HJ.out.2.1, HJ.out.2.2.1, hx5, HJ.out.2.2.2.2.2⟩
            clear hk5 hk5' hF5 hSc
            refine hK.out _ _ hS5 (fun hS2 => ?_)
            clear hK K
            refine wpAnyH_take (i := 5) (oi := { dst := some 70, op := Op.move (Operand.tmp 75), type := 49, pos := "law.go:354", after := #[{ on := 4, ground := Ground.data }], guard := none }) (v := .tuple #[.bool us, .int .i64 ((o : Nat) : Int)]) rfl (by kernel_rfl) (by kernel_rfl) (by kernel_rfl) (fun _ _ _ h => h) (Or.inl ⟨by rfl, ?_⟩) hS2 ?_
            · rintro wx ⟨c0, c1⟩
              go_simp
            simp only [Act.put, List.setIfInBounds_toArray, List.set_cons_zero, List.set_cons_succ]
            refine wpAnyH_take (i := 6) (oi := { dst := some 76, op := Op.extract (Operand.tmp 70) 0, type := 4, pos := "law.go:354", after := #[{ on := 5, ground := Ground.data }], guard := none }) (v := .bool us) rfl (by kernel_rfl) (by kernel_rfl) (by kernel_rfl) (fun _ _ _ h => h) (Or.inl ⟨by rfl, ?_⟩) hS2 ?_
            · rintro wx ⟨c0, c1⟩
              go_simp
            simp only [Act.put, List.setIfInBounds_toArray, List.set_cons_zero, List.set_cons_succ]
            refine wpAnyH_take (i := 7) (oi := { dst := some 77, op := Op.extract (Operand.tmp 70) 1, type := 3, pos := "law.go:354", after := #[{ on := 5, ground := Ground.data }, { on := 8, ground := Ground.gcOnly Departure.lateStores }], guard := none }) (v := .int .i64 ((o : Nat) : Int)) rfl (by kernel_rfl) (by kernel_rfl) (by kernel_rfl) (fun _ _ _ h => h) (Or.inl ⟨by rfl, ?_⟩) hS2 ?_
            · rintro wx ⟨c0, c1⟩
              go_simp
            simp only [Act.put, List.setIfInBounds_toArray, List.set_cons_zero, List.set_cons_succ]
            refine wpAnyH_take (i := 8) (oi := { dst := some 13, op := Op.assign (Operand.tmp 76), type := 4, pos := "law.go:354", after := #[{ on := 6, ground := Ground.data }, { on := 4, ground := Ground.chain }, { on := 0, ground := Ground.phase }, { on := 1, ground := Ground.phase }, { on := 2, ground := Ground.phase }, { on := 3, ground := Ground.phase }, { on := 4, ground := Ground.phase }, { on := 5, ground := Ground.phase }, { on := 6, ground := Ground.phase }, { on := 7, ground := Ground.textOnly Departure.lateStores }], guard := none }) (v := .bool us) rfl (by kernel_rfl) (by kernel_rfl) (by kernel_rfl) (fun _ _ _ h => h) (Or.inl ⟨by rfl, ?_⟩) hS2 ?_
            · rintro wx ⟨c0, c1⟩
              go_simp
            simp only [Act.put, List.setIfInBounds_toArray, List.set_cons_zero, List.set_cons_succ]
            refine wpAnyH_take (i := 9) (oi := { dst := some 14, op := Op.assign (Operand.tmp 77), type := 3, pos := "law.go:354", after := #[{ on := 7, ground := Ground.data }, { on := 8, ground := Ground.chain }, { on := 0, ground := Ground.phase }, { on := 1, ground := Ground.phase }, { on := 2, ground := Ground.phase }, { on := 3, ground := Ground.phase }, { on := 4, ground := Ground.phase }, { on := 5, ground := Ground.phase }, { on := 6, ground := Ground.phase }, { on := 7, ground := Ground.phase }, { on := 8, ground := Ground.phase }], guard := none }) (v := .int .i64 ((o : Nat) : Int)) rfl (by kernel_rfl) (by kernel_rfl) (by kernel_rfl) (fun _ _ _ h => h) (Or.inl ⟨by rfl, ?_⟩) hS2 ?_
            · rintro wx ⟨c0, c1⟩
              go_simp
            simp only [Act.put, List.setIfInBounds_toArray, List.set_cons_zero, List.set_cons_succ]
            refine wpAnyH_done (by kernel_rfl) ?_ _
            clear hS hS2 hS1 d0 d1 HJ
            obtain ⟨d0, d1, _, _⟩ := cells2 hx5
            clear hx5 hS5
            have hK := Look_any W5 B M v n k s HX.out.1.t t HTk.out.1
            obtain ⟨is, his⟩ : ∃ is, is = (s.f t).isSome := ⟨_, rfl⟩
            obtain ⟨mp, hmp⟩ : ∃ mp : Mp, mp = (s.f t).getD m0 := ⟨_, rfl⟩
            rw [← his, ← hmp] at hK
            have HA1 : Hid (is = true → us = true ∧ mp = uval t) := fun h => by
              obtain ⟨q1, q2⟩ := HAsk.out (by rw [← his]; exact h)
              exact ⟨q1, by rw [hmp, q2]; rfl⟩
            have HA2 : Hid ((us = true → o < n → is = true) ∧ (pu = true → is = (us && decide (o < n)))) := by rw [his]; exact HAsk2.out
            have HA3 : Hid (is = (s.f t).isSome) := his
            clear HAsk HAsk2 his hmp
            unfold tV mV at hK
            go_wp2_with fail
            go_at_call 13
            refine hK.mono ?_
            rintro e W6 ⟨rfl, v6, hT6, hC6, hL6⟩
            obtain ⟨x1, x2, x3, x4, x5⟩ := HX.out
            obtain ⟨b15, hb15⟩ : ∃ b, b = W6.heap.size := ⟨_, rfl⟩
            obtain ⟨W7, hW7⟩ : ∃ W, W = W6.alloc (.cells #[.int .u32 ((mp.1 : Nat) : Int), .int .u8 ((mp.2 : Nat) : Int)] 36) := ⟨_, rfl⟩
            have hk7 : Kp W6 W7 := by rw [hW7]; exact (Chg.refl W6 _).alloc _
            have hx15 : W7.heap[b15]? = some (.cells #[.int .u32 ((mp.1 : Nat) : Int), .int .u8 ((mp.2 : Nat) : Int)] 36 (0, 0)) := by rw [hW7, hb15]; exact heap_alloc_new W6 _
            have hF7 := (x1.step hT6 hC6 hL6).later hk7
            have hx7 := hk7.heap (Chg.heap hC6 x4 x5)
            have hn7 : ¬ Ft B M v6 b12 := fun h => by
              have hb12 : b12 < W5.heap.size := (Array.getElem?_eq_some_iff.1 x4).1
              rcases h with h | h | h
              · exact x5 (.inl h)
              · exact x5 (.inr (.inl h))
              · rcases hL6 with e | ⟨i, hi, his⟩
                · exact x5 (.inr (.inr (by rw [← e, h])))
                · rw [hi] at h; cases h; omega
            have HY : Hid (Fr w W7 B M v6 n k (s.look t) ∧ RInv (hst F j) n s pu ∧ t = uTag (F j) ∧ W7.heap[b12]? = some (.cells #[.int .i64 t.1, .int .u32 ((t.2 : Nat) : Int)] 31 (0, 0)) ∧ ¬ Ft B M v6 b12 ∧ s.Ok n) := ⟨hF7, x2, x3, hx7, hn7, x1.t.ok⟩
            obtain ⟨m0', m1', _, _⟩ := cells2 hx15
            clear x1 x2 x3 x4 x5 hk7 hF7 hn7 hT6 hC6 hL6 hK HX d0 d1 hx15
            obtain ⟨d0, d1, _, _⟩ := cells2 hx7
            clear hx7
            obtain ⟨fr, hfr⟩ : ∃ fr : Nat, fr = t.2 + 1000 * t.1.toNat := ⟨_, rfl⟩
            have w1 : IntKind.i64.wrap (1000 * t.1) = 1000 * t.1 := by have := HTk.out; simp [IntKind.wrap, IntKind.bits, IntKind.signed]; omega
            have w2' : IntKind.u32.wrap (1000 * t.1) = 1000 * t.1 := by have := HTk.out; simp [IntKind.wrap, IntKind.bits, IntKind.signed]; omega
            have w3 : IntKind.u32.wrap ((t.2 : Int) + 1000 * t.1) = (fr : Int) := by have := HTk.out; simp [IntKind.wrap, IntKind.bits, IntKind.signed]; omega
            have HFr : Hid (fr = t.2 + 1000 * t.1.toNat) := hfr
            have hfr32 : fr < 4294967296 := by have := HTk.out; omega
            clear hfr
            go_upto_region 24 with fail
            rw [← hW7, ← hb15]
            clear hW7 hb15
            go_cut [100] from 36 to 140 (fun s100 wx => s100 = .bool false ∧ wx = W7)
            case first =>
              cases is with
              | false =>
                go_wp2_with fail
                go_meet
                case rel => exact ⟨rfl, rfl⟩
              | true =>
                obtain ⟨q1, q2⟩ := HA1.out rfl
                subst q1
                have e1 : mp.1 = fr := by rw [q2, HFr.out]; rfl
                rw [e1] at m0'
                have hne : ((fr : Int) != (fr : Int)) = false := by simp
                clear q2 e1
                go_wp2_with fail
                go_meet
                case rel => exact ⟨rfl, rfl⟩
            case rest =>
              obtain ⟨rfl, rfl⟩ := hcut
              go_upto_region 26 with fail
              go_cut [123] from 36 to 140 (fun s123 wx => s123 = .bool false ∧ wx = wc)
              case first =>
                obtain ⟨a1, a2⟩ := HA2.out
                by_cases hon : o < n
                · have hz3 : (o : Int) < (n : Int) := by omega
                  rw [decide_eq_true hon, Bool.and_true] at a2
                  cases us with
                  | true =>
                    have hi : is = true := a1 rfl hon
                    subst hi
                    clear a1 a2
                    cases pu <;>
                    · go_wp2_with fail
                      go_meet
                      case rel => exact ⟨rfl, rfl⟩
                  | false =>
                    cases is with
                    | true => have := (HA1.out rfl).1; cases this
                    | false =>
                      clear a1 a2
                      cases pu <;>
                      · go_wp2_with fail
                        go_meet
                        case rel => exact ⟨rfl, rfl⟩
                · have hz3 : ¬ (o : Int) < (n : Int) := by omega
                  rw [decide_eq_false hon, Bool.and_false] at a2
                  cases pu with
                  | true =>
                    have hi : is = false := a2 rfl
                    subst hi
                    clear a1 a2
                    cases us <;>
                    · go_wp2_with fail
                      go_meet
                      case rel => exact ⟨rfl, rfl⟩
                  | false =>
                    clear a1 a2
                    cases us <;> cases is <;>
                    · go_wp2_with fail
                      go_meet
                      case rel => exact ⟨rfl, rfl⟩
              case rest =>
                obtain ⟨rfl, rfl⟩ := hcut
                go_upto_if 125 with fail
                go_cut [] from 36 to 140 (fun wx => ∃ (v' : Value) (k' : Nat) (s' : Sta), k' ≤ k + 1 ∧ Hid (Fr w wx B M v' n k' s' ∧ RInv (hst F (j + 1)) n s' pu))
                case first =>
                  obtain ⟨y1, y2, y3, y4, y5, y6⟩ := HY.out
                  cases is with
                  | true =>
                    have hin : uTag (F j) ∈ s.l := by rw [← y3]; exact (y6.mem t HTk.out.1).2 HA3.out.symm
                    have KX : Hid (Fr w wc B M v6 n k (s.look t) ∧ RInv (hst F (j + 1)) n (s.look t) pu) := ⟨y1, by rw [y3]; exact y2.found y6 HU.out hin⟩
                    clear y1 y2 y3 y4 y5 y6 hin HY
                    go_wp2_with fail
                    go_meet
                    case rel => exact ⟨_, _, _, by omega, KX⟩
                  | false =>
                    have hout : uTag (F j) ∉ s.l := fun h => by
                      have := (y6.mem t HTk.out.1).1 (by rw [y3]; exact h)
                      rw [← HA3.out] at this; cases this
                    have hlk : s.look t = s := by unfold Sta.look; rw [← HA3.out]; rfl
                    rw [hlk] at y1
                    have hP := Put_any wc B M v6 n k s y1.t t HTk.out.1 (fr, 0) (by unfold MOk; simp; omega) (by omega)
                    have HZ : Hid (Fr w wc B M v6 n k s ∧ RInv (hst F (j + 1)) n (s.put n t (fr, 0)) pu) := ⟨y1, by
                      have hv : uval t = (fr, 0) := by rw [HFr.out]; rfl
                      rw [← hv, y3]
                      exact y2.fresh y6 hn1 HU.out hout⟩
                    clear y1 y2 y3 y4 y5 y6 hout hlk HY
                    unfold tV mV at hP
                    go_wp2_with fail
                    go_at_call 12
                    refine hP.mono ?_
                    rintro e W8 ⟨rfl, v8, hT8, hC8, hL8⟩
                    have KX : Hid (Fr w W8 B M v8 n (k + 1) (s.put n t (fr, 0)) ∧ RInv (hst F (j + 1)) n (s.put n t (fr, 0)) pu) := ⟨HZ.out.1.step hT8 hC8 hL8, HZ.out.2⟩
                    clear hT8 hC8 hL8 hP HZ
                    go_wp2_with fail
                    go_meet
                    case rel => exact ⟨_, _, _, by omega, KX⟩
                case rest =>
                  obtain ⟨v8, k8, s8, hk8, KX⟩ := hcut
                  have hLn := Len_any wc B _ _ v8 _ KX.out.1.t.box KX.out.1.t.ord
                  have hln := KX.out.1.t.ok.len
                  have hlz : ¬ (n : Int) < ((s8.l.length : Nat) : Int) := by omega
                  generalize s8.l.length = ln at *
                  clear HY d0 d1 m0' m1'
                  go_wp2_with (go_at_call 14; refine hLn.mono ?_; rintro e w9 ⟨rfl, rfl⟩)
                  exact ⟨⟨pu, v8, s8, k8, j + 1, rfl, by go_num, by omega, by omega, by omega, KX⟩, by simp [intOf]; omega⟩
    · by_cases hj1 : j < len
      · have hz1 : (j : Int) < (len : Int) := by omega
        have hz2 : ¬ (j : Int) < 300 := by omega
        have HK : Hid (Kp w wr) := HI.out.1.kp
        clear hj
        go_wp2
        go_ret
        exact ⟨rfl, HK.out.below (Nat.le_refl _) (fun _ _ h => h)⟩
      · have hz1 : ¬ (j : Int) < (len : Int) := by omega
        have HK : Hid (Kp w wr) := HI.out.1.kp
        clear hj
        go_wp2
        go_ret
        exact ⟨rfl, HK.out.below (Nat.le_refl _) (fun _ _ h => h)⟩
end Go.Proofs.Ytadpgaaijdpbiaa
