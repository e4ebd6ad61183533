import Derived.Test.YthgpcmickgcdhaaCg
namespace Go.Proofs.Ythgpcmickgcdhaa
open Go.ChangeShapes Go.WideShapes Go.ChangeAt Go.RowKit
set_option linter.unusedVariables false
theorem makeMap75 (w : World) : (Instr.makeMap 75 none).run Try.prog w = .ok (.map (some w.heap.size)) (w.alloc (.map #[] 0)) := by
  first | kernel_rfl | rfl
set_option maxHeartbeats 8000000 in
set_option maxRecDepth 10000 in
theorem declared_any (w : World) (A : CfA) (g : Cf) (h : IsC w A g) :
    Calls Try.prog 28 #[.agg (cfC A g).toArray] w fun e w' => ∃ M, e = .returned (.map (some M)) ∧ DcI w w' M A g (Dx g) 100000 := by
  have HC : Hid (IsC w A g) := h
  have l31 := size31 A g
  have hU31 := Try.underlying31
  have hU46 := Try.underlying46
  have hU33 := Try.underlying33
  have l46 : (Try.prog.info? 46).map (·.size) = some 3 := by kernel_rfl
  have l33 : (Try.prog.info? 33).map (·.size) = some 6 := by kernel_rfl
  have g0 : (w.alloc (.cells (cfC A g).toArray 31)).heap[w.heap.size]? = some (.cells (cfC A g).toArray 31 (0, 0)) := heap_alloc_new w _
  have k0 : Kp w (w.alloc (.cells (cfC A g).toArray 31)) := (Chg.refl _ _).alloc _
  obtain ⟨w1, hw1⟩ : ∃ w1, w1 = w.alloc (.cells (cfC A g).toArray 31) := ⟨_, rfl⟩
  rw [← hw1] at g0 k0
  have hs1 : w1.heap.size = w.heap.size + 1 := by rw [hw1]; simp
  have HW : Hid (w1 = w.alloc (.cells (cfC A g).toArray 31)) := hw1
  have hmk := makeMap75 w1
  obtain ⟨w2, hw2⟩ : ∃ w2, w2 = w1.alloc (.map #[] 0) := ⟨_, rfl⟩
  rw [← hw2] at hmk
  have HI0 : Hid (DcI w w2 w1.heap.size A g (fS g.n (g.S.take 0)) 0) := by
    refine ⟨?_, ⟨0, Nat.le_refl _, ?_⟩, ?_, by omega⟩
    · rw [hw2]; exact al_old _ g0
    · rw [hw2]; exact (EM.made w1).ext (fun x _ => by simp [fS])
    · rw [hw2]; exact k0.alloc _
  have c10 : w2.cell? ⟨w.heap.size, 10, none⟩ = some (.slice A.ps g.S.length A.cs) := by rw [(cells_at HI0.out.box 10).1]; rfl
  generalize w1.heap.size = M at hmk HI0
  clear hw1 hw2 g0 k0 hs1 h
  obtain ⟨LC, hLC⟩ : ∃ LC, LC = (cfC A g).toArray := ⟨_, rfl⟩
  rw [← hLC] at HW ⊢
  have HLC : Hid (LC = (cfC A g).toArray) := hLC
  clear hLC
  go_enter Try.func28, Try.ntmps28
  go_upto_region 1 with (refine wpList_box_run rfl 31 (.tmp 0) rfl LC rfl ?_; simp only [Act.put, List.setIfInBounds_toArray, List.set_cons_zero, List.set_cons_succ])
  rw [← HW.out]
  go_wp2_with fail
  clear c10 hmk
  go_loopw [14, 5, 7, 21] (fun s14 s5 s7 s21 wr => ∃ i : Nat, s14 = .int .i64 i ∧ i ≤ g.S.length ∧ Hid (DcI w wr M A g (fS g.n (g.S.take i)) (cnS (g.S.take i)))) (fun s14 _ _ _ _ => g.S.length - nI s14)
  case atStart => exact ⟨0, rfl, by omega, HI0⟩
  case round =>
    obtain ⟨i, rfl, hi, HI⟩ := hrel
    clear HI0
    by_cases hlt : i < g.S.length
    · have hiz : (i : Int) < (g.S.length : Int) := by omega
      rcases HC.out.sam with e | ⟨b, o, hps, hx⟩
      · rw [e] at hlt; simp at hlt
      · obtain ⟨z, vr, hr, hrd⟩ := hx i hlt
        obtain ⟨ar, capr, hvr, hcr⟩ := hrd.ex
        have r1 := range_kp hr HI.out.kp
        rw [hvr] at r1
        have HCR : Hid (g.S[i].r = [] ∨ ∃ b o, ar = some ⟨b, o, none⟩ ∧ ∀ j (h : j < g.S[i].r.length), w.cell? ⟨b, o + j, none⟩ = some (.int .i64 g.S[i].r[j])) := hcr
        have hfs := fS_step g.n g.S i hlt
        have hcn := cnS_step g.S i hlt
        have hle := cnS_le g.S (i + 1)
        have hbd := HC.out.bd
        have hbs := HC.out.bs
        have HS : Hid ((∀ x, fS g.n (g.S.take (i + 1)) x = (fS g.n (g.S.take i) x || fR g.n g.S[i] g.S[i].r.length x)) ∧ cnS (g.S.take (i + 1)) = cnS (g.S.take i) + g.S[i].r.length ∧ cnS (g.S.take i) + g.S[i].r.length ≤ 1000000) := ⟨hfs, hcn, by unfold cnS at hle hcn ⊢; omega⟩
        clear hfs hcn hle hbd hvr hcr hrd hr hx
        obtain ⟨sv, hsv⟩ : ∃ sv, sv = g.S[i] := ⟨_, rfl⟩
        rw [← hsv] at r1 HCR HS
        clear hsv
        obtain ⟨sw, sr⟩ := sv
        simp only at r1 HCR HS
        rw [hps] at *
        obtain ⟨w3, hw3⟩ : ∃ w3, w3 = wr.alloc (.cells #[.int .i64 sw, .int .i64 z, .slice ar sr.length capr] 46) := ⟨_, rfl⟩
        have k3 : Kp wr w3 := by rw [hw3]; exact (Chg.refl _ _).alloc _
        have g3 : w3.heap[wr.heap.size]? = some (.cells #[.int .i64 sw, .int .i64 z, .slice ar sr.length capr] 46 (0, 0)) := by rw [hw3]; exact heap_alloc_new wr _
        have HW3 : Hid (w3 = wr.alloc (.cells #[.int .i64 sw, .int .i64 z, .slice ar sr.length capr] 46)) := hw3
        clear hw3
        have HJ0 : Hid (DcI w w3 M A g (fun x => fS g.n (g.S.take i) x || fR g.n ⟨sw, sr⟩ 0 x) (cnS (g.S.take i) + 0) ∧ Kp wr w3) := ⟨(HI.out.keep k3).ext (fun x _ => by rw [fR_zero]; simp) (by omega), k3⟩
        have hbx : wr.heap.size ≠ M := by obtain ⟨cnt, _, hm⟩ := HI.out.map; have := hm.lt; omega
        have c32 : w3.cell? ⟨wr.heap.size, 2, none⟩ = some (.slice ar sr.length capr) := by rw [(cells_at g3 2).1]; rfl
        have HG : Hid (w3.heap[wr.heap.size]? = some (.cells #[.int .i64 sw, .int .i64 z, .slice ar sr.length capr] 46 (0, 0)) ∧ wr.heap.size ≠ M) := ⟨g3, hbx⟩
        clear g3 hbx k3
        go_upto_region 5 with (first | (refine wpList_load_mid rfl 46 (.tmp 16) rfl b (o + i * 3) rfl _ _ r1 hU46 rfl l46 ?_; simp only [Act.put, List.setIfInBounds_toArray, List.set_cons_zero, List.set_cons_succ]) | fail)
        rw [← HW3.out]
        have HB : Hid (∃ X, DcI w X M A g (fun x => fS g.n (g.S.take i) x || fR g.n ⟨sw, sr⟩ 0 x) (cnS (g.S.take i) + 0) ∧ X.heap[wr.heap.size]? = some (.cells #[.int .i64 sw, .int .i64 z, .slice ar sr.length capr] 46 (0, 0)) ∧ wr.heap.size ≠ M ∧ X = w3) := ⟨w3, HJ0.out.1, HG.out.1, HG.out.2, rfl⟩
        clear HJ0 HG HW3 HI r1
        generalize wr.heap.size = eb at *
        go_wp2_with fail
        clear c32
        obtain ⟨X, hX1, hX2, hX3, hX4⟩ := HB.out
        subst hX4
        have HK0 : Hid (DcI w X M A g (fun x => fS g.n (g.S.take i) x || fR g.n ⟨sw, sr⟩ 0 x) (cnS (g.S.take i) + 0) ∧ X.heap[eb]? = some (.cells #[.int .i64 sw, .int .i64 z, .slice ar sr.length capr] 46 (0, 0)) ∧ eb ≠ M) := ⟨hX1, hX2, hX3⟩
        clear HB hX1 hX2 hX3
        go_loopw [21, 7] (fun s21 s7 wr => ∃ k : Nat, s21 = .int .i64 k ∧ k ≤ sr.length ∧ Hid (DcI w wr M A g (fun x => fS g.n (g.S.take i) x || fR g.n ⟨sw, sr⟩ k x) (cnS (g.S.take i) + k) ∧ wr.heap[eb]? = some (.cells #[.int .i64 sw, .int .i64 z, .slice ar sr.length capr] 46 (0, 0)) ∧ eb ≠ M)) (fun s21 _ _ => sr.length - nI s21)
        case atStart => exact ⟨0, rfl, by omega, HK0⟩
        case round =>
          obtain ⟨k, rfl, hk, HK⟩ := hrel
          clear HK0
          have hkb : sr.length ≤ 1000000 := by have := HS.out.2.2; omega
          by_cases hkt : k < sr.length
          · have hkz : (k : Int) < (sr.length : Int) := by omega
            rcases HCR.out with e | ⟨br, or, rfl, hcc⟩
            · rw [e] at hkt; simp at hkt
            · have ck := HK.out.1.kp.cell (hcc k hkt)
              have hst := fR_step g.n ⟨sw, sr⟩ k hkt
              simp only at hst
              obtain ⟨cnt, hc1, hm⟩ := HK.out.1.map
              have hn := HC.out.n
              have hA := add_any wr A g M cnt _ hm (by have := HS.out.2.2; omega) sw sr[k] hn
              have HST : Hid (∀ x, fR g.n ⟨sw, sr⟩ (k + 1) x = (fR g.n ⟨sw, sr⟩ k x || onE g.n sw sr[k] x)) := hst
              generalize sr[k] = rk at *
              rw [← HLC.out] at hA
              have ce : wr.cell? ⟨eb, 0, none⟩ = some (.int .i64 sw) := by rw [(cells_at HK.out.2.1 0).1]; rfl
              have rb := cfRange HK.out.1.box
              have hLA : cfC A g = LC.toList := by rw [HLC.out]
              rw [hLA] at rb l31
              have HCN : Hid (cnt ≤ cnS (g.S.take i) + k) := hc1
              clear hcc hm hst hn hc1 hLA
              go_wp2_with (first | (refine wpList_load_mid rfl 31 (.tmp 1) rfl w.heap.size 0 rfl LC.toList _ rb hU31 rfl l31 ?_; simp only [Act.put, List.setIfInBounds_toArray, List.set_cons_zero, List.set_cons_succ, Array.toArray_toList]) | fail)
              go_at_call 42
              refine hA.mono ?_
              rintro e w5 ⟨rfl, ⟨cnt', hc', hm'⟩, ch'⟩
              have HN : Hid (DcI w w5 M A g (fun x => fS g.n (g.S.take i) x || fR g.n ⟨sw, sr⟩ (k + 1) x) (cnS (g.S.take i) + (k + 1)) ∧ w5.heap[eb]? = some (.cells #[.int .i64 sw, .int .i64 z, .slice (some ⟨br, or, none⟩) sr.length capr] 46 (0, 0)) ∧ eb ≠ M) := by
                obtain ⟨d1, d2, d3⟩ := HK.out
                refine ⟨?_, ch'.heap d2 (fun e => d3 e), d3⟩
                have := d1.next (Kp.refl _) ⟨cnt', by have := HCN.out; omega, hm'⟩ ch'
                refine this.ext (fun x _ => ?_) (by omega)
                rw [HST.out x, Bool.or_assoc]
              clear hA hm' ch' hc' HK
              go_wp2_with fail
              exact ⟨⟨k + 1, by go_num, by omega, HN⟩, by simp [nI]; omega⟩
          · have hkz : ¬ (k : Int) < (sr.length : Int) := by omega
            obtain rfl : k = sr.length := by omega
            have HN : Hid (DcI w wr M A g (fS g.n (g.S.take (i + 1))) (cnS (g.S.take (i + 1)))) := by
              refine HK.out.1.ext (fun x _ => ?_) (by rw [HS.out.2.1]; exact Nat.le_refl _)
              rw [HS.out.1 x]
            clear HK
            go_wp2_with fail
            exact ⟨⟨i + 1, by go_num, by omega, HN⟩, by simp [nI]; omega⟩
    · have hiz : ¬ (i : Int) < (g.S.length : Int) := by omega
      obtain rfl : i = g.S.length := by omega
      have HJ0 : Hid (DcI w wr M A g (fun x => fS g.n g.S x || fQ g.n (g.Q.take 0) x) (cnS g.S + 2 * 0)) := by
        have := HI.out
        rw [List.take_length] at this
        exact this.ext (fun x _ => by simp [fQ]) (by omega)
      have c11 : wr.cell? ⟨w.heap.size, 11, none⟩ = some (.slice A.pq g.Q.length A.cq) := by rw [(cells_at HI.out.box 11).1]; rfl
      clear HI
      go_wp2_with fail
      clear c11
      go_loopw [36, 9] (fun s36 s9 wr => ∃ i : Nat, s36 = .int .i64 i ∧ i ≤ g.Q.length ∧ Hid (DcI w wr M A g (fun x => fS g.n g.S x || fQ g.n (g.Q.take i) x) (cnS g.S + 2 * i))) (fun s36 _ _ => g.Q.length - nI s36)
      case atStart => exact ⟨0, rfl, by omega, HJ0⟩
      case round =>
        obtain ⟨i, rfl, hi2, HI⟩ := hrel
        clear HJ0
        have hqb : g.Q.length ≤ 1000000 := by have := HC.out.bd; omega
        by_cases hlt2 : i < g.Q.length
        · have hiz : (i : Int) < (g.Q.length : Int) := by omega
          rcases HC.out.que with e | ⟨b, o, hpq, hx⟩
          · rw [e] at hlt2; simp at hlt2
          · obtain ⟨x2, x3, x4, hr⟩ := hx i hlt2
            have r1 := range_kp hr HI.out.kp
            have hfq := fQ_step g.n g.Q i hlt2
            have hbd := HC.out.bd
            have hn := HC.out.n
            have HS : Hid ((∀ x, fQ g.n (g.Q.take (i + 1)) x = (fQ g.n (g.Q.take i) x || (onE g.n g.Q[i].w g.Q[i].r x || (g.Q[i].f && onE g.n g.Q[i].r g.Q[i].w x)))) ∧ cnS g.S + 2 * (i + 1) ≤ 1000000) := ⟨hfq, by unfold cnS; omega⟩
            clear hfq hbd hr hx
            obtain ⟨qv, hqv⟩ : ∃ qv, qv = g.Q[i] := ⟨_, rfl⟩
            rw [← hqv] at r1 HS
            clear hqv
            obtain ⟨qw, qr, qf⟩ := qv
            simp only at r1 HS
            rw [hpq] at *
            obtain ⟨w3, hw3⟩ : ∃ w3, w3 = wr.alloc (.cells #[.int .i64 qw, .int .i64 qr, .int .i64 x2, .int .i64 x3, .int .i64 x4, .bool qf] 33) := ⟨_, rfl⟩
            have k3 : Kp wr w3 := by rw [hw3]; exact (Chg.refl _ _).alloc _
            have g3 : w3.heap[wr.heap.size]? = some (.cells #[.int .i64 qw, .int .i64 qr, .int .i64 x2, .int .i64 x3, .int .i64 x4, .bool qf] 33 (0, 0)) := by rw [hw3]; exact heap_alloc_new wr _
            have HW3 : Hid (w3 = wr.alloc (.cells #[.int .i64 qw, .int .i64 qr, .int .i64 x2, .int .i64 x3, .int .i64 x4, .bool qf] 33)) := hw3
            clear hw3
            have D3 := HI.out.keep k3
            have hbx : wr.heap.size ≠ M := by obtain ⟨cnt, _, hm⟩ := HI.out.map; have := hm.lt; omega
            obtain ⟨cnt, hc1, hm⟩ := D3.map
            have hA := add_any w3 A g M cnt _ hm (by have := HS.out.2; omega) qw qr hn
            rw [← HLC.out] at hA
            have rb := cfRange D3.box
            have hLA : cfC A g = LC.toList := by rw [HLC.out]
            rw [hLA] at rb l31
            have c30 : w3.cell? ⟨wr.heap.size, 0, none⟩ = some (.int .i64 qw) := by rw [(cells_at g3 0).1]; rfl
            have c31 : w3.cell? ⟨wr.heap.size, 1, none⟩ = some (.int .i64 qr) := by rw [(cells_at g3 1).1]; rfl
            have HG : Hid (w3.heap[wr.heap.size]? = some (.cells #[.int .i64 qw, .int .i64 qr, .int .i64 x2, .int .i64 x3, .int .i64 x4, .bool qf] 33 (0, 0)) ∧ wr.heap.size ≠ M ∧ DcI w w3 M A g (fun x => fS g.n g.S x || fQ g.n (g.Q.take i) x) (cnS g.S + 2 * i) ∧ cnt ≤ cnS g.S + 2 * i) := ⟨g3, hbx, D3, hc1⟩
            clear g3 hbx k3 D3 hm hc1 HI
            go_upto_region 14 with (first | (refine wpList_load_mid rfl 33 (.tmp 38) rfl b (o + i * 6) rfl _ _ r1 hU33 rfl l33 ?_; simp only [Act.put, List.setIfInBounds_toArray, List.set_cons_zero, List.set_cons_succ]) | fail)
            rw [← HW3.out]
            clear r1 HW3
            generalize wr.heap.size = eb at *
            go_wp2_with (first | (refine wpList_load_mid rfl 31 (.tmp 1) rfl w.heap.size 0 rfl LC.toList _ rb hU31 rfl l31 ?_; simp only [Act.put, List.setIfInBounds_toArray, List.set_cons_zero, List.set_cons_succ, Array.toArray_toList]) | fail)
            go_at_call 42
            refine hA.mono ?_
            rintro e w5 ⟨rfl, ⟨cnt', hc', hm'⟩, ch'⟩
            have D5 : DcI w w5 M A g (fun x => (fS g.n g.S x || fQ g.n (g.Q.take i) x) || onE g.n qw qr x) (cnS g.S + 2 * i + 1) := HG.out.2.2.1.next (Kp.refl _) ⟨cnt', by have := HG.out.2.2.2; omega, hm'⟩ ch'
            have g5 := ch'.heap HG.out.1 (fun e => HG.out.2.1 e)
            have c55 : w5.cell? ⟨eb, 5, none⟩ = some (.bool qf) := by rw [(cells_at g5 5).1]; rfl
            have c50 : w5.cell? ⟨eb, 0, none⟩ = some (.int .i64 qw) := by rw [(cells_at g5 0).1]; rfl
            have c51 : w5.cell? ⟨eb, 1, none⟩ = some (.int .i64 qr) := by rw [(cells_at g5 1).1]; rfl
            obtain ⟨cnt5, hc5, hm5⟩ := D5.map
            have hB := add_any w5 A g M cnt5 _ hm5 (by have := HS.out.2; omega) qr qw hn
            rw [← HLC.out] at hB
            have rb5 := cfRange D5.box
            rw [hLA] at rb5
            have HD5 : Hid (DcI w w5 M A g (fun x => (fS g.n g.S x || fQ g.n (g.Q.take i) x) || onE g.n qw qr x) (cnS g.S + 2 * i + 1) ∧ cnt5 ≤ cnS g.S + 2 * i + 1) := ⟨D5, hc5⟩
            clear hA hm' ch' hc' HG D5 g5 hm5 hc5 c30 c31 rb
            cases qf with
            | false =>
              have HN : Hid (DcI w w5 M A g (fun x => fS g.n g.S x || fQ g.n (g.Q.take (i + 1)) x) (cnS g.S + 2 * (i + 1))) := by
                refine HD5.out.1.ext (fun x _ => ?_) (by omega)
                rw [HS.out.1 x]; simp [Bool.or_assoc]
              clear HD5 HS hB
              go_wp2_with fail
              exact ⟨⟨i + 1, by go_num, by omega, HN⟩, by simp [nI]; omega⟩
            | true =>
              go_wp2_with (first | (refine wpList_load_mid rfl 31 (.tmp 1) rfl w.heap.size 0 rfl LC.toList _ rb5 hU31 rfl l31 ?_; simp only [Act.put, List.setIfInBounds_toArray, List.set_cons_zero, List.set_cons_succ, Array.toArray_toList]) | fail)
              go_at_call 42
              refine hB.mono ?_
              rintro e w6 ⟨rfl, ⟨cnt', hc', hm'⟩, ch'⟩
              have HN : Hid (DcI w w6 M A g (fun x => fS g.n g.S x || fQ g.n (g.Q.take (i + 1)) x) (cnS g.S + 2 * (i + 1))) := by
                have := HD5.out.1.next (Kp.refl _) ⟨cnt', by have := HD5.out.2; omega, hm'⟩ ch'
                refine this.ext (fun x _ => ?_) (by omega)
                rw [HS.out.1 x]; simp [Bool.or_assoc]
              clear HD5 HS hB hm' ch' hc'
              go_wp2_with fail
              exact ⟨⟨i + 1, by go_num, by omega, HN⟩, by simp [nI]; omega⟩
        · have hiz : ¬ (i : Int) < (g.Q.length : Int) := by omega
          obtain rfl : i = g.Q.length := by omega
          go_wp2_with fail
          go_ret
          refine ⟨M, rfl, ?_⟩
          have := HI.out
          rw [List.take_length] at this
          exact this.ext (fun x _ => rfl) (by have := HC.out.bd; unfold cnS; omega)
end Go.Proofs.Ythgpcmickgcdhaa
