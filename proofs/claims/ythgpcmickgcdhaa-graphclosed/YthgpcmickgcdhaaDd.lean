import Derived.Test.YthgpcmickgcdhaaDf
namespace Go.Proofs.Ythgpcmickgcdhaa
open Go.ChangeShapes Go.WideShapes Go.ChangeAt Go.RowKit
set_option linter.unusedVariables false
theorem build51 (w : World) : (Instr.build 51 #[]).run Try.prog w = .ok (.agg #[.int .i64 0, .int .u32 0, .int .i64 0, .int .i64 0, .int .i64 0, .int .i64 0, .int .i64 0, .int .u64 0, .slice none 0 0, .slice none 0 0, .slice none 0 0, .slice none 0 0, .slice none 0 0, .slice none 0 0, .slice none 0 0, .slice none 0 0]) w := by
  first | kernel_rfl | rfl
/-- The copy, as it was made: marks behind its lists. -/
structure LoE (w w' : World) (X : Nat) (p : Inp) (pg mj : Int) : Prop where
  ex : ∃ w1 wb rv cv sv qv sm rows gc cpc gs cps gq cpq, Kp w w1 ∧ LnI w1 wb X rv cv sv qv (min p.nc 40 + 8) (clF p (min p.nc 40) ++ mC 8) (sm ++ mS 8) rows (min p.nq 100 + 8) (qlF p (min p.nq 100) ++ mQ 8) ∧ SmOk p (min p.ns 100) sm ∧
    cv = .slice (some ⟨gc, 0, none⟩) (min p.nc 40 + 8) cpc ∧ sv = .slice (some ⟨gs, 0, none⟩) (min p.ns 100 + 8) cps ∧ qv = .slice (some ⟨gq, 0, none⟩) (min p.nq 100 + 8) cpq ∧ Chg wb w' (fun k => k = X) ∧
    w'.heap[X]? = some (.cells #[.int .i64 pg, .int .u32 0, .int .i64 0, .int .i64 0, .int .i64 0, .int .i64 0, .int .i64 0, .int .u64 mj, .slice (some ⟨gc, 0, none⟩) (min p.nc 40) cpc, .slice none 0 0, .slice (some ⟨gs, 0, none⟩) (min p.ns 100) cps, .slice (some ⟨gq, 0, none⟩) (min p.nq 100) cpq, rv, cv, sv, qv] 51 (0, 0))
set_option maxHeartbeats 32000000 in
set_option maxRecDepth 100000 in
theorem loan_any (w : World) (p : Inp) (h : IsIn w p) (pg mj : Int) (hpg : p.A.a0 = .int .i64 pg) (hmj : p.A.a7 = .int .u64 mj) :
    Calls Try.prog 11 #[.agg (inV p).toArray] w fun e w' => ∃ X, e = .returned (.pointer (some ⟨X, 0, none⟩)) ∧ LoE w w' X p pg mj := by
  have g0 : (w.alloc (.cells (inV p).toArray 31)).heap[w.heap.size]? = some (.cells (inV p).toArray 31 (0, 0)) := heap_alloc_new w _
  have k0 : Kp w (w.alloc (.cells (inV p).toArray 31)) := (Chg.refl _ _).alloc _
  obtain ⟨w1, hw1⟩ : ∃ w1, w1 = w.alloc (.cells (inV p).toArray 31) := ⟨_, rfl⟩
  rw [← hw1] at g0 k0
  have HW : Hid (w1 = w.alloc (.cells (inV p).toArray 31)) := hw1
  have HIn : Hid (IsIn w1 p) := h.kp k0
  have c0 : w1.cell? ⟨w.heap.size, 0, none⟩ = some (.int .i64 pg) := by rw [(cells_at g0 0).1, ← hpg]; rfl
  have c7 : w1.cell? ⟨w.heap.size, 7, none⟩ = some (.int .u64 mj) := by rw [(cells_at g0 7).1, ← hmj]; rfl
  have c8 : w1.cell? ⟨w.heap.size, 8, none⟩ = some (.slice p.A.pc p.nc p.A.cc) := by rw [(cells_at g0 8).1]; rfl
  have c10 : w1.cell? ⟨w.heap.size, 10, none⟩ = some (.slice p.A.ps p.ns p.A.cs) := by rw [(cells_at g0 10).1]; rfl
  have c11 : w1.cell? ⟨w.heap.size, 11, none⟩ = some (.slice p.A.pq p.nq p.A.cq) := by rw [(cells_at g0 11).1]; rfl
  have HG : Hid (w1.cell? ⟨w.heap.size, 0, none⟩ = some (.int .i64 pg) ∧ w1.cell? ⟨w.heap.size, 7, none⟩ = some (.int .u64 mj) ∧ w1.cell? ⟨w.heap.size, 8, none⟩ = some (.slice p.A.pc p.nc p.A.cc) ∧ w1.cell? ⟨w.heap.size, 10, none⟩ = some (.slice p.A.ps p.ns p.A.cs) ∧ w1.cell? ⟨w.heap.size, 11, none⟩ = some (.slice p.A.pq p.nq p.A.cq)) := ⟨c0, c7, c8, c10, c11⟩
  have hb51 := build51 w1
  have HK : Hid (Kp w w1) := k0
  have HI0 : Hid (LnI w1 (w1.alloc (.cells #[.int .i64 0, .int .u32 0, .int .i64 0, .int .i64 0, .int .i64 0, .int .i64 0, .int .i64 0, .int .u64 0, .slice none 0 0, .slice none 0 0, .slice none 0 0, .slice none 0 0, .slice none 0 0, .slice none 0 0, .slice none 0 0, .slice none 0 0] 51)) w1.heap.size (.slice none 0 0) (.slice none 0 0) (.slice none 0 0) (.slice none 0 0) 0 (clF p 0) [] [] 0 (qlF p 0)) := by
    refine ⟨heap_alloc_new w1 _, ⟨rfl, .inl ⟨rfl, rfl⟩⟩, ⟨rfl, .inl ⟨rfl, rfl⟩⟩, ⟨rfl, .inl ⟨rfl, rfl⟩⟩, ⟨rfl, .inl ⟨rfl, rfl⟩⟩, fun s hs => (by cases hs), Nat.le_refl _, fun k hk => (by cases hk), fun k hk => (by cases hk), fun k hk => (by cases hk), fun k hk => (by cases hk), (Chg.refl _ _).alloc _⟩
  have hX : w.heap.size ≤ w1.heap.size := k0.size
  obtain ⟨LC, hLC⟩ : ∃ LC, LC = (inV p).toArray := ⟨_, rfl⟩
  rw [← hLC] at HW ⊢
  have HX : Hid (w.heap.size ≤ w1.heap.size) := hX
  clear hw1 g0 k0 h hLC c0 c7 c8 c10 c11 hX hpg hmj
  go_enter Try.func11, Try.ntmps11
  go_upto_region 1 with (refine wpList_box_run rfl 31 (.tmp 0) rfl LC rfl ?_; simp only [Act.put, List.setIfInBounds_toArray, List.set_cons_zero, List.set_cons_succ])
  rw [← HW.out]
  go_wp2_with (first | (refine wpList_build_run rfl 51 _ rfl #[] (by simp) _ hb51 ?_; simp only [Act.put, List.setIfInBounds_toArray, List.set_cons_zero, List.set_cons_succ]) | (refine wpList_box_run rfl 51 (.tmp 16) rfl _ rfl ?_; simp only [Act.put, List.setIfInBounds_toArray, List.set_cons_zero, List.set_cons_succ]) | fail)
  clear hb51
  generalize w1.heap.size = X at *
  generalize w.heap.size = gb at *
  go_loopw [4] (fun s4 wr => ∃ (i : Nat) (cv : Value), s4 = .int .i64 i ∧ i ≤ p.nc ∧ i ≤ 40 ∧ Hid (LnI w1 wr X (.slice none 0 0) cv (.slice none 0 0) (.slice none 0 0) i (clF p i) [] [] 0 (qlF p 0))) (fun s4 _ => 40 - nI s4)
  case atStart => exact ⟨0, _, rfl, by omega, by omega, HI0⟩
  case round =>
    obtain ⟨i, cv, rfl, hi, hi40, HI⟩ := hrel
    clear HI0
    have F := HI.out
    have e8 := F.kp.cell HG.out.2.2.1
    obtain ⟨bq, hbq⟩ : ∃ bq, bq = (decide (i < p.nc) && decide (i < 40)) := ⟨_, rfl⟩
    go_upto_region 3 with fail
    refine reg11_3 wr gb i p.nc p.A.cc p.A.pc bq hbq e8 _ ?_
    intro y22 y23 y24 y25
    cases bq with
    | true =>
      have hl12 : i < p.nc ∧ i < 40 := by simpa using hbq.symm
      obtain ⟨hl1, hl2⟩ := hl12
      clear hbq
      have hiz : (i : Int) < (p.nc : Int) := by omega
      rcases HIn.out.cel with e | ⟨b, o, hpc, hx⟩
      · omega
      · obtain ⟨h1, h2⟩ := hx i hl1 hl2
        have d1 := F.kp.cell h1
        have d2 := F.kp.cell h2
        have kd : Kp wr wr.drew := Chg.drew (Chg.refl _ _)
        have Fd := F.keep0 kd
        obtain ⟨v', wa, hrun, ho, hch, hL, g, nn, cc, hv⟩ := appC wr.drew cv i (clF p i) [.string (p.cs i), .int .u32 (p.ce i), .slice none 0 0, .slice none 0 0] Fd.oc rfl (fun u hu => by simp at hu; rcases hu with rfl | rfl | rfl | rfl <;> rfl) (by omega)
        have hN := Fd.appC _ ho hch hL
        rw [← clF_step] at hN
        have kc : Chg wa (wa.setCell ⟨X, 13, none⟩ v') (fun k => k = X) := Chg.setCell (S := fun k => k = X) (Chg.refl wa _) (.inl rfl) _
        have hXb : ∀ k, cv.ownBlock = some k → k ≠ X := fun k hk => ne_ty (own_ty F.oc hk) ⟨_, F.box⟩ (by decide)
        have hlo : ∀ k, k < w1.heap.size → ¬ cv.ownBlock = some k := fun k hk e => by have := F.nc k e; omega
        have hXs := F.nX
        have bl8 : gb < w1.heap.size := lt_of_cell HG.out.2.2.1
        have bl1 : b < w1.heap.size := lt_of_cell h1
        have hch' : Chg wr wa (fun i => cv.ownBlock = some i) := Chg.trans (Chg.drew (Chg.refl wr _)) hch (fun _ _ e => e)
        have A1 := hch'.cell' (hlo _ bl8) e8
        have A2 := hch'.cell' (hlo _ bl1) d1
        have A3 := hch'.cell' (hlo _ bl1) d2
        have gXa : wa.heap[X]? = _ := hch'.heap F.box (fun e => hXb _ e rfl)
        have x13 : wr.cell? ⟨X, 13, none⟩ = some cv := by rw [(cells_at F.box 13).1]; rfl
        have x13a : wa.cell? ⟨X, 13, none⟩ = some cv := by rw [(cells_at gXa 13).1]; rfl
        have HN : Hid (LnI w1 (wa.setCell ⟨X, 13, none⟩ v') X (.slice none 0 0) v' (.slice none 0 0) (.slice none 0 0) (i + 1) (clF p (i + 1)) [] [] 0 (qlF p 0)) := hN
        rw [hpc] at e8 A1
        clear hpc
        have RG := fun Q hPan => @reg11_5 wr wa X gb g nn cc cv v' b o p.nc p.A.cc i (p.cs i) (p.ce i) ⟨e8, d1, d2⟩ x13 hiz hrun ⟨A1, A2, A3⟩ hv x13a (cells_at gXa 13).2 ⟨kc.cell' (by omega) A1, kc.cell' (by omega) A2, kc.cell' (by omega) A3⟩ Q hPan
        clear kd Fd hrun ho hch hL hN kc hXb hlo hXs bl8 bl1 hch' A1 A2 A3 gXa x13 x13a hv F h1 h2 hx d1 d2 HI
        go_upto_region 5 with fail
        refine RG _ (fun _ _ _ q _ h => by cases q <;> exact h) ?_
        clear RG
        go_wp2_with fail
        exact ⟨⟨i + 1, v', by go_num, by omega, by omega, HN⟩, by simp [nI]; omega⟩
    | false =>
      have hix : i = min p.nc 40 := by
        have : ¬ (i < p.nc ∧ i < 40) := by intro h; simp [h] at hbq
        omega
      rw [hix] at F
      have HJ0 : Hid (LnI w1 wr X (.slice none 0 0) cv (.slice none 0 0) (.slice none 0 0) (min p.nc 40) (clF p (min p.nc 40)) [] [] 0 (qlF p 0) ∧ SmOk p 0 [] ∧ ([] : List Value).length ≤ 0) := ⟨F, ⟨rfl, fun j hj => by cases hj⟩, Nat.le_refl _⟩
      clear F HI hbq hix e8 hi hi40
      generalize (Value.int .i64 (i : Int)) = yi
      go_wp2_with fail
      go_loopw [5, 6, 7, 8, 9, 10] (fun s5 s6 s7 s8 s9 s10 wr => ∃ (i : Nat) (rv sv : Value) (sm : List Sm) (rows : List Value), s5 = .int .i64 i ∧ i ≤ p.ns ∧ i ≤ 100 ∧ Hid (LnI w1 wr X rv cv sv (.slice none 0 0) (min p.nc 40) (clF p (min p.nc 40)) sm rows 0 (qlF p 0) ∧ SmOk p i sm ∧ rows.length ≤ i)) (fun s5 _ _ _ _ _ _ => 100 - nI s5)
      case atStart => exact ⟨0, _, _, _, _, rfl, by omega, by omega, HJ0⟩
      case round =>
        obtain ⟨i, rv, sv, sm, rows, rfl, hi, hi100, HI⟩ := hrel
        clear HJ0
        have F := HI.out.1
        have e10 := F.kp.cell HG.out.2.2.2.1
        obtain ⟨bq, hbq⟩ : ∃ bq, bq = (decide (i < p.ns) && decide (i < 100)) := ⟨_, rfl⟩
        go_upto_region 7 with fail
        refine reg11_7 wr gb i p.ns p.A.cs p.A.ps bq hbq e10 _ ?_
        intro y55 y56 y57 y58
        cases bq with
        | true =>
          have hl12 : i < p.ns ∧ i < 100 := by simpa using hbq.symm
          obtain ⟨hl1, hl2⟩ := hl12
          clear hbq
          have hiz : (i : Int) < (p.ns : Int) := by omega
          rcases HIn.out.sam with e | ⟨b, o, hps, hx⟩
          · omega
          · obtain ⟨hr, hrd⟩ := hx i hl1 hl2
            have r1 := range_kp hr F.kp
            obtain ⟨w3, hw3⟩ : ∃ w3, w3 = wr.alloc (.cells #[.int .i64 (p.sw i), .int .i64 (p.sz i), .slice (p.sa i) (p.sl i) (p.sc i)] 46) := ⟨_, rfl⟩
            have k3 : Kp wr w3 := by rw [hw3]; exact (Chg.refl _ _).alloc _
            have g3 : w3.heap[wr.heap.size]? = some (.cells #[.int .i64 (p.sw i), .int .i64 (p.sz i), .slice (p.sa i) (p.sl i) (p.sc i)] 46 (0, 0)) := by rw [hw3]; exact heap_alloc_new wr _
            have HW3 : Hid (w3 = wr.alloc (.cells #[.int .i64 (p.sw i), .int .i64 (p.sz i), .slice (p.sa i) (p.sl i) (p.sc i)] 46)) := hw3
            have hl46 : (Try.prog.info? 46).map (·.size) = some 3 := by kernel_rfl
            have hU46 := Try.underlying46
            have HK0 : Hid (InL w1 w3 X wr.heap.size rv cv sv (.slice none 0 0) (min p.nc 40) (clF p (min p.nc 40)) sm rows 0 (qlF p 0) [.int .i64 (p.sw i), .int .i64 (p.sz i), .slice (p.sa i) (p.sl i) (p.sc i)] (.slice none 0 0) ((rdr p i).take 0)) := ⟨F.keep0 k3, g3, OI.nil w3, fun k hk => (by cases hk), fun s hs k hk e => (by cases e), F.kp.size, fun e => by obtain ⟨cur, hc⟩ := own_ty F.os e; have := hp_lt hc; omega⟩
            have HRd : Hid (p.sl i = 0 ∨ ∃ b o, p.sa i = some ⟨b, o, none⟩ ∧ ∀ j, j < p.sl i → j < 60 → w1.cell? ⟨b, o + j, none⟩ = some (.int .i64 (p.sr i j))) := hrd
            have HSm : Hid (SmOk p i sm ∧ rows.length ≤ i) := HI.out.2
            rw [hps] at e10
            clear hps hw3 k3 g3 hr hrd hx F HI
            go_upto_region 10 with (first | (refine wpList_load_mid rfl 46 (.tmp 65) rfl b (o + i * 3) rfl _ _ r1 hU46 rfl hl46 ?_; simp only [Act.put, List.setIfInBounds_toArray, List.set_cons_zero, List.set_cons_succ]) | fail)
            rw [← HW3.out]
            clear HW3 r1 hl46 hU46
            generalize wr.heap.size = eb at *
            go_wp2_with fail
            go_loopw [7, 8] (fun s7 s8 wr => ∃ (lv : Value) (k : Nat), lv = s7 ∧ s8 = .int .i64 k ∧ k ≤ (rdr p i).length ∧ Hid (InL w1 wr X eb rv cv sv (.slice none 0 0) (min p.nc 40) (clF p (min p.nc 40)) sm rows 0 (qlF p 0) [.int .i64 (p.sw i), .int .i64 (p.sz i), .slice (p.sa i) (p.sl i) (p.sc i)] lv ((rdr p i).take k))) (fun _ s8 _ => 60 - nI s8)
            case atStart => exact ⟨_, 0, rfl, rfl, by omega, HK0⟩
            case round =>
              obtain ⟨lv, k, rfl, rfl, hk, HK⟩ := hrel
              clear HK0
              have hrl := rdr_len p i
              have I := HK.out
              have ce2 : wr.cell? ⟨eb, 2, none⟩ = some (.slice (p.sa i) (p.sl i) (p.sc i)) := by rw [(cells_at I.ebx 2).1]; rfl
              obtain ⟨bq, hbq⟩ : ∃ bq, bq = (decide (k < p.sl i) && decide (k < 60)) := ⟨_, rfl⟩
              go_upto_region 12 with fail
              refine reg11_12 wr eb k (p.sl i) (p.sc i) (p.sa i) bq hbq ce2 _ ?_
              intro y71 y72 y73 y74
              cases bq with
              | true =>
                have hl12 : k < p.sl i ∧ k < 60 := by simpa using hbq.symm
                obtain ⟨hk1, hk2⟩ := hl12
                clear hbq
                have hkz : (k : Int) < (p.sl i : Int) := by omega
                rcases HRd.out with e | ⟨br, or, hsa, hcc⟩
                · omega
                · have ck := I.F.kp.cell (hcc k hk1 hk2)
                  obtain ⟨v', wa, hrun, ho, hch, hL⟩ := app_int wr lv ((rdr p i).take k) I.own (p.sr i k) (by simp; omega)
                  have hN := I.step ho hch hL
                  rw [← rdr_take p i k (by omega)] at hN
                  have HN : Hid (InL w1 wa X eb rv cv sv (.slice none 0 0) (min p.nc 40) (clF p (min p.nc 40)) sm rows 0 (qlF p 0) [.int .i64 (p.sw i), .int .i64 (p.sz i), .slice (p.sa i) (p.sl i) (p.sc i)] v' ((rdr p i).take (k + 1))) := hN
                  rw [hsa] at ce2
                  clear hsa ho hch hL hN I HK hcc
                  go_wp2_with (at_builtin; refine wpList_append_run _ rfl (.tmp 78) (.tmp 84) 34 34 rfl _ _ v' wa rfl rfl hrun ?_)
                  exact ⟨⟨v', k + 1, rfl, by go_num, by omega, HN⟩, by simp [nI]; omega⟩
              | false =>
                have hkx : k = (rdr p i).length := by
                  have : ¬ (k < p.sl i ∧ k < 60) := by intro h; simp [h] at hbq
                  omega
                subst hkx
                rw [List.take_length] at I
                obtain ⟨al, capl, hlv⟩ := own_shape I.own
                subst hlv
                have HM0 : Hid (InL w1 wr X eb rv cv sv (.slice none 0 0) (min p.nc 40) (clF p (min p.nc 40)) sm rows 0 (qlF p 0) [.int .i64 (p.sw i), .int .i64 (p.sz i), .slice (p.sa i) (p.sl i) (p.sc i)] (.slice al (rdr p i).length capl) (rdr p i ++ List.replicate 0 71)) := by rw [List.replicate_zero, List.append_nil]; exact I
                have hr60 : (rdr p i).length ≤ 60 := by omega
                clear I HK hbq ce2 hrl hk
                generalize hrN : (rdr p i).length = rn at *
                have HRN : Hid ((rdr p i).length = rn) := hrN
                clear hrN
                go_wp2_with fail
                go_loopw [7, 10] (fun s7 s10 wr => ∃ (lv : Value) (k : Nat), lv = s7 ∧ s10 = .int .i64 k ∧ k ≤ 8 ∧ Hid (InL w1 wr X eb rv cv sv (.slice none 0 0) (min p.nc 40) (clF p (min p.nc 40)) sm rows 0 (qlF p 0) [.int .i64 (p.sw i), .int .i64 (p.sz i), .slice (p.sa i) (p.sl i) (p.sc i)] lv (rdr p i ++ List.replicate k 71))) (fun _ s10 _ => 8 - nI s10)
                case atStart => exact ⟨_, 0, rfl, rfl, by omega, HM0⟩
                case round =>
                  obtain ⟨lv, k, rfl, rfl, hk8, HM⟩ := hrel
                  clear HM0
                  by_cases hkt : k < 8
                  · have hkz : (k : Int) < 8 := by omega
                    have I := HM.out
                    obtain ⟨v', wa, hrun, ho, hch, hL⟩ := app_int wr lv _ I.own 71 (by simp [HRN.out]; omega)
                    have hN := I.step ho hch hL
                    rw [List.append_assoc, ← List.replicate_succ'] at hN
                    have HN : Hid (InL w1 wa X eb rv cv sv (.slice none 0 0) (min p.nc 40) (clF p (min p.nc 40)) sm rows 0 (qlF p 0) [.int .i64 (p.sw i), .int .i64 (p.sz i), .slice (p.sa i) (p.sl i) (p.sc i)] v' (rdr p i ++ List.replicate (k + 1) 71)) := hN
                    clear ho hch hL hN I HM
                    go_wp2_with (at_builtin; refine wpList_append_run _ rfl (.tmp 92) (.tmp 93) 34 34 rfl _ _ v' wa rfl rfl hrun ?_)
                    exact ⟨⟨v', k + 1, rfl, by go_num, by omega, HN⟩, by simp [nI]; omega⟩
                  · have hkz : ¬ (k : Int) < 8 := by omega
                    obtain rfl : k = 8 := by omega
                    have I := HM.out
                    obtain ⟨gl, cpl, hlv, hl1, hl2⟩ := own_some I.own (by simp)
                    have hll : (rdr p i ++ List.replicate 8 71).length = rn + 8 := by simp [HRN.out]
                    rw [hll] at hlv hl1
                    obtain ⟨v', wa, hrun, ho, hch, hL, gr, nr, cr, hv⟩ := appR wr rv rows.length rows lv I.F.orw (by rw [hlv]; rfl) (by have := HSm.out.2; omega)
                    have J := I.row ho hch hL
                    have J2 := J.put (.slice (some ⟨gl, 0, none⟩) rn cpl)
                    have x12 : wr.cell? ⟨X, 12, none⟩ = some rv := by rw [(cells_at I.F.box 12).1]; rfl
                    have ty : ∀ i, rv.ownBlock = some i → ∃ cur, wr.heap[i]? = some (.cells cur 34 (0, 0)) := fun i hi => own_ty I.F.orw hi
                    have gXa : wa.heap[X]? = _ := hch.heap I.F.box (fun e => ne_ty (ty _ e) ⟨_, I.F.box⟩ (by decide) rfl)
                    have x12a : wa.cell? ⟨X, 12, none⟩ = some rv := by rw [(cells_at gXa 12).1]; rfl
                    have f12a := (cells_at gXa 12).2
                    have ce2 := (cells_at J.ebx 2).1
                    have fe2 := (cells_at J.ebx 2).2
                    subst hlv
                    subst hv
                    obtain ⟨W5, hW5⟩ : ∃ W5, W5 = wa.setCell ⟨X, 12, none⟩ (.slice (some ⟨gr, 0, none⟩) nr cr) := ⟨_, rfl⟩
                    rw [← hW5] at J J2 ce2 fe2
                    have HJ : Hid (InL w1 (W5.setCell ⟨eb, 2, none⟩ (.slice (some ⟨gl, 0, none⟩) rn cpl)) X eb (.slice (some ⟨gr, 0, none⟩) nr cr) cv sv (.slice none 0 0) (min p.nc 40) (clF p (min p.nc 40)) sm (rows ++ [.slice (some ⟨gl, 0, none⟩) (rn + 8) cpl]) 0 (qlF p 0) [.int .i64 (p.sw i), .int .i64 (p.sz i), .slice (some ⟨gl, 0, none⟩) rn cpl] (.slice (some ⟨gl, 0, none⟩) (rn + 8) cpl) (rdr p i ++ List.replicate 8 71)) := J2
                    clear J J2 ho hch hL ty gXa I HM hll
                    simp only [List.getElem?_toArray, List.getElem?_cons_succ, List.getElem?_cons_zero] at ce2
                    have hrz : rn ≤ cpl := by omega
                    have hrz2 : rn ≤ rn + 8 := by omega
                    obtain ⟨W6, hW6⟩ : ∃ W6, W6 = W5.setCell ⟨eb, 2, none⟩ (.slice (some ⟨gl, 0, none⟩) rn cpl) := ⟨_, rfl⟩
                    rw [← hW6] at HJ
                    have J := HJ.out
                    have kd : Kp W6 W6.drew := Chg.drew (Chg.refl _ _)
                    obtain ⟨u', wz, srun, so, sch, sL, gz, nz, cz, hu⟩ := appS W6.drew sv sm.length (flS sm) [.int .i64 (p.sw i), .int .i64 (p.sz i), .slice (some ⟨gl, 0, none⟩) rn cpl] (J.F.keep0 kd).os rfl (fun u hu => by simp at hu; rcases hu with rfl | rfl | rfl <;> rfl) (by have := HSm.out.1.1; omega)
                    have hRd : RdI W6.drew (.slice (some ⟨gl, 0, none⟩) rn cpl) (rdr p i) := by
                      have := (OI.pre J.own).kp kd
                      rw [HRN.out] at this; exact this
                    have hN := (J.F.keep0 kd).appS ⟨p.sw i, p.sz i, .slice (some ⟨gl, 0, none⟩) rn cpl, rdr p i⟩ so sch sL ⟨hRd, fun k hk => by
                      obtain rfl : gl = k := by simpa [blk] using hk
                      refine ⟨J.lnew gl rfl, ?_⟩
                      obtain ⟨cur, hc⟩ := J.own.ty (k := gl) rfl
                      exact ⟨cur, kd.heap hc⟩⟩
                    have sch' : Chg W6 wz (fun i => sv.ownBlock = some i) := Chg.trans (Chg.drew (Chg.refl W6 _)) sch (fun _ _ e => e)
                    have re : W6.rangeAt eb 0 [.int .i64 (p.sw i), .int .i64 (p.sz i), .slice (some ⟨gl, 0, none⟩) rn cpl] := fun j v hv => by
                      rw [Nat.zero_add, (cells_at J.ebx j).1, List.getElem?_toArray]; exact hv
                    have rez : wz.rangeAt eb 0 [.int .i64 (p.sw i), .int .i64 (p.sz i), .slice (some ⟨gl, 0, none⟩) rn cpl] := fun j v hv => sch'.cell' J.eb2 (re j v hv)
                    have gXz : wz.heap[X]? = _ := sch'.heap J.F.box (fun e => ne_ty (own_ty J.F.os e) ⟨_, J.F.box⟩ (by decide) rfl)
                    have kc : Chg wz (wz.setCell ⟨X, 14, none⟩ u') (fun k => k = X) := Chg.setCell (S := fun k => k = X) (Chg.refl wz _) (.inl rfl) _
                    have neX : eb ≠ X := ne_ty ⟨_, J.ebx⟩ ⟨_, J.F.box⟩ (by decide)
                    have rey : (wz.setCell ⟨X, 14, none⟩ u').rangeAt eb 0 [.int .i64 (p.sw i), .int .i64 (p.sz i), .slice (some ⟨gl, 0, none⟩) rn cpl] := fun j v hv => kc.cell' neX (rez j v hv)
                    have x14 : W6.cell? ⟨X, 14, none⟩ = some sv := by rw [(cells_at J.F.box 14).1]; rfl
                    have x14z : wz.cell? ⟨X, 14, none⟩ = some sv := by rw [(cells_at gXz 14).1]; rfl
                    have l46 : (Try.prog.info? 46).map (·.size) = some 3 := by kernel_rfl
                    have RG := fun Q hPan => @reg11_22 W6 wz X gb gz nz cz sv u' eb (p.sw i) (p.sz i) (some ⟨gl, 0, none⟩) rn cpl re x14 l46 srun rez hu x14z (cells_at gXz 14).2 rey Q hPan
                    have HN : Hid (LnI w1 (wz.setCell ⟨X, 14, none⟩ u') X (.slice (some ⟨gr, 0, none⟩) nr cr) cv u' (.slice none 0 0) (min p.nc 40) (clF p (min p.nc 40)) (sm ++ [⟨p.sw i, p.sz i, .slice (some ⟨gl, 0, none⟩) rn cpl, rdr p i⟩]) (rows ++ [.slice (some ⟨gl, 0, none⟩) (rn + 8) cpl]) 0 (qlF p 0) ∧ SmOk p (i + 1) (sm ++ [⟨p.sw i, p.sz i, .slice (some ⟨gl, 0, none⟩) rn cpl, rdr p i⟩]) ∧ (rows ++ [.slice (some ⟨gl, 0, none⟩) (rn + 8) cpl] : List Value).length ≤ i + 1) := ⟨hN, HSm.out.1.app _ rfl rfl, by have := HSm.out.2; simp; omega⟩
                    have HW5 : Hid (W5 = wa.setCell ⟨X, 12, none⟩ (.slice (some ⟨gr, 0, none⟩) nr cr)) := hW5
                    have HW6 : Hid (W6 = W5.setCell ⟨eb, 2, none⟩ (.slice (some ⟨gl, 0, none⟩) rn cpl)) := hW6
                    clear hW5 hW6 J HJ kd srun so sch sL hRd hN sch' re rez gXz kc neX rey x14 x14z l46 hu
                    go_upto_region 21 with (at_builtin; refine wpList_append_run _ rfl (.tmp 99) (.tmp 101) 49 49 rfl _ _ _ wa rfl rfl hrun ?_)
                    rw [← HW5.out]
                    clear hrun x12 x12a f12a HW5
                    go_upto_region 22 with fail
                    rw [← HW6.out]
                    clear HW6 ce2 fe2
                    refine RG _ (fun _ _ _ q _ h => by cases q <;> exact h) ?_
                    clear RG
                    go_wp2_with fail
                    exact ⟨⟨i + 1, _, _, _, _, by go_num, by omega, by omega, HN⟩, by simp [nI]; omega⟩
        | false =>
          have hix : i = min p.ns 100 := by
            have : ¬ (i < p.ns ∧ i < 100) := by intro h; simp [h] at hbq
            omega
          have hsm := HI.out.2
          rw [hix] at hsm
          have HL0 : Hid (LnI w1 wr X rv cv sv (.slice none 0 0) (min p.nc 40) (clF p (min p.nc 40)) sm rows 0 (qlF p 0)) := F
          have HSM : Hid (SmOk p (min p.ns 100) sm) := hsm.1
          clear F HI hbq hix e10 hi hi100 hsm
          generalize (Value.int .i64 (i : Int)) = yi2
          go_wp2_with fail
          go_loopw [11] (fun s11 wr => ∃ (i : Nat) (qv : Value), s11 = .int .i64 i ∧ i ≤ p.nq ∧ i ≤ 100 ∧ Hid (LnI w1 wr X rv cv sv qv (min p.nc 40) (clF p (min p.nc 40)) sm rows i (qlF p i))) (fun s11 _ => 100 - nI s11)
          case atStart => exact ⟨0, _, rfl, by omega, by omega, HL0⟩
          case round =>
            obtain ⟨i, qv, rfl, hi, hi100, HI⟩ := hrel
            clear HL0
            have F := HI.out
            have e11 := F.kp.cell HG.out.2.2.2.2
            obtain ⟨bq, hbq⟩ : ∃ bq, bq = (decide (i < p.nq) && decide (i < 100)) := ⟨_, rfl⟩
            go_upto_region 24 with fail
            refine reg11_24 wr gb i p.nq p.A.cq p.A.pq bq hbq e11 _ ?_
            intro y123 y124 y125 y126
            cases bq with
            | true =>
              have hl12 : i < p.nq ∧ i < 100 := by simpa using hbq.symm
              obtain ⟨hl1, hl2⟩ := hl12
              clear hbq
              have hiz : (i : Int) < (p.nq : Int) := by omega
              rcases HIn.out.que with e | ⟨b, o, hpq, hx⟩
              · omega
              · have hr := hx i hl1 hl2
                have r1 := range_kp hr F.kp
                have kd : Kp wr wr.drew := Chg.drew (Chg.refl _ _)
                have Fd := F.keep0 kd
                obtain ⟨v', wa, hrun, ho, hch, hL, g, nn, cc, hv⟩ := appQ wr.drew qv i (qlF p i) (qcs p i) Fd.oq rfl (fun u hu => by simp [qcs] at hu; rcases hu with rfl | rfl | rfl | rfl | rfl | rfl <;> rfl) (by omega)
                have hN := Fd.appQ _ ho hch hL
                rw [← qlF_step] at hN
                have kc : Chg wa (wa.setCell ⟨X, 15, none⟩ v') (fun k => k = X) := Chg.setCell (S := fun k => k = X) (Chg.refl wa _) (.inl rfl) _
                have hXb : ∀ k, qv.ownBlock = some k → k ≠ X := fun k hk => ne_ty (own_ty F.oq hk) ⟨_, F.box⟩ (by decide)
                have hlo : ∀ k, k < w1.heap.size → ¬ qv.ownBlock = some k := fun k hk e => by have := F.nq k e; omega
                have hXs := F.nX
                have bl8 : gb < w1.heap.size := lt_of_cell HG.out.2.2.2.2
                have bl1 : b < w1.heap.size := lt_of_cell (hr 0 _ rfl)
                have hch' : Chg wr wa (fun i => qv.ownBlock = some i) := Chg.trans (Chg.drew (Chg.refl wr _)) hch (fun _ _ e => e)
                have A1 := hch'.cell' (hlo _ bl8) e11
                have A2 : wa.rangeAt b (o + i * 6) (qcs p i) := fun j v hv => hch'.cell' (hlo _ bl1) (r1 j v hv)
                have A3 : (wa.setCell ⟨X, 15, none⟩ v').rangeAt b (o + i * 6) (qcs p i) := fun j v hv => kc.cell' (by omega) (A2 j v hv)
                have gXa : wa.heap[X]? = _ := hch'.heap F.box (fun e => hXb _ e rfl)
                have x15 : wr.cell? ⟨X, 15, none⟩ = some qv := by rw [(cells_at F.box 15).1]; rfl
                have x15a : wa.cell? ⟨X, 15, none⟩ = some qv := by rw [(cells_at gXa 15).1]; rfl
                have l33 : (Try.prog.info? 33).map (·.size) = some 6 := by kernel_rfl
                have HN : Hid (LnI w1 (wa.setCell ⟨X, 15, none⟩ v') X rv cv sv v' (min p.nc 40) (clF p (min p.nc 40)) sm rows (i + 1) (qlF p (i + 1))) := hN
                rw [hpq] at e11 A1
                clear hpq
                have RG := fun Q hPan => @reg11_26 wr wa X gb g nn cc qv v' b o p.nq p.A.cq i (p.qw i) (p.qr i) (p.q2 i) (p.q3 i) (p.q4 i) (p.qf i) ⟨e11, r1⟩ x15 hiz l33 hrun ⟨A1, A2⟩ hv x15a (cells_at gXa 15).2 ⟨kc.cell' (by omega) A1, A3⟩ Q hPan
                clear kd Fd hrun ho hch hL hN kc hXb hlo hXs bl8 bl1 hch' A1 A2 A3 gXa x15 x15a hv F hr r1 hx HI l33
                go_upto_region 26 with fail
                refine RG _ (fun _ _ _ q _ h => by cases q <;> exact h) ?_
                clear RG
                go_wp2_with fail
                exact ⟨⟨i + 1, v', by go_num, by omega, by omega, HN⟩, by simp [nI]; omega⟩
            | false =>
              have hix : i = min p.nq 100 := by
                have : ¬ (i < p.nq ∧ i < 100) := by intro h; simp [h] at hbq
                omega
              rw [hix] at F
              have x13 : wr.cell? ⟨X, 13, none⟩ = some cv := by rw [(cells_at F.box 13).1]; rfl
              have x14 : wr.cell? ⟨X, 14, none⟩ = some sv := by rw [(cells_at F.box 14).1]; rfl
              have x15 : wr.cell? ⟨X, 15, none⟩ = some qv := by rw [(cells_at F.box 15).1]; rfl
              obtain ⟨ac, cac, hcv⟩ := own_shape F.oc
              obtain ⟨ass, cas, hsv⟩ := own_shape F.os
              obtain ⟨aq, caq, hqv⟩ := own_shape F.oq
              rw [hcv] at x13
              rw [hsv, HSM.out.1] at x14
              rw [hqv] at x15
              have HM0 : Hid (LnI w1 wr X rv cv sv qv (min p.nc 40 + 0) (clF p (min p.nc 40) ++ mC 0) (sm ++ mS 0) rows (min p.nq 100 + 0) (qlF p (min p.nq 100) ++ mQ 0)) := by
                have e1 : mC 0 = [] := rfl
                have e2 : mS 0 = [] := rfl
                have e3 : mQ 0 = [] := rfl
                rw [e1, e2, e3, List.append_nil, List.append_nil, List.append_nil]; exact F
              clear F HI hbq hix e11 hi hi100 hcv hsv hqv
              generalize (Value.int .i64 (i : Int)) = yi3
              have hc40 : min p.nc 40 ≤ 40 := by omega
              have hs100 : min p.ns 100 ≤ 100 := by omega
              have hq100 : min p.nq 100 ≤ 100 := by omega
              generalize hnc : min p.nc 40 = nc at *
              generalize hns : min p.ns 100 = ns at *
              generalize hnq : min p.nq 100 = nq at *
              have HNN : Hid (min p.nc 40 = nc ∧ min p.ns 100 = ns ∧ min p.nq 100 = nq) := ⟨hnc, hns, hnq⟩
              clear hnc hns hnq
              go_wp2_with fail
              clear x13 x14 x15
              go_loopw [15] (fun s15 wr => ∃ (k : Nat) (cv sv qv : Value), s15 = .int .i64 k ∧ k ≤ 8 ∧ Hid (LnI w1 wr X rv cv sv qv (nc + k) (clF p nc ++ mC k) (sm ++ mS k) rows (nq + k) (qlF p nq ++ mQ k))) (fun s15 _ => 8 - nI s15)
              case atStart => exact ⟨0, _, _, _, rfl, by omega, HM0⟩
              case round =>
                obtain ⟨k, cv, sv, qv, rfl, hk, HM⟩ := hrel
                clear HM0
                by_cases hkt : k < 8
                · have hkz : (k : Int) < 8 := by omega
                  have F := HM.out
                  obtain ⟨v1, a1, run1, o1, ch1, L1, g1, n1, c1, hv1⟩ := appC wr cv (nc + k) (clF p nc ++ mC k) [.string ⟨#[98, 101, 104, 105, 110, 100]⟩, .int .u32 0, .slice none 0 0, .slice none 0 0] F.oc rfl (fun u hu => by simp at hu; rcases hu with rfl | rfl | rfl <;> rfl) (by omega)
                  have F1 := F.appC _ o1 ch1 L1
                  have x13 : wr.cell? ⟨X, 13, none⟩ = some cv := by rw [(cells_at F.box 13).1]; rfl
                  have gX1 : a1.heap[X]? = _ := ch1.heap F.box (fun e => ne_ty (own_ty F.oc e) ⟨_, F.box⟩ (by decide) rfl)
                  have x13a : a1.cell? ⟨X, 13, none⟩ = some cv := by rw [(cells_at gX1 13).1]; rfl
                  have f13a := (cells_at gX1 13).2
                  obtain ⟨W1, hW1⟩ : ∃ W1, W1 = a1.setCell ⟨X, 13, none⟩ v1 := ⟨_, rfl⟩
                  rw [← hW1] at F1
                  obtain ⟨v2, a2, run2, o2, ch2, L2, g2, n2, c2, hv2⟩ := appS W1 sv (sm ++ mS k).length (flS (sm ++ mS k)) [.int .i64 71, .int .i64 0, .slice none 0 0] F1.os rfl (fun u hu => by simp at hu; rcases hu with rfl | rfl | rfl <;> rfl) (by simp [mS]; have := HSM.out.1; omega)
                  have F2 := F1.appS ⟨71, 0, .slice none 0 0, []⟩ o2 ch2 L2 ⟨⟨_, _, rfl, .inl rfl⟩, fun k hk => by cases hk⟩
                  have x14 : W1.cell? ⟨X, 14, none⟩ = some sv := by rw [(cells_at F1.box 14).1]; rfl
                  have gX2 : a2.heap[X]? = _ := ch2.heap F1.box (fun e => ne_ty (own_ty F1.os e) ⟨_, F1.box⟩ (by decide) rfl)
                  have x14a : a2.cell? ⟨X, 14, none⟩ = some sv := by rw [(cells_at gX2 14).1]; rfl
                  have f14a := (cells_at gX2 14).2
                  obtain ⟨W2, hW2⟩ : ∃ W2, W2 = a2.setCell ⟨X, 14, none⟩ v2 := ⟨_, rfl⟩
                  rw [← hW2] at F2
                  obtain ⟨v3, a3, run3, o3, ch3, L3, g3, n3, c3, hv3⟩ := appQ W2 qv (nq + k) (qlF p nq ++ mQ k) [.int .i64 71, .int .i64 0, .int .i64 0, .int .i64 0, .int .i64 0, .bool false] F2.oq rfl (fun u hu => by simp at hu; rcases hu with rfl | rfl | rfl <;> rfl) (by omega)
                  have F3 := F2.appQ _ o3 ch3 L3
                  have x15 : W2.cell? ⟨X, 15, none⟩ = some qv := by rw [(cells_at F2.box 15).1]; rfl
                  have gX3 : a3.heap[X]? = _ := ch3.heap F2.box (fun e => ne_ty (own_ty F2.oq e) ⟨_, F2.box⟩ (by decide) rfl)
                  have x15a : a3.cell? ⟨X, 15, none⟩ = some qv := by rw [(cells_at gX3 15).1]; rfl
                  have f15a := (cells_at gX3 15).2
                  have HN : Hid (LnI w1 (a3.setCell ⟨X, 15, none⟩ v3) X rv v1 v2 v3 (nc + (k + 1)) (clF p nc ++ mC (k + 1)) (sm ++ mS (k + 1)) rows (nq + (k + 1)) (qlF p nq ++ mQ (k + 1))) := by
                    rw [mC_step, mS_step, mQ_step, ← List.append_assoc, ← List.append_assoc, ← List.append_assoc]
                    exact F3
                  have HW1 : Hid (W1 = a1.setCell ⟨X, 13, none⟩ v1) := hW1
                  have HW2 : Hid (W2 = a2.setCell ⟨X, 14, none⟩ v2) := hW2
                  clear F F1 F2 F3 o1 ch1 L1 gX1 o2 ch2 L2 gX2 o3 ch3 L3 gX3 hW1 hW2 HM
                  subst hv1
                  subst hv2
                  subst hv3
                  go_upto_region 34 with (at_builtin; refine wpList_append_run _ rfl (.tmp 167) (.tmp 169) 26 26 rfl _ _ _ a1 rfl rfl run1 ?_)
                  rw [← HW1.out]
                  clear run1 x13 x13a f13a HW1
                  go_upto_region 35 with (at_builtin; refine wpList_append_run _ rfl (.tmp 177) (.tmp 179) 28 28 rfl _ _ _ a2 rfl rfl run2 ?_)
                  rw [← HW2.out]
                  clear run2 x14 x14a f14a HW2
                  go_wp2_with (at_builtin; refine wpList_append_run _ rfl (.tmp 187) (.tmp 189) 29 29 rfl _ _ _ a3 rfl rfl run3 ?_)
                  exact ⟨⟨k + 1, _, _, _, by go_num, by omega, HN⟩, by simp [nI]; omega⟩
                · have hkz : ¬ (k : Int) < 8 := by omega
                  obtain rfl : k = 8 := by omega
                  have F := HM.out
                  have hlen : (sm ++ mS 8).length = ns + 8 := by simp [mS, HSM.out.1]
                  obtain ⟨gc, cpc, hcv, hc1, hc2⟩ := own_some F.oc (by omega)
                  obtain ⟨gs, cps, hsv, hs1, hs2⟩ := own_some F.os (by omega)
                  obtain ⟨gq, cpq, hqv, hq1, hq2⟩ := own_some F.oq (by omega)
                  rw [hlen] at hsv hs1
                  have kd : Kp wr wr.drew := Chg.drew (Chg.refl _ _)
                  have Fd := F.keep0 kd
                  have x13 : wr.cell? ⟨X, 13, none⟩ = some cv := by rw [(cells_at F.box 13).1]; rfl
                  have x14 : wr.cell? ⟨X, 14, none⟩ = some sv := by rw [(cells_at F.box 14).1]; rfl
                  have x15 : wr.cell? ⟨X, 15, none⟩ = some qv := by rw [(cells_at F.box 15).1]; rfl
                  have e0 := F.kp.cell HG.out.1
                  have e7 := F.kp.cell HG.out.2.1
                  have hst := run_storeVar_row (P := Try.prog) wr.drew X 0 31 #[.int .i64 pg, .int .u32 0, .int .i64 0, .int .i64 0, .int .i64 0, .int .i64 0, .int .i64 0, .int .u64 mj, .slice (some ⟨gc, 0, none⟩) nc cpc, .slice none 0 0, .slice (some ⟨gs, 0, none⟩) ns cps, .slice (some ⟨gq, 0, none⟩) nq cpq] _ 51 Fd.box (by simp) (by kernel_rfl) (by intro v hv; simp at hv; rcases hv with rfl | rfl | rfl | rfl | rfl | rfl | rfl | rfl <;> rfl)
                  obtain ⟨wz, hwz⟩ : ∃ wz, wz = wr.drew.setRow X ((#[.int .i64 0, .int .u32 0, .int .i64 0, .int .i64 0, .int .i64 0, .int .i64 0, .int .i64 0, .int .u64 0, .slice none 0 0, .slice none 0 0, .slice none 0 0, .slice none 0 0, rv, cv, sv, qv] : Array Value).toList.take 0 ++ (#[.int .i64 pg, .int .u32 0, .int .i64 0, .int .i64 0, .int .i64 0, .int .i64 0, .int .i64 0, .int .u64 mj, .slice (some ⟨gc, 0, none⟩) nc cpc, .slice none 0 0, .slice (some ⟨gs, 0, none⟩) ns cps, .slice (some ⟨gq, 0, none⟩) nq cpq] : Array Value).toList ++ (#[.int .i64 0, .int .u32 0, .int .i64 0, .int .i64 0, .int .i64 0, .int .i64 0, .int .i64 0, .int .u64 0, .slice none 0 0, .slice none 0 0, .slice none 0 0, .slice none 0 0, rv, cv, sv, qv] : Array Value).toList.drop (0 + 12)).toArray := ⟨_, rfl⟩
                  rw [show (#[.int .i64 pg, .int .u32 0, .int .i64 0, .int .i64 0, .int .i64 0, .int .i64 0, .int .i64 0, .int .u64 mj, .slice (some ⟨gc, 0, none⟩) nc cpc, .slice none 0 0, .slice (some ⟨gs, 0, none⟩) ns cps, .slice (some ⟨gq, 0, none⟩) nq cpq] : Array Value).size = 12 from rfl, ← hwz] at hst
                  have gz : wz.heap[X]? = some (.cells #[.int .i64 pg, .int .u32 0, .int .i64 0, .int .i64 0, .int .i64 0, .int .i64 0, .int .i64 0, .int .u64 mj, .slice (some ⟨gc, 0, none⟩) nc cpc, .slice none 0 0, .slice (some ⟨gs, 0, none⟩) ns cps, .slice (some ⟨gq, 0, none⟩) nq cpq, rv, cv, sv, qv] 51 (0, 0)) := by
                    rw [hwz, setRow_heap wr.drew X _ _ 51 _ Fd.box]; rfl
                  have kz : Chg wr wz (fun k => k = X) := by rw [hwz]; exact Chg.setRow (S := fun k => k = X) (Chg.drew (Chg.refl wr _)) (.inl rfl) _
                  have blg : gb < w1.heap.size := lt_of_cell HG.out.1
                  have hXs := F.nX
                  have z0 := kz.cell' (show ¬ gb = X by omega) e0
                  have z7 := kz.cell' (show ¬ gb = X by omega) e7
                  have z13 : wz.cell? ⟨X, 13, none⟩ = some cv := by rw [(cells_at gz 13).1]; rfl
                  have z14 : wz.cell? ⟨X, 14, none⟩ = some sv := by rw [(cells_at gz 14).1]; rfl
                  have z15 : wz.cell? ⟨X, 15, none⟩ = some qv := by rw [(cells_at gz 15).1]; rfl
                  have HE : Hid (LoE w wz X p pg mj) := by
                    obtain ⟨m1, m2, m3⟩ := HNN.out
                    refine ⟨w1, wr, rv, cv, sv, qv, sm, rows, gc, cpc, gs, cps, gq, cpq, HK.out, ?_, ?_, ?_, ?_, ?_, kz, ?_⟩
                    · rw [m1, m3]; exact F
                    · rw [m2]; exact HSM.out
                    · rw [m1]; exact hcv
                    · rw [m2]; exact hsv
                    · rw [m3]; exact hqv
                    · rw [m1, m2, m3]; exact gz
                  rw [hcv] at x13 z13
                  rw [hsv] at x14 z14
                  rw [hqv] at x15 z15
                  have RG := fun Q hPan => @reg11_36 wr wz X gb gc (nc + 8) cpc gs (ns + 8) cps gq (nq + 8) cpq nc ns nq pg mj ⟨e0, e7, x13, x14, x15⟩ (by omega) hc1 hc2 (by omega) hs1 hs2 (by omega) hq1 hq2 hst ⟨z0, z7, z13, z14, z15⟩ Q hPan
                  clear F Fd kd x13 x14 x15 e0 e7 hst hwz gz kz blg hXs z0 z7 z13 z14 z15 hcv hsv hqv hc1 hc2 hs1 hs2 hq1 hq2 hlen HM
                  go_upto_region 36 with fail
                  refine RG _ (fun _ _ _ q _ h => by cases q <;> exact h) ?_
                  clear RG
                  go_wp2_with fail
                  go_ret
                  exact ⟨X, rfl, HE.out⟩
end Go.Proofs.Ythgpcmickgcdhaa
