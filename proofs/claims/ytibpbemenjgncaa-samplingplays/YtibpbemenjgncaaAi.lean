import Derived.Test.YtibpbemenjgncaaAh
namespace Go.Proofs.Ytibpbemenjgncaa
open Go.ChangeShapes Go.WideShapes Go.ChangeAt Go.RowKit
set_option linter.unusedVariables false
theorem rd_cells {W : World} {M : Nat} {f : Nat → Bool} (h : W.heap[M]? = some (.cells (rdV f).toArray 60 (0, 0))) : W.rangeAt M 0 (rdV f) := fun j v hv => by
  rw [Nat.zero_add, (cells_at h j).1, List.getElem?_toArray, hv]
theorem rd_nine {W : World} {M : Nat} {f : Nat → Bool} (h : W.heap[M]? = some (.cells (rdV f).toArray 60 (0, 0))) : W.cell? ⟨M, 0, none⟩ = some (.bool (f 0)) ∧ W.cell? ⟨M, 1, none⟩ = some (.bool (f 1)) ∧ W.cell? ⟨M, 2, none⟩ = some (.bool (f 2)) ∧ W.cell? ⟨M, 3, none⟩ = some (.bool (f 3)) ∧ W.cell? ⟨M, 4, none⟩ = some (.bool (f 4)) ∧ W.cell? ⟨M, 5, none⟩ = some (.bool (f 5)) ∧ W.cell? ⟨M, 6, none⟩ = some (.bool (f 6)) ∧ W.cell? ⟨M, 7, none⟩ = some (.bool (f 7)) ∧ W.cell? ⟨M, 8, none⟩ = some (.bool (f 8)) :=
  ⟨(cells_at h 0).1, (cells_at h 1).1, (cells_at h 2).1, (cells_at h 3).1, (cells_at h 4).1, (cells_at h 5).1, (cells_at h 6).1, (cells_at h 7).1, (cells_at h 8).1⟩
set_option maxHeartbeats 2000000 in
set_option maxRecDepth 10000 in
theorem readersOf_any (w : World) (pw sz : Int) (v : Value) (l : List Int) (h : RdI w v l) :
    Calls Try.prog 27 #[.agg #[.int .i64 pw, .int .i64 sz, v]] w fun e w' => ∃ f, e = .returned (.tuple #[.agg (rdV f).toArray, .bool (mayR pw l)]) ∧ RdE w w' pw l f := by
  obtain ⟨a, cap, rfl, hca⟩ := h.ex
  have hlen := h.len
  have HA : Hid (l = [] ∨ ∃ b o, a = some ⟨b, o, none⟩ ∧ ∀ j (h : j < l.length), w.cell? ⟨b, o + j, none⟩ = some (.int .i64 l[j])) := hca
  clear h hca
  have hI : ∀ W, Calls Try.prog 26 #[.int .i64 pw] W fun e w' => e = .returned (.bool (decide (1 ≤ pw) && decide (pw ≤ 8))) ∧ w' = W := fun W => isCell_any W pw
  obtain ⟨W, hW⟩ : ∃ W, W = (w.alloc (.cells #[.int .i64 pw, .int .i64 sz, .slice a l.length cap] 43)).alloc (.cells #[.bool false, .bool false, .bool false, .bool false, .bool false, .bool false, .bool false, .bool false, .bool false] 60) := ⟨_, rfl⟩
  have kW : Kp w W := by rw [hW]; exact (Kp.al _ _).alloc _
  have R1 : W.heap[w.heap.size]? = some (.cells #[.int .i64 pw, .int .i64 sz, .slice a l.length cap] 43 (0, 0)) := by rw [hW]; exact al_old _ (heap_alloc_new w _)
  have R2 : W.heap[w.heap.size + 1]? = some (.cells (rdV (inF [])).toArray 60 (0, 0)) := by
    rw [hW]
    have := heap_alloc_new (w.alloc (.cells #[.int .i64 pw, .int .i64 sz, .slice a l.length cap] 43)) (.cells #[.bool false, .bool false, .bool false, .bool false, .bool false, .bool false, .bool false, .bool false, .bool false] 60)
    simpa [rdV, inF] using this
  have HW : Hid (W = (w.alloc (.cells #[.int .i64 pw, .int .i64 sz, .slice a l.length cap] 43)).alloc (.cells #[.bool false, .bool false, .bool false, .bool false, .bool false, .bool false, .bool false, .bool false, .bool false] 60)) := hW
  have KK : Hid (Kp w W ∧ W.heap[w.heap.size]? = some (.cells #[.int .i64 pw, .int .i64 sz, .slice a l.length cap] 43 (0, 0)) ∧ W.heap[w.heap.size + 1]? = some (.cells (rdV (inF [])).toArray 60 (0, 0))) := ⟨kW, R1, R2⟩
  have d0 : W.cell? ⟨w.heap.size, 0, none⟩ = some (.int .i64 pw) := (cells_at R1 0).1
  have d2 : W.cell? ⟨w.heap.size, 2, none⟩ = some (.slice a l.length cap) := (cells_at R1 2).1
  clear hW kW R1 R2
  have hU := Try.underlying60
  go_enter Try.func27, Try.ntmps27
  go_upto_region 1 with fail
  rw [← HW.out]
  clear HW
  generalize hN : w.heap.size = N at *
  have HN : Hid (w.heap.size = N) := hN
  clear hN
  by_cases hwr : (1 ≤ pw ∧ pw ≤ 8) ∧ l ≠ []
  · have hb : (decide (1 ≤ pw) && decide (pw ≤ 8)) = true := by simp [hwr.1]
    have hl0 : ((l.length : Int) == 0) = false := by have := hwr.2; simp [this]
    have hI1 := hI W
    rw [hb] at hI1
    go_wp2_with fail
    go_at_call 26
    refine hI1.mono ?_
    rintro e w1 ⟨rfl, rfl⟩
    clear hI1
    go_wp2_with fail
    go_loopw [20] (fun s20 wr => ∃ j : Nat, s20 = .int .i64 j ∧ j ≤ l.length ∧ gdR pw (l.take j) = true ∧ Kp w wr ∧ wr.heap[N]? = some (.cells #[.int .i64 pw, .int .i64 sz, .slice a l.length cap] 43 (0, 0)) ∧ wr.heap[N + 1]? = some (.cells (rdV (inF (l.take j))).toArray 60 (0, 0))) (fun s20 _ => l.length - nI s20)
    case atStart => exact ⟨0, rfl, by omega, rfl, KK.out.1, KK.out.2.1, KK.out.2.2⟩
    case round =>
      obtain ⟨j, rfl, hj, hg, hk, hn0, hn1⟩ := hrel
      clear d0 d2
      have RR := rd_cells hn1
      have RS := set_row9 hn1
      have HS : Hid ((wr.setRow (N + 1) (rdV (inF (l.take j))).toArray).heap[N + 1]? = some (.cells (rdV (inF (l.take j))).toArray 60 (0, 0)) ∧ Kp w (wr.setRow (N + 1) (rdV (inF (l.take j))).toArray)) := ⟨setRow_heap wr (N + 1) _ _ 60 (0, 0) hn1, Chg.setRow hk (.inr (by rw [HN.out]; omega)) _⟩
      have d0 : wr.cell? ⟨N, 0, none⟩ = some (.int .i64 pw) := (cells_at hn0 0).1
      by_cases hlt : j < l.length
      · have hjz : (j : Int) < (l.length : Int) := by omega
        rcases HA.out with e | ⟨b, o, rfl, hcc⟩
        · rw [e] at hlt; simp at hlt
        have cj := hk.cell (hcc j hlt)
        have hts : l.take (j + 1) = l.take j ++ [l[j]] := List.take_succ_eq_append_getElem hlt
        have HG : Hid (gdR pw (l.take (j + 1)) = ((decide (1 ≤ l[j]) && decide (l[j] ≤ 8) && decide (l[j] ≠ pw)) && decide (l[j] ∉ l.take j)) ∧ (gdR pw (l.take (j + 1)) = false → mayR pw l = false) ∧ (∀ i : Nat, inF (l.take (j + 1)) i = (inF (l.take j) i || decide ((i : Int) = l[j])))) := by
          refine ⟨by rw [hts, gdR_snoc, hg]; rfl, fun h => ?_, fun i => ?_⟩
          · cases hm : mayR pw l with
            | false => rfl
            | true =>
              simp only [mayR, Bool.and_eq_true] at hm
              rw [gdR_take (j + 1) hm.2] at h
              cases h
          · unfold inF
            rw [← Bool.decide_or]
            apply decide_eq_decide.2
            rw [hts, List.mem_append, List.mem_singleton]
        clear hcc hts HA hg
        generalize l[j] = x at *
        have hIx := isCell_any wr x
        by_cases hx : (1 ≤ x ∧ x ≤ 8)
        · obtain ⟨n, rfl⟩ : ∃ n : Nat, x = n := ⟨x.toNat, by omega⟩
          have hxb : (decide (1 ≤ (n : Int)) && decide ((n : Int) ≤ 8)) = true := by simp [hx]
          rw [hxb] at hIx
          have hn9 : n < 9 := by omega
          by_cases hxp : (n : Int) = pw
          · have hq : ((n : Int) == pw) = true := by simp [hxp]
            have HM : Hid (mayR pw l = false) := HG.out.2.1 (by rw [HG.out.1]; simp [hxp])
            clear hxp
            clear HG
            go_wp2_with (first | (refine wpList_load_mid rfl 60 (.tmp 2) rfl (N + 1) 0 rfl (rdV (inF (l.take j))) _ RR hU rfl (rdV_len _) ?_; simp only [Act.put, List.setIfInBounds_toArray, List.set_cons_zero, List.set_cons_succ]) | (refine wpList_store_row rfl 60 (.tmp 2) (.tmp 38) rfl (N + 1) 0 _ rfl rfl _ RS ?_; simp only [Act.put]) | (go_at_call 26; refine hIx.mono ?_; rintro e w2 ⟨rfl, hw2⟩; rw [hw2]; clear hw2) | fail)
            obtain ⟨hr9, hk9⟩ := HS.out
            generalize wr.setRow (N + 1) (rdV (inF (l.take j))).toArray = X at hr9 hk9 ⊢
            obtain ⟨n0, n1, n2, n3, n4, n5, n6, n7, n8⟩ := rd_nine hr9
            refine bodyPost_ret (v := .tuple #[.agg (rdV (inF (l.take j))).toArray, .bool false]) (by simp [results, Try.results27, go_sem, n0, n1, n2, n3, n4, n5, n6, n7, n8, rdV]) rfl ?_
            exact ⟨inF (l.take j), by rw [HM.out], ⟨(fun h => by rw [HM.out] at h; cases h), hk9⟩⟩
          · have hq : ((n : Int) == pw) = false := by simp [hxp]
            have cn : wr.cell? ⟨N + 1, n, none⟩ = some (.bool (inF (l.take j) n)) := by rw [(cells_at hn1 n).1]; exact rdV_at _ n (by omega)
            have fn := (cells_at hn1 n).2
            by_cases hxm : (n : Int) ∈ l.take j
            · have hin : inF (l.take j) n = true := by unfold inF; simp [hxm]
              have HM : Hid (mayR pw l = false) := HG.out.2.1 (by rw [HG.out.1]; simp [hxm])
              rw [hin] at cn
              clear hin hxm hxp
              clear HG
              go_wp2_with (first | (refine wpList_load_mid rfl 60 (.tmp 2) rfl (N + 1) 0 rfl (rdV (inF (l.take j))) _ RR hU rfl (rdV_len _) ?_; simp only [Act.put, List.setIfInBounds_toArray, List.set_cons_zero, List.set_cons_succ]) | (refine wpList_store_row rfl 60 (.tmp 2) (.tmp 38) rfl (N + 1) 0 _ rfl rfl _ RS ?_; simp only [Act.put]) | (go_at_call 26; refine hIx.mono ?_; rintro e w2 ⟨rfl, hw2⟩; rw [hw2]; clear hw2) | fail)
              obtain ⟨hr9, hk9⟩ := HS.out
              generalize wr.setRow (N + 1) (rdV (inF (l.take j))).toArray = X at hr9 hk9 ⊢
              obtain ⟨n0, n1, n2, n3, n4, n5, n6, n7, n8⟩ := rd_nine hr9
              refine bodyPost_ret (v := .tuple #[.agg (rdV (inF (l.take j))).toArray, .bool false]) (by simp [results, Try.results27, go_sem, n0, n1, n2, n3, n4, n5, n6, n7, n8, rdV]) rfl ?_
              exact ⟨inF (l.take j), by rw [HM.out], ⟨(fun h => by rw [HM.out] at h; cases h), hk9⟩⟩
            · have hin : inF (l.take j) n = false := by unfold inF; simp [hxm]
              have HX : Hid (gdR pw (l.take (j + 1)) = true ∧ Kp w (wr.setCell ⟨N + 1, n, none⟩ (.bool true)) ∧ (wr.setCell ⟨N + 1, n, none⟩ (.bool true)).heap[N]? = some (.cells #[.int .i64 pw, .int .i64 sz, .slice (some ⟨b, o, none⟩) l.length cap] 43 (0, 0)) ∧ (wr.setCell ⟨N + 1, n, none⟩ (.bool true)).heap[N + 1]? = some (.cells (rdV (inF (l.take (j + 1)))).toArray 60 (0, 0))) := by
                have hC : Chg wr (wr.setCell ⟨N + 1, n, none⟩ (.bool true)) (fun k => k = N + 1) := Chg.setCell (S := fun k => k = N + 1) (Chg.refl wr _) (.inl rfl) _
                refine ⟨by rw [HG.out.1]; simp [hxp, hxm, hx], Chg.trans hk hC (fun i hi e => by have := HN.out; omega), hC.heap hn0 (by omega), ?_⟩
                rw [heap_setCell_same wr (N + 1) n _ 60 _ hn1, rdV_set (inF (l.take j)) (inF (l.take (j + 1))) n (by omega) (fun i => by rw [HG.out.2.2 i]; congr 1; apply decide_eq_decide.2; omega)]
              rw [hin] at cn
              clear hin hxm hxp HG RR RS HS hk hn0 hn1
              go_wp2_with (first | (go_at_call 26; refine hIx.mono ?_; rintro e w2 ⟨rfl, hw2⟩; rw [hw2]; clear hw2) | fail)
              exact ⟨⟨j + 1, by go_num, by omega, HX.out.1, HX.out.2.1, HX.out.2.2.1, HX.out.2.2.2⟩, by simp [nI]; omega⟩
        · have hxb : (decide (1 ≤ x) && decide (x ≤ 8)) = false := by
            by_cases h1 : 1 ≤ x
            · have h2 : ¬ x ≤ 8 := fun h => hx ⟨h1, h⟩
              simp [h2]
            · simp [h1]
          have HM : Hid (mayR pw l = false) := HG.out.2.1 (by rw [HG.out.1, hxb]; rfl)
          rw [hxb] at hIx
          clear hxb hx
          clear HG
          go_wp2_with (first | (refine wpList_load_mid rfl 60 (.tmp 2) rfl (N + 1) 0 rfl (rdV (inF (l.take j))) _ RR hU rfl (rdV_len _) ?_; simp only [Act.put, List.setIfInBounds_toArray, List.set_cons_zero, List.set_cons_succ]) | (refine wpList_store_row rfl 60 (.tmp 2) (.tmp 38) rfl (N + 1) 0 _ rfl rfl _ RS ?_; simp only [Act.put]) | (go_at_call 26; refine hIx.mono ?_; rintro e w2 ⟨rfl, hw2⟩; rw [hw2]; clear hw2) | fail)
          obtain ⟨hr9, hk9⟩ := HS.out
          generalize wr.setRow (N + 1) (rdV (inF (l.take j))).toArray = X at hr9 hk9 ⊢
          obtain ⟨n0, n1, n2, n3, n4, n5, n6, n7, n8⟩ := rd_nine hr9
          refine bodyPost_ret (v := .tuple #[.agg (rdV (inF (l.take j))).toArray, .bool false]) (by simp [results, Try.results27, go_sem, n0, n1, n2, n3, n4, n5, n6, n7, n8, rdV]) rfl ?_
          exact ⟨inF (l.take j), by rw [HM.out], ⟨(fun h => by rw [HM.out] at h; cases h), hk9⟩⟩
      · have hjz : ¬ (j : Int) < (l.length : Int) := by omega
        obtain rfl : j = l.length := by omega
        rw [List.take_length] at hg RR RS HS
        have HM : Hid (mayR pw l = true) := by
          show mayR pw l = true
          unfold mayR
          rw [hb, hg]
          simp [hwr.2]
        clear hn0 hn1 hg
        go_wp2_with (first | (refine wpList_load_mid rfl 60 (.tmp 2) rfl (N + 1) 0 rfl (rdV (inF l)) _ RR hU rfl (rdV_len _) ?_; simp only [Act.put, List.setIfInBounds_toArray, List.set_cons_zero, List.set_cons_succ]) | (refine wpList_store_row rfl 60 (.tmp 2) (.tmp 42) rfl (N + 1) 0 _ rfl rfl _ RS ?_; simp only [Act.put]) | fail)
        obtain ⟨hr9, hk9⟩ := HS.out
        generalize wr.setRow (N + 1) (rdV (inF l)).toArray = X at hr9 hk9 ⊢
        obtain ⟨n0, n1, n2, n3, n4, n5, n6, n7, n8⟩ := rd_nine hr9
        refine bodyPost_ret (v := .tuple #[.agg (rdV (inF l)).toArray, .bool true]) (by simp [results, Try.results27, go_sem, n0, n1, n2, n3, n4, n5, n6, n7, n8, rdV]) rfl ?_
        exact ⟨inF l, by rw [HM.out], ⟨fun _ => rfl, hk9⟩⟩
  · have HM : Hid (mayR pw l = false) := by
      show mayR pw l = false
      unfold mayR
      cases h : ((decide (1 ≤ pw) && decide (pw ≤ 8)) && decide (l ≠ [])) with
      | false => rfl
      | true =>
        simp only [Bool.and_eq_true, decide_eq_true_eq] at h
        exact absurd h hwr
    have RR := rd_cells KK.out.2.2
    have RS := set_row9 KK.out.2.2
    have HS : Hid ((W.setRow (N + 1) (rdV (inF [])).toArray).heap[N + 1]? = some (.cells (rdV (inF [])).toArray 60 (0, 0)) ∧ Kp w (W.setRow (N + 1) (rdV (inF [])).toArray)) := ⟨setRow_heap W (N + 1) _ _ 60 (0, 0) KK.out.2.2, Chg.setRow KK.out.1 (.inr (by rw [HN.out]; omega)) _⟩
    have hI1 := hI W
    by_cases hpw : 1 ≤ pw ∧ pw ≤ 8
    · have hb : (decide (1 ≤ pw) && decide (pw ≤ 8)) = true := by simp [hpw]
      have hl0 : ((l.length : Int) == 0) = true := by
        have : l = [] := Classical.byContradiction fun h => hwr ⟨hpw, h⟩
        simp [this]
      rw [hb] at hI1
      clear hwr hpw
      generalize l.length = n at hl0 d2 ⊢
      go_wp2_with (first | (refine wpList_load_mid rfl 60 (.tmp 2) rfl (N + 1) 0 rfl (rdV (inF [])) _ RR hU rfl (rdV_len _) ?_; simp only [Act.put, List.setIfInBounds_toArray, List.set_cons_zero, List.set_cons_succ]) | (refine wpList_store_row rfl 60 (.tmp 2) (.tmp 16) rfl (N + 1) 0 _ rfl rfl _ RS ?_; simp only [Act.put]) | (go_at_call 26; refine hI1.mono ?_; rintro e w2 ⟨rfl, hw2⟩; rw [hw2]; clear hw2) | fail)
      obtain ⟨hr9, hk9⟩ := HS.out
      generalize W.setRow (N + 1) (rdV (inF [])).toArray = X at hr9 hk9 ⊢
      obtain ⟨n0, n1, n2, n3, n4, n5, n6, n7, n8⟩ := rd_nine hr9
      refine bodyPost_ret (v := .tuple #[.agg (rdV (inF [])).toArray, .bool false]) (by simp [results, Try.results27, go_sem, n0, n1, n2, n3, n4, n5, n6, n7, n8, rdV]) rfl ?_
      exact ⟨inF [], by rw [HM.out], ⟨(fun h => by rw [HM.out] at h; cases h), hk9⟩⟩
    · have hb : (decide (1 ≤ pw) && decide (pw ≤ 8)) = false := by
        by_cases h1 : 1 ≤ pw
        · have h2 : ¬ pw ≤ 8 := fun h => hpw ⟨h1, h⟩
          simp [h2]
        · simp [h1]
      rw [hb] at hI1
      clear hwr hpw
      go_wp2_with (first | (refine wpList_load_mid rfl 60 (.tmp 2) rfl (N + 1) 0 rfl (rdV (inF [])) _ RR hU rfl (rdV_len _) ?_; simp only [Act.put, List.setIfInBounds_toArray, List.set_cons_zero, List.set_cons_succ]) | (refine wpList_store_row rfl 60 (.tmp 2) (.tmp 16) rfl (N + 1) 0 _ rfl rfl _ RS ?_; simp only [Act.put]) | (go_at_call 26; refine hI1.mono ?_; rintro e w2 ⟨rfl, hw2⟩; rw [hw2]; clear hw2) | fail)
      obtain ⟨hr9, hk9⟩ := HS.out
      generalize W.setRow (N + 1) (rdV (inF [])).toArray = X at hr9 hk9 ⊢
      obtain ⟨n0, n1, n2, n3, n4, n5, n6, n7, n8⟩ := rd_nine hr9
      refine bodyPost_ret (v := .tuple #[.agg (rdV (inF [])).toArray, .bool false]) (by simp [results, Try.results27, go_sem, n0, n1, n2, n3, n4, n5, n6, n7, n8, rdV]) rfl ?_
      exact ⟨inF [], by rw [HM.out], ⟨(fun h => by rw [HM.out] at h; cases h), hk9⟩⟩
end Go.Proofs.Ytibpbemenjgncaa
