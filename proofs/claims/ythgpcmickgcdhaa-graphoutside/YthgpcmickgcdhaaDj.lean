import Derived.Test.YthgpcmickgcdhaaDi
namespace Go.Proofs.Ythgpcmickgcdhaa
open Go.ChangeShapes Go.WideShapes Go.ChangeAt Go.RowKit
set_option linter.unusedVariables false
theorem build33v (w : World) (a b : Int) (f : Bool) : (Instr.build 33 #[(0, .int .i64 a), (1, .int .i64 b), (5, .bool f)]).run Try.prog w = .ok (.agg #[.int .i64 a, .int .i64 b, .int .i64 0, .int .i64 0, .int .i64 0, .bool f]) w := by kernel_rfl
theorem que_more {w : World} {p : Inp} {n g cap : Nat} {a b : Int} {f : Bool} (hn : n = min p.nq 100) (oq : w.ownsRow 0 33 6 (.slice (some ⟨g, 0, none⟩) (n + 1) cap) (n + 1) (qlF p n ++ [.int .i64 a, .int .i64 b, .int .i64 0, .int .i64 0, .int .i64 0, .bool f])) (i : Nat) (hi : i < ((cutC p).more ⟨a, b, f⟩).Q.length) :
    ∃ x2 x3 x4 : Int, w.rangeAt g (0 + i * 6) [.int .i64 ((cutC p).more ⟨a, b, f⟩).Q[i].w, .int .i64 ((cutC p).more ⟨a, b, f⟩).Q[i].r, .int .i64 x2, .int .i64 x3, .int .i64 x4, .bool ((cutC p).more ⟨a, b, f⟩).Q[i].f] := by
  have hl : (cutC p).Q.length = n := by simp [cutC, hn]
  by_cases h : i < n
  · have := que_of (own_pre oq (by omega) (qlF_len p n)) i h
    have e : ((cutC p).more ⟨a, b, f⟩).Q[i] = ⟨p.qw i, p.qr i, p.qf i⟩ := by
      simp only [Cf.more]
      rw [List.getElem_append_left (by omega)]
      simp [cutC]
    rw [e]
    exact ⟨_, _, _, this⟩
  · obtain rfl : i = n := by simp [Cf.more] at hi; omega
    have e : ((cutC p).more ⟨a, b, f⟩).Q[i] = ⟨a, b, f⟩ := by
      simp only [Cf.more]
      rw [List.getElem_append_right (by omega)]
      simp
    rw [e]
    refine ⟨0, 0, 0, fun j v hv => ?_⟩
    rw [Nat.zero_add]
    refine own_cells oq (i * 6 + j) v ?_
    rw [List.getElem?_append_right (by rw [qlF_len]; omega), qlF_len, show i * 6 + j - i * 6 = j by omega]
    exact hv
set_option maxHeartbeats 16000000 in
set_option maxRecDepth 100000 in
theorem outside_walk (w : World) (p : Inp) (h : IsIn w p) (pg mj : Int) (hpg : p.A.a0 = .int .i64 pg) (hmj : p.A.a7 = .int .u64 mj) (c a b : Int) (fl : Bool) :
    Calls Try.prog 4 #[.agg (inV p).toArray, .int .i64 c, .int .i64 a, .int .i64 b, .bool fl] w fun e w' => e = .returned (.bool true) ∧ Kp w w' := by
  have hU31 := Try.underlying31
  have hz := fun w => zero31 w
  have hZs : Z31.size = 12 := rfl
  have hmk := fun w => make26 w
  have hb33 := fun w => build33e w
  -- the worlds of the first two regions
  obtain ⟨w1, hw1⟩ : ∃ w1, w1 = w.alloc (.cells (inV p).toArray 31) := ⟨_, rfl⟩
  have k1 : Kp w w1 := by rw [hw1]; exact (Chg.refl _ _).alloc _
  have n1 : w1.heap[w.heap.size]? = some (.cells (inV p).toArray 31 (0, 0)) := by rw [hw1]; exact heap_alloc_new w _
  obtain ⟨w2, hw2⟩ : ∃ w2, w2 = w1.alloc (.cells #[.string ⟨#[]⟩, .int .u32 0, .slice none 0 0, .slice none 0 0, .string ⟨#[]⟩, .int .u32 0, .slice none 0 0, .slice none 0 0] 81) := ⟨_, rfl⟩
  have k2 : Kp w1 w2 := by rw [hw2]; exact (Chg.refl _ _).alloc _
  obtain ⟨w3, hw3⟩ : ∃ w3, w3 = w2.alloc (.cells #[.int .i64 1, .int .i64 2, .int .i64 0, .int .i64 0, .int .i64 0, .bool false] 33) := ⟨_, rfl⟩
  have k3 : Kp w2 w3 := by rw [hw3]; exact (Chg.refl _ _).alloc _
  have n3 : w3.heap[w2.heap.size]? = some (.cells #[.int .i64 1, .int .i64 2, .int .i64 0, .int .i64 0, .int .i64 0, .bool false] 33 (0, 0)) := by rw [hw3]; exact heap_alloc_new w2 _
  obtain ⟨w4, hw4⟩ : ∃ w4, w4 = w3.alloc (.cells Z31 31) := ⟨_, rfl⟩
  have k4 : Kp w3 w4 := by rw [hw4]; exact (Chg.refl _ _).alloc _
  have n4 : w4.heap[w3.heap.size]? = some (.cells Z31 31 (0, 0)) := by rw [hw4]; exact heap_alloc_new w3 _
  have hb31 := fun w => build31e w w1.heap.size w2.heap.size false
  have i3 : IsC w3 (A2 w1.heap.size w2.heap.size) (g2 false) := isc2 n3
  obtain ⟨L2, hL2⟩ : ∃ L2, L2 = cfC (A2 w1.heap.size w2.heap.size) (g2 false) := ⟨_, rfl⟩
  have hst := store31 w4 w3.heap.size Z31 L2.toArray n4 hZs (by rw [hL2]; rfl) (fun v hv => i3.one v (by rw [← hL2]; simpa using hv))
  obtain ⟨w5, hw5⟩ : ∃ w5, w5 = w4.setRow w3.heap.size L2.toArray := ⟨_, rfl⟩
  have n5 : w5.heap[w3.heap.size]? = some (.cells L2.toArray 31 (0, 0)) := by rw [hw5]; exact setRow_heap w4 w3.heap.size _ _ 31 _ n4
  have c5 : Chg w4 w5 (fun k => k = w3.heap.size) := by rw [hw5]; exact Chg.setRow (S := fun k => k = w3.heap.size) (Chg.refl w4 _) (.inl rfl) _
  rw [← hw5] at hst
  have k5 : Kp w3 w5 := Chg.trans k4 c5 (fun i hi e => by omega)
  have kw5 : Kp w w5 := Kp.trans (Kp.trans (Kp.trans k1 k2) k3) k5
  have nb5 : w5.heap[w.heap.size]? = some (.cells (inV p).toArray 31 (0, 0)) := k5.heap (k3.heap (k2.heap n1))
  have rL2 : w5.rangeAt w3.heap.size 0 L2 := fun j v hv => by rw [Nat.zero_add, (cells_at n5 j).1, List.getElem?_toArray]; exact hv
  have l31b : (Try.prog.info? 31).map (·.size) = some L2.length := by rw [hL2]; exact size31 _ _
  have hB1 := bears12 w5 _ _ (i3.kp k5)
  have hB2 := fun V (k : Kp w5 V) => bears21 V _ _ ((i3.kp k5).kp k)
  rw [← hL2] at hB1 hB2
  rw [← hL2] at hb31
  obtain ⟨LC, hLC⟩ : ∃ LC, LC = inV p := ⟨_, rfl⟩
  have hIn : IsIn w5 p := h.kp kw5
  have HP : Hid (IsIn w5 p ∧ p.A.a0 = .int .i64 pg ∧ p.A.a7 = .int .u64 mj ∧ w5.heap[w.heap.size]? = some (.cells (inV p).toArray 31 (0, 0)) ∧ Kp w w5 ∧ LC = inV p) := ⟨hIn, hpg, hmj, nb5, kw5, hLC⟩
  rw [← hLC] at hw1 ⊢
  have HW1 : Hid (w1 = w.alloc (.cells LC.toArray 31)) := hw1
  have HW2 : Hid (w2 = w1.alloc (.cells #[.string ⟨#[]⟩, .int .u32 0, .slice none 0 0, .slice none 0 0, .string ⟨#[]⟩, .int .u32 0, .slice none 0 0, .slice none 0 0] 81)) := hw2
  have HW3 : Hid (w3 = w2.alloc (.cells #[.int .i64 1, .int .i64 2, .int .i64 0, .int .i64 0, .int .i64 0, .bool false] 33)) := hw3
  have HW4 : Hid (w4 = w3.alloc (.cells Z31 31)) := hw4
  have hmk1 := hmk w1
  rw [← hw2] at hmk1
  have hs3 : w3.heap.size = w2.heap.size + 1 := by rw [hw3]; simp
  rw [hw4, hw3] at hst
  have hst2 := hst
  rw [show (w2.alloc (.cells #[.int .i64 1, .int .i64 2, .int .i64 0, .int .i64 0, .int .i64 0, .bool false] 33)).heap.size = w2.heap.size + 1 by simp] at hst2
  clear hs3
  clear hmk hw1 hw2 hw3 hw4 hw5 k1 k2 k3 k4 k5 kw5 n1 n3 n4 n5 c5 i3 hIn nb5 hLC hL2 h hpg hmj
  go_enter Try.func4, Try.ntmps4
  go_upto_region 1 with (refine wpList_box_run rfl 31 (.tmp 0) rfl LC.toArray rfl ?_; simp only [Act.put, List.setIfInBounds_toArray, List.set_cons_zero, List.set_cons_succ])
  rw [← HW1.out]
  generalize Z31 = Z at *
  go_upto_region 2 with (first
    | (refine wpList_build_run rfl 33 _ rfl #[(0, .int .i64 1), (1, .int .i64 2)] (by simp [Act.eval]) _ (hb33 _) ?_; simp only [Act.put, List.setIfInBounds_toArray, List.set_cons_zero, List.set_cons_succ])
    | (refine wpList_build_run rfl 31 _ rfl #[(6, .slice (some ⟨w1.heap.size, 0, none⟩) 2 2), (9, .slice (some ⟨w2.heap.size, 0, none⟩) 1 1)] (by simp [Act.eval]) _ (hb31 _) ?_; simp only [Act.put, List.setIfInBounds_toArray, List.set_cons_zero, List.set_cons_succ])
    | (refine wpList_alloc_zero _ rfl 31 Z rfl (hz _) ?_; simp only [Act.put, List.setIfInBounds_toArray, List.set_cons_zero, List.set_cons_succ])
    | (refine wpList_store_row rfl 31 (.tmp 11) (.tmp 22) rfl _ 0 L2.toArray rfl rfl _ hst ?_; simp only [Act.put])
    | (refine wpList_store_row rfl 31 (.tmp 11) (.tmp 22) rfl _ 0 L2.toArray rfl rfl _ hst2 ?_; simp only [Act.put])
    | fail)
  clear hst hst2 hmk1 hb33 hb31
  rw [← HW3.out]
  clear HW1 HW2 HW3 HW4
  generalize w3.heap.size = tb at *
  go_wp2_with (first | (refine wpList_load_mid rfl 31 (.tmp 11) rfl tb 0 rfl L2 _ rL2 hU31 rfl l31b ?_; simp only [Act.put, List.setIfInBounds_toArray, List.set_cons_zero, List.set_cons_succ]) | fail)
  go_at_call 10
  refine hB1.mono ?_
  rintro e w6 ⟨rfl, k6⟩
  have r6 := range_kp rL2 k6
  have hB3 := hB2 w6 k6
  clear hB1 hB2 rL2
  go_wp2_with (first | (refine wpList_load_mid rfl 31 (.tmp 11) rfl tb 0 rfl L2 _ r6 hU31 rfl l31b ?_; simp only [Act.put, List.setIfInBounds_toArray, List.set_cons_zero, List.set_cons_succ]) | fail)
  go_at_call 10
  refine hB3.mono ?_
  rintro e w7 ⟨rfl, k7⟩
  clear hB3 r6 l31b
  have HP7 : Hid (IsIn w7 p ∧ p.A.a0 = .int .i64 pg ∧ p.A.a7 = .int .u64 mj ∧ w7.heap[w.heap.size]? = some (.cells (inV p).toArray 31 (0, 0)) ∧ Kp w w7 ∧ LC = inV p) := by
    obtain ⟨q1, q2, q3, q4, q5, q6⟩ := HP.out
    have k := Kp.trans k6 k7
    exact ⟨q1.kp k, q2, q3, k.heap q4, Kp.trans q5 k, q6⟩
  clear HP k6 k7
  have hLt := lent_any w7 p HP7.out.1 pg mj HP7.out.2.1 HP7.out.2.2.1
  have r7 : w7.rangeAt w.heap.size 0 LC := fun j v hv => by rw [Nat.zero_add, (cells_at HP7.out.2.2.2.1 j).1, List.getElem?_toArray, ← HP7.out.2.2.2.2.2]; exact hv
  have l31c : (Try.prog.info? 31).map (·.size) = some LC.length := by rw [HP7.out.2.2.2.2.2]; show _ = some 12; kernel_rfl
  rw [← HP7.out.2.2.2.2.2] at hLt
  generalize hgb : w.heap.size = gb at *
  have HGB : Hid (w.heap.size = gb) := hgb
  clear hgb
  go_wp2_with (first | (refine wpList_load_mid rfl 31 (.tmp 5) rfl gb 0 rfl LC _ r7 hU31 rfl l31c ?_; simp only [Act.put, List.setIfInBounds_toArray, List.set_cons_zero, List.set_cons_succ]) | fail)
  go_at_call 7
  refine hLt.mono ?_
  rintro e w8 ⟨A, rfl, hT⟩
  clear hLt r7 l31c
  -- the box holds the cut configuration
  have g8 := hT.kp.heap HP7.out.2.2.2.1
  have hst8 := store31 w8 gb _ (cfC A (cutC p)).toArray g8 rfl rfl (fun v hv => hT.one v (by simpa using hv))
  obtain ⟨w9, hw9⟩ : ∃ w9, w9 = w8.setRow gb (cfC A (cutC p)).toArray := ⟨_, rfl⟩
  have g9 : w9.heap[gb]? = some (.cells (cfC A (cutC p)).toArray 31 (0, 0)) := by rw [hw9]; exact setRow_heap w8 gb _ _ 31 _ g8
  have c9 : Chg w8 w9 (fun k => k = gb) := by rw [hw9]; exact Chg.setRow (S := fun k => k = gb) (Chg.refl w8 _) (.inl rfl) _
  rw [← hw9] at hst8
  have hgb7 : gb < w7.heap.size := hp_lt HP7.out.2.2.2.1
  have T9 : LtE w w9 A p := hT.later HP7.out.2.2.2.2.1 c9 (fun i e => by omega) (fun i e => by have := HGB.out; omega)
  have r9 := cfRange g9
  have l31d := size31 A (cutC p)
  have hS := sources_any w9 A (cutC p) T9.isc c
  obtain ⟨LD, hLD⟩ : ∃ LD, LD = cfC A (cutC p) := ⟨_, rfl⟩
  rw [← hLD] at r9 l31d hS hst8 ⊢
  have HSt : Hid (∀ (V : World) (S : Nat → Prop), Chg w9 V S → (∀ i, S i → i = gb ∨ (Value.slice A.pq (min p.nq 100) A.cq).ownBlock = some i) → SamIn V A.ps (cutC p).S) := fun V S hc hS => hT.st V (fun i => i = gb ∨ S i) (Chg.trans (c9.mono (fun _ _ e => .inl e)) hc (fun i hi e => .inr e)) (fun i e => by
    rcases e with e | e
    · exact .inl (by omega)
    · rcases hS i e with e2 | e2
      · exact .inl (by omega)
      · exact .inr e2)
  have HT9 : Hid (LtE w w9 A p ∧ w9.heap[gb]? = some (.cells (cfC A (cutC p)).toArray 31 (0, 0)) ∧ LD = cfC A (cutC p)) := ⟨T9, g9, hLD⟩
  clear hT g8 hw9 g9 c9 hgb7 T9 hLD HP7
  go_upto_region 7 with (first | (refine wpList_store_row rfl 31 (.tmp 5) (.tmp 33) rfl gb 0 LD.toArray rfl rfl _ hst8 ?_; simp only [Act.put]) | fail)
  clear hst8
  go_wp2_with (first | (refine wpList_load_mid rfl 31 (.tmp 5) rfl gb 0 rfl LD _ r9 hU31 rfl l31d ?_; simp only [Act.put, List.setIfInBounds_toArray, List.set_cons_zero, List.set_cons_succ]) | fail)
  go_at_call 6
  refine hS.mono ?_
  rintro e w10 ⟨v1, l1, rfl, hS1⟩
  clear hS r9
  have hn := cut_n p
  have hlen := nodup_le (hS1.pw.imp (fun {a b} h => by omega)) hS1.rg
  have hi1 := in_any w10 v1 (zs l1) hS1.own.rd b (by rw [zs_len]; omega)
  have hi2 := in_any w10 v1 (zs l1) hS1.own.rd a (by rw [zs_len]; omega)
  have HS1 : Hid (ToS w9 w10 (cutC p) c v1 l1) := hS1
  clear hS1
  go_wp2_with fail
  go_at_call 9
  refine hi1.mono ?_
  rintro e w10' ⟨rfl, hx⟩
  have hx' := hx.symm
  subst hx'
  clear hi1
  go_wp2_with fail
  go_at_call 9
  refine hi2.mono ?_
  rintro e w10'' ⟨rfl, hx⟩
  have hx' := hx.symm
  subst hx'
  clear hi2
  have HFin : Hid (Kp w w10) := Kp.trans HT9.out.1.kp HS1.out.kp
  by_cases hb : b ∈ zs l1
  · rw [show decide (b ∈ zs l1) = true by simp [hb]]
    go_wp2_with fail
    go_ret
    exact ⟨rfl, HFin.out⟩
  · rw [show decide (b ∈ zs l1) = false by simp [hb]]
    by_cases hfa : fl = true ∧ a ∈ zs l1
    · obtain ⟨rfl, ha⟩ := hfa
      rw [show decide (a ∈ zs l1) = true by simp [ha]]
      go_wp2_with fail
      go_ret
      exact ⟨rfl, HFin.out⟩
    · have hpk : ∀ x, x = decide (a ∈ zs l1) → (fl = false ∨ x = false) := fun x hx => by
        cases fl with
        | false => exact .inl rfl
        | true => right; rw [hx]; simp at hfa; simp [hfa]
      have HA : Hid (fl = true → a ∉ zs l1) := fun hf ha => hfa ⟨hf, ha⟩
      obtain ⟨ba, hba⟩ : ∃ ba, ba = decide (a ∈ zs l1) := ⟨_, rfl⟩
      have hpk2 := hpk ba hba
      rw [← hba]
      clear hpk hba hfa
      -- one queue more
      have oq10 : w10.ownsRow 0 33 6 (.slice A.pq (min p.nq 100) A.cq) (min p.nq 100) (qlF p (min p.nq 100)) := Chg.owns HS1.out.kp HT9.out.1.oq (fun _ _ e => e)
      obtain ⟨v', wa, hrun, ho, hch, hL, g, nn, cc, hv⟩ := appQ w10 _ _ _ [.int .i64 a, .int .i64 b, .int .i64 0, .int .i64 0, .int .i64 0, .bool fl] oq10 rfl (fun u hu => by simp at hu; rcases hu with rfl | rfl | rfl | rfl <;> rfl) (by omega)
      obtain ⟨an, cn, hsh⟩ := own_shape ho
      have hnn : v' = .slice (some ⟨g, 0, none⟩) (min p.nq 100 + 1) cc := by rw [hsh] at hv; simp at hv; rw [hsh]; simp [hv]
      clear hsh hv
      rw [hnn] at hrun ho hL
      clear hnn
      have g10 := HS1.out.kp.heap HT9.out.2.1
      have tyq : ∀ i, (Value.slice A.pq (min p.nq 100) A.cq).ownBlock = some i → ∃ cur, w10.heap[i]? = some (.cells cur 33 (0, 0)) := fun i hi => own_ty oq10 hi
      have ga : wa.heap[gb]? = _ := hch.heap g10 (fun e => ne_ty (tyq _ e) ⟨_, g10⟩ (by decide) rfl)
      have c11 : w10.cell? ⟨gb, 11, none⟩ = some (.slice A.pq (min p.nq 100) A.cq) := by rw [(cells_at g10 11).1]; simp [cfC, cutC]
      have c11a : wa.cell? ⟨gb, 11, none⟩ = some (.slice A.pq (min p.nq 100) A.cq) := by rw [(cells_at ga 11).1]; simp [cfC, cutC]
      have f11a := (cells_at ga 11).2
      obtain ⟨w11, hw11⟩ : ∃ w11, w11 = wa.setCell ⟨gb, 11, none⟩ (.slice (some ⟨g, 0, none⟩) (min p.nq 100 + 1) cc) := ⟨_, rfl⟩
      have kc : Chg wa w11 (fun k => k = gb) := by rw [hw11]; exact Chg.setCell (S := fun k => k = gb) (Chg.refl wa _) (.inl rfl) _
      obtain ⟨A', hA'⟩ : ∃ A', A' = { A with pq := some ⟨g, 0, none⟩, cq := cc } := ⟨_, rfl⟩
      have hl1 : ((cutC p).more ⟨a, b, fl⟩).Q.length = min p.nq 100 + 1 := by simp [Cf.more, cutC]
      have g11 : w11.heap[gb]? = some (.cells (cfC A' ((cutC p).more ⟨a, b, fl⟩)).toArray 31 (0, 0)) := by
        rw [hw11, heap_setCell_same wa gb 11 _ 31 _ ga]
        congr 2
        simp only [cfC, hA', hl1]
        rfl
      have ow : ∀ k, (Value.slice (some ⟨g, 0, none⟩) (min p.nq 100 + 1) cc).ownBlock = some k → k ≠ gb := fun k hk => ne_ty (own_ty ho hk) ⟨_, ga⟩ (by decide)
      have o11 := kc.owns ho (fun k hk e => ow k hk e)
      have c911 : Chg w9 w11 (fun i => i = gb ∨ (Value.slice A.pq (min p.nq 100) A.cq).ownBlock = some i) := Chg.trans (Chg.trans (HS1.out.kp.any) hch (fun i hi e => .inr e)) kc (fun i hi e => .inl e)
      have sam11 := HSt.out w11 _ c911 (fun i e => e)
      have bd := cut_bd p
      have bs := cut_bs p
      have i11 : IsC w11 A' ((cutC p).more ⟨a, b, fl⟩) := by
        refine ⟨fun v hv => ?_, ?_, .inr ⟨g, 0, by rw [hA'], fun i hi => que_more rfl o11 i hi⟩, cut_n p, ?_, bs⟩
        · have h9 := HT9.out.1.one
          simp only [cfC, hA', List.mem_cons, List.not_mem_nil, or_false] at hv
          simp only [cfC, List.mem_cons, List.not_mem_nil, or_false] at h9
          rcases hv with e | e | e | e | e | e | e | e | e | e | e | e
          · exact h9 v (by simp [e])
          · exact h9 v (by simp [e])
          · exact h9 v (by simp [e])
          · exact h9 v (by simp [e])
          · exact h9 v (by simp [e])
          · exact h9 v (by simp [e])
          · exact h9 v (by simp [e])
          · exact h9 v (by simp [e])
          · rw [e]; rfl
          · exact h9 v (by simp [e])
          · rw [e]; rfl
          · rw [e]; rfl
        · rw [hA']; exact sam11
        · simp only [Cf.more, List.length_append, List.length_singleton] at bd ⊢
          omega
      have hS := sources_any w11 A' ((cutC p).more ⟨a, b, fl⟩) i11 c
      have r11 := cfRange g11
      have l31e := size31 A' ((cutC p).more ⟨a, b, fl⟩)
      obtain ⟨LE, hLE⟩ : ∃ LE, LE = cfC A' ((cutC p).more ⟨a, b, fl⟩) := ⟨_, rfl⟩
      rw [← hLE] at hS r11 l31e
      have hb33v := fun w => build33v w a b fl
      have HK11 : Hid (Kp w w11) := Chg.trans (Chg.trans HFin.out hch (fun i hi e => by have := HT9.out.1.nw i e; omega)) kc (fun i hi e => by have := HGB.out; omega)
      have own1 : OI w11 v1 (zs l1) := by
        have h1 : OI wa v1 (zs l1) := hch.owns HS1.out.own (fun k hk e => ne_ty (HS1.out.own.ty hk) (tyq _ e) (by decide) rfl)
        exact kc.owns h1 (fun k hk e => ne_ty (h1.ty hk) ⟨_, ga⟩ (by decide) e)
      have HO1 : Hid (OI w11 v1 (zs l1)) := own1
      have HW11 : Hid (w11 = wa.setCell ⟨gb, 11, none⟩ (.slice (some ⟨g, 0, none⟩) (min p.nq 100 + 1) cc)) := hw11
      have hnq : min p.nq 100 ≤ 100 := by omega
      clear oq10 ho hch hL g10 tyq ga hw11 kc hA' hl1 g11 ow o11 c911 sam11 bd bs i11 hLE own1 HSt HT9 l31d
      generalize min p.nq 100 = nq at *
      cases fl with
      | false =>
        clear hpk2
        go_upto_region 13 with (first
          | (refine wpList_build_run rfl 33 _ rfl #[(0, .int .i64 a), (1, .int .i64 b), (5, .bool false)] (by simp [Act.eval]) _ (hb33v _) ?_; simp only [Act.put, List.setIfInBounds_toArray, List.set_cons_zero, List.set_cons_succ])
          | (at_builtin; refine wpList_append_run _ rfl (.tmp 51) (.tmp 56) 29 29 rfl _ _ _ wa rfl rfl hrun ?_))
        rw [← HW11.out]
        clear hrun c11 c11a f11a HW11 hb33v
        go_wp2_with (first | (refine wpList_load_mid rfl 31 (.tmp 5) rfl gb 0 rfl LE _ r11 hU31 rfl l31e ?_; simp only [Act.put, List.setIfInBounds_toArray, List.set_cons_zero, List.set_cons_succ]) | fail)
        go_at_call 6
        refine hS.mono ?_
        rintro e w12 ⟨v2, l2, rfl, hS2⟩
        clear hS r11
        have hl := same_sources HS1.out hS2 hb (fun hf => HA.out (by first | exact hf | trivial))
        subst hl
        have o1 := (Chg.owns hS2.kp HO1.out (fun _ _ e => e) : OI w12 v1 (zs l1))
        have o2 := hS2.own
        obtain ⟨x1, cx1, hv1, hr1⟩ := (OI.rd (l := zs l1) o1).ex
        obtain ⟨x2, cx2, hv2, hr2⟩ := (OI.rd (l := zs l1) o2).ex
        have HK12 : Hid (Kp w w12) := Kp.trans HK11.out hS2.kp
        have HR : Hid ((zs l1 = [] ∨ ∃ b o, x1 = some ⟨b, o, none⟩ ∧ ∀ j (h : j < (zs l1).length), w12.cell? ⟨b, o + j, none⟩ = some (.int .i64 (zs l1)[j])) ∧ (zs l1 = [] ∨ ∃ b o, x2 = some ⟨b, o, none⟩ ∧ ∀ j (h : j < (zs l1).length), w12.cell? ⟨b, o + j, none⟩ = some (.int .i64 (zs l1)[j]))) := ⟨hr1, hr2⟩
        have hzl : (zs l1).length ≤ 100000 := by rw [zs_len]; omega
        clear o1 o2 hr1 hr2 hS2 HS1 HO1 HK11 hb HA HFin hlen hn
        subst hv1
        subst hv2
        generalize zs l1 = zl at *
        go_wp2_with fail
        go_loopw [18] (fun s18 wr => ∃ j : Nat, s18 = .int .i64 j ∧ j ≤ zl.length ∧ Hid (Kp w12 wr)) (fun s18 _ => zl.length - nI s18)
        case atStart => exact ⟨0, rfl, by omega, Kp.refl _⟩
        case round =>
          obtain ⟨j, rfl, hj, HKr⟩ := hrel
          by_cases hlt : j < zl.length
          · have hjz : (j : Int) < (zl.length : Int) := by omega
            rcases HR.out.1 with e | ⟨b1, o1, rfl, h1⟩
            · rw [e] at hlt; simp at hlt
            rcases HR.out.2 with e | ⟨b2, o2, rfl, h2⟩
            · rw [e] at hlt; simp at hlt
            have d1 := HKr.out.cell (h1 j hlt)
            have d2 := HKr.out.cell (h2 j hlt)
            generalize zl[j] = xj at d1 d2
            clear h1 h2
            go_wp2_with fail
            go_quiet (fail)
            rename_i nq
            have HN : Hid (Kp w12 (wr.drewN nq)) := Chg.drewN HKr.out nq
            go_wp2_with fail
            exact ⟨⟨j + 1, by go_num, by omega, HN⟩, by simp [nI]; omega⟩
          · have hjz : ¬ (j : Int) < (zl.length : Int) := by omega
            obtain rfl : j = zl.length := by omega
            go_wp2_with fail
            go_ret
            exact ⟨rfl, Kp.trans HK12.out HKr.out⟩
      | true =>
        obtain rfl : ba = false := by simpa using hpk2
        clear hpk2
        go_upto_region 13 with (first
          | (refine wpList_build_run rfl 33 _ rfl #[(0, .int .i64 a), (1, .int .i64 b), (5, .bool true)] (by simp [Act.eval]) _ (hb33v _) ?_; simp only [Act.put, List.setIfInBounds_toArray, List.set_cons_zero, List.set_cons_succ])
          | (at_builtin; refine wpList_append_run _ rfl (.tmp 51) (.tmp 56) 29 29 rfl _ _ _ wa rfl rfl hrun ?_))
        rw [← HW11.out]
        clear hrun c11 c11a f11a HW11 hb33v
        go_wp2_with (first | (refine wpList_load_mid rfl 31 (.tmp 5) rfl gb 0 rfl LE _ r11 hU31 rfl l31e ?_; simp only [Act.put, List.setIfInBounds_toArray, List.set_cons_zero, List.set_cons_succ]) | fail)
        go_at_call 6
        refine hS.mono ?_
        rintro e w12 ⟨v2, l2, rfl, hS2⟩
        clear hS r11
        have hl := same_sources HS1.out hS2 hb (fun hf => HA.out (by first | exact hf | trivial))
        subst hl
        have o1 := (Chg.owns hS2.kp HO1.out (fun _ _ e => e) : OI w12 v1 (zs l1))
        have o2 := hS2.own
        obtain ⟨x1, cx1, hv1, hr1⟩ := (OI.rd (l := zs l1) o1).ex
        obtain ⟨x2, cx2, hv2, hr2⟩ := (OI.rd (l := zs l1) o2).ex
        have HK12 : Hid (Kp w w12) := Kp.trans HK11.out hS2.kp
        have HR : Hid ((zs l1 = [] ∨ ∃ b o, x1 = some ⟨b, o, none⟩ ∧ ∀ j (h : j < (zs l1).length), w12.cell? ⟨b, o + j, none⟩ = some (.int .i64 (zs l1)[j])) ∧ (zs l1 = [] ∨ ∃ b o, x2 = some ⟨b, o, none⟩ ∧ ∀ j (h : j < (zs l1).length), w12.cell? ⟨b, o + j, none⟩ = some (.int .i64 (zs l1)[j]))) := ⟨hr1, hr2⟩
        have hzl : (zs l1).length ≤ 100000 := by rw [zs_len]; omega
        clear o1 o2 hr1 hr2 hS2 HS1 HO1 HK11 hb HA HFin hlen hn
        subst hv1
        subst hv2
        generalize zs l1 = zl at *
        go_wp2_with fail
        go_loopw [18] (fun s18 wr => ∃ j : Nat, s18 = .int .i64 j ∧ j ≤ zl.length ∧ Hid (Kp w12 wr)) (fun s18 _ => zl.length - nI s18)
        case atStart => exact ⟨0, rfl, by omega, Kp.refl _⟩
        case round =>
          obtain ⟨j, rfl, hj, HKr⟩ := hrel
          by_cases hlt : j < zl.length
          · have hjz : (j : Int) < (zl.length : Int) := by omega
            rcases HR.out.1 with e | ⟨b1, o1, rfl, h1⟩
            · rw [e] at hlt; simp at hlt
            rcases HR.out.2 with e | ⟨b2, o2, rfl, h2⟩
            · rw [e] at hlt; simp at hlt
            have d1 := HKr.out.cell (h1 j hlt)
            have d2 := HKr.out.cell (h2 j hlt)
            generalize zl[j] = xj at d1 d2
            clear h1 h2
            go_wp2_with fail
            go_quiet (fail)
            rename_i nq
            have HN : Hid (Kp w12 (wr.drewN nq)) := Chg.drewN HKr.out nq
            go_wp2_with fail
            exact ⟨⟨j + 1, by go_num, by omega, HN⟩, by simp [nI]; omega⟩
          · have hjz : ¬ (j : Int) < (zl.length : Int) := by omega
            obtain rfl : j = zl.length := by omega
            go_wp2_with fail
            go_ret
            exact ⟨rfl, Kp.trans HK12.out HKr.out⟩
end Go.Proofs.Ythgpcmickgcdhaa
