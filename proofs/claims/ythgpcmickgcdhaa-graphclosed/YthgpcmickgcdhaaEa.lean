import Derived.Test.YthgpcmickgcdhaaDi
namespace Go.Proofs.Ythgpcmickgcdhaa
open Go.ChangeShapes Go.WideShapes Go.ChangeAt Go.RowKit
set_option linter.unusedVariables false
theorem build33t (w : World) : (Instr.build 33 #[(0, .int .i64 1), (1, .int .i64 2), (5, .bool true)]).run Try.prog w = .ok (.agg #[.int .i64 1, .int .i64 2, .int .i64 0, .int .i64 0, .int .i64 0, .bool true]) w := by kernel_rfl
/-- Of the two cells both bear on the first. -/
theorem two_len {w w' : World} {v : Value} {l : List Nat} (h : ToS w w' (g2 true) 1 v l) : l.length = 2 := by
  have : l = [1, 2] := by
    refine sorted_ext h.pw (by simp) (fun x => ?_)
    rw [h.mem x]
    have r1 : Rch (Dn (g2 true)) 1 1 := .refl
    have r2 : Rch (Dn (g2 true)) 1 2 := .step (show Dn (g2 true) 2 1 by unfold Dn; decide) .refl
    constructor
    · intro hx
      have := h.rg x ((h.mem x).2 hx)
      simp only [g2] at this
      have : x = 1 ∨ x = 2 := by omega
      simpa using this
    · intro hx
      simp at hx
      rcases hx with rfl | rfl
      · exact ⟨by omega, by simp [g2], r1⟩
      · exact ⟨by omega, by simp [g2], r2⟩
  rw [this]; rfl
theorem mem_zs {l : List Nat} {x : Nat} : (x : Int) ∈ zs l ↔ x ∈ l := by
  simp only [zs, List.mem_map]
  constructor
  · rintro ⟨y, hy, e⟩; obtain rfl : y = x := by omega
    exact hy
  · intro h; exact ⟨x, h, rfl⟩
theorem same_len {l l' : List Nat} (h : l.Nodup) (h' : l'.Nodup) (hm : ∀ x, x ∈ l ↔ x ∈ l') : l.length = l'.length := ((List.perm_ext_iff_of_nodup h h').2 hm).length_eq
/-- Who bears on a cell, while it is looked for. -/
structure ReI (w wr : World) (g : Cf) (c : Nat) (rv : Value) (r : List Nat) : Prop where
  own : OI wr rv (zs r)
  nw : ∀ k, rv.ownBlock = some k → w.heap.size ≤ k
  kp : Kp w wr
  rg : RG (Dn g) g.n c r
theorem ReI.step {w wr wa : World} {g : Cf} {c : Nat} {rv v' : Value} {r : List Nat} (h : ReI w wr g c rv r) {x : Nat} (ho : OI wa v' (zs r ++ [(x : Int)])) (hch : Chg wr wa (fun i => rv.ownBlock = some i)) (hL : v'.ownBlock = rv.ownBlock ∨ ∃ k, v'.ownBlock = some k ∧ wr.heap.size < k) (hr : RG (Dn g) g.n c (r ++ [x])) : ReI w wa g c v' (r ++ [x]) := by
  refine ⟨by rw [zs_app]; exact ho, fun k hk => ?_, Chg.trans h.kp hch (fun i hi e => by have := h.nw i e; omega), hr⟩
  rcases hL with e | ⟨k', e, hk'⟩
  · rw [e] at hk; exact h.nw k hk
  · rw [e] at hk; obtain rfl : k' = k := by simpa using hk
    have := h.kp.size; omega
theorem fold_step (l : List (Nat × Nat)) (r : List Nat) (i : Nat) (hi : i < l.length) : (l.take (i + 1)).foldl rstep r = rstep ((l.take i).foldl rstep r) l[i] := by
  rw [List.take_succ_eq_append_getElem hi, List.foldl_append]; rfl
theorem fold_all (l : List (Nat × Nat)) (k : Nat) (c : Nat) : (l.take l.length).foldl rstep (rrounds l k [c]) = rrounds l (k + 1) [c] := by
  rw [List.take_length]; rfl
set_option maxHeartbeats 32000000 in
set_option maxRecDepth 100000 in
theorem closed_walk (w : World) (p : Inp) (h : IsIn w p) (pg mj : Int) (hpg : p.A.a0 = .int .i64 pg) (hmj : p.A.a7 = .int .u64 mj) :
    Calls Try.prog 3 #[.agg (inV p).toArray] w fun e w' => e = .returned (.bool true) ∧ Kp w w' := by
  have hU31 := Try.underlying31
  have hz := fun w => zero31 w
  have hZs : Z31.size = 12 := rfl
  have hmk := fun w => make26 w
  have hb33 := fun w => build33t w
  obtain ⟨w1, hw1⟩ : ∃ w1, w1 = w.alloc (.cells (inV p).toArray 31) := ⟨_, rfl⟩
  have k1 : Kp w w1 := by rw [hw1]; exact (Chg.refl _ _).alloc _
  have n1 : w1.heap[w.heap.size]? = some (.cells (inV p).toArray 31 (0, 0)) := by rw [hw1]; exact heap_alloc_new w _
  obtain ⟨w2, hw2⟩ : ∃ w2, w2 = w1.alloc (.cells #[.string ⟨#[]⟩, .int .u32 0, .slice none 0 0, .slice none 0 0, .string ⟨#[]⟩, .int .u32 0, .slice none 0 0, .slice none 0 0] 81) := ⟨_, rfl⟩
  have k2 : Kp w1 w2 := by rw [hw2]; exact (Chg.refl _ _).alloc _
  obtain ⟨w3, hw3⟩ : ∃ w3, w3 = w2.alloc (.cells #[.int .i64 1, .int .i64 2, .int .i64 0, .int .i64 0, .int .i64 0, .bool true] 33) := ⟨_, rfl⟩
  have k3 : Kp w2 w3 := by rw [hw3]; exact (Chg.refl _ _).alloc _
  have n3 : w3.heap[w2.heap.size]? = some (.cells #[.int .i64 1, .int .i64 2, .int .i64 0, .int .i64 0, .int .i64 0, .bool true] 33 (0, 0)) := by rw [hw3]; exact heap_alloc_new w2 _
  obtain ⟨w4, hw4⟩ : ∃ w4, w4 = w3.alloc (.cells Z31 31) := ⟨_, rfl⟩
  have k4 : Kp w3 w4 := by rw [hw4]; exact (Chg.refl _ _).alloc _
  have n4 : w4.heap[w3.heap.size]? = some (.cells Z31 31 (0, 0)) := by rw [hw4]; exact heap_alloc_new w3 _
  have hb31 := fun w => build31e w w1.heap.size w2.heap.size true
  have i3 : IsC w3 (A2 w1.heap.size w2.heap.size) (g2 true) := isc2 n3
  obtain ⟨L2, hL2⟩ : ∃ L2, L2 = cfC (A2 w1.heap.size w2.heap.size) (g2 true) := ⟨_, rfl⟩
  have hst := store31 w4 w3.heap.size Z31 L2.toArray n4 hZs (by rw [hL2]; rfl) (fun v hv => i3.one v (by rw [← hL2]; simpa using hv))
  obtain ⟨w5, hw5⟩ : ∃ w5, w5 = w4.setRow w3.heap.size L2.toArray := ⟨_, rfl⟩
  have n5 : w5.heap[w3.heap.size]? = some (.cells L2.toArray 31 (0, 0)) := by rw [hw5]; exact setRow_heap w4 w3.heap.size _ _ 31 _ n4
  have c5 : Chg w4 w5 (fun k => k = w3.heap.size) := by rw [hw5]; exact Chg.setRow (S := fun k => k = w3.heap.size) (Chg.refl w4 _) (.inl rfl) _
  rw [← hw5] at hst
  have k5 : Kp w3 w5 := Chg.trans k4 c5 (fun i hi e => by omega)
  have kw5 : Kp w w5 := Kp.trans (Kp.trans (Kp.trans k1 k2) k3) k5
  have nb5 : w5.heap[w.heap.size]? = some (.cells (inV p).toArray 31 (0, 0)) := k5.heap (k3.heap (k2.heap n1))
  have rL2 : w5.rangeAt w3.heap.size 0 L2 := fun j v hv => by rw [Nat.zero_add, (cells_at n5 j).1, List.getElem?_toArray]; exact hv
  have l31b : (Try.prog.info? 31).map (·.size) = some L2.length := by rw [hL2]; exact size31 _ _
  have hB1 := sources_any w5 _ _ (i3.kp k5) 1
  rw [← hL2] at hB1
  rw [← hL2] at hb31
  obtain ⟨LC, hLC⟩ : ∃ LC, LC = inV p := ⟨_, rfl⟩
  have hIn : IsIn w5 p := h.kp kw5
  have HP : Hid (IsIn w5 p ∧ p.A.a0 = .int .i64 pg ∧ p.A.a7 = .int .u64 mj ∧ w5.heap[w.heap.size]? = some (.cells (inV p).toArray 31 (0, 0)) ∧ Kp w w5 ∧ LC = inV p) := ⟨hIn, hpg, hmj, nb5, kw5, hLC⟩
  rw [← hLC] at hw1 ⊢
  have HW1 : Hid (w1 = w.alloc (.cells LC.toArray 31)) := hw1
  have HW3 : Hid (w3 = w2.alloc (.cells #[.int .i64 1, .int .i64 2, .int .i64 0, .int .i64 0, .int .i64 0, .bool true] 33)) := hw3
  have hmk1 := hmk w1
  rw [← hw2] at hmk1
  rw [hw4, hw3] at hst
  clear hmk hw1 hw2 hw3 hw4 hw5 k1 k2 k3 k4 k5 kw5 n1 n3 n4 n5 c5 i3 hIn nb5 hLC hL2 h hpg hmj
  go_enter Try.func3, Try.ntmps3
  go_upto_region 1 with (refine wpList_box_run rfl 31 (.tmp 0) rfl LC.toArray rfl ?_; simp only [Act.put, List.setIfInBounds_toArray, List.set_cons_zero, List.set_cons_succ])
  rw [← HW1.out]
  generalize Z31 = Z at *
  go_upto_region 2 with (first
    | (refine wpList_build_run rfl 33 _ rfl #[(0, .int .i64 1), (1, .int .i64 2), (5, .bool true)] (by simp [Act.eval]) _ (hb33 _) ?_; simp only [Act.put, List.setIfInBounds_toArray, List.set_cons_zero, List.set_cons_succ])
    | (refine wpList_build_run rfl 31 _ rfl #[(6, .slice (some ⟨w1.heap.size, 0, none⟩) 2 2), (9, .slice (some ⟨w2.heap.size, 0, none⟩) 1 1)] (by simp [Act.eval]) _ (hb31 _) ?_; simp only [Act.put, List.setIfInBounds_toArray, List.set_cons_zero, List.set_cons_succ])
    | (refine wpList_alloc_zero _ rfl 31 Z rfl (hz _) ?_; simp only [Act.put, List.setIfInBounds_toArray, List.set_cons_zero, List.set_cons_succ])
    | (refine wpList_store_row rfl 31 (.tmp 3) (.tmp 20) rfl _ 0 L2.toArray rfl rfl _ hst ?_; simp only [Act.put])
    | fail)
  clear hst hmk1 hb33 hb31
  rw [← HW3.out]
  clear HW1 HW3
  generalize w3.heap.size = tb at *
  go_wp2_with (first | (refine wpList_load_mid rfl 31 (.tmp 3) rfl tb 0 rfl L2 _ rL2 hU31 rfl l31b ?_; simp only [Act.put, List.setIfInBounds_toArray, List.set_cons_zero, List.set_cons_succ]) | fail)
  go_at_call 6
  refine hB1.mono ?_
  rintro e w7 ⟨v0, l0, rfl, hT0⟩
  clear hB1 rL2 l31b
  have hl0 := two_len hT0
  obtain ⟨a0, cap0, hv0⟩ := own_shape hT0.own
  rw [zs_len, hl0] at hv0
  subst hv0
  have HP7 : Hid (IsIn w7 p ∧ p.A.a0 = .int .i64 pg ∧ p.A.a7 = .int .u64 mj ∧ w7.heap[w.heap.size]? = some (.cells (inV p).toArray 31 (0, 0)) ∧ Kp w w7 ∧ LC = inV p) := by
    obtain ⟨q1, q2, q3, q4, q5, q6⟩ := HP.out
    exact ⟨q1.kp hT0.kp, q2, q3, hT0.kp.heap q4, Kp.trans q5 hT0.kp, q6⟩
  clear HP hT0 hl0
  have hLt := lent_any w7 p HP7.out.1 pg mj HP7.out.2.1 HP7.out.2.2.1
  have r7 : w7.rangeAt w.heap.size 0 LC := fun j v hv => by rw [Nat.zero_add, (cells_at HP7.out.2.2.2.1 j).1, List.getElem?_toArray, ← HP7.out.2.2.2.2.2]; exact hv
  have l31c : (Try.prog.info? 31).map (·.size) = some LC.length := by rw [HP7.out.2.2.2.2.2]; show _ = some 12; kernel_rfl
  rw [← HP7.out.2.2.2.2.2] at hLt
  generalize hgb : w.heap.size = gb at *
  have HGB : Hid (w.heap.size = gb) := hgb
  clear hgb
  go_wp2_with (first | (refine wpList_load_mid rfl 31 (.tmp 1) rfl gb 0 rfl LC _ r7 hU31 rfl l31c ?_; simp only [Act.put, List.setIfInBounds_toArray, List.set_cons_zero, List.set_cons_succ]) | fail)
  go_at_call 7
  refine hLt.mono ?_
  rintro e w8 ⟨A, rfl, hT⟩
  clear hLt r7 l31c
  have g8 := hT.kp.heap HP7.out.2.2.2.1
  have hst8 := store31 w8 gb _ (cfC A (cutC p)).toArray g8 rfl rfl (fun v hv => hT.one v (by simpa using hv))
  obtain ⟨w9, hw9⟩ : ∃ w9, w9 = w8.setRow gb (cfC A (cutC p)).toArray := ⟨_, rfl⟩
  have g9 : w9.heap[gb]? = some (.cells (cfC A (cutC p)).toArray 31 (0, 0)) := by rw [hw9]; exact setRow_heap w8 gb _ _ 31 _ g8
  have c9 : Chg w8 w9 (fun k => k = gb) := by rw [hw9]; exact Chg.setRow (S := fun k => k = gb) (Chg.refl w8 _) (.inl rfl) _
  rw [← hw9] at hst8
  have hgb7 : gb < w7.heap.size := hp_lt HP7.out.2.2.2.1
  have T9 : LtE w w9 A p := hT.later HP7.out.2.2.2.2.1 c9 (fun i e => by omega) (fun i e => by have := HGB.out; omega)
  have r9 := cfRange g9
  have l31d := size31 A (cutC p)
  have hEd := edges_any w9 A (cutC p) T9.isc
  obtain ⟨LD, hLD⟩ : ∃ LD, LD = cfC A (cutC p) := ⟨_, rfl⟩
  rw [← hLD] at r9 l31d hEd hst8 ⊢
  have HT9 : Hid (IsC w9 A (cutC p) ∧ w9.heap[gb]? = some (.cells (cfC A (cutC p)).toArray 31 (0, 0)) ∧ LD = cfC A (cutC p) ∧ Kp w w9) := ⟨T9.isc, g9, hLD, T9.kp⟩
  clear hT g8 hw9 g9 c9 hgb7 T9 hLD HP7
  go_upto_region 6 with (first | (refine wpList_store_row rfl 31 (.tmp 1) (.tmp 27) rfl gb 0 LD.toArray rfl rfl _ hst8 ?_; simp only [Act.put]) | fail)
  clear hst8
  go_wp2_with (first | (refine wpList_load_mid rfl 31 (.tmp 1) rfl gb 0 rfl LD _ r9 hU31 rfl l31d ?_; simp only [Act.put, List.setIfInBounds_toArray, List.set_cons_zero, List.set_cons_succ]) | fail)
  go_at_call 8
  refine hEd.mono ?_
  rintro e w10 ⟨ve, l, rfl, hE⟩
  clear hEd r9
  obtain ⟨g, hg⟩ : ∃ g, g = cutC p := ⟨_, rfl⟩
  rw [← hg] at HT9 hE
  have hgn : g.n < 100000 := by rw [hg]; exact cut_n p
  clear hg
  obtain ⟨xe, ce, hve, hre⟩ := hE.rd.ex
  subst hve
  have hle := hE.ed.len
  have HD : Hid (IsC w10 A g ∧ w10.heap[gb]? = some (.cells (cfC A g).toArray 31 (0, 0)) ∧ LD = cfC A g ∧ Kp w w10 ∧ EdL g l ∧ (l = [] ∨ ∃ b o, xe = some ⟨b, o, none⟩ ∧ ∀ j (h : j < l.length), w10.cell? ⟨b, o + j * 2, none⟩ = some (.int .i64 (l[j].1 : Nat)) ∧ w10.cell? ⟨b, o + j * 2 + 1, none⟩ = some (.int .i64 (l[j].2 : Nat)))) := ⟨HT9.out.1.kp hE.kp, hE.kp.heap HT9.out.2.1, HT9.out.2.2.1, Kp.trans HT9.out.2.2.2 hE.kp, hE.ed, hre⟩
  clear HT9 hE hre
  go_wp2_with fail
  go_loopw [6, 7, 8, 9, 10, 11, 12, 13, 14, 15, 16] (fun s6 s7 s8 s9 s10 s11 s12 s13 s14 s15 s16 wr => ∃ c : Nat, s6 = .int .i64 c ∧ 1 ≤ c ∧ c ≤ g.n + 1 ∧ Hid (Kp w10 wr)) (fun s6 _ _ _ _ _ _ _ _ _ _ _ => g.n + 1 - nI s6)
  case atStart => exact ⟨1, rfl, by omega, by omega, Kp.refl _⟩
  case round =>
    obtain ⟨c, rfl, hc1, hc2, HK⟩ := hrel
    have c8 : wr.cell? ⟨gb, 8, none⟩ = some (.slice A.pc g.n A.cc) := by rw [(cells_at (HK.out.heap HD.out.2.1) 8).1]; rfl
    by_cases hcn : c ≤ g.n
    · have hcz : (c : Int) ≤ (g.n : Int) := by omega
      have hS := sources_any wr A g (HD.out.1.kp HK.out) (c : Nat)
      rw [← HD.out.2.2.1] at hS
      have rb : wr.rangeAt gb 0 LD := by have := cfRange (HK.out.heap HD.out.2.1); rw [← HD.out.2.2.1] at this; exact this
      go_wp2_with (first | (refine wpList_load_mid rfl 31 (.tmp 1) rfl gb 0 rfl LD _ rb hU31 rfl l31d ?_; simp only [Act.put, List.setIfInBounds_toArray, List.set_cons_zero, List.set_cons_succ]) | fail)
      go_at_call 6
      refine hS.mono ?_
      rintro e wS ⟨vs, sl, rfl, hT⟩
      clear hS rb c8
      have hsn : sl.Nodup := hT.pw.imp (fun {a b} h => by omega)
      have hlen := nodup_le hsn hT.rg
      have hmm : ∀ x : Nat, x ∈ sl ↔ Rch (Dn g) c x := fun x => by
        rw [hT.mem x]
        constructor
        · rintro ⟨_, _, h⟩; exact h
        · intro h; exact ⟨by omega, by omega, h⟩
      have hcs : (c : Int) ∈ zs sl := mem_zs.2 ((hmm c).2 .refl)
      have hIc := in_any wS vs (zs sl) hT.own.rd (c : Int) (by rw [zs_len]; omega)
      rw [show decide ((c : Int) ∈ zs sl) = true by simp [hcs]] at hIc
      have hIn := fun x => in_any wS vs (zs sl) hT.own.rd x (by rw [zs_len]; omega)
      obtain ⟨xs, cs, hvs, _⟩ := hT.own.rd.ex
      rw [zs_len] at hvs
      have HSl : Hid (sl.Nodup ∧ (∀ x : Nat, x ∈ sl ↔ Rch (Dn g) c x) ∧ Kp w10 wS) := ⟨hsn, hmm, Kp.trans HK.out hT.kp⟩
      subst hvs
      clear hT hsn hmm hcs HK
      go_wp2_with fail
      go_at_call 9
      refine hIc.mono ?_
      rintro e wS' ⟨rfl, hx⟩
      have hx' := hx.symm
      subst hx'
      clear hIc hx
      go_wp2_with fail
      go_loopw [9, 10, 11] (fun s9 s10 s11 wr => ∃ i : Nat, s9 = .int .i64 i ∧ i ≤ l.length ∧ wr = wS) (fun s9 _ _ _ => l.length - nI s9)
      case atStart => exact ⟨0, rfl, by omega, rfl⟩
      case round =>
        obtain ⟨i, rfl, hi, hw⟩ := hrel
        have hw' := hw.symm
        subst hw'
        clear hw
        by_cases hlt : i < l.length
        · have hiz : (i : Int) < (l.length : Int) := by omega
          rcases HD.out.2.2.2.2.2 with e | ⟨b, o, rfl, hcc⟩
          · rw [e] at hlt; simp at hlt
          · have d1 := HSl.out.2.2.cell (hcc i hlt).1
            have d2 := HSl.out.2.2.cell (hcc i hlt).2
            have hI1 := hIn (l[i].2 : Int)
            have hI2 := hIn (l[i].1 : Int)
            have hcl : (l[i].2 : Int) ∈ zs sl → (l[i].1 : Int) ∈ zs sl := fun hm => by
              rw [mem_zs] at hm ⊢
              rw [HSl.out.2.1] at hm ⊢
              exact .step ((HD.out.2.2.2.2.1.mem l[i]).1 (List.getElem_mem hlt)) hm
            have hb : ∀ x y, x = decide ((l[i].2 : Int) ∈ zs sl) → y = decide ((l[i].1 : Int) ∈ zs sl) → (x = false ∨ y = true) := fun x y hx hy => by
              by_cases hm : (l[i].2 : Int) ∈ zs sl
              · right; rw [hy]; simp [hcl hm]
              · left; rw [hx]; simp [hm]
            obtain ⟨b1, hb1⟩ : ∃ b1, b1 = decide ((l[i].2 : Int) ∈ zs sl) := ⟨_, rfl⟩
            obtain ⟨b2, hb2⟩ : ∃ b2, b2 = decide ((l[i].1 : Int) ∈ zs sl) := ⟨_, rfl⟩
            have hbb := hb b1 b2 hb1 hb2
            rw [← hb1] at hI1
            rw [← hb2] at hI2
            clear hb hb1 hb2 hcl hcc
            generalize l[i].1 = fr at *
            generalize l[i].2 = to at *
            go_wp2_with fail
            go_at_call 9
            refine hI1.mono ?_
            rintro e wy ⟨rfl, hx⟩
            have hx' := hx.symm
            subst hx'
            clear hI1 hx
            go_wp2_with fail
            go_at_call 9
            refine hI2.mono ?_
            rintro e wy ⟨rfl, hx⟩
            have hx' := hx.symm
            subst hx'
            clear hI2 hx
            rcases hbb with rfl | rfl
            · go_wp2_with fail
              exact ⟨⟨i + 1, by go_num, by omega, by first | rfl | trivial⟩, by simp [nI]; omega⟩
            · cases b1 <;> go_wp2_with fail
              · exact ⟨⟨i + 1, by go_num, by omega, by first | rfl | trivial⟩, by simp [nI]; omega⟩
              · exact ⟨⟨i + 1, by go_num, by omega, by first | rfl | trivial⟩, by simp [nI]; omega⟩
        · have hiz : ¬ (i : Int) < (l.length : Int) := by omega
          obtain rfl : i = l.length := by omega
          clear hIn
          have HR0 : Hid (ReI w10 (wS.alloc (.cells #[.int .i64 (c : Nat)] 3)) g c (.slice (some ⟨wS.heap.size, 0, none⟩) 1 1) (rrounds l 0 [c])) := by
            have gN := heap_alloc_new wS (.cells #[.int .i64 (c : Nat)] 3)
            refine ⟨⟨rfl, .inr ⟨wS.heap.size, 1, _, rfl, Nat.zero_le _, gN, Nat.le_refl _, by simp [maxLen], rfl, rfl⟩⟩, fun k hk => ?_, HSl.out.2.2.alloc _, ⟨by simp [rrounds], by simp [rrounds], fun x hx => ?_, fun x hx => ?_⟩⟩
            · cases hk; exact HSl.out.2.2.size
            · simp [rrounds] at hx; subst hx; exact .refl
            · simp [rrounds] at hx; subst hx; exact ⟨hc1, hcn⟩
          go_wp2_with fail
          go_loopw [13, 14, 15, 16, 12] (fun s13 s14 s15 s16 s12 wr => ∃ (rv : Value) (k : Nat), rv = s12 ∧ s13 = .int .i64 k ∧ k ≤ g.n ∧ Hid (ReI w10 wr g c rv (rrounds l k [c]))) (fun s13 _ _ _ _ _ => g.n - nI s13)
          case atStart => exact ⟨_, 0, rfl, rfl, by omega, HR0⟩
          case round =>
            obtain ⟨rv, k, rfl, rfl, hk, HR⟩ := hrel
            clear HR0
            have c8 : wr.cell? ⟨gb, 8, none⟩ = some (.slice A.pc g.n A.cc) := by rw [(cells_at (HR.out.kp.heap HD.out.2.1) 8).1]; rfl
            by_cases hkt : k < g.n
            · have hkz : (k : Int) < (g.n : Int) := by omega
              have HQ0 : Hid (ReI w10 wr g c rv ((l.take 0).foldl rstep (rrounds l k [c]))) := HR.out
              clear HR
              go_wp2_with fail
              clear c8
              go_loopw [14, 15, 16, 12] (fun s14 s15 s16 s12 wr => ∃ (rv : Value) (i : Nat), rv = s12 ∧ s14 = .int .i64 i ∧ i ≤ l.length ∧ Hid (ReI w10 wr g c rv ((l.take i).foldl rstep (rrounds l k [c])))) (fun s14 _ _ _ _ => l.length - nI s14)
              case atStart => exact ⟨_, 0, rfl, rfl, by omega, HQ0⟩
              case round =>
                obtain ⟨rv, i, rfl, rfl, hi2, HQ⟩ := hrel
                clear HQ0
                by_cases hlt2 : i < l.length
                · have hiz : (i : Int) < (l.length : Int) := by omega
                  rcases HD.out.2.2.2.2.2 with e | ⟨b, o, rfl, hcc⟩
                  · rw [e] at hlt2; simp at hlt2
                  · have d1 := HQ.out.kp.cell (hcc i hlt2).1
                    have d2 := HQ.out.kp.cell (hcc i hlt2).2
                    have hfs := fold_step l (rrounds l k [c]) i hlt2
                    obtain ⟨r, hr⟩ : ∃ r, r = (l.take i).foldl rstep (rrounds l k [c]) := ⟨_, rfl⟩
                    rw [← hr] at hfs HQ
                    have hrl := nodup_le HQ.out.rg.nd HQ.out.rg.rg
                    have hI1 := in_any wr rv (zs r) HQ.out.own.rd (l[i].2 : Int) (by rw [zs_len]; omega)
                    have hI2 := in_any wr rv (zs r) HQ.out.own.rd (l[i].1 : Int) (by rw [zs_len]; omega)
                    have hmE := (HD.out.2.2.2.2.1.mem l[i]).1 (List.getElem_mem hlt2)
                    have hRG := HQ.out.rg.step (e := l[i]) hmE (by have := Dn_ok hmE; omega)
                    have HFS : Hid ((l.take (i + 1)).foldl rstep (rrounds l k [c]) = rstep r l[i] ∧ RG (Dn g) g.n c (rstep r l[i])) := ⟨hfs, hRG⟩
                    clear hfs hRG hmE hr hcc
                    obtain ⟨E, hE⟩ : ∃ E, E = l[i] := ⟨_, rfl⟩
                    rw [← hE] at d1 d2 hI1 hI2 HFS
                    clear hE
                    by_cases hto : E.2 ∈ r
                    · by_cases hfr : E.1 ∈ r
                      · have hrs : rstep r E = r := by unfold rstep; rw [if_neg (by simp [hfr])]
                        rw [show decide ((E.2 : Int) ∈ zs r) = true by simp [mem_zs, hto]] at hI1
                        rw [show decide ((E.1 : Int) ∈ zs r) = true by simp [mem_zs, hfr]] at hI2
                        have HN : Hid (ReI w10 wr g c rv ((l.take (i + 1)).foldl rstep (rrounds l k [c]))) := by rw [Hid, HFS.out.1, hrs]; exact HQ.out
                        clear HQ HFS hrs hto hfr hrl
                        go_wp2_with fail
                        go_at_call 9
                        refine hI1.mono ?_
                        rintro e wy ⟨rfl, hx⟩
                        have hx' := hx.symm
                        subst hx'
                        clear hI1 hx
                        go_wp2_with fail
                        go_at_call 9
                        refine hI2.mono ?_
                        rintro e wy ⟨rfl, hx⟩
                        have hx' := hx.symm
                        subst hx'
                        clear hI2 hx
                        go_wp2_with fail
                        exact ⟨⟨rv, i + 1, rfl, by go_num, by omega, HN⟩, by simp [nI]; omega⟩
                      · have hrs : rstep r E = r ++ [E.1] := by unfold rstep; rw [if_pos ⟨hto, hfr⟩]
                        rw [show decide ((E.2 : Int) ∈ zs r) = true by simp [mem_zs, hto]] at hI1
                        rw [show decide ((E.1 : Int) ∈ zs r) = false by simp [mem_zs, hfr]] at hI2
                        obtain ⟨v', wa, hrun, ho, hch, hL⟩ := app_int wr rv (zs r) HQ.out.own (E.1 : Int) (by rw [zs_len]; omega)
                        have HN : Hid (ReI w10 wa g c v' ((l.take (i + 1)).foldl rstep (rrounds l k [c]))) := by
                          have h2 := HFS.out.2
                          rw [Hid, HFS.out.1]
                          rw [hrs] at h2 ⊢
                          exact HQ.out.step ho hch hL h2
                        clear HQ HFS hrs hto hfr hrl ho hch hL
                        go_wp2_with fail
                        go_at_call 9
                        refine hI1.mono ?_
                        rintro e wy ⟨rfl, hx⟩
                        have hx' := hx.symm
                        subst hx'
                        clear hI1 hx
                        go_wp2_with fail
                        go_at_call 9
                        refine hI2.mono ?_
                        rintro e wy ⟨rfl, hx⟩
                        have hx' := hx.symm
                        subst hx'
                        clear hI2 hx
                        go_wp2_with (at_builtin; refine wpList_append_run _ rfl (.tmp 104) (.tmp 110) 34 34 rfl _ _ v' wa rfl rfl hrun ?_)
                        exact ⟨⟨v', i + 1, rfl, by go_num, by omega, HN⟩, by simp [nI]; omega⟩
                    · have hrs : rstep r E = r := by unfold rstep; rw [if_neg (by simp [hto])]
                      rw [show decide ((E.2 : Int) ∈ zs r) = false by simp [mem_zs, hto]] at hI1
                      obtain ⟨b2, hb2⟩ : ∃ b2, b2 = decide ((E.1 : Int) ∈ zs r) := ⟨_, rfl⟩
                      rw [← hb2] at hI2
                      have HN : Hid (ReI w10 wr g c rv ((l.take (i + 1)).foldl rstep (rrounds l k [c]))) := by rw [Hid, HFS.out.1, hrs]; exact HQ.out
                      clear HQ HFS hrs hto hrl hb2
                      go_wp2_with fail
                      go_at_call 9
                      refine hI1.mono ?_
                      rintro e wy ⟨rfl, hx⟩
                      have hx' := hx.symm
                      subst hx'
                      clear hI1 hx
                      go_wp2_with fail
                      go_at_call 9
                      refine hI2.mono ?_
                      rintro e wy ⟨rfl, hx⟩
                      have hx' := hx.symm
                      subst hx'
                      clear hI2 hx
                      go_wp2_with fail
                      exact ⟨⟨rv, i + 1, rfl, by go_num, by omega, HN⟩, by simp [nI]; omega⟩
                · have hiz : ¬ (i : Int) < (l.length : Int) := by omega
                  obtain rfl : i = l.length := by omega
                  have HN : Hid (ReI w10 wr g c rv (rrounds l (k + 1) [c])) := by have := HQ.out; rw [fold_all] at this; exact this
                  clear HQ
                  go_wp2_with fail
                  exact ⟨⟨rv, k + 1, rfl, by go_num, by omega, HN⟩, by simp [nI]; omega⟩
            · have hkz : ¬ (k : Int) < (g.n : Int) := by omega
              obtain rfl : k = g.n := by omega
              have hall := rrounds_all (D := Dn g) (n := g.n) (c := c) (l := l) (fun e => HD.out.2.2.2.2.1.mem e) (fun x y hd => by have := Dn_ok hd; omega) ⟨hc1, hcn⟩
              have hll : (rrounds l g.n [c]).length = sl.length := same_len hall.1 HSl.out.1 (fun x => by rw [hall.2 x, HSl.out.2.1 x])
              obtain ⟨ar, cr, hrv⟩ := own_shape HR.out.own
              rw [zs_len, hll] at hrv
              have HN : Hid (Kp w10 wr) := HR.out.kp
              subst hrv
              clear hall hll HR
              go_wp2_with fail
              exact ⟨⟨c + 1, by go_num, by omega, by omega, HN⟩, by simp [nI]; omega⟩
    · have hcz : ¬ (c : Int) ≤ (g.n : Int) := by omega
      go_wp2_with fail
      go_ret
      exact ⟨rfl, Kp.trans HD.out.2.2.2.1 HK.out⟩
end Go.Proofs.Ythgpcmickgcdhaa
