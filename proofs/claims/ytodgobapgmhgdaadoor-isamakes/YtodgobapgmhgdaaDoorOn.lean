import Derived.Test.YtodgobapgmhgdaaDoorOi
namespace Go.Proofs.YtodgobapgmhgdaaDoor
open Go.ChangeShapes Go.WideShapes Go.ChangeAt Go.RowKit
set_option linter.unusedVariables false

/-- What a form does not have is 0. -/
theorem ck_none {op : Int} {d a b : Nat} {n : Int} (h : ck op d a b n = 0) : (lD (fo op) = 0 → d = 0) ∧ (lA (fo op) = 0 → a = 0) ∧ (lB (fo op) = 0 → b = 0) ∧ (tk op = 0 → n = 0) := by
  obtain ⟨_, h1, h2⟩ := ck_zero h
  have hm : (rm d (lD (fo op)) = true ∧ rm a (lA (fo op)) = true) ∧ rm b (lB (fo op)) = true := by simpa [rms] using h1
  have hn : lo op ≤ n ∧ n ≤ hi op := by simpa [im] using h2
  refine ⟨fun e => ?_, fun e => ?_, fun e => ?_, fun e => ?_⟩
  · have := hm.1.1; rw [e] at this; simpa [rm] using this
  · have := hm.1.2; rw [e] at this; simpa [rm] using this
  · have := hm.2; rw [e] at this; simpa [rm] using this
  · have e1 : lo op = 0 := by simp [lo, loF, e]
    have e2 : hi op = 0 := by simp [hi, hiF, e]
    rw [e1, e2] at hn; omega
theorem tx_inj {op op' : Int} {d a b d' a' b' : Nat} {n n' : Int} (h : ck op d a b n = 0) (h' : ck op' d' a' b' n' = 0) (e : tx op d a b n = tx op' d' a' b' n') : op = op' ∧ d = d' ∧ a = a' ∧ b = b' ∧ n = n' := by
  rw [tx, tx, if_pos h, if_pos h'] at e
  obtain ⟨e1, e2⟩ := name_cut (nm_no32 _) (nm_no32 _) (opT_form _) (opT_form _) e
  obtain ⟨i1, _, _⟩ := ck_zero h
  obtain ⟨i2, _, _⟩ := ck_zero h'
  have eo : op = op' := by
    obtain ⟨o0, o1⟩ := (isO_iff op).1 i1
    obtain ⟨p0, p1⟩ := (isO_iff op').1 i2
    have := nm_inj ⟨op.toNat, by omega⟩ ⟨op'.toNat, by omega⟩ e1
    simp only [Fin.mk.injEq] at this
    omega
  subst eo
  refine ⟨rfl, ?_⟩
  obtain ⟨z1, z2, z3, z4⟩ := ck_none h
  obtain ⟨y1, y2, y3, y4⟩ := ck_none h'
  clear e e1 h h'
  unfold ol at e2
  rcases op_pairs i1 with ⟨f, t⟩ | ⟨f, t⟩ | ⟨f, t⟩ | ⟨f, t⟩ | ⟨f, t⟩ | ⟨f, t⟩ | ⟨f, t⟩ | ⟨f, t⟩ | ⟨f, t⟩ | ⟨f, t⟩ | ⟨f, t⟩ | ⟨f, t⟩ | ⟨f, t⟩
  · rw [f, t] at e2
    rw [f] at z1 z2 z3 y1 y2 y3
    rw [t] at z4 y4
    have j : Lib.join [rgT d, rgT a, rgT b] [44, 32] = Lib.join [rgT d', rgT a', rgT b'] [44, 32] := opT_join (by simp) (by simp) e2
    obtain ⟨q0, q1, q2⟩ := join3 _ _ _ _ _ _ (rgT_not _) (rgT_not _) (rgT_not _) (rgT_not _) j
    exact ⟨rgT_inj q0, rgT_inj q1, rgT_inj q2, (z4 rfl).trans (y4 rfl).symm⟩
  · rw [f, t] at e2
    rw [f] at z1 z2 z3 y1 y2 y3
    rw [t] at z4 y4
    have j : Lib.join [rgT d, rgT a, Lib.itoa n] [44, 32] = Lib.join [rgT d', rgT a', Lib.itoa n'] [44, 32] := opT_join (by simp) (by simp) e2
    obtain ⟨q0, q1, q2⟩ := join3 _ _ _ _ _ _ (rgT_not _) (rgT_not _) (rgT_not _) (rgT_not _) j
    exact ⟨rgT_inj q0, rgT_inj q1, (z3 rfl).trans (y3 rfl).symm, itoa_inj q2⟩
  · rw [f, t] at e2
    rw [f] at z1 z2 z3 y1 y2 y3
    rw [t] at z4 y4
    have j : Lib.join [rgT d, mbT a n] [44, 32] = Lib.join [rgT d', mbT a' n'] [44, 32] := opT_join (by simp) (by simp) e2
    obtain ⟨q0, q1⟩ := join2 _ _ _ _ (rgT_not _) (rgT_not _) j
    exact ⟨rgT_inj q0, (mbT_inj q1).1, (z3 rfl).trans (y3 rfl).symm, (mbT_inj q1).2⟩
  · rw [f, t] at e2
    rw [f] at z1 z2 z3 y1 y2 y3
    rw [t] at z4 y4
    have j : Lib.join [rgT d, rgT a, Lib.itoa n] [44, 32] = Lib.join [rgT d', rgT a', Lib.itoa n'] [44, 32] := opT_join (by simp) (by simp) e2
    obtain ⟨q0, q1, q2⟩ := join3 _ _ _ _ _ _ (rgT_not _) (rgT_not _) (rgT_not _) (rgT_not _) j
    exact ⟨rgT_inj q0, rgT_inj q1, (z3 rfl).trans (y3 rfl).symm, itoa_inj q2⟩
  · rw [f, t] at e2
    rw [f] at z1 z2 z3 y1 y2 y3
    rw [t] at z4 y4
    have j : Lib.join [rgT d, rgT a, Lib.itoa n] [44, 32] = Lib.join [rgT d', rgT a', Lib.itoa n'] [44, 32] := opT_join (by simp) (by simp) e2
    obtain ⟨q0, q1, q2⟩ := join3 _ _ _ _ _ _ (rgT_not _) (rgT_not _) (rgT_not _) (rgT_not _) j
    exact ⟨rgT_inj q0, rgT_inj q1, (z3 rfl).trans (y3 rfl).symm, itoa_inj q2⟩
  · rw [f, t] at e2
    rw [f] at z1 z2 z3 y1 y2 y3
    rw [t] at z4 y4
    have j : Lib.join [rgT a, rgT b, Lib.itoa n] [44, 32] = Lib.join [rgT a', rgT b', Lib.itoa n'] [44, 32] := opT_join (by simp) (by simp) e2
    obtain ⟨q0, q1, q2⟩ := join3 _ _ _ _ _ _ (rgT_not _) (rgT_not _) (rgT_not _) (rgT_not _) j
    exact ⟨(z1 rfl).trans (y1 rfl).symm, rgT_inj q0, rgT_inj q1, itoa_inj q2⟩
  · rw [f, t] at e2
    rw [f] at z1 z2 z3 y1 y2 y3
    rw [t] at z4 y4
    have j : Lib.join [rgT b, mbT a n] [44, 32] = Lib.join [rgT b', mbT a' n'] [44, 32] := opT_join (by simp) (by simp) e2
    obtain ⟨q0, q1⟩ := join2 _ _ _ _ (rgT_not _) (rgT_not _) j
    exact ⟨(z1 rfl).trans (y1 rfl).symm, (mbT_inj q1).1, rgT_inj q0, (mbT_inj q1).2⟩
  · rw [f, t] at e2
    rw [f] at z1 z2 z3 y1 y2 y3
    rw [t] at z4 y4
    have j : Lib.join [rgT d, Lib.itoa n] [44, 32] = Lib.join [rgT d', Lib.itoa n'] [44, 32] := opT_join (by simp) (by simp) e2
    obtain ⟨q0, q1⟩ := join2 _ _ _ _ (rgT_not _) (rgT_not _) j
    exact ⟨rgT_inj q0, (z2 rfl).trans (y2 rfl).symm, (z3 rfl).trans (y3 rfl).symm, itoa_inj q1⟩
  · rw [f, t] at e2
    rw [f] at z1 z2 z3 y1 y2 y3
    rw [t] at z4 y4
    have j : Lib.join [rgT d, Lib.itoa n] [44, 32] = Lib.join [rgT d', Lib.itoa n'] [44, 32] := opT_join (by simp) (by simp) e2
    obtain ⟨q0, q1⟩ := join2 _ _ _ _ (rgT_not _) (rgT_not _) j
    exact ⟨rgT_inj q0, (z2 rfl).trans (y2 rfl).symm, (z3 rfl).trans (y3 rfl).symm, itoa_inj q1⟩
  · rw [f, t] at e2
    rw [f] at z1 z2 z3 y1 y2 y3
    rw [t] at z4 y4
    have j : Lib.join [rgT d] [44, 32] = Lib.join [rgT d'] [44, 32] := opT_join (by simp) (by simp) e2
    rw [Lib.join_one, Lib.join_one] at j
    have q0 := j
    exact ⟨rgT_inj q0, (z2 rfl).trans (y2 rfl).symm, (z3 rfl).trans (y3 rfl).symm, (z4 rfl).trans (y4 rfl).symm⟩
  · rw [f, t] at e2
    rw [f] at z1 z2 z3 y1 y2 y3
    rw [t] at z4 y4
    have j : Lib.join [rgT a] [44, 32] = Lib.join [rgT a'] [44, 32] := opT_join (by simp) (by simp) e2
    rw [Lib.join_one, Lib.join_one] at j
    have q0 := j
    exact ⟨(z1 rfl).trans (y1 rfl).symm, rgT_inj q0, (z3 rfl).trans (y3 rfl).symm, (z4 rfl).trans (y4 rfl).symm⟩
  · rw [f, t] at e2
    rw [f] at z1 z2 z3 y1 y2 y3
    rw [t] at z4 y4
    have j : Lib.join [Lib.itoa n] [44, 32] = Lib.join [Lib.itoa n'] [44, 32] := opT_join (by simp) (by simp) e2
    rw [Lib.join_one, Lib.join_one] at j
    have q0 := j
    exact ⟨(z1 rfl).trans (y1 rfl).symm, (z2 rfl).trans (y2 rfl).symm, (z3 rfl).trans (y3 rfl).symm, itoa_inj q0⟩
  · rw [f, t] at e2
    rw [f] at z1 z2 z3 y1 y2 y3
    rw [t] at z4 y4
    exact ⟨(z1 rfl).trans (y1 rfl).symm, (z2 rfl).trans (y2 rfl).symm, (z3 rfl).trans (y3 rfl).symm, (z4 rfl).trans (y4 rfl).symm⟩
theorem wd_inj {op op' : Int} {d a b d' a' b' : Nat} {n n' : Int} (h : ck op d a b n = 0) (h' : ck op' d' a' b' n' = 0) (e : wd op d a b n = wd op' d' a' b' n') : op = op' ∧ d = d' ∧ a = a' ∧ b = b' ∧ n = n' := by
  obtain ⟨_, e1, _, e2, e3, e4, e5⟩ := dec_enc h
  obtain ⟨_, f1, _, f2, f3, f4, f5⟩ := dec_enc h'
  rw [e] at e1 e2 e3 e4 e5
  exact ⟨e1.symm.trans f1, e2.symm.trans f2, e3.symm.trans f3, e4.symm.trans f4, e5.symm.trans f5⟩
theorem tx_ne {op : Int} {d a b : Nat} {n : Int} (h : ck op d a b n = 0) : (sb (tx op d a b n)).toList ≠ [] := by
  obtain ⟨i1, _, _⟩ := ck_zero h
  refine sb_empty ?_
  rw [tx, if_pos h]
  intro e
  exact nm_ne i1 (List.append_eq_nil_iff.1 e).1
theorem de_wd {op : Int} {d a b : Nat} {n : Int} (h : ck op d a b n = 0) : de (wd op d a b n) = 0 := by
  obtain ⟨_, e1, e0, e2, e3, e4, e5⟩ := dec_enc h
  obtain ⟨i1, _, _⟩ := ck_zero h
  rw [de, e1, e2, e3, e4, e5, if_neg (by rw [i1]; decide), if_neg (by rw [e0]; decide)]
  exact h
theorem sb_nil : (sb []).toList.isEmpty = true := by rw [ByteArray.toList_eq]; rfl
theorem sameI_refl (a b c d e : Int) : sameI a b c d e a b c d e = true := by simp [sameI]

set_option maxRecDepth 100000 in
set_option maxHeartbeats 8000000 in
theorem one_walk (w : World) (hG : Gg w) (op : Int) (d a b : Nat) (n : Int) (op' : Int) (d' a' b' : Nat) (n' : Int) :
    Calls Tryd.prog 3 #[iv op d a b n, iv op' d' a' b' n'] w fun e w' => e = .returned (.bool true) ∧ Kp w w' := by
  have k0 : Kp w ((w.alloc (.cells #[.int .i64 op, .int .u8 d, .int .u8 a, .int .u8 b, .int .i32 n] 24)).alloc (.cells #[.int .i64 op', .int .u8 d', .int .u8 a', .int .u8 b', .int .i32 n'] 24)) := ((Chg.refl _ _).alloc _).alloc _
  have g0 : ((w.alloc (.cells #[.int .i64 op, .int .u8 d, .int .u8 a, .int .u8 b, .int .i32 n] 24)).alloc (.cells #[.int .i64 op', .int .u8 d', .int .u8 a', .int .u8 b', .int .i32 n'] 24)).heap[w.heap.size]? = some (.cells #[.int .i64 op, .int .u8 d, .int .u8 a, .int .u8 b, .int .i32 n] 24 (0, 0)) := al_old _ (heap_alloc_new w _)
  have g1 : ((w.alloc (.cells #[.int .i64 op, .int .u8 d, .int .u8 a, .int .u8 b, .int .i32 n] 24)).alloc (.cells #[.int .i64 op', .int .u8 d', .int .u8 a', .int .u8 b', .int .i32 n'] 24)).heap[w.heap.size + 1]? = some (.cells #[.int .i64 op', .int .u8 d', .int .u8 a', .int .u8 b', .int .i32 n'] 24 (0, 0)) := by
    have := heap_alloc_new (w.alloc (.cells #[.int .i64 op, .int .u8 d, .int .u8 a, .int .u8 b, .int .i32 n] 24)) (.cells #[.int .i64 op', .int .u8 d', .int .u8 a', .int .u8 b', .int .i32 n'] 24)
    rwa [al_size] at this
  have hK := known_any _ (hG.keep k0)
  have hE := fun V (k : Kp w V) => Encode_any V (hG.keep k).1 op d a b n
  have hF := fun V (k : Kp w V) => Encode_any V (hG.keep k).1 op' d' a' b' n'
  have hS := fun V (k : Kp w V) => Text_any V (hG.keep k) op d a b n
  have hT := fun V (k : Kp w V) => Text_any V (hG.keep k) op' d' a' b' n'
  by_cases hi : ck op d a b n = 0
  · by_cases hj : ck op' d' a' b' n' = 0
    · have n1 := tx_ne hi
      have n2 := tx_ne hj
      have x1 : (sb (tx op d a b n)).toList.isEmpty = false := by cases q : (sb (tx op d a b n)).toList with | nil => exact absurd q n1 | cons x r => rfl
      have x2 : (sb (tx op' d' a' b' n')).toList.isEmpty = false := by cases q : (sb (tx op' d' a' b' n')).toList with | nil => exact absurd q n2 | cons x r => rfl
      rw [show ew op d a b n = (wd op d a b n : Nat) by rw [ew, if_pos hi], hi] at hE
      rw [show ew op' d' a' b' n' = (wd op' d' a' b' n' : Nat) by rw [ew, if_pos hj], hj] at hF
      obtain ⟨w32, d1, d0, d2, d3, d4, d5⟩ := dec_enc hi
      have hD := fun V (k : Kp w V) => Decode_any V (hG.keep k).1 (wd op d a b n) w32
      rw [de_wd hi, d1, d2, d3, d4, d5] at hD
      have e0 : ∀ x, at0 0 x = x := fun x => rfl
      rw [e0, e0, e0, e0, e0] at hD
      clear e0 w32 d0 d1 d2 d3 d4 d5
      have hq : ∀ W, (binOp BinOp.eql 24 (iv op d a b n) (iv op d a b n)).run Tryd.prog W = .ok (.bool true) W := fun W => by rw [eql24, sameI_refl]
      have hr : ∀ W, (binOp BinOp.eql 24 (iv op d a b n) (iv op' d' a' b' n')).run Tryd.prog W = .ok (.bool (sameI op d a b n op' d' a' b' n')) W := fun W => eql24 _ _ _ _ _ _ _ _ _ _ W
      have hw : (((wd op d a b n : Nat) : Int) == ((wd op' d' a' b' n' : Nat) : Int)) = sameI op d a b n op' d' a' b' n' := by
        by_cases hs : op = op' ∧ d = d' ∧ a = a' ∧ b = b' ∧ n = n'
        · obtain ⟨rfl, rfl, rfl, rfl, rfl⟩ := hs
          rw [sameI_refl]; simp
        · have h1 : ¬ wd op d a b n = wd op' d' a' b' n' := fun e => hs (wd_inj hi hj e)
          have h2 : sameI op d a b n op' d' a' b' n' = false := by
            rw [sameI, decide_eq_false_iff_not]; rintro ⟨q1, q2, q3, q4, q5⟩; exact hs ⟨q1, by omega, by omega, by omega, q5⟩
          rw [h2, beq_eq_false_iff_ne]; omega
      have ht : ((sb (tx op d a b n)).toList == (sb (tx op' d' a' b' n')).toList) = sameI op d a b n op' d' a' b' n' := by
        by_cases hs : op = op' ∧ d = d' ∧ a = a' ∧ b = b' ∧ n = n'
        · obtain ⟨rfl, rfl, rfl, rfl, rfl⟩ := hs
          rw [sameI_refl]; simp
        · have h1 : ¬ sb (tx op d a b n) = sb (tx op' d' a' b' n') := fun e => hs (tx_inj hi hj (sb_inj e))
          have h2 : sameI op d a b n op' d' a' b' n' = false := by
            rw [sameI, decide_eq_false_iff_not]; rintro ⟨q1, q2, q3, q4, q5⟩; exact hs ⟨q1, by omega, by omega, by omega, q5⟩
          rw [h2]; exact neqS h1
      clear hi hj n1 n2
      generalize sameI op d a b n op' d' a' b' n' = y at *
      generalize sb (tx op d a b n) = s1 at *
      generalize sb (tx op' d' a' b' n') = s2 at *
      generalize wd op d a b n = m1 at *
      generalize wd op' d' a' b' n' = m2 at *
      generalize (m1 : Int) = m1' at *
      generalize (m2 : Int) = m2' at *
      go_enter Tryd.func3, Tryd.ntmps3
      go_wp2_with fail
      go_at_call 9
      refine hK.mono ?_
      rintro e w1 ⟨rfl, k1⟩
      have kk1 : Kp w w1 := Kp.trans k0 k1
      obtain ⟨c0, c1, c2, c3, c4⟩ := Kp.cells5 k1 g0
      have hE1 := hE w1 kk1
      clear hK hE
      go_wp2_with fail
      go_at_call 10
      refine hE1.mono ?_
      rintro e w2 ⟨rfl, k2⟩
      have kk2 : Kp w w2 := Kp.trans kk1 k2
      clear c0 c1 c2 c3 c4
      obtain ⟨c0, c1, c2, c3, c4⟩ := Kp.cells5 (Kp.trans k1 k2) g1
      have hF2 := hF w2 kk2
      clear hE1 hF
      go_wp2_with fail
      go_at_call 10
      refine hF2.mono ?_
      rintro e w3 ⟨rfl, k3⟩
      have kk3 : Kp w w3 := Kp.trans kk2 k3
      clear c0 c1 c2 c3 c4
      obtain ⟨c0, c1, c2, c3, c4⟩ := Kp.cells5 (Kp.trans (Kp.trans k1 k2) k3) g0
      have hS3 := hS w3 kk3
      clear hF2 hS
      go_wp2_with fail
      go_at_call 11
      refine hS3.mono ?_
      rintro e w4 ⟨rfl, k4⟩
      have kk4 : Kp w w4 := Kp.trans kk3 k4
      clear c0 c1 c2 c3 c4
      obtain ⟨c0, c1, c2, c3, c4⟩ := Kp.cells5 (Kp.trans (Kp.trans (Kp.trans k1 k2) k3) k4) g1
      have hT4 := hT w4 kk4
      clear hS3 hT
      go_wp2_with fail
      go_at_call 11
      refine hT4.mono ?_
      rintro e w5 ⟨rfl, k5⟩
      have kk5 : Kp w w5 := Kp.trans kk4 k5
      have k15 := Kp.trans (Kp.trans (Kp.trans (Kp.trans k1 k2) k3) k4) k5
      clear c0 c1 c2 c3 c4 hT4
      have hD5 := hD w5 kk5
      clear hD
      go_wp2_with fail
      go_at_call 12
      refine hD5.mono ?_
      rintro e w6 ⟨rfl, k6⟩
      have kk6 : Kp w w6 := Kp.trans kk5 k6
      obtain ⟨c0, c1, c2, c3, c4, _⟩ := cells5 (al_old (.cells #[.int .i64 op, .int .u8 d, .int .u8 a, .int .u8 b, .int .i32 n] 24) (Kp.heap (Kp.trans k15 k6) g0))
      obtain ⟨i0, i1, i2, i3, i4, _⟩ := cells5 (al_old (.cells #[.int .i64 op, .int .u8 d, .int .u8 a, .int .u8 b, .int .i32 n] 24) (Kp.heap (Kp.trans k15 k6) g1))
      go_wp2
      go_ret
      exact ⟨rfl, kk6.alloc _⟩
    · have n1 := tx_ne hi
      have x1 : (sb (tx op d a b n)).toList.isEmpty = false := by cases q : (sb (tx op d a b n)).toList with | nil => exact absurd q n1 | cons x r => rfl
      have x2 : (sb (tx op' d' a' b' n')).toList.isEmpty = true := by rw [tx, if_neg hj]; exact sb_nil
      have hcb : (ck op' d' a' b' n' == 0) = false := by simpa using hj
      have hcn : (ck op' d' a' b' n' != 0) = true := by simpa using hj
      rw [hi] at hE
      clear hi hj n1
      generalize ck op' d' a' b' n' = c2' at *
      generalize ew op d a b n = m1' at *
      generalize ew op' d' a' b' n' = m2' at *
      generalize sb (tx op d a b n) = s1 at *
      generalize sb (tx op' d' a' b' n') = s2 at *
      go_enter Tryd.func3, Tryd.ntmps3
      go_wp2_with fail
      go_at_call 9
      refine hK.mono ?_
      rintro e w1 ⟨rfl, k1⟩
      have kk1 : Kp w w1 := Kp.trans k0 k1
      obtain ⟨c0, c1, c2, c3, c4⟩ := Kp.cells5 k1 g0
      have hE1 := hE w1 kk1
      clear hK hE
      go_wp2_with fail
      go_at_call 10
      refine hE1.mono ?_
      rintro e w2 ⟨rfl, k2⟩
      have kk2 : Kp w w2 := Kp.trans kk1 k2
      clear c0 c1 c2 c3 c4
      obtain ⟨c0, c1, c2, c3, c4⟩ := Kp.cells5 (Kp.trans k1 k2) g1
      have hF2 := hF w2 kk2
      clear hE1 hF
      go_wp2_with fail
      go_at_call 10
      refine hF2.mono ?_
      rintro e w3 ⟨rfl, k3⟩
      have kk3 : Kp w w3 := Kp.trans kk2 k3
      clear c0 c1 c2 c3 c4
      obtain ⟨c0, c1, c2, c3, c4⟩ := Kp.cells5 (Kp.trans (Kp.trans k1 k2) k3) g0
      have hS3 := hS w3 kk3
      clear hF2 hS
      go_wp2_with fail
      go_at_call 11
      refine hS3.mono ?_
      rintro e w4 ⟨rfl, k4⟩
      have kk4 : Kp w w4 := Kp.trans kk3 k4
      clear c0 c1 c2 c3 c4
      obtain ⟨c0, c1, c2, c3, c4⟩ := Kp.cells5 (Kp.trans (Kp.trans (Kp.trans k1 k2) k3) k4) g1
      have hT4 := hT w4 kk4
      clear hS3 hT
      go_wp2_with fail
      go_at_call 11
      refine hT4.mono ?_
      rintro e w5 ⟨rfl, k5⟩
      have kk5 : Kp w w5 := Kp.trans kk4 k5
      have k15 := Kp.trans (Kp.trans (Kp.trans (Kp.trans k1 k2) k3) k4) k5
      clear c0 c1 c2 c3 c4 hT4
      go_wp2
      go_ret
      exact ⟨rfl, kk5⟩
  · have x1 : (sb (tx op d a b n)).toList.isEmpty = true := by rw [tx, if_neg hi]; exact sb_nil
    have hcb : (ck op d a b n == 0) = false := by simpa using hi
    have hcn : (ck op d a b n != 0) = true := by simpa using hi
    by_cases hj : ck op' d' a' b' n' = 0
    · have n2 := tx_ne hj
      have x2 : (sb (tx op' d' a' b' n')).toList.isEmpty = false := by cases q : (sb (tx op' d' a' b' n')).toList with | nil => exact absurd q n2 | cons x r => rfl
      rw [hj] at hF
      clear hi hj n2
      generalize ck op d a b n = c1' at *
      generalize ew op d a b n = m1' at *
      generalize ew op' d' a' b' n' = m2' at *
      generalize sb (tx op d a b n) = s1 at *
      generalize sb (tx op' d' a' b' n') = s2 at *
      go_enter Tryd.func3, Tryd.ntmps3
      go_wp2_with fail
      go_at_call 9
      refine hK.mono ?_
      rintro e w1 ⟨rfl, k1⟩
      have kk1 : Kp w w1 := Kp.trans k0 k1
      obtain ⟨c0, c1, c2, c3, c4⟩ := Kp.cells5 k1 g0
      have hE1 := hE w1 kk1
      clear hK hE
      go_wp2_with fail
      go_at_call 10
      refine hE1.mono ?_
      rintro e w2 ⟨rfl, k2⟩
      have kk2 : Kp w w2 := Kp.trans kk1 k2
      clear c0 c1 c2 c3 c4
      obtain ⟨c0, c1, c2, c3, c4⟩ := Kp.cells5 (Kp.trans k1 k2) g1
      have hF2 := hF w2 kk2
      clear hE1 hF
      go_wp2_with fail
      go_at_call 10
      refine hF2.mono ?_
      rintro e w3 ⟨rfl, k3⟩
      have kk3 : Kp w w3 := Kp.trans kk2 k3
      clear c0 c1 c2 c3 c4
      obtain ⟨c0, c1, c2, c3, c4⟩ := Kp.cells5 (Kp.trans (Kp.trans k1 k2) k3) g0
      have hS3 := hS w3 kk3
      clear hF2 hS
      go_wp2_with fail
      go_at_call 11
      refine hS3.mono ?_
      rintro e w4 ⟨rfl, k4⟩
      have kk4 : Kp w w4 := Kp.trans kk3 k4
      clear c0 c1 c2 c3 c4
      obtain ⟨c0, c1, c2, c3, c4⟩ := Kp.cells5 (Kp.trans (Kp.trans (Kp.trans k1 k2) k3) k4) g1
      have hT4 := hT w4 kk4
      clear hS3 hT
      go_wp2_with fail
      go_at_call 11
      refine hT4.mono ?_
      rintro e w5 ⟨rfl, k5⟩
      have kk5 : Kp w w5 := Kp.trans kk4 k5
      have k15 := Kp.trans (Kp.trans (Kp.trans (Kp.trans k1 k2) k3) k4) k5
      clear c0 c1 c2 c3 c4 hT4
      go_wp2
      go_ret
      exact ⟨rfl, kk5⟩
    · have x2 : (sb (tx op' d' a' b' n')).toList.isEmpty = true := by rw [tx, if_neg hj]; exact sb_nil
      have hcb2 : (ck op' d' a' b' n' == 0) = false := by simpa using hj
      clear hi hj
      generalize ck op d a b n = c1' at *
      generalize ck op' d' a' b' n' = c2' at *
      generalize ew op d a b n = m1' at *
      generalize ew op' d' a' b' n' = m2' at *
      generalize sb (tx op d a b n) = s1 at *
      generalize sb (tx op' d' a' b' n') = s2 at *
      go_enter Tryd.func3, Tryd.ntmps3
      go_wp2_with fail
      go_at_call 9
      refine hK.mono ?_
      rintro e w1 ⟨rfl, k1⟩
      have kk1 : Kp w w1 := Kp.trans k0 k1
      obtain ⟨c0, c1, c2, c3, c4⟩ := Kp.cells5 k1 g0
      have hE1 := hE w1 kk1
      clear hK hE
      go_wp2_with fail
      go_at_call 10
      refine hE1.mono ?_
      rintro e w2 ⟨rfl, k2⟩
      have kk2 : Kp w w2 := Kp.trans kk1 k2
      clear c0 c1 c2 c3 c4
      obtain ⟨c0, c1, c2, c3, c4⟩ := Kp.cells5 (Kp.trans k1 k2) g1
      have hF2 := hF w2 kk2
      clear hE1 hF
      go_wp2_with fail
      go_at_call 10
      refine hF2.mono ?_
      rintro e w3 ⟨rfl, k3⟩
      have kk3 : Kp w w3 := Kp.trans kk2 k3
      clear c0 c1 c2 c3 c4
      obtain ⟨c0, c1, c2, c3, c4⟩ := Kp.cells5 (Kp.trans (Kp.trans k1 k2) k3) g0
      have hS3 := hS w3 kk3
      clear hF2 hS
      go_wp2_with fail
      go_at_call 11
      refine hS3.mono ?_
      rintro e w4 ⟨rfl, k4⟩
      have kk4 : Kp w w4 := Kp.trans kk3 k4
      clear c0 c1 c2 c3 c4
      obtain ⟨c0, c1, c2, c3, c4⟩ := Kp.cells5 (Kp.trans (Kp.trans (Kp.trans k1 k2) k3) k4) g1
      have hT4 := hT w4 kk4
      clear hS3 hT
      go_wp2_with fail
      go_at_call 11
      refine hT4.mono ?_
      rintro e w5 ⟨rfl, k5⟩
      have kk5 : Kp w w5 := Kp.trans kk4 k5
      have k15 := Kp.trans (Kp.trans (Kp.trans (Kp.trans k1 k2) k3) k4) k5
      clear c0 c1 c2 c3 c4 hT4
      go_wp2
      go_ret
      exact ⟨rfl, kk5⟩
end Go.Proofs.YtodgobapgmhgdaaDoor
