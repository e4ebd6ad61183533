import Derived.Test.YtibpbemenjgncaaAc
namespace Go.Proofs.Ytibpbemenjgncaa
open Go.ChangeShapes Go.WideShapes Go.ChangeAt Go.RowKit
set_option linter.unusedVariables false
/-- Does Turn turn? -/
def PS.tn (p : PS) (c : Int) : Bool := decide (c = p.wr) && p.ne.th
def PS.turn (p : PS) (c : Int) : PS := if p.tn c then ⟨p.wr, p.sz, p.rd, p.ne, Ms.no⟩ else p
def PS.tN (p : PS) (c : Int) : Nat := if p.tn c then p.ne.bs.length else 0
set_option maxHeartbeats 1000000 in
theorem turn_no (w : World) (B : Nat) (vl vn : Value) (p : PS) (sn : Bool) (h : IsP w B vl vn p sn) (c : Int) (hT : p.tn c = false) :
    Calls Try.prog 11 #[.pointer (some ⟨B, 0, none⟩), .int .i64 c] w fun e w' => e = .returned (.int .i64 0) ∧ Kp w w' := by
  have c0 := h.c0
  by_cases h1 : c = p.wr
  · have g1 : (c != p.wr) = false := by simp [h1]
    have g2 : p.ne.th = false := by simpa [PS.tn, h1] using hT
    have HH : Hid (IsP w B vl vn p sn ∧ p.ne.th = false) := ⟨h, g2⟩
    generalize hW : p.wr = pw at *
    subst h1
    clear h hT g2 hW
    go_enter Try.func11, Try.ntmps11
    go_wp2_with fail
    go_at_call 24
    refine (next_any w B vl vn p sn HH.out.1).mono ?_
    rintro e w1 ⟨rfl, k1⟩
    have q := (HH.out.1.kp k1).cn.1
    rw [HH.out.2] at q
    go_wp2_with fail
    go_ret
    exact ⟨rfl, k1⟩
  · have g1 : (c != p.wr) = true := by simp [h1]
    clear h hT h1
    generalize p.wr = pw at *
    go_enter Try.func11, Try.ntmps11
    go_wp2_with fail
    go_ret
    exact ⟨rfl, Kp.refl _⟩
theorem IsP.turned {w : World} {B : Nat} {vl vn : Value} {p : PS} {sn : Bool} (h : IsP w B vl vn p sn) : IsP (w.setCell ⟨B, 17, none⟩ (.int .i64 (1 - if sn then 1 else 0))) B vn vl ⟨p.wr, p.sz, p.rd, p.ne, p.la⟩ (!sn) ∧ Chg w (w.setCell ⟨B, 17, none⟩ (.int .i64 (1 - if sn then 1 else 0))) (fun x => x = B) := by
  have hC : Chg w (w.setCell ⟨B, 17, none⟩ (.int .i64 (1 - if sn then 1 else 0))) (fun x => x = B) := Chg.setCell (S := fun x => x = B) (Chg.refl w _) (.inl rfl) _
  refine ⟨⟨?_, hC.owns h.n (fun k hk e => h.nn (by rw [hk, e])), hC.owns h.l (fun k hk e => h.nl (by rw [hk, e])), h.sz, h.no, h.lo⟩, hC⟩
  rw [heap_setCell_same w B 17 _ 65 _ h.box]
  cases sn <;> rfl
set_option maxHeartbeats 1000000 in
theorem turn_yes (w : World) (B : Nat) (vl vn : Value) (p : PS) (sn : Bool) (h : IsP w B vl vn p sn) (c : Int) (hT : p.tn c = true) :
    Calls Try.prog 11 #[.pointer (some ⟨B, 0, none⟩), .int .i64 c] w fun e w' => e = .returned (.int .i64 (p.ne.bs.length : Nat)) ∧ IsP w' B vn (.slice none 0 0) ⟨p.wr, p.sz, p.rd, p.ne, Ms.no⟩ (!sn) ∧ Chg w w' (fun k => k = B) := by
  have c0 := h.c0
  obtain ⟨h1, g2⟩ : c = p.wr ∧ p.ne.th = true := by simpa [PS.tn] using hT
  have g1 : (c != p.wr) = false := by simp [h1]
  have HH : Hid (IsP w B vl vn p sn ∧ p.ne.th = true) := ⟨h, g2⟩
  generalize hW : p.wr = pw at *
  have HW : Hid (p.wr = pw) := hW
  subst h1
  clear h hT g2 hW
  go_enter Try.func11, Try.ntmps11
  go_wp2_with fail
  go_at_call 24
  refine (next_any w B vl vn p sn HH.out.1).mono ?_
  rintro e w1 ⟨rfl, k1⟩
  have q := (HH.out.1.kp k1).cn.1
  rw [HH.out.2] at q
  go_wp2_with fail
  go_at_call 25
  refine (last_any w1 B vl vn p sn (HH.out.1.kp k1)).mono ?_
  rintro e w2 ⟨rfl, k2⟩
  have hP := HH.out.1.kp (k1.trans k2)
  have f0 := hP.fr (loA sn)
  have f1 := hP.fr (loA sn + 1)
  have f2 := hP.fr (loA sn + 2)
  obtain ⟨q0, q1, q2⟩ := hP.cl
  have hS := hP.setLa Ms.no (.slice none 0 0) (OB.nil _) (Ms.no_ok (by have := hP.sz; omega))
  have hC := chg3 w2 B (loA sn) (loA sn + 1) (loA sn + 2) (.bool false) (.slice none 0 0) (.int .u64 0)
  have K2 : Hid (IsP (((w2.setCell ⟨B, loA sn, none⟩ (.bool false)).setCell ⟨B, loA sn + 1, none⟩ (.slice none 0 0)).setCell ⟨B, loA sn + 2, none⟩ (.int .u64 0)) B (.slice none 0 0) vn ⟨p.wr, p.sz, p.rd, Ms.no, p.ne⟩ sn ∧ Chg w (((w2.setCell ⟨B, loA sn, none⟩ (.bool false)).setCell ⟨B, loA sn + 1, none⟩ (.slice none 0 0)).setCell ⟨B, loA sn + 2, none⟩ (.int .u64 0)) (fun x => x = B)) := ⟨hS, Chg.trans (k1.trans k2).any hC (fun _ _ h => h)⟩
  clear hS hC hP k1 k2 q c0 HH
  obtain ⟨av, cv, hvl⟩ : ∃ x y, x = vl ∧ y = p.la.th := ⟨_, _, rfl, rfl⟩
  generalize loA sn = o at *
  go_upto_region 4 with fail
  generalize (((w2.setCell ⟨B, o, none⟩ (.bool false)).setCell ⟨B, o + 1, none⟩ (.slice none 0 0)).setCell ⟨B, o + 2, none⟩ (.int .u64 0)) = w3 at *
  have r := K2.out.1.c17
  have fr := K2.out.1.fr 17
  obtain ⟨hT, hTc⟩ := K2.out.1.turned
  have K3 : Hid (IsP (w3.setCell ⟨B, 17, none⟩ (.int .i64 (1 - if sn then 1 else 0))) B vn (.slice none 0 0) ⟨p.wr, p.sz, p.rd, p.ne, Ms.no⟩ (!sn) ∧ Chg w (w3.setCell ⟨B, 17, none⟩ (.int .i64 (1 - if sn then 1 else 0))) (fun x => x = B)) := ⟨hT, Chg.trans K2.out.2 hTc (fun _ _ h => h)⟩
  clear hT hTc K2 q0 q1 q2 f0 f1 f2
  have hw : IntKind.i64.wrap (1 - (if sn then 1 else 0)) = (1 - (if sn then 1 else 0)) := by cases sn <;> decide
  generalize (if sn then (1 : Int) else 0) = z at *
  go_upto_region 5 with fail
  generalize w3.setCell ⟨B, 17, none⟩ (.int .i64 (1 - z)) = w4 at *
  go_wp2_with fail
  go_at_call 25
  refine (last_any w4 B vn _ _ (!sn) K3.out.1).mono ?_
  rintro e w5 ⟨rfl, k5⟩
  have hP := K3.out.1.kp k5
  have q1 := hP.cl.2.1
  obtain ⟨a', c', hv'⟩ := hP.l.shape
  rw [hv'] at q1
  have K5 : Hid (IsP w5 B vn (.slice none 0 0) ⟨p.wr, p.sz, p.rd, p.ne, Ms.no⟩ (!sn) ∧ Chg w w5 (fun x => x = B)) := ⟨hP, Chg.trans K3.out.2 k5.any (fun _ _ h => h)⟩
  clear hP k5 K3 hv'
  simp only at q1
  generalize loA (!sn) = o2 at *
  go_wp2_with fail
  go_ret
  exact ⟨rfl, by have := K5.out.1; rw [HW.out] at this; exact this, K5.out.2⟩
theorem turn_any (w : World) (B : Nat) (vl vn : Value) (p : PS) (sn : Bool) (h : IsP w B vl vn p sn) (c : Int) :
    Calls Try.prog 11 #[.pointer (some ⟨B, 0, none⟩), .int .i64 c] w fun e w' => e = .returned (.int .i64 (p.tN c : Nat)) ∧ ∃ vl' vn' sn', IsP w' B vl' vn' (p.turn c) sn' ∧ Chg w w' (fun k => k = B) ∧ (vl' = vl ∧ vn' = vn ∨ vl' = vn ∧ vn' = .slice none 0 0) := by
  cases hT : p.tn c with
  | true =>
    refine (turn_yes w B vl vn p sn h c hT).mono ?_
    rintro e w' ⟨he, h1, h2⟩
    refine ⟨by simpa [PS.tN, hT] using he, vn, .slice none 0 0, !sn, ?_, h2, .inr ⟨rfl, rfl⟩⟩
    unfold PS.turn
    rw [if_pos hT]
    exact h1
  | false =>
    refine (turn_no w B vl vn p sn h c hT).mono ?_
    rintro e w' ⟨he, h1⟩
    refine ⟨by simpa [PS.tN, hT] using he, vl, vn, sn, ?_, h1.any, .inl ⟨rfl, rfl⟩⟩
    unfold PS.turn
    rw [if_neg (by simp [hT])]
    exact h.kp h1
theorem isCell_any (w : World) (n : Int) : Calls Try.prog 26 #[.int .i64 n] w fun e w' => e = .returned (.bool (decide (1 ≤ n) && decide (n ≤ 8))) ∧ w' = w := by
  go_enter Try.func26, Try.ntmps26
  by_cases h1 : 1 ≤ n
  · go_wp2
    go_ret
    simp [h1]
  · go_wp2
    go_ret
    simp; omega
/-- May this cell read? -/
def PS.mr (p : PS) (c : Int) : Bool := (decide (1 ≤ c) && decide (c ≤ 8)) && p.rd c.toNat
theorem mr_cell {p : PS} {c : Int} (h : p.mr c = true) : ∃ n : Nat, c = n ∧ 1 ≤ n ∧ n ≤ 8 ∧ p.rd n = true := by
  simp [PS.mr] at h
  exact ⟨c.toNat, by omega, by omega, by omega, h.2⟩
set_option maxHeartbeats 1000000 in
theorem read_no (w : World) (B : Nat) (vl vn : Value) (p : PS) (sn : Bool) (h : IsP w B vl vn p sn) (c : Int) (hM : p.mr c = false) :
    Calls Try.prog 12 #[.pointer (some ⟨B, 0, none⟩), .int .i64 c] w fun e w' => e = .returned (.tuple #[.slice none 0 0, .int .u64 0, .bool false, .int .i64 161]) ∧ w' = w := by
  have hI := isCell_any w c
  by_cases h1 : 1 ≤ c ∧ c ≤ 8
  · obtain ⟨n, rfl⟩ : ∃ n : Nat, c = n := ⟨c.toNat, by omega⟩
    have e0 : (decide (1 ≤ (n : Int)) && decide ((n : Int) ≤ 8)) = true := by simp; omega
    have hr : p.rd n = false := by simpa [PS.mr, e0] using hM
    have cr := h.cr n (by omega)
    rw [hr] at cr
    rw [e0] at hI
    have hn9 : n < 9 := by omega
    clear h hM hr e0 h1
    go_enter Try.func12, Try.ntmps12
    go_wp2_with fail
    go_at_call 26
    refine hI.mono ?_
    rintro e w1 ⟨rfl, rfl⟩
    clear hI
    go_wp2_with fail
    refine bodyPost_ret (v := .tuple #[.slice none 0 0, .int .u64 0, .bool false, .int .i64 161]) (by simp [results, Try.results12, go_sem]) rfl ⟨rfl, rfl⟩
  · have e0 : (decide (1 ≤ c) && decide (c ≤ 8)) = false := by
      by_cases h2 : 1 ≤ c
      · have : ¬ c ≤ 8 := fun h3 => h1 ⟨h2, h3⟩
        simp [this]
      · simp [h2]
    rw [e0] at hI
    clear h hM e0 h1
    go_enter Try.func12, Try.ntmps12
    go_wp2_with fail
    go_at_call 26
    refine hI.mono ?_
    rintro e w1 ⟨rfl, rfl⟩
    clear hI
    go_wp2_with fail
    refine bodyPost_ret (v := .tuple #[.slice none 0 0, .int .u64 0, .bool false, .int .i64 161]) (by simp [results, Try.results12, go_sem]) rfl ⟨rfl, rfl⟩
set_option maxHeartbeats 1000000 in
theorem read_ok (w : World) (B : Nat) (vl vn : Value) (p : PS) (sn : Bool) (h : IsP w B vl vn p sn) (c : Int) (hM : p.mr c = true) :
    Calls Try.prog 12 #[.pointer (some ⟨B, 0, none⟩), .int .i64 c] w fun e w' => ∃ v, e = .returned (.tuple #[v, .int .u64 p.la.tk, .bool p.la.th, .int .i64 0]) ∧ OB w' v p.la.bs ∧ Kp w w' ∧ Nw w v := by
  have hI := isCell_any w c
  obtain ⟨n, rfl, h1, h8, hr⟩ := mr_cell hM
  have e0 : (decide (1 ≤ (n : Int)) && decide ((n : Int) ≤ 8)) = true := by simp; omega
  have cr := h.cr n (by omega)
  rw [hr] at cr
  rw [e0] at hI
  have hn9 : n < 9 := by omega
  have HH : Hid (IsP w B vl vn p sn) := h
  clear h hM hr e0
  go_enter Try.func12, Try.ntmps12
  go_wp2_with fail
  go_at_call 26
  refine hI.mono ?_
  rintro e w0 ⟨rfl, rfl⟩
  clear hI
  go_wp2_with fail
  go_at_call 25
  refine (last_any w0 B vl vn p sn HH.out).mono ?_
  rintro e w1 ⟨rfl, k1⟩
  have hP := HH.out.kp k1
  obtain ⟨q0, q1, q2⟩ := hP.cl
  obtain ⟨a, cp, rfl⟩ := HH.out.l.shape
  have K1 : Hid (IsP w1 B (.slice a p.la.bs.length cp) vn p sn ∧ Kp w0 w1) := ⟨hP, k1⟩
  clear hP k1 HH
  go_wp2_with fail
  go_at_call 23
  refine (copied_any w1 _ p.la.bs K1.out.1.lb p.la.tk).mono ?_
  rintro e w2 ⟨v', rfl, ho, k2, nw⟩
  have hP := K1.out.1.kp k2
  obtain ⟨a', cp', rfl⟩ := ho.shape
  have hA : Kp w2 (w2.alloc (.cells #[.slice a' p.la.bs.length cp', .int .u64 p.la.tk] 29)) := Kp.al _ _
  have hw0 := K1.out.2
  have K2 : Hid (IsP (w2.alloc (.cells #[.slice a' p.la.bs.length cp', .int .u64 p.la.tk] 29)) B (.slice a p.la.bs.length cp) vn p sn ∧ OB (w2.alloc (.cells #[.slice a' p.la.bs.length cp', .int .u64 p.la.tk] 29)) (.slice a' p.la.bs.length cp') p.la.bs ∧ Kp w0 (w2.alloc (.cells #[.slice a' p.la.bs.length cp', .int .u64 p.la.tk] 29)) ∧ Nw w0 (.slice a' p.la.bs.length cp')) :=
    ⟨hP.kp hA, hA.owns ho (fun _ _ h => h), (hw0.trans k2).trans hA, fun k hk => by have := nw k hk; have := hw0.size; omega⟩
  clear hP ho k2 nw hA hw0 K1 q0 q1 q2
  go_upto_region 4 with fail
  have q0 := K2.out.1.cl.1
  have d0 := (cells_at (heap_alloc_new w2 (.cells #[.slice a' p.la.bs.length cp', .int .u64 p.la.tk] 29)) 0).1
  have d1 := (cells_at (heap_alloc_new w2 (.cells #[.slice a' p.la.bs.length cp', .int .u64 p.la.tk] 29)) 1).1
  simp only [List.getElem?_toArray] at d0 d1
  generalize w2.alloc (.cells #[.slice a' p.la.bs.length cp', .int .u64 p.la.tk] 29) = w3 at *
  go_quiet (first | (go_at_call 25; refine Calls.quiet_of (last_q _ B (.slice a p.la.bs.length cp) vn p sn ?_); exact K2.out.1.kp (Kp.drewN _ _)) | fail)
  go_wp2_with fail
  refine bodyPost_ret (v := .tuple #[.slice a' p.la.bs.length cp', .int .u64 p.la.tk, .bool p.la.th, .int .i64 0]) (by simp [results, Try.results12, go_sem]) rfl ?_
  obtain ⟨_, k1, k2, k3⟩ := K2.out
  exact ⟨_, rfl, Chg.owns (Kp.drewN _ _) k1 (fun _ _ h => h), k2.trans (Kp.drewN _ _), k3⟩
end Go.Proofs.Ytibpbemenjgncaa
