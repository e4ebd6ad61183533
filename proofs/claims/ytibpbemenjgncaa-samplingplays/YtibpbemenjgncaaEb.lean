import Derived.Test.YtibpbemenjgncaaEa
namespace Go.Proofs.Ytibpbemenjgncaa
open Go.ChangeShapes Go.WideShapes Go.ChangeAt Go.RowKit
set_option linter.unusedVariables false
set_option maxHeartbeats 1000000 in
theorem fturn_no (w : World) (F : Nat) (vr vl vn : Value) (rl : List Int) (p : PS) (h : IsF w F vr vl vn rl p) (c : Int) (hT : p.tn c = false) :
    Calls Try.prog 34 #[.pointer (some ⟨F, 0, none⟩), .int .i64 c] w fun e w' => e = .returned (.int .i64 0) ∧ Kp w w' := by
  have c0 : w.cell? ⟨F, 0, none⟩ = some (.int .i64 p.wr) := (h.c 0).1
  have c4 : w.cell? ⟨F, 4, none⟩ = some (.bool p.ne.th) := (h.c 4).1
  by_cases h1 : c = p.wr
  · have g2 : p.ne.th = false := by simpa [PS.tn, h1] using hT
    rw [g2] at c4
    have g1 : (c != p.wr) = false := by simp [h1]
    generalize p.wr = pw at *
    subst h1
    clear h hT g2
    go_enter Try.func34, Try.ntmps34
    go_wp2
    go_ret
    exact ⟨rfl, Kp.refl _⟩
  · have g1 : (c != p.wr) = true := by simp [h1]
    generalize p.wr = pw at *
    clear h hT h1
    go_enter Try.func34, Try.ntmps34
    go_wp2
    go_ret
    exact ⟨rfl, Kp.refl _⟩
set_option maxHeartbeats 1000000 in
theorem fturn_yes (w : World) (F : Nat) (vr vl vn : Value) (rl : List Int) (p : PS) (h : IsF w F vr vl vn rl p) (c : Int) (hT : p.tn c = true) :
    Calls Try.prog 34 #[.pointer (some ⟨F, 0, none⟩), .int .i64 c] w fun e w' => e = .returned (.int .i64 (p.ne.bs.length : Nat)) ∧ IsF w' F vr vn (.slice none 0 0) rl ⟨p.wr, p.sz, p.rd, p.ne, Ms.no⟩ ∧ Chg w w' (fun k => k = F) := by
  obtain ⟨h1, g2⟩ : c = p.wr ∧ p.ne.th = true := by simpa [PS.tn] using hT
  subst h1
  have g1 : (p.wr != p.wr) = false := by simp
  have c0 : w.cell? ⟨F, 0, none⟩ = some (.int .i64 p.wr) := (h.c 0).1
  have c3 : w.cell? ⟨F, 3, none⟩ = some (.bool p.la.th) := (h.c 3).1
  have c4 : w.cell? ⟨F, 4, none⟩ = some (.bool p.ne.th) := (h.c 4).1
  have c5 : w.cell? ⟨F, 5, none⟩ = some vl := (h.c 5).1
  have c6 : w.cell? ⟨F, 6, none⟩ = some (.int .u64 p.la.tk) := (h.c 6).1
  have c7 : w.cell? ⟨F, 7, none⟩ = some vn := (h.c 7).1
  have c8 : w.cell? ⟨F, 8, none⟩ = some (.int .u64 p.ne.tk) := (h.c 8).1
  have f3 := (h.c 3).2
  have f4 := (h.c 4).2
  have f5 := (h.c 5).2
  have f6 := (h.c 6).2
  have f7 := (h.c 7).2
  have f8 := (h.c 8).2
  rw [g2] at c4
  obtain ⟨an, cn, rfl⟩ := h.n.shape
  obtain ⟨al, cl, rfl⟩ := h.l.shape
  have HH : Hid (IsF w F vr (.slice al p.la.bs.length cl) (.slice an p.ne.bs.length cn) rl p ∧ p.ne.th = true) := ⟨h, g2⟩
  clear h hT g2
  go_enter Try.func34, Try.ntmps34
  go_upto_region 3 with fail
  go_upto_region 7 with fail
  have HZ : Hid (IsF ((((((w.setCell ⟨F, 5, none⟩ (.slice an p.ne.bs.length cn)).setCell ⟨F, 6, none⟩ (.int .u64 p.ne.tk)).setCell ⟨F, 3, none⟩ (.bool true)).setCell ⟨F, 4, none⟩ (.bool false)).setCell ⟨F, 7, none⟩ (.slice none 0 0)).setCell ⟨F, 8, none⟩ (.int .u64 0)) F vr (.slice an p.ne.bs.length cn) (.slice none 0 0) rl ⟨p.wr, p.sz, p.rd, p.ne, Ms.no⟩ ∧ Chg w ((((((w.setCell ⟨F, 5, none⟩ (.slice an p.ne.bs.length cn)).setCell ⟨F, 6, none⟩ (.int .u64 p.ne.tk)).setCell ⟨F, 3, none⟩ (.bool true)).setCell ⟨F, 4, none⟩ (.bool false)).setCell ⟨F, 7, none⟩ (.slice none 0 0)).setCell ⟨F, 8, none⟩ (.int .u64 0)) (fun k => k = F)) := by
    obtain ⟨i1, i2⟩ := HH.out
    have hC := chg3 w F 5 6 3 (.slice an p.ne.bs.length cn) (.int .u64 p.ne.tk) (.bool true)
    have hC2 := chg3 (((w.setCell ⟨F, 5, none⟩ (.slice an p.ne.bs.length cn)).setCell ⟨F, 6, none⟩ (.int .u64 p.ne.tk)).setCell ⟨F, 3, none⟩ (.bool true)) F 4 7 8 (.bool false) (.slice none 0 0) (.int .u64 0)
    have hCT := Chg.trans hC hC2 (fun _ _ h => h)
    refine ⟨i1.set hCT p.ne Ms.no _ _ ?_ i1.n (OB.nil _) i1.no (Ms.no_ok (by have := i1.sz; omega)), hCT⟩
    rw [set3 (set3 i1.box 5 6 3 _ _ _) 4 7 8]
    show _ = some (Obj.cells (fcs ⟨p.wr, p.sz, p.rd, p.ne, Ms.no⟩ vr (.slice an p.ne.bs.length cn) (.slice none 0 0)) 73 (0, 0))
    unfold fcs
    simp only [i2]
    rfl
  generalize ((((((w.setCell ⟨F, 5, none⟩ (.slice an p.ne.bs.length cn)).setCell ⟨F, 6, none⟩ (.int .u64 p.ne.tk)).setCell ⟨F, 3, none⟩ (.bool true)).setCell ⟨F, 4, none⟩ (.bool false)).setCell ⟨F, 7, none⟩ (.slice none 0 0)).setCell ⟨F, 8, none⟩ (.int .u64 0)) = w6 at *
  have z5 : w6.cell? ⟨F, 5, none⟩ = some (.slice an p.ne.bs.length cn) := (HZ.out.1.c 5).1
  clear HH c0 c3 c4 c5 c6 c7 c8 f3 f4 f5 f6 f7 f8
  go_wp2_with fail
  go_ret
  exact ⟨rfl, HZ.out.1, HZ.out.2⟩
theorem fturn_any (w : World) (F : Nat) (vr vl vn : Value) (rl : List Int) (p : PS) (h : IsF w F vr vl vn rl p) (c : Int) :
    Calls Try.prog 34 #[.pointer (some ⟨F, 0, none⟩), .int .i64 c] w fun e w' => e = .returned (.int .i64 (p.tN c : Nat)) ∧ ∃ vl' vn', IsF w' F vr vl' vn' rl (p.turn c) ∧ Chg w w' (fun k => k = F) ∧ (vl' = vl ∧ vn' = vn ∨ vl' = vn ∧ vn' = .slice none 0 0) := by
  cases hT : p.tn c with
  | true =>
    refine (fturn_yes w F vr vl vn rl p h c hT).mono ?_
    rintro e w' ⟨he, h1, h2⟩
    refine ⟨by simpa [PS.tN, hT] using he, vn, .slice none 0 0, ?_, h2, .inr ⟨rfl, rfl⟩⟩
    unfold PS.turn
    rw [if_pos hT]
    exact h1
  | false =>
    refine (fturn_no w F vr vl vn rl p h c hT).mono ?_
    rintro e w' ⟨he, h1⟩
    refine ⟨by simpa [PS.tN, hT] using he, vl, vn, ?_, h1.any, .inl ⟨rfl, rfl⟩⟩
    unfold PS.turn
    rw [if_neg (by simp [hT])]
    exact h.kp h1
set_option maxHeartbeats 1000000 in
theorem fits_any (w : World) (F : Nat) (vr vl vn : Value) (rl : List Int) (p : PS) (h : IsF w F vr vl vn rl p) (th : Bool) (a : Option Addr) (n c : Nat) (tk : Int) (hn : n ≤ 140737488351232) :
    Calls Try.prog 42 #[.pointer (some ⟨F, 0, none⟩), .bool th, .agg #[.slice a n c, .int .u64 tk]] w fun e w' => e = .returned (.bool (msB th n tk p.sz)) ∧ Kp w w' := by
  have R := heap_alloc_new w (.cells #[.slice a n c, .int .u64 tk] 29)
  have kA := Kp.al w (.cells #[.slice a n c, .int .u64 tk] 29)
  have c1 : (w.alloc (.cells #[.slice a n c, .int .u64 tk] 29)).cell? ⟨F, 1, none⟩ = some (.int .i64 p.sz) := ((h.kp kA).c 1).1
  have HK : Hid (Kp w (w.alloc (.cells #[.slice a n c, .int .u64 tk] 29))) := kA
  have d0 : (w.alloc (.cells #[.slice a n c, .int .u64 tk] 29)).cell? ⟨w.heap.size, 0, none⟩ = some (.slice a n c) := (cells_at R 0).1
  have d1 : (w.alloc (.cells #[.slice a n c, .int .u64 tk] 29)).cell? ⟨w.heap.size, 1, none⟩ = some (.int .u64 tk) := (cells_at R 1).1
  clear h R kA
  cases th with
  | false =>
    by_cases h0 : n = 0
    · subst h0
      by_cases ht : tk = 0
      · subst ht
        have e : msB false 0 0 p.sz = true := by simp [msB]
        rw [e]
        clear e
        go_enter Try.func42, Try.ntmps42
        go_wp2
        go_ret
        exact ⟨rfl, HK.out⟩
      · have e : msB false 0 tk p.sz = false := by simp [msB, ht]
        have g : (tk == 0) = false := by simp [ht]
        rw [e]
        clear e ht
        go_enter Try.func42, Try.ntmps42
        go_wp2
        go_ret
        exact ⟨rfl, HK.out⟩
    · have e : msB false n tk p.sz = false := by simp [msB, h0]
      have g : ((n : Int) == 0) = false := by simp; omega
      rw [e]
      clear e h0
      go_enter Try.func42, Try.ntmps42
      go_wp2
      go_ret
      exact ⟨rfl, HK.out⟩
  | true =>
    generalize p.sz = sz at *
    by_cases h1 : (n : Int) ≤ sz
    · by_cases h2 : n % 4 = 0
      · have e : msB true n tk sz = true := by simp [msB, h1, h2]
        have g : ((n : Int) % 4 == 0) = true := by simp; omega
        rw [e]
        clear e h2
        go_enter Try.func42, Try.ntmps42
        go_upto_region 3 with fail
        generalize w.alloc (.cells #[.slice a n c, .int .u64 tk] 29) = w1 at *
        go_quiet (fail)
        go_wp2
        go_ret
        exact ⟨rfl, HK.out.trans (Kp.drewN _ _)⟩
      · have e : msB true n tk sz = false := by simp [msB, h2]
        have g : ((n : Int) % 4 == 0) = false := by simp; omega
        rw [e]
        clear e h2
        go_enter Try.func42, Try.ntmps42
        go_upto_region 3 with fail
        generalize w.alloc (.cells #[.slice a n c, .int .u64 tk] 29) = w1 at *
        go_quiet (fail)
        go_wp2
        go_ret
        exact ⟨rfl, HK.out.trans (Kp.drewN _ _)⟩
    · have e : msB true n tk sz = false := by simp [msB, h1]
      rw [e]
      clear e
      go_enter Try.func42, Try.ntmps42
      go_upto_region 3 with fail
      generalize w.alloc (.cells #[.slice a n c, .int .u64 tk] 29) = w1 at *
      go_quiet (fail)
      go_wp2
      go_ret
      exact ⟨rfl, HK.out.trans (Kp.drewN _ _)⟩
end Go.Proofs.Ytibpbemenjgncaa
