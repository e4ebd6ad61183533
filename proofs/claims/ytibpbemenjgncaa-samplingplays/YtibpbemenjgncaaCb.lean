import Derived.Test.YtibpbemenjgncaaCa
namespace Go.Proofs.Ytibpbemenjgncaa
open Go.ChangeShapes Go.WideShapes Go.ChangeAt Go.RowKit
set_option linter.unusedVariables false
/-- May a message be there, or not? -/
def msB (th : Bool) (n : Nat) (tk sz : Int) : Bool := if th then decide ((n : Int) ≤ sz) && decide (n % 4 = 0) else decide (n = 0) && decide (tk = 0)
theorem msB_ok {th : Bool} {bs : List Int} {tk sz : Int} (h : msB th bs.length tk sz = true) (hs : 0 ≤ sz) : (⟨th, bs, tk⟩ : Ms).ok sz := by
  cases th with
  | true =>
    simp [msB] at h
    exact ⟨(fun e => by cases e), h.1, h.2⟩
  | false =>
    simp [msB] at h
    obtain ⟨rfl, rfl⟩ := h
    exact ⟨fun _ => ⟨rfl, rfl⟩, by simpa using hs, rfl⟩
theorem ok_msB {m : Ms} {sz : Int} (h : m.ok sz) : msB m.th m.bs.length m.tk sz = true := by
  cases ht : m.th with
  | true => simp [msB]; exact ⟨h.l, h.q⟩
  | false => have := h.z ht; simp [msB, this]
set_option maxHeartbeats 1000000 in
theorem mayHave_any (w : World) (B : Nat) (vl vn : Value) (p : PS) (sn : Bool) (h : IsP w B vl vn p sn) (th : Bool) (a : Option Addr) (n c : Nat) (tk : Int) (hn : n ≤ 140737488351232) :
    Calls Try.prog 30 #[.pointer (some ⟨B, 0, none⟩), .bool th, .agg #[.slice a n c, .int .u64 tk]] w fun e w' => e = .returned (.bool (msB th n tk p.sz)) ∧ Kp w w' := by
  have R := heap_alloc_new w (.cells #[.slice a n c, .int .u64 tk] 29)
  have kA := Kp.al w (.cells #[.slice a n c, .int .u64 tk] 29)
  have c1 := (h.kp kA).c1
  have HK : Hid (Kp w (w.alloc (.cells #[.slice a n c, .int .u64 tk] 29))) := kA
  have d0 : (w.alloc (.cells #[.slice a n c, .int .u64 tk] 29)).cell? ⟨w.heap.size, 0, none⟩ = some (.slice a n c) := (cells_at R 0).1
  have d1 : (w.alloc (.cells #[.slice a n c, .int .u64 tk] 29)).cell? ⟨w.heap.size, 1, none⟩ = some (.int .u64 tk) := (cells_at R 1).1
  clear h R kA
  cases th with
  | false =>
    by_cases h0 : n = 0
    · subst h0
      by_cases ht : tk = 0
      · subst ht
        have e : msB false 0 0 p.sz = true := by simp [msB]
        rw [e]
        clear e
        go_enter Try.func30, Try.ntmps30
        go_wp2
        go_ret
        exact ⟨rfl, HK.out⟩
      · have e : msB false 0 tk p.sz = false := by simp [msB, ht]
        have g : (tk == 0) = false := by simp [ht]
        rw [e]
        clear e ht
        go_enter Try.func30, Try.ntmps30
        go_wp2
        go_ret
        exact ⟨rfl, HK.out⟩
    · have e : msB false n tk p.sz = false := by simp [msB, h0]
      have g : ((n : Int) == 0) = false := by simp; omega
      rw [e]
      clear e h0
      go_enter Try.func30, Try.ntmps30
      go_wp2
      go_ret
      exact ⟨rfl, HK.out⟩
  | true =>
    generalize p.sz = sz at *
    by_cases h1 : (n : Int) ≤ sz
    · by_cases h2 : n % 4 = 0
      · have e : msB true n tk sz = true := by simp [msB, h1, h2]
        have g : ((n : Int) % 4 == 0) = true := by simp; omega
        rw [e]
        clear e h2
        go_enter Try.func30, Try.ntmps30
        go_upto_region 3 with fail
        generalize w.alloc (.cells #[.slice a n c, .int .u64 tk] 29) = w1 at *
        go_quiet (fail)
        go_wp2
        go_ret
        exact ⟨rfl, HK.out.trans (Kp.drewN _ _)⟩
      · have e : msB true n tk sz = false := by simp [msB, h2]
        have g : ((n : Int) % 4 == 0) = false := by simp; omega
        rw [e]
        clear e h2
        go_enter Try.func30, Try.ntmps30
        go_upto_region 3 with fail
        generalize w.alloc (.cells #[.slice a n c, .int .u64 tk] 29) = w1 at *
        go_quiet (fail)
        go_wp2
        go_ret
        exact ⟨rfl, HK.out.trans (Kp.drewN _ _)⟩
    · have e : msB true n tk sz = false := by simp [msB, h1]
      rw [e]
      clear e
      go_enter Try.func30, Try.ntmps30
      go_upto_region 3 with fail
      generalize w.alloc (.cells #[.slice a n c, .int .u64 tk] 29) = w1 at *
      go_quiet (fail)
      go_wp2
      go_ret
      exact ⟨rfl, HK.out.trans (Kp.drewN _ _)⟩
/-- May a port have these? -/
def PS.ldB (p : PS) (th nt : Bool) (b1 b2 : List Int) (t1 t2 : Int) : Bool := msB th b1.length t1 p.sz && msB nt b2.length t2 p.sz
set_option maxHeartbeats 2000000 in
set_option maxRecDepth 10000 in
theorem load_no (w : World) (B : Nat) (vl vn : Value) (p : PS) (sn : Bool) (h : IsP w B vl vn p sn) (th nt : Bool) (v1 v2 : Value) (b1 b2 : List Int) (t1 t2 : Int) (h1 : Bs w v1 b1) (h2 : Bs w v2 b2) (hL : p.ldB th nt b1 b2 t1 t2 = false) :
    Calls Try.prog 19 #[.pointer (some ⟨B, 0, none⟩), .agg #[.bool th, .bool nt, v1, .int .u64 t1, v2, .int .u64 t2]] w fun e w' => e = .returned (.int .i64 160) ∧ Kp w w' := by
  obtain ⟨a1, c1, rfl⟩ := h1.vshape
  obtain ⟨a2, c2, rfl⟩ := h2.vshape
  have l1 := h1.len
  have l2 := h2.len
  have R := heap_alloc_new w (.cells #[.bool th, .bool nt, .slice a1 b1.length c1, .int .u64 t1, .slice a2 b2.length c2, .int .u64 t2] 31)
  have kA := Kp.al w (.cells #[.bool th, .bool nt, .slice a1 b1.length c1, .int .u64 t1, .slice a2 b2.length c2, .int .u64 t2] 31)
  have HK : Hid (Kp w (w.alloc (.cells #[.bool th, .bool nt, .slice a1 b1.length c1, .int .u64 t1, .slice a2 b2.length c2, .int .u64 t2] 31)) ∧ IsP (w.alloc (.cells #[.bool th, .bool nt, .slice a1 b1.length c1, .int .u64 t1, .slice a2 b2.length c2, .int .u64 t2] 31)) B vl vn p sn ∧ (w.alloc (.cells #[.bool th, .bool nt, .slice a1 b1.length c1, .int .u64 t1, .slice a2 b2.length c2, .int .u64 t2] 31)).heap[w.heap.size]? = some (.cells #[.bool th, .bool nt, .slice a1 b1.length c1, .int .u64 t1, .slice a2 b2.length c2, .int .u64 t2] 31 (0, 0))) := ⟨kA, h.kp kA, R⟩
  clear h h1 h2 R kA
  go_enter Try.func19, Try.ntmps19
  go_upto_region 1 with fail
  generalize w.heap.size = N at *
  generalize w.alloc (.cells #[.bool th, .bool nt, .slice a1 b1.length c1, .int .u64 t1, .slice a2 b2.length c2, .int .u64 t2] 31) = w1 at *
  have x0 : w1.cell? ⟨N, 0, none⟩ = some (.bool th) := (cells_at HK.out.2.2 0).1
  have x2 : w1.cell? ⟨N, 2, none⟩ = some (.slice a1 b1.length c1) := (cells_at HK.out.2.2 2).1
  have x3 : w1.cell? ⟨N, 3, none⟩ = some (.int .u64 t1) := (cells_at HK.out.2.2 3).1
  go_wp2_with fail
  go_at_call 30
  refine (mayHave_any w1 B vl vn p sn HK.out.2.1 th a1 b1.length c1 t1 l1).mono ?_
  rintro e w2 ⟨rfl, k2⟩
  clear x0 x2 x3
  cases hm : msB th b1.length t1 p.sz with
  | false =>
    have HK2 : Hid (Kp w w2) := HK.out.1.trans k2
    clear hm hL HK k2
    go_wp2_with fail
    go_ret
    exact ⟨rfl, HK2.out⟩
  | true =>
    have hm2 : msB nt b2.length t2 p.sz = false := by simpa [PS.ldB, hm] using hL
    have R2 := k2.heap HK.out.2.2
    have y0 : w2.cell? ⟨N, 1, none⟩ = some (.bool nt) := (cells_at R2 1).1
    have y2 : w2.cell? ⟨N, 4, none⟩ = some (.slice a2 b2.length c2) := (cells_at R2 4).1
    have y3 : w2.cell? ⟨N, 5, none⟩ = some (.int .u64 t2) := (cells_at R2 5).1
    clear hm hL R2
    go_wp2_with fail
    go_at_call 30
    refine (mayHave_any w2 B vl vn p sn (HK.out.2.1.kp k2) nt a2 b2.length c2 t2 l2).mono ?_
    rintro e w3 ⟨rfl, k3⟩
    rw [hm2]
    have HK2 : Hid (Kp w w3) := (HK.out.1.trans k2).trans k3
    clear HK k2 k3 y0 y2 y3 hm2
    go_wp2_with fail
    go_ret
    exact ⟨rfl, HK2.out⟩
set_option maxHeartbeats 2000000 in
set_option maxRecDepth 10000 in
theorem load_ok (w : World) (B : Nat) (vl vn : Value) (p : PS) (sn : Bool) (h : IsP w B vl vn p sn) (th nt : Bool) (v1 v2 : Value) (b1 b2 : List Int) (t1 t2 : Int) (h1 : Bs w v1 b1) (h2 : Bs w v2 b2) (hL : p.ldB th nt b1 b2 t1 t2 = true) (hv1 : blk v1 ≠ some B) (hv2 : blk v2 ≠ some B) :
    Calls Try.prog 19 #[.pointer (some ⟨B, 0, none⟩), .agg #[.bool th, .bool nt, v1, .int .u64 t1, v2, .int .u64 t2]] w fun e w' => e = .returned (.int .i64 0) ∧ ∃ vl' vn', IsP w' B vl' vn' ⟨p.wr, p.sz, p.rd, ⟨th, b1, t1⟩, ⟨nt, b2, t2⟩⟩ sn ∧ Chg w w' (fun k => k = B) ∧ Nw w vl' ∧ Nw w vn' := by
  obtain ⟨a1, c1, rfl⟩ := h1.vshape
  obtain ⟨a2, c2, rfl⟩ := h2.vshape
  have l1 := h1.len
  have l2 := h2.len
  obtain ⟨m1, m2⟩ : msB th b1.length t1 p.sz = true ∧ msB nt b2.length t2 p.sz = true := by simpa [PS.ldB] using hL
  have R := heap_alloc_new w (.cells #[.bool th, .bool nt, .slice a1 b1.length c1, .int .u64 t1, .slice a2 b2.length c2, .int .u64 t2] 31)
  have kA := Kp.al w (.cells #[.bool th, .bool nt, .slice a1 b1.length c1, .int .u64 t1, .slice a2 b2.length c2, .int .u64 t2] 31)
  have HK : Hid (Kp w (w.alloc (.cells #[.bool th, .bool nt, .slice a1 b1.length c1, .int .u64 t1, .slice a2 b2.length c2, .int .u64 t2] 31)) ∧ IsP (w.alloc (.cells #[.bool th, .bool nt, .slice a1 b1.length c1, .int .u64 t1, .slice a2 b2.length c2, .int .u64 t2] 31)) B vl vn p sn ∧ (w.alloc (.cells #[.bool th, .bool nt, .slice a1 b1.length c1, .int .u64 t1, .slice a2 b2.length c2, .int .u64 t2] 31)).heap[w.heap.size]? = some (.cells #[.bool th, .bool nt, .slice a1 b1.length c1, .int .u64 t1, .slice a2 b2.length c2, .int .u64 t2] 31 (0, 0)) ∧ Bs w (.slice a1 b1.length c1) b1 ∧ Bs w (.slice a2 b2.length c2) b2) := ⟨kA, h.kp kA, R, h1, h2⟩
  have HM : Hid ((⟨th, b1, t1⟩ : Ms).ok p.sz ∧ (⟨nt, b2, t2⟩ : Ms).ok p.sz) := ⟨msB_ok m1 (by have := h.sz; omega), msB_ok m2 (by have := h.sz; omega)⟩
  clear h h1 h2 R kA hL
  go_enter Try.func19, Try.ntmps19
  go_upto_region 1 with fail
  generalize w.heap.size = N at *
  generalize w.alloc (.cells #[.bool th, .bool nt, .slice a1 b1.length c1, .int .u64 t1, .slice a2 b2.length c2, .int .u64 t2] 31) = w1 at *
  have HNB : Hid (¬ N = B) := fun e => by
    have h1 := HK.out.2.2.1
    have h2 := HK.out.2.1.box
    rw [e, h2] at h1
    simp at h1
  have x0 : w1.cell? ⟨N, 0, none⟩ = some (.bool th) := (cells_at HK.out.2.2.1 0).1
  have x2 : w1.cell? ⟨N, 2, none⟩ = some (.slice a1 b1.length c1) := (cells_at HK.out.2.2.1 2).1
  have x3 : w1.cell? ⟨N, 3, none⟩ = some (.int .u64 t1) := (cells_at HK.out.2.2.1 3).1
  go_wp2_with fail
  go_at_call 30
  refine (mayHave_any w1 B vl vn p sn HK.out.2.1 th a1 b1.length c1 t1 l1).mono ?_
  rintro e w2 ⟨rfl, k2⟩
  rw [m1]
  clear x0 x2 x3
  have R2 := k2.heap HK.out.2.2.1
  have y0 : w2.cell? ⟨N, 1, none⟩ = some (.bool nt) := (cells_at R2 1).1
  have y2 : w2.cell? ⟨N, 4, none⟩ = some (.slice a2 b2.length c2) := (cells_at R2 4).1
  have y3 : w2.cell? ⟨N, 5, none⟩ = some (.int .u64 t2) := (cells_at R2 5).1
  clear m1 R2
  go_wp2_with fail
  go_at_call 30
  refine (mayHave_any w2 B vl vn p sn (HK.out.2.1.kp k2) nt a2 b2.length c2 t2 l2).mono ?_
  rintro e w3 ⟨rfl, k3⟩
  rw [m2]
  have R3 := (k2.trans k3).heap HK.out.2.2.1
  have HK3 : Hid (Kp w w3 ∧ IsP w3 B vl vn p sn ∧ w3.heap[N]? = some (.cells #[.bool th, .bool nt, .slice a1 b1.length c1, .int .u64 t1, .slice a2 b2.length c2, .int .u64 t2] 31 (0, 0)) ∧ Bs w (.slice a1 b1.length c1) b1 ∧ Bs w (.slice a2 b2.length c2) b2) := ⟨(HK.out.1.trans k2).trans k3, HK.out.2.1.kp (k2.trans k3), R3, HK.out.2.2.2⟩
  clear HK k2 k3 y0 y2 y3 m2 R3
  go_upto_region 3 with fail
  refine reg19_3 w3 N B c1 a1 vl vn p sn HK3.out.2.1 th b1 t1 HNB.out ⟨(cells_at HK3.out.2.2.1 0).1, (cells_at HK3.out.2.2.1 2).1, (cells_at HK3.out.2.2.1 3).1⟩ (HK3.out.2.2.2.1.kp HK3.out.1) HM.out.1 _ (fun _ _ _ q _ h => by cases q <;> exact h) (fun a4 c4 w4 hP4 hC4 hN4 => ?_)
  have R4 := hC4.heap HK3.out.2.2.1 HNB.out
  have hb2 : Bs w4 (.slice a2 b2.length c2) b2 := (HK3.out.2.2.2.2.kp HK3.out.1).chg hC4 (fun k hk e => hv2 (by rw [hk, e]))
  have HK4 : Hid (Chg w w4 (fun k => k = B) ∧ IsP w4 B (.slice a4 b1.length c4) vn ⟨p.wr, p.sz, p.rd, ⟨th, b1, t1⟩, p.ne⟩ sn ∧ w4.heap[N]? = some (.cells #[.bool th, .bool nt, .slice a1 b1.length c1, .int .u64 t1, .slice a2 b2.length c2, .int .u64 t2] 31 (0, 0)) ∧ Bs w4 (.slice a2 b2.length c2) b2 ∧ Nw w (.slice a4 b1.length c4)) := ⟨Chg.trans HK3.out.1.any hC4 (fun _ _ h => h), hP4, R4, hb2, fun k hk => by have := hN4 k hk; have := HK3.out.1.size; omega⟩
  clear HK3 hP4 hC4 hN4 R4 hb2
  go_upto_region 4 with fail
  refine reg19_4 w4 N B c2 a2 _ vn _ sn HK4.out.2.1 nt b2 t2 HNB.out ⟨(cells_at HK4.out.2.2.1 1).1, (cells_at HK4.out.2.2.1 4).1, (cells_at HK4.out.2.2.1 5).1⟩ HK4.out.2.2.2.1 HM.out.2 _ (fun _ _ _ q _ h => by cases q <;> exact h) (fun a5 c5 w5 hP5 hC5 hN5 => ?_)
  have HK5 : Hid (Chg w w5 (fun k => k = B) ∧ IsP w5 B (.slice a4 b1.length c4) (.slice a5 b2.length c5) ⟨p.wr, p.sz, p.rd, ⟨th, b1, t1⟩, ⟨nt, b2, t2⟩⟩ sn ∧ Nw w (.slice a4 b1.length c4) ∧ Nw w (.slice a5 b2.length c5)) := ⟨Chg.trans HK4.out.1 hC5 (fun _ _ h => h), hP5, HK4.out.2.2.2.2, fun k hk => by have := hN5 k hk; have := HK4.out.1.size; omega⟩
  clear HK4 hP5 hC5 hN5
  go_wp2_with fail
  go_ret
  exact ⟨rfl, _, _, HK5.out.2.1, HK5.out.1, HK5.out.2.2.1, HK5.out.2.2.2⟩
end Go.Proofs.Ytibpbemenjgncaa
