import Derived.Test.YtfcpkcbiinbmiabFc
namespace Go.Proofs.Ytfcpkcbiinbmiab
open Go.ChangeShapes Go.WideShapes Go.ChangeAt Go.RowKit
set_option linter.unusedVariables false
theorem IsRS.kp {w w' : World} {R : Nat} {a : Option Addr} {cap : Nat} {s : RS} (h : IsRS w R a cap s) (hc : Kp w w') : IsRS w' R a cap s := h.other hc (by simp) (by simp)
theorem IsD.kp {w w' : World} {R : Nat} {a : Option Addr} {cap : Nat} {s : RS} (h : IsD w R a cap s) (hc : Kp w w') : IsD w' R a cap s := h.other hc (by simp) (by simp)
theorem drewN0 (w : World) : w = w.drewN 0 := by cases w; rfl
set_option maxRecDepth 10000 in
theorem pleft_q (w : World) (R : Nat) (a : Option Addr) (cap : Nat) (s : RS) (h : IsRS w R a cap s) :
    Calls Try.prog 58 #[.pointer (some ⟨R, 0, none⟩)] w fun r w' => r = .returned (.int .i64 s.left) ∧ ∃ m, w' = w.drewN m := by
  obtain ⟨c0, c1, c2, c3, cf⟩ := IsR.cells h
  have hl : s.at_ ≤ s.bs.length := h.at_le
  have hb : s.bs.length ≤ 140737488355328 := h.bytes.2.1
  obtain ⟨bs, at_, err, wh⟩ := s
  simp only at c0 c1 c2 c3 hl hb
  clear h cf c3
  by_cases he : err = 0
  · subst he
    go_enter Try.func58, Try.ntmps58
    go_wp2_with fail
    go_quiet (fail)
    go_wp2
    go_ret
    refine ⟨ret_int ?_, _, rfl⟩
    simp [RS.left]
    omega
  · have he' : (err == 0) = false := by simpa using he
    go_enter Try.func58, Try.ntmps58
    go_wp2
    go_ret
    exact ⟨by simp [RS.left, he], 0, drewN0 _⟩
set_option maxRecDepth 10000 in
theorem dleft_q (w : World) (R : Nat) (a : Option Addr) (cap : Nat) (s : RS) (h : IsD w R a cap s) :
    Calls Try.prog 59 #[.pointer (some ⟨R, 0, none⟩)] w fun r w' => r = .returned (.int .i64 s.left) ∧ ∃ m, w' = w.drewN m := by
  obtain ⟨c0, c1, c2, c3, cf⟩ := h.cells
  have hl : s.at_ ≤ s.bs.length := h.at_le
  have hb : s.bs.length ≤ 140737488355328 := h.bytes.2.1
  obtain ⟨bs, at_, err, wh⟩ := s
  simp only at c0 c1 c2 c3 hl hb
  clear h cf c3
  by_cases he : err = 0
  · subst he
    go_enter Try.func59, Try.ntmps59
    go_wp2_with fail
    go_quiet (fail)
    go_wp2
    go_ret
    refine ⟨ret_int ?_, _, rfl⟩
    simp [RS.left]
    omega
  · have he' : (err == 0) = false := by simpa using he
    go_enter Try.func59, Try.ntmps59
    go_wp2
    go_ret
    exact ⟨by simp [RS.left, he], 0, drewN0 _⟩
set_option maxHeartbeats 400000 in
set_option maxRecDepth 10000 in
/-- alike: both have the same state. -/
theorem alike_any (w : World) (R D : Nat) (a b : Option Addr) (ca cb : Nat) (s : RS) (hR : IsRS w R a ca s) (hD : IsD w D b cb s) :
    Calls Try.prog 14 #[.agg #[.pointer (some ⟨R, 0, none⟩), .pointer (some ⟨D, 0, none⟩)]] w fun r w' => r = .returned (.bool true) ∧ Kp w w' := by
  have H : Hid (IsRS w R a ca s ∧ IsD w D b cb s) := ⟨hR, hD⟩
  clear hR hD
  go_enter Try.func14, Try.ntmps14
  go_wp2_with fail
  go_at_call 28
  obtain ⟨W1, hW1⟩ : ∃ W1, W1 = w.alloc (.cells #[.pointer (some ⟨R, 0, none⟩), .pointer (some ⟨D, 0, none⟩)] 41) := ⟨_, rfl⟩
  have k1 : Kp w W1 := by rw [hW1]; exact Kp.al _ _
  have p0 : W1.cell? ⟨w.heap.size, 0, none⟩ = some (.pointer (some ⟨R, 0, none⟩)) := by rw [hW1, (cells_at (heap_alloc_new w _) _).1]; rfl
  have p1 : W1.cell? ⟨w.heap.size, 1, none⟩ = some (.pointer (some ⟨D, 0, none⟩)) := by rw [hW1, (cells_at (heap_alloc_new w _) _).1]; rfl
  rw [← hW1]
  clear hW1
  refine (rerr_any W1 R a ca s (H.out.1.kp k1)).mono ?_
  rintro r W2 ⟨rfl, _, k2⟩
  have p0' := Kp.cell k2 p0
  have p1' := Kp.cell k2 p1
  have k12 : Hid (Kp w W2) := k1.trans k2
  clear k1 k2 p0 p1
  go_wp2_with fail
  go_at_call 56
  refine (derr_any W2 D b cb s (H.out.2.kp k12.out)).mono ?_
  rintro r W3 ⟨rfl, _, k3⟩
  have p0 := Kp.cell k3 p0'
  have p1 := Kp.cell k3 p1'
  have k13 : Hid (Kp w W3) := k12.out.trans k3
  clear k12 k3 p0' p1'
  have d1 := (H.out.2.kp k13.out).cells.2.1
  have e1 : (s.err == s.err) = true := by simp
  have e2 : (s.wh == s.wh) = true := by simp
  have e3 : ((s.at_ : Int) == (s.at_ : Int)) = true := by simp
  have e4 : ((s.left : Int) == (s.left : Int)) = true := by simp
  have cA : ∀ n, Calls Try.prog 57 #[.pointer (some ⟨R, 0, none⟩)] (W3.drewN n) fun r w' => r = .returned (.int .i64 s.at_) ∧ w' = W3.drewN n := fun n => rat_any _ R a ca s ((H.out.1.kp k13.out).kp (Kp.drewN _ n))
  have cL : ∀ n, Calls Try.prog 58 #[.pointer (some ⟨R, 0, none⟩)] (W3.drewN n) fun r w' => r = .returned (.int .i64 s.left) ∧ ∃ m, w' = (W3.drewN n).drewN m := fun n => pleft_q _ R a ca s ((H.out.1.kp k13.out).kp (Kp.drewN _ n))
  have cM : ∀ n, Calls Try.prog 59 #[.pointer (some ⟨D, 0, none⟩)] (W3.drewN n) fun r w' => r = .returned (.int .i64 s.left) ∧ ∃ m, w' = (W3.drewN n).drewN m := fun n => dleft_q _ D b cb s ((H.out.2.kp k13.out).kp (Kp.drewN _ n))
  go_wp2_with fail
  go_quiet (first | (go_at_call 57; exact Calls.quiet_of_same (cA _)) | (go_at_call 58; exact Calls.quiet_of (cL _)) | (go_at_call 59; exact Calls.quiet_of (cM _)))
  go_wp2
  go_ret
  exact ⟨rfl, k13.out.trans (Kp.drewN _ _)⟩
end Go.Proofs.Ytfcpkcbiinbmiab
namespace Go.Proofs.Ytfcpkcbiinbmiab
open Go.ChangeShapes Go.WideShapes Go.ChangeAt Go.RowKit
set_option linter.unusedVariables false
/-- A reader's box is no row of bytes. -/
theorem bs_nobox {w : World} {x o T : Nat} {len : Nat} {bs : List Int} {v : Value} {y0 y1 y2 y3 : Value} (hB : Bs w (some ⟨x, o, none⟩) len bs) (hl : 0 < len) (h : w.heap[x]? = some (.cells #[y0, y1, y2, y3] T (0, 0))) (h0 : ∀ n, y0 ≠ .int .u8 n) (h1 : ∀ n, y1 ≠ .int .u8 n) (h2 : ∀ n, y2 ≠ .int .u8 n) (h3 : ∀ n, y3 ≠ .int .u8 n) : False := by
  obtain ⟨_, _, _, h4⟩ := hB
  rcases h4 with h4 | ⟨b', off, e, hcell⟩
  · omega
  · simp only [Option.some.injEq, Addr.mk.injEq, and_true] at e
    obtain ⟨rfl, rfl⟩ := e
    have hc := hcell 0 hl
    have := (cells_at h (o + 0)).1
    rw [this] at hc
    rcases ho : o with _ | _ | _ | _ | o
    all_goals (subst ho; simp at hc)
    · exact h0 _ hc
    · exact h1 _ hc
    · exact h2 _ hc
    · exact h3 _ hc
/-- Both readers of a pair: neither's box is the other's, nor in the other's bytes. -/
theorem IsRS.after {w w' : World} {R D : Nat} {a b : Option Addr} {ca cb : Nat} {s s' : RS} (h : IsRS w R a ca s) (hd : IsD w D b cb s') (hc : Chg w w' (fun k => k = D)) : IsRS w' R a ca s := by
  refine h.other hc (fun e => ?_) (fun x o e hl e' => ?_)
  · have h1 := h.box
    have h2 := hd.box
    rw [e] at h1
    rw [h1] at h2
    simp at h2
  · subst e'
    have h1 := h.bytes
    rw [e] at h1
    exact bs_nobox (v := .bool true) h1 hl hd.box (by simp) (by simp) (by simp) (by simp)
theorem IsD.after {w w' : World} {R D : Nat} {a b : Option Addr} {ca cb : Nat} {s s' : RS} (hd : IsD w D b cb s') (h : IsRS w R a ca s) (hc : Chg w w' (fun k => k = R)) : IsD w' D b cb s' := by
  refine hd.other hc (fun e => ?_) (fun x o e hl e' => ?_)
  · have h1 := h.box
    have h2 := hd.box
    rw [e] at h2
    rw [h1] at h2
    simp at h2
  · subst e'
    have h1 := hd.bytes
    rw [e] at h1
    exact bs_nobox (v := .bool true) h1 hl h.box (by simp) (by simp) (by simp) (by simp)
end Go.Proofs.Ytfcpkcbiinbmiab
namespace Go.Proofs.Ytfcpkcbiinbmiab
open Go.ChangeShapes Go.WideShapes Go.ChangeAt Go.RowKit
set_option linter.unusedVariables false
/-- What a step of a pair leaves. -/
def Stp (w w' : World) (R D : Nat) (a b : Option Addr) (ca cb : Nat) (s : RS) (r : Ending) : Prop :=
  r = .returned (.bool true) ∧ IsRS w' R a ca s ∧ IsD w' D b cb s ∧ Chg w w' (fun k => k = R ∨ k = D)
/-- The first call of a step. -/
theorem stp_one {w W W' : World} {R D : Nat} {a b : Option Addr} {ca cb : Nat} {s s' : RS} (k1 : Kp w W) (hD : IsD w D b cb s) (hR : IsRS w R a ca s) (h : IsRS W' R a ca s') (hc : Chg W W' (fun k => k = R)) : IsRS W' R a ca s' ∧ IsD W' D b cb s ∧ Chg w W' (fun k => k = R ∨ k = D) :=
  ⟨h, (hD.kp k1).after (hR.kp k1) hc, Chg.trans k1.any hc (fun _ _ e => .inl e)⟩
theorem stp_two {w W W' : World} {R D : Nat} {a b : Option Addr} {ca cb : Nat} {s s' : RS} (k : IsRS W R a ca s' ∧ IsD W D b cb s ∧ Chg w W (fun k => k = R ∨ k = D)) (h : IsD W' D b cb s') (hc : Chg W W' (fun k => k = D)) : IsRS W' R a ca s' ∧ IsD W' D b cb s' ∧ Chg w W' (fun k => k = R ∨ k = D) :=
  ⟨k.1.after k.2.1 hc, h, Chg.trans k.2.2 hc (fun _ _ e => .inr e)⟩
set_option maxHeartbeats 1000000 in
set_option maxRecDepth 10000 in
theorem reads_n1 (w : World) (R D B : Nat) (a b : Option Addr) (ca cb : Nat) (s : RS) (n k : Int) (v1 v2 : Value) (hR : IsRS w R a ca s) (hD : IsD w D b cb s) :
    Calls Try.prog 13 #[.agg #[.pointer (some ⟨R, 0, none⟩), .pointer (some ⟨D, 0, none⟩)], .agg #[.int .i64 1, .int .u64 n, .int .i64 k, v1, v2], .pointer (some ⟨B, 0, none⟩)] w fun r w' => Stp w w' R D a b ca cb (s.take 1).2 r := by
  have H : Hid (IsRS w R a ca s ∧ IsD w D b cb s) := ⟨hR, hD⟩
  obtain ⟨W1, hW1⟩ : ∃ W1, W1 = (w.alloc (.cells #[.pointer (some ⟨R, 0, none⟩), .pointer (some ⟨D, 0, none⟩)] 41)).alloc (.cells #[.int .i64 1, .int .u64 n, .int .i64 k, v1, v2] 51) := ⟨_, rfl⟩
  have k1 : Kp w W1 := by rw [hW1]; exact (Kp.al _ _).trans (Kp.al _ _)
  have q1 : W1.heap[w.heap.size]? = some (.cells #[.pointer (some ⟨R, 0, none⟩), .pointer (some ⟨D, 0, none⟩)] 41 (0, 0)) := by rw [hW1]; exact Kp.heap (Kp.al _ _) (heap_alloc_new w _)
  have hsz : w.heap.size ≠ R ∧ w.heap.size ≠ D := ⟨by have := hp_lt hR.box; omega, by have := hD.lt; omega⟩
  have q2 : W1.heap[w.heap.size + 1]? = some (.cells #[.int .i64 1, .int .u64 n, .int .i64 k, v1, v2] 51 (0, 0)) := by
    rw [hW1]
    have := heap_alloc_new (w.alloc (.cells #[.pointer (some ⟨R, 0, none⟩), .pointer (some ⟨D, 0, none⟩)] 41)) (.cells #[.int .i64 1, .int .u64 n, .int .i64 k, v1, v2] 51)
    simpa using this
  have hsz2 : w.heap.size + 1 ≠ R ∧ w.heap.size + 1 ≠ D := ⟨by have := hp_lt hR.box; omega, by have := hD.lt; omega⟩
  clear hR hD
  have HH : Hid (Kp w W1 ∧ W1.heap[w.heap.size]? = some (.cells #[.pointer (some ⟨R, 0, none⟩), .pointer (some ⟨D, 0, none⟩)] 41 (0, 0)) ∧ W1.heap[w.heap.size + 1]? = some (.cells #[.int .i64 1, .int .u64 n, .int .i64 k, v1, v2] 51 (0, 0)) ∧ (w.heap.size ≠ R ∧ w.heap.size ≠ D) ∧ w.heap.size + 1 ≠ R ∧ w.heap.size + 1 ≠ D) := ⟨k1, q1, q2, hsz, hsz2⟩
  clear k1 q1 q2 hsz hsz2
  have hlt := s.num_lt 1 H.out.1.bytes.2.2.1
  simp only [Nat.reduceMul, Nat.reducePow] at hlt
  have hwr : IntKind.u64.wrap (s.num 1 : Int) = (s.num 1 : Nat) := by rw [IntKind.wrap_u64]; omega
  go_enter Try.func13, Try.ntmps13
  go_wp2_with fail
  go_at_call 41
  rw [← hW1]
  clear hW1
  refine (m8_any W1 R a ca s (H.out.1.kp HH.out.1)).mono ?_
  rintro r W2 ⟨rfl, t1, t2⟩
  have M1 := stp_one HH.out.1 H.out.2 H.out.1 t1 t2
  have e1 := t2.heap HH.out.2.1 HH.out.2.2.2.1.1
  have e2 := t2.heap HH.out.2.2.1 HH.out.2.2.2.2.1
  have p1 : W2.cell? ⟨w.heap.size, 1, none⟩ = some (.pointer (some ⟨D, 0, none⟩)) := by rw [(cells_at e1 1).1]; rfl
  have p2 : W2.cell? ⟨w.heap.size + 1, 2, none⟩ = some (.int .i64 k) := by rw [(cells_at e2 2).1]; rfl
  have HM : Hid (IsRS W2 R a ca _ ∧ IsD W2 D b cb s ∧ Chg w W2 (fun k => k = R ∨ k = D)) := M1
  clear M1 t1 t2 HH H e1 e2
  go_wp2_with fail
  go_at_call 42
  refine (dnum_any W2 D b cb s 1 (by omega) HM.out.2.1).mono ?_
  rintro r W3 ⟨rfl, t1, t2⟩
  have M2 : Hid (IsRS W3 R a ca _ ∧ IsD W3 D b cb _ ∧ Chg w W3 (fun k => k = R ∨ k = D)) := stp_two HM.out t1 t2
  clear t1 t2 HM p1 p2
  go_wp2
  go_ret
  exact ⟨rfl, M2.out⟩
set_option maxHeartbeats 1000000 in
set_option maxRecDepth 10000 in
theorem reads_n2 (w : World) (R D B : Nat) (a b : Option Addr) (ca cb : Nat) (s : RS) (n k : Int) (v1 v2 : Value) (hR : IsRS w R a ca s) (hD : IsD w D b cb s) :
    Calls Try.prog 13 #[.agg #[.pointer (some ⟨R, 0, none⟩), .pointer (some ⟨D, 0, none⟩)], .agg #[.int .i64 2, .int .u64 n, .int .i64 k, v1, v2], .pointer (some ⟨B, 0, none⟩)] w fun r w' => Stp w w' R D a b ca cb (s.take 2).2 r := by
  have H : Hid (IsRS w R a ca s ∧ IsD w D b cb s) := ⟨hR, hD⟩
  obtain ⟨W1, hW1⟩ : ∃ W1, W1 = (w.alloc (.cells #[.pointer (some ⟨R, 0, none⟩), .pointer (some ⟨D, 0, none⟩)] 41)).alloc (.cells #[.int .i64 2, .int .u64 n, .int .i64 k, v1, v2] 51) := ⟨_, rfl⟩
  have k1 : Kp w W1 := by rw [hW1]; exact (Kp.al _ _).trans (Kp.al _ _)
  have q1 : W1.heap[w.heap.size]? = some (.cells #[.pointer (some ⟨R, 0, none⟩), .pointer (some ⟨D, 0, none⟩)] 41 (0, 0)) := by rw [hW1]; exact Kp.heap (Kp.al _ _) (heap_alloc_new w _)
  have hsz : w.heap.size ≠ R ∧ w.heap.size ≠ D := ⟨by have := hp_lt hR.box; omega, by have := hD.lt; omega⟩
  have q2 : W1.heap[w.heap.size + 1]? = some (.cells #[.int .i64 2, .int .u64 n, .int .i64 k, v1, v2] 51 (0, 0)) := by
    rw [hW1]
    have := heap_alloc_new (w.alloc (.cells #[.pointer (some ⟨R, 0, none⟩), .pointer (some ⟨D, 0, none⟩)] 41)) (.cells #[.int .i64 2, .int .u64 n, .int .i64 k, v1, v2] 51)
    simpa using this
  have hsz2 : w.heap.size + 1 ≠ R ∧ w.heap.size + 1 ≠ D := ⟨by have := hp_lt hR.box; omega, by have := hD.lt; omega⟩
  clear hR hD
  have HH : Hid (Kp w W1 ∧ W1.heap[w.heap.size]? = some (.cells #[.pointer (some ⟨R, 0, none⟩), .pointer (some ⟨D, 0, none⟩)] 41 (0, 0)) ∧ W1.heap[w.heap.size + 1]? = some (.cells #[.int .i64 2, .int .u64 n, .int .i64 k, v1, v2] 51 (0, 0)) ∧ (w.heap.size ≠ R ∧ w.heap.size ≠ D) ∧ w.heap.size + 1 ≠ R ∧ w.heap.size + 1 ≠ D) := ⟨k1, q1, q2, hsz, hsz2⟩
  clear k1 q1 q2 hsz hsz2
  have hlt := s.num_lt 2 H.out.1.bytes.2.2.1
  simp only [Nat.reduceMul, Nat.reducePow] at hlt
  have hwr : IntKind.u64.wrap (s.num 2 : Int) = (s.num 2 : Nat) := by rw [IntKind.wrap_u64]; omega
  go_enter Try.func13, Try.ntmps13
  go_wp2_with fail
  go_at_call 43
  rw [← hW1]
  clear hW1
  refine (m16_any W1 R a ca s (H.out.1.kp HH.out.1)).mono ?_
  rintro r W2 ⟨rfl, t1, t2⟩
  have M1 := stp_one HH.out.1 H.out.2 H.out.1 t1 t2
  have e1 := t2.heap HH.out.2.1 HH.out.2.2.2.1.1
  have e2 := t2.heap HH.out.2.2.1 HH.out.2.2.2.2.1
  have p1 : W2.cell? ⟨w.heap.size, 1, none⟩ = some (.pointer (some ⟨D, 0, none⟩)) := by rw [(cells_at e1 1).1]; rfl
  have p2 : W2.cell? ⟨w.heap.size + 1, 2, none⟩ = some (.int .i64 k) := by rw [(cells_at e2 2).1]; rfl
  have HM : Hid (IsRS W2 R a ca _ ∧ IsD W2 D b cb s ∧ Chg w W2 (fun k => k = R ∨ k = D)) := M1
  clear M1 t1 t2 HH H e1 e2
  go_wp2_with fail
  go_at_call 42
  refine (dnum_any W2 D b cb s 2 (by omega) HM.out.2.1).mono ?_
  rintro r W3 ⟨rfl, t1, t2⟩
  have M2 : Hid (IsRS W3 R a ca _ ∧ IsD W3 D b cb _ ∧ Chg w W3 (fun k => k = R ∨ k = D)) := stp_two HM.out t1 t2
  clear t1 t2 HM p1 p2
  go_wp2
  go_ret
  exact ⟨rfl, M2.out⟩
set_option maxHeartbeats 1000000 in
set_option maxRecDepth 10000 in
theorem reads_n3 (w : World) (R D B : Nat) (a b : Option Addr) (ca cb : Nat) (s : RS) (n k : Int) (v1 v2 : Value) (hR : IsRS w R a ca s) (hD : IsD w D b cb s) :
    Calls Try.prog 13 #[.agg #[.pointer (some ⟨R, 0, none⟩), .pointer (some ⟨D, 0, none⟩)], .agg #[.int .i64 3, .int .u64 n, .int .i64 k, v1, v2], .pointer (some ⟨B, 0, none⟩)] w fun r w' => Stp w w' R D a b ca cb (s.take 4).2 r := by
  have H : Hid (IsRS w R a ca s ∧ IsD w D b cb s) := ⟨hR, hD⟩
  obtain ⟨W1, hW1⟩ : ∃ W1, W1 = (w.alloc (.cells #[.pointer (some ⟨R, 0, none⟩), .pointer (some ⟨D, 0, none⟩)] 41)).alloc (.cells #[.int .i64 3, .int .u64 n, .int .i64 k, v1, v2] 51) := ⟨_, rfl⟩
  have k1 : Kp w W1 := by rw [hW1]; exact (Kp.al _ _).trans (Kp.al _ _)
  have q1 : W1.heap[w.heap.size]? = some (.cells #[.pointer (some ⟨R, 0, none⟩), .pointer (some ⟨D, 0, none⟩)] 41 (0, 0)) := by rw [hW1]; exact Kp.heap (Kp.al _ _) (heap_alloc_new w _)
  have hsz : w.heap.size ≠ R ∧ w.heap.size ≠ D := ⟨by have := hp_lt hR.box; omega, by have := hD.lt; omega⟩
  have q2 : W1.heap[w.heap.size + 1]? = some (.cells #[.int .i64 3, .int .u64 n, .int .i64 k, v1, v2] 51 (0, 0)) := by
    rw [hW1]
    have := heap_alloc_new (w.alloc (.cells #[.pointer (some ⟨R, 0, none⟩), .pointer (some ⟨D, 0, none⟩)] 41)) (.cells #[.int .i64 3, .int .u64 n, .int .i64 k, v1, v2] 51)
    simpa using this
  have hsz2 : w.heap.size + 1 ≠ R ∧ w.heap.size + 1 ≠ D := ⟨by have := hp_lt hR.box; omega, by have := hD.lt; omega⟩
  clear hR hD
  have HH : Hid (Kp w W1 ∧ W1.heap[w.heap.size]? = some (.cells #[.pointer (some ⟨R, 0, none⟩), .pointer (some ⟨D, 0, none⟩)] 41 (0, 0)) ∧ W1.heap[w.heap.size + 1]? = some (.cells #[.int .i64 3, .int .u64 n, .int .i64 k, v1, v2] 51 (0, 0)) ∧ (w.heap.size ≠ R ∧ w.heap.size ≠ D) ∧ w.heap.size + 1 ≠ R ∧ w.heap.size + 1 ≠ D) := ⟨k1, q1, q2, hsz, hsz2⟩
  clear k1 q1 q2 hsz hsz2
  have hlt := s.num_lt 4 H.out.1.bytes.2.2.1
  simp only [Nat.reduceMul, Nat.reducePow] at hlt
  have hwr : IntKind.u64.wrap (s.num 4 : Int) = (s.num 4 : Nat) := by rw [IntKind.wrap_u64]; omega
  go_enter Try.func13, Try.ntmps13
  go_wp2_with fail
  go_at_call 27
  rw [← hW1]
  clear hW1
  refine (m32_any W1 R a ca s (H.out.1.kp HH.out.1)).mono ?_
  rintro r W2 ⟨rfl, t1, t2⟩
  have M1 := stp_one HH.out.1 H.out.2 H.out.1 t1 t2
  have e1 := t2.heap HH.out.2.1 HH.out.2.2.2.1.1
  have e2 := t2.heap HH.out.2.2.1 HH.out.2.2.2.2.1
  have p1 : W2.cell? ⟨w.heap.size, 1, none⟩ = some (.pointer (some ⟨D, 0, none⟩)) := by rw [(cells_at e1 1).1]; rfl
  have p2 : W2.cell? ⟨w.heap.size + 1, 2, none⟩ = some (.int .i64 k) := by rw [(cells_at e2 2).1]; rfl
  have HM : Hid (IsRS W2 R a ca _ ∧ IsD W2 D b cb s ∧ Chg w W2 (fun k => k = R ∨ k = D)) := M1
  clear M1 t1 t2 HH H e1 e2
  go_wp2_with fail
  go_at_call 42
  refine (dnum_any W2 D b cb s 4 (by omega) HM.out.2.1).mono ?_
  rintro r W3 ⟨rfl, t1, t2⟩
  have M2 : Hid (IsRS W3 R a ca _ ∧ IsD W3 D b cb _ ∧ Chg w W3 (fun k => k = R ∨ k = D)) := stp_two HM.out t1 t2
  clear t1 t2 HM p1 p2
  go_wp2
  go_ret
  exact ⟨rfl, M2.out⟩
set_option maxHeartbeats 1000000 in
set_option maxRecDepth 10000 in
theorem reads_n4 (w : World) (R D B : Nat) (a b : Option Addr) (ca cb : Nat) (s : RS) (n k : Int) (v1 v2 : Value) (hR : IsRS w R a ca s) (hD : IsD w D b cb s) :
    Calls Try.prog 13 #[.agg #[.pointer (some ⟨R, 0, none⟩), .pointer (some ⟨D, 0, none⟩)], .agg #[.int .i64 4, .int .u64 n, .int .i64 k, v1, v2], .pointer (some ⟨B, 0, none⟩)] w fun r w' => Stp w w' R D a b ca cb (s.take 8).2 r := by
  have H : Hid (IsRS w R a ca s ∧ IsD w D b cb s) := ⟨hR, hD⟩
  obtain ⟨W1, hW1⟩ : ∃ W1, W1 = (w.alloc (.cells #[.pointer (some ⟨R, 0, none⟩), .pointer (some ⟨D, 0, none⟩)] 41)).alloc (.cells #[.int .i64 4, .int .u64 n, .int .i64 k, v1, v2] 51) := ⟨_, rfl⟩
  have k1 : Kp w W1 := by rw [hW1]; exact (Kp.al _ _).trans (Kp.al _ _)
  have q1 : W1.heap[w.heap.size]? = some (.cells #[.pointer (some ⟨R, 0, none⟩), .pointer (some ⟨D, 0, none⟩)] 41 (0, 0)) := by rw [hW1]; exact Kp.heap (Kp.al _ _) (heap_alloc_new w _)
  have hsz : w.heap.size ≠ R ∧ w.heap.size ≠ D := ⟨by have := hp_lt hR.box; omega, by have := hD.lt; omega⟩
  have q2 : W1.heap[w.heap.size + 1]? = some (.cells #[.int .i64 4, .int .u64 n, .int .i64 k, v1, v2] 51 (0, 0)) := by
    rw [hW1]
    have := heap_alloc_new (w.alloc (.cells #[.pointer (some ⟨R, 0, none⟩), .pointer (some ⟨D, 0, none⟩)] 41)) (.cells #[.int .i64 4, .int .u64 n, .int .i64 k, v1, v2] 51)
    simpa using this
  have hsz2 : w.heap.size + 1 ≠ R ∧ w.heap.size + 1 ≠ D := ⟨by have := hp_lt hR.box; omega, by have := hD.lt; omega⟩
  clear hR hD
  have HH : Hid (Kp w W1 ∧ W1.heap[w.heap.size]? = some (.cells #[.pointer (some ⟨R, 0, none⟩), .pointer (some ⟨D, 0, none⟩)] 41 (0, 0)) ∧ W1.heap[w.heap.size + 1]? = some (.cells #[.int .i64 4, .int .u64 n, .int .i64 k, v1, v2] 51 (0, 0)) ∧ (w.heap.size ≠ R ∧ w.heap.size ≠ D) ∧ w.heap.size + 1 ≠ R ∧ w.heap.size + 1 ≠ D) := ⟨k1, q1, q2, hsz, hsz2⟩
  clear k1 q1 q2 hsz hsz2
  have hlt := s.num_lt 8 H.out.1.bytes.2.2.1
  simp only [Nat.reduceMul, Nat.reducePow] at hlt
  have hwr : IntKind.u64.wrap (s.num 8 : Int) = (s.num 8 : Nat) := by rw [IntKind.wrap_u64]; omega
  go_enter Try.func13, Try.ntmps13
  go_wp2_with fail
  go_at_call 44
  rw [← hW1]
  clear hW1
  refine (m64_any W1 R a ca s (H.out.1.kp HH.out.1)).mono ?_
  rintro r W2 ⟨rfl, t1, t2⟩
  have M1 := stp_one HH.out.1 H.out.2 H.out.1 t1 t2
  have e1 := t2.heap HH.out.2.1 HH.out.2.2.2.1.1
  have e2 := t2.heap HH.out.2.2.1 HH.out.2.2.2.2.1
  have p1 : W2.cell? ⟨w.heap.size, 1, none⟩ = some (.pointer (some ⟨D, 0, none⟩)) := by rw [(cells_at e1 1).1]; rfl
  have p2 : W2.cell? ⟨w.heap.size + 1, 2, none⟩ = some (.int .i64 k) := by rw [(cells_at e2 2).1]; rfl
  have HM : Hid (IsRS W2 R a ca _ ∧ IsD W2 D b cb s ∧ Chg w W2 (fun k => k = R ∨ k = D)) := M1
  clear M1 t1 t2 HH H e1 e2
  go_wp2_with fail
  go_at_call 42
  refine (dnum_any W2 D b cb s 8 (by omega) HM.out.2.1).mono ?_
  rintro r W3 ⟨rfl, t1, t2⟩
  have M2 : Hid (IsRS W3 R a ca _ ∧ IsD W3 D b cb _ ∧ Chg w W3 (fun k => k = R ∨ k = D)) := stp_two HM.out t1 t2
  clear t1 t2 HM p1 p2
  go_wp2
  go_ret
  exact ⟨rfl, M2.out⟩
end Go.Proofs.Ytfcpkcbiinbmiab
namespace Go.Proofs.Ytfcpkcbiinbmiab
open Go.ChangeShapes Go.WideShapes Go.ChangeAt Go.RowKit
set_option linter.unusedVariables false
set_option maxHeartbeats 1000000 in
set_option maxRecDepth 10000 in
theorem reads_text (w : World) (R D B : Nat) (a b : Option Addr) (ca cb : Nat) (s : RS) (n k : Int) (v1 v2 : Value) (hk : k ≤ 9223372036854775807) (hR : IsRS w R a ca s) (hD : IsD w D b cb s) :
    Calls Try.prog 13 #[.agg #[.pointer (some ⟨R, 0, none⟩), .pointer (some ⟨D, 0, none⟩)], .agg #[.int .i64 6, .int .u64 n, .int .i64 k, v1, v2], .pointer (some ⟨B, 0, none⟩)] w fun r w' => Stp w w' R D a b ca cb (s.text k).2 r := by
  have H : Hid (IsRS w R a ca s ∧ IsD w D b cb s) := ⟨hR, hD⟩
  obtain ⟨W1, hW1⟩ : ∃ W1, W1 = (w.alloc (.cells #[.pointer (some ⟨R, 0, none⟩), .pointer (some ⟨D, 0, none⟩)] 41)).alloc (.cells #[.int .i64 6, .int .u64 n, .int .i64 k, v1, v2] 51) := ⟨_, rfl⟩
  have k1 : Kp w W1 := by rw [hW1]; exact (Kp.al _ _).trans (Kp.al _ _)
  have q1 : W1.heap[w.heap.size]? = some (.cells #[.pointer (some ⟨R, 0, none⟩), .pointer (some ⟨D, 0, none⟩)] 41 (0, 0)) := by rw [hW1]; exact Kp.heap (Kp.al _ _) (heap_alloc_new w _)
  have hsz : w.heap.size ≠ R ∧ w.heap.size ≠ D := ⟨by have := hp_lt hR.box; omega, by have := hD.lt; omega⟩
  have q2 : W1.heap[w.heap.size + 1]? = some (.cells #[.int .i64 6, .int .u64 n, .int .i64 k, v1, v2] 51 (0, 0)) := by
    rw [hW1]
    have := heap_alloc_new (w.alloc (.cells #[.pointer (some ⟨R, 0, none⟩), .pointer (some ⟨D, 0, none⟩)] 41)) (.cells #[.int .i64 6, .int .u64 n, .int .i64 k, v1, v2] 51)
    simpa using this
  have hsz2 : w.heap.size + 1 ≠ R ∧ w.heap.size + 1 ≠ D := ⟨by have := hp_lt hR.box; omega, by have := hD.lt; omega⟩
  clear hR hD
  have HH : Hid (Kp w W1 ∧ W1.heap[w.heap.size]? = some (.cells #[.pointer (some ⟨R, 0, none⟩), .pointer (some ⟨D, 0, none⟩)] 41 (0, 0)) ∧ W1.heap[w.heap.size + 1]? = some (.cells #[.int .i64 6, .int .u64 n, .int .i64 k, v1, v2] 51 (0, 0)) ∧ (w.heap.size ≠ R ∧ w.heap.size ≠ D) ∧ w.heap.size + 1 ≠ R ∧ w.heap.size + 1 ≠ D) := ⟨k1, q1, q2, hsz, hsz2⟩
  clear k1 q1 q2 hsz hsz2
  go_enter Try.func13, Try.ntmps13
  go_wp2_with fail
  go_at_call 48
  rw [← hW1]
  clear hW1
  refine (text_any W1 R a ca s k hk (H.out.1.kp HH.out.1)).mono ?_
  rintro r W2 ⟨rfl, t1, t2⟩
  have M1 := stp_one HH.out.1 H.out.2 H.out.1 t1 t2
  have e1 := t2.heap HH.out.2.1 HH.out.2.2.2.1.1
  have e2 := t2.heap HH.out.2.2.1 HH.out.2.2.2.2.1
  have p1 : W2.cell? ⟨w.heap.size, 1, none⟩ = some (.pointer (some ⟨D, 0, none⟩)) := by rw [(cells_at e1 1).1]; rfl
  have p2 : W2.cell? ⟨w.heap.size + 1, 2, none⟩ = some (.int .i64 k) := by rw [(cells_at e2 2).1]; rfl
  have HM : Hid (IsRS W2 R a ca _ ∧ IsD W2 D b cb s ∧ Chg w W2 (fun k => k = R ∨ k = D)) := M1
  clear M1 t1 t2 HH H e1 e2
  go_wp2_with fail
  go_at_call 49
  refine (dtext_any W2 D b cb s k hk HM.out.2.1).mono ?_
  rintro r W3 ⟨rfl, t1, t2⟩
  have M2 : Hid (IsRS W3 R a ca _ ∧ IsD W3 D b cb _ ∧ Chg w W3 (fun k => k = R ∨ k = D)) := stp_two HM.out t1 t2
  clear t1 t2 HM p1 p2
  go_wp2
  go_ret
  exact ⟨rfl, M2.out⟩
set_option maxHeartbeats 1000000 in
set_option maxRecDepth 10000 in
theorem reads_pad (w : World) (R D B : Nat) (a b : Option Addr) (ca cb : Nat) (s : RS) (n k : Int) (v1 v2 : Value) (hR : IsRS w R a ca s) (hD : IsD w D b cb s) :
    Calls Try.prog 13 #[.agg #[.pointer (some ⟨R, 0, none⟩), .pointer (some ⟨D, 0, none⟩)], .agg #[.int .i64 7, .int .u64 n, .int .i64 k, v1, v2], .pointer (some ⟨B, 0, none⟩)] w fun r w' => Stp w w' R D a b ca cb (s.pad k) r := by
  have H : Hid (IsRS w R a ca s ∧ IsD w D b cb s) := ⟨hR, hD⟩
  obtain ⟨W1, hW1⟩ : ∃ W1, W1 = (w.alloc (.cells #[.pointer (some ⟨R, 0, none⟩), .pointer (some ⟨D, 0, none⟩)] 41)).alloc (.cells #[.int .i64 7, .int .u64 n, .int .i64 k, v1, v2] 51) := ⟨_, rfl⟩
  have k1 : Kp w W1 := by rw [hW1]; exact (Kp.al _ _).trans (Kp.al _ _)
  have q1 : W1.heap[w.heap.size]? = some (.cells #[.pointer (some ⟨R, 0, none⟩), .pointer (some ⟨D, 0, none⟩)] 41 (0, 0)) := by rw [hW1]; exact Kp.heap (Kp.al _ _) (heap_alloc_new w _)
  have hsz : w.heap.size ≠ R ∧ w.heap.size ≠ D := ⟨by have := hp_lt hR.box; omega, by have := hD.lt; omega⟩
  have q2 : W1.heap[w.heap.size + 1]? = some (.cells #[.int .i64 7, .int .u64 n, .int .i64 k, v1, v2] 51 (0, 0)) := by
    rw [hW1]
    have := heap_alloc_new (w.alloc (.cells #[.pointer (some ⟨R, 0, none⟩), .pointer (some ⟨D, 0, none⟩)] 41)) (.cells #[.int .i64 7, .int .u64 n, .int .i64 k, v1, v2] 51)
    simpa using this
  have hsz2 : w.heap.size + 1 ≠ R ∧ w.heap.size + 1 ≠ D := ⟨by have := hp_lt hR.box; omega, by have := hD.lt; omega⟩
  clear hR hD
  have HH : Hid (Kp w W1 ∧ W1.heap[w.heap.size]? = some (.cells #[.pointer (some ⟨R, 0, none⟩), .pointer (some ⟨D, 0, none⟩)] 41 (0, 0)) ∧ W1.heap[w.heap.size + 1]? = some (.cells #[.int .i64 7, .int .u64 n, .int .i64 k, v1, v2] 51 (0, 0)) ∧ (w.heap.size ≠ R ∧ w.heap.size ≠ D) ∧ w.heap.size + 1 ≠ R ∧ w.heap.size + 1 ≠ D) := ⟨k1, q1, q2, hsz, hsz2⟩
  clear k1 q1 q2 hsz hsz2
  go_enter Try.func13, Try.ntmps13
  go_wp2_with fail
  go_at_call 50
  rw [← hW1]
  clear hW1
  refine (rpad_any W1 R a ca s k (H.out.1.kp HH.out.1)).mono ?_
  rintro r W2 ⟨rfl, t1, t2⟩
  have M1 := stp_one HH.out.1 H.out.2 H.out.1 t1 t2
  have e1 := t2.heap HH.out.2.1 HH.out.2.2.2.1.1
  have e2 := t2.heap HH.out.2.2.1 HH.out.2.2.2.2.1
  have p1 : W2.cell? ⟨w.heap.size, 1, none⟩ = some (.pointer (some ⟨D, 0, none⟩)) := by rw [(cells_at e1 1).1]; rfl
  have p2 : W2.cell? ⟨w.heap.size + 1, 2, none⟩ = some (.int .i64 k) := by rw [(cells_at e2 2).1]; rfl
  have HM : Hid (IsRS W2 R a ca _ ∧ IsD W2 D b cb s ∧ Chg w W2 (fun k => k = R ∨ k = D)) := M1
  clear M1 t1 t2 HH H e1 e2
  go_wp2_with fail
  go_at_call 51
  refine (dpad_any W2 D b cb s k HM.out.2.1).mono ?_
  rintro r W3 ⟨rfl, t1, t2⟩
  have M2 : Hid (IsRS W3 R a ca _ ∧ IsD W3 D b cb _ ∧ Chg w W3 (fun k => k = R ∨ k = D)) := stp_two HM.out t1 t2
  clear t1 t2 HM p1 p2
  go_wp2
  go_ret
  exact ⟨rfl, M2.out⟩
set_option maxHeartbeats 1000000 in
set_option maxRecDepth 10000 in
theorem reads_end (w : World) (R D B : Nat) (a b : Option Addr) (ca cb : Nat) (s : RS) (n k : Int) (v1 v2 : Value) (hR : IsRS w R a ca s) (hD : IsD w D b cb s) :
    Calls Try.prog 13 #[.agg #[.pointer (some ⟨R, 0, none⟩), .pointer (some ⟨D, 0, none⟩)], .agg #[.int .i64 9, .int .u64 n, .int .i64 k, v1, v2], .pointer (some ⟨B, 0, none⟩)] w fun r w' => Stp w w' R D a b ca cb s.end r := by
  have H : Hid (IsRS w R a ca s ∧ IsD w D b cb s) := ⟨hR, hD⟩
  obtain ⟨W1, hW1⟩ : ∃ W1, W1 = (w.alloc (.cells #[.pointer (some ⟨R, 0, none⟩), .pointer (some ⟨D, 0, none⟩)] 41)).alloc (.cells #[.int .i64 9, .int .u64 n, .int .i64 k, v1, v2] 51) := ⟨_, rfl⟩
  have k1 : Kp w W1 := by rw [hW1]; exact (Kp.al _ _).trans (Kp.al _ _)
  have q1 : W1.heap[w.heap.size]? = some (.cells #[.pointer (some ⟨R, 0, none⟩), .pointer (some ⟨D, 0, none⟩)] 41 (0, 0)) := by rw [hW1]; exact Kp.heap (Kp.al _ _) (heap_alloc_new w _)
  have hsz : w.heap.size ≠ R ∧ w.heap.size ≠ D := ⟨by have := hp_lt hR.box; omega, by have := hD.lt; omega⟩
  have q2 : W1.heap[w.heap.size + 1]? = some (.cells #[.int .i64 9, .int .u64 n, .int .i64 k, v1, v2] 51 (0, 0)) := by
    rw [hW1]
    have := heap_alloc_new (w.alloc (.cells #[.pointer (some ⟨R, 0, none⟩), .pointer (some ⟨D, 0, none⟩)] 41)) (.cells #[.int .i64 9, .int .u64 n, .int .i64 k, v1, v2] 51)
    simpa using this
  have hsz2 : w.heap.size + 1 ≠ R ∧ w.heap.size + 1 ≠ D := ⟨by have := hp_lt hR.box; omega, by have := hD.lt; omega⟩
  clear hR hD
  have HH : Hid (Kp w W1 ∧ W1.heap[w.heap.size]? = some (.cells #[.pointer (some ⟨R, 0, none⟩), .pointer (some ⟨D, 0, none⟩)] 41 (0, 0)) ∧ W1.heap[w.heap.size + 1]? = some (.cells #[.int .i64 9, .int .u64 n, .int .i64 k, v1, v2] 51 (0, 0)) ∧ (w.heap.size ≠ R ∧ w.heap.size ≠ D) ∧ w.heap.size + 1 ≠ R ∧ w.heap.size + 1 ≠ D) := ⟨k1, q1, q2, hsz, hsz2⟩
  clear k1 q1 q2 hsz hsz2
  go_enter Try.func13, Try.ntmps13
  go_wp2_with fail
  go_at_call 52
  rw [← hW1]
  clear hW1
  refine (end_any W1 R a ca s (H.out.1.kp HH.out.1)).mono ?_
  rintro r W2 ⟨rfl, t1, t2⟩
  have M1 := stp_one HH.out.1 H.out.2 H.out.1 t1 t2
  have e1 := t2.heap HH.out.2.1 HH.out.2.2.2.1.1
  have e2 := t2.heap HH.out.2.2.1 HH.out.2.2.2.2.1
  have p1 : W2.cell? ⟨w.heap.size, 1, none⟩ = some (.pointer (some ⟨D, 0, none⟩)) := by rw [(cells_at e1 1).1]; rfl
  have p2 : W2.cell? ⟨w.heap.size + 1, 2, none⟩ = some (.int .i64 k) := by rw [(cells_at e2 2).1]; rfl
  have HM : Hid (IsRS W2 R a ca _ ∧ IsD W2 D b cb s ∧ Chg w W2 (fun k => k = R ∨ k = D)) := M1
  clear M1 t1 t2 HH H e1 e2
  go_wp2_with fail
  go_at_call 53
  refine (dend_any W2 D b cb s HM.out.2.1).mono ?_
  rintro r W3 ⟨rfl, t1, t2⟩
  have M2 : Hid (IsRS W3 R a ca _ ∧ IsD W3 D b cb _ ∧ Chg w W3 (fun k => k = R ∨ k = D)) := stp_two HM.out t1 t2
  clear t1 t2 HM p1 p2
  go_wp2
  go_ret
  exact ⟨rfl, M2.out⟩
set_option maxHeartbeats 1000000 in
set_option maxRecDepth 10000 in
theorem reads_fail (w : World) (R D B : Nat) (a b : Option Addr) (ca cb : Nat) (s : RS) (n k : Int) (v1 v2 : Value) (hR : IsRS w R a ca s) (hD : IsD w D b cb s) :
    Calls Try.prog 13 #[.agg #[.pointer (some ⟨R, 0, none⟩), .pointer (some ⟨D, 0, none⟩)], .agg #[.int .i64 11, .int .u64 n, .int .i64 k, v1, v2], .pointer (some ⟨B, 0, none⟩)] w fun r w' => Stp w w' R D a b ca cb (s.fail k s.at_) r := by
  have H : Hid (IsRS w R a ca s ∧ IsD w D b cb s) := ⟨hR, hD⟩
  obtain ⟨W1, hW1⟩ : ∃ W1, W1 = (w.alloc (.cells #[.pointer (some ⟨R, 0, none⟩), .pointer (some ⟨D, 0, none⟩)] 41)).alloc (.cells #[.int .i64 11, .int .u64 n, .int .i64 k, v1, v2] 51) := ⟨_, rfl⟩
  have k1 : Kp w W1 := by rw [hW1]; exact (Kp.al _ _).trans (Kp.al _ _)
  have q1 : W1.heap[w.heap.size]? = some (.cells #[.pointer (some ⟨R, 0, none⟩), .pointer (some ⟨D, 0, none⟩)] 41 (0, 0)) := by rw [hW1]; exact Kp.heap (Kp.al _ _) (heap_alloc_new w _)
  have hsz : w.heap.size ≠ R ∧ w.heap.size ≠ D := ⟨by have := hp_lt hR.box; omega, by have := hD.lt; omega⟩
  have q2 : W1.heap[w.heap.size + 1]? = some (.cells #[.int .i64 11, .int .u64 n, .int .i64 k, v1, v2] 51 (0, 0)) := by
    rw [hW1]
    have := heap_alloc_new (w.alloc (.cells #[.pointer (some ⟨R, 0, none⟩), .pointer (some ⟨D, 0, none⟩)] 41)) (.cells #[.int .i64 11, .int .u64 n, .int .i64 k, v1, v2] 51)
    simpa using this
  have hsz2 : w.heap.size + 1 ≠ R ∧ w.heap.size + 1 ≠ D := ⟨by have := hp_lt hR.box; omega, by have := hD.lt; omega⟩
  clear hR hD
  have HH : Hid (Kp w W1 ∧ W1.heap[w.heap.size]? = some (.cells #[.pointer (some ⟨R, 0, none⟩), .pointer (some ⟨D, 0, none⟩)] 41 (0, 0)) ∧ W1.heap[w.heap.size + 1]? = some (.cells #[.int .i64 11, .int .u64 n, .int .i64 k, v1, v2] 51 (0, 0)) ∧ (w.heap.size ≠ R ∧ w.heap.size ≠ D) ∧ w.heap.size + 1 ≠ R ∧ w.heap.size + 1 ≠ D) := ⟨k1, q1, q2, hsz, hsz2⟩
  clear k1 q1 q2 hsz hsz2
  go_enter Try.func13, Try.ntmps13
  go_wp2_with fail
  go_at_call 54
  rw [← hW1]
  clear hW1
  refine (rfail_any W1 R a ca s k (H.out.1.kp HH.out.1)).mono ?_
  rintro r W2 ⟨rfl, t1, t2⟩
  have M1 := stp_one HH.out.1 H.out.2 H.out.1 t1 t2
  have e1 := t2.heap HH.out.2.1 HH.out.2.2.2.1.1
  have e2 := t2.heap HH.out.2.2.1 HH.out.2.2.2.2.1
  have p1 : W2.cell? ⟨w.heap.size, 1, none⟩ = some (.pointer (some ⟨D, 0, none⟩)) := by rw [(cells_at e1 1).1]; rfl
  have p2 : W2.cell? ⟨w.heap.size + 1, 2, none⟩ = some (.int .i64 k) := by rw [(cells_at e2 2).1]; rfl
  have HM : Hid (IsRS W2 R a ca _ ∧ IsD W2 D b cb s ∧ Chg w W2 (fun k => k = R ∨ k = D)) := M1
  clear M1 t1 t2 HH H e1 e2
  go_wp2_with fail
  go_at_call 55
  refine (dFail_any W2 D b cb s k HM.out.2.1).mono ?_
  rintro r W3 ⟨rfl, t1, t2⟩
  have M2 : Hid (IsRS W3 R a ca _ ∧ IsD W3 D b cb _ ∧ Chg w W3 (fun k => k = R ∨ k = D)) := stp_two HM.out t1 t2
  clear t1 t2 HM p1 p2
  go_wp2
  go_ret
  exact ⟨rfl, M2.out⟩
set_option maxHeartbeats 1000000 in
set_option maxRecDepth 10000 in
theorem reads_none (w : World) (R D B : Nat) (a b : Option Addr) (ca cb : Nat) (s : RS) (n k : Int) (v1 v2 : Value) (kd : Int) (h1 : (kd == 1) = false) (h2 : (kd == 2) = false) (h3 : (kd == 3) = false) (h4 : (kd == 4) = false) (h5 : (kd == 5) = false) (h6 : (kd == 6) = false) (h7 : (kd == 7) = false) (h9 : (kd == 9) = false) (h11 : (kd == 11) = false) (hR : IsRS w R a ca s) (hD : IsD w D b cb s) :
    Calls Try.prog 13 #[.agg #[.pointer (some ⟨R, 0, none⟩), .pointer (some ⟨D, 0, none⟩)], .agg #[.int .i64 kd, .int .u64 n, .int .i64 k, v1, v2], .pointer (some ⟨B, 0, none⟩)] w fun r w' => Stp w w' R D a b ca cb s r := by
  have H : Hid (IsRS w R a ca s ∧ IsD w D b cb s) := ⟨hR, hD⟩
  obtain ⟨W1, hW1⟩ : ∃ W1, W1 = (w.alloc (.cells #[.pointer (some ⟨R, 0, none⟩), .pointer (some ⟨D, 0, none⟩)] 41)).alloc (.cells #[.int .i64 kd, .int .u64 n, .int .i64 k, v1, v2] 51) := ⟨_, rfl⟩
  have k1 : Kp w W1 := by rw [hW1]; exact (Kp.al _ _).trans (Kp.al _ _)
  have q1 : W1.heap[w.heap.size]? = some (.cells #[.pointer (some ⟨R, 0, none⟩), .pointer (some ⟨D, 0, none⟩)] 41 (0, 0)) := by rw [hW1]; exact Kp.heap (Kp.al _ _) (heap_alloc_new w _)
  have hsz : w.heap.size ≠ R ∧ w.heap.size ≠ D := ⟨by have := hp_lt hR.box; omega, by have := hD.lt; omega⟩
  have q2 : W1.heap[w.heap.size + 1]? = some (.cells #[.int .i64 kd, .int .u64 n, .int .i64 k, v1, v2] 51 (0, 0)) := by
    rw [hW1]
    have := heap_alloc_new (w.alloc (.cells #[.pointer (some ⟨R, 0, none⟩), .pointer (some ⟨D, 0, none⟩)] 41)) (.cells #[.int .i64 kd, .int .u64 n, .int .i64 k, v1, v2] 51)
    simpa using this
  have hsz2 : w.heap.size + 1 ≠ R ∧ w.heap.size + 1 ≠ D := ⟨by have := hp_lt hR.box; omega, by have := hD.lt; omega⟩
  clear hR hD
  have HH : Hid (Kp w W1 ∧ W1.heap[w.heap.size]? = some (.cells #[.pointer (some ⟨R, 0, none⟩), .pointer (some ⟨D, 0, none⟩)] 41 (0, 0)) ∧ W1.heap[w.heap.size + 1]? = some (.cells #[.int .i64 kd, .int .u64 n, .int .i64 k, v1, v2] 51 (0, 0)) ∧ (w.heap.size ≠ R ∧ w.heap.size ≠ D) ∧ w.heap.size + 1 ≠ R ∧ w.heap.size + 1 ≠ D) := ⟨k1, q1, q2, hsz, hsz2⟩
  clear k1 q1 q2 hsz hsz2
  go_enter Try.func13, Try.ntmps13
  go_wp2
  go_ret
  rw [← hW1]
  exact ⟨rfl, H.out.1.kp HH.out.1, H.out.2.kp HH.out.1, HH.out.1.any⟩
end Go.Proofs.Ytfcpkcbiinbmiab
namespace Go.Proofs.Ytfcpkcbiinbmiab
open Go.ChangeShapes Go.WideShapes Go.ChangeAt Go.RowKit
set_option linter.unusedVariables false
/-- No block of a reader is the book's. -/
def NoB (σ : Nat → Nat × Nat) (R : Nat) (a : Option Addr) (n : Nat) : Prop := (σ R).1 ≠ 1 ∧ ∀ x o, a = some ⟨x, o, none⟩ → 0 < n → (σ x).1 ≠ 1
/-- What a step of a pair with a list leaves. -/
structure StR (w : World) (σ : Nat → Nat × Nat) (R D B : Nat) (a b : Option Addr) (ca cb : Nat) (V : Nat → Value) (X : Nat → List Value) (o : Nat) (bs : List Int) (s : RS) (w' : World) (σ' : Nat → Nat × Nat) (V' : Nat → Value) (v u : Value) : Prop where
  rs : IsRS w' R a ca s
  ds : IsD w' D b cb s
  ob : OwnB w' v bs
  lb : Lb σ' v (3, o)
  ou : OwnB w' u bs
  lu : Lb σ' u (4, o)
  bk : BkM w' σ' B V' (upd (upd X 2 (X 2 ++ [v])) 3 (X 3 ++ [u]))
  ch : Chg w w' (fun k => (k = R ∨ k = D) ∨ (σ k).1 = 1)
  ex : Ext w σ σ'
theorem RS.raw_bs (s : RS) (k : Int) : (s.raw k).2.bs = s.bs := by
  unfold RS.raw
  split
  · rfl
  · exact s.take_bs _
theorem RS.raw_range (s : RS) (k : Int) (h : ∀ x ∈ s.bs, 0 ≤ x ∧ x ≤ 255) (hl : s.bs.length ≤ 140737488355328) : (s.raw k).1.length ≤ 140737488355328 := by
  unfold RS.raw
  split
  · simp
  · unfold RS.take
    split
    · simp
    · split
      · simp
      · simp; omega
set_option maxHeartbeats 1000000 in
set_option maxRecDepth 10000 in
theorem reads_raw (w : World) (R D B : Nat) (a b : Option Addr) (ca cb : Nat) (s : RS) (n k : Int) (v1 v2 : Value) (σ : Nat → Nat × Nat) (V : Nat → Value) (X : Nat → List Value) (o : Nat) (hk : k ≤ 9223372036854775807) (hB : BkM w σ B V X) (nR : NoB σ R a s.bs.length) (nD : NoB σ D b s.bs.length) (h2 : ((X 2).length + 1) * 24 ≤ 140737488355328) (h3 : ((X 3).length + 1) * 24 ≤ 140737488355328) (hR : IsRS w R a ca s) (hD : IsD w D b cb s) :
    Calls Try.prog 13 #[.agg #[.pointer (some ⟨R, 0, none⟩), .pointer (some ⟨D, 0, none⟩)], .agg #[.int .i64 5, .int .u64 n, .int .i64 k, v1, v2], .pointer (some ⟨B, 0, none⟩)] w fun r w' => r = .returned (.bool true) ∧ ∃ σ' V' v u, StR w σ R D B a b ca cb V X o (s.raw k).1 (s.raw k).2 w' σ' V' v u := by
  have H : Hid (IsRS w R a ca s ∧ IsD w D b cb s) := ⟨hR, hD⟩
  obtain ⟨W1, hW1⟩ : ∃ W1, W1 = (w.alloc (.cells #[.pointer (some ⟨R, 0, none⟩), .pointer (some ⟨D, 0, none⟩)] 41)).alloc (.cells #[.int .i64 5, .int .u64 n, .int .i64 k, v1, v2] 51) := ⟨_, rfl⟩
  have k1 : Kp w W1 := by rw [hW1]; exact (Kp.al _ _).trans (Kp.al _ _)
  have q1 : W1.heap[w.heap.size]? = some (.cells #[.pointer (some ⟨R, 0, none⟩), .pointer (some ⟨D, 0, none⟩)] 41 (0, 0)) := by rw [hW1]; exact Kp.heap (Kp.al _ _) (heap_alloc_new w _)
  have hsz : w.heap.size ≠ R ∧ w.heap.size ≠ D := ⟨by have := hp_lt hR.box; omega, by have := hD.lt; omega⟩
  have q2 : W1.heap[w.heap.size + 1]? = some (.cells #[.int .i64 5, .int .u64 n, .int .i64 k, v1, v2] 51 (0, 0)) := by
    rw [hW1]
    have := heap_alloc_new (w.alloc (.cells #[.pointer (some ⟨R, 0, none⟩), .pointer (some ⟨D, 0, none⟩)] 41)) (.cells #[.int .i64 5, .int .u64 n, .int .i64 k, v1, v2] 51)
    simpa using this
  have hsz2 : w.heap.size + 1 ≠ R ∧ w.heap.size + 1 ≠ D := ⟨by have := hp_lt hR.box; omega, by have := hD.lt; omega⟩
  clear hR hD
  have HH : Hid (Kp w W1 ∧ W1.heap[w.heap.size]? = some (.cells #[.pointer (some ⟨R, 0, none⟩), .pointer (some ⟨D, 0, none⟩)] 41 (0, 0)) ∧ W1.heap[w.heap.size + 1]? = some (.cells #[.int .i64 5, .int .u64 n, .int .i64 k, v1, v2] 51 (0, 0)) ∧ (w.heap.size ≠ R ∧ w.heap.size ≠ D) ∧ w.heap.size + 1 ≠ R ∧ w.heap.size + 1 ≠ D) := ⟨k1, q1, q2, hsz, hsz2⟩
  clear k1 q1 q2 hsz hsz2
  have HB : Hid (BkM w σ B V X ∧ NoB σ R a s.bs.length ∧ NoB σ D b s.bs.length ∧ (s.raw k).1.length ≤ 140737488355328) := ⟨hB, nR, nD, s.raw_range k H.out.1.bytes.2.2.1 H.out.1.bytes.2.1⟩
  clear hB nR nD
  go_enter Try.func13, Try.ntmps13
  go_wp2_with fail
  go_at_call 45
  rw [← hW1]
  clear hW1
  refine (raw_any W1 R a ca s k hk (H.out.1.kp HH.out.1)).mono ?_
  rintro r W2 ⟨v, rfl, ov, fv, t1, t2⟩
  have M1 := stp_one HH.out.1 H.out.2 H.out.1 t1 t2
  have e1 := t2.heap HH.out.2.1 HH.out.2.2.2.1.1
  have e2 := t2.heap HH.out.2.2.1 HH.out.2.2.2.2.1
  have p1 : W2.cell? ⟨w.heap.size, 1, none⟩ = some (.pointer (some ⟨D, 0, none⟩)) := by rw [(cells_at e1 1).1]; rfl
  have p2 : W2.cell? ⟨w.heap.size + 1, 2, none⟩ = some (.int .i64 k) := by rw [(cells_at e2 2).1]; rfl
  have HM : Hid ((IsRS W2 R a ca _ ∧ IsD W2 D b cb s ∧ Chg w W2 (fun k => k = R ∨ k = D)) ∧ OwnB W2 v (s.raw k).1 ∧ Fresh w.heap.size v) := ⟨M1, ov, fun x hx => Nat.le_trans HH.out.1.size (fv x hx)⟩
  have HR2 : Hid (D < w.heap.size) := H.out.2.lt
  clear M1 t1 t2 HH H e1 e2 ov fv
  go_wp2_with fail
  go_at_call 46
  refine (draw_any W2 D b cb s k hk HM.out.1.2.1).mono ?_
  rintro r W3 ⟨x, rfl, ox, fx, t1, t2⟩
  have M2 := stp_two HM.out.1 t1 t2
  have ov3 : OwnB W3 v (s.raw k).1 := HM.out.2.1.chg t2 (fun y hy e => by have := HM.out.2.2 y hy; have := HR2.out; omega)
  obtain ⟨av, cv, ev, _, _, bv⟩ := ov3.shape HB.out.2.2.2
  obtain ⟨ax, cx, ex, _, _, bx⟩ := ox.shape HB.out.2.2.2
  have K2 : Hid ((IsRS W3 R a ca (s.raw k).2 ∧ IsD W3 D b cb (s.raw k).2 ∧ Chg w W3 (fun k => k = R ∨ k = D)) ∧ OwnB W3 v (s.raw k).1 ∧ Fresh w.heap.size v ∧ Bs W3 av (s.raw k).1.length (s.raw k).1 ∧ Bs W3 ax (s.raw k).1.length (s.raw k).1) := ⟨M2, ov3, HM.out.2.2, bv, bx⟩
  clear M2 t1 t2 HM p1 p2 ov3 ox fx bv bx HR2
  subst ev ex
  go_wp2_with fail
  go_at_call 26
  refine (same_eq W3 av ax _ cv cx _ _ K2.out.2.2.2.1 K2.out.2.2.2.2).mono ?_
  rintro r W4 ⟨rfl, t1⟩
  have hs : sameB (s.raw k).1 (s.raw k).1 = true := by simp [sameB]
  rw [hs]
  clear hs
  have cW : Chg w W4 (fun k => k = R ∨ k = D) := Chg.trans K2.out.1.2.2 t1 (fun _ _ x => x.elim)
  have B4 : BkM W4 σ B V X := HB.out.1.chg cW (fun y e => by
    rcases e with e | e
    · rw [e]; exact HB.out.2.1.1
    · rw [e]; exact HB.out.2.2.1.1)
  have hlv : ∀ y, (Value.slice av (s.raw k).1.length cv).ownBlock = some y → (σ y).1 ≠ 1 := fun y hy e => by
    have := K2.out.2.2.1 y hy
    rw [HB.out.1.fz y this] at e
    simp at e
  have ov4 : OwnB W4 (.slice av (s.raw k).1.length cv) (s.raw k).1 := K2.out.2.1.chg t1 (by simp)
  have hOw := owns_any W4 σ B V X B4 _ _ ov4 HB.out.2.2.2 hlv o h2 h3
  have K3 : Hid (IsRS W4 R a ca (s.raw k).2 ∧ IsD W4 D b cb (s.raw k).2 ∧ Chg w W4 (fun k => k = R ∨ k = D) ∧ Fresh w.heap.size (.slice av (s.raw k).1.length cv)) := ⟨K2.out.1.1.kp t1, K2.out.1.2.1.kp t1, cW, K2.out.2.2.1⟩
  clear K2 t1 cW B4 hlv ov4
  go_wp2_with fail
  go_at_call 47
  refine hOw.mono ?_
  rintro r W5 ⟨rfl, σ', V', u, hH⟩
  have FF : Hid (StR w σ R D B a b ca cb V X o (s.raw k).1 (s.raw k).2 W5 σ' V' (.slice av (s.raw k).1.length cv) u) := by
    obtain ⟨q1, q2, q3, q4⟩ := K3.out
    have nR := HB.out.2.1
    have nD := HB.out.2.2.1
    refine ⟨q1.other hH.ch nR.1 (fun x o e hl => nR.2 x o e (by rw [RS.raw_bs] at hl; exact hl)), q2.other hH.ch nD.1 (fun x o e hl => nD.2 x o e (by rw [RS.raw_bs] at hl; exact hl)), hH.ob, hH.lb, hH.ou, hH.lu, hH.bk, Chg.trans (q3.mono (fun _ _ e => .inl e)) hH.ch (fun _ _ e => .inr e), fun y hy => hH.ex y (Nat.lt_of_lt_of_le hy q3.size) (fun e => by have := q4 y e; omega)⟩
  clear hH hOw K3 HB
  go_wp2
  go_ret
  exact ⟨rfl, _, _, _, _, FF.out⟩
end Go.Proofs.Ytfcpkcbiinbmiab
