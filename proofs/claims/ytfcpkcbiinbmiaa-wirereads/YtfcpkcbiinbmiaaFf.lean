import Derived.Test.YtfcpkcbiinbmiaaFe
namespace Go.Proofs.Ytfcpkcbiinbmiaa
open Go.ChangeShapes Go.WideShapes Go.ChangeAt Go.RowKit
set_option linter.unusedVariables false
/-- What a step of a pair leaves. -/
def Stp (w w' : World) (R D : Nat) (a b : Option Addr) (ca cb : Nat) (s : RS) (r : Ending) : Prop :=
  r = .returned (.bool true) ∧ IsRS w' R a ca s ∧ IsD w' D b cb s ∧ Chg w w' (fun k => k = R ∨ k = D)
/-- The first call of a step. -/
theorem stp_one {w W W' : World} {R D : Nat} {a b : Option Addr} {ca cb : Nat} {s s' : RS} (k1 : Kp w W) (hD : IsD w D b cb s) (hR : IsRS w R a ca s) (h : IsRS W' R a ca s') (hc : Chg W W' (fun k => k = R)) : IsRS W' R a ca s' ∧ IsD W' D b cb s ∧ Chg w W' (fun k => k = R ∨ k = D) :=
  ⟨h, (hD.kp k1).after (hR.kp k1) hc, Chg.trans k1.any hc (fun _ _ e => .inl e)⟩
theorem stp_two {w W W' : World} {R D : Nat} {a b : Option Addr} {ca cb : Nat} {s s' : RS} (k : IsRS W R a ca s' ∧ IsD W D b cb s ∧ Chg w W (fun k => k = R ∨ k = D)) (h : IsD W' D b cb s') (hc : Chg W W' (fun k => k = D)) : IsRS W' R a ca s' ∧ IsD W' D b cb s' ∧ Chg w W' (fun k => k = R ∨ k = D) :=
  ⟨k.1.after k.2.1 hc, h, Chg.trans k.2.2 hc (fun _ _ e => .inr e)⟩
set_option maxHeartbeats 1000000 in
set_option maxRecDepth 10000 in
theorem reads_n1 (w : World) (R D B : Nat) (a b : Option Addr) (ca cb : Nat) (s : RS) (n k : Int) (v1 v2 : Value) (hR : IsRS w R a ca s) (hD : IsD w D b cb s) :
    Calls Try.prog 40 #[.agg #[.pointer (some ⟨R, 0, none⟩), .pointer (some ⟨D, 0, none⟩)], .agg #[.int .i64 1, .int .u64 n, .int .i64 k, v1, v2], .pointer (some ⟨B, 0, none⟩)] w fun r w' => Stp w w' R D a b ca cb (s.take 1).2 r := by
  have H : Hid (IsRS w R a ca s ∧ IsD w D b cb s) := ⟨hR, hD⟩
  obtain ⟨W1, hW1⟩ : ∃ W1, W1 = (w.alloc (.cells #[.pointer (some ⟨R, 0, none⟩), .pointer (some ⟨D, 0, none⟩)] 77)).alloc (.cells #[.int .i64 1, .int .u64 n, .int .i64 k, v1, v2] 44) := ⟨_, rfl⟩
  have k1 : Kp w W1 := by rw [hW1]; exact (Kp.al _ _).trans (Kp.al _ _)
  have q1 : W1.heap[w.heap.size]? = some (.cells #[.pointer (some ⟨R, 0, none⟩), .pointer (some ⟨D, 0, none⟩)] 77 (0, 0)) := by rw [hW1]; exact Kp.heap (Kp.al _ _) (heap_alloc_new w _)
  have hsz : w.heap.size ≠ R ∧ w.heap.size ≠ D := ⟨by have := hp_lt hR.box; omega, by have := hD.lt; omega⟩
  have q2 : W1.heap[w.heap.size + 1]? = some (.cells #[.int .i64 1, .int .u64 n, .int .i64 k, v1, v2] 44 (0, 0)) := by
    rw [hW1]
    have := heap_alloc_new (w.alloc (.cells #[.pointer (some ⟨R, 0, none⟩), .pointer (some ⟨D, 0, none⟩)] 77)) (.cells #[.int .i64 1, .int .u64 n, .int .i64 k, v1, v2] 44)
    simpa using this
  have hsz2 : w.heap.size + 1 ≠ R ∧ w.heap.size + 1 ≠ D := ⟨by have := hp_lt hR.box; omega, by have := hD.lt; omega⟩
  clear hR hD
  have HH : Hid (Kp w W1 ∧ W1.heap[w.heap.size]? = some (.cells #[.pointer (some ⟨R, 0, none⟩), .pointer (some ⟨D, 0, none⟩)] 77 (0, 0)) ∧ W1.heap[w.heap.size + 1]? = some (.cells #[.int .i64 1, .int .u64 n, .int .i64 k, v1, v2] 44 (0, 0)) ∧ (w.heap.size ≠ R ∧ w.heap.size ≠ D) ∧ w.heap.size + 1 ≠ R ∧ w.heap.size + 1 ≠ D) := ⟨k1, q1, q2, hsz, hsz2⟩
  clear k1 q1 q2 hsz hsz2
  have hlt := s.num_lt 1 H.out.1.bytes.2.2.1
  simp only [Nat.reduceMul, Nat.reducePow] at hlt
  have hwr : IntKind.u64.wrap (s.num 1 : Int) = (s.num 1 : Nat) := by rw [IntKind.wrap_u64]; omega
  go_enter Try.func40, Try.ntmps40
  go_wp2_with fail
  go_at_call 17
  rw [← hW1]
  clear hW1
  refine (m8_any W1 R a ca s (H.out.1.kp HH.out.1)).mono ?_
  rintro r W2 ⟨rfl, t1, t2⟩
  have M1 := stp_one HH.out.1 H.out.2 H.out.1 t1 t2
  have e1 := t2.heap HH.out.2.1 HH.out.2.2.2.1.1
  have e2 := t2.heap HH.out.2.2.1 HH.out.2.2.2.2.1
  have p1 : W2.cell? ⟨w.heap.size, 1, none⟩ = some (.pointer (some ⟨D, 0, none⟩)) := by rw [(cells_at e1 1).1]; rfl
  have p2 : W2.cell? ⟨w.heap.size + 1, 2, none⟩ = some (.int .i64 k) := by rw [(cells_at e2 2).1]; rfl
  have HM : Hid (IsRS W2 R a ca _ ∧ IsD W2 D b cb s ∧ Chg w W2 (fun k => k = R ∨ k = D)) := M1
  clear M1 t1 t2 HH H e1 e2
  go_wp2_with fail
  go_at_call 74
  refine (dnum_any W2 D b cb s 1 (by omega) HM.out.2.1).mono ?_
  rintro r W3 ⟨rfl, t1, t2⟩
  have M2 : Hid (IsRS W3 R a ca _ ∧ IsD W3 D b cb _ ∧ Chg w W3 (fun k => k = R ∨ k = D)) := stp_two HM.out t1 t2
  clear t1 t2 HM p1 p2
  go_wp2
  go_ret
  exact ⟨rfl, M2.out⟩
set_option maxHeartbeats 1000000 in
set_option maxRecDepth 10000 in
theorem reads_n2 (w : World) (R D B : Nat) (a b : Option Addr) (ca cb : Nat) (s : RS) (n k : Int) (v1 v2 : Value) (hR : IsRS w R a ca s) (hD : IsD w D b cb s) :
    Calls Try.prog 40 #[.agg #[.pointer (some ⟨R, 0, none⟩), .pointer (some ⟨D, 0, none⟩)], .agg #[.int .i64 2, .int .u64 n, .int .i64 k, v1, v2], .pointer (some ⟨B, 0, none⟩)] w fun r w' => Stp w w' R D a b ca cb (s.take 2).2 r := by
  have H : Hid (IsRS w R a ca s ∧ IsD w D b cb s) := ⟨hR, hD⟩
  obtain ⟨W1, hW1⟩ : ∃ W1, W1 = (w.alloc (.cells #[.pointer (some ⟨R, 0, none⟩), .pointer (some ⟨D, 0, none⟩)] 77)).alloc (.cells #[.int .i64 2, .int .u64 n, .int .i64 k, v1, v2] 44) := ⟨_, rfl⟩
  have k1 : Kp w W1 := by rw [hW1]; exact (Kp.al _ _).trans (Kp.al _ _)
  have q1 : W1.heap[w.heap.size]? = some (.cells #[.pointer (some ⟨R, 0, none⟩), .pointer (some ⟨D, 0, none⟩)] 77 (0, 0)) := by rw [hW1]; exact Kp.heap (Kp.al _ _) (heap_alloc_new w _)
  have hsz : w.heap.size ≠ R ∧ w.heap.size ≠ D := ⟨by have := hp_lt hR.box; omega, by have := hD.lt; omega⟩
  have q2 : W1.heap[w.heap.size + 1]? = some (.cells #[.int .i64 2, .int .u64 n, .int .i64 k, v1, v2] 44 (0, 0)) := by
    rw [hW1]
    have := heap_alloc_new (w.alloc (.cells #[.pointer (some ⟨R, 0, none⟩), .pointer (some ⟨D, 0, none⟩)] 77)) (.cells #[.int .i64 2, .int .u64 n, .int .i64 k, v1, v2] 44)
    simpa using this
  have hsz2 : w.heap.size + 1 ≠ R ∧ w.heap.size + 1 ≠ D := ⟨by have := hp_lt hR.box; omega, by have := hD.lt; omega⟩
  clear hR hD
  have HH : Hid (Kp w W1 ∧ W1.heap[w.heap.size]? = some (.cells #[.pointer (some ⟨R, 0, none⟩), .pointer (some ⟨D, 0, none⟩)] 77 (0, 0)) ∧ W1.heap[w.heap.size + 1]? = some (.cells #[.int .i64 2, .int .u64 n, .int .i64 k, v1, v2] 44 (0, 0)) ∧ (w.heap.size ≠ R ∧ w.heap.size ≠ D) ∧ w.heap.size + 1 ≠ R ∧ w.heap.size + 1 ≠ D) := ⟨k1, q1, q2, hsz, hsz2⟩
  clear k1 q1 q2 hsz hsz2
  have hlt := s.num_lt 2 H.out.1.bytes.2.2.1
  simp only [Nat.reduceMul, Nat.reducePow] at hlt
  have hwr : IntKind.u64.wrap (s.num 2 : Int) = (s.num 2 : Nat) := by rw [IntKind.wrap_u64]; omega
  go_enter Try.func40, Try.ntmps40
  go_wp2_with fail
  go_at_call 62
  rw [← hW1]
  clear hW1
  refine (m16_any W1 R a ca s (H.out.1.kp HH.out.1)).mono ?_
  rintro r W2 ⟨rfl, t1, t2⟩
  have M1 := stp_one HH.out.1 H.out.2 H.out.1 t1 t2
  have e1 := t2.heap HH.out.2.1 HH.out.2.2.2.1.1
  have e2 := t2.heap HH.out.2.2.1 HH.out.2.2.2.2.1
  have p1 : W2.cell? ⟨w.heap.size, 1, none⟩ = some (.pointer (some ⟨D, 0, none⟩)) := by rw [(cells_at e1 1).1]; rfl
  have p2 : W2.cell? ⟨w.heap.size + 1, 2, none⟩ = some (.int .i64 k) := by rw [(cells_at e2 2).1]; rfl
  have HM : Hid (IsRS W2 R a ca _ ∧ IsD W2 D b cb s ∧ Chg w W2 (fun k => k = R ∨ k = D)) := M1
  clear M1 t1 t2 HH H e1 e2
  go_wp2_with fail
  go_at_call 74
  refine (dnum_any W2 D b cb s 2 (by omega) HM.out.2.1).mono ?_
  rintro r W3 ⟨rfl, t1, t2⟩
  have M2 : Hid (IsRS W3 R a ca _ ∧ IsD W3 D b cb _ ∧ Chg w W3 (fun k => k = R ∨ k = D)) := stp_two HM.out t1 t2
  clear t1 t2 HM p1 p2
  go_wp2
  go_ret
  exact ⟨rfl, M2.out⟩
set_option maxHeartbeats 1000000 in
set_option maxRecDepth 10000 in
theorem reads_n3 (w : World) (R D B : Nat) (a b : Option Addr) (ca cb : Nat) (s : RS) (n k : Int) (v1 v2 : Value) (hR : IsRS w R a ca s) (hD : IsD w D b cb s) :
    Calls Try.prog 40 #[.agg #[.pointer (some ⟨R, 0, none⟩), .pointer (some ⟨D, 0, none⟩)], .agg #[.int .i64 3, .int .u64 n, .int .i64 k, v1, v2], .pointer (some ⟨B, 0, none⟩)] w fun r w' => Stp w w' R D a b ca cb (s.take 4).2 r := by
  have H : Hid (IsRS w R a ca s ∧ IsD w D b cb s) := ⟨hR, hD⟩
  obtain ⟨W1, hW1⟩ : ∃ W1, W1 = (w.alloc (.cells #[.pointer (some ⟨R, 0, none⟩), .pointer (some ⟨D, 0, none⟩)] 77)).alloc (.cells #[.int .i64 3, .int .u64 n, .int .i64 k, v1, v2] 44) := ⟨_, rfl⟩
  have k1 : Kp w W1 := by rw [hW1]; exact (Kp.al _ _).trans (Kp.al _ _)
  have q1 : W1.heap[w.heap.size]? = some (.cells #[.pointer (some ⟨R, 0, none⟩), .pointer (some ⟨D, 0, none⟩)] 77 (0, 0)) := by rw [hW1]; exact Kp.heap (Kp.al _ _) (heap_alloc_new w _)
  have hsz : w.heap.size ≠ R ∧ w.heap.size ≠ D := ⟨by have := hp_lt hR.box; omega, by have := hD.lt; omega⟩
  have q2 : W1.heap[w.heap.size + 1]? = some (.cells #[.int .i64 3, .int .u64 n, .int .i64 k, v1, v2] 44 (0, 0)) := by
    rw [hW1]
    have := heap_alloc_new (w.alloc (.cells #[.pointer (some ⟨R, 0, none⟩), .pointer (some ⟨D, 0, none⟩)] 77)) (.cells #[.int .i64 3, .int .u64 n, .int .i64 k, v1, v2] 44)
    simpa using this
  have hsz2 : w.heap.size + 1 ≠ R ∧ w.heap.size + 1 ≠ D := ⟨by have := hp_lt hR.box; omega, by have := hD.lt; omega⟩
  clear hR hD
  have HH : Hid (Kp w W1 ∧ W1.heap[w.heap.size]? = some (.cells #[.pointer (some ⟨R, 0, none⟩), .pointer (some ⟨D, 0, none⟩)] 77 (0, 0)) ∧ W1.heap[w.heap.size + 1]? = some (.cells #[.int .i64 3, .int .u64 n, .int .i64 k, v1, v2] 44 (0, 0)) ∧ (w.heap.size ≠ R ∧ w.heap.size ≠ D) ∧ w.heap.size + 1 ≠ R ∧ w.heap.size + 1 ≠ D) := ⟨k1, q1, q2, hsz, hsz2⟩
  clear k1 q1 q2 hsz hsz2
  have hlt := s.num_lt 4 H.out.1.bytes.2.2.1
  simp only [Nat.reduceMul, Nat.reducePow] at hlt
  have hwr : IntKind.u64.wrap (s.num 4 : Int) = (s.num 4 : Nat) := by rw [IntKind.wrap_u64]; omega
  go_enter Try.func40, Try.ntmps40
  go_wp2_with fail
  go_at_call 43
  rw [← hW1]
  clear hW1
  refine (m32_any W1 R a ca s (H.out.1.kp HH.out.1)).mono ?_
  rintro r W2 ⟨rfl, t1, t2⟩
  have M1 := stp_one HH.out.1 H.out.2 H.out.1 t1 t2
  have e1 := t2.heap HH.out.2.1 HH.out.2.2.2.1.1
  have e2 := t2.heap HH.out.2.2.1 HH.out.2.2.2.2.1
  have p1 : W2.cell? ⟨w.heap.size, 1, none⟩ = some (.pointer (some ⟨D, 0, none⟩)) := by rw [(cells_at e1 1).1]; rfl
  have p2 : W2.cell? ⟨w.heap.size + 1, 2, none⟩ = some (.int .i64 k) := by rw [(cells_at e2 2).1]; rfl
  have HM : Hid (IsRS W2 R a ca _ ∧ IsD W2 D b cb s ∧ Chg w W2 (fun k => k = R ∨ k = D)) := M1
  clear M1 t1 t2 HH H e1 e2
  go_wp2_with fail
  go_at_call 74
  refine (dnum_any W2 D b cb s 4 (by omega) HM.out.2.1).mono ?_
  rintro r W3 ⟨rfl, t1, t2⟩
  have M2 : Hid (IsRS W3 R a ca _ ∧ IsD W3 D b cb _ ∧ Chg w W3 (fun k => k = R ∨ k = D)) := stp_two HM.out t1 t2
  clear t1 t2 HM p1 p2
  go_wp2
  go_ret
  exact ⟨rfl, M2.out⟩
set_option maxHeartbeats 1000000 in
set_option maxRecDepth 10000 in
theorem reads_n4 (w : World) (R D B : Nat) (a b : Option Addr) (ca cb : Nat) (s : RS) (n k : Int) (v1 v2 : Value) (hR : IsRS w R a ca s) (hD : IsD w D b cb s) :
    Calls Try.prog 40 #[.agg #[.pointer (some ⟨R, 0, none⟩), .pointer (some ⟨D, 0, none⟩)], .agg #[.int .i64 4, .int .u64 n, .int .i64 k, v1, v2], .pointer (some ⟨B, 0, none⟩)] w fun r w' => Stp w w' R D a b ca cb (s.take 8).2 r := by
  have H : Hid (IsRS w R a ca s ∧ IsD w D b cb s) := ⟨hR, hD⟩
  obtain ⟨W1, hW1⟩ : ∃ W1, W1 = (w.alloc (.cells #[.pointer (some ⟨R, 0, none⟩), .pointer (some ⟨D, 0, none⟩)] 77)).alloc (.cells #[.int .i64 4, .int .u64 n, .int .i64 k, v1, v2] 44) := ⟨_, rfl⟩
  have k1 : Kp w W1 := by rw [hW1]; exact (Kp.al _ _).trans (Kp.al _ _)
  have q1 : W1.heap[w.heap.size]? = some (.cells #[.pointer (some ⟨R, 0, none⟩), .pointer (some ⟨D, 0, none⟩)] 77 (0, 0)) := by rw [hW1]; exact Kp.heap (Kp.al _ _) (heap_alloc_new w _)
  have hsz : w.heap.size ≠ R ∧ w.heap.size ≠ D := ⟨by have := hp_lt hR.box; omega, by have := hD.lt; omega⟩
  have q2 : W1.heap[w.heap.size + 1]? = some (.cells #[.int .i64 4, .int .u64 n, .int .i64 k, v1, v2] 44 (0, 0)) := by
    rw [hW1]
    have := heap_alloc_new (w.alloc (.cells #[.pointer (some ⟨R, 0, none⟩), .pointer (some ⟨D, 0, none⟩)] 77)) (.cells #[.int .i64 4, .int .u64 n, .int .i64 k, v1, v2] 44)
    simpa using this
  have hsz2 : w.heap.size + 1 ≠ R ∧ w.heap.size + 1 ≠ D := ⟨by have := hp_lt hR.box; omega, by have := hD.lt; omega⟩
  clear hR hD
  have HH : Hid (Kp w W1 ∧ W1.heap[w.heap.size]? = some (.cells #[.pointer (some ⟨R, 0, none⟩), .pointer (some ⟨D, 0, none⟩)] 77 (0, 0)) ∧ W1.heap[w.heap.size + 1]? = some (.cells #[.int .i64 4, .int .u64 n, .int .i64 k, v1, v2] 44 (0, 0)) ∧ (w.heap.size ≠ R ∧ w.heap.size ≠ D) ∧ w.heap.size + 1 ≠ R ∧ w.heap.size + 1 ≠ D) := ⟨k1, q1, q2, hsz, hsz2⟩
  clear k1 q1 q2 hsz hsz2
  have hlt := s.num_lt 8 H.out.1.bytes.2.2.1
  simp only [Nat.reduceMul, Nat.reducePow] at hlt
  have hwr : IntKind.u64.wrap (s.num 8 : Int) = (s.num 8 : Nat) := by rw [IntKind.wrap_u64]; omega
  go_enter Try.func40, Try.ntmps40
  go_wp2_with fail
  go_at_call 26
  rw [← hW1]
  clear hW1
  refine (m64_any W1 R a ca s (H.out.1.kp HH.out.1)).mono ?_
  rintro r W2 ⟨rfl, t1, t2⟩
  have M1 := stp_one HH.out.1 H.out.2 H.out.1 t1 t2
  have e1 := t2.heap HH.out.2.1 HH.out.2.2.2.1.1
  have e2 := t2.heap HH.out.2.2.1 HH.out.2.2.2.2.1
  have p1 : W2.cell? ⟨w.heap.size, 1, none⟩ = some (.pointer (some ⟨D, 0, none⟩)) := by rw [(cells_at e1 1).1]; rfl
  have p2 : W2.cell? ⟨w.heap.size + 1, 2, none⟩ = some (.int .i64 k) := by rw [(cells_at e2 2).1]; rfl
  have HM : Hid (IsRS W2 R a ca _ ∧ IsD W2 D b cb s ∧ Chg w W2 (fun k => k = R ∨ k = D)) := M1
  clear M1 t1 t2 HH H e1 e2
  go_wp2_with fail
  go_at_call 74
  refine (dnum_any W2 D b cb s 8 (by omega) HM.out.2.1).mono ?_
  rintro r W3 ⟨rfl, t1, t2⟩
  have M2 : Hid (IsRS W3 R a ca _ ∧ IsD W3 D b cb _ ∧ Chg w W3 (fun k => k = R ∨ k = D)) := stp_two HM.out t1 t2
  clear t1 t2 HM p1 p2
  go_wp2
  go_ret
  exact ⟨rfl, M2.out⟩
end Go.Proofs.Ytfcpkcbiinbmiaa
