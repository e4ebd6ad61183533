import Derived.Test.YtfcpkcbiinbmiaaFf
namespace Go.Proofs.Ytfcpkcbiinbmiaa
open Go.ChangeShapes Go.WideShapes Go.ChangeAt Go.RowKit
set_option linter.unusedVariables false
set_option maxHeartbeats 1000000 in
set_option maxRecDepth 10000 in
theorem reads_text (w : World) (R D B : Nat) (a b : Option Addr) (ca cb : Nat) (s : RS) (n k : Int) (v1 v2 : Value) (hk : k ≤ 9223372036854775807) (hR : IsRS w R a ca s) (hD : IsD w D b cb s) :
    Calls Try.prog 40 #[.agg #[.pointer (some ⟨R, 0, none⟩), .pointer (some ⟨D, 0, none⟩)], .agg #[.int .i64 6, .int .u64 n, .int .i64 k, v1, v2], .pointer (some ⟨B, 0, none⟩)] w fun r w' => Stp w w' R D a b ca cb (s.text k).2 r := by
  have H : Hid (IsRS w R a ca s ∧ IsD w D b cb s) := ⟨hR, hD⟩
  obtain ⟨W1, hW1⟩ : ∃ W1, W1 = (w.alloc (.cells #[.pointer (some ⟨R, 0, none⟩), .pointer (some ⟨D, 0, none⟩)] 77)).alloc (.cells #[.int .i64 6, .int .u64 n, .int .i64 k, v1, v2] 44) := ⟨_, rfl⟩
  have k1 : Kp w W1 := by rw [hW1]; exact (Kp.al _ _).trans (Kp.al _ _)
  have q1 : W1.heap[w.heap.size]? = some (.cells #[.pointer (some ⟨R, 0, none⟩), .pointer (some ⟨D, 0, none⟩)] 77 (0, 0)) := by rw [hW1]; exact Kp.heap (Kp.al _ _) (heap_alloc_new w _)
  have hsz : w.heap.size ≠ R ∧ w.heap.size ≠ D := ⟨by have := hp_lt hR.box; omega, by have := hD.lt; omega⟩
  have q2 : W1.heap[w.heap.size + 1]? = some (.cells #[.int .i64 6, .int .u64 n, .int .i64 k, v1, v2] 44 (0, 0)) := by
    rw [hW1]
    have := heap_alloc_new (w.alloc (.cells #[.pointer (some ⟨R, 0, none⟩), .pointer (some ⟨D, 0, none⟩)] 77)) (.cells #[.int .i64 6, .int .u64 n, .int .i64 k, v1, v2] 44)
    simpa using this
  have hsz2 : w.heap.size + 1 ≠ R ∧ w.heap.size + 1 ≠ D := ⟨by have := hp_lt hR.box; omega, by have := hD.lt; omega⟩
  clear hR hD
  have HH : Hid (Kp w W1 ∧ W1.heap[w.heap.size]? = some (.cells #[.pointer (some ⟨R, 0, none⟩), .pointer (some ⟨D, 0, none⟩)] 77 (0, 0)) ∧ W1.heap[w.heap.size + 1]? = some (.cells #[.int .i64 6, .int .u64 n, .int .i64 k, v1, v2] 44 (0, 0)) ∧ (w.heap.size ≠ R ∧ w.heap.size ≠ D) ∧ w.heap.size + 1 ≠ R ∧ w.heap.size + 1 ≠ D) := ⟨k1, q1, q2, hsz, hsz2⟩
  clear k1 q1 q2 hsz hsz2
  go_enter Try.func40, Try.ntmps40
  go_wp2_with fail
  go_at_call 21
  rw [← hW1]
  clear hW1
  refine (text_any W1 R a ca s k hk (H.out.1.kp HH.out.1)).mono ?_
  rintro r W2 ⟨rfl, t1, t2⟩
  have M1 := stp_one HH.out.1 H.out.2 H.out.1 t1 t2
  have e1 := t2.heap HH.out.2.1 HH.out.2.2.2.1.1
  have e2 := t2.heap HH.out.2.2.1 HH.out.2.2.2.2.1
  have p1 : W2.cell? ⟨w.heap.size, 1, none⟩ = some (.pointer (some ⟨D, 0, none⟩)) := by rw [(cells_at e1 1).1]; rfl
  have p2 : W2.cell? ⟨w.heap.size + 1, 2, none⟩ = some (.int .i64 k) := by rw [(cells_at e2 2).1]; rfl
  have HM : Hid (IsRS W2 R a ca _ ∧ IsD W2 D b cb s ∧ Chg w W2 (fun k => k = R ∨ k = D)) := M1
  clear M1 t1 t2 HH H e1 e2
  go_wp2_with fail
  go_at_call 78
  refine (dtext_any W2 D b cb s k hk HM.out.2.1).mono ?_
  rintro r W3 ⟨rfl, t1, t2⟩
  have M2 : Hid (IsRS W3 R a ca _ ∧ IsD W3 D b cb _ ∧ Chg w W3 (fun k => k = R ∨ k = D)) := stp_two HM.out t1 t2
  clear t1 t2 HM p1 p2
  go_wp2
  go_ret
  exact ⟨rfl, M2.out⟩
set_option maxHeartbeats 1000000 in
set_option maxRecDepth 10000 in
theorem reads_pad (w : World) (R D B : Nat) (a b : Option Addr) (ca cb : Nat) (s : RS) (n k : Int) (v1 v2 : Value) (hR : IsRS w R a ca s) (hD : IsD w D b cb s) :
    Calls Try.prog 40 #[.agg #[.pointer (some ⟨R, 0, none⟩), .pointer (some ⟨D, 0, none⟩)], .agg #[.int .i64 7, .int .u64 n, .int .i64 k, v1, v2], .pointer (some ⟨B, 0, none⟩)] w fun r w' => Stp w w' R D a b ca cb (s.pad k) r := by
  have H : Hid (IsRS w R a ca s ∧ IsD w D b cb s) := ⟨hR, hD⟩
  obtain ⟨W1, hW1⟩ : ∃ W1, W1 = (w.alloc (.cells #[.pointer (some ⟨R, 0, none⟩), .pointer (some ⟨D, 0, none⟩)] 77)).alloc (.cells #[.int .i64 7, .int .u64 n, .int .i64 k, v1, v2] 44) := ⟨_, rfl⟩
  have k1 : Kp w W1 := by rw [hW1]; exact (Kp.al _ _).trans (Kp.al _ _)
  have q1 : W1.heap[w.heap.size]? = some (.cells #[.pointer (some ⟨R, 0, none⟩), .pointer (some ⟨D, 0, none⟩)] 77 (0, 0)) := by rw [hW1]; exact Kp.heap (Kp.al _ _) (heap_alloc_new w _)
  have hsz : w.heap.size ≠ R ∧ w.heap.size ≠ D := ⟨by have := hp_lt hR.box; omega, by have := hD.lt; omega⟩
  have q2 : W1.heap[w.heap.size + 1]? = some (.cells #[.int .i64 7, .int .u64 n, .int .i64 k, v1, v2] 44 (0, 0)) := by
    rw [hW1]
    have := heap_alloc_new (w.alloc (.cells #[.pointer (some ⟨R, 0, none⟩), .pointer (some ⟨D, 0, none⟩)] 77)) (.cells #[.int .i64 7, .int .u64 n, .int .i64 k, v1, v2] 44)
    simpa using this
  have hsz2 : w.heap.size + 1 ≠ R ∧ w.heap.size + 1 ≠ D := ⟨by have := hp_lt hR.box; omega, by have := hD.lt; omega⟩
  clear hR hD
  have HH : Hid (Kp w W1 ∧ W1.heap[w.heap.size]? = some (.cells #[.pointer (some ⟨R, 0, none⟩), .pointer (some ⟨D, 0, none⟩)] 77 (0, 0)) ∧ W1.heap[w.heap.size + 1]? = some (.cells #[.int .i64 7, .int .u64 n, .int .i64 k, v1, v2] 44 (0, 0)) ∧ (w.heap.size ≠ R ∧ w.heap.size ≠ D) ∧ w.heap.size + 1 ≠ R ∧ w.heap.size + 1 ≠ D) := ⟨k1, q1, q2, hsz, hsz2⟩
  clear k1 q1 q2 hsz hsz2
  go_enter Try.func40, Try.ntmps40
  go_wp2_with fail
  go_at_call 22
  rw [← hW1]
  clear hW1
  refine (rpad_any W1 R a ca s k (H.out.1.kp HH.out.1)).mono ?_
  rintro r W2 ⟨rfl, t1, t2⟩
  have M1 := stp_one HH.out.1 H.out.2 H.out.1 t1 t2
  have e1 := t2.heap HH.out.2.1 HH.out.2.2.2.1.1
  have e2 := t2.heap HH.out.2.2.1 HH.out.2.2.2.2.1
  have p1 : W2.cell? ⟨w.heap.size, 1, none⟩ = some (.pointer (some ⟨D, 0, none⟩)) := by rw [(cells_at e1 1).1]; rfl
  have p2 : W2.cell? ⟨w.heap.size + 1, 2, none⟩ = some (.int .i64 k) := by rw [(cells_at e2 2).1]; rfl
  have HM : Hid (IsRS W2 R a ca _ ∧ IsD W2 D b cb s ∧ Chg w W2 (fun k => k = R ∨ k = D)) := M1
  clear M1 t1 t2 HH H e1 e2
  go_wp2_with fail
  go_at_call 79
  refine (dpad_any W2 D b cb s k HM.out.2.1).mono ?_
  rintro r W3 ⟨rfl, t1, t2⟩
  have M2 : Hid (IsRS W3 R a ca _ ∧ IsD W3 D b cb _ ∧ Chg w W3 (fun k => k = R ∨ k = D)) := stp_two HM.out t1 t2
  clear t1 t2 HM p1 p2
  go_wp2
  go_ret
  exact ⟨rfl, M2.out⟩
set_option maxHeartbeats 1000000 in
set_option maxRecDepth 10000 in
theorem reads_end (w : World) (R D B : Nat) (a b : Option Addr) (ca cb : Nat) (s : RS) (n k : Int) (v1 v2 : Value) (hR : IsRS w R a ca s) (hD : IsD w D b cb s) :
    Calls Try.prog 40 #[.agg #[.pointer (some ⟨R, 0, none⟩), .pointer (some ⟨D, 0, none⟩)], .agg #[.int .i64 9, .int .u64 n, .int .i64 k, v1, v2], .pointer (some ⟨B, 0, none⟩)] w fun r w' => Stp w w' R D a b ca cb s.end r := by
  have H : Hid (IsRS w R a ca s ∧ IsD w D b cb s) := ⟨hR, hD⟩
  obtain ⟨W1, hW1⟩ : ∃ W1, W1 = (w.alloc (.cells #[.pointer (some ⟨R, 0, none⟩), .pointer (some ⟨D, 0, none⟩)] 77)).alloc (.cells #[.int .i64 9, .int .u64 n, .int .i64 k, v1, v2] 44) := ⟨_, rfl⟩
  have k1 : Kp w W1 := by rw [hW1]; exact (Kp.al _ _).trans (Kp.al _ _)
  have q1 : W1.heap[w.heap.size]? = some (.cells #[.pointer (some ⟨R, 0, none⟩), .pointer (some ⟨D, 0, none⟩)] 77 (0, 0)) := by rw [hW1]; exact Kp.heap (Kp.al _ _) (heap_alloc_new w _)
  have hsz : w.heap.size ≠ R ∧ w.heap.size ≠ D := ⟨by have := hp_lt hR.box; omega, by have := hD.lt; omega⟩
  have q2 : W1.heap[w.heap.size + 1]? = some (.cells #[.int .i64 9, .int .u64 n, .int .i64 k, v1, v2] 44 (0, 0)) := by
    rw [hW1]
    have := heap_alloc_new (w.alloc (.cells #[.pointer (some ⟨R, 0, none⟩), .pointer (some ⟨D, 0, none⟩)] 77)) (.cells #[.int .i64 9, .int .u64 n, .int .i64 k, v1, v2] 44)
    simpa using this
  have hsz2 : w.heap.size + 1 ≠ R ∧ w.heap.size + 1 ≠ D := ⟨by have := hp_lt hR.box; omega, by have := hD.lt; omega⟩
  clear hR hD
  have HH : Hid (Kp w W1 ∧ W1.heap[w.heap.size]? = some (.cells #[.pointer (some ⟨R, 0, none⟩), .pointer (some ⟨D, 0, none⟩)] 77 (0, 0)) ∧ W1.heap[w.heap.size + 1]? = some (.cells #[.int .i64 9, .int .u64 n, .int .i64 k, v1, v2] 44 (0, 0)) ∧ (w.heap.size ≠ R ∧ w.heap.size ≠ D) ∧ w.heap.size + 1 ≠ R ∧ w.heap.size + 1 ≠ D) := ⟨k1, q1, q2, hsz, hsz2⟩
  clear k1 q1 q2 hsz hsz2
  go_enter Try.func40, Try.ntmps40
  go_wp2_with fail
  go_at_call 24
  rw [← hW1]
  clear hW1
  refine (end_any W1 R a ca s (H.out.1.kp HH.out.1)).mono ?_
  rintro r W2 ⟨rfl, t1, t2⟩
  have M1 := stp_one HH.out.1 H.out.2 H.out.1 t1 t2
  have e1 := t2.heap HH.out.2.1 HH.out.2.2.2.1.1
  have e2 := t2.heap HH.out.2.2.1 HH.out.2.2.2.2.1
  have p1 : W2.cell? ⟨w.heap.size, 1, none⟩ = some (.pointer (some ⟨D, 0, none⟩)) := by rw [(cells_at e1 1).1]; rfl
  have p2 : W2.cell? ⟨w.heap.size + 1, 2, none⟩ = some (.int .i64 k) := by rw [(cells_at e2 2).1]; rfl
  have HM : Hid (IsRS W2 R a ca _ ∧ IsD W2 D b cb s ∧ Chg w W2 (fun k => k = R ∨ k = D)) := M1
  clear M1 t1 t2 HH H e1 e2
  go_wp2_with fail
  go_at_call 80
  refine (dend_any W2 D b cb s HM.out.2.1).mono ?_
  rintro r W3 ⟨rfl, t1, t2⟩
  have M2 : Hid (IsRS W3 R a ca _ ∧ IsD W3 D b cb _ ∧ Chg w W3 (fun k => k = R ∨ k = D)) := stp_two HM.out t1 t2
  clear t1 t2 HM p1 p2
  go_wp2
  go_ret
  exact ⟨rfl, M2.out⟩
set_option maxHeartbeats 1000000 in
set_option maxRecDepth 10000 in
theorem reads_fail (w : World) (R D B : Nat) (a b : Option Addr) (ca cb : Nat) (s : RS) (n k : Int) (v1 v2 : Value) (hR : IsRS w R a ca s) (hD : IsD w D b cb s) :
    Calls Try.prog 40 #[.agg #[.pointer (some ⟨R, 0, none⟩), .pointer (some ⟨D, 0, none⟩)], .agg #[.int .i64 11, .int .u64 n, .int .i64 k, v1, v2], .pointer (some ⟨B, 0, none⟩)] w fun r w' => Stp w w' R D a b ca cb (s.fail k s.at_) r := by
  have H : Hid (IsRS w R a ca s ∧ IsD w D b cb s) := ⟨hR, hD⟩
  obtain ⟨W1, hW1⟩ : ∃ W1, W1 = (w.alloc (.cells #[.pointer (some ⟨R, 0, none⟩), .pointer (some ⟨D, 0, none⟩)] 77)).alloc (.cells #[.int .i64 11, .int .u64 n, .int .i64 k, v1, v2] 44) := ⟨_, rfl⟩
  have k1 : Kp w W1 := by rw [hW1]; exact (Kp.al _ _).trans (Kp.al _ _)
  have q1 : W1.heap[w.heap.size]? = some (.cells #[.pointer (some ⟨R, 0, none⟩), .pointer (some ⟨D, 0, none⟩)] 77 (0, 0)) := by rw [hW1]; exact Kp.heap (Kp.al _ _) (heap_alloc_new w _)
  have hsz : w.heap.size ≠ R ∧ w.heap.size ≠ D := ⟨by have := hp_lt hR.box; omega, by have := hD.lt; omega⟩
  have q2 : W1.heap[w.heap.size + 1]? = some (.cells #[.int .i64 11, .int .u64 n, .int .i64 k, v1, v2] 44 (0, 0)) := by
    rw [hW1]
    have := heap_alloc_new (w.alloc (.cells #[.pointer (some ⟨R, 0, none⟩), .pointer (some ⟨D, 0, none⟩)] 77)) (.cells #[.int .i64 11, .int .u64 n, .int .i64 k, v1, v2] 44)
    simpa using this
  have hsz2 : w.heap.size + 1 ≠ R ∧ w.heap.size + 1 ≠ D := ⟨by have := hp_lt hR.box; omega, by have := hD.lt; omega⟩
  clear hR hD
  have HH : Hid (Kp w W1 ∧ W1.heap[w.heap.size]? = some (.cells #[.pointer (some ⟨R, 0, none⟩), .pointer (some ⟨D, 0, none⟩)] 77 (0, 0)) ∧ W1.heap[w.heap.size + 1]? = some (.cells #[.int .i64 11, .int .u64 n, .int .i64 k, v1, v2] 44 (0, 0)) ∧ (w.heap.size ≠ R ∧ w.heap.size ≠ D) ∧ w.heap.size + 1 ≠ R ∧ w.heap.size + 1 ≠ D) := ⟨k1, q1, q2, hsz, hsz2⟩
  clear k1 q1 q2 hsz hsz2
  go_enter Try.func40, Try.ntmps40
  go_wp2_with fail
  go_at_call 25
  rw [← hW1]
  clear hW1
  refine (rfail_any W1 R a ca s k (H.out.1.kp HH.out.1)).mono ?_
  rintro r W2 ⟨rfl, t1, t2⟩
  have M1 := stp_one HH.out.1 H.out.2 H.out.1 t1 t2
  have e1 := t2.heap HH.out.2.1 HH.out.2.2.2.1.1
  have e2 := t2.heap HH.out.2.2.1 HH.out.2.2.2.2.1
  have p1 : W2.cell? ⟨w.heap.size, 1, none⟩ = some (.pointer (some ⟨D, 0, none⟩)) := by rw [(cells_at e1 1).1]; rfl
  have p2 : W2.cell? ⟨w.heap.size + 1, 2, none⟩ = some (.int .i64 k) := by rw [(cells_at e2 2).1]; rfl
  have HM : Hid (IsRS W2 R a ca _ ∧ IsD W2 D b cb s ∧ Chg w W2 (fun k => k = R ∨ k = D)) := M1
  clear M1 t1 t2 HH H e1 e2
  go_wp2_with fail
  go_at_call 81
  refine (dFail_any W2 D b cb s k HM.out.2.1).mono ?_
  rintro r W3 ⟨rfl, t1, t2⟩
  have M2 : Hid (IsRS W3 R a ca _ ∧ IsD W3 D b cb _ ∧ Chg w W3 (fun k => k = R ∨ k = D)) := stp_two HM.out t1 t2
  clear t1 t2 HM p1 p2
  go_wp2
  go_ret
  exact ⟨rfl, M2.out⟩
set_option maxHeartbeats 1000000 in
set_option maxRecDepth 10000 in
theorem reads_none (w : World) (R D B : Nat) (a b : Option Addr) (ca cb : Nat) (s : RS) (n k : Int) (v1 v2 : Value) (kd : Int) (h1 : (kd == 1) = false) (h2 : (kd == 2) = false) (h3 : (kd == 3) = false) (h4 : (kd == 4) = false) (h5 : (kd == 5) = false) (h6 : (kd == 6) = false) (h7 : (kd == 7) = false) (h9 : (kd == 9) = false) (h11 : (kd == 11) = false) (hR : IsRS w R a ca s) (hD : IsD w D b cb s) :
    Calls Try.prog 40 #[.agg #[.pointer (some ⟨R, 0, none⟩), .pointer (some ⟨D, 0, none⟩)], .agg #[.int .i64 kd, .int .u64 n, .int .i64 k, v1, v2], .pointer (some ⟨B, 0, none⟩)] w fun r w' => Stp w w' R D a b ca cb s r := by
  have H : Hid (IsRS w R a ca s ∧ IsD w D b cb s) := ⟨hR, hD⟩
  obtain ⟨W1, hW1⟩ : ∃ W1, W1 = (w.alloc (.cells #[.pointer (some ⟨R, 0, none⟩), .pointer (some ⟨D, 0, none⟩)] 77)).alloc (.cells #[.int .i64 kd, .int .u64 n, .int .i64 k, v1, v2] 44) := ⟨_, rfl⟩
  have k1 : Kp w W1 := by rw [hW1]; exact (Kp.al _ _).trans (Kp.al _ _)
  have q1 : W1.heap[w.heap.size]? = some (.cells #[.pointer (some ⟨R, 0, none⟩), .pointer (some ⟨D, 0, none⟩)] 77 (0, 0)) := by rw [hW1]; exact Kp.heap (Kp.al _ _) (heap_alloc_new w _)
  have hsz : w.heap.size ≠ R ∧ w.heap.size ≠ D := ⟨by have := hp_lt hR.box; omega, by have := hD.lt; omega⟩
  have q2 : W1.heap[w.heap.size + 1]? = some (.cells #[.int .i64 kd, .int .u64 n, .int .i64 k, v1, v2] 44 (0, 0)) := by
    rw [hW1]
    have := heap_alloc_new (w.alloc (.cells #[.pointer (some ⟨R, 0, none⟩), .pointer (some ⟨D, 0, none⟩)] 77)) (.cells #[.int .i64 kd, .int .u64 n, .int .i64 k, v1, v2] 44)
    simpa using this
  have hsz2 : w.heap.size + 1 ≠ R ∧ w.heap.size + 1 ≠ D := ⟨by have := hp_lt hR.box; omega, by have := hD.lt; omega⟩
  clear hR hD
  have HH : Hid (Kp w W1 ∧ W1.heap[w.heap.size]? = some (.cells #[.pointer (some ⟨R, 0, none⟩), .pointer (some ⟨D, 0, none⟩)] 77 (0, 0)) ∧ W1.heap[w.heap.size + 1]? = some (.cells #[.int .i64 kd, .int .u64 n, .int .i64 k, v1, v2] 44 (0, 0)) ∧ (w.heap.size ≠ R ∧ w.heap.size ≠ D) ∧ w.heap.size + 1 ≠ R ∧ w.heap.size + 1 ≠ D) := ⟨k1, q1, q2, hsz, hsz2⟩
  clear k1 q1 q2 hsz hsz2
  go_enter Try.func40, Try.ntmps40
  go_wp2
  go_ret
  rw [← hW1]
  exact ⟨rfl, H.out.1.kp HH.out.1, H.out.2.kp HH.out.1, HH.out.1.any⟩
end Go.Proofs.Ytfcpkcbiinbmiaa
