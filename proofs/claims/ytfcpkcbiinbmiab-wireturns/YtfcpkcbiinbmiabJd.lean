import Derived.Test.YtfcpkcbiinbmiabJc
namespace Go.Proofs.Ytfcpkcbiinbmiab
open Go.ChangeShapes Go.WideShapes Go.ChangeAt Go.RowKit Go.ChangeMaps
set_option linter.unusedVariables false
section
variable {w0 w : World} {σ : Nat → Nat × Nat} {K B M D X n : Nat} {v vb vo pl : Value} {s : WS} {P : List Nat} {sz dn : Int} {es hs : List En}
set_option maxHeartbeats 4000000 in
set_option maxRecDepth 10000 in
theorem st_n1 (h : MW w0 w σ K B M D v n vb vo s es [] hs) (hB : MB w σ X B D pl P sz dn) (o : Nat) (ho : ∀ e, e ∈ hs → e.o < o) (hn : n ≤ 500000) (hops : s.ops.length ≤ 500000) (N : Nat) (hN : N < 18446744073709551616) (kk : Int) (hk1 : -9223372036854775808 ≤ kk) (hk2 : kk ≤ 9223372036854775807) (ba : Option Addr) (bl bc : Nat) (str : ByteArray) :
    Calls Try.prog 12 #[.pointer (some ⟨X, 0, none⟩), .agg #[.int .i64 1, .int .u64 (N : Int), .int .i64 kk, .slice ba bl bc, .string str], .pointer (some ⟨K, 0, none⟩)] w fun r w' => r = .returned (.bool true) ∧ St w0 w w' σ K B M D X n s P sz dn es hs o := by
  obtain ⟨W1, hW1⟩ : ∃ W1, W1 = w.alloc (.cells #[.int .i64 1, .int .u64 (N : Int), .int .i64 kk, .slice ba bl bc, .string str] 51) := ⟨_, rfl⟩
  have k1 : Kp w W1 := by rw [hW1]; exact Kp.al _ _
  have tb : W1.heap[w.heap.size]? = some (.cells #[.int .i64 1, .int .u64 (N : Int), .int .i64 kk, .slice ba bl bc, .string str] 51 (0, 0)) := by rw [hW1]; exact heap_alloc_new w _
  have hT0 : σ w.heap.size = (0, 0) := h.fz _ (Nat.le_refl _)
  have hTz : w0.heap.size ≤ w.heap.size := h.bel.size
  have hB1 : MB W1 σ X B D pl P sz dn := hB.mv (c := fun _ => False) ⟨k1, Ext.refl _ _⟩ (fun x => x)
  have h1 := h.kp k1
  have hTl := hp_lt tb
  obtain ⟨x0, x1, xr⟩ := hB1.cells
  clear xr
  have t0 : W1.cell? ⟨w.heap.size, 0, none⟩ = some (.int .i64 1) := by rw [(cells_at tb _).1]; rfl
  have t1 : W1.cell? ⟨w.heap.size, 1, none⟩ = some (.int .u64 (N : Int)) := by rw [(cells_at tb _).1]; rfl
  have t2 : W1.cell? ⟨w.heap.size, 2, none⟩ = some (.int .i64 kk) := by rw [(cells_at tb _).1]; rfl
  have t3 : W1.cell? ⟨w.heap.size, 3, none⟩ = some (.slice ba bl bc) := by rw [(cells_at tb _).1]; rfl
  have t4 : W1.cell? ⟨w.heap.size, 4, none⟩ = some (.string str) := by rw [(cells_at tb _).1]; rfl
  have hc1 : IntKind.u8.wrap (N : Int) = ((N % 256 : Nat) : Int) := by simp [IntKind.wrap, IntKind.bits, IntKind.signed]
  have hc2 : (N : Int).tmod 256 = ((N % 256 : Nat) : Int) := rfl
  have hc3 : IntKind.u64.wrap ((N % 256 : Nat) : Int) = ((N % 256 : Nat) : Int) := by simp [IntKind.wrap, IntKind.bits, IntKind.signed]; omega
  obtain ⟨q, hq⟩ : ∃ q, q = N % 256 := ⟨_, rfl⟩
  have hqb : q < 256 := by rw [hq]; exact Nat.mod_lt _ (by omega)
  rw [← hq] at hc1 hc2 hc3
  clear hq
  clear h hB
  go_enter Try.func12, Try.ntmps12
  go_upto_region 1 with fail
  rw [← hW1]
  clear hW1
  generalize w.heap.size = T at *
  have H1 : Hid (MW w0 W1 σ K B M D v n vb vo s es [] hs ∧ MB W1 σ X B D pl P sz dn ∧ (∀ e, e ∈ hs → e.o < o) ∧ Kp w W1) := ⟨h1, hB1, ho, k1⟩
  have A1 := pm8 h1.pw q hqb
  clear h1 hB1 tb ho k1
  go_wp2_with fail
  go_at_call 30
  refine A1.mono ?_
  clear A1
  rintro e W2 ⟨rfl, hE⟩
  obtain ⟨σ2, v2, n2, mv2, hn2, mh2⟩ := H1.out.1.go hE
  have nT : ¬ (σ T = (0, 1)) := by rw [hT0]; decide
  have r1 := mv2.ch.cell' nT t1
  have r2 := mv2.ch.cell' nT t2
  have r3 := mv2.ch.cell' nT t3
  have r4 := mv2.ch.cell' nT t4
  have A2 := vNumber mh2.vw q 1 (by omega) (by omega)
  have H2 : Hid (MH w0 W2 σ2 K B M D v2 n2 vb vo s (s.raw (le q 1)) es [] hs ∧ MB W2 σ2 X B D pl P sz dn ∧ n2 ≤ n + 1 ∧ Mv w σ W2 σ2 TS) := ⟨mh2, H1.out.2.1.mv mv2 (by decide), hn2, (Mv.kp H1.out.2.2.2).trans (mv2.mono ts1)⟩
  clear hE mv2 mh2 hn2 t0 t1 t2 t3 t4 x0 x1 H1
  go_wp2_with fail
  go_at_call 31
  refine A2.mono ?_
  clear A2 r1 r2 r3 r4
  rintro e W3 ⟨rfl, hE⟩
  obtain ⟨σ3, vb3, vo3, mv3, mw3⟩ := H2.out.1.go hE
  have HS : Hid (St w0 w W3 σ K B M D X n s P sz dn es hs o) := ⟨σ3, v2, n2, vb3, vo3, _, pl, P, [], mw3, H2.out.2.1.mv mv3 (by decide), by simp, by simp, by have := H2.out.2.2.1; omega, by rw [WS.raw_ops]; omega, by omega, H2.out.2.2.2.trans (mv3.mono ts2)⟩
  clear hE mv3 mw3 H2
  obtain ⟨L, ab, cb, hLb, dL, hLen⟩ := HS.out.ends
  have hLL : ((L : Int) == (L : Int)) = true := by simp
  go_upto_region 57 with fail
  go_quiet (first | (go_at_call 40; exact Calls.quiet_of_same (hLen _ (Kp.drewN _ _))) | fail)
  go_wp2
  go_ret
  exact ⟨by first | rfl | simp, HS.out.kp (Kp.drewN _ _)⟩
set_option maxHeartbeats 4000000 in
set_option maxRecDepth 10000 in
theorem st_n2 (h : MW w0 w σ K B M D v n vb vo s es [] hs) (hB : MB w σ X B D pl P sz dn) (o : Nat) (ho : ∀ e, e ∈ hs → e.o < o) (hn : n ≤ 500000) (hops : s.ops.length ≤ 500000) (N : Nat) (hN : N < 18446744073709551616) (kk : Int) (hk1 : -9223372036854775808 ≤ kk) (hk2 : kk ≤ 9223372036854775807) (ba : Option Addr) (bl bc : Nat) (str : ByteArray) :
    Calls Try.prog 12 #[.pointer (some ⟨X, 0, none⟩), .agg #[.int .i64 2, .int .u64 (N : Int), .int .i64 kk, .slice ba bl bc, .string str], .pointer (some ⟨K, 0, none⟩)] w fun r w' => r = .returned (.bool true) ∧ St w0 w w' σ K B M D X n s P sz dn es hs o := by
  obtain ⟨W1, hW1⟩ : ∃ W1, W1 = w.alloc (.cells #[.int .i64 2, .int .u64 (N : Int), .int .i64 kk, .slice ba bl bc, .string str] 51) := ⟨_, rfl⟩
  have k1 : Kp w W1 := by rw [hW1]; exact Kp.al _ _
  have tb : W1.heap[w.heap.size]? = some (.cells #[.int .i64 2, .int .u64 (N : Int), .int .i64 kk, .slice ba bl bc, .string str] 51 (0, 0)) := by rw [hW1]; exact heap_alloc_new w _
  have hT0 : σ w.heap.size = (0, 0) := h.fz _ (Nat.le_refl _)
  have hTz : w0.heap.size ≤ w.heap.size := h.bel.size
  have hB1 : MB W1 σ X B D pl P sz dn := hB.mv (c := fun _ => False) ⟨k1, Ext.refl _ _⟩ (fun x => x)
  have h1 := h.kp k1
  have hTl := hp_lt tb
  obtain ⟨x0, x1, xr⟩ := hB1.cells
  clear xr
  have t0 : W1.cell? ⟨w.heap.size, 0, none⟩ = some (.int .i64 2) := by rw [(cells_at tb _).1]; rfl
  have t1 : W1.cell? ⟨w.heap.size, 1, none⟩ = some (.int .u64 (N : Int)) := by rw [(cells_at tb _).1]; rfl
  have t2 : W1.cell? ⟨w.heap.size, 2, none⟩ = some (.int .i64 kk) := by rw [(cells_at tb _).1]; rfl
  have t3 : W1.cell? ⟨w.heap.size, 3, none⟩ = some (.slice ba bl bc) := by rw [(cells_at tb _).1]; rfl
  have t4 : W1.cell? ⟨w.heap.size, 4, none⟩ = some (.string str) := by rw [(cells_at tb _).1]; rfl
  have hc1 : IntKind.u16.wrap (N : Int) = ((N % 65536 : Nat) : Int) := by simp [IntKind.wrap, IntKind.bits, IntKind.signed]
  have hc2 : (N : Int).tmod 65536 = ((N % 65536 : Nat) : Int) := rfl
  have hc3 : IntKind.u64.wrap ((N % 65536 : Nat) : Int) = ((N % 65536 : Nat) : Int) := by simp [IntKind.wrap, IntKind.bits, IntKind.signed]; omega
  obtain ⟨q, hq⟩ : ∃ q, q = N % 65536 := ⟨_, rfl⟩
  have hqb : q < 65536 := by rw [hq]; exact Nat.mod_lt _ (by omega)
  rw [← hq] at hc1 hc2 hc3
  clear hq
  clear h hB
  go_enter Try.func12, Try.ntmps12
  go_upto_region 1 with fail
  rw [← hW1]
  clear hW1
  generalize w.heap.size = T at *
  have H1 : Hid (MW w0 W1 σ K B M D v n vb vo s es [] hs ∧ MB W1 σ X B D pl P sz dn ∧ (∀ e, e ∈ hs → e.o < o) ∧ Kp w W1) := ⟨h1, hB1, ho, k1⟩
  have A1 := pm16 h1.pw q hqb
  clear h1 hB1 tb ho k1
  go_wp2_with fail
  go_at_call 32
  refine A1.mono ?_
  clear A1
  rintro e W2 ⟨rfl, hE⟩
  obtain ⟨σ2, v2, n2, mv2, hn2, mh2⟩ := H1.out.1.go hE
  have nT : ¬ (σ T = (0, 1)) := by rw [hT0]; decide
  have r1 := mv2.ch.cell' nT t1
  have r2 := mv2.ch.cell' nT t2
  have r3 := mv2.ch.cell' nT t3
  have r4 := mv2.ch.cell' nT t4
  have A2 := vNumber mh2.vw q 2 (by omega) (by omega)
  have H2 : Hid (MH w0 W2 σ2 K B M D v2 n2 vb vo s (s.raw (le q 2)) es [] hs ∧ MB W2 σ2 X B D pl P sz dn ∧ n2 ≤ n + 1 ∧ Mv w σ W2 σ2 TS) := ⟨mh2, H1.out.2.1.mv mv2 (by decide), hn2, (Mv.kp H1.out.2.2.2).trans (mv2.mono ts1)⟩
  clear hE mv2 mh2 hn2 t0 t1 t2 t3 t4 x0 x1 H1
  go_wp2_with fail
  go_at_call 31
  refine A2.mono ?_
  clear A2 r1 r2 r3 r4
  rintro e W3 ⟨rfl, hE⟩
  obtain ⟨σ3, vb3, vo3, mv3, mw3⟩ := H2.out.1.go hE
  have HS : Hid (St w0 w W3 σ K B M D X n s P sz dn es hs o) := ⟨σ3, v2, n2, vb3, vo3, _, pl, P, [], mw3, H2.out.2.1.mv mv3 (by decide), by simp, by simp, by have := H2.out.2.2.1; omega, by rw [WS.raw_ops]; omega, by omega, H2.out.2.2.2.trans (mv3.mono ts2)⟩
  clear hE mv3 mw3 H2
  obtain ⟨L, ab, cb, hLb, dL, hLen⟩ := HS.out.ends
  have hLL : ((L : Int) == (L : Int)) = true := by simp
  go_upto_region 57 with fail
  go_quiet (first | (go_at_call 40; exact Calls.quiet_of_same (hLen _ (Kp.drewN _ _))) | fail)
  go_wp2
  go_ret
  exact ⟨by first | rfl | simp, HS.out.kp (Kp.drewN _ _)⟩
set_option maxHeartbeats 4000000 in
set_option maxRecDepth 10000 in
theorem st_n3 (h : MW w0 w σ K B M D v n vb vo s es [] hs) (hB : MB w σ X B D pl P sz dn) (o : Nat) (ho : ∀ e, e ∈ hs → e.o < o) (hn : n ≤ 500000) (hops : s.ops.length ≤ 500000) (N : Nat) (hN : N < 18446744073709551616) (kk : Int) (hk1 : -9223372036854775808 ≤ kk) (hk2 : kk ≤ 9223372036854775807) (ba : Option Addr) (bl bc : Nat) (str : ByteArray) :
    Calls Try.prog 12 #[.pointer (some ⟨X, 0, none⟩), .agg #[.int .i64 3, .int .u64 (N : Int), .int .i64 kk, .slice ba bl bc, .string str], .pointer (some ⟨K, 0, none⟩)] w fun r w' => r = .returned (.bool true) ∧ St w0 w w' σ K B M D X n s P sz dn es hs o := by
  obtain ⟨W1, hW1⟩ : ∃ W1, W1 = w.alloc (.cells #[.int .i64 3, .int .u64 (N : Int), .int .i64 kk, .slice ba bl bc, .string str] 51) := ⟨_, rfl⟩
  have k1 : Kp w W1 := by rw [hW1]; exact Kp.al _ _
  have tb : W1.heap[w.heap.size]? = some (.cells #[.int .i64 3, .int .u64 (N : Int), .int .i64 kk, .slice ba bl bc, .string str] 51 (0, 0)) := by rw [hW1]; exact heap_alloc_new w _
  have hT0 : σ w.heap.size = (0, 0) := h.fz _ (Nat.le_refl _)
  have hTz : w0.heap.size ≤ w.heap.size := h.bel.size
  have hB1 : MB W1 σ X B D pl P sz dn := hB.mv (c := fun _ => False) ⟨k1, Ext.refl _ _⟩ (fun x => x)
  have h1 := h.kp k1
  have hTl := hp_lt tb
  obtain ⟨x0, x1, xr⟩ := hB1.cells
  clear xr
  have t0 : W1.cell? ⟨w.heap.size, 0, none⟩ = some (.int .i64 3) := by rw [(cells_at tb _).1]; rfl
  have t1 : W1.cell? ⟨w.heap.size, 1, none⟩ = some (.int .u64 (N : Int)) := by rw [(cells_at tb _).1]; rfl
  have t2 : W1.cell? ⟨w.heap.size, 2, none⟩ = some (.int .i64 kk) := by rw [(cells_at tb _).1]; rfl
  have t3 : W1.cell? ⟨w.heap.size, 3, none⟩ = some (.slice ba bl bc) := by rw [(cells_at tb _).1]; rfl
  have t4 : W1.cell? ⟨w.heap.size, 4, none⟩ = some (.string str) := by rw [(cells_at tb _).1]; rfl
  have hc1 : IntKind.u32.wrap (N : Int) = ((N % 4294967296 : Nat) : Int) := by simp [IntKind.wrap, IntKind.bits, IntKind.signed]
  have hc2 : (N : Int).tmod 4294967296 = ((N % 4294967296 : Nat) : Int) := rfl
  have hc3 : IntKind.u64.wrap ((N % 4294967296 : Nat) : Int) = ((N % 4294967296 : Nat) : Int) := by simp [IntKind.wrap, IntKind.bits, IntKind.signed]; omega
  obtain ⟨q, hq⟩ : ∃ q, q = N % 4294967296 := ⟨_, rfl⟩
  have hqb : q < 4294967296 := by rw [hq]; exact Nat.mod_lt _ (by omega)
  rw [← hq] at hc1 hc2 hc3
  clear hq
  clear h hB
  go_enter Try.func12, Try.ntmps12
  go_upto_region 1 with fail
  rw [← hW1]
  clear hW1
  generalize w.heap.size = T at *
  have H1 : Hid (MW w0 W1 σ K B M D v n vb vo s es [] hs ∧ MB W1 σ X B D pl P sz dn ∧ (∀ e, e ∈ hs → e.o < o) ∧ Kp w W1) := ⟨h1, hB1, ho, k1⟩
  have A1 := pm32 h1.pw q hqb
  clear h1 hB1 tb ho k1
  go_wp2_with fail
  go_at_call 24
  refine A1.mono ?_
  clear A1
  rintro e W2 ⟨rfl, hE⟩
  obtain ⟨σ2, v2, n2, mv2, hn2, mh2⟩ := H1.out.1.go hE
  have nT : ¬ (σ T = (0, 1)) := by rw [hT0]; decide
  have r1 := mv2.ch.cell' nT t1
  have r2 := mv2.ch.cell' nT t2
  have r3 := mv2.ch.cell' nT t3
  have r4 := mv2.ch.cell' nT t4
  have A2 := vNumber mh2.vw q 4 (by omega) (by omega)
  have H2 : Hid (MH w0 W2 σ2 K B M D v2 n2 vb vo s (s.raw (le q 4)) es [] hs ∧ MB W2 σ2 X B D pl P sz dn ∧ n2 ≤ n + 1 ∧ Mv w σ W2 σ2 TS) := ⟨mh2, H1.out.2.1.mv mv2 (by decide), hn2, (Mv.kp H1.out.2.2.2).trans (mv2.mono ts1)⟩
  clear hE mv2 mh2 hn2 t0 t1 t2 t3 t4 x0 x1 H1
  go_wp2_with fail
  go_at_call 31
  refine A2.mono ?_
  clear A2 r1 r2 r3 r4
  rintro e W3 ⟨rfl, hE⟩
  obtain ⟨σ3, vb3, vo3, mv3, mw3⟩ := H2.out.1.go hE
  have HS : Hid (St w0 w W3 σ K B M D X n s P sz dn es hs o) := ⟨σ3, v2, n2, vb3, vo3, _, pl, P, [], mw3, H2.out.2.1.mv mv3 (by decide), by simp, by simp, by have := H2.out.2.2.1; omega, by rw [WS.raw_ops]; omega, by omega, H2.out.2.2.2.trans (mv3.mono ts2)⟩
  clear hE mv3 mw3 H2
  obtain ⟨L, ab, cb, hLb, dL, hLen⟩ := HS.out.ends
  have hLL : ((L : Int) == (L : Int)) = true := by simp
  go_upto_region 57 with fail
  go_quiet (first | (go_at_call 40; exact Calls.quiet_of_same (hLen _ (Kp.drewN _ _))) | fail)
  go_wp2
  go_ret
  exact ⟨by first | rfl | simp, HS.out.kp (Kp.drewN _ _)⟩
set_option maxHeartbeats 4000000 in
set_option maxRecDepth 10000 in
theorem st_n4 (h : MW w0 w σ K B M D v n vb vo s es [] hs) (hB : MB w σ X B D pl P sz dn) (o : Nat) (ho : ∀ e, e ∈ hs → e.o < o) (hn : n ≤ 500000) (hops : s.ops.length ≤ 500000) (N : Nat) (hN : N < 18446744073709551616) (kk : Int) (hk1 : -9223372036854775808 ≤ kk) (hk2 : kk ≤ 9223372036854775807) (ba : Option Addr) (bl bc : Nat) (str : ByteArray) :
    Calls Try.prog 12 #[.pointer (some ⟨X, 0, none⟩), .agg #[.int .i64 4, .int .u64 (N : Int), .int .i64 kk, .slice ba bl bc, .string str], .pointer (some ⟨K, 0, none⟩)] w fun r w' => r = .returned (.bool true) ∧ St w0 w w' σ K B M D X n s P sz dn es hs o := by
  obtain ⟨W1, hW1⟩ : ∃ W1, W1 = w.alloc (.cells #[.int .i64 4, .int .u64 (N : Int), .int .i64 kk, .slice ba bl bc, .string str] 51) := ⟨_, rfl⟩
  have k1 : Kp w W1 := by rw [hW1]; exact Kp.al _ _
  have tb : W1.heap[w.heap.size]? = some (.cells #[.int .i64 4, .int .u64 (N : Int), .int .i64 kk, .slice ba bl bc, .string str] 51 (0, 0)) := by rw [hW1]; exact heap_alloc_new w _
  have hT0 : σ w.heap.size = (0, 0) := h.fz _ (Nat.le_refl _)
  have hTz : w0.heap.size ≤ w.heap.size := h.bel.size
  have hB1 : MB W1 σ X B D pl P sz dn := hB.mv (c := fun _ => False) ⟨k1, Ext.refl _ _⟩ (fun x => x)
  have h1 := h.kp k1
  have hTl := hp_lt tb
  obtain ⟨x0, x1, xr⟩ := hB1.cells
  clear xr
  have t0 : W1.cell? ⟨w.heap.size, 0, none⟩ = some (.int .i64 4) := by rw [(cells_at tb _).1]; rfl
  have t1 : W1.cell? ⟨w.heap.size, 1, none⟩ = some (.int .u64 (N : Int)) := by rw [(cells_at tb _).1]; rfl
  have t2 : W1.cell? ⟨w.heap.size, 2, none⟩ = some (.int .i64 kk) := by rw [(cells_at tb _).1]; rfl
  have t3 : W1.cell? ⟨w.heap.size, 3, none⟩ = some (.slice ba bl bc) := by rw [(cells_at tb _).1]; rfl
  have t4 : W1.cell? ⟨w.heap.size, 4, none⟩ = some (.string str) := by rw [(cells_at tb _).1]; rfl
  clear h hB
  go_enter Try.func12, Try.ntmps12
  go_upto_region 1 with fail
  rw [← hW1]
  clear hW1
  generalize w.heap.size = T at *
  have H1 : Hid (MW w0 W1 σ K B M D v n vb vo s es [] hs ∧ MB W1 σ X B D pl P sz dn ∧ (∀ e, e ∈ hs → e.o < o) ∧ Kp w W1) := ⟨h1, hB1, ho, k1⟩
  have A1 := pm64 h1.pw N hN
  clear h1 hB1 tb ho k1
  go_wp2_with fail
  go_at_call 33
  refine A1.mono ?_
  clear A1
  rintro e W2 ⟨rfl, hE⟩
  obtain ⟨σ2, v2, n2, mv2, hn2, mh2⟩ := H1.out.1.go hE
  have nT : ¬ (σ T = (0, 1)) := by rw [hT0]; decide
  have r1 := mv2.ch.cell' nT t1
  have r2 := mv2.ch.cell' nT t2
  have r3 := mv2.ch.cell' nT t3
  have r4 := mv2.ch.cell' nT t4
  have A2 := vNumber mh2.vw N 8 hN (by omega)
  have H2 : Hid (MH w0 W2 σ2 K B M D v2 n2 vb vo s (s.raw (le N 8)) es [] hs ∧ MB W2 σ2 X B D pl P sz dn ∧ n2 ≤ n + 1 ∧ Mv w σ W2 σ2 TS) := ⟨mh2, H1.out.2.1.mv mv2 (by decide), hn2, (Mv.kp H1.out.2.2.2).trans (mv2.mono ts1)⟩
  clear hE mv2 mh2 hn2 t0 t1 t2 t3 t4 x0 x1 H1
  go_wp2_with fail
  go_at_call 31
  refine A2.mono ?_
  clear A2 r1 r2 r3 r4
  rintro e W3 ⟨rfl, hE⟩
  obtain ⟨σ3, vb3, vo3, mv3, mw3⟩ := H2.out.1.go hE
  have HS : Hid (St w0 w W3 σ K B M D X n s P sz dn es hs o) := ⟨σ3, v2, n2, vb3, vo3, _, pl, P, [], mw3, H2.out.2.1.mv mv3 (by decide), by simp, by simp, by have := H2.out.2.2.1; omega, by rw [WS.raw_ops]; omega, by omega, H2.out.2.2.2.trans (mv3.mono ts2)⟩
  clear hE mv3 mw3 H2
  obtain ⟨L, ab, cb, hLb, dL, hLen⟩ := HS.out.ends
  have hLL : ((L : Int) == (L : Int)) = true := by simp
  go_upto_region 57 with fail
  go_quiet (first | (go_at_call 40; exact Calls.quiet_of_same (hLen _ (Kp.drewN _ _))) | fail)
  go_wp2
  go_ret
  exact ⟨by first | rfl | simp, HS.out.kp (Kp.drewN _ _)⟩
set_option maxHeartbeats 4000000 in
set_option maxRecDepth 10000 in
theorem st_text (h : MW w0 w σ K B M D v n vb vo s es [] hs) (hB : MB w σ X B D pl P sz dn) (o : Nat) (ho : ∀ e, e ∈ hs → e.o < o) (hn : n ≤ 500000) (hops : s.ops.length ≤ 500000) (N : Nat) (hN : N < 18446744073709551616) (kk : Int) (hk1 : -9223372036854775808 ≤ kk) (hk2 : kk ≤ 9223372036854775807) (ba : Option Addr) (bl bc : Nat) (str : ByteArray) (hstr : str.size ≤ 100000) :
    Calls Try.prog 12 #[.pointer (some ⟨X, 0, none⟩), .agg #[.int .i64 6, .int .u64 (N : Int), .int .i64 kk, .slice ba bl bc, .string str], .pointer (some ⟨K, 0, none⟩)] w fun r w' => r = .returned (.bool true) ∧ St w0 w w' σ K B M D X n s P sz dn es hs o := by
  obtain ⟨W1, hW1⟩ : ∃ W1, W1 = w.alloc (.cells #[.int .i64 6, .int .u64 (N : Int), .int .i64 kk, .slice ba bl bc, .string str] 51) := ⟨_, rfl⟩
  have k1 : Kp w W1 := by rw [hW1]; exact Kp.al _ _
  have tb : W1.heap[w.heap.size]? = some (.cells #[.int .i64 6, .int .u64 (N : Int), .int .i64 kk, .slice ba bl bc, .string str] 51 (0, 0)) := by rw [hW1]; exact heap_alloc_new w _
  have hT0 : σ w.heap.size = (0, 0) := h.fz _ (Nat.le_refl _)
  have hTz : w0.heap.size ≤ w.heap.size := h.bel.size
  have hB1 : MB W1 σ X B D pl P sz dn := hB.mv (c := fun _ => False) ⟨k1, Ext.refl _ _⟩ (fun x => x)
  have h1 := h.kp k1
  have hTl := hp_lt tb
  obtain ⟨x0, x1, xr⟩ := hB1.cells
  clear xr
  have t0 : W1.cell? ⟨w.heap.size, 0, none⟩ = some (.int .i64 6) := by rw [(cells_at tb _).1]; rfl
  have t1 : W1.cell? ⟨w.heap.size, 1, none⟩ = some (.int .u64 (N : Int)) := by rw [(cells_at tb _).1]; rfl
  have t2 : W1.cell? ⟨w.heap.size, 2, none⟩ = some (.int .i64 kk) := by rw [(cells_at tb _).1]; rfl
  have t3 : W1.cell? ⟨w.heap.size, 3, none⟩ = some (.slice ba bl bc) := by rw [(cells_at tb _).1]; rfl
  have t4 : W1.cell? ⟨w.heap.size, 4, none⟩ = some (.string str) := by rw [(cells_at tb _).1]; rfl
  clear h hB
  go_enter Try.func12, Try.ntmps12
  go_upto_region 1 with fail
  rw [← hW1]
  clear hW1
  generalize w.heap.size = T at *
  have H1 : Hid (MW w0 W1 σ K B M D v n vb vo s es [] hs ∧ MB W1 σ X B D pl P sz dn ∧ (∀ e, e ∈ hs → e.o < o) ∧ Kp w W1) := ⟨h1, hB1, ho, k1⟩
  have A1 := pText h1.pw str hstr
  clear h1 hB1 tb ho k1
  go_wp2_with fail
  go_at_call 36
  refine A1.mono ?_
  clear A1
  rintro e W2 ⟨rfl, hE⟩
  obtain ⟨σ2, v2, n2, mv2, hn2, mh2⟩ := H1.out.1.go hE
  have nT : ¬ (σ T = (0, 1)) := by rw [hT0]; decide
  have r1 := mv2.ch.cell' nT t1
  have r2 := mv2.ch.cell' nT t2
  have r3 := mv2.ch.cell' nT t3
  have r4 := mv2.ch.cell' nT t4
  have A2 := vText mh2.vw str hstr
  have H2 : Hid (MH w0 W2 σ2 K B M D v2 n2 vb vo s (s.text (sBs str)) es [] hs ∧ MB W2 σ2 X B D pl P sz dn ∧ n2 ≤ n + 1 ∧ Mv w σ W2 σ2 TS) := ⟨mh2, H1.out.2.1.mv mv2 (by decide), hn2, (Mv.kp H1.out.2.2.2).trans (mv2.mono ts1)⟩
  clear hE mv2 mh2 hn2 t0 t1 t2 t3 t4 x0 x1 H1
  go_wp2_with fail
  go_at_call 37
  refine A2.mono ?_
  clear A2 r1 r2 r3 r4
  rintro e W3 ⟨rfl, hE⟩
  obtain ⟨σ3, vb3, vo3, mv3, mw3⟩ := H2.out.1.go hE
  have HS : Hid (St w0 w W3 σ K B M D X n s P sz dn es hs o) := ⟨σ3, v2, n2, vb3, vo3, _, pl, P, [], mw3, H2.out.2.1.mv mv3 (by decide), by simp, by simp, by have := H2.out.2.2.1; omega, by rw [WS.text_ops]; omega, by omega, H2.out.2.2.2.trans (mv3.mono ts2)⟩
  clear hE mv3 mw3 H2
  obtain ⟨L, ab, cb, hLb, dL, hLen⟩ := HS.out.ends
  have hLL : ((L : Int) == (L : Int)) = true := by simp
  go_upto_region 57 with fail
  go_quiet (first | (go_at_call 40; exact Calls.quiet_of_same (hLen _ (Kp.drewN _ _))) | fail)
  go_wp2
  go_ret
  exact ⟨by first | rfl | simp, HS.out.kp (Kp.drewN _ _)⟩
set_option maxHeartbeats 4000000 in
set_option maxRecDepth 10000 in
theorem st_pad (h : MW w0 w σ K B M D v n vb vo s es [] hs) (hB : MB w σ X B D pl P sz dn) (o : Nat) (ho : ∀ e, e ∈ hs → e.o < o) (hn : n ≤ 500000) (hops : s.ops.length ≤ 500000) (N : Nat) (hN : N < 18446744073709551616) (kk : Int) (hk1 : -9223372036854775808 ≤ kk) (hk2 : kk ≤ 9223372036854775807) (ba : Option Addr) (bl bc : Nat) (str : ByteArray) :
    Calls Try.prog 12 #[.pointer (some ⟨X, 0, none⟩), .agg #[.int .i64 7, .int .u64 (N : Int), .int .i64 kk, .slice ba bl bc, .string str], .pointer (some ⟨K, 0, none⟩)] w fun r w' => r = .returned (.bool true) ∧ St w0 w w' σ K B M D X n s P sz dn es hs o := by
  obtain ⟨W1, hW1⟩ : ∃ W1, W1 = w.alloc (.cells #[.int .i64 7, .int .u64 (N : Int), .int .i64 kk, .slice ba bl bc, .string str] 51) := ⟨_, rfl⟩
  have k1 : Kp w W1 := by rw [hW1]; exact Kp.al _ _
  have tb : W1.heap[w.heap.size]? = some (.cells #[.int .i64 7, .int .u64 (N : Int), .int .i64 kk, .slice ba bl bc, .string str] 51 (0, 0)) := by rw [hW1]; exact heap_alloc_new w _
  have hT0 : σ w.heap.size = (0, 0) := h.fz _ (Nat.le_refl _)
  have hTz : w0.heap.size ≤ w.heap.size := h.bel.size
  have hB1 : MB W1 σ X B D pl P sz dn := hB.mv (c := fun _ => False) ⟨k1, Ext.refl _ _⟩ (fun x => x)
  have h1 := h.kp k1
  have hTl := hp_lt tb
  obtain ⟨x0, x1, xr⟩ := hB1.cells
  clear xr
  have t0 : W1.cell? ⟨w.heap.size, 0, none⟩ = some (.int .i64 7) := by rw [(cells_at tb _).1]; rfl
  have t1 : W1.cell? ⟨w.heap.size, 1, none⟩ = some (.int .u64 (N : Int)) := by rw [(cells_at tb _).1]; rfl
  have t2 : W1.cell? ⟨w.heap.size, 2, none⟩ = some (.int .i64 kk) := by rw [(cells_at tb _).1]; rfl
  have t3 : W1.cell? ⟨w.heap.size, 3, none⟩ = some (.slice ba bl bc) := by rw [(cells_at tb _).1]; rfl
  have t4 : W1.cell? ⟨w.heap.size, 4, none⟩ = some (.string str) := by rw [(cells_at tb _).1]; rfl
  clear h hB
  go_enter Try.func12, Try.ntmps12
  go_upto_region 1 with fail
  rw [← hW1]
  clear hW1
  generalize w.heap.size = T at *
  have H1 : Hid (MW w0 W1 σ K B M D v n vb vo s es [] hs ∧ MB W1 σ X B D pl P sz dn ∧ (∀ e, e ∈ hs → e.o < o) ∧ Kp w W1) := ⟨h1, hB1, ho, k1⟩
  have A1 := pPad h1.pw kk
  clear h1 hB1 tb ho k1
  go_wp2_with fail
  go_at_call 38
  refine A1.mono ?_
  clear A1
  rintro e W2 ⟨rfl, hE⟩
  obtain ⟨σ2, v2, n2, mv2, hn2, mh2⟩ := H1.out.1.go hE
  have nT : ¬ (σ T = (0, 1)) := by rw [hT0]; decide
  have r1 := mv2.ch.cell' nT t1
  have r2 := mv2.ch.cell' nT t2
  have r3 := mv2.ch.cell' nT t3
  have r4 := mv2.ch.cell' nT t4
  have A2 := vPad mh2.vw kk
  have H2 : Hid (MH w0 W2 σ2 K B M D v2 n2 vb vo s (s.pad kk) es [] hs ∧ MB W2 σ2 X B D pl P sz dn ∧ n2 ≤ n + 1 ∧ Mv w σ W2 σ2 TS) := ⟨mh2, H1.out.2.1.mv mv2 (by decide), hn2, (Mv.kp H1.out.2.2.2).trans (mv2.mono ts1)⟩
  clear hE mv2 mh2 hn2 t0 t1 t2 t3 t4 x0 x1 H1
  go_wp2_with fail
  go_at_call 39
  refine A2.mono ?_
  clear A2 r1 r2 r3 r4
  rintro e W3 ⟨rfl, hE⟩
  obtain ⟨σ3, vb3, vo3, mv3, mw3⟩ := H2.out.1.go hE
  have HS : Hid (St w0 w W3 σ K B M D X n s P sz dn es hs o) := ⟨σ3, v2, n2, vb3, vo3, _, pl, P, [], mw3, H2.out.2.1.mv mv3 (by decide), by simp, by simp, by have := H2.out.2.2.1; omega, by rw [WS.pad_ops]; omega, by omega, H2.out.2.2.2.trans (mv3.mono ts2)⟩
  clear hE mv3 mw3 H2
  obtain ⟨L, ab, cb, hLb, dL, hLen⟩ := HS.out.ends
  have hLL : ((L : Int) == (L : Int)) = true := by simp
  go_upto_region 57 with fail
  go_quiet (first | (go_at_call 40; exact Calls.quiet_of_same (hLen _ (Kp.drewN _ _))) | fail)
  go_wp2
  go_ret
  exact ⟨by first | rfl | simp, HS.out.kp (Kp.drewN _ _)⟩
set_option maxHeartbeats 4000000 in
set_option maxRecDepth 10000 in
theorem st_shut (h : MW w0 w σ K B M D v n vb vo s es [] hs) (hB : MB w σ X B D pl P sz dn) (o : Nat) (ho : ∀ e, e ∈ hs → e.o < o) (hn : n ≤ 500000) (hops : s.ops.length ≤ 500000) (N : Nat) (hN : N < 18446744073709551616) (kk : Int) (hk1 : -9223372036854775808 ≤ kk) (hk2 : kk ≤ 9223372036854775807) (ba : Option Addr) (bl bc : Nat) (str : ByteArray) :
    Calls Try.prog 12 #[.pointer (some ⟨X, 0, none⟩), .agg #[.int .i64 9, .int .u64 (N : Int), .int .i64 kk, .slice ba bl bc, .string str], .pointer (some ⟨K, 0, none⟩)] w fun r w' => r = .returned (.bool true) ∧ St w0 w w' σ K B M D X n s P sz dn es hs o := by
  obtain ⟨W1, hW1⟩ : ∃ W1, W1 = w.alloc (.cells #[.int .i64 9, .int .u64 (N : Int), .int .i64 kk, .slice ba bl bc, .string str] 51) := ⟨_, rfl⟩
  have k1 : Kp w W1 := by rw [hW1]; exact Kp.al _ _
  have tb : W1.heap[w.heap.size]? = some (.cells #[.int .i64 9, .int .u64 (N : Int), .int .i64 kk, .slice ba bl bc, .string str] 51 (0, 0)) := by rw [hW1]; exact heap_alloc_new w _
  have hT0 : σ w.heap.size = (0, 0) := h.fz _ (Nat.le_refl _)
  have hTz : w0.heap.size ≤ w.heap.size := h.bel.size
  have hB1 : MB W1 σ X B D pl P sz dn := hB.mv (c := fun _ => False) ⟨k1, Ext.refl _ _⟩ (fun x => x)
  have h1 := h.kp k1
  have hTl := hp_lt tb
  obtain ⟨x0, x1, xr⟩ := hB1.cells
  clear xr
  have t0 : W1.cell? ⟨w.heap.size, 0, none⟩ = some (.int .i64 9) := by rw [(cells_at tb _).1]; rfl
  have t1 : W1.cell? ⟨w.heap.size, 1, none⟩ = some (.int .u64 (N : Int)) := by rw [(cells_at tb _).1]; rfl
  have t2 : W1.cell? ⟨w.heap.size, 2, none⟩ = some (.int .i64 kk) := by rw [(cells_at tb _).1]; rfl
  have t3 : W1.cell? ⟨w.heap.size, 3, none⟩ = some (.slice ba bl bc) := by rw [(cells_at tb _).1]; rfl
  have t4 : W1.cell? ⟨w.heap.size, 4, none⟩ = some (.string str) := by rw [(cells_at tb _).1]; rfl
  have hok := h.pw.ok
  clear h hB
  go_enter Try.func12, Try.ntmps12
  go_upto_region 1 with fail
  rw [← hW1]
  clear hW1
  generalize w.heap.size = T at *
  have H1 : Hid (MW w0 W1 σ K B M D v n vb vo s es [] hs ∧ MB W1 σ X B D pl P sz dn ∧ (∀ e, e ∈ hs → e.o < o) ∧ Kp w W1) := ⟨h1, hB1, ho, k1⟩
  have A1 := pShut h1.pw kk hk1 hk2
  clear h1 hB1 tb ho k1
  go_wp2_with fail
  go_at_call 20
  refine A1.mono ?_
  clear A1
  rintro e W2 ⟨rfl, hE⟩
  obtain ⟨σ2, v2, n2, mv2, hn2, mh2⟩ := H1.out.1.go hE
  have nT : ¬ (σ T = (0, 1)) := by rw [hT0]; decide
  have r1 := mv2.ch.cell' nT t1
  have r2 := mv2.ch.cell' nT t2
  have r3 := mv2.ch.cell' nT t3
  have r4 := mv2.ch.cell' nT t4
  have A2 := vShut mh2.vw hok kk hk1 hk2 (by omega)
  have H2 : Hid (MH w0 W2 σ2 K B M D v2 n2 vb vo s (s.shut kk) es [] hs ∧ MB W2 σ2 X B D pl P sz dn ∧ n2 ≤ n + 1 ∧ Mv w σ W2 σ2 TS) := ⟨mh2, H1.out.2.1.mv mv2 (by decide), hn2, (Mv.kp H1.out.2.2.2).trans (mv2.mono ts1)⟩
  clear hE mv2 mh2 hn2 t0 t1 t2 t3 t4 x0 x1 H1
  go_wp2_with fail
  go_at_call 21
  refine A2.mono ?_
  clear A2 r1 r2 r3 r4
  rintro e W3 ⟨rfl, hE⟩
  obtain ⟨σ3, vb3, vo3, mv3, mw3⟩ := H2.out.1.go hE
  have HS : Hid (St w0 w W3 σ K B M D X n s P sz dn es hs o) := ⟨σ3, v2, n2, vb3, vo3, _, pl, P, [], mw3, H2.out.2.1.mv mv3 (by decide), by simp, by simp, by have := H2.out.2.2.1; omega, by have := s.shut_ops kk; omega, by omega, H2.out.2.2.2.trans (mv3.mono ts2)⟩
  clear hE mv3 mw3 H2
  obtain ⟨L, ab, cb, hLb, dL, hLen⟩ := HS.out.ends
  have hLL : ((L : Int) == (L : Int)) = true := by simp
  go_upto_region 57 with fail
  go_quiet (first | (go_at_call 40; exact Calls.quiet_of_same (hLen _ (Kp.drewN _ _))) | fail)
  go_wp2
  go_ret
  exact ⟨by first | rfl | simp, HS.out.kp (Kp.drewN _ _)⟩
end
end Go.Proofs.Ytfcpkcbiinbmiab
