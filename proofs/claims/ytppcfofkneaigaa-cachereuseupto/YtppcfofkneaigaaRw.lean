import Derived.Test.YtppcfofkneaigaaPd
import Derived.Test.YtppcfofkneaigaaCd
import Derived.Test.YtppcfofkneaigaaWt
namespace Go.Proofs.Ytppcfofkneaigaa
open Go.ChangeShapes Go.WideShapes Go.ChangeAt Go.RowKit
set_option linter.unusedVariables false

set_option maxHeartbeats 4000000 in
set_option maxRecDepth 10000 in
theorem reuse_walk (w : World) (x0 x1 x2 : Int) (i0 : InI x0) (i1 : InI x1) (i2 : InI x2) (a : Option Addr) (len cap : Nat) (F : Nat → Nat × Bool) (hU : UsesIn w a len F) (hlen : len ≤ 1048576)
    (a' : Option Addr) (len' cap' : Nat) (F' : Nat → Nat × Bool) (hU' : UsesIn w a' len' F') (hlen' : len' ≤ 1048576) :
    Calls Try.prog 8 #[.agg #[.int .i64 x0, .int .i64 x1, .int .i64 x2], .slice a len cap, .slice a' len' cap'] w fun e w' => e = .returned (.bool true) ∧ Below w.heap.size w w' := by
  have hn := ptr_nil_no
  have KU : Hid (UsesIn w a len F ∧ UsesIn w a' len' F') := ⟨hU, hU'⟩
  clear hU hU'
  go_enter Try.func8, Try.ntmps8
  go_wp2_with fail
  go_at_call 9
  refine (awake_any _).mono ?_
  rintro e w1 ⟨rfl, hC1⟩
  have t1 := hC1.heap (heap_alloc_new w _) (fun h => h)
  obtain ⟨d0, d1, d2, f0, f1, f2⟩ := cells3 t1
  have K1 : Hid (Chg w w1 (fun _ => False) ∧ w1.heap[w.heap.size]? = some (.cells #[.int .i64 x0, .int .i64 x1, .int .i64 x2] 23 (0, 0))) := ⟨((Chg.refl w _).alloc _).trans hC1 (fun _ _ h => h), t1⟩
  clear t1 hC1
  go_wp2_with fail
  go_at_call 10
  refine (shape_any _ x0 x1 x2 i0 i1 i2).mono ?_
  rintro e w2 ⟨sets, n, line, rfl, hS, p1, p2, hC2⟩
  clear d0 d1 d2 f0 f1 f2
  have t2 := hC2.heap K1.out.2 (fun h => h)
  obtain ⟨d0, d1, d2, f0, f1, f2⟩ := cells3 t2
  obtain ⟨V, hV⟩ : ∃ V, V = (((w2.setCell ⟨w.heap.size, 0, none⟩ (.int .i64 sets)).setCell ⟨w.heap.size, 1, none⟩ (.int .i64 n)).setCell ⟨w.heap.size, 2, none⟩ (.int .i64 line)) := ⟨_, rfl⟩
  obtain ⟨v1, v2, v3⟩ := box3 t2 _ _ _ hV
  have KV : Hid (V.heap[w.heap.size]? = some (.cells #[.int .i64 sets, .int .i64 n, .int .i64 line] 23 (0, 0)) ∧ Chg w V (fun _ => False) ∧ ShOk sets n line ∧ Pow sets ∧ Pow line) := ⟨v1, (K1.out.1.trans hC2 (fun _ _ h => h)).trans v3 (fun i hi e => by omega), hS, p1, p2⟩
  have hN := fun w => new_yes w sets n line hS p1 p2
  have HV : Hid (V = (((w2.setCell ⟨w.heap.size, 0, none⟩ (.int .i64 sets)).setCell ⟨w.heap.size, 1, none⟩ (.int .i64 n)).setCell ⟨w.heap.size, 2, none⟩ (.int .i64 line))) := hV
  clear t2 hC2 hS p1 p2 K1 i0 i1 i2 hV v1 v2 v3
  go_wp2_with fail
  rw [← HV.out]
  clear HV d0 d1 d2 f0 f1 f2
  go_at_call 12
  refine (hN _).mono ?_
  rintro e w3 ⟨B, rfl, hI, hB, hC3⟩
  have u1 := hC3.heap KV.out.1 (fun h => h)
  obtain ⟨d0, d1, d2, _, _, _⟩ := cells3 u1
  have K3 : Hid (Chg w w3 (fun _ => False) ∧ IsC w3 B sets n line (fun _ => []) ∧ w.heap.size < B ∧ w3.heap[w.heap.size]? = some (.cells #[.int .i64 sets, .int .i64 n, .int .i64 line] 23 (0, 0)) ∧ ShOk sets n line ∧ Pow sets ∧ Pow line) := ⟨KV.out.2.1.trans hC3 (fun _ _ h => h), hI, by have := (Array.getElem?_eq_some_iff.1 KV.out.1).1; omega, u1, KV.out.2.2⟩
  clear hI hB hC3 u1 KV hN
  have hPr := predict_any w3 sets n line K3.out.2.2.2.2.1 K3.out.2.2.2.2.2.1 K3.out.2.2.2.2.2.2 a len cap F (KU.out.1.kept K3.out.1 (fun _ _ h => h)) hlen
  go_wp2_with fail
  go_at_call 21
  refine hPr.mono ?_
  rintro e w4 ⟨va, rfl, hTa, hC4⟩
  clear d0 d1 d2 hPr
  have u1 := hC4.heap K3.out.2.2.2.1 (fun h => h)
  obtain ⟨d0, d1, d2, _, _, _⟩ := cells3 u1
  have K4 : Hid (Chg w w4 (fun _ => False) ∧ IsC w4 B sets n line (fun _ => []) ∧ w.heap.size < B ∧ w4.heap[w.heap.size]? = some (.cells #[.int .i64 sets, .int .i64 n, .int .i64 line] 23 (0, 0)) ∧ ShOk sets n line ∧ Pow sets ∧ Pow line ∧ Ts w4 w3.heap.size va len (tch sets n line (fun _ => []) F) ∧ B < w3.heap.size) := ⟨K3.out.1.trans hC4 (fun _ _ h => h), K3.out.2.1.kept hC4 (fun h => h), K3.out.2.2.1, u1, K3.out.2.2.2.2.1, K3.out.2.2.2.2.2.1, K3.out.2.2.2.2.2.2, hTa, K3.out.2.1.lt⟩
  clear hTa hC4 u1 K3
  have hPr := predict_any w4 sets n line K4.out.2.2.2.2.1 K4.out.2.2.2.2.2.1 K4.out.2.2.2.2.2.2.1 a' len' cap' F' (KU.out.2.kept K4.out.1 (fun _ _ h => h)) hlen'
  go_wp2_with fail
  go_at_call 21
  refine hPr.mono ?_
  rintro e w5 ⟨vb, rfl, hTb, hC5⟩
  clear d0 d1 d2 hPr
  have u1 := hC5.heap K4.out.2.2.2.1 (fun h => h)
  have K5 : Hid (Chg w w5 (fun _ => False) ∧ IsC w5 B sets n line (fun _ => []) ∧ w.heap.size < B ∧ w5.heap[w.heap.size]? = some (.cells #[.int .i64 sets, .int .i64 n, .int .i64 line] 23 (0, 0)) ∧ ShOk sets n line ∧ Ts w5 w3.heap.size va len (tch sets n line (fun _ => []) F) ∧ B < w3.heap.size ∧ Ts w5 w4.heap.size vb len' (tch sets n line (fun _ => []) F') ∧ B < w4.heap.size) := by
    obtain ⟨k1, k2, k3, k4, k5, k6, k7, k8, k9⟩ := K4.out
    exact ⟨k1.trans hC5 (fun _ _ h => h), k2.kept hC5 (fun h => h), k3, u1, k5, k8.kept hC5 (fun _ _ _ h => h), k9, hTb, k2.lt⟩
  clear hTb hC5 u1 K4
  have hUd := used_any w5 B sets n line _ K5.out.2.1 a len cap F (KU.out.1.kept K5.out.1 (fun _ _ h => h)) (KU.out.1.ne (Nat.le_of_lt K5.out.2.2.1)) hlen
  go_wp2_with fail
  go_at_call 14
  refine hUd.mono ?_
  rintro e w6 ⟨v, rfl, hT, hIB, hC6⟩
  clear hUd
  obtain ⟨S1, hS1⟩ : ∃ S1, S1 = runS sets n line (fun _ => []) F len := ⟨_, rfl⟩
  rw [← hS1] at hIB
  clear hS1
  obtain ⟨k1, k2, k3, k4, k5, k6, k7, k8, k9⟩ := K5.out
  have hTa := k6.kept (S := fun k => k = B) hC6 (fun k h1 _ e => by omega)
  have hSm := same_yes w6 _ _ v va len _ hT hTa hlen
  have K6 : Hid (Chg w w6 (fun _ => False) ∧ IsC w6 B sets n line S1 ∧ w.heap.size < B ∧ w6.heap[w.heap.size]? = some (.cells #[.int .i64 sets, .int .i64 n, .int .i64 line] 23 (0, 0)) ∧ Ts w6 w4.heap.size vb len' (tch sets n line (fun _ => []) F') ∧ B < w4.heap.size ∧ ShOk sets n line) := ⟨k1.trans hC6 (fun i hi e => by omega), hIB, k3, hC6.heap k4 (by omega), k8.kept (S := fun k => k = B) hC6 (fun k h1 _ e => by omega), k9, k5⟩
  clear hT hIB hC6 k1 k2 k3 k4 k5 k6 k7 k8 k9 hTa K5
  go_wp2_with fail
  go_at_call 20
  refine hSm.mono ?_
  rintro e w7 ⟨rfl, hC7⟩
  clear hSm
  obtain ⟨k1, k2, k3, k4, k5, k6, k7⟩ := K6.out
  have K7 : Hid (Chg w w7 (fun _ => False) ∧ IsC w7 B sets n line S1 ∧ w.heap.size < B ∧ w7.heap[w.heap.size]? = some (.cells #[.int .i64 sets, .int .i64 n, .int .i64 line] 23 (0, 0)) ∧ Ts w7 w4.heap.size vb len' (tch sets n line (fun _ => []) F') ∧ B < w4.heap.size ∧ ShOk sets n line) := ⟨k1.trans hC7 (fun _ _ h => h), k2.kept hC7 (fun h => h), k3, hC7.heap k4 (fun h => h), k5.kept hC7 (fun _ _ _ h => h), k6, k7⟩
  clear hC7 k1 k2 k3 k4 k5 k6 k7 K6
  have hD := dirty_any w7 B sets n line S1 K7.out.2.1
  obtain ⟨dn, hdn⟩ : ∃ d, d = dirtyN S1 sets := ⟨_, rfl⟩
  have hdb : dn ≤ 2048 := by
    rw [hdn]
    have h1 := dirtyN_le S1 (fun k => Nat.le_trans (K7.out.2.1.good k).le K7.out.2.2.2.2.2.2.w2) sets
    have h2 := K7.out.2.2.2.2.2.2.s2
    omega
  rw [← hdn] at hD
  go_wp2_with fail
  go_at_call 24
  refine hD.mono ?_
  rintro e w8 ⟨rfl, hC8⟩
  clear hD
  obtain ⟨k1, k2, k3, k4, k5, k6, k7⟩ := K7.out
  have K8 : Hid (Chg w w8 (fun _ => False) ∧ IsC w8 B sets n line S1 ∧ w.heap.size < B ∧ w8.heap[w.heap.size]? = some (.cells #[.int .i64 sets, .int .i64 n, .int .i64 line] 23 (0, 0)) ∧ Ts w8 w4.heap.size vb len' (tch sets n line (fun _ => []) F') ∧ B < w4.heap.size ∧ ShOk sets n line) := ⟨k1.trans hC8 (fun _ _ h => h), k2.kept hC8 (fun h => h), k3, hC8.heap k4 (fun h => h), k5.kept hC8 (fun _ _ _ h => h), k6, k7⟩
  clear hC8 k1 k2 k3 k4 k5 k6 k7 K7
  have hF := flush_any w8 B sets n line S1 K8.out.2.1
  rw [← hdn] at hF
  clear hdn
  go_wp2_with fail
  go_at_call 18
  refine hF.mono ?_
  rintro e w9 ⟨rfl, hIB, hC9⟩
  clear hF
  obtain ⟨k1, k2, k3, k4, k5, k6, k7⟩ := K8.out
  have K9 : Hid (Chg w w9 (fun _ => False) ∧ IsC w9 B sets n line (fun _ => []) ∧ w.heap.size < B ∧ w9.heap[w.heap.size]? = some (.cells #[.int .i64 sets, .int .i64 n, .int .i64 line] 23 (0, 0)) ∧ Ts w9 w4.heap.size vb len' (tch sets n line (fun _ => []) F') ∧ B < w4.heap.size ∧ ShOk sets n line) := ⟨k1.trans hC9 (fun i hi e => by omega), hIB, k3, hC9.heap k4 (by omega), k5.kept (S := fun k => k = B) hC9 (fun k h1 _ e => by omega), k6, k7⟩
  clear hC9 hIB k1 k2 k3 k4 k5 k6 k7 K8
  have hUd := used_any w9 B sets n line _ K9.out.2.1 a' len' cap' F' (KU.out.2.kept K9.out.1 (fun _ _ h => h)) (KU.out.2.ne (Nat.le_of_lt K9.out.2.2.1)) hlen'
  go_wp2_with fail
  go_at_call 14
  refine hUd.mono ?_
  rintro e w10 ⟨v', rfl, hT, hIB, hC10⟩
  clear hUd
  obtain ⟨k1, k2, k3, k4, k5, k6, k7⟩ := K9.out
  have hTb := k5.kept (S := fun k => k = B) hC10 (fun k h1 _ e => by omega)
  have hSm := same_yes w10 _ _ v' vb len' _ hT hTb hlen'
  have K10 : Hid (Chg w w10 (fun _ => False) ∧ w10.heap[w.heap.size]? = some (.cells #[.int .i64 sets, .int .i64 n, .int .i64 line] 23 (0, 0)) ∧ ShOk sets n line) := ⟨k1.trans hC10 (fun i hi e => by omega), hC10.heap k4 (by omega), k7⟩
  clear hT hIB hC10 k1 k2 k3 k4 k5 k6 k7 hTb K9
  go_wp2_with fail
  go_at_call 20
  refine hSm.mono ?_
  rintro e w11 ⟨rfl, hC11⟩
  clear hSm
  obtain ⟨d0, d1, d2, _, _, _⟩ := cells3 (hC11.heap K10.out.2.1 (fun h => h))
  have K11 : Hid (Chg w w11 (fun _ => False)) := K10.out.1.trans hC11 (fun _ _ h => h)
  have hs2 := K10.out.2.2.s2
  have e8 : IntKind.i64.wrap (8 * (dn : Int)) = 8 * (dn : Int) := by simp [IntKind.wrap, IntKind.bits, IntKind.signed]; omega
  have e9 : IntKind.i64.wrap ((sets : Int) + 8 * (dn : Int)) = (sets : Int) + 8 * (dn : Int) := by simp [IntKind.wrap, IntKind.bits, IntKind.signed]; omega
  have q1 : ((dn : Int) == (dn : Int)) = true := by simp
  have q2 : ((sets : Int) + 8 * (dn : Int) == (sets : Int) + 8 * (dn : Int)) = true := by simp
  clear hC11 K10
  go_wp2
  go_ret
  exact ⟨rfl, K11.out.below (Nat.le_refl _) (fun _ _ h => h)⟩
end Go.Proofs.Ytppcfofkneaigaa
