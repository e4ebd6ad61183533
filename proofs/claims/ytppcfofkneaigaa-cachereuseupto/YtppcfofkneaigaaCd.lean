import Derived.Test.YtppcfofkneaigaaSm
namespace Go.Proofs.Ytppcfofkneaigaa
open Go.ChangeShapes Go.WideShapes Go.ChangeAt Go.RowKit
set_option linter.unusedVariables false

/-- What is the call's own is not where the uses lie. -/
theorem UsesIn.ne {w : World} {a : Option Addr} {len : Nat} {F : Nat → Nat × Bool} (h : UsesIn w a len F) {B : Nat} (hB : w.heap.size ≤ B) : ∀ b off, a = some ⟨b, off, none⟩ → 0 < len → b ≠ B := by
  intro b off e h0
  obtain ⟨b', off', e', hb', _⟩ := h.src.resolve_left (by omega)
  rw [e] at e'; cases e'
  omega

set_option maxHeartbeats 4000000 in
set_option maxRecDepth 10000 in
theorem copied_walk (w : World) (x0 x1 x2 : Int) (i0 : InI x0) (i1 : InI x1) (i2 : InI x2) (a : Option Addr) (len cap : Nat) (F : Nat → Nat × Bool) (hU : UsesIn w a len F) (hlen : len ≤ 1048576)
    (a' : Option Addr) (len' cap' : Nat) (F' : Nat → Nat × Bool) (hU' : UsesIn w a' len' F') (hlen' : len' ≤ 1048576) (a'' : Option Addr) (len'' cap'' : Nat) (F'' : Nat → Nat × Bool) (hU'' : UsesIn w a'' len'' F'') (hlen'' : len'' ≤ 1048576) :
    Calls Try.prog 6 #[.agg #[.int .i64 x0, .int .i64 x1, .int .i64 x2], .slice a len cap, .slice a' len' cap', .slice a'' len'' cap''] w fun e w' => e = .returned (.bool true) ∧ Below w.heap.size w w' := by
  have hn := ptr_nil_no
  have KU : Hid (UsesIn w a len F ∧ UsesIn w a' len' F' ∧ UsesIn w a'' len'' F'') := ⟨hU, hU', hU''⟩
  clear hU hU' hU''
  go_enter Try.func6, Try.ntmps6
  go_wp2_with fail
  go_at_call 9
  refine (awake_any _).mono ?_
  rintro e w1 ⟨rfl, hC1⟩
  have t1 := hC1.heap (heap_alloc_new w _) (fun h => h)
  obtain ⟨d0, d1, d2, f0, f1, f2⟩ := cells3 t1
  have K1 : Hid (Chg w w1 (fun _ => False) ∧ w1.heap[w.heap.size]? = some (.cells #[.int .i64 x0, .int .i64 x1, .int .i64 x2] 23 (0, 0))) := ⟨((Chg.refl w _).alloc _).trans hC1 (fun _ _ h => h), t1⟩
  clear t1 hC1
  go_wp2_with fail
  go_at_call 10
  refine (shape_any _ x0 x1 x2 i0 i1 i2).mono ?_
  rintro e w2 ⟨sets, n, line, rfl, hS, p1, p2, hC2⟩
  clear d0 d1 d2 f0 f1 f2
  have t2 := hC2.heap K1.out.2 (fun h => h)
  obtain ⟨d0, d1, d2, f0, f1, f2⟩ := cells3 t2
  obtain ⟨V, hV⟩ : ∃ V, V = (((w2.setCell ⟨w.heap.size, 0, none⟩ (.int .i64 sets)).setCell ⟨w.heap.size, 1, none⟩ (.int .i64 n)).setCell ⟨w.heap.size, 2, none⟩ (.int .i64 line)) := ⟨_, rfl⟩
  obtain ⟨v1, v2, v3⟩ := box3 t2 _ _ _ hV
  have KV : Hid (V.heap[w.heap.size]? = some (.cells #[.int .i64 sets, .int .i64 n, .int .i64 line] 23 (0, 0)) ∧ Chg w V (fun _ => False) ∧ ShOk sets n line ∧ Pow line) := ⟨v1, (K1.out.1.trans hC2 (fun _ _ h => h)).trans v3 (fun i hi e => by omega), hS, p2⟩
  have hN := fun w => new_yes w sets n line hS p1 p2
  have HV : Hid (V = (((w2.setCell ⟨w.heap.size, 0, none⟩ (.int .i64 sets)).setCell ⟨w.heap.size, 1, none⟩ (.int .i64 n)).setCell ⟨w.heap.size, 2, none⟩ (.int .i64 line))) := hV
  clear t2 hC2 hS p1 p2 K1 i0 i1 i2 hV v1 v2 v3
  go_wp2_with fail
  rw [← HV.out]
  clear HV d0 d1 d2 f0 f1 f2
  go_at_call 12
  refine (hN _).mono ?_
  rintro e w3 ⟨B, rfl, hI, hB, hC3⟩
  have u1 := hC3.heap KV.out.1 (fun h => h)
  obtain ⟨d0, d1, d2, _, _, _⟩ := cells3 u1
  have K3 : Hid (Chg w w3 (fun _ => False) ∧ IsC w3 B sets n line (fun _ => []) ∧ w.heap.size < B ∧ w3.heap[w.heap.size]? = some (.cells #[.int .i64 sets, .int .i64 n, .int .i64 line] 23 (0, 0)) ∧ ShOk sets n line ∧ Pow line) := ⟨KV.out.2.1.trans hC3 (fun _ _ h => h), hI, by have := (Array.getElem?_eq_some_iff.1 KV.out.1).1; omega, u1, KV.out.2.2⟩
  clear hI hB hC3 u1 KV
  go_wp2_with fail
  go_at_call 12
  refine (hN _).mono ?_
  rintro e w4 ⟨D, rfl, hI, hD, hC4⟩
  clear d0 d1 d2
  have u1 := hC4.heap K3.out.2.2.2.1 (fun h => h)
  obtain ⟨d0, d1, d2, _, _, _⟩ := cells3 u1
  have K4 : Hid (Chg w w4 (fun _ => False) ∧ IsC w4 B sets n line (fun _ => []) ∧ IsC w4 D sets n line (fun _ => []) ∧ w.heap.size < B ∧ w.heap.size < D ∧ B ≠ D ∧ w4.heap[w.heap.size]? = some (.cells #[.int .i64 sets, .int .i64 n, .int .i64 line] 23 (0, 0)) ∧ ShOk sets n line ∧ Pow line) :=
    ⟨K3.out.1.trans hC4 (fun _ _ h => h), K3.out.2.1.kept hC4 (fun h => h), hI, K3.out.2.2.1, by have := (Array.getElem?_eq_some_iff.1 K3.out.2.2.2.1).1; omega, by have := K3.out.2.1.lt; omega, u1, K3.out.2.2.2.2⟩
  clear hI hD hC4 K3 hN u1
  have hUd := used_any w4 B sets n line _ K4.out.2.1 a len cap F (KU.out.1.kept K4.out.1 (fun _ _ h => h)) (KU.out.1.ne (Nat.le_of_lt K4.out.2.2.2.1)) hlen
  clear d0 d1 d2
  go_wp2_with fail
  go_at_call 14
  refine hUd.mono ?_
  rintro e w5 ⟨v, rfl, _, hIB, hC5⟩
  clear hUd
  obtain ⟨S1, hS1⟩ : ∃ S1, S1 = runS sets n line (fun _ => []) F len := ⟨_, rfl⟩
  rw [← hS1] at hIB
  obtain ⟨k1, k2, k3, k4, k5, k6, k7, k8, k9⟩ := K4.out
  have hBd : Bd sets line S1 := by rw [hS1]; exact Bd.run (fun k x hx => by cases hx) k8.s1 k9 F len KU.out.1.lt
  have hC05 : Chg w w5 (fun _ => False) := k1.trans hC5 (fun i hi e => by omega)
  have hID := k3.kept hC5 (show ¬ D = B from fun e => k6 e.symm)
  have K5 : Hid (Chg w w5 (fun _ => False) ∧ IsC w5 B sets n line S1 ∧ Bd sets line S1) := ⟨hC05, hIB, hBd⟩
  have hUd := used_any w5 D sets n line _ hID a' len' cap' F' (KU.out.2.1.kept hC05 (fun _ _ h => h)) (KU.out.2.1.ne (Nat.le_of_lt k5)) hlen'
  have KK : Hid (w.heap.size < B ∧ w.heap.size < D ∧ B ≠ D ∧ ShOk sets n line) := ⟨k4, k5, k6, k8⟩
  clear hIB hBd hC05 hID hC5 K4 hS1 k1 k2 k3 k4 k5 k6 k7 k8 k9
  go_wp2_with fail
  go_at_call 14
  refine hUd.mono ?_
  rintro e w6 ⟨v', rfl, _, hID, hC6⟩
  clear hUd
  obtain ⟨S2, hS2⟩ : ∃ S2, S2 = runS sets n line (fun _ => []) F' len' := ⟨_, rfl⟩
  rw [← hS2] at hID
  obtain ⟨k4, k5, k6, k8⟩ := KK.out
  have hIB := K5.out.2.1.kept hC6 (show ¬ B = D from k6)
  have hLi := lines_any w6 B sets n line S1 hIB
  have K6 : Hid (Chg w w6 (fun _ => False) ∧ IsC w6 B sets n line S1 ∧ IsC w6 D sets n line S2 ∧ Bd sets line S1) := ⟨K5.out.1.trans hC6 (fun i hi e => by omega), hIB, hID, K5.out.2.2⟩
  clear hIB hID hC6 hS2 K5
  go_wp2_with fail
  go_at_call 17
  refine hLi.mono ?_
  rintro e w7 ⟨lv, rfl, hLv, hC7⟩
  clear hLi
  obtain ⟨o1, o2⟩ := ok_all K6.out.2.2.2 K6.out.2.1.good
  have hll : (linesN S1 sets).length ≤ 2048 := Nat.le_trans (linesN_len S1 8 (fun k => Nat.le_trans (K6.out.2.1.good k).le k8.w2) sets) (by have := k8.s2; omega)
  have hLo := load_yes w7 D sets n line S2 (K6.out.2.2.1.kept hC7 (fun h => h)) w6.heap.size lv _ hLv (by omega) o1
  rw [o2] at hLo
  have hDl := K6.out.2.2.1.lt
  have hBl := K6.out.2.1.lt
  have K7 : Hid (Chg w w7 (fun _ => False) ∧ IsC w7 B sets n line S1 ∧ Lv w7 w6.heap.size lv (linesN S1 sets)) := ⟨K6.out.1.trans hC7 (fun _ _ h => h), K6.out.2.1.kept hC7 (fun h => h), hLv⟩
  clear hLv hC7 o1 o2 K6
  go_wp2_with fail
  go_at_call 19
  refine hLo.mono ?_
  rintro e w8 ⟨rfl, hID, hC8⟩
  clear hLo
  have hLv := K7.out.2.2.kept (S := fun k => k = D) hC8 (fun k h1 _ e => by omega)
  have K8 : Hid (Chg w w8 (fun _ => False) ∧ IsC w8 B sets n line S1 ∧ IsC w8 D sets n line S1) := ⟨K7.out.1.trans hC8 (fun i hi e => by omega), K7.out.2.1.kept hC8 (show ¬ B = D from k6), hID⟩
  clear hID hC8 K7
  generalize linesN S1 sets = L at *
  obtain ⟨va, vc, rfl⟩ := hLv.len
  obtain ⟨m, hm⟩ : ∃ m, m = L.length := ⟨_, rfl⟩
  rw [← hm] at hll ⊢
  have hrow : m = 0 ∨ ∃ g, va = some ⟨g, 0, none⟩ ∧ w6.heap.size ≤ g ∧ g < w8.heap.size ∧ ∃ cur, w8.heap[g]? = some (.cells cur 51 (0, 0)) ∧ m * 3 ≤ cur.size := by
    by_cases h0 : m = 0
    · exact .inl h0
    · right
      obtain ⟨g, cap, cur, e, _, hg, hnc, _, hcs, _⟩ := hLv.row.2.resolve_left (by rintro ⟨_, h⟩; omega)
      simp only [Value.slice.injEq] at e
      obtain ⟨rfl, _, rfl⟩ := e
      refine ⟨g, rfl, hLv.fresh g rfl, (Array.getElem?_eq_some_iff.1 hg).1, cur, hg, ?_⟩
      rw [hcs]; have := Nat.mul_le_mul_right 3 hnc; omega
  have KR : Hid (m = 0 ∨ ∃ g, va = some ⟨g, 0, none⟩ ∧ w6.heap.size ≤ g ∧ g < w8.heap.size ∧ ∃ cur, w8.heap[g]? = some (.cells cur 51 (0, 0)) ∧ m * 3 ≤ cur.size) := hrow
  clear hrow hLv hm
  go_wp2
  go_loopw [16] (fun i wr => ∃ j : Nat, j ≤ m ∧ i = .int .i64 j ∧ (m = 0 ∨ ∃ g, va = some ⟨g, 0, none⟩ ∧ ∃ cur, wr.heap[g]? = some (.cells cur 51 (0, 0)) ∧ m * 3 ≤ cur.size) ∧ Chg w8 wr (fun k => w6.heap.size ≤ k)) (fun i _ => m - (intOf i).toNat)
  case atStart => exact ⟨0, by omega, rfl, KR.out.imp_right (fun ⟨g, e, _, _, h⟩ => ⟨g, e, h⟩), Chg.refl _ _⟩
  case round =>
    obtain ⟨j, hj, rfl, hrow, hC⟩ := hrel
    by_cases hlt : j < m
    · obtain ⟨g, rfl, cur, hg, hcs⟩ := hrow.resolve_left (by omega)
      obtain ⟨g', e, hg6, hg8, _⟩ := KR.out.resolve_left (by omega)
      simp only [Option.some.injEq, Addr.mk.injEq, and_true] at e
      subst e
      have s0 := (cells_at hg (j * 3))
      have s1 := (cells_at hg (j * 3 + 1))
      have s2 := (cells_at hg (j * 3 + 2))
      rw [Array.getElem?_eq_getElem (by omega)] at s0 s1 s2
      obtain ⟨s0, f0⟩ := s0
      obtain ⟨s1, f1⟩ := s1
      obtain ⟨s2, f2⟩ := s2
      generalize cur[j * 3] = z0 at s0
      generalize cur[j * 3 + 1] = z1 at s1
      generalize cur[j * 3 + 2] = z2 at s2
      have KJ : Hid (wr.heap[g]? = some (.cells cur 51 (0, 0)) ∧ Chg w8 wr (fun k => w6.heap.size ≤ k)) := ⟨hg, hC⟩
      clear hg hC hrow
      go_wp2
      have h1 := heap_setCell_same wr g (j * 3) cur 51 (.int .u32 0) KJ.out.1
      have h2 := heap_setCell_same _ g (j * 3 + 1) _ 51 (.int .u32 0) h1
      have h3 := heap_setCell_same _ g (j * 3 + 2) _ 51 (.bool false) h2
      refine ⟨⟨j + 1, by omega, by go_num, .inr ⟨g, rfl, _, h3, by simpa using hcs⟩, ?_⟩, by simp [intOf]; omega⟩
      exact Chg.setCell (S := fun k => w6.heap.size ≤ k) (Chg.setCell (S := fun k => w6.heap.size ≤ k) (Chg.setCell (S := fun k => w6.heap.size ≤ k) KJ.out.2 (.inl hg6) _) (.inl hg6) _) (.inl hg6) _
    · obtain ⟨z1, z2, z3⟩ := K8.out
      have hCr : Chg w wr (fun _ => False) := z1.trans hC (fun i hi e => by omega)
      have hIB := z2.kept hC (show ¬ w6.heap.size ≤ B by omega)
      have hID := z3.kept hC (show ¬ w6.heap.size ≤ D by omega)
      have hUd := used_any wr B sets n line _ hIB a'' len'' cap'' F'' (KU.out.2.2.kept hCr (fun _ _ h => h)) (KU.out.2.2.ne (Nat.le_of_lt k4)) hlen''
      have K9 : Hid (Chg w wr (fun _ => False) ∧ IsC wr D sets n line S1) := ⟨hCr, hID⟩
      clear hrow hC hCr hIB hID z1 z2 z3 K8 KR
      go_wp2_with fail
      go_at_call 14
      refine hUd.mono ?_
      rintro e w9 ⟨v1, rfl, hT1, hIB, hC9⟩
      clear hUd
      have hC09 : Chg w w9 (fun _ => False) := K9.out.1.trans hC9 (fun i hi e => by omega)
      have hID := K9.out.2.kept hC9 (show ¬ D = B from fun e => k6 e.symm)
      have hDr := K9.out.2.lt
      have hUd := used_any w9 D sets n line _ hID a'' len'' cap'' F'' (KU.out.2.2.kept hC09 (fun _ _ h => h)) (KU.out.2.2.ne (Nat.le_of_lt k5)) hlen''
      have K10 : Hid (Chg w w9 (fun _ => False) ∧ IsC w9 B sets n line (runS sets n line S1 F'' len'') ∧ Ts w9 wr.heap.size v1 len'' (tch sets n line S1 F'')) := ⟨hC09, hIB, hT1⟩
      clear hC9 hC09 hIB hID hT1 K9
      go_wp2_with fail
      go_at_call 14
      refine hUd.mono ?_
      rintro e w10 ⟨v2, rfl, hT2, hID, hC10⟩
      clear hUd
      have hT1 := K10.out.2.2.kept (S := fun k => k = D) hC10 (fun k h1 _ e => by omega)
      have hSm := same_yes w10 _ _ v1 v2 len'' _ hT1 hT2 hlen''
      have hIB := K10.out.2.1.kept hC10 (show ¬ B = D from k6)
      have K11 : Hid (Chg w w10 (fun _ => False) ∧ IsC w10 B sets n line (runS sets n line S1 F'' len'') ∧ IsC w10 D sets n line (runS sets n line S1 F'' len'')) := ⟨K10.out.1.trans hC10 (fun i hi e => by omega), hIB, hID⟩
      clear hT1 hT2 hIB hID hC10 K10
      generalize runS sets n line S1 F'' len'' = S3 at *
      go_wp2_with fail
      go_at_call 20
      refine hSm.mono ?_
      rintro e w11 ⟨rfl, hC11⟩
      clear hSm
      have hF1 := flush_any w11 B sets n line S3 (K11.out.2.1.kept hC11 (fun h => h))
      have K12 : Hid (Chg w w11 (fun _ => False) ∧ IsC w11 D sets n line S3) := ⟨K11.out.1.trans hC11 (fun _ _ h => h), K11.out.2.2.kept hC11 (fun h => h)⟩
      clear hC11 K11
      generalize hdn : dirtyN S3 sets = dn at hF1
      go_wp2_with fail
      go_at_call 18
      refine hF1.mono ?_
      rintro e w12 ⟨rfl, hIB, hC12⟩
      clear hF1 hIB
      have hF2 := flush_any w12 D sets n line S3 (K12.out.2.kept hC12 (show ¬ D = B from fun e => k6 e.symm))
      rw [hdn] at hF2
      have K13 : Hid (Chg w w12 (fun _ => False)) := K12.out.1.trans hC12 (fun i hi e => by omega)
      clear hC12 K12 hdn
      go_wp2_with fail
      go_at_call 18
      refine hF2.mono ?_
      rintro e w13 ⟨rfl, hID, hC13⟩
      clear hF2 hID
      have K14 : Hid (Chg w w13 (fun _ => False)) := K13.out.trans hC13 (fun i hi e => by omega)
      clear hC13 K13
      go_wp2
      go_ret
      exact ⟨rfl, K14.out.below (Nat.le_refl _) (fun _ _ h => h)⟩
end Go.Proofs.Ytppcfofkneaigaa
