import Derived.Test.YtppcfofkneaigaaFl
namespace Go.Proofs.Ytppcfofkneaigaa
open Go.ChangeShapes Go.WideShapes Go.ChangeAt Go.RowKit
set_option linter.unusedVariables false

theorem atT_head (t : Nat) (d : Bool) (l : List Ln) : atT ((t, d) :: l) t = 0 := by simp [atT, List.findIdx_cons]
theorem acc_hit (sets ways line : Nat) (st : Nat → List Ln) (a : Nat) (wr : Bool) : hitA sets line (accS sets ways line st a wr) a = true ∧ drtA sets line (accS sets ways line st a wr) a = (drtA sets line st a || wr) := by
  have e : accS sets ways line st a wr (setOf sets line a) = useL (st (setOf sets line a)) (tagOf sets line a) ways wr := by simp [accS, setS]
  have h1 : hitA sets line (accS sets ways line st a wr) a = true := by
    unfold hitA
    rw [e, useL, hitL, atT_head]
    simp
  refine ⟨h1, ?_⟩
  unfold hitA at h1
  unfold drtA
  rw [drtL, h1, e, useL, atT_head]
  simp
theorem hit_back (sets ways line : Nat) (st : Nat → List Ln) (a : Nat) (h : hitA sets line st a = true) : backA sets ways line st a = false := by
  unfold hitA at h
  simp [backA, backL, h]
theorem dirty_lines (st : Nat → List Ln) : ∀ n, dirtyN st n ≤ (linesN st n).length
  | 0 => by simp [dirtyN]
  | n + 1 => by
    have h1 := dirty_lines st n
    have h2 := cntD_le (st n)
    simp only [dirtyN, linesN, List.length_append, List.length_map]; omega
theorem lines_none : ∀ n, linesN (fun _ => []) n = []
  | 0 => rfl
  | n + 1 => by simp [linesN, lines_none n]
theorem Lv.len {w : World} {base : Nat} {v : Value} {L : List (Nat × Ln)} (h : Lv w base v L) : ∃ a cap, v = .slice a L.length cap := by
  rcases h.row.2 with ⟨rfl, h0⟩ | ⟨g, cap, cur, rfl, _⟩
  · exact ⟨none, 0, by rw [h0]⟩
  · exact ⟨_, _, rfl⟩

set_option maxHeartbeats 4000000 in
set_option maxRecDepth 10000 in
theorem worst_walk (w : World) (x0 x1 x2 : Int) (i0 : InI x0) (i1 : InI x1) (i2 : InI x2) (a : Option Addr) (len cap : Nat) (F : Nat → Nat × Bool) (hU : UsesIn w a len F) :
    Calls Try.prog 5 #[.agg #[.int .i64 x0, .int .i64 x1, .int .i64 x2], .slice a len cap] w fun e w' => e = .returned (.bool true) ∧ Below w.heap.size w w' := by
  have hn := ptr_nil_no
  have KU : Hid (UsesIn w a len F) := hU
  have hle := hU.le
  clear hU
  go_enter Try.func5, Try.ntmps5
  go_wp2_with fail
  go_at_call 9
  refine (awake_any _).mono ?_
  rintro e w1 ⟨rfl, hC1⟩
  have t1 := hC1.heap (heap_alloc_new w _) (fun h => h)
  obtain ⟨d0, d1, d2, f0, f1, f2⟩ := cells3 t1
  have K1 : Hid (Chg w w1 (fun _ => False) ∧ w1.heap[w.heap.size]? = some (.cells #[.int .i64 x0, .int .i64 x1, .int .i64 x2] 23 (0, 0))) := ⟨((Chg.refl w _).alloc _).trans hC1 (fun _ _ h => h), t1⟩
  clear t1 hC1
  go_wp2_with fail
  go_at_call 10
  refine (shape_any _ x0 x1 x2 i0 i1 i2).mono ?_
  rintro e w2 ⟨sets, n, line, rfl, hS, p1, p2, hC2⟩
  clear d0 d1 d2 f0 f1 f2
  have t2 := hC2.heap K1.out.2 (fun h => h)
  obtain ⟨d0, d1, d2, f0, f1, f2⟩ := cells3 t2
  obtain ⟨V, hV⟩ : ∃ V, V = (((w2.setCell ⟨w.heap.size, 0, none⟩ (.int .i64 sets)).setCell ⟨w.heap.size, 1, none⟩ (.int .i64 n)).setCell ⟨w.heap.size, 2, none⟩ (.int .i64 line)) := ⟨_, rfl⟩
  obtain ⟨v1, v2, v3⟩ := box3 t2 _ _ _ hV
  have KV : Hid (V.heap[w.heap.size]? = some (.cells #[.int .i64 sets, .int .i64 n, .int .i64 line] 23 (0, 0)) ∧ Chg w V (fun _ => False) ∧ ShOk sets n line) := ⟨v1, (K1.out.1.trans hC2 (fun _ _ h => h)).trans v3 (fun i hi e => by omega), hS⟩
  have hN := fun w => new_yes w sets n line hS p1 p2
  have hWo := fun w => worst_yes w sets n line hS p1 p2
  have HV : Hid (V = (((w2.setCell ⟨w.heap.size, 0, none⟩ (.int .i64 sets)).setCell ⟨w.heap.size, 1, none⟩ (.int .i64 n)).setCell ⟨w.heap.size, 2, none⟩ (.int .i64 line))) := hV
  clear t2 hC2 hS p1 p2 K1 i0 i1 i2 hV v1 v2 v3
  go_wp2_with fail
  rw [← HV.out]
  clear HV d0 d1 d2 f0 f1 f2
  go_at_call 12
  refine (hN _).mono ?_
  rintro e w3 ⟨B, rfl, hI, hB, hC3⟩
  have u1 := hC3.heap KV.out.1 (fun h => h)
  obtain ⟨d0, d1, d2, _, _, _⟩ := cells3 u1
  have K3 : Hid (Chg w w3 (fun _ => False) ∧ IsC w3 B sets n line (fun _ => []) ∧ w.heap.size < B ∧ w3.heap[w.heap.size]? = some (.cells #[.int .i64 sets, .int .i64 n, .int .i64 line] 23 (0, 0)) ∧ ShOk sets n line) := ⟨KV.out.2.1.trans hC3 (fun _ _ h => h), hI, by have := (Array.getElem?_eq_some_iff.1 KV.out.1).1; omega, u1, KV.out.2.2⟩
  clear hI hB hC3 u1 KV
  go_wp2_with fail
  go_at_call 15
  refine (hWo _).mono ?_
  rintro e w4 ⟨rfl, hC4⟩
  clear d0 d1 d2
  have u1 := hC4.heap K3.out.2.2.2.1 (fun h => h)
  have K4 : Hid (Chg w w4 (fun _ => False) ∧ IsC w4 B sets n line (fun _ => []) ∧ w.heap.size < B ∧ w4.heap[w.heap.size]? = some (.cells #[.int .i64 sets, .int .i64 n, .int .i64 line] 23 (0, 0)) ∧ ShOk sets n line) :=
    ⟨K3.out.1.trans hC4 (fun _ _ h => h), K3.out.2.1.kept hC4 (fun h => h), K3.out.2.2.1, u1, K3.out.2.2.2.2⟩
  clear hC4 K3 hN u1 hWo
  obtain ⟨mx, hmx⟩ : ∃ mx, mx = sets * n := ⟨_, rfl⟩
  rw [← hmx]
  have hmx2 : mx ≤ 2048 := by rw [hmx]; exact Nat.mul_le_mul K4.out.2.2.2.2.s2 K4.out.2.2.2.2.w2
  have emx : IntKind.i64.wrap ((sets : Int) * (n : Int)) = (mx : Int) := by
    rw [show (sets : Int) * (n : Int) = ((sets * n : Nat) : Int) from by simp, ← hmx]
    simp [IntKind.wrap, IntKind.bits, IntKind.signed]; omega
  have HMX : Hid (mx = sets * n) := hmx
  clear hmx
  go_wp2
  go_loopw [10] (fun i wr => ∃ (j : Nat) (st : Nat → List Ln), j ≤ len ∧ i = .int .i64 j ∧ IsC wr B sets n line st ∧ Chg w4 wr (fun k => k = B)) (fun i _ => len - (intOf i).toNat)
  case atStart => exact ⟨0, _, by omega, rfl, K4.out.2.1, Chg.refl _ _⟩
  case round =>
    obtain ⟨j, st, hj, rfl, hI, hC⟩ := hrel
    obtain ⟨q1, q2, q3, q4, q5⟩ := K4.out
    by_cases hlt : j < len
    · skip; (
        obtain ⟨b, off, rfl, hbw, hcell⟩ := KU.out.src.resolve_left (by omega)
        have hCw : Chg w wr (fun _ => False) := q1.trans hC (fun i hi e => by omega)
        have c0 := (hCw.cell (o := off + j * 2) hbw (fun h => h)).trans (hcell j hlt).1
        have c1 := (hCw.cell (o := off + j * 2 + 1) hbw (fun h => h)).trans (hcell j hlt).2
        have hFl := KU.out.lt j hlt
        have hbr : b < wr.heap.size := Nat.lt_of_lt_of_le hbw hCw.size
        generalize (F j).2 = wb at c1
        generalize (F j).1 = ad at c0 hFl
        have hA := fun V (hV : Chg wr V (fun _ => False)) => acc_any V B sets n line st (hI.kept hV (fun h => h)) ad hFl wb
        have hH := fun V (hV : IsC V B sets n line (accS sets n line st ad wb)) => holds_any V B sets n line _ hV ad hFl
        obtain ⟨m1, m2⟩ := acc_hit sets n line st ad wb
        have m3 := hit_back sets n line st ad
        rw [m1, m2] at hH
        have hBl := hI.lt
        have KC : Hid (Chg w4 wr (fun k => k = B)) := hC
        clear hcell hI hC hCw q1 q2 q4 q5 m1 m2
        generalize hitA sets line st ad = hit at *
        generalize backA sets n line st ad = back at *
        generalize drtA sets line st ad = drt at *
        have hca := (Chg.refl wr (fun _ => False)).drew
        have hcb := ((Chg.refl wr (fun _ => False)).alloc (.cells #[.bool false, .bool false, .int .i64 0] 33)).drew
        go_wp2_with fail
        apply of_leaf2 (Leaf wr B sets n line (accS sets n line st ad wb) hit back)
        rotate_left
        · intro hT
          go_region_with (go_at_call 13; refine (hA _ (by first | exact hca | exact hcb)).mono ?_; rintro e w5 ⟨rfl, hI5, hC5⟩; (try (obtain ⟨x0, x1, x2, x3, x4, x5⟩ := cells3 (hC5.heap (heap_alloc_new wr _) (show ¬ wr.heap.size = B by omega)))))
          all_goals first
            | (obtain ⟨w6, hw6⟩ : ∃ x, x = w5.alloc (.cells #[.bool hit, .bool back, .int .i64 (cyc hit back)] 33) := ⟨_, rfl⟩
               obtain ⟨p, hp⟩ : ∃ p, p = w5.heap.size := ⟨_, rfl⟩
               rw [← hw6, ← hp]
               exact hT p w6 (leafA hw6 hp hI5 hC5))
            | (obtain ⟨p, hp⟩ : ∃ p, p = wr.heap.size := ⟨_, rfl⟩
               rw [← hp]
               obtain ⟨w6, hw6⟩ : ∃ x, x = ((w5.setCell ⟨p, 0, none⟩ (.bool hit)).setCell ⟨p, 1, none⟩ (.bool back)).setCell ⟨p, 2, none⟩ (.int .i64 (cyc hit back)) := ⟨_, rfl⟩
               rw [← hw6]
               exact hT p w6 (leafB hp hw6 hBl hI5 hC5))
        clear hA hca hcb
        intro p w6 hL
        have c0' := (hL.chg.cell (o := off + j * 2) hbr (show ¬ b = B by omega)).trans c0
        have hHo := hH w6 hL.isc
        have KL : Hid (Leaf wr B sets n line (accS sets n line st ad wb) hit back p w6) := hL
        clear hL hH c0
        go_wp2_with fail
        go_at_call 16
        refine hHo.mono ?_
        rintro e w7 ⟨rfl, hC7⟩
        obtain ⟨y0, y1, y2, _, _, _⟩ := cells3 (hC7.heap KL.out.res (fun h => h))
        have hb6 : b < w6.heap.size := Nat.lt_of_lt_of_le hbr KL.out.chg.size
        have c1' := (hC7.cell (o := off + j * 2 + 1) hb6 (fun h => h)).trans ((KL.out.chg.cell (o := off + j * 2 + 1) hbr (show ¬ b = B by omega)).trans c1)
        have KR : Hid (IsC w7 B sets n line (accS sets n line st ad wb) ∧ Chg w4 w7 (fun k => k = B)) := ⟨KL.out.isc.kept hC7 (fun h => h), (KC.out.trans KL.out.chg (fun _ _ h => h)).trans hC7 (fun _ _ h => h.elim)⟩
        clear hC7 hHo c0' KL KC c1
        have hcy : cyc hit back ≤ 20 := by
          cases hit <;> cases back <;> first | decide | (have := m3 rfl; cases this)
        generalize cyc hit back = cc at *
        have hcy2 : ¬ (20 < cc) := by omega
        cases back with
        | true =>
          have hh : hit = false := by
            cases hit
            · rfl
            · have := m3 rfl; cases this
          subst hh
          cases wb with
          | true =>
            rw [Bool.or_true]
            go_wp2
            exact ⟨⟨j + 1, _, by omega, by go_num, KR.out⟩, by simp [intOf]; omega⟩
          | false =>
            go_wp2
            exact ⟨⟨j + 1, _, by omega, by go_num, KR.out⟩, by simp [intOf]; omega⟩
        | false =>
          clear m3
          cases wb with
          | true =>
            rw [Bool.or_true]
            go_wp2
            exact ⟨⟨j + 1, _, by omega, by go_num, KR.out⟩, by simp [intOf]; omega⟩
          | false =>
            go_wp2
            exact ⟨⟨j + 1, _, by omega, by go_num, KR.out⟩, by simp [intOf]; omega⟩)
    · skip; (
        have hLi := lines_any wr B sets n line st hI
        have hCw : Chg w wr (fun _ => False) := q1.trans hC (fun i hi e => by omega)
        have hwr := hC.heap q4 (show ¬ w.heap.size = B by omega)
        have hll := linesN_len st n (fun k => (hI.good k).le) sets
        have hdl := dirty_lines st sets
        rw [← HMX.out] at hll
        have KI : Hid (IsC wr B sets n line st ∧ Chg w wr (fun _ => False) ∧ wr.heap[w.heap.size]? = some (.cells #[.int .i64 sets, .int .i64 n, .int .i64 line] 23 (0, 0))) := ⟨hI, hCw, hwr⟩
        have hs256 := q5.s2
        clear hI hC hCw hwr q1 q2 q4 q5
        go_wp2_with fail
        go_at_call 17
        refine hLi.mono ?_
        rintro e w5 ⟨v, rfl, hLv, hC5⟩
        obtain ⟨va, vc, rfl⟩ := hLv.len
        have hFl := flush_any w5 B sets n line st (KI.out.1.kept hC5 (fun h => h))
        generalize (linesN st sets).length = nl at *
        generalize dirtyN st sets = dn at *
        have K5 : Hid (Chg w w5 (fun _ => False) ∧ w5.heap[w.heap.size]? = some (.cells #[.int .i64 sets, .int .i64 n, .int .i64 line] 23 (0, 0))) := ⟨KI.out.2.1.trans hC5 (fun _ _ h => h), hC5.heap KI.out.2.2 (fun h => h)⟩
        clear hLv hC5 hLi
        go_wp2_with fail
        go_at_call 18
        refine hFl.mono ?_
        rintro e w6 ⟨rfl, hI6, hC6⟩
        have hLi2 := lines_any w6 B sets n line _ hI6
        rw [lines_none] at hLi2
        have K6 : Hid (Chg w w6 (fun _ => False) ∧ w6.heap[w.heap.size]? = some (.cells #[.int .i64 sets, .int .i64 n, .int .i64 line] 23 (0, 0))) := ⟨K5.out.1.trans hC6 (fun i hi e => by omega), hC6.heap K5.out.2 (show ¬ w.heap.size = B by omega)⟩
        clear hI6 hC6 hFl K5
        go_wp2_with fail
        go_at_call 17
        refine hLi2.mono ?_
        rintro e w7 ⟨v, rfl, hLv, hC7⟩
        obtain ⟨va2, vc2, rfl⟩ := hLv.len
        obtain ⟨d0, d1, d2, _, _, _⟩ := cells3 (hC7.heap K6.out.2 (fun h => h))
        have K7 : Hid (Chg w w7 (fun _ => False)) := K6.out.1.trans hC7 (fun _ _ h => h)
        clear hLv hC7 hLi2 K6
        have z1 : ((sets + 8 * dn : Nat) : Int) ≤ ((sets + 8 * mx : Nat) : Int) := by omega
        have z2 : (dn : Int) ≤ (nl : Int) := by omega
        have z3 : (nl : Int) ≤ (mx : Int) := by omega
        go_wp2
        go_ret
        exact ⟨rfl, K7.out.below (Nat.le_refl _) (fun _ _ h => h)⟩)
end Go.Proofs.Ytppcfofkneaigaa
