import Derived.Test.YtppcfofkneaigaaUd
import Derived.Laws.StructEq
namespace Go.Proofs.Ytppcfofkneaigaa
open Go.ChangeShapes Go.WideShapes Go.ChangeAt Go.RowKit
set_option linter.unusedVariables false

theorem Ts.cells {w : World} {base : Nat} {v : Value} {n : Nat} {f : Nat → Bool × Bool} (h : Ts w base v n f) (hn : 0 < n) : ∃ g cap, v = .slice (some ⟨g, 0, none⟩) n cap ∧ base ≤ g ∧ g < w.heap.size ∧ ∀ i, i < n → w.cell? ⟨g, i * 3, none⟩ = some (.bool (f i).1) ∧ w.cell? ⟨g, i * 3 + 1, none⟩ = some (.bool (f i).2) ∧ w.cell? ⟨g, i * 3 + 2, none⟩ = some (.int .i64 (cyc (f i).1 (f i).2)) := by
  obtain ⟨g, cap, cur, rfl, _, hg, hnc, _⟩ := h.row.2.resolve_left (by rintro ⟨_, h⟩; omega)
  refine ⟨g, cap, rfl, h.fresh g rfl, (Array.getElem?_eq_some_iff.1 hg).1, fun i hi => ?_⟩
  have q : ∀ q, q < 3 → w.cell? ⟨g, i * 3 + q, none⟩ = (tCells (f i))[q]? := fun q hq => by
    rw [h.row.cellAt (i * 3 + q) (by omega), tList_get f n i q hi hq]
  exact ⟨q 0 (by omega), q 1 (by omega), q 2 (by omega)⟩

theorem fields33 : Try.prog.underlying 33 = some (.struct (Try.prog.fieldsOf 33)) := by simp [Program.fieldsOf, Try.underlying33]
theorem stood33 : Try.prog.stoodInHeld 33 = false := by kernel_rfl
theorem neq33 (a b : Bool) (c : Int) (w : World) : (binOp BinOp.neq 33 (.agg #[.bool a, .bool b, .int .i64 c]) (.agg #[.bool a, .bool b, .int .i64 c])).run Try.prog w = .ok (.bool false) w := by
  rw [run_neq_struct, run_equalIn_agg w 9999 33 _ _ fields33 stood33]
  simp [Program.fieldsOf, Try.underlying33, go_sem]

theorem apart_same {sets ways line : Nat} {s1 s2 : Nat → List Ln} {k a : Nat} {wr : Bool} (h : s1 k = s2 k) (ha : setOf sets line a = k) :
    hitA sets line s1 a = hitA sets line s2 a ∧ backA sets ways line s1 a = backA sets ways line s2 a ∧ accS sets ways line s1 a wr k = accS sets ways line s2 a wr k := by
  unfold hitA backA accS setS
  rw [ha, h]
  exact ⟨rfl, rfl, by simp⟩
theorem apart_other {sets ways line : Nat} {s1 : Nat → List Ln} {k a : Nat} {wr : Bool} (ha : ¬ setOf sets line a = k) : accS sets ways line s1 a wr k = s1 k := by
  unfold accS setS
  rw [if_neg (fun e => ha e.symm)]

set_option maxHeartbeats 2000000 in
set_option maxRecDepth 10000 in
theorem apart_walk (w : World) (x0 x1 x2 : Int) (i0 : InI x0) (i1 : InI x1) (i2 : InI x2) (a : Option Addr) (len cap : Nat) (F : Nat → Nat × Bool) (hU : UsesIn w a len F) (hlen : len ≤ 1048576) (which : Int) (i3 : InI which) :
    Calls Try.prog 4 #[.agg #[.int .i64 x0, .int .i64 x1, .int .i64 x2], .slice a len cap, .int .i64 which] w fun e w' => e = .returned (.bool true) ∧ Below w.heap.size w w' := by
  have hn := ptr_nil_no
  have KU : Hid (UsesIn w a len F) := hU
  clear hU
  go_enter Try.func4, Try.ntmps4
  go_wp2_with fail
  go_at_call 9
  refine (awake_any _).mono ?_
  rintro e w1 ⟨rfl, hC1⟩
  have t1 := hC1.heap (heap_alloc_new w _) (fun h => h)
  obtain ⟨d0, d1, d2, f0, f1, f2⟩ := cells3 t1
  have K1 : Hid (Chg w w1 (fun _ => False) ∧ w1.heap[w.heap.size]? = some (.cells #[.int .i64 x0, .int .i64 x1, .int .i64 x2] 23 (0, 0))) := ⟨((Chg.refl w _).alloc _).trans hC1 (fun _ _ h => h), t1⟩
  clear t1 hC1
  go_wp2_with fail
  go_at_call 10
  refine (shape_any _ x0 x1 x2 i0 i1 i2).mono ?_
  rintro e w2 ⟨sets, n, line, rfl, hS, p1, p2, hC2⟩
  clear d0 d1 d2 f0 f1 f2
  have t2 := hC2.heap K1.out.2 (fun h => h)
  obtain ⟨d0, d1, d2, f0, f1, f2⟩ := cells3 t2
  obtain ⟨V, hV⟩ : ∃ V, V = (((w2.setCell ⟨w.heap.size, 0, none⟩ (.int .i64 sets)).setCell ⟨w.heap.size, 1, none⟩ (.int .i64 n)).setCell ⟨w.heap.size, 2, none⟩ (.int .i64 line)) := ⟨_, rfl⟩
  obtain ⟨v1, v2, v3⟩ := box3 t2 _ _ _ hV
  have KV : Hid (V.heap[w.heap.size]? = some (.cells #[.int .i64 sets, .int .i64 n, .int .i64 line] 23 (0, 0)) ∧ Chg w V (fun _ => False) ∧ ShOk sets n line) := ⟨v1, (K1.out.1.trans hC2 (fun _ _ h => h)).trans v3 (fun i hi e => by omega), hS⟩
  have hN := fun w => new_yes w sets n line hS p1 p2
  have HV : Hid (V = (((w2.setCell ⟨w.heap.size, 0, none⟩ (.int .i64 sets)).setCell ⟨w.heap.size, 1, none⟩ (.int .i64 n)).setCell ⟨w.heap.size, 2, none⟩ (.int .i64 line))) := hV
  clear t2 hC2 hS p1 p2 K1 i0 i1 i2 hV v1 v2 v3
  go_wp2_with fail
  rw [← HV.out]
  clear HV d0 d1 d2 f0 f1 f2
  go_at_call 12
  refine (hN _).mono ?_
  rintro e w3 ⟨B, rfl, hI, hB, hC3⟩
  have u1 := hC3.heap KV.out.1 (fun h => h)
  obtain ⟨d0, d1, d2, _, _, _⟩ := cells3 u1
  have K3 : Hid (Chg w w3 (fun _ => False) ∧ IsC w3 B sets n line (fun _ => []) ∧ w.heap.size < B ∧ w3.heap[w.heap.size]? = some (.cells #[.int .i64 sets, .int .i64 n, .int .i64 line] 23 (0, 0)) ∧ ShOk sets n line) := ⟨KV.out.2.1.trans hC3 (fun _ _ h => h), hI, by have := (Array.getElem?_eq_some_iff.1 KV.out.1).1; omega, u1, KV.out.2.2⟩
  clear hI hB hC3 u1 KV
  go_wp2_with fail
  go_at_call 12
  refine (hN _).mono ?_
  rintro e w4 ⟨D, rfl, hI, hD, hC4⟩
  clear d0 d1 d2
  have u1 := hC4.heap K3.out.2.2.2.1 (fun h => h)
  obtain ⟨d0, d1, d2, _, _, _⟩ := cells3 u1
  have K4 : Hid (Chg w w4 (fun _ => False) ∧ IsC w4 B sets n line (fun _ => []) ∧ IsC w4 D sets n line (fun _ => []) ∧ w.heap.size < B ∧ w.heap.size < D ∧ B ≠ D ∧ w4.heap[w.heap.size]? = some (.cells #[.int .i64 sets, .int .i64 n, .int .i64 line] 23 (0, 0)) ∧ ShOk sets n line) :=
    ⟨K3.out.1.trans hC4 (fun _ _ h => h), K3.out.2.1.kept hC4 (fun h => h), hI, K3.out.2.2.1, by have := (Array.getElem?_eq_some_iff.1 K3.out.2.2.2.1).1; omega, by have := K3.out.2.1.lt; omega, u1, K3.out.2.2.2.2⟩
  clear hI hD hC4 K3 hN u1
  have hsp := K4.out.2.2.2.2.2.2.2
  have hP := fun w => pick_any w which sets hsp.s1 (by have := hsp.s2; omega) i3
  have hk := pk_lt which sets hsp.s1
  have hs256 := hsp.s2
  have hl256 := hsp.l2
  have hs1 := hsp.s1
  have hl16 := hsp.l1
  clear hsp i3
  generalize pk which sets = k at hP hk
  go_wp2_with fail
  go_at_call 11
  refine (hP _).mono ?_
  rintro e w5 ⟨rfl, rfl⟩
  have hUd := used_any w5 B sets n line _ K4.out.2.1 a len cap F (KU.out.kept K4.out.1 (fun _ _ h => h)) (fun b off e h0 => by
    obtain ⟨b', off', e', hb', _⟩ := KU.out.src.resolve_left (by omega)
    rw [e] at e'; cases e'
    have := K4.out.2.2.2.1; omega) hlen
  clear hP d0 d1 d2
  go_wp2_with fail
  go_at_call 14
  refine hUd.mono ?_
  rintro e w6 ⟨v, rfl, hTs, hIB, hC6⟩
  have u1 := hC6.heap K4.out.2.2.2.2.2.2.1 (show ¬ w.heap.size = B by have := K4.out.2.2.2.1; omega)
  have K6 : Hid (Ts w6 w5.heap.size v len (tch sets n line (fun _ => []) F) ∧ IsC w6 D sets n line (fun _ => []) ∧ Chg w w6 (fun _ => False) ∧ w6.heap[w.heap.size]? = some (.cells #[.int .i64 sets, .int .i64 n, .int .i64 line] 23 (0, 0)) ∧ w.heap.size < D ∧ D < w5.heap.size) :=
    ⟨hTs, K4.out.2.2.1.kept hC6 (show ¬ D = B from fun e => K4.out.2.2.2.2.2.1 e.symm), K4.out.1.trans hC6 (fun i hi e => by have := K4.out.2.2.2.1; omega), u1, K4.out.2.2.2.2.1, K4.out.2.2.1.lt⟩
  clear hTs hIB hC6 u1 hUd K4
  have hne := neq33
  go_wp2
  go_loopw [14] (fun i wr => ∃ (j : Nat) (s2 : Nat → List Ln), j ≤ len ∧ i = .int .i64 j ∧ IsC wr D sets n line s2 ∧ runS sets n line (fun _ => []) F j k = s2 k ∧ Chg w6 wr (fun q => q = D)) (fun i _ => len - (intOf i).toNat)
  case atStart => exact ⟨0, _, by omega, rfl, K6.out.2.1, rfl, Chg.refl _ _⟩
  case round =>
    obtain ⟨j, s2, hj, rfl, hI, hEq, hC⟩ := hrel
    obtain ⟨q1, q2, q3, q4, q5, q6⟩ := K6.out
    by_cases hlt : j < len
    · obtain ⟨b, off, rfl, hbw, hcell⟩ := KU.out.src.resolve_left (by omega)
      have hCw : Chg w wr (fun _ => False) := q3.trans hC (fun i hi e => by omega)
      have c0 := (hCw.cell (o := off + j * 2) hbw (fun h => h)).trans (hcell j hlt).1
      have c1 := (hCw.cell (o := off + j * 2 + 1) hbw (fun h => h)).trans (hcell j hlt).2
      have hFl := KU.out.lt j hlt
      obtain ⟨d0, d1, d2, _, _, _⟩ := cells3 (hC.heap q4 (show ¬ w.heap.size = D by omega))
      have hbr : b < wr.heap.size := Nat.lt_of_lt_of_le hbw hCw.size
      obtain ⟨g, gcap, rfl, hgb, hgl, hgc⟩ := q1.cells (by omega)
      obtain ⟨z0, z1, z2⟩ := hgc j hlt
      have hgD : ¬ g = D := by omega
      have y0 := (hC.cell (o := j * 3) hgl hgD).trans z0
      have y1 := (hC.cell (o := j * 3 + 1) hgl hgD).trans z1
      have y2 := (hC.cell (o := j * 3 + 2) hgl hgD).trans z2
      have hgw : g < wr.heap.size := Nat.lt_of_lt_of_le hgl hC.size
      have hln := q1.row
      have KI : Hid (IsC wr D sets n line s2 ∧ runS sets n line (fun _ => []) F j k = s2 k ∧ Chg w6 wr (fun q => q = D)) := ⟨hI, hEq, hC⟩
      clear hI hEq hC hCw q1 q2 q3 q4 hcell hgc z0 z1 z2 hln
      obtain ⟨Q, hQ⟩ : ∃ Q, Q = (F j).1 / line := ⟨_, rfl⟩
      obtain ⟨R, hR⟩ : ∃ R, R = setOf sets line (F j).1 := ⟨_, rfl⟩
      have lQ : Q ≤ (F j).1 := by rw [hQ]; exact Nat.div_le_self _ _
      have e1 : IntKind.u32.wrap (line : Int) = line := by rw [wrap_u32]; omega
      have e2 : IntKind.u32.wrap (((F j).1 : Int) / (line : Int)) = (Q : Int) := by
        rw [wrap_u32, show ((F j).1 : Int) / (line : Int) = (((F j).1 / line : Nat) : Int) from by simp, ← hQ]; omega
      have e3 : (Q : Int) % (sets : Int) = (R : Int) := by
        rw [show (Q : Int) % (sets : Int) = ((Q % sets : Nat) : Int) from by simp, hR, setOf, ← hQ]
      have e4 : Int.tmod (Q : Int) (sets : Int) = (R : Int) := by
        rw [← e3]; exact Int.tmod_eq_emod_of_nonneg (by omega)
      have n1 : ¬ line = 0 := by omega
      have n2 : ¬ sets = 0 := by omega
      have n3 : ((line : Int) == 0) = false := by simp; omega
      have n4 : ((sets : Int) == 0) = false := by simp; omega
      have KQ : Hid (R = setOf sets line (F j).1) := hR
      have HF : Hid ((F j).1 = (F j).1) := rfl
      generalize hFa : (F j).1 = ad at *
      have hQ64 : IntKind.i64.wrap (Q : Int) = Q := by simp [IntKind.wrap, IntKind.bits, IntKind.signed]; omega
      clear hQ hR
      by_cases hRk : R = k
      · subst hRk
        have hf : ((R : Int) != (R : Int)) = false := by simp
        go_wp2_with fail
        go_region
        obtain ⟨wq, hwq⟩ : ∃ x, x = wr.drew := ⟨_, rfl⟩
        have c0' : wq.cell? ⟨b, off + j * 2, none⟩ = some (.int .u32 (ad : Nat)) := by rw [hwq]; exact c0
        have c1' : wq.cell? ⟨b, off + j * 2 + 1, none⟩ = some (.bool (F j).2) := by rw [hwq]; exact c1
        have y0' : wq.cell? ⟨g, j * 3, none⟩ = some (.bool (tch sets n line (fun _ => []) F j).1) := by rw [hwq]; exact y0
        have y1' : wq.cell? ⟨g, j * 3 + 1, none⟩ = some (.bool (tch sets n line (fun _ => []) F j).2) := by rw [hwq]; exact y1
        have y2' : wq.cell? ⟨g, j * 3 + 2, none⟩ = some (.int .i64 (cyc (tch sets n line (fun _ => []) F j).1 (tch sets n line (fun _ => []) F j).2)) := by rw [hwq]; exact y2
        have hcq : Chg wr wq (fun _ => False) := by rw [hwq]; exact (Chg.refl wr _).drew
        have hIq := KI.out.1.kept hcq (fun h => h)
        have hbq : b < wq.heap.size := Nat.lt_of_lt_of_le hbr hcq.size
        have hgq : g < wq.heap.size := Nat.lt_of_lt_of_le hgw hcq.size
        have hA := fun V (hV : Chg wq V (fun _ => False)) => acc_any V D sets n line s2 (hIq.kept hV (fun h => h)) ad hFl (F j).2
        obtain ⟨m1, m2, m3⟩ := apart_same (sets := sets) (ways := n) (line := line) (wr := (F j).2) KI.out.2.1 KQ.out.symm
        have m1' : (tch sets n line (fun _ => []) F j).1 = hitA sets line s2 ad := by rw [← m1]; simp only [tch, hFa]
        have m2' : (tch sets n line (fun _ => []) F j).2 = backA sets n line s2 ad := by rw [← m2]; simp only [tch, hFa]
        rw [m1'] at y0' y2'
        rw [m2'] at y1' y2'
        have km : runS sets n line (fun _ => []) F (j + 1) R = accS sets n line s2 ad (F j).2 R := by rw [← m3]; simp only [runS, hFa]
        have KM : Hid (runS sets n line (fun _ => []) F (j + 1) R = accS sets n line s2 ad (F j).2 R) := km
        clear km
        have hDl := hIq.lt
        have hCq := KI.out.2.2.trans hcq (fun _ _ h => h.elim)
        have KC : Hid (Chg w6 wq (fun q => q = D)) := hCq
        rw [← hwq]
        clear hwq c0 c1 y0 y1 y2 d0 d1 d2 hIq m1 m2 m3 m1' m2' KI hcq hCq e1 e2 e3 e4
        generalize hitA sets line s2 ad = hit at *
        generalize backA sets n line s2 ad = back at *
        have hca := (Chg.refl wq (fun _ => False)).drew
        have hcb := ((Chg.refl wq (fun _ => False)).alloc (.cells #[.bool false, .bool false, .int .i64 0] 33)).drew
        generalize hwb : (F j).2 = wb at *
        go_wp2_with fail
        apply of_leaf2 (Leaf wq D sets n line (accS sets n line s2 ad wb) hit back)
        rotate_left
        · intro hT
          go_region_with (go_at_call 13; refine (hA _ (by first | exact hca | exact hcb)).mono ?_; rintro e w5 ⟨rfl, hI5, hC5⟩; (try (obtain ⟨x0, x1, x2, x3, x4, x5⟩ := cells3 (hC5.heap (heap_alloc_new wq _) (show ¬ wq.heap.size = D by omega)))))
          all_goals first
            | (obtain ⟨w6, hw6⟩ : ∃ x, x = w5.alloc (.cells #[.bool hit, .bool back, .int .i64 (cyc hit back)] 33) := ⟨_, rfl⟩
               obtain ⟨p, hp⟩ : ∃ p, p = w5.heap.size := ⟨_, rfl⟩
               rw [← hw6, ← hp]
               exact hT p w6 (leafA hw6 hp hI5 hC5))
            | (obtain ⟨p, hp⟩ : ∃ p, p = wq.heap.size := ⟨_, rfl⟩
               rw [← hp]
               obtain ⟨w6, hw6⟩ : ∃ x, x = ((w5.setCell ⟨p, 0, none⟩ (.bool hit)).setCell ⟨p, 1, none⟩ (.bool back)).setCell ⟨p, 2, none⟩ (.int .i64 (cyc hit back)) := ⟨_, rfl⟩
               rw [← hw6]
               exact hT p w6 (leafB hp hw6 hDl hI5 hC5))
        clear hA hca hcb
        intro p w7 hL
        obtain ⟨t0, t1, t2, _, _, _⟩ := cells3 hL.res
        have s0 := (hL.chg.cell (o := j * 3) hgq hgD).trans y0'
        have s1 := (hL.chg.cell (o := j * 3 + 1) hgq hgD).trans y1'
        have s3 := (hL.chg.cell (o := j * 3 + 2) hgq hgD).trans y2'
        have KR : Hid (IsC w7 D sets n line (accS sets n line s2 ad wb) ∧ runS sets n line (fun _ => []) F (j + 1) R = accS sets n line s2 ad wb R ∧ Chg w6 w7 (fun q => q = D)) := ⟨hL.isc, KM.out, KC.out.trans hL.chg (fun _ _ h => h)⟩
        clear hL y0' y1' y2' c0' c1' KM KC
        generalize cyc hit back = cc at *
        go_wp2_with fail
        go_region
        go_wp2
        exact ⟨⟨j + 1, _, by omega, by go_num, ⟨KR.out.1.kept (Chg.refl w7 (fun _ => False)).drew (fun h => h), KR.out.2.1, KR.out.2.2.drew⟩⟩, by simp [intOf]; omega⟩
      · have hf : ((R : Int) != (k : Int)) = true := by simp; omega
        go_wp2_with fail
        go_region
        go_wp2
        refine ⟨⟨j + 1, s2, by omega, by go_num, KI.out.1.kept (Chg.refl wr (fun _ => False)).drew (fun h => h), ?_, KI.out.2.2.drew⟩, by simp [intOf]; omega⟩
        rw [← KI.out.2.1]
        exact apart_other (by rw [hFa, ← KQ.out]; exact hRk)
    · go_wp2
      go_ret
      exact ⟨rfl, (q3.trans hC (fun i hi e => by omega)).below (Nat.le_refl _) (fun _ _ h => h)⟩
end Go.Proofs.Ytppcfofkneaigaa
