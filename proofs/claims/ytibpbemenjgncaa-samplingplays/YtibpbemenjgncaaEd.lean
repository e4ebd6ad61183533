import Derived.Test.YtibpbemenjgncaaEc
namespace Go.Proofs.Ytibpbemenjgncaa
open Go.ChangeShapes Go.WideShapes Go.ChangeAt Go.RowKit
set_option linter.unusedVariables false
/-- A block of another type than the port's and its rows'. -/
theorem IsF.fresh {w w' : World} {F N T : Nat} {vr vl vn : Value} {rl : List Int} {p : PS} {cs : Array Value} (h : IsF w F vr vl vn rl p) (hc : Chg w w' (fun k => k = N)) (hN : w.heap[N]? = some (.cells cs T (0, 0))) (h5 : T ≠ 5) (h3 : T ≠ 3) (h73 : T ≠ 73) : IsF w' F vr vl vn rl p :=
  h.chg hc (fun e => by have := h.box; rw [e, hN] at this; simp at this; exact h73 this.2) (fun k hk e => h.r.no hN h3 (by rw [hk, e])) (fun k hk e => h.l.no hN h5 (by rw [hk, e])) (fun k hk e => h.n.no hN h5 (by rw [hk, e]))
set_option maxHeartbeats 2000000 in
set_option maxRecDepth 10000 in
theorem fstate_any (w : World) (F : Nat) (vr vl vn : Value) (rl : List Int) (p : PS) (h : IsF w F vr vl vn rl p) :
    Calls Try.prog 21 #[.pointer (some ⟨F, 0, none⟩)] w fun e w' => ∃ v u, e = .returned (.agg #[.bool p.la.th, .bool p.ne.th, v, .int .u64 p.la.tk, u, .int .u64 p.ne.tk]) ∧ OB w' v p.la.bs ∧ OB w' u p.ne.bs ∧ Kp w w' ∧ Nw w v ∧ Nw w u := by
  obtain ⟨al, cl, rfl⟩ := h.l.shape
  obtain ⟨an, cn, rfl⟩ := h.n.shape
  have k0 := Kp.al w (.cells #[.bool false, .bool false, .slice none 0 0, .int .u64 0, .slice none 0 0, .int .u64 0] 31)
  have R0 := heap_alloc_new w (.cells #[.bool false, .bool false, .slice none 0 0, .int .u64 0, .slice none 0 0, .int .u64 0] 31)
  have HK : Hid (Kp w (w.alloc (.cells #[.bool false, .bool false, .slice none 0 0, .int .u64 0, .slice none 0 0, .int .u64 0] 31)) ∧ IsF (w.alloc (.cells #[.bool false, .bool false, .slice none 0 0, .int .u64 0, .slice none 0 0, .int .u64 0] 31)) F vr (.slice al p.la.bs.length cl) (.slice an p.ne.bs.length cn) rl p ∧ (w.alloc (.cells #[.bool false, .bool false, .slice none 0 0, .int .u64 0, .slice none 0 0, .int .u64 0] 31)).heap[w.heap.size]? = some (.cells #[.bool false, .bool false, .slice none 0 0, .int .u64 0, .slice none 0 0, .int .u64 0] 31 (0, 0))) := ⟨k0, h.kp k0, R0⟩
  clear h k0 R0
  go_enter Try.func21, Try.ntmps21
  go_upto_region 1 with fail
  generalize hN : w.heap.size = N at *
  have HN : Hid (w.heap.size = N) := hN
  clear hN
  generalize w.alloc (.cells #[.bool false, .bool false, .slice none 0 0, .int .u64 0, .slice none 0 0, .int .u64 0] 31) = w0 at *
  have z3 : w0.cell? ⟨F, 3, none⟩ = some (.bool p.la.th) := (HK.out.2.1.c 3).1
  have z4 : w0.cell? ⟨F, 4, none⟩ = some (.bool p.ne.th) := (HK.out.2.1.c 4).1
  have z5 : w0.cell? ⟨F, 5, none⟩ = some (.slice al p.la.bs.length cl) := (HK.out.2.1.c 5).1
  have z6 : w0.cell? ⟨F, 6, none⟩ = some (.int .u64 p.la.tk) := (HK.out.2.1.c 6).1
  have z7 : w0.cell? ⟨F, 7, none⟩ = some (.slice an p.ne.bs.length cn) := (HK.out.2.1.c 7).1
  have z8 : w0.cell? ⟨F, 8, none⟩ = some (.int .u64 p.ne.tk) := (HK.out.2.1.c 8).1
  have k1 := Kp.al w0 (.cells #[.bool p.la.th, .bool p.ne.th, .slice al p.la.bs.length cl, .int .u64 p.la.tk, .slice an p.ne.bs.length cn, .int .u64 p.ne.tk] 31)
  have R1 := heap_alloc_new w0 (.cells #[.bool p.la.th, .bool p.ne.th, .slice al p.la.bs.length cl, .int .u64 p.la.tk, .slice an p.ne.bs.length cn, .int .u64 p.ne.tk] 31)
  have HK1 : Hid (Kp w (w0.alloc (.cells #[.bool p.la.th, .bool p.ne.th, .slice al p.la.bs.length cl, .int .u64 p.la.tk, .slice an p.ne.bs.length cn, .int .u64 p.ne.tk] 31)) ∧ IsF (w0.alloc (.cells #[.bool p.la.th, .bool p.ne.th, .slice al p.la.bs.length cl, .int .u64 p.la.tk, .slice an p.ne.bs.length cn, .int .u64 p.ne.tk] 31)) F vr (.slice al p.la.bs.length cl) (.slice an p.ne.bs.length cn) rl p ∧ (w0.alloc (.cells #[.bool p.la.th, .bool p.ne.th, .slice al p.la.bs.length cl, .int .u64 p.la.tk, .slice an p.ne.bs.length cn, .int .u64 p.ne.tk] 31)).heap[N]? = some (.cells #[.bool false, .bool false, .slice none 0 0, .int .u64 0, .slice none 0 0, .int .u64 0] 31 (0, 0)) ∧ (w0.alloc (.cells #[.bool p.la.th, .bool p.ne.th, .slice al p.la.bs.length cl, .int .u64 p.la.tk, .slice an p.ne.bs.length cn, .int .u64 p.ne.tk] 31)).heap[w0.heap.size]? = some (.cells #[.bool p.la.th, .bool p.ne.th, .slice al p.la.bs.length cl, .int .u64 p.la.tk, .slice an p.ne.bs.length cn, .int .u64 p.ne.tk] 31 (0, 0)) ∧ N < w0.heap.size) := ⟨HK.out.1.trans k1, HK.out.2.1.kp k1, al_old _ HK.out.2.2, R1, hp_lt HK.out.2.2⟩
  clear HK k1 R1
  go_upto_region 2 with fail
  generalize w0.heap.size = M at *
  generalize w0.alloc (.cells #[.bool p.la.th, .bool p.ne.th, .slice al p.la.bs.length cl, .int .u64 p.la.tk, .slice an p.ne.bs.length cn, .int .u64 p.ne.tk] 31) = w3 at *
  clear z3 z4 z5 z6 z7 z8
  have x2 : w3.cell? ⟨M, 2, none⟩ = some (.slice al p.la.bs.length cl) := (cells_at HK1.out.2.2.2.1 2).1
  go_wp2_with fail
  go_at_call 40
  refine (copied40_any w3 _ p.la.bs HK1.out.2.1.lb).mono ?_
  rintro e w4 ⟨v4, rfl, o4, k4, n4⟩
  obtain ⟨a4, c4, rfl⟩ := o4.shape
  clear x2
  obtain ⟨i1, i2, i3, i4, i5⟩ := HK1.out
  have R4 := k4.heap i4
  have x2 : w4.cell? ⟨M, 2, none⟩ = some (.slice al p.la.bs.length cl) := (cells_at R4 2).1
  have f2 := (cells_at R4 2).2
  have hC5 : Chg w4 (w4.setCell ⟨M, 2, none⟩ (.slice a4 p.la.bs.length c4)) (fun k => k = M) := Chg.setCell (S := fun k => k = M) (Chg.refl w4 _) (.inl rfl) _
  have HK5 : Hid (Kp w (w4.setCell ⟨M, 2, none⟩ (.slice a4 p.la.bs.length c4)) ∧ IsF (w4.setCell ⟨M, 2, none⟩ (.slice a4 p.la.bs.length c4)) F vr (.slice al p.la.bs.length cl) (.slice an p.ne.bs.length cn) rl p ∧ (w4.setCell ⟨M, 2, none⟩ (.slice a4 p.la.bs.length c4)).heap[N]? = some (.cells #[.bool false, .bool false, .slice none 0 0, .int .u64 0, .slice none 0 0, .int .u64 0] 31 (0, 0)) ∧ (w4.setCell ⟨M, 2, none⟩ (.slice a4 p.la.bs.length c4)).heap[M]? = some (.cells #[.bool p.la.th, .bool p.ne.th, .slice a4 p.la.bs.length c4, .int .u64 p.la.tk, .slice an p.ne.bs.length cn, .int .u64 p.ne.tk] 31 (0, 0)) ∧ N < M ∧ OB (w4.setCell ⟨M, 2, none⟩ (.slice a4 p.la.bs.length c4)) (.slice a4 p.la.bs.length c4) p.la.bs ∧ Nw w (.slice a4 p.la.bs.length c4)) := by
    refine ⟨Chg.trans (i1.trans k4) hC5 (fun i hi e => by have := HN.out; omega), (i2.kp k4).fresh hC5 R4 (by decide) (by decide) (by decide), hC5.heap (k4.heap i3) (by omega), ?_, i5, hC5.owns o4 (fun k hk e => o4.no R4 (by decide) (by rw [hk, e])), fun k hk => by have := n4 k hk; have := i1.size; omega⟩
    rw [heap_setCell_same w4 M 2 _ 31 _ R4]
    rfl
  clear i1 i2 i3 i4 i5 R4 hC5 o4 k4 n4 HK1
  go_upto_region 3 with fail
  generalize w4.setCell ⟨M, 2, none⟩ (.slice a4 p.la.bs.length c4) = w5 at *
  clear x2 f2
  have x4 : w5.cell? ⟨M, 4, none⟩ = some (.slice an p.ne.bs.length cn) := (cells_at HK5.out.2.2.2.1 4).1
  go_wp2_with fail
  go_at_call 40
  refine (copied40_any w5 _ p.ne.bs HK5.out.2.1.nb).mono ?_
  rintro e w6 ⟨v5, rfl, o5, k5, n5⟩
  obtain ⟨a5, c5, rfl⟩ := o5.shape
  clear x4
  obtain ⟨i1, i2, i3, i4, i5, i6, i7⟩ := HK5.out
  have R6 := k5.heap i4
  have x4 : w6.cell? ⟨M, 4, none⟩ = some (.slice an p.ne.bs.length cn) := (cells_at R6 4).1
  have f4 := (cells_at R6 4).2
  have hC7 : Chg w6 (w6.setCell ⟨M, 4, none⟩ (.slice a5 p.ne.bs.length c5)) (fun k => k = M) := Chg.setCell (S := fun k => k = M) (Chg.refl w6 _) (.inl rfl) _
  have i6' : OB w6 (.slice a4 p.la.bs.length c4) p.la.bs := Chg.owns k5 i6 (fun _ _ h => h)
  have HK7 : Hid (Kp w (w6.setCell ⟨M, 4, none⟩ (.slice a5 p.ne.bs.length c5)) ∧ (w6.setCell ⟨M, 4, none⟩ (.slice a5 p.ne.bs.length c5)).heap[N]? = some (.cells #[.bool false, .bool false, .slice none 0 0, .int .u64 0, .slice none 0 0, .int .u64 0] 31 (0, 0)) ∧ (w6.setCell ⟨M, 4, none⟩ (.slice a5 p.ne.bs.length c5)).heap[M]? = some (.cells #[.bool p.la.th, .bool p.ne.th, .slice a4 p.la.bs.length c4, .int .u64 p.la.tk, .slice a5 p.ne.bs.length c5, .int .u64 p.ne.tk] 31 (0, 0)) ∧ OB (w6.setCell ⟨M, 4, none⟩ (.slice a5 p.ne.bs.length c5)) (.slice a4 p.la.bs.length c4) p.la.bs ∧ OB (w6.setCell ⟨M, 4, none⟩ (.slice a5 p.ne.bs.length c5)) (.slice a5 p.ne.bs.length c5) p.ne.bs ∧ Nw w (.slice a4 p.la.bs.length c4) ∧ Nw w (.slice a5 p.ne.bs.length c5)) := by
    refine ⟨Chg.trans (i1.trans k5) hC7 (fun i hi e => by have := HN.out; omega), hC7.heap (k5.heap i3) (by omega), ?_, hC7.owns i6' (fun k hk e => i6'.no R6 (by decide) (by rw [hk, e])), hC7.owns o5 (fun k hk e => o5.no R6 (by decide) (by rw [hk, e])), i7, fun k hk => by have := n5 k hk; have := i1.size; omega⟩
    rw [heap_setCell_same w6 M 4 _ 31 _ R6]
    rfl
  clear i1 i2 i3 i4 i5 i6 i6' i7 R6 hC7 o5 k5 n5 HK5
  go_upto_region 4 with fail
  generalize w6.setCell ⟨M, 4, none⟩ (.slice a5 p.ne.bs.length c5) = w7 at *
  clear x4 f4
  obtain ⟨i1, i2, i3, i4, i5, i6, i7⟩ := HK7.out
  have x0 : w7.cell? ⟨M, 0, none⟩ = some (.bool p.la.th) := (cells_at i3 0).1
  have x1 : w7.cell? ⟨M, 1, none⟩ = some (.bool p.ne.th) := (cells_at i3 1).1
  have x2 : w7.cell? ⟨M, 2, none⟩ = some (.slice a4 p.la.bs.length c4) := (cells_at i3 2).1
  have x3 : w7.cell? ⟨M, 3, none⟩ = some (.int .u64 p.la.tk) := (cells_at i3 3).1
  have x4 : w7.cell? ⟨M, 4, none⟩ = some (.slice a5 p.ne.bs.length c5) := (cells_at i3 4).1
  have x5 : w7.cell? ⟨M, 5, none⟩ = some (.int .u64 p.ne.tk) := (cells_at i3 5).1
  have y0 : w7.cell? ⟨N, 0, none⟩ = some (.bool false) := (cells_at i2 0).1
  have y1 : w7.cell? ⟨N, 1, none⟩ = some (.bool false) := (cells_at i2 1).1
  have y2 : w7.cell? ⟨N, 2, none⟩ = some (.slice none 0 0) := (cells_at i2 2).1
  have y3 : w7.cell? ⟨N, 3, none⟩ = some (.int .u64 0) := (cells_at i2 3).1
  have y4 : w7.cell? ⟨N, 4, none⟩ = some (.slice none 0 0) := (cells_at i2 4).1
  have y5 : w7.cell? ⟨N, 5, none⟩ = some (.int .u64 0) := (cells_at i2 5).1
  have g0 := (cells_at i2 0).2
  have g1 := (cells_at i2 1).2
  have g2 := (cells_at i2 2).2
  have g3 := (cells_at i2 3).2
  have g4 := (cells_at i2 4).2
  have g5 := (cells_at i2 5).2
  have hC8 := chg6 w7 N (.bool p.la.th) (.bool p.ne.th) (.slice a4 p.la.bs.length c4) (.int .u64 p.la.tk) (.slice a5 p.ne.bs.length c5) (.int .u64 p.ne.tk)
  have hb8 := heap_set6 i2 (.bool p.la.th) (.bool p.ne.th) (.slice a4 p.la.bs.length c4) (.int .u64 p.la.tk) (.slice a5 p.ne.bs.length c5) (.int .u64 p.ne.tk)
  have HK8 : Hid (Kp w _ ∧ OB _ (.slice a4 p.la.bs.length c4) p.la.bs ∧ OB _ (.slice a5 p.ne.bs.length c5) p.ne.bs ∧ Nw w (.slice a4 p.la.bs.length c4) ∧ Nw w (.slice a5 p.ne.bs.length c5)) := ⟨Chg.trans i1 hC8 (fun i hi e => by have := HN.out; omega), hC8.owns i4 (fun k hk e => i4.no i2 (by decide) (by rw [hk, e])), hC8.owns i5 (fun k hk e => i5.no i2 (by decide) (by rw [hk, e])), i6, i7⟩
  clear i1 i2 i3 i4 i5 i6 i7 hC8 HK7
  go_wp2_with fail
  have r0 := (cells_at hb8 0).1
  have r1 := (cells_at hb8 1).1
  have r2 := (cells_at hb8 2).1
  have r3 := (cells_at hb8 3).1
  have r4 := (cells_at hb8 4).1
  have r5 := (cells_at hb8 5).1
  clear hb8 x0 x1 x2 x3 x4 x5 y0 y1 y2 y3 y4 y5 g0 g1 g2 g3 g4 g5
  generalize ((((((w7.setCell ⟨N, 0, none⟩ (.bool p.la.th)).setCell ⟨N, 1, none⟩ (.bool p.ne.th)).setCell ⟨N, 2, none⟩ (.slice a4 p.la.bs.length c4)).setCell ⟨N, 3, none⟩ (.int .u64 p.la.tk)).setCell ⟨N, 4, none⟩ (.slice a5 p.ne.bs.length c5)).setCell ⟨N, 5, none⟩ (.int .u64 p.ne.tk)) = w9 at *
  simp at r0 r1 r2 r3 r4 r5
  refine bodyPost_ret (v := .agg #[.bool p.la.th, .bool p.ne.th, .slice a4 p.la.bs.length c4, .int .u64 p.la.tk, .slice a5 p.ne.bs.length c5, .int .u64 p.ne.tk]) (by simp [results, Try.results21, go_sem, r0, r1, r2, r3, r4, r5]) rfl ?_
  obtain ⟨i1, i2, i3, i4, i5⟩ := HK8.out
  exact ⟨_, _, rfl, i2, i3, i1, i4, i5⟩
end Go.Proofs.Ytibpbemenjgncaa
