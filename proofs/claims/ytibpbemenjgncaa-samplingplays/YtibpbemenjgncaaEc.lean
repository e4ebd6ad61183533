import Derived.Test.YtibpbemenjgncaaEb
namespace Go.Proofs.Ytibpbemenjgncaa
open Go.ChangeShapes Go.WideShapes Go.ChangeAt Go.RowKit
set_option linter.unusedVariables false
theorem set6at {w : World} {B o : Nat} {cs : Array Value} {T : TypeId} (h : w.heap[B]? = some (.cells cs T (0, 0))) (a b c d e f : Value) :
    ((((((w.setCell ⟨B, o, none⟩ a).setCell ⟨B, o + 1, none⟩ b).setCell ⟨B, o + 2, none⟩ c).setCell ⟨B, o + 3, none⟩ d).setCell ⟨B, o + 4, none⟩ e).setCell ⟨B, o + 5, none⟩ f).heap[B]? = some (.cells ((((((cs.setIfInBounds o a).setIfInBounds (o + 1) b).setIfInBounds (o + 2) c).setIfInBounds (o + 3) d).setIfInBounds (o + 4) e).setIfInBounds (o + 5) f) T (0, 0)) :=
  set3 (set3 h o (o + 1) (o + 2) a b c) (o + 3) (o + 4) (o + 5) d e f
theorem chg6at (w : World) (B o : Nat) (a b c d e f : Value) : Chg w ((((((w.setCell ⟨B, o, none⟩ a).setCell ⟨B, o + 1, none⟩ b).setCell ⟨B, o + 2, none⟩ c).setCell ⟨B, o + 3, none⟩ d).setCell ⟨B, o + 4, none⟩ e).setCell ⟨B, o + 5, none⟩ f) (fun k => k = B) :=
  Chg.trans (chg3 w B o (o + 1) (o + 2) a b c) (chg3 _ B (o + 3) (o + 4) (o + 5) d e f) (fun _ _ h => h)
set_option maxHeartbeats 2000000 in
set_option maxRecDepth 10000 in
theorem fload_no (w : World) (F : Nat) (vr vl vn : Value) (rl : List Int) (p : PS) (h : IsF w F vr vl vn rl p) (th nt : Bool) (v1 v2 : Value) (b1 b2 : List Int) (t1 t2 : Int) (h1 : Bs w v1 b1) (h2 : Bs w v2 b2) (hL : p.ldB th nt b1 b2 t1 t2 = false) :
    Calls Try.prog 39 #[.pointer (some ⟨F, 0, none⟩), .agg #[.bool th, .bool nt, v1, .int .u64 t1, v2, .int .u64 t2]] w fun e w' => e = .returned (.int .i64 160) ∧ Kp w w' := by
  obtain ⟨a1, c1, rfl⟩ := h1.vshape
  obtain ⟨a2, c2, rfl⟩ := h2.vshape
  have l1 := h1.len
  have l2 := h2.len
  have R := heap_alloc_new w (.cells #[.bool th, .bool nt, .slice a1 b1.length c1, .int .u64 t1, .slice a2 b2.length c2, .int .u64 t2] 31)
  have kA := Kp.al w (.cells #[.bool th, .bool nt, .slice a1 b1.length c1, .int .u64 t1, .slice a2 b2.length c2, .int .u64 t2] 31)
  have HK : Hid (Kp w (w.alloc (.cells #[.bool th, .bool nt, .slice a1 b1.length c1, .int .u64 t1, .slice a2 b2.length c2, .int .u64 t2] 31)) ∧ IsF (w.alloc (.cells #[.bool th, .bool nt, .slice a1 b1.length c1, .int .u64 t1, .slice a2 b2.length c2, .int .u64 t2] 31)) F vr vl vn rl p ∧ (w.alloc (.cells #[.bool th, .bool nt, .slice a1 b1.length c1, .int .u64 t1, .slice a2 b2.length c2, .int .u64 t2] 31)).heap[w.heap.size]? = some (.cells #[.bool th, .bool nt, .slice a1 b1.length c1, .int .u64 t1, .slice a2 b2.length c2, .int .u64 t2] 31 (0, 0))) := ⟨kA, h.kp kA, R⟩
  clear h h1 h2 R kA
  go_enter Try.func39, Try.ntmps39
  go_upto_region 1 with fail
  generalize w.heap.size = N at *
  generalize w.alloc (.cells #[.bool th, .bool nt, .slice a1 b1.length c1, .int .u64 t1, .slice a2 b2.length c2, .int .u64 t2] 31) = w1 at *
  have x0 : w1.cell? ⟨N, 0, none⟩ = some (.bool th) := (cells_at HK.out.2.2 0).1
  have x2 : w1.cell? ⟨N, 2, none⟩ = some (.slice a1 b1.length c1) := (cells_at HK.out.2.2 2).1
  have x3 : w1.cell? ⟨N, 3, none⟩ = some (.int .u64 t1) := (cells_at HK.out.2.2 3).1
  go_wp2_with fail
  go_at_call 42
  refine (fits_any w1 F vr vl vn rl p HK.out.2.1 th a1 b1.length c1 t1 l1).mono ?_
  rintro e w2 ⟨rfl, k2⟩
  clear x0 x2 x3
  have R2 := k2.heap HK.out.2.2
  have y0 : w2.cell? ⟨N, 1, none⟩ = some (.bool nt) := (cells_at R2 1).1
  have y2 : w2.cell? ⟨N, 4, none⟩ = some (.slice a2 b2.length c2) := (cells_at R2 4).1
  have y3 : w2.cell? ⟨N, 5, none⟩ = some (.int .u64 t2) := (cells_at R2 5).1
  clear R2
  go_wp2_with fail
  go_at_call 42
  refine (fits_any w2 F vr vl vn rl p (HK.out.2.1.kp k2) nt a2 b2.length c2 t2 l2).mono ?_
  rintro e w3 ⟨rfl, k3⟩
  have HK2 : Hid (Kp w w3) := (HK.out.1.trans k2).trans k3
  clear HK k2 k3 y0 y2 y3
  unfold PS.ldB at hL
  cases hm : msB th b1.length t1 p.sz with
  | false =>
    clear hm hL
    generalize msB nt b2.length t2 p.sz = m2
    go_wp2_with fail
    go_ret
    exact ⟨rfl, HK2.out⟩
  | true =>
    have hm2 : msB nt b2.length t2 p.sz = false := by simpa [hm] using hL
    rw [hm2]
    clear hm hL hm2
    go_wp2_with fail
    go_ret
    exact ⟨rfl, HK2.out⟩
set_option maxHeartbeats 2000000 in
set_option maxRecDepth 10000 in
theorem fload_ok (w : World) (F : Nat) (vr vl vn : Value) (rl : List Int) (p : PS) (h : IsF w F vr vl vn rl p) (th nt : Bool) (v1 v2 : Value) (b1 b2 : List Int) (t1 t2 : Int) (h1 : Bs w v1 b1) (h2 : Bs w v2 b2) (hL : p.ldB th nt b1 b2 t1 t2 = true) :
    Calls Try.prog 39 #[.pointer (some ⟨F, 0, none⟩), .agg #[.bool th, .bool nt, v1, .int .u64 t1, v2, .int .u64 t2]] w fun e w' => e = .returned (.int .i64 0) ∧ ∃ vl' vn', IsF w' F vr vl' vn' rl ⟨p.wr, p.sz, p.rd, ⟨th, b1, t1⟩, ⟨nt, b2, t2⟩⟩ ∧ Chg w w' (fun k => k = F) ∧ Nw w vl' ∧ Nw w vn' := by
  obtain ⟨a1, c1, rfl⟩ := h1.vshape
  obtain ⟨a2, c2, rfl⟩ := h2.vshape
  have l1 := h1.len
  have l2 := h2.len
  obtain ⟨m1, m2⟩ : msB th b1.length t1 p.sz = true ∧ msB nt b2.length t2 p.sz = true := by simpa [PS.ldB] using hL
  have R := heap_alloc_new w (.cells #[.bool th, .bool nt, .slice a1 b1.length c1, .int .u64 t1, .slice a2 b2.length c2, .int .u64 t2] 31)
  have kA := Kp.al w (.cells #[.bool th, .bool nt, .slice a1 b1.length c1, .int .u64 t1, .slice a2 b2.length c2, .int .u64 t2] 31)
  have HK : Hid (Kp w (w.alloc (.cells #[.bool th, .bool nt, .slice a1 b1.length c1, .int .u64 t1, .slice a2 b2.length c2, .int .u64 t2] 31)) ∧ IsF (w.alloc (.cells #[.bool th, .bool nt, .slice a1 b1.length c1, .int .u64 t1, .slice a2 b2.length c2, .int .u64 t2] 31)) F vr vl vn rl p ∧ (w.alloc (.cells #[.bool th, .bool nt, .slice a1 b1.length c1, .int .u64 t1, .slice a2 b2.length c2, .int .u64 t2] 31)).heap[w.heap.size]? = some (.cells #[.bool th, .bool nt, .slice a1 b1.length c1, .int .u64 t1, .slice a2 b2.length c2, .int .u64 t2] 31 (0, 0)) ∧ Bs w (.slice a1 b1.length c1) b1 ∧ Bs w (.slice a2 b2.length c2) b2) := ⟨kA, h.kp kA, R, h1, h2⟩
  have HM : Hid ((⟨th, b1, t1⟩ : Ms).ok p.sz ∧ (⟨nt, b2, t2⟩ : Ms).ok p.sz) := ⟨msB_ok m1 (by have := h.sz; omega), msB_ok m2 (by have := h.sz; omega)⟩
  clear h h1 h2 R kA hL
  go_enter Try.func39, Try.ntmps39
  go_upto_region 1 with fail
  generalize hN : w.heap.size = N at *
  have HN : Hid (w.heap.size = N) := hN
  clear hN
  generalize w.alloc (.cells #[.bool th, .bool nt, .slice a1 b1.length c1, .int .u64 t1, .slice a2 b2.length c2, .int .u64 t2] 31) = w1 at *
  have HNF : Hid (¬ N = F) := fun e => by
    have h1 := HK.out.2.2.1
    have h2 := HK.out.2.1.box
    rw [e, h2] at h1
    simp at h1
  have x0 : w1.cell? ⟨N, 0, none⟩ = some (.bool th) := (cells_at HK.out.2.2.1 0).1
  have x2 : w1.cell? ⟨N, 2, none⟩ = some (.slice a1 b1.length c1) := (cells_at HK.out.2.2.1 2).1
  have x3 : w1.cell? ⟨N, 3, none⟩ = some (.int .u64 t1) := (cells_at HK.out.2.2.1 3).1
  go_wp2_with fail
  go_at_call 42
  refine (fits_any w1 F vr vl vn rl p HK.out.2.1 th a1 b1.length c1 t1 l1).mono ?_
  rintro e w2 ⟨rfl, k2⟩
  rw [m1]
  clear x0 x2 x3
  have R2 := k2.heap HK.out.2.2.1
  have y0 : w2.cell? ⟨N, 1, none⟩ = some (.bool nt) := (cells_at R2 1).1
  have y2 : w2.cell? ⟨N, 4, none⟩ = some (.slice a2 b2.length c2) := (cells_at R2 4).1
  have y3 : w2.cell? ⟨N, 5, none⟩ = some (.int .u64 t2) := (cells_at R2 5).1
  clear m1 R2
  go_wp2_with fail
  go_at_call 42
  refine (fits_any w2 F vr vl vn rl p (HK.out.2.1.kp k2) nt a2 b2.length c2 t2 l2).mono ?_
  rintro e w3 ⟨rfl, k3⟩
  rw [m2]
  have R3 := (k2.trans k3).heap HK.out.2.2.1
  have HK3 : Hid (Kp w w3 ∧ IsF w3 F vr vl vn rl p ∧ w3.heap[N]? = some (.cells #[.bool th, .bool nt, .slice a1 b1.length c1, .int .u64 t1, .slice a2 b2.length c2, .int .u64 t2] 31 (0, 0)) ∧ Bs w (.slice a1 b1.length c1) b1 ∧ Bs w (.slice a2 b2.length c2) b2) := ⟨(HK.out.1.trans k2).trans k3, HK.out.2.1.kp (k2.trans k3), R3, HK.out.2.2.2⟩
  clear HK k2 k3 y0 y2 y3 m2 R3
  have x2 : w3.cell? ⟨N, 2, none⟩ = some (.slice a1 b1.length c1) := (cells_at HK3.out.2.2.1 2).1
  go_wp2_with fail
  go_at_call 40
  refine (copied40_any w3 _ b1 (HK3.out.2.2.2.1.kp HK3.out.1)).mono ?_
  rintro e w4 ⟨v4, rfl, o4, k4, n4⟩
  obtain ⟨a4, c4, rfl⟩ := o4.shape
  clear x2
  obtain ⟨i1, i2, i3, i4, i5⟩ := HK3.out
  have R4 := k4.heap i3
  have x2 : w4.cell? ⟨N, 2, none⟩ = some (.slice a1 b1.length c1) := (cells_at R4 2).1
  have f2 := (cells_at R4 2).2
  have hC5 : Chg w4 (w4.setCell ⟨N, 2, none⟩ (.slice a4 b1.length c4)) (fun k => k = N) := Chg.setCell (S := fun k => k = N) (Chg.refl w4 _) (.inl rfl) _
  have HK5 : Hid (Kp w (w4.setCell ⟨N, 2, none⟩ (.slice a4 b1.length c4)) ∧ IsF (w4.setCell ⟨N, 2, none⟩ (.slice a4 b1.length c4)) F vr vl vn rl p ∧ (w4.setCell ⟨N, 2, none⟩ (.slice a4 b1.length c4)).heap[N]? = some (.cells #[.bool th, .bool nt, .slice a4 b1.length c4, .int .u64 t1, .slice a2 b2.length c2, .int .u64 t2] 31 (0, 0)) ∧ Bs w (.slice a2 b2.length c2) b2 ∧ OB (w4.setCell ⟨N, 2, none⟩ (.slice a4 b1.length c4)) (.slice a4 b1.length c4) b1 ∧ Nw w (.slice a4 b1.length c4)) := by
    have i2' := i2.kp k4
    refine ⟨Chg.trans (i1.trans k4) hC5 (fun i hi e => by have := HN.out; omega), i2'.chg hC5 (fun e => HNF.out e.symm) (fun k hk e => i2'.r.no R4 (by decide) (by rw [hk, e])) (fun k hk e => i2'.l.no R4 (by decide) (by rw [hk, e])) (fun k hk e => i2'.n.no R4 (by decide) (by rw [hk, e])), ?_, i5, hC5.owns o4 (fun k hk e => o4.no R4 (by decide) (by rw [hk, e])), fun k hk => by have := n4 k hk; have := i1.size; omega⟩
    rw [heap_setCell_same w4 N 2 _ 31 _ R4]
    rfl
  clear i1 i2 i3 i4 i5 R4 hC5 o4 k4 n4 HK3
  go_upto_region 6 with fail
  generalize w4.setCell ⟨N, 2, none⟩ (.slice a4 b1.length c4) = w5 at *
  clear x2 f2
  have x4 : w5.cell? ⟨N, 4, none⟩ = some (.slice a2 b2.length c2) := (cells_at HK5.out.2.2.1 4).1
  go_wp2_with fail
  go_at_call 40
  refine (copied40_any w5 _ b2 (HK5.out.2.2.2.1.kp HK5.out.1)).mono ?_
  rintro e w6 ⟨v5, rfl, o5, k5, n5⟩
  obtain ⟨a5, c5, rfl⟩ := o5.shape
  clear x4
  obtain ⟨i1, i2, i3, i4, i5, i6⟩ := HK5.out
  have R6 := k5.heap i3
  have x4 : w6.cell? ⟨N, 4, none⟩ = some (.slice a2 b2.length c2) := (cells_at R6 4).1
  have f4 := (cells_at R6 4).2
  have hC7 : Chg w6 (w6.setCell ⟨N, 4, none⟩ (.slice a5 b2.length c5)) (fun k => k = N) := Chg.setCell (S := fun k => k = N) (Chg.refl w6 _) (.inl rfl) _
  have HK7 : Hid (Kp w (w6.setCell ⟨N, 4, none⟩ (.slice a5 b2.length c5)) ∧ IsF (w6.setCell ⟨N, 4, none⟩ (.slice a5 b2.length c5)) F vr vl vn rl p ∧ (w6.setCell ⟨N, 4, none⟩ (.slice a5 b2.length c5)).heap[N]? = some (.cells #[.bool th, .bool nt, .slice a4 b1.length c4, .int .u64 t1, .slice a5 b2.length c5, .int .u64 t2] 31 (0, 0)) ∧ OB (w6.setCell ⟨N, 4, none⟩ (.slice a5 b2.length c5)) (.slice a4 b1.length c4) b1 ∧ OB (w6.setCell ⟨N, 4, none⟩ (.slice a5 b2.length c5)) (.slice a5 b2.length c5) b2 ∧ Nw w (.slice a4 b1.length c4) ∧ Nw w (.slice a5 b2.length c5)) := by
    have i2' := i2.kp k5
    have i5' : OB w6 (.slice a4 b1.length c4) b1 := Chg.owns k5 i5 (fun _ _ h => h)
    refine ⟨Chg.trans (i1.trans k5) hC7 (fun i hi e => by have := HN.out; omega), i2'.chg hC7 (fun e => HNF.out e.symm) (fun k hk e => i2'.r.no R6 (by decide) (by rw [hk, e])) (fun k hk e => i2'.l.no R6 (by decide) (by rw [hk, e])) (fun k hk e => i2'.n.no R6 (by decide) (by rw [hk, e])), ?_, hC7.owns i5' (fun k hk e => i5'.no R6 (by decide) (by rw [hk, e])), hC7.owns o5 (fun k hk e => o5.no R6 (by decide) (by rw [hk, e])), i6, fun k hk => by have := n5 k hk; have := i1.size; omega⟩
    rw [heap_setCell_same w6 N 4 _ 31 _ R6]
    rfl
  clear i1 i2 i3 i4 i5 i6 R6 hC7 o5 k5 n5 HK5
  go_upto_region 7 with fail
  generalize w6.setCell ⟨N, 4, none⟩ (.slice a5 b2.length c5) = w7 at *
  clear x4 f4
  obtain ⟨i1, i2, i3, i4, i5, i6, i7⟩ := HK7.out
  have x0 : w7.cell? ⟨N, 0, none⟩ = some (.bool th) := (cells_at i3 0).1
  have x1 : w7.cell? ⟨N, 1, none⟩ = some (.bool nt) := (cells_at i3 1).1
  have x2 : w7.cell? ⟨N, 2, none⟩ = some (.slice a4 b1.length c4) := (cells_at i3 2).1
  have x3 : w7.cell? ⟨N, 3, none⟩ = some (.int .u64 t1) := (cells_at i3 3).1
  have x4 : w7.cell? ⟨N, 4, none⟩ = some (.slice a5 b2.length c5) := (cells_at i3 4).1
  have x5 : w7.cell? ⟨N, 5, none⟩ = some (.int .u64 t2) := (cells_at i3 5).1
  have z3 : w7.cell? ⟨F, 3, none⟩ = some (.bool p.la.th) := (i2.c 3).1
  have z4 : w7.cell? ⟨F, 4, none⟩ = some (.bool p.ne.th) := (i2.c 4).1
  have z5 : w7.cell? ⟨F, 5, none⟩ = some vl := (i2.c 5).1
  have z6 : w7.cell? ⟨F, 6, none⟩ = some (.int .u64 p.la.tk) := (i2.c 6).1
  have z7 : w7.cell? ⟨F, 7, none⟩ = some vn := (i2.c 7).1
  have z8 : w7.cell? ⟨F, 8, none⟩ = some (.int .u64 p.ne.tk) := (i2.c 8).1
  have g3 := (i2.c 3).2
  have g4 := (i2.c 4).2
  have g5 := (i2.c 5).2
  have g6 := (i2.c 6).2
  have g7 := (i2.c 7).2
  have g8 := (i2.c 8).2
  have hC8 := chg6at w7 F 3 (.bool th) (.bool nt) (.slice a4 b1.length c4) (.int .u64 t1) (.slice a5 b2.length c5) (.int .u64 t2)
  have hb8 := set6at (o := 3) i2.box (.bool th) (.bool nt) (.slice a4 b1.length c4) (.int .u64 t1) (.slice a5 b2.length c5) (.int .u64 t2)
  have hF8 := i2.set hC8 ⟨th, b1, t1⟩ ⟨nt, b2, t2⟩ (.slice a4 b1.length c4) (.slice a5 b2.length c5) (by rw [hb8]; rfl) i4 i5 HM.out.1 HM.out.2
  have HK8 := Chg.trans i1.any hC8 (fun _ _ h => h)
  simp only [Nat.reduceAdd] at hF8 HK8
  have HKE : Hid (IsF _ F vr _ _ rl _ ∧ Chg w _ (fun k => k = F) ∧ Nw w (.slice a4 b1.length c4) ∧ Nw w (.slice a5 b2.length c5)) := ⟨hF8, HK8, i6, i7⟩
  clear i1 i2 i3 i4 i5 i6 i7 hC8 hb8 hF8 HK8 HK7
  go_wp2_with fail
  go_ret
  exact ⟨rfl, _, _, HKE.out.1, HKE.out.2.1, HKE.out.2.2.1, HKE.out.2.2.2⟩
end Go.Proofs.Ytibpbemenjgncaa
