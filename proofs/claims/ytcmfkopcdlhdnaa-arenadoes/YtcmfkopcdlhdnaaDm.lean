import Derived.Test.YtcmfkopcdlhdnaaDw
namespace Go.Proofs.Ytcmfkopcdlhdnaa
open Go.ChangeShapes Go.WideShapes Go.ChangeAt Go.RowKit
set_option linter.unusedVariables false

theorem equal_same (d B : Nat) (w : World) : (Op.equalIn (d + 1) 24 (.pointer (some ⟨B, 0, none⟩)) (.pointer (some ⟨B, 0, none⟩))).run Try.prog w = .ok true w := by
  simp [Op.equalIn, run_underlying Try.underlying24]
  simp [sameAddr]
theorem ptr_same (B : Nat) (w : World) : (binOp BinOp.eql 24 (Value.pointer (some ⟨B, 0, none⟩)) (Value.pointer (some ⟨B, 0, none⟩))).run Try.prog w = .ok (.bool true) w := by
  have h := equal_same 9999 B w
  simp only [binOp]
  have e : (Op.equal 24 (.pointer (some ⟨B, 0, none⟩)) (.pointer (some ⟨B, 0, none⟩))).run Try.prog w = .ok true w := h
  simp [e]

theorem box_cells {w : World} {Wb B R : Nat} {va vr vb vs : Option Addr} (h : w.heap[Wb]? = some (boxW B R va vr vb vs)) : w.cell? ⟨Wb, 0, none⟩ = some (.pointer (some ⟨B, 0, none⟩)) ∧ w.cell? ⟨Wb, 1, none⟩ = some (.pointer (some ⟨R, 0, none⟩)) ∧ w.cell? ⟨Wb, 2, none⟩ = some (.pointer va) ∧ w.cell? ⟨Wb, 3, none⟩ = some (.pointer vr) ∧ w.cell? ⟨Wb, 4, none⟩ = some (.pointer vb) ∧ w.cell? ⟨Wb, 5, none⟩ = some (.pointer vs) :=
  ⟨by simpa using (cells_at h 0).1, by simpa using (cells_at h 1).1, by simpa using (cells_at h 2).1, by simpa using (cells_at h 3).1, by simpa using (cells_at h 4).1, by simpa using (cells_at h 5).1⟩
theorem box_fz {w : World} {Wb B R : Nat} {va vr vb vs : Option Addr} (h : w.heap[Wb]? = some (boxW B R va vr vb vs)) (i : Nat) : w.frozen? ⟨Wb, i, none⟩ = false := (cells_at h i).2

set_option maxRecDepth 10000 in
theorem make_bad (w wr : World) (Wb B M n : Nat) (f : Nat → Option Nat) (m1 : Nat → Nat) (R P : Nat) (g : Nat → Option Nat) (m2 : Nat → Nat) (va vr vb vs : Option Addr) (h : Sd w wr B M n f m1 R P g m2) (hb : wr.heap[Wb]? = some (boxW B R va vr vb vs)) (base : Nat) (hbs : base < 4294967296) (pages : Int) (hp : InI pages) (bad : badA n base pages) :
    Calls Try.prog 20 #[.pointer (some ⟨Wb, 0, none⟩), .int .u32 base, .int .i64 pages] wr fun e w' => e = .returned (.bool true) ∧ w' = wr := by
  obtain ⟨c0, c1, c2, c3, c4, c5⟩ := box_cells hb
  have N1 := anew_bad wr B M n f m1 h.mem base hbs pages bad
  have N2 := r6new_bad wr R P n g m2 h.ref base hbs pages hp bad
  have hnum := num_any
  clear h hb
  go_enter Try.func20, Try.ntmps20
  go_wp2_with (first
    | (go_at_call 8; refine N1.mono ?_; rintro e wq ⟨rfl, hw⟩; rw [hw]; clear hw wq)
    | (go_at_call 31; refine N2.mono ?_; rintro e wq ⟨rfl, hw⟩; rw [hw]; clear hw wq)
    | (go_at_call 19; refine (hnum _ _).mono ?_; rintro e wq ⟨rfl, hw⟩; rw [hw]; clear hw wq))
  go_ret
  exact ⟨rfl, rfl⟩

set_option maxRecDepth 10000 in
theorem make_ok (w wr : World) (Wb B M n : Nat) (f : Nat → Option Nat) (m1 : Nat → Nat) (R P : Nat) (g : Nat → Option Nat) (m2 : Nat → Nat) (va vr vb vs : Option Addr) (h : Sd w wr B M n f m1 R P g m2) (hb : wr.heap[Wb]? = some (boxW B R va vr vb vs)) (p0 pages : Nat) (hp : p0 + pages ≤ n) :
    Calls Try.prog 20 #[.pointer (some ⟨Wb, 0, none⟩), .int .u32 (4096 * p0 : Nat), .int .i64 pages] wr fun e w' => e = .returned (.bool true) ∧ ∃ A A6, wr.heap.size ≤ A ∧ wr.heap.size ≤ A6 ∧ w'.heap[Wb]? = some (boxW B R (some ⟨A, 0, none⟩) (some ⟨A6, 0, none⟩) va vr) ∧ IsA w' A B p0 pages 0 false ∧ Is6 w' A6 R p0 pages 0 false ∧ Chg wr w' (fun k => k = Wb) := by
  obtain ⟨c0, c1, c2, c3, c4, c5⟩ := box_cells hb
  have N1 := anew_ok wr B M n f m1 h.mem p0 pages hp
  have hnum := num_any
  have H : Hid (Sd w wr B M n f m1 R P g m2 ∧ wr.heap[Wb]? = some (boxW B R va vr vb vs)) := ⟨h, hb⟩
  obtain ⟨base, hbase⟩ : ∃ base, base = 4096 * p0 := ⟨_, rfl⟩
  rw [← hbase] at N1 ⊢
  have HB : Hid (base = 4096 * p0) := hbase
  clear h hb hbase
  go_enter Try.func20, Try.ntmps20
  go_wp2_with fail
  go_at_call 8
  refine N1.mono ?_
  rintro e w1 ⟨rfl, hA1, hC1, hs1⟩
  obtain ⟨A, hA⟩ : ∃ A, A = wr.heap.size := ⟨_, rfl⟩
  rw [← hA] at hA1 hs1 ⊢
  have hb1 := hC1.heap H.out.2 (fun h => h)
  have N2 := r6new_ok w1 R P n g m2 (H.out.1.same hC1).ref p0 pages hp
  rw [← HB.out] at N2
  clear c0 c1 c2 c3 c4 c5 N1
  obtain ⟨c0, c1, c2, c3, c4, c5⟩ := box_cells hb1
  have K1 : Hid (IsA w1 A B p0 pages 0 false ∧ Chg wr w1 (fun _ => False) ∧ w1.heap[Wb]? = some (boxW B R va vr vb vs) ∧ A = wr.heap.size) := ⟨hA1, hC1, hb1, hA⟩
  clear hA1 hC1 hb1 hA
  go_wp2_with fail
  go_at_call 31
  refine N2.mono ?_
  rintro e w2 ⟨rfl, hA2, hC2, hs2⟩
  obtain ⟨A6, hA6⟩ : ∃ A6, A6 = w1.heap.size := ⟨_, rfl⟩
  rw [← hA6] at hA2 hs2 ⊢
  have hb2 := hC2.heap K1.out.2.2.1 (fun h => h)
  clear c0 c1 c2 c3 c4 c5 N2
  obtain ⟨c0, c1, c2, c3, c4, c5⟩ := box_cells hb2
  have fz := box_fz hb2
  have K2 : Hid (Is6 w2 A6 R p0 pages 0 false ∧ Chg w1 w2 (fun _ => False) ∧ w2.heap[Wb]? = some (boxW B R va vr vb vs) ∧ A6 = w1.heap.size) := ⟨hA2, hC2, hb2, hA6⟩
  clear hA2 hC2 hb2 hA6
  go_wp2_with (first
    | (go_at_call 19; refine (hnum _ _).mono ?_; rintro e wq ⟨rfl, hw⟩; rw [hw]; clear hw wq))
  go_ret
  obtain ⟨q1, q2, q3, q4⟩ := K1.out
  obtain ⟨r1, r2, r3, r4⟩ := K2.out
  have hbx := heap_setCell_same w2 Wb 4 _ 52 (.pointer va) r3
  have hbx := heap_setCell_same _ Wb 5 _ 52 (.pointer vr) hbx
  have hbx := heap_setCell_same _ Wb 2 _ 52 (.pointer (some ⟨A, 0, none⟩)) hbx
  have hbx := heap_setCell_same _ Wb 3 _ 52 (.pointer (some ⟨A6, 0, none⟩)) hbx
  have hcc : Chg w2 ((((w2.setCell ⟨Wb, 4, none⟩ (.pointer va)).setCell ⟨Wb, 5, none⟩ (.pointer vr)).setCell ⟨Wb, 2, none⟩ (.pointer (some ⟨A, 0, none⟩))).setCell ⟨Wb, 3, none⟩ (.pointer (some ⟨A6, 0, none⟩))) (fun k => k = Wb) :=
    Chg.setCell (S := fun k => k = Wb) (Chg.setCell (S := fun k => k = Wb) (Chg.setCell (S := fun k => k = Wb) (Chg.setCell (S := fun k => k = Wb) (Chg.refl _ _) (.inl rfl) _) (.inl rfl) _) (.inl rfl) _) (.inl rfl) _
  have hWb : Wb < wr.heap.size := (Array.getElem?_eq_some_iff.1 H.out.2).1
  have hsz := q2.size
  refine ⟨rfl, A, A6, by omega, by omega, ?_, (q1.other r2 (fun h => h)).other hcc (by omega), r1.other hcc (by omega), ?_⟩
  · exact hbx
  · exact ((q2.trans r2 (fun _ _ h => h)).mono (fun _ _ h => h.elim)).trans hcc (fun _ _ h => h)

set_option maxHeartbeats 1000000 in
set_option maxRecDepth 10000 in
theorem told_any (w wr : World) (Wb B M n : Nat) (f : Nat → Option Nat) (m1 : Nat → Nat) (R P : Nat) (g : Nat → Option Nat) (m2 : Nat → Nat) (d : Pd) (t : Nat) (s : Bool) (o : Option Pd) (h : Wd w wr Wb B M n f m1 R P g m2 d t s t s o) (addr : Nat) (ha : addr < 4294967296) :
    Calls Try.prog 22 #[.pointer (some ⟨Wb, 0, none⟩), .int .u32 addr] wr fun e w' => e = .returned (.bool true) ∧ Chg wr w' (fun _ => False) := by
  have H : Hid (Wd w wr Wb B M n f m1 R P g m2 d t s t s o) := h
  obtain ⟨c0, c1, c2, c3, c4, c5⟩ := h.cells
  have L1 := left_any wr d.A B d.p0 d.pages t s h.pr.a
  obtain ⟨lf, hlf⟩ : ∃ lf, lf = d.pages - t := ⟨_, rfl⟩
  rw [← hlf] at L1
  have HL : Hid (lf = d.pages - t) := hlf
  clear h hlf
  go_enter Try.func22, Try.ntmps22
  go_wp2_with fail
  go_at_call 11
  refine L1.mono ?_
  rintro e w1 ⟨rfl, hC1⟩
  have h1 := H.out.same hC1
  have T1 := taken_any w1 d.A B d.p0 d.pages t s h1.pr.a
  have S1 := sealed_any w1 d.A B d.p0 d.pages t s h1.pr.a
  have H1 := holds_any w1 d.A B d.p0 d.pages t s h1.pr.a addr ha
  obtain ⟨ih, hih⟩ : ∃ ih, ih = inA d.p0 d.pages addr := ⟨_, rfl⟩
  rw [← hih] at H1
  have HI : Hid (ih = inA d.p0 d.pages addr) := hih
  clear c0 c1 c2 c3 c4 c5 L1
  obtain ⟨c0, c1, c2, c3, c4, c5⟩ := h1.cells
  have K1 : Hid (Wd w w1 Wb B M n f m1 R P g m2 d t s t s o ∧ Chg wr w1 (fun _ => False)) := ⟨h1, hC1⟩
  clear h1 hC1 hih
  go_wp2_with (first
    | (go_at_call 10; refine T1.mono ?_; rintro e wq ⟨rfl, hw⟩; rw [hw]; clear hw wq)
    | (go_at_call 17; refine S1.mono ?_; rintro e wq ⟨rfl, hw⟩; rw [hw]; clear hw wq)
    | fail)
  go_at_call 12
  refine H1.mono ?_
  rintro e w2 ⟨rfl, hC2⟩
  have h2 := K1.out.1.same hC2
  have M2 := memory_any w2 d.A B d.p0 d.pages t s h2.pr.a
  have L2 := r6left_any w2 d.A6 R d.p0 d.pages t s h2.pr.r
  rw [← HL.out] at L2
  clear c0 c1 c2 c3 c4 c5 T1 S1 H1
  obtain ⟨c0, c1, c2, c3, c4, c5⟩ := h2.cells
  have K2 : Hid (Wd w w2 Wb B M n f m1 R P g m2 d t s t s o ∧ Chg wr w2 (fun _ => False)) := ⟨h2, K1.out.2.trans hC2 (fun _ _ h => h)⟩
  clear h2 hC2 K1
  go_wp2_with (first
    | (go_at_call 35; refine M2.mono ?_; rintro e wq ⟨rfl, hw⟩; rw [hw]; clear hw wq)
    | fail)
  go_at_call 36
  refine L2.mono ?_
  rintro e w3 ⟨rfl, hC3⟩
  have h3 := K2.out.1.same hC3
  have H3 := r6holds_any w3 d.A6 R d.p0 d.pages t s h3.pr.r addr ha
  rw [← HI.out] at H3
  clear c0 c1 c2 c3 c4 c5 L2 M2
  obtain ⟨c0, c1, c2, c3, c4, c5⟩ := h3.cells
  obtain ⟨-, -, -, d3, d4, -, -⟩ := h3.pr.r.cells
  have K3 : Hid (Chg wr w3 (fun _ => False)) := K2.out.2.trans hC3 (fun _ _ h => h)
  have b1 : (s == s) = true := by cases s <;> rfl
  have b2 : (ih == ih) = true := by cases ih <;> rfl
  have b3 : ((lf : Int) == lf) = true := by simp
  have b4 : ((t : Int) == t) = true := by simp
  have b5 := ptr_same B
  clear h3 hC3 K2
  go_wp2_with (first
    | (go_at_call 37; refine H3.mono ?_; rintro e wq ⟨rfl, hw⟩; rw [hw]; clear hw wq)
    | fail)
  go_ret
  exact ⟨rfl, K3.out⟩
end Go.Proofs.Ytcmfkopcdlhdnaa
