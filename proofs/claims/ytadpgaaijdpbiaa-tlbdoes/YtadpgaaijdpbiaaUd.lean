import Derived.Test.YtadpgaaijdpbiaaUc
import Derived.Deep.RegionHeld3
import Derived.Deep.Cut
namespace Go.Proofs.Ytadpgaaijdpbiaa
open Go.ChangeShapes Go.WideShapes Go.ChangeAt Go.RowKit Go.Shelf
set_option linter.unusedVariables false

set_option maxHeartbeats 4000000 in
set_option maxRecDepth 20000 in
theorem st_none (w : World) (lab : Nat → Nat) (D : Nat) (R : Rows) (ps : List Pr) (hs : List Hd) (c : Nat) (h : WI w lab D R ps hs) (hne : ps ≠ []) (hsy : SyncK ps c) (hc : c ≤ 300) (hh : hs.length ≤ 4 * c) (x : Opv) (Z : Nat → Int) (l : List Sl4) (hx : OpvOk w lab x Z l) (hk : x.kind < 1 ∨ 9 < x.kind) :
    Calls Try.prog 27 #[.pointer (some ⟨D, 0, none⟩), .agg x.cells] w fun e w' => e = .returned (.bool true) ∧ SEnd w lab D c w' := by
  obtain ⟨kind, T, N, tg, mp, ca, cl, cc, la, ll, lc⟩ := x
  simp only [Opv.cells] at hk ⊢
  have HK : Hid (_) := hk
  clear hk
  have hlen : 0 < ps.length := List.length_pos_iff.2 hne
  have h4 := h.p4
  obtain ⟨w1, hw1⟩ : ∃ w1, w1 = w.alloc (.cells #[.int .i64 kind, .int .i64 T, .int .i64 N, .int .i64 tg.1, .int .u32 ((tg.2 : Nat) : Int), .int .u32 ((mp.1 : Nat) : Int), .int .u8 ((mp.2 : Nat) : Int), .slice ca cl cc, .slice la ll lc] 77) := ⟨_, rfl⟩
  obtain ⟨Ob, hOb⟩ : ∃ Ob, Ob = w.heap.size := ⟨_, rfl⟩
  have hC1 : Kp w w1 := by rw [hw1]; exact (Chg.refl _ _).alloc _
  have hO1 : w1.heap[Ob]? = some (.cells #[.int .i64 kind, .int .i64 T, .int .i64 N, .int .i64 tg.1, .int .u32 ((tg.2 : Nat) : Int), .int .u32 ((mp.1 : Nat) : Int), .int .u8 ((mp.2 : Nat) : Int), .slice ca cl cc, .slice la ll lc] 77 (0, 0)) := by rw [hw1, hOb]; exact heap_alloc_new w _
  have h1 := h.later hC1
  have hx1 := hx.later hC1 (lab' := relab lab w.heap.size 7) (fun i hi => relab_old hi)
  have n1 := Nx.kp (a := lab) hC1 7
  have lOb : relab lab w.heap.size 7 Ob = 7 := relab_new (by omega)
  obtain ⟨ax, cx, exv, hrx⟩ := row1 h1.x
  obtain ⟨ay, cy, eyv, hry⟩ := row1 h1.y
  obtain ⟨gx, eax, _, _, hgx⟩ := hrx.resolve_left (by omega)
  obtain ⟨gy, eay, _, _, hgy⟩ := hry.resolve_left (by omega)
  subst eax eay
  obtain ⟨d0, d1, d2, d3⟩ := cells4 h1.box
  rw [exv] at d0
  rw [eyv] at d1
  have hP := fun wx => pick_any wx T ps.length hlen (by omega) hx.t
  have hil := pk_lt T ps.length hlen
  obtain ⟨i, hi0⟩ : ∃ i, i = pk T ps.length := ⟨_, rfl⟩
  rw [← hi0] at hP hil
  obtain ⟨p, hi⟩ : ∃ p, ps[i]? = some p := ⟨_, List.getElem?_eq_getElem hil⟩
  have gX : w1.cell? ⟨gx, i, none⟩ = some (.pointer (some ⟨p.B, 0, none⟩)) := hgx i _ (by simp [xL, hi])
  have gY : w1.cell? ⟨gy, i, none⟩ = some (.pointer (some ⟨p.C, 0, none⟩)) := hgy i _ (by simp [yL, hi])
  obtain ⟨np, hnp⟩ : ∃ np, np = ps.length := ⟨_, rfl⟩
  rw [← hnp] at d0 d1 hP hil
  have o0 : w1.cell? ⟨Ob, 0, none⟩ = some (.int .i64 kind) := by simpa using (cells_at hO1 0).1
  have o1 : w1.cell? ⟨Ob, 1, none⟩ = some (.int .i64 T) := by simpa using (cells_at hO1 1).1
  have K1 : Hid (WI w1 (relab lab w.heap.size 7) D R ps hs ∧ Nx w lab w1 (relab lab w.heap.size 7) ∧ OpvOk w1 (relab lab w.heap.size 7) ⟨kind, T, N, tg, mp, ca, cl, cc, la, ll, lc⟩ Z l ∧ relab lab w.heap.size 7 Ob = 7 ∧ w1.heap[Ob]? = some (.cells #[.int .i64 kind, .int .i64 T, .int .i64 N, .int .i64 tg.1, .int .u32 ((tg.2 : Nat) : Int), .int .u32 ((mp.1 : Nat) : Int), .int .u8 ((mp.2 : Nat) : Int), .slice ca cl cc, .slice la ll lc] 77 (0, 0)) ∧ ps[i]? = some p ∧ SyncK ps c ∧ hs.length ≤ 4 * c ∧ ps ≠ [] ∧ w.heap.size = Ob) := ⟨h1, n1, hx1, lOb, hO1, hi, hsy, hh, hne, hOb.symm⟩
  clear h h1 hx hx1 n1 lOb hO1 hC1 hgx hgy hrx hry hsy hh hne hi exv eyv hi0 hlen hnp d2 d3 h4
  go_enter Try.func27, Try.ntmps27
  go_upto_region 1 with fail
  rw [← hOb, ← hw1]
  clear hw1 hOb
  go_quiet (first | (go_at_call 10; exact Calls.quiet_of_same (hP _)))
  go_upto_region 4 with fail
  obtain ⟨W, hW⟩ : ∃ W, W = w1.drewN nq := ⟨_, rfl⟩
  rw [← hW]
  have hCW : Kp w1 W := by rw [hW]; exact Chg.drewN (Chg.refl _ _) _
  obtain ⟨lb, hlb⟩ : ∃ lb, lb = relab (relab lab w.heap.size 7) w1.heap.size 7 := ⟨_, rfl⟩
  have KW : Hid (WI W lb D R ps hs ∧ Nx w lab W lb ∧ OpvOk W lb ⟨kind, T, N, tg, mp, ca, cl, cc, la, ll, lc⟩ Z l ∧ lb Ob = 7 ∧ W.heap[Ob]? = some (.cells #[.int .i64 kind, .int .i64 T, .int .i64 N, .int .i64 tg.1, .int .u32 ((tg.2 : Nat) : Int), .int .u32 ((mp.1 : Nat) : Int), .int .u8 ((mp.2 : Nat) : Int), .slice ca cl cc, .slice la ll lc] 77 (0, 0)) ∧ ps[i]? = some p ∧ SyncK ps c ∧ hs.length ≤ 4 * c ∧ ps ≠ []) := by
    obtain ⟨q1, q2, q3, q4, q5, q6, q7, q8, q9, q10⟩ := K1.out
    rw [hlb]
    exact ⟨q1.later hCW, q2.trans (Nx.kp hCW 7), q3.later hCW (fun i hi => relab_old hi), by rw [relab_old (Array.getElem?_eq_some_iff.1 q5).1]; exact q4, hCW.heap q5, q6, q7, q8, q9⟩
  have o0 : W.cell? ⟨Ob, 0, none⟩ = some (.int .i64 kind) := Kp.cell hCW o0
  clear hW hCW hlb K1 d0 d1 gX gY o1 hP
  obtain ⟨kw1, kw2, kw3, kw4, kw5, kw6, kw7, kw8, kw9⟩ := KW.out
  have o2 : W.cell? ⟨Ob, 2, none⟩ = some (.int .i64 N) := by simpa using (cells_at kw5 2).1
  have o3 : W.cell? ⟨Ob, 3, none⟩ = some (.int .i64 tg.1) := by simpa using (cells_at kw5 3).1
  have o4 : W.cell? ⟨Ob, 4, none⟩ = some (.int .u32 ((tg.2 : Nat) : Int)) := by simpa using (cells_at kw5 4).1
  have o5 : W.cell? ⟨Ob, 5, none⟩ = some (.int .u32 ((mp.1 : Nat) : Int)) := by simpa using (cells_at kw5 5).1
  have o6 : W.cell? ⟨Ob, 6, none⟩ = some (.int .u8 ((mp.2 : Nat) : Int)) := by simpa using (cells_at kw5 6).1
  have o7 : W.cell? ⟨Ob, 7, none⟩ = some (.slice ca cl cc) := by simpa using (cells_at kw5 7).1
  have o8 : W.cell? ⟨Ob, 8, none⟩ = some (.slice la ll lc) := by simpa using (cells_at kw5 8).1
  have hk := HK.out
  have KE : Hid (SEnd w lab D c W) := ⟨lb, R, ps, hs, kw1, kw2, kw7.up, by omega, kw9⟩
  have j1 : (kind == 1) = false := by simp; omega
  have j2 : (kind == 2) = false := by simp; omega
  have j3 : (kind == 3) = false := by simp; omega
  have j4 : (kind == 4) = false := by simp; omega
  have j5 : (kind == 5) = false := by simp; omega
  have j6 : (kind == 6) = false := by simp; omega
  have j7 : (kind == 7) = false := by simp; omega
  have j8 : (kind == 8) = false := by simp; omega
  have j9 : (kind == 9) = false := by simp; omega
  clear kw1 kw2 kw3 kw4 kw5 kw6 kw7 kw8 kw9 o2 o3 o4 o5 o6 o7 o8
  go_wp2
  go_ret
  exact ⟨rfl, KE.out⟩

set_option maxHeartbeats 4000000 in
set_option maxRecDepth 20000 in
theorem st_load (w : World) (lab : Nat → Nat) (D : Nat) (R : Rows) (ps : List Pr) (hs : List Hd) (c : Nat) (h : WI w lab D R ps hs) (hne : ps ≠ []) (hsy : SyncK ps c) (hc : c ≤ 300) (hh : hs.length ≤ 4 * c) (x : Opv) (Z : Nat → Int) (l : List Sl4) (hx : OpvOk w lab x Z l) (hk : x.kind = 2) :
    Calls Try.prog 27 #[.pointer (some ⟨D, 0, none⟩), .agg x.cells] w fun e w' => e = .returned (.bool true) ∧ SEnd w lab D c w' := by
  obtain ⟨kind, T, N, tg, mp, ca, cl, cc, la, ll, lc⟩ := x
  simp only [Opv.cells] at hk ⊢
  have HK : Hid (_) := hk
  clear hk
  have hlen : 0 < ps.length := List.length_pos_iff.2 hne
  have h4 := h.p4
  obtain ⟨w1, hw1⟩ : ∃ w1, w1 = w.alloc (.cells #[.int .i64 kind, .int .i64 T, .int .i64 N, .int .i64 tg.1, .int .u32 ((tg.2 : Nat) : Int), .int .u32 ((mp.1 : Nat) : Int), .int .u8 ((mp.2 : Nat) : Int), .slice ca cl cc, .slice la ll lc] 77) := ⟨_, rfl⟩
  obtain ⟨Ob, hOb⟩ : ∃ Ob, Ob = w.heap.size := ⟨_, rfl⟩
  have hC1 : Kp w w1 := by rw [hw1]; exact (Chg.refl _ _).alloc _
  have hO1 : w1.heap[Ob]? = some (.cells #[.int .i64 kind, .int .i64 T, .int .i64 N, .int .i64 tg.1, .int .u32 ((tg.2 : Nat) : Int), .int .u32 ((mp.1 : Nat) : Int), .int .u8 ((mp.2 : Nat) : Int), .slice ca cl cc, .slice la ll lc] 77 (0, 0)) := by rw [hw1, hOb]; exact heap_alloc_new w _
  have h1 := h.later hC1
  have hx1 := hx.later hC1 (lab' := relab lab w.heap.size 7) (fun i hi => relab_old hi)
  have n1 := Nx.kp (a := lab) hC1 7
  have lOb : relab lab w.heap.size 7 Ob = 7 := relab_new (by omega)
  obtain ⟨ax, cx, exv, hrx⟩ := row1 h1.x
  obtain ⟨ay, cy, eyv, hry⟩ := row1 h1.y
  obtain ⟨gx, eax, _, _, hgx⟩ := hrx.resolve_left (by omega)
  obtain ⟨gy, eay, _, _, hgy⟩ := hry.resolve_left (by omega)
  subst eax eay
  obtain ⟨d0, d1, d2, d3⟩ := cells4 h1.box
  rw [exv] at d0
  rw [eyv] at d1
  have hP := fun wx => pick_any wx T ps.length hlen (by omega) hx.t
  have hil := pk_lt T ps.length hlen
  obtain ⟨i, hi0⟩ : ∃ i, i = pk T ps.length := ⟨_, rfl⟩
  rw [← hi0] at hP hil
  obtain ⟨p, hi⟩ : ∃ p, ps[i]? = some p := ⟨_, List.getElem?_eq_getElem hil⟩
  have gX : w1.cell? ⟨gx, i, none⟩ = some (.pointer (some ⟨p.B, 0, none⟩)) := hgx i _ (by simp [xL, hi])
  have gY : w1.cell? ⟨gy, i, none⟩ = some (.pointer (some ⟨p.C, 0, none⟩)) := hgy i _ (by simp [yL, hi])
  obtain ⟨np, hnp⟩ : ∃ np, np = ps.length := ⟨_, rfl⟩
  rw [← hnp] at d0 d1 hP hil
  have o0 : w1.cell? ⟨Ob, 0, none⟩ = some (.int .i64 kind) := by simpa using (cells_at hO1 0).1
  have o1 : w1.cell? ⟨Ob, 1, none⟩ = some (.int .i64 T) := by simpa using (cells_at hO1 1).1
  have K1 : Hid (WI w1 (relab lab w.heap.size 7) D R ps hs ∧ Nx w lab w1 (relab lab w.heap.size 7) ∧ OpvOk w1 (relab lab w.heap.size 7) ⟨kind, T, N, tg, mp, ca, cl, cc, la, ll, lc⟩ Z l ∧ relab lab w.heap.size 7 Ob = 7 ∧ w1.heap[Ob]? = some (.cells #[.int .i64 kind, .int .i64 T, .int .i64 N, .int .i64 tg.1, .int .u32 ((tg.2 : Nat) : Int), .int .u32 ((mp.1 : Nat) : Int), .int .u8 ((mp.2 : Nat) : Int), .slice ca cl cc, .slice la ll lc] 77 (0, 0)) ∧ ps[i]? = some p ∧ SyncK ps c ∧ hs.length ≤ 4 * c ∧ ps ≠ [] ∧ w.heap.size = Ob) := ⟨h1, n1, hx1, lOb, hO1, hi, hsy, hh, hne, hOb.symm⟩
  clear h h1 hx hx1 n1 lOb hO1 hC1 hgx hgy hrx hry hsy hh hne hi exv eyv hi0 hlen hnp d2 d3 h4
  go_enter Try.func27, Try.ntmps27
  go_upto_region 1 with fail
  rw [← hOb, ← hw1]
  clear hw1 hOb
  go_quiet (first | (go_at_call 10; exact Calls.quiet_of_same (hP _)))
  go_upto_region 4 with fail
  obtain ⟨W, hW⟩ : ∃ W, W = w1.drewN nq := ⟨_, rfl⟩
  rw [← hW]
  have hCW : Kp w1 W := by rw [hW]; exact Chg.drewN (Chg.refl _ _) _
  obtain ⟨lb, hlb⟩ : ∃ lb, lb = relab (relab lab w.heap.size 7) w1.heap.size 7 := ⟨_, rfl⟩
  have KW : Hid (WI W lb D R ps hs ∧ Nx w lab W lb ∧ OpvOk W lb ⟨kind, T, N, tg, mp, ca, cl, cc, la, ll, lc⟩ Z l ∧ lb Ob = 7 ∧ W.heap[Ob]? = some (.cells #[.int .i64 kind, .int .i64 T, .int .i64 N, .int .i64 tg.1, .int .u32 ((tg.2 : Nat) : Int), .int .u32 ((mp.1 : Nat) : Int), .int .u8 ((mp.2 : Nat) : Int), .slice ca cl cc, .slice la ll lc] 77 (0, 0)) ∧ ps[i]? = some p ∧ SyncK ps c ∧ hs.length ≤ 4 * c ∧ ps ≠ []) := by
    obtain ⟨q1, q2, q3, q4, q5, q6, q7, q8, q9, q10⟩ := K1.out
    rw [hlb]
    exact ⟨q1.later hCW, q2.trans (Nx.kp hCW 7), q3.later hCW (fun i hi => relab_old hi), by rw [relab_old (Array.getElem?_eq_some_iff.1 q5).1]; exact q4, hCW.heap q5, q6, q7, q8, q9⟩
  have o0 : W.cell? ⟨Ob, 0, none⟩ = some (.int .i64 kind) := Kp.cell hCW o0
  clear hW hCW hlb K1 d0 d1 gX gY o1 hP
  obtain ⟨kw1, kw2, kw3, kw4, kw5, kw6, kw7, kw8, kw9⟩ := KW.out
  have o2 : W.cell? ⟨Ob, 2, none⟩ = some (.int .i64 N) := by simpa using (cells_at kw5 2).1
  have o3 : W.cell? ⟨Ob, 3, none⟩ = some (.int .i64 tg.1) := by simpa using (cells_at kw5 3).1
  have o4 : W.cell? ⟨Ob, 4, none⟩ = some (.int .u32 ((tg.2 : Nat) : Int)) := by simpa using (cells_at kw5 4).1
  have o5 : W.cell? ⟨Ob, 5, none⟩ = some (.int .u32 ((mp.1 : Nat) : Int)) := by simpa using (cells_at kw5 5).1
  have o6 : W.cell? ⟨Ob, 6, none⟩ = some (.int .u8 ((mp.2 : Nat) : Int)) := by simpa using (cells_at kw5 6).1
  have o7 : W.cell? ⟨Ob, 7, none⟩ = some (.slice ca cl cc) := by simpa using (cells_at kw5 7).1
  have o8 : W.cell? ⟨Ob, 8, none⟩ = some (.slice la ll lc) := by simpa using (cells_at kw5 8).1
  have hk := HK.out
  subst hk
  have A1 := load_any W lb D R ps hs kw1 N kw3.n la ll lc l kw3.li kw3.lo kw3.l13
  clear kw1 kw2 kw3 kw4 kw5 kw6 kw7 kw8 kw9 o3 o4 o5 o6 o7
  go_wp2_with fail
  go_at_call 40
  refine A1.mono ?_
  rintro e W4 ⟨rfl, lab4, R4, ps4, h4', n4, l4⟩
  have KE : Hid (SEnd w lab D c W4) := ⟨lab4, R4, ps4, hs, h4', KW.out.2.1.trans n4, KW.out.2.2.2.2.2.2.1.ld l4, by have := KW.out.2.2.2.2.2.2.2.1; omega, l4.ne KW.out.2.2.2.2.2.2.2.2⟩
  clear h4' n4 l4 A1
  go_wp2
  go_ret
  exact ⟨rfl, KE.out⟩

set_option maxHeartbeats 4000000 in
set_option maxRecDepth 20000 in
theorem st_new (w : World) (lab : Nat → Nat) (D : Nat) (R : Rows) (ps : List Pr) (hs : List Hd) (c : Nat) (h : WI w lab D R ps hs) (hne : ps ≠ []) (hsy : SyncK ps c) (hc : c ≤ 300) (hh : hs.length ≤ 4 * c) (x : Opv) (Z : Nat → Int) (l : List Sl4) (hx : OpvOk w lab x Z l) (hk : x.kind = 1) :
    Calls Try.prog 27 #[.pointer (some ⟨D, 0, none⟩), .agg x.cells] w fun e w' => e = .returned (.bool true) ∧ SEnd w lab D c w' := by
  obtain ⟨kind, T, N, tg, mp, ca, cl, cc, la, ll, lc⟩ := x
  simp only [Opv.cells] at hk ⊢
  have HK : Hid (_) := hk
  clear hk
  have hlen : 0 < ps.length := List.length_pos_iff.2 hne
  have h4 := h.p4
  obtain ⟨w1, hw1⟩ : ∃ w1, w1 = w.alloc (.cells #[.int .i64 kind, .int .i64 T, .int .i64 N, .int .i64 tg.1, .int .u32 ((tg.2 : Nat) : Int), .int .u32 ((mp.1 : Nat) : Int), .int .u8 ((mp.2 : Nat) : Int), .slice ca cl cc, .slice la ll lc] 77) := ⟨_, rfl⟩
  obtain ⟨Ob, hOb⟩ : ∃ Ob, Ob = w.heap.size := ⟨_, rfl⟩
  have hC1 : Kp w w1 := by rw [hw1]; exact (Chg.refl _ _).alloc _
  have hO1 : w1.heap[Ob]? = some (.cells #[.int .i64 kind, .int .i64 T, .int .i64 N, .int .i64 tg.1, .int .u32 ((tg.2 : Nat) : Int), .int .u32 ((mp.1 : Nat) : Int), .int .u8 ((mp.2 : Nat) : Int), .slice ca cl cc, .slice la ll lc] 77 (0, 0)) := by rw [hw1, hOb]; exact heap_alloc_new w _
  have h1 := h.later hC1
  have hx1 := hx.later hC1 (lab' := relab lab w.heap.size 7) (fun i hi => relab_old hi)
  have n1 := Nx.kp (a := lab) hC1 7
  have lOb : relab lab w.heap.size 7 Ob = 7 := relab_new (by omega)
  obtain ⟨ax, cx, exv, hrx⟩ := row1 h1.x
  obtain ⟨ay, cy, eyv, hry⟩ := row1 h1.y
  obtain ⟨gx, eax, _, _, hgx⟩ := hrx.resolve_left (by omega)
  obtain ⟨gy, eay, _, _, hgy⟩ := hry.resolve_left (by omega)
  subst eax eay
  obtain ⟨d0, d1, d2, d3⟩ := cells4 h1.box
  rw [exv] at d0
  rw [eyv] at d1
  have hP := fun wx => pick_any wx T ps.length hlen (by omega) hx.t
  have hil := pk_lt T ps.length hlen
  obtain ⟨i, hi0⟩ : ∃ i, i = pk T ps.length := ⟨_, rfl⟩
  rw [← hi0] at hP hil
  obtain ⟨p, hi⟩ : ∃ p, ps[i]? = some p := ⟨_, List.getElem?_eq_getElem hil⟩
  have gX : w1.cell? ⟨gx, i, none⟩ = some (.pointer (some ⟨p.B, 0, none⟩)) := hgx i _ (by simp [xL, hi])
  have gY : w1.cell? ⟨gy, i, none⟩ = some (.pointer (some ⟨p.C, 0, none⟩)) := hgy i _ (by simp [yL, hi])
  obtain ⟨np, hnp⟩ : ∃ np, np = ps.length := ⟨_, rfl⟩
  rw [← hnp] at d0 d1 hP hil
  have o0 : w1.cell? ⟨Ob, 0, none⟩ = some (.int .i64 kind) := by simpa using (cells_at hO1 0).1
  have o1 : w1.cell? ⟨Ob, 1, none⟩ = some (.int .i64 T) := by simpa using (cells_at hO1 1).1
  have K1 : Hid (WI w1 (relab lab w.heap.size 7) D R ps hs ∧ Nx w lab w1 (relab lab w.heap.size 7) ∧ OpvOk w1 (relab lab w.heap.size 7) ⟨kind, T, N, tg, mp, ca, cl, cc, la, ll, lc⟩ Z l ∧ relab lab w.heap.size 7 Ob = 7 ∧ w1.heap[Ob]? = some (.cells #[.int .i64 kind, .int .i64 T, .int .i64 N, .int .i64 tg.1, .int .u32 ((tg.2 : Nat) : Int), .int .u32 ((mp.1 : Nat) : Int), .int .u8 ((mp.2 : Nat) : Int), .slice ca cl cc, .slice la ll lc] 77 (0, 0)) ∧ ps[i]? = some p ∧ SyncK ps c ∧ hs.length ≤ 4 * c ∧ ps ≠ [] ∧ w.heap.size = Ob) := ⟨h1, n1, hx1, lOb, hO1, hi, hsy, hh, hne, hOb.symm⟩
  clear h h1 hx hx1 n1 lOb hO1 hC1 hgx hgy hrx hry hsy hh hne hi exv eyv hi0 hlen hnp d2 d3 h4
  go_enter Try.func27, Try.ntmps27
  go_upto_region 1 with fail
  rw [← hOb, ← hw1]
  clear hw1 hOb
  go_quiet (first | (go_at_call 10; exact Calls.quiet_of_same (hP _)))
  go_upto_region 4 with fail
  obtain ⟨W, hW⟩ : ∃ W, W = w1.drewN nq := ⟨_, rfl⟩
  rw [← hW]
  have hCW : Kp w1 W := by rw [hW]; exact Chg.drewN (Chg.refl _ _) _
  obtain ⟨lb, hlb⟩ : ∃ lb, lb = relab (relab lab w.heap.size 7) w1.heap.size 7 := ⟨_, rfl⟩
  have KW : Hid (WI W lb D R ps hs ∧ Nx w lab W lb ∧ OpvOk W lb ⟨kind, T, N, tg, mp, ca, cl, cc, la, ll, lc⟩ Z l ∧ lb Ob = 7 ∧ W.heap[Ob]? = some (.cells #[.int .i64 kind, .int .i64 T, .int .i64 N, .int .i64 tg.1, .int .u32 ((tg.2 : Nat) : Int), .int .u32 ((mp.1 : Nat) : Int), .int .u8 ((mp.2 : Nat) : Int), .slice ca cl cc, .slice la ll lc] 77 (0, 0)) ∧ ps[i]? = some p ∧ SyncK ps c ∧ hs.length ≤ 4 * c ∧ ps ≠ []) := by
    obtain ⟨q1, q2, q3, q4, q5, q6, q7, q8, q9, q10⟩ := K1.out
    rw [hlb]
    exact ⟨q1.later hCW, q2.trans (Nx.kp hCW 7), q3.later hCW (fun i hi => relab_old hi), by rw [relab_old (Array.getElem?_eq_some_iff.1 q5).1]; exact q4, hCW.heap q5, q6, q7, q8, q9⟩
  have o0 : W.cell? ⟨Ob, 0, none⟩ = some (.int .i64 kind) := Kp.cell hCW o0
  clear hW hCW hlb K1 d0 d1 gX gY o1 hP
  obtain ⟨kw1, kw2, kw3, kw4, kw5, kw6, kw7, kw8, kw9⟩ := KW.out
  have o2 : W.cell? ⟨Ob, 2, none⟩ = some (.int .i64 N) := by simpa using (cells_at kw5 2).1
  have o3 : W.cell? ⟨Ob, 3, none⟩ = some (.int .i64 tg.1) := by simpa using (cells_at kw5 3).1
  have o4 : W.cell? ⟨Ob, 4, none⟩ = some (.int .u32 ((tg.2 : Nat) : Int)) := by simpa using (cells_at kw5 4).1
  have o5 : W.cell? ⟨Ob, 5, none⟩ = some (.int .u32 ((mp.1 : Nat) : Int)) := by simpa using (cells_at kw5 5).1
  have o6 : W.cell? ⟨Ob, 6, none⟩ = some (.int .u8 ((mp.2 : Nat) : Int)) := by simpa using (cells_at kw5 6).1
  have o7 : W.cell? ⟨Ob, 7, none⟩ = some (.slice ca cl cc) := by simpa using (cells_at kw5 7).1
  have o8 : W.cell? ⟨Ob, 8, none⟩ = some (.slice la ll lc) := by simpa using (cells_at kw5 8).1
  have hk := HK.out
  subst hk
  by_cases hn : 1 ≤ N ∧ N ≤ 64
  · obtain ⟨m, rfl⟩ : ∃ m : Nat, N = m := ⟨N.toNat, by omega⟩
    have A1 := New_any W m (by omega) (by omega)
    clear kw1 kw2 kw3 kw4 kw5 kw6 kw7 kw8 kw9 o3 o4 o5 o6 o7 o8
    go_wp2_with fail
    go_at_call 11
    refine A1.mono ?_
    rintro e W2 ⟨rfl, hT2, hk2⟩
    have A2 := rNew_any W2 m (by omega) (by omega)
    have o2 : W2.cell? ⟨Ob, 2, none⟩ = some (.int .i64 m) := Kp.cell hk2 o2
    have K2 : Hid (IsT W2 (W.heap.size + 1) W.heap.size (.slice none 0 0) m 0 Sta.none ∧ Kp W W2) := ⟨hT2, hk2⟩
    obtain ⟨b2, hb2⟩ : ∃ b, b = W.heap.size + 1 := ⟨_, rfl⟩
    rw [← hb2]
    have HB : Hid (b2 = W.heap.size + 1) := hb2
    clear hT2 hk2 A1 hb2
    go_wp2_with fail
    go_at_call 24
    refine A2.mono ?_
    rintro e W3 ⟨rfl, hR3, hk3⟩
    have A3 := more_two W W3 lb D R ps hs KW.out.1 (Kp.trans K2.out.2 hk3) (.pointer (some ⟨b2, 0, none⟩)) (.pointer (some ⟨W2.heap.size, 0, none⟩)) (.inr ⟨b2, W.heap.size, .slice none 0 0, m, 0, Sta.none, W2.heap.size, .slice none 0 0, [], W2.heap.size, rfl, rfl, by rw [HB.out]; exact K2.out.1.kp hk3, hR3, rfl, by omega, K2.out.2.size, fun b hb => ?_, fun b hb => ?_⟩)
    · obtain ⟨b3, hb3⟩ : ∃ b, b = W2.heap.size := ⟨_, rfl⟩
      rw [← hb3] at A3 ⊢
      have hnum := num26
      clear hR3 hk3 K2 A2 hb3 HB
      go_wp2_with fail
      go_at_call 25
      refine A3.mono ?_
      rintro e W4 ⟨rfl, lab4, R4, ps4, h4', n4, l4⟩
      have KE : Hid (SEnd w lab D c W4) := ⟨lab4, R4, ps4, hs, h4', KW.out.2.1.trans n4, KW.out.2.2.2.2.2.2.1.ld l4, by have := KW.out.2.2.2.2.2.2.2.1; omega, l4.ne KW.out.2.2.2.2.2.2.2.2⟩
      clear h4' n4 l4 A3
      go_wp2_with (first
        | (go_at_call 26; refine (hnum _ _).mono ?_; rintro e wq ⟨rfl, hw⟩; rw [hw]; clear hw wq)
        | fail)
      go_ret
      exact ⟨rfl, KE.out⟩
    · rcases hb with rfl | rfl | e
      · rw [HB.out]; have := K2.out.1.lt (.inl rfl); omega
      · have := K2.out.1.lt (.inr (.inl rfl)); omega
      · cases e
    · rcases hb with rfl | e
      · omega
      · cases e
  · have A1 := New_no W N (by omega)
    have A2 := rNew_no W N (by omega)
    have A3 := more_two W W lb D R ps hs KW.out.1 (Chg.refl _ _) (.pointer none) (.pointer none) (.inl ⟨rfl, rfl⟩)
    have hnum := num26
    clear kw1 kw2 kw3 kw4 kw5 kw6 kw7 kw8 kw9 o3 o4 o5 o6 o7 o8
    go_wp2_with (first
      | (go_at_call 11; refine A1.mono ?_; rintro e wq ⟨rfl, hw⟩; rw [hw]; clear hw wq)
      | (go_at_call 24; refine A2.mono ?_; rintro e wq ⟨rfl, hw⟩; rw [hw]; clear hw wq)
      | fail)
    go_at_call 25
    refine A3.mono ?_
    rintro e W4 ⟨rfl, lab4, R4, ps4, h4', n4, l4⟩
    have KE : Hid (SEnd w lab D c W4) := ⟨lab4, R4, ps4, hs, h4', KW.out.2.1.trans n4, KW.out.2.2.2.2.2.2.1.ld l4, by have := KW.out.2.2.2.2.2.2.2.1; omega, l4.ne KW.out.2.2.2.2.2.2.2.2⟩
    clear h4' n4 l4 A3 A1 A2
    go_wp2_with (first
      | (go_at_call 26; refine (hnum _ _).mono ?_; rintro e wq ⟨rfl, hw⟩; rw [hw]; clear hw wq)
      | fail)
    go_ret
    exact ⟨rfl, KE.out⟩
end Go.Proofs.Ytadpgaaijdpbiaa
