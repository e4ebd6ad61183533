import Derived.Test.YtadpgaaijdpbiaaUg
import Derived.Deep.RegionHeld3
import Derived.Deep.Cut
namespace Go.Proofs.Ytadpgaaijdpbiaa
open Go.ChangeShapes Go.WideShapes Go.ChangeAt Go.RowKit Go.Shelf
set_option linter.unusedVariables false

set_option maxHeartbeats 4000000 in
set_option maxRecDepth 20000 in
theorem st_look (w : World) (lab : Nat → Nat) (D : Nat) (R : Rows) (ps : List Pr) (hs : List Hd) (c : Nat) (h : WI w lab D R ps hs) (hne : ps ≠ []) (hsy : SyncK ps c) (hc : c ≤ 300) (hh : hs.length ≤ 4 * c) (x : Opv) (Z : Nat → Int) (l : List Sl4) (hx : OpvOk w lab x Z l) (hk : x.kind = 3) :
    Calls Try.prog 27 #[.pointer (some ⟨D, 0, none⟩), .agg x.cells] w fun e w' => e = .returned (.bool true) ∧ SEnd w lab D c w' := by
  obtain ⟨kind, T, N, tg, mp, ca, cl, cc, la, ll, lc⟩ := x
  simp only [Opv.cells] at hk ⊢
  have HK : Hid (_) := hk
  clear hk
  have hlen : 0 < ps.length := List.length_pos_iff.2 hne
  have h4 := h.p4
  obtain ⟨w1, hw1⟩ : ∃ w1, w1 = w.alloc (.cells #[.int .i64 kind, .int .i64 T, .int .i64 N, .int .i64 tg.1, .int .u32 ((tg.2 : Nat) : Int), .int .u32 ((mp.1 : Nat) : Int), .int .u8 ((mp.2 : Nat) : Int), .slice ca cl cc, .slice la ll lc] 77) := ⟨_, rfl⟩
  obtain ⟨Ob, hOb⟩ : ∃ Ob, Ob = w.heap.size := ⟨_, rfl⟩
  have hC1 : Kp w w1 := by rw [hw1]; exact (Chg.refl _ _).alloc _
  have hO1 : w1.heap[Ob]? = some (.cells #[.int .i64 kind, .int .i64 T, .int .i64 N, .int .i64 tg.1, .int .u32 ((tg.2 : Nat) : Int), .int .u32 ((mp.1 : Nat) : Int), .int .u8 ((mp.2 : Nat) : Int), .slice ca cl cc, .slice la ll lc] 77 (0, 0)) := by rw [hw1, hOb]; exact heap_alloc_new w _
  have h1 := h.later hC1
  have hx1 := hx.later hC1 (lab' := relab lab w.heap.size 7) (fun i hi => relab_old hi)
  have n1 := Nx.kp (a := lab) hC1 7
  have lOb : relab lab w.heap.size 7 Ob = 7 := relab_new (by omega)
  obtain ⟨ax, cx, exv, hrx⟩ := row1 h1.x
  obtain ⟨ay, cy, eyv, hry⟩ := row1 h1.y
  obtain ⟨gx, eax, _, _, hgx⟩ := hrx.resolve_left (by omega)
  obtain ⟨gy, eay, _, _, hgy⟩ := hry.resolve_left (by omega)
  subst eax eay
  obtain ⟨d0, d1, d2, d3⟩ := cells4 h1.box
  rw [exv] at d0
  rw [eyv] at d1
  have hP := fun wx => pick_any wx T ps.length hlen (by omega) hx.t
  have hil := pk_lt T ps.length hlen
  obtain ⟨i, hi0⟩ : ∃ i, i = pk T ps.length := ⟨_, rfl⟩
  rw [← hi0] at hP hil
  obtain ⟨p, hi⟩ : ∃ p, ps[i]? = some p := ⟨_, List.getElem?_eq_getElem hil⟩
  have gX : w1.cell? ⟨gx, i, none⟩ = some (.pointer (some ⟨p.B, 0, none⟩)) := hgx i _ (by simp [xL, hi])
  have gY : w1.cell? ⟨gy, i, none⟩ = some (.pointer (some ⟨p.C, 0, none⟩)) := hgy i _ (by simp [yL, hi])
  obtain ⟨np, hnp⟩ : ∃ np, np = ps.length := ⟨_, rfl⟩
  rw [← hnp] at d0 d1 hP hil
  have o0 : w1.cell? ⟨Ob, 0, none⟩ = some (.int .i64 kind) := by simpa using (cells_at hO1 0).1
  have o1 : w1.cell? ⟨Ob, 1, none⟩ = some (.int .i64 T) := by simpa using (cells_at hO1 1).1
  have K1 : Hid (WI w1 (relab lab w.heap.size 7) D R ps hs ∧ Nx w lab w1 (relab lab w.heap.size 7) ∧ OpvOk w1 (relab lab w.heap.size 7) ⟨kind, T, N, tg, mp, ca, cl, cc, la, ll, lc⟩ Z l ∧ relab lab w.heap.size 7 Ob = 7 ∧ w1.heap[Ob]? = some (.cells #[.int .i64 kind, .int .i64 T, .int .i64 N, .int .i64 tg.1, .int .u32 ((tg.2 : Nat) : Int), .int .u32 ((mp.1 : Nat) : Int), .int .u8 ((mp.2 : Nat) : Int), .slice ca cl cc, .slice la ll lc] 77 (0, 0)) ∧ ps[i]? = some p ∧ SyncK ps c ∧ hs.length ≤ 4 * c ∧ ps ≠ [] ∧ w.heap.size = Ob) := ⟨h1, n1, hx1, lOb, hO1, hi, hsy, hh, hne, hOb.symm⟩
  clear h h1 hx hx1 n1 lOb hO1 hC1 hgx hgy hrx hry hsy hh hne hi exv eyv hi0 hlen hnp d2 d3 h4
  go_enter Try.func27, Try.ntmps27
  go_upto_region 1 with fail
  rw [← hOb, ← hw1]
  clear hw1 hOb
  go_quiet (first | (go_at_call 10; exact Calls.quiet_of_same (hP _)))
  go_upto_region 4 with fail
  obtain ⟨W, hW⟩ : ∃ W, W = w1.drewN nq := ⟨_, rfl⟩
  rw [← hW]
  have hCW : Kp w1 W := by rw [hW]; exact Chg.drewN (Chg.refl _ _) _
  obtain ⟨lb, hlb⟩ : ∃ lb, lb = relab (relab lab w.heap.size 7) w1.heap.size 7 := ⟨_, rfl⟩
  have KW : Hid (WI W lb D R ps hs ∧ Nx w lab W lb ∧ OpvOk W lb ⟨kind, T, N, tg, mp, ca, cl, cc, la, ll, lc⟩ Z l ∧ lb Ob = 7 ∧ W.heap[Ob]? = some (.cells #[.int .i64 kind, .int .i64 T, .int .i64 N, .int .i64 tg.1, .int .u32 ((tg.2 : Nat) : Int), .int .u32 ((mp.1 : Nat) : Int), .int .u8 ((mp.2 : Nat) : Int), .slice ca cl cc, .slice la ll lc] 77 (0, 0)) ∧ ps[i]? = some p ∧ SyncK ps c ∧ hs.length ≤ 4 * c ∧ ps ≠ []) := by
    obtain ⟨q1, q2, q3, q4, q5, q6, q7, q8, q9, q10⟩ := K1.out
    rw [hlb]
    exact ⟨q1.later hCW, q2.trans (Nx.kp hCW 7), q3.later hCW (fun i hi => relab_old hi), by rw [relab_old (Array.getElem?_eq_some_iff.1 q5).1]; exact q4, hCW.heap q5, q6, q7, q8, q9⟩
  have o0 : W.cell? ⟨Ob, 0, none⟩ = some (.int .i64 kind) := Kp.cell hCW o0
  clear hW hCW hlb K1 d0 d1 gX gY o1 hP
  obtain ⟨kw1, kw2, kw3, kw4, kw5, kw6, kw7, kw8, kw9⟩ := KW.out
  have o2 : W.cell? ⟨Ob, 2, none⟩ = some (.int .i64 N) := by simpa using (cells_at kw5 2).1
  have o3 : W.cell? ⟨Ob, 3, none⟩ = some (.int .i64 tg.1) := by simpa using (cells_at kw5 3).1
  have o4 : W.cell? ⟨Ob, 4, none⟩ = some (.int .u32 ((tg.2 : Nat) : Int)) := by simpa using (cells_at kw5 4).1
  have o5 : W.cell? ⟨Ob, 5, none⟩ = some (.int .u32 ((mp.1 : Nat) : Int)) := by simpa using (cells_at kw5 5).1
  have o6 : W.cell? ⟨Ob, 6, none⟩ = some (.int .u8 ((mp.2 : Nat) : Int)) := by simpa using (cells_at kw5 6).1
  have o7 : W.cell? ⟨Ob, 7, none⟩ = some (.slice ca cl cc) := by simpa using (cells_at kw5 7).1
  have o8 : W.cell? ⟨Ob, 8, none⟩ = some (.slice la ll lc) := by simpa using (cells_at kw5 8).1
  have hk := HK.out
  subst hk
  have hPr := kw1.ps i p kw6
  have hsl := (kw7 p (List.mem_of_getElem? kw6)).1
  have hkk := (kw7 p (List.mem_of_getElem? kw6)).2
  have hOk := hPr.t.ok
  have hn1 := hPr.t.n1
  have hCl := hPr.r.lt (.inl rfl)
  have htg := kw3.tg
  have hmp := kw3.mp
  have hnF : ¬ Ft p.B p.M p.v Ob := fun e => by have := hPr.ft Ob e; omega
  have HP : Hid (PrIs W lb i p ∧ p.l = p.s.slots ∧ p.k ≤ 1000 + c ∧ p.s.Ok p.n ∧ 1 ≤ p.n ∧ p.C < W.heap.size ∧ TOk tg ∧ MOk mp ∧ ¬ Ft p.B p.M p.v Ob) := ⟨hPr, hsl, hkk, hOk, hn1, hCl, htg, hmp, hnF⟩
  have A1 := Look_any W p.B p.M p.v p.n p.k p.s hPr.t tg kw3.tg
  obtain ⟨mm, hmm⟩ : ∃ mm, mm = (p.s.f tg).getD m0 := ⟨_, rfl⟩
  obtain ⟨bb, hbb⟩ : ∃ bb, bb = (p.s.f tg).isSome := ⟨_, rfl⟩
  rw [← hmm, ← hbb] at A1
  have HM : Hid (mm = (p.s.f tg).getD m0 ∧ bb = (p.s.f tg).isSome) := ⟨hmm, hbb⟩
  clear hmm hbb
  unfold tV mV at A1
  clear kw1 kw2 kw3 kw4 kw5 kw6 kw7 kw8 kw9 o2 o7 o8 hPr hsl hkk hOk hn1 hCl htg hmp hnF
  go_wp2_with fail
  go_at_call 13
  refine A1.mono ?_
  rintro e W2 ⟨rfl, v2, hT2, hC2, hL2⟩
  have K2 : Hid (IsT W2 p.B p.M v2 p.n p.k (p.s.look tg) ∧ Chg W W2 (Ft p.B p.M p.v) ∧ Loc W p.v v2) := ⟨hT2, hC2, hL2⟩
  clear A1 hT2 hC2 hL2 o3 o4 o5 o6
  go_upto_region 14 with fail
  obtain ⟨W3, hW3⟩ : ∃ W3, W3 = W2.alloc (.cells #[.int .u32 ((mm.1 : Nat) : Int), .int .u8 ((mm.2 : Nat) : Int)] 36) := ⟨_, rfl⟩
  obtain ⟨b13, hb13⟩ : ∃ b, b = W2.heap.size := ⟨_, rfl⟩
  rw [← hW3, ← hb13]
  have hk3 : Kp W2 W3 := by rw [hW3]; exact (Chg.refl _ _).alloc _
  have x13 : W3.heap[b13]? = some (.cells #[.int .u32 ((mm.1 : Nat) : Int), .int .u8 ((mm.2 : Nat) : Int)] 36 (0, 0)) := by rw [hW3, hb13]; exact heap_alloc_new W2 _
  obtain ⟨lab3, h3, n3⟩ := KW.out.1.one KW.out.2.2.2.2.2.1 K2.out.1 K2.out.2.1 K2.out.2.2 hk3
  have hO3 := hk3.heap (K2.out.2.1.heap KW.out.2.2.2.2.1 HP.out.2.2.2.2.2.2.2.2)
  have o3 : W3.cell? ⟨Ob, 3, none⟩ = some (.int .i64 tg.1) := by simpa using (cells_at hO3 3).1
  have o4 : W3.cell? ⟨Ob, 4, none⟩ = some (.int .u32 ((tg.2 : Nat) : Int)) := by simpa using (cells_at hO3 4).1
  have o5 := o3
  have o6 := o4
  have A2 := look_ref h3 KW.out.2.2.2.2.2.1 p.s HP.out.2.1 HP.out.2.2.2.1 tg HP.out.2.2.2.2.2.2.1
  have hbC : b13 ≠ p.C := by have := HP.out.2.2.2.2.2.1; have := K2.out.2.1.size; omega
  have K3 : Hid (Nx W lb W3 lab3 ∧ W3.heap[b13]? = some (.cells #[.int .u32 ((mm.1 : Nat) : Int), .int .u8 ((mm.2 : Nat) : Int)] 36 (0, 0)) ∧ b13 ≠ p.C) := ⟨n3, x13, hbC⟩
  clear hW3 hb13 hk3 x13 h3 n3 hO3 hbC K2
  rw [← HM.out.1, ← HM.out.2] at A2
  unfold tV mV at A2
  go_wp2_with fail
  go_at_call 41
  refine A2.mono ?_
  rintro e W4 ⟨rfl, lab4, u4, h4', n4, c4⟩
  have K4 : Hid (WI W4 lab4 D R _ hs ∧ Nx W3 lab3 W4 lab4 ∧ Chg W3 W4 (fun b => b = p.C)) := ⟨h4', n4, c4⟩
  clear A2 h4' n4 c4 o3 o4 o5 o6
  go_upto_region 15 with fail
  obtain ⟨W5, hW5⟩ : ∃ W5, W5 = W4.alloc (.cells #[.int .u32 ((mm.1 : Nat) : Int), .int .u8 ((mm.2 : Nat) : Int)] 36) := ⟨_, rfl⟩
  obtain ⟨b15, hb15⟩ : ∃ b, b = W4.heap.size := ⟨_, rfl⟩
  rw [← hW5, ← hb15]
  have hk5 : Kp W4 W5 := by rw [hW5]; exact (Chg.refl _ _).alloc _
  have x15 : W5.heap[b15]? = some (.cells #[.int .u32 ((mm.1 : Nat) : Int), .int .u8 ((mm.2 : Nat) : Int)] 36 (0, 0)) := by rw [hW5, hb15]; exact heap_alloc_new W4 _
  have x13 := hk5.heap (K4.out.2.2.heap K3.out.2.1 K3.out.2.2)
  obtain ⟨g0, g1, _, _⟩ := cells2 x13
  obtain ⟨g2, g3, _, _⟩ := cells2 x15
  have KE : Hid (SEnd w lab D c W5) := by
    obtain ⟨q1, q2, q3, q4, q5, q6, q7, q8, q9⟩ := KW.out
    exact ⟨_, R, _, hs, K4.out.1.later hk5, q2.trans (K3.out.1.trans (K4.out.2.1.trans (Nx.kp hk5 7))), q7.set q6 rfl (by simp only; omega), by omega, set_ne q9⟩
  clear hW5 hb15 hk5 x15 x13 K4 K3
  have eq1 := fun W => eql36 ((mm.1 : Nat) : Int) ((mm.1 : Nat) : Int) ((mm.2 : Nat) : Int) ((mm.2 : Nat) : Int) W
  rw [decide_eq_true ⟨rfl, rfl⟩] at eq1
  have bq : (bb == bb) = true := by cases bb <;> rfl
  go_wp2
  go_ret
  exact ⟨rfl, KE.out⟩

set_option maxHeartbeats 4000000 in
set_option maxRecDepth 20000 in
theorem st_put (w : World) (lab : Nat → Nat) (D : Nat) (R : Rows) (ps : List Pr) (hs : List Hd) (c : Nat) (h : WI w lab D R ps hs) (hne : ps ≠ []) (hsy : SyncK ps c) (hc : c ≤ 300) (hh : hs.length ≤ 4 * c) (x : Opv) (Z : Nat → Int) (l : List Sl4) (hx : OpvOk w lab x Z l) (hk : x.kind = 4) :
    Calls Try.prog 27 #[.pointer (some ⟨D, 0, none⟩), .agg x.cells] w fun e w' => e = .returned (.bool true) ∧ SEnd w lab D c w' := by
  obtain ⟨kind, T, N, tg, mp, ca, cl, cc, la, ll, lc⟩ := x
  simp only [Opv.cells] at hk ⊢
  have HK : Hid (_) := hk
  clear hk
  have hlen : 0 < ps.length := List.length_pos_iff.2 hne
  have h4 := h.p4
  obtain ⟨w1, hw1⟩ : ∃ w1, w1 = w.alloc (.cells #[.int .i64 kind, .int .i64 T, .int .i64 N, .int .i64 tg.1, .int .u32 ((tg.2 : Nat) : Int), .int .u32 ((mp.1 : Nat) : Int), .int .u8 ((mp.2 : Nat) : Int), .slice ca cl cc, .slice la ll lc] 77) := ⟨_, rfl⟩
  obtain ⟨Ob, hOb⟩ : ∃ Ob, Ob = w.heap.size := ⟨_, rfl⟩
  have hC1 : Kp w w1 := by rw [hw1]; exact (Chg.refl _ _).alloc _
  have hO1 : w1.heap[Ob]? = some (.cells #[.int .i64 kind, .int .i64 T, .int .i64 N, .int .i64 tg.1, .int .u32 ((tg.2 : Nat) : Int), .int .u32 ((mp.1 : Nat) : Int), .int .u8 ((mp.2 : Nat) : Int), .slice ca cl cc, .slice la ll lc] 77 (0, 0)) := by rw [hw1, hOb]; exact heap_alloc_new w _
  have h1 := h.later hC1
  have hx1 := hx.later hC1 (lab' := relab lab w.heap.size 7) (fun i hi => relab_old hi)
  have n1 := Nx.kp (a := lab) hC1 7
  have lOb : relab lab w.heap.size 7 Ob = 7 := relab_new (by omega)
  obtain ⟨ax, cx, exv, hrx⟩ := row1 h1.x
  obtain ⟨ay, cy, eyv, hry⟩ := row1 h1.y
  obtain ⟨gx, eax, _, _, hgx⟩ := hrx.resolve_left (by omega)
  obtain ⟨gy, eay, _, _, hgy⟩ := hry.resolve_left (by omega)
  subst eax eay
  obtain ⟨d0, d1, d2, d3⟩ := cells4 h1.box
  rw [exv] at d0
  rw [eyv] at d1
  have hP := fun wx => pick_any wx T ps.length hlen (by omega) hx.t
  have hil := pk_lt T ps.length hlen
  obtain ⟨i, hi0⟩ : ∃ i, i = pk T ps.length := ⟨_, rfl⟩
  rw [← hi0] at hP hil
  obtain ⟨p, hi⟩ : ∃ p, ps[i]? = some p := ⟨_, List.getElem?_eq_getElem hil⟩
  have gX : w1.cell? ⟨gx, i, none⟩ = some (.pointer (some ⟨p.B, 0, none⟩)) := hgx i _ (by simp [xL, hi])
  have gY : w1.cell? ⟨gy, i, none⟩ = some (.pointer (some ⟨p.C, 0, none⟩)) := hgy i _ (by simp [yL, hi])
  obtain ⟨np, hnp⟩ : ∃ np, np = ps.length := ⟨_, rfl⟩
  rw [← hnp] at d0 d1 hP hil
  have o0 : w1.cell? ⟨Ob, 0, none⟩ = some (.int .i64 kind) := by simpa using (cells_at hO1 0).1
  have o1 : w1.cell? ⟨Ob, 1, none⟩ = some (.int .i64 T) := by simpa using (cells_at hO1 1).1
  have K1 : Hid (WI w1 (relab lab w.heap.size 7) D R ps hs ∧ Nx w lab w1 (relab lab w.heap.size 7) ∧ OpvOk w1 (relab lab w.heap.size 7) ⟨kind, T, N, tg, mp, ca, cl, cc, la, ll, lc⟩ Z l ∧ relab lab w.heap.size 7 Ob = 7 ∧ w1.heap[Ob]? = some (.cells #[.int .i64 kind, .int .i64 T, .int .i64 N, .int .i64 tg.1, .int .u32 ((tg.2 : Nat) : Int), .int .u32 ((mp.1 : Nat) : Int), .int .u8 ((mp.2 : Nat) : Int), .slice ca cl cc, .slice la ll lc] 77 (0, 0)) ∧ ps[i]? = some p ∧ SyncK ps c ∧ hs.length ≤ 4 * c ∧ ps ≠ [] ∧ w.heap.size = Ob) := ⟨h1, n1, hx1, lOb, hO1, hi, hsy, hh, hne, hOb.symm⟩
  clear h h1 hx hx1 n1 lOb hO1 hC1 hgx hgy hrx hry hsy hh hne hi exv eyv hi0 hlen hnp d2 d3 h4
  go_enter Try.func27, Try.ntmps27
  go_upto_region 1 with fail
  rw [← hOb, ← hw1]
  clear hw1 hOb
  go_quiet (first | (go_at_call 10; exact Calls.quiet_of_same (hP _)))
  go_upto_region 4 with fail
  obtain ⟨W, hW⟩ : ∃ W, W = w1.drewN nq := ⟨_, rfl⟩
  rw [← hW]
  have hCW : Kp w1 W := by rw [hW]; exact Chg.drewN (Chg.refl _ _) _
  obtain ⟨lb, hlb⟩ : ∃ lb, lb = relab (relab lab w.heap.size 7) w1.heap.size 7 := ⟨_, rfl⟩
  have KW : Hid (WI W lb D R ps hs ∧ Nx w lab W lb ∧ OpvOk W lb ⟨kind, T, N, tg, mp, ca, cl, cc, la, ll, lc⟩ Z l ∧ lb Ob = 7 ∧ W.heap[Ob]? = some (.cells #[.int .i64 kind, .int .i64 T, .int .i64 N, .int .i64 tg.1, .int .u32 ((tg.2 : Nat) : Int), .int .u32 ((mp.1 : Nat) : Int), .int .u8 ((mp.2 : Nat) : Int), .slice ca cl cc, .slice la ll lc] 77 (0, 0)) ∧ ps[i]? = some p ∧ SyncK ps c ∧ hs.length ≤ 4 * c ∧ ps ≠ []) := by
    obtain ⟨q1, q2, q3, q4, q5, q6, q7, q8, q9, q10⟩ := K1.out
    rw [hlb]
    exact ⟨q1.later hCW, q2.trans (Nx.kp hCW 7), q3.later hCW (fun i hi => relab_old hi), by rw [relab_old (Array.getElem?_eq_some_iff.1 q5).1]; exact q4, hCW.heap q5, q6, q7, q8, q9⟩
  have o0 : W.cell? ⟨Ob, 0, none⟩ = some (.int .i64 kind) := Kp.cell hCW o0
  clear hW hCW hlb K1 d0 d1 gX gY o1 hP
  obtain ⟨kw1, kw2, kw3, kw4, kw5, kw6, kw7, kw8, kw9⟩ := KW.out
  have o2 : W.cell? ⟨Ob, 2, none⟩ = some (.int .i64 N) := by simpa using (cells_at kw5 2).1
  have o3 : W.cell? ⟨Ob, 3, none⟩ = some (.int .i64 tg.1) := by simpa using (cells_at kw5 3).1
  have o4 : W.cell? ⟨Ob, 4, none⟩ = some (.int .u32 ((tg.2 : Nat) : Int)) := by simpa using (cells_at kw5 4).1
  have o5 : W.cell? ⟨Ob, 5, none⟩ = some (.int .u32 ((mp.1 : Nat) : Int)) := by simpa using (cells_at kw5 5).1
  have o6 : W.cell? ⟨Ob, 6, none⟩ = some (.int .u8 ((mp.2 : Nat) : Int)) := by simpa using (cells_at kw5 6).1
  have o7 : W.cell? ⟨Ob, 7, none⟩ = some (.slice ca cl cc) := by simpa using (cells_at kw5 7).1
  have o8 : W.cell? ⟨Ob, 8, none⟩ = some (.slice la ll lc) := by simpa using (cells_at kw5 8).1
  have hk := HK.out
  subst hk
  have hPr := kw1.ps i p kw6
  have hsl := (kw7 p (List.mem_of_getElem? kw6)).1
  have hkk := (kw7 p (List.mem_of_getElem? kw6)).2
  have hOk := hPr.t.ok
  have hn1 := hPr.t.n1
  have hCl := hPr.r.lt (.inl rfl)
  have htg := kw3.tg
  have hmp := kw3.mp
  have hnF : ¬ Ft p.B p.M p.v Ob := fun e => by have := hPr.ft Ob e; omega
  have HP : Hid (PrIs W lb i p ∧ p.l = p.s.slots ∧ p.k ≤ 1000 + c ∧ p.s.Ok p.n ∧ 1 ≤ p.n ∧ p.C < W.heap.size ∧ TOk tg ∧ MOk mp ∧ ¬ Ft p.B p.M p.v Ob) := ⟨hPr, hsl, hkk, hOk, hn1, hCl, htg, hmp, hnF⟩
  have A1 := Put_any W p.B p.M p.v p.n p.k p.s hPr.t tg kw3.tg mp kw3.mp (by omega)
  obtain ⟨mm, hmm⟩ : ∃ mm, mm = p.s.gone p.n tg := ⟨_, rfl⟩
  obtain ⟨bb, hbb⟩ : ∃ bb, bb = p.s.went p.n tg := ⟨_, rfl⟩
  rw [← hmm, ← hbb] at A1
  have HM : Hid (mm = p.s.gone p.n tg ∧ bb = p.s.went p.n tg) := ⟨hmm, hbb⟩
  clear hmm hbb
  unfold tV mV at A1
  clear kw1 kw2 kw3 kw4 kw5 kw6 kw7 kw8 kw9 o2 o7 o8 hPr hsl hkk hOk hn1 hCl htg hmp hnF
  go_wp2_with fail
  go_at_call 12
  refine A1.mono ?_
  rintro e W2 ⟨rfl, v2, hT2, hC2, hL2⟩
  have K2 : Hid (IsT W2 p.B p.M v2 p.n (p.k + 1) (p.s.put p.n tg mp) ∧ Chg W W2 (Ft p.B p.M p.v) ∧ Loc W p.v v2) := ⟨hT2, hC2, hL2⟩
  clear A1 hT2 hC2 hL2 o3 o4 o5 o6
  go_upto_region 18 with fail
  obtain ⟨W3, hW3⟩ : ∃ W3, W3 = W2.alloc (.cells #[.int .i64 mm.1, .int .u32 ((mm.2 : Nat) : Int)] 31) := ⟨_, rfl⟩
  obtain ⟨b13, hb13⟩ : ∃ b, b = W2.heap.size := ⟨_, rfl⟩
  rw [← hW3, ← hb13]
  have hk3 : Kp W2 W3 := by rw [hW3]; exact (Chg.refl _ _).alloc _
  have x13 : W3.heap[b13]? = some (.cells #[.int .i64 mm.1, .int .u32 ((mm.2 : Nat) : Int)] 31 (0, 0)) := by rw [hW3, hb13]; exact heap_alloc_new W2 _
  obtain ⟨lab3, h3, n3⟩ := KW.out.1.one KW.out.2.2.2.2.2.1 K2.out.1 K2.out.2.1 K2.out.2.2 hk3
  have hO3 := hk3.heap (K2.out.2.1.heap KW.out.2.2.2.2.1 HP.out.2.2.2.2.2.2.2.2)
  have o3 : W3.cell? ⟨Ob, 3, none⟩ = some (.int .i64 tg.1) := by simpa using (cells_at hO3 3).1
  have o4 : W3.cell? ⟨Ob, 4, none⟩ = some (.int .u32 ((tg.2 : Nat) : Int)) := by simpa using (cells_at hO3 4).1
  have o5 : W3.cell? ⟨Ob, 5, none⟩ = some (.int .u32 ((mp.1 : Nat) : Int)) := by simpa using (cells_at hO3 5).1
  have o6 : W3.cell? ⟨Ob, 6, none⟩ = some (.int .u8 ((mp.2 : Nat) : Int)) := by simpa using (cells_at hO3 6).1
  have A2 := put_ref h3 KW.out.2.2.2.2.2.1 p.s HP.out.2.1 HP.out.2.2.2.1 HP.out.2.2.2.2.1 tg HP.out.2.2.2.2.2.2.1 mp
  have hbC : b13 ≠ p.C := by have := HP.out.2.2.2.2.2.1; have := K2.out.2.1.size; omega
  have K3 : Hid (Nx W lb W3 lab3 ∧ W3.heap[b13]? = some (.cells #[.int .i64 mm.1, .int .u32 ((mm.2 : Nat) : Int)] 31 (0, 0)) ∧ b13 ≠ p.C) := ⟨n3, x13, hbC⟩
  clear hW3 hb13 hk3 x13 h3 n3 hO3 hbC K2
  rw [← HM.out.1, ← HM.out.2] at A2
  unfold tV mV at A2
  go_wp2_with fail
  go_at_call 42
  refine A2.mono ?_
  rintro e W4 ⟨rfl, lab4, u4, h4', n4, c4⟩
  have K4 : Hid (WI W4 lab4 D R _ hs ∧ Nx W3 lab3 W4 lab4 ∧ Chg W3 W4 (fun b => b = p.C)) := ⟨h4', n4, c4⟩
  clear A2 h4' n4 c4 o3 o4 o5 o6
  go_upto_region 19 with fail
  obtain ⟨W5, hW5⟩ : ∃ W5, W5 = W4.alloc (.cells #[.int .i64 mm.1, .int .u32 ((mm.2 : Nat) : Int)] 31) := ⟨_, rfl⟩
  obtain ⟨b15, hb15⟩ : ∃ b, b = W4.heap.size := ⟨_, rfl⟩
  rw [← hW5, ← hb15]
  have hk5 : Kp W4 W5 := by rw [hW5]; exact (Chg.refl _ _).alloc _
  have x15 : W5.heap[b15]? = some (.cells #[.int .i64 mm.1, .int .u32 ((mm.2 : Nat) : Int)] 31 (0, 0)) := by rw [hW5, hb15]; exact heap_alloc_new W4 _
  have x13 := hk5.heap (K4.out.2.2.heap K3.out.2.1 K3.out.2.2)
  obtain ⟨g0, g1, _, _⟩ := cells2 x13
  obtain ⟨g2, g3, _, _⟩ := cells2 x15
  have KE : Hid (SEnd w lab D c W5) := by
    obtain ⟨q1, q2, q3, q4, q5, q6, q7, q8, q9⟩ := KW.out
    exact ⟨_, R, _, hs, K4.out.1.later hk5, q2.trans (K3.out.1.trans (K4.out.2.1.trans (Nx.kp hk5 7))), q7.set q6 rfl (by simp only; omega), by omega, set_ne q9⟩
  clear hW5 hb15 hk5 x15 x13 K4 K3
  have eq1 := fun W => eql31 mm.1 mm.1 ((mm.2 : Nat) : Int) ((mm.2 : Nat) : Int) W
  rw [decide_eq_true ⟨rfl, rfl⟩] at eq1
  have bq : (bb == bb) = true := by cases bb <;> rfl
  go_wp2
  go_ret
  exact ⟨rfl, KE.out⟩

set_option maxHeartbeats 4000000 in
set_option maxRecDepth 20000 in
theorem st_drop (w : World) (lab : Nat → Nat) (D : Nat) (R : Rows) (ps : List Pr) (hs : List Hd) (c : Nat) (h : WI w lab D R ps hs) (hne : ps ≠ []) (hsy : SyncK ps c) (hc : c ≤ 300) (hh : hs.length ≤ 4 * c) (x : Opv) (Z : Nat → Int) (l : List Sl4) (hx : OpvOk w lab x Z l) (hk : x.kind = 5) :
    Calls Try.prog 27 #[.pointer (some ⟨D, 0, none⟩), .agg x.cells] w fun e w' => e = .returned (.bool true) ∧ SEnd w lab D c w' := by
  obtain ⟨kind, T, N, tg, mp, ca, cl, cc, la, ll, lc⟩ := x
  simp only [Opv.cells] at hk ⊢
  have HK : Hid (_) := hk
  clear hk
  have hlen : 0 < ps.length := List.length_pos_iff.2 hne
  have h4 := h.p4
  obtain ⟨w1, hw1⟩ : ∃ w1, w1 = w.alloc (.cells #[.int .i64 kind, .int .i64 T, .int .i64 N, .int .i64 tg.1, .int .u32 ((tg.2 : Nat) : Int), .int .u32 ((mp.1 : Nat) : Int), .int .u8 ((mp.2 : Nat) : Int), .slice ca cl cc, .slice la ll lc] 77) := ⟨_, rfl⟩
  obtain ⟨Ob, hOb⟩ : ∃ Ob, Ob = w.heap.size := ⟨_, rfl⟩
  have hC1 : Kp w w1 := by rw [hw1]; exact (Chg.refl _ _).alloc _
  have hO1 : w1.heap[Ob]? = some (.cells #[.int .i64 kind, .int .i64 T, .int .i64 N, .int .i64 tg.1, .int .u32 ((tg.2 : Nat) : Int), .int .u32 ((mp.1 : Nat) : Int), .int .u8 ((mp.2 : Nat) : Int), .slice ca cl cc, .slice la ll lc] 77 (0, 0)) := by rw [hw1, hOb]; exact heap_alloc_new w _
  have h1 := h.later hC1
  have hx1 := hx.later hC1 (lab' := relab lab w.heap.size 7) (fun i hi => relab_old hi)
  have n1 := Nx.kp (a := lab) hC1 7
  have lOb : relab lab w.heap.size 7 Ob = 7 := relab_new (by omega)
  obtain ⟨ax, cx, exv, hrx⟩ := row1 h1.x
  obtain ⟨ay, cy, eyv, hry⟩ := row1 h1.y
  obtain ⟨gx, eax, _, _, hgx⟩ := hrx.resolve_left (by omega)
  obtain ⟨gy, eay, _, _, hgy⟩ := hry.resolve_left (by omega)
  subst eax eay
  obtain ⟨d0, d1, d2, d3⟩ := cells4 h1.box
  rw [exv] at d0
  rw [eyv] at d1
  have hP := fun wx => pick_any wx T ps.length hlen (by omega) hx.t
  have hil := pk_lt T ps.length hlen
  obtain ⟨i, hi0⟩ : ∃ i, i = pk T ps.length := ⟨_, rfl⟩
  rw [← hi0] at hP hil
  obtain ⟨p, hi⟩ : ∃ p, ps[i]? = some p := ⟨_, List.getElem?_eq_getElem hil⟩
  have gX : w1.cell? ⟨gx, i, none⟩ = some (.pointer (some ⟨p.B, 0, none⟩)) := hgx i _ (by simp [xL, hi])
  have gY : w1.cell? ⟨gy, i, none⟩ = some (.pointer (some ⟨p.C, 0, none⟩)) := hgy i _ (by simp [yL, hi])
  obtain ⟨np, hnp⟩ : ∃ np, np = ps.length := ⟨_, rfl⟩
  rw [← hnp] at d0 d1 hP hil
  have o0 : w1.cell? ⟨Ob, 0, none⟩ = some (.int .i64 kind) := by simpa using (cells_at hO1 0).1
  have o1 : w1.cell? ⟨Ob, 1, none⟩ = some (.int .i64 T) := by simpa using (cells_at hO1 1).1
  have K1 : Hid (WI w1 (relab lab w.heap.size 7) D R ps hs ∧ Nx w lab w1 (relab lab w.heap.size 7) ∧ OpvOk w1 (relab lab w.heap.size 7) ⟨kind, T, N, tg, mp, ca, cl, cc, la, ll, lc⟩ Z l ∧ relab lab w.heap.size 7 Ob = 7 ∧ w1.heap[Ob]? = some (.cells #[.int .i64 kind, .int .i64 T, .int .i64 N, .int .i64 tg.1, .int .u32 ((tg.2 : Nat) : Int), .int .u32 ((mp.1 : Nat) : Int), .int .u8 ((mp.2 : Nat) : Int), .slice ca cl cc, .slice la ll lc] 77 (0, 0)) ∧ ps[i]? = some p ∧ SyncK ps c ∧ hs.length ≤ 4 * c ∧ ps ≠ [] ∧ w.heap.size = Ob) := ⟨h1, n1, hx1, lOb, hO1, hi, hsy, hh, hne, hOb.symm⟩
  clear h h1 hx hx1 n1 lOb hO1 hC1 hgx hgy hrx hry hsy hh hne hi exv eyv hi0 hlen hnp d2 d3 h4
  go_enter Try.func27, Try.ntmps27
  go_upto_region 1 with fail
  rw [← hOb, ← hw1]
  clear hw1 hOb
  go_quiet (first | (go_at_call 10; exact Calls.quiet_of_same (hP _)))
  go_upto_region 4 with fail
  obtain ⟨W, hW⟩ : ∃ W, W = w1.drewN nq := ⟨_, rfl⟩
  rw [← hW]
  have hCW : Kp w1 W := by rw [hW]; exact Chg.drewN (Chg.refl _ _) _
  obtain ⟨lb, hlb⟩ : ∃ lb, lb = relab (relab lab w.heap.size 7) w1.heap.size 7 := ⟨_, rfl⟩
  have KW : Hid (WI W lb D R ps hs ∧ Nx w lab W lb ∧ OpvOk W lb ⟨kind, T, N, tg, mp, ca, cl, cc, la, ll, lc⟩ Z l ∧ lb Ob = 7 ∧ W.heap[Ob]? = some (.cells #[.int .i64 kind, .int .i64 T, .int .i64 N, .int .i64 tg.1, .int .u32 ((tg.2 : Nat) : Int), .int .u32 ((mp.1 : Nat) : Int), .int .u8 ((mp.2 : Nat) : Int), .slice ca cl cc, .slice la ll lc] 77 (0, 0)) ∧ ps[i]? = some p ∧ SyncK ps c ∧ hs.length ≤ 4 * c ∧ ps ≠ []) := by
    obtain ⟨q1, q2, q3, q4, q5, q6, q7, q8, q9, q10⟩ := K1.out
    rw [hlb]
    exact ⟨q1.later hCW, q2.trans (Nx.kp hCW 7), q3.later hCW (fun i hi => relab_old hi), by rw [relab_old (Array.getElem?_eq_some_iff.1 q5).1]; exact q4, hCW.heap q5, q6, q7, q8, q9⟩
  have o0 : W.cell? ⟨Ob, 0, none⟩ = some (.int .i64 kind) := Kp.cell hCW o0
  clear hW hCW hlb K1 d0 d1 gX gY o1 hP
  obtain ⟨kw1, kw2, kw3, kw4, kw5, kw6, kw7, kw8, kw9⟩ := KW.out
  have o2 : W.cell? ⟨Ob, 2, none⟩ = some (.int .i64 N) := by simpa using (cells_at kw5 2).1
  have o3 : W.cell? ⟨Ob, 3, none⟩ = some (.int .i64 tg.1) := by simpa using (cells_at kw5 3).1
  have o4 : W.cell? ⟨Ob, 4, none⟩ = some (.int .u32 ((tg.2 : Nat) : Int)) := by simpa using (cells_at kw5 4).1
  have o5 : W.cell? ⟨Ob, 5, none⟩ = some (.int .u32 ((mp.1 : Nat) : Int)) := by simpa using (cells_at kw5 5).1
  have o6 : W.cell? ⟨Ob, 6, none⟩ = some (.int .u8 ((mp.2 : Nat) : Int)) := by simpa using (cells_at kw5 6).1
  have o7 : W.cell? ⟨Ob, 7, none⟩ = some (.slice ca cl cc) := by simpa using (cells_at kw5 7).1
  have o8 : W.cell? ⟨Ob, 8, none⟩ = some (.slice la ll lc) := by simpa using (cells_at kw5 8).1
  have hk := HK.out
  subst hk
  have hPr := kw1.ps i p kw6
  have hsl := (kw7 p (List.mem_of_getElem? kw6)).1
  have hkk := (kw7 p (List.mem_of_getElem? kw6)).2
  have hOk := hPr.t.ok
  have hn1 := hPr.t.n1
  have hCl := hPr.r.lt (.inl rfl)
  have htg := kw3.tg
  have hmp := kw3.mp
  have hnF : ¬ Ft p.B p.M p.v Ob := fun e => by have := hPr.ft Ob e; omega
  have HP : Hid (PrIs W lb i p ∧ p.l = p.s.slots ∧ p.k ≤ 1000 + c ∧ p.s.Ok p.n ∧ 1 ≤ p.n ∧ p.C < W.heap.size ∧ TOk tg ∧ MOk mp ∧ ¬ Ft p.B p.M p.v Ob) := ⟨hPr, hsl, hkk, hOk, hn1, hCl, htg, hmp, hnF⟩
  have A1 := Drop_any W p.B p.M p.v p.n p.k p.s hPr.t tg
  obtain ⟨bb, hbb⟩ : ∃ bb, bb = decide (tg ∈ p.s.l) := ⟨_, rfl⟩
  rw [← hbb] at A1
  have HM : Hid (bb = decide (tg ∈ p.s.l)) := hbb
  clear hbb
  unfold tV at A1
  clear kw1 kw2 kw3 kw4 kw5 kw6 kw7 kw8 kw9 o2 o5 o6 o7 o8 hPr hsl hkk hOk hn1 hCl htg hmp hnF
  go_wp2_with fail
  go_at_call 18
  refine A1.mono ?_
  rintro e W2 ⟨rfl, v2, hT2, hL2, hC2⟩
  obtain ⟨lab3, h3, n3⟩ := KW.out.1.one KW.out.2.2.2.2.2.1 hT2 hC2 (.inl hL2) (Chg.refl W2 _)
  have hO3 := hC2.heap KW.out.2.2.2.2.1 HP.out.2.2.2.2.2.2.2.2
  have o3 : W2.cell? ⟨Ob, 3, none⟩ = some (.int .i64 tg.1) := by simpa using (cells_at hO3 3).1
  have o4 : W2.cell? ⟨Ob, 4, none⟩ = some (.int .u32 ((tg.2 : Nat) : Int)) := by simpa using (cells_at hO3 4).1
  have A2 := drop_ref h3 KW.out.2.2.2.2.2.1 p.s HP.out.2.1 HP.out.2.2.2.1 tg
  rw [← HM.out] at A2
  unfold tV at A2
  have K3 : Hid (Nx W lb W2 lab3) := n3
  clear h3 n3 hO3 hT2 hL2 hC2 A1
  go_wp2_with fail
  go_at_call 43
  refine A2.mono ?_
  rintro e W4 ⟨rfl, lab4, u4, h4', n4, c4⟩
  have KE : Hid (SEnd w lab D c W4) := by
    obtain ⟨q1, q2, q3, q4, q5, q6, q7, q8, q9⟩ := KW.out
    exact ⟨_, R, _, hs, h4', q2.trans (K3.out.trans n4), q7.set q6 rfl (by simp only; omega), by omega, set_ne q9⟩
  clear A2 h4' n4 c4 o3 o4 K3
  have bq : (bb == bb) = true := by cases bb <;> rfl
  go_wp2
  go_ret
  exact ⟨rfl, KE.out⟩

set_option maxHeartbeats 4000000 in
set_option maxRecDepth 20000 in
theorem st_flush (w : World) (lab : Nat → Nat) (D : Nat) (R : Rows) (ps : List Pr) (hs : List Hd) (c : Nat) (h : WI w lab D R ps hs) (hne : ps ≠ []) (hsy : SyncK ps c) (hc : c ≤ 300) (hh : hs.length ≤ 4 * c) (x : Opv) (Z : Nat → Int) (l : List Sl4) (hx : OpvOk w lab x Z l) (hk : x.kind = 6) :
    Calls Try.prog 27 #[.pointer (some ⟨D, 0, none⟩), .agg x.cells] w fun e w' => e = .returned (.bool true) ∧ SEnd w lab D c w' := by
  obtain ⟨kind, T, N, tg, mp, ca, cl, cc, la, ll, lc⟩ := x
  simp only [Opv.cells] at hk ⊢
  have HK : Hid (_) := hk
  clear hk
  have hlen : 0 < ps.length := List.length_pos_iff.2 hne
  have h4 := h.p4
  obtain ⟨w1, hw1⟩ : ∃ w1, w1 = w.alloc (.cells #[.int .i64 kind, .int .i64 T, .int .i64 N, .int .i64 tg.1, .int .u32 ((tg.2 : Nat) : Int), .int .u32 ((mp.1 : Nat) : Int), .int .u8 ((mp.2 : Nat) : Int), .slice ca cl cc, .slice la ll lc] 77) := ⟨_, rfl⟩
  obtain ⟨Ob, hOb⟩ : ∃ Ob, Ob = w.heap.size := ⟨_, rfl⟩
  have hC1 : Kp w w1 := by rw [hw1]; exact (Chg.refl _ _).alloc _
  have hO1 : w1.heap[Ob]? = some (.cells #[.int .i64 kind, .int .i64 T, .int .i64 N, .int .i64 tg.1, .int .u32 ((tg.2 : Nat) : Int), .int .u32 ((mp.1 : Nat) : Int), .int .u8 ((mp.2 : Nat) : Int), .slice ca cl cc, .slice la ll lc] 77 (0, 0)) := by rw [hw1, hOb]; exact heap_alloc_new w _
  have h1 := h.later hC1
  have hx1 := hx.later hC1 (lab' := relab lab w.heap.size 7) (fun i hi => relab_old hi)
  have n1 := Nx.kp (a := lab) hC1 7
  have lOb : relab lab w.heap.size 7 Ob = 7 := relab_new (by omega)
  obtain ⟨ax, cx, exv, hrx⟩ := row1 h1.x
  obtain ⟨ay, cy, eyv, hry⟩ := row1 h1.y
  obtain ⟨gx, eax, _, _, hgx⟩ := hrx.resolve_left (by omega)
  obtain ⟨gy, eay, _, _, hgy⟩ := hry.resolve_left (by omega)
  subst eax eay
  obtain ⟨d0, d1, d2, d3⟩ := cells4 h1.box
  rw [exv] at d0
  rw [eyv] at d1
  have hP := fun wx => pick_any wx T ps.length hlen (by omega) hx.t
  have hil := pk_lt T ps.length hlen
  obtain ⟨i, hi0⟩ : ∃ i, i = pk T ps.length := ⟨_, rfl⟩
  rw [← hi0] at hP hil
  obtain ⟨p, hi⟩ : ∃ p, ps[i]? = some p := ⟨_, List.getElem?_eq_getElem hil⟩
  have gX : w1.cell? ⟨gx, i, none⟩ = some (.pointer (some ⟨p.B, 0, none⟩)) := hgx i _ (by simp [xL, hi])
  have gY : w1.cell? ⟨gy, i, none⟩ = some (.pointer (some ⟨p.C, 0, none⟩)) := hgy i _ (by simp [yL, hi])
  obtain ⟨np, hnp⟩ : ∃ np, np = ps.length := ⟨_, rfl⟩
  rw [← hnp] at d0 d1 hP hil
  have o0 : w1.cell? ⟨Ob, 0, none⟩ = some (.int .i64 kind) := by simpa using (cells_at hO1 0).1
  have o1 : w1.cell? ⟨Ob, 1, none⟩ = some (.int .i64 T) := by simpa using (cells_at hO1 1).1
  have K1 : Hid (WI w1 (relab lab w.heap.size 7) D R ps hs ∧ Nx w lab w1 (relab lab w.heap.size 7) ∧ OpvOk w1 (relab lab w.heap.size 7) ⟨kind, T, N, tg, mp, ca, cl, cc, la, ll, lc⟩ Z l ∧ relab lab w.heap.size 7 Ob = 7 ∧ w1.heap[Ob]? = some (.cells #[.int .i64 kind, .int .i64 T, .int .i64 N, .int .i64 tg.1, .int .u32 ((tg.2 : Nat) : Int), .int .u32 ((mp.1 : Nat) : Int), .int .u8 ((mp.2 : Nat) : Int), .slice ca cl cc, .slice la ll lc] 77 (0, 0)) ∧ ps[i]? = some p ∧ SyncK ps c ∧ hs.length ≤ 4 * c ∧ ps ≠ [] ∧ w.heap.size = Ob) := ⟨h1, n1, hx1, lOb, hO1, hi, hsy, hh, hne, hOb.symm⟩
  clear h h1 hx hx1 n1 lOb hO1 hC1 hgx hgy hrx hry hsy hh hne hi exv eyv hi0 hlen hnp d2 d3 h4
  go_enter Try.func27, Try.ntmps27
  go_upto_region 1 with fail
  rw [← hOb, ← hw1]
  clear hw1 hOb
  go_quiet (first | (go_at_call 10; exact Calls.quiet_of_same (hP _)))
  go_upto_region 4 with fail
  obtain ⟨W, hW⟩ : ∃ W, W = w1.drewN nq := ⟨_, rfl⟩
  rw [← hW]
  have hCW : Kp w1 W := by rw [hW]; exact Chg.drewN (Chg.refl _ _) _
  obtain ⟨lb, hlb⟩ : ∃ lb, lb = relab (relab lab w.heap.size 7) w1.heap.size 7 := ⟨_, rfl⟩
  have KW : Hid (WI W lb D R ps hs ∧ Nx w lab W lb ∧ OpvOk W lb ⟨kind, T, N, tg, mp, ca, cl, cc, la, ll, lc⟩ Z l ∧ lb Ob = 7 ∧ W.heap[Ob]? = some (.cells #[.int .i64 kind, .int .i64 T, .int .i64 N, .int .i64 tg.1, .int .u32 ((tg.2 : Nat) : Int), .int .u32 ((mp.1 : Nat) : Int), .int .u8 ((mp.2 : Nat) : Int), .slice ca cl cc, .slice la ll lc] 77 (0, 0)) ∧ ps[i]? = some p ∧ SyncK ps c ∧ hs.length ≤ 4 * c ∧ ps ≠ []) := by
    obtain ⟨q1, q2, q3, q4, q5, q6, q7, q8, q9, q10⟩ := K1.out
    rw [hlb]
    exact ⟨q1.later hCW, q2.trans (Nx.kp hCW 7), q3.later hCW (fun i hi => relab_old hi), by rw [relab_old (Array.getElem?_eq_some_iff.1 q5).1]; exact q4, hCW.heap q5, q6, q7, q8, q9⟩
  have o0 : W.cell? ⟨Ob, 0, none⟩ = some (.int .i64 kind) := Kp.cell hCW o0
  clear hW hCW hlb K1 d0 d1 gX gY o1 hP
  obtain ⟨kw1, kw2, kw3, kw4, kw5, kw6, kw7, kw8, kw9⟩ := KW.out
  have o2 : W.cell? ⟨Ob, 2, none⟩ = some (.int .i64 N) := by simpa using (cells_at kw5 2).1
  have o3 : W.cell? ⟨Ob, 3, none⟩ = some (.int .i64 tg.1) := by simpa using (cells_at kw5 3).1
  have o4 : W.cell? ⟨Ob, 4, none⟩ = some (.int .u32 ((tg.2 : Nat) : Int)) := by simpa using (cells_at kw5 4).1
  have o5 : W.cell? ⟨Ob, 5, none⟩ = some (.int .u32 ((mp.1 : Nat) : Int)) := by simpa using (cells_at kw5 5).1
  have o6 : W.cell? ⟨Ob, 6, none⟩ = some (.int .u8 ((mp.2 : Nat) : Int)) := by simpa using (cells_at kw5 6).1
  have o7 : W.cell? ⟨Ob, 7, none⟩ = some (.slice ca cl cc) := by simpa using (cells_at kw5 7).1
  have o8 : W.cell? ⟨Ob, 8, none⟩ = some (.slice la ll lc) := by simpa using (cells_at kw5 8).1
  have hk := HK.out
  subst hk
  have hPr := kw1.ps i p kw6
  have hsl := (kw7 p (List.mem_of_getElem? kw6)).1
  have hkk := (kw7 p (List.mem_of_getElem? kw6)).2
  have hOk := hPr.t.ok
  have hn1 := hPr.t.n1
  have hCl := hPr.r.lt (.inl rfl)
  have htg := kw3.tg
  have hmp := kw3.mp
  have hnF : ¬ Ft p.B p.M p.v Ob := fun e => by have := hPr.ft Ob e; omega
  have HP : Hid (PrIs W lb i p ∧ p.l = p.s.slots ∧ p.k ≤ 1000 + c ∧ p.s.Ok p.n ∧ 1 ≤ p.n ∧ p.C < W.heap.size ∧ TOk tg ∧ MOk mp ∧ ¬ Ft p.B p.M p.v Ob) := ⟨hPr, hsl, hkk, hOk, hn1, hCl, htg, hmp, hnF⟩
  have A1 := Flush_any W p.B p.M p.v p.n p.k p.s hPr.t
  have hd0 : (p.s.drop (fun _ => true)).l.length = 0 := by
    have := congrArg List.length (dropAll_slots p.s)
    rw [Sta.slots_len] at this
    simpa using this
  rw [hd0] at A1
  obtain ⟨nn, hnn⟩ : ∃ nn : Nat, nn = p.s.l.length := ⟨_, rfl⟩
  rw [← hnn, show ((nn : Nat) : Int) - ((0 : Nat) : Int) = nn by omega] at A1
  have HM : Hid (nn = p.s.l.length) := hnn
  clear hnn hd0
  clear kw1 kw2 kw3 kw4 kw5 kw6 kw7 kw8 kw9 o2 o5 o6 o7 o8 hPr hsl hkk hOk hn1 hCl htg hmp hnF
  go_wp2_with fail
  go_at_call 16
  refine A1.mono ?_
  rintro e W2 ⟨rfl, v2, hT2, hL2, hC2⟩
  obtain ⟨lab3, h3, n3⟩ := KW.out.1.one KW.out.2.2.2.2.2.1 hT2 hC2 (.inl hL2) (Chg.refl W2 _)
  have hO3 := hC2.heap KW.out.2.2.2.2.1 HP.out.2.2.2.2.2.2.2.2
  have o3 : W2.cell? ⟨Ob, 3, none⟩ = some (.int .i64 tg.1) := by simpa using (cells_at hO3 3).1
  have o4 : W2.cell? ⟨Ob, 4, none⟩ = some (.int .u32 ((tg.2 : Nat) : Int)) := by simpa using (cells_at hO3 4).1
  have A2 := flush_ref h3 KW.out.2.2.2.2.2.1 p.s HP.out.2.1
  rw [← HM.out] at A2
  have K3 : Hid (Nx W lb W2 lab3) := n3
  clear h3 n3 hO3 hT2 hL2 hC2 A1
  go_wp2_with fail
  go_at_call 44
  refine A2.mono ?_
  rintro e W4 ⟨rfl, lab4, u4, h4', n4, c4⟩
  have KE : Hid (SEnd w lab D c W4) := by
    obtain ⟨q1, q2, q3, q4, q5, q6, q7, q8, q9⟩ := KW.out
    exact ⟨_, R, _, hs, h4', q2.trans (K3.out.trans n4), q7.set q6 rfl (by simp only; omega), by omega, set_ne q9⟩
  clear A2 h4' n4 c4 o3 o4 K3
  have bq : ((nn : Int) == nn) = true := by simp
  go_wp2
  go_ret
  exact ⟨rfl, KE.out⟩
end Go.Proofs.Ytadpgaaijdpbiaa
