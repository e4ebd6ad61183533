import Derived.Test.YtadpgaaijdpbiaaUg
import Derived.Deep.RegionHeld3
import Derived.Deep.Cut
namespace Go.Proofs.Ytadpgaaijdpbiaa
open Go.ChangeShapes Go.WideShapes Go.ChangeAt Go.RowKit Go.Shelf
set_option linter.unusedVariables false
def Sa8 (Ob C : Nat) (N : Int) (ua : Option Addr) (ul uc : Nat) (w : World) : Prop := w.cell? ⟨Ob, 2, none⟩ = some (.int .i64 N) ∧ w.cell? ⟨C, 1, none⟩ = some (.slice ua ul uc)

set_option maxHeartbeats 4000000 in
set_option maxRecDepth 20000 in
theorem st_cell (w : World) (lab : Nat → Nat) (D : Nat) (R : Rows) (ps : List Pr) (hs : List Hd) (c : Nat) (h : WI w lab D R ps hs) (hne : ps ≠ []) (hsy : SyncK ps c) (hc : c ≤ 300) (hh : hs.length ≤ 4 * c) (x : Opv) (Z : Nat → Int) (l : List Sl4) (hx : OpvOk w lab x Z l) (hk : x.kind = 7) :
    Calls Try.prog 27 #[.pointer (some ⟨D, 0, none⟩), .agg x.cells] w fun e w' => e = .returned (.bool true) ∧ SEnd w lab D c w' := by
  obtain ⟨kind, T, N, tg, mp, ca, cl, cc, la, ll, lc⟩ := x
  simp only [Opv.cells] at hk ⊢
  have HK : Hid (_) := hk
  clear hk
  have hlen : 0 < ps.length := List.length_pos_iff.2 hne
  have h4 := h.p4
  obtain ⟨w1, hw1⟩ : ∃ w1, w1 = w.alloc (.cells #[.int .i64 kind, .int .i64 T, .int .i64 N, .int .i64 tg.1, .int .u32 ((tg.2 : Nat) : Int), .int .u32 ((mp.1 : Nat) : Int), .int .u8 ((mp.2 : Nat) : Int), .slice ca cl cc, .slice la ll lc] 77) := ⟨_, rfl⟩
  obtain ⟨Ob, hOb⟩ : ∃ Ob, Ob = w.heap.size := ⟨_, rfl⟩
  have hC1 : Kp w w1 := by rw [hw1]; exact (Chg.refl _ _).alloc _
  have hO1 : w1.heap[Ob]? = some (.cells #[.int .i64 kind, .int .i64 T, .int .i64 N, .int .i64 tg.1, .int .u32 ((tg.2 : Nat) : Int), .int .u32 ((mp.1 : Nat) : Int), .int .u8 ((mp.2 : Nat) : Int), .slice ca cl cc, .slice la ll lc] 77 (0, 0)) := by rw [hw1, hOb]; exact heap_alloc_new w _
  have h1 := h.later hC1
  have hx1 := hx.later hC1 (lab' := relab lab w.heap.size 7) (fun i hi => relab_old hi)
  have n1 := Nx.kp (a := lab) hC1 7
  have lOb : relab lab w.heap.size 7 Ob = 7 := relab_new (by omega)
  obtain ⟨ax, cx, exv, hrx⟩ := row1 h1.x
  obtain ⟨ay, cy, eyv, hry⟩ := row1 h1.y
  obtain ⟨gx, eax, _, _, hgx⟩ := hrx.resolve_left (by omega)
  obtain ⟨gy, eay, _, _, hgy⟩ := hry.resolve_left (by omega)
  subst eax eay
  obtain ⟨d0, d1, d2, d3⟩ := cells4 h1.box
  rw [exv] at d0
  rw [eyv] at d1
  have hP := fun wx => pick_any wx T ps.length hlen (by omega) hx.t
  have hil := pk_lt T ps.length hlen
  obtain ⟨i, hi0⟩ : ∃ i, i = pk T ps.length := ⟨_, rfl⟩
  rw [← hi0] at hP hil
  obtain ⟨p, hi⟩ : ∃ p, ps[i]? = some p := ⟨_, List.getElem?_eq_getElem hil⟩
  have gX : w1.cell? ⟨gx, i, none⟩ = some (.pointer (some ⟨p.B, 0, none⟩)) := hgx i _ (by simp [xL, hi])
  have gY : w1.cell? ⟨gy, i, none⟩ = some (.pointer (some ⟨p.C, 0, none⟩)) := hgy i _ (by simp [yL, hi])
  obtain ⟨np, hnp⟩ : ∃ np, np = ps.length := ⟨_, rfl⟩
  rw [← hnp] at d0 d1 hP hil
  have o0 : w1.cell? ⟨Ob, 0, none⟩ = some (.int .i64 kind) := by simpa using (cells_at hO1 0).1
  have o1 : w1.cell? ⟨Ob, 1, none⟩ = some (.int .i64 T) := by simpa using (cells_at hO1 1).1
  have K1 : Hid (WI w1 (relab lab w.heap.size 7) D R ps hs ∧ Nx w lab w1 (relab lab w.heap.size 7) ∧ OpvOk w1 (relab lab w.heap.size 7) ⟨kind, T, N, tg, mp, ca, cl, cc, la, ll, lc⟩ Z l ∧ relab lab w.heap.size 7 Ob = 7 ∧ w1.heap[Ob]? = some (.cells #[.int .i64 kind, .int .i64 T, .int .i64 N, .int .i64 tg.1, .int .u32 ((tg.2 : Nat) : Int), .int .u32 ((mp.1 : Nat) : Int), .int .u8 ((mp.2 : Nat) : Int), .slice ca cl cc, .slice la ll lc] 77 (0, 0)) ∧ ps[i]? = some p ∧ SyncK ps c ∧ hs.length ≤ 4 * c ∧ ps ≠ [] ∧ w.heap.size = Ob) := ⟨h1, n1, hx1, lOb, hO1, hi, hsy, hh, hne, hOb.symm⟩
  clear h h1 hx hx1 n1 lOb hO1 hC1 hgx hgy hrx hry hsy hh hne hi exv eyv hi0 hlen hnp d2 d3 h4
  go_enter Try.func27, Try.ntmps27
  go_upto_region 1 with fail
  rw [← hOb, ← hw1]
  clear hw1 hOb
  go_quiet (first | (go_at_call 10; exact Calls.quiet_of_same (hP _)))
  go_upto_region 4 with fail
  obtain ⟨W, hW⟩ : ∃ W, W = w1.drewN nq := ⟨_, rfl⟩
  rw [← hW]
  have hCW : Kp w1 W := by rw [hW]; exact Chg.drewN (Chg.refl _ _) _
  obtain ⟨lb, hlb⟩ : ∃ lb, lb = relab (relab lab w.heap.size 7) w1.heap.size 7 := ⟨_, rfl⟩
  have KW : Hid (WI W lb D R ps hs ∧ Nx w lab W lb ∧ OpvOk W lb ⟨kind, T, N, tg, mp, ca, cl, cc, la, ll, lc⟩ Z l ∧ lb Ob = 7 ∧ W.heap[Ob]? = some (.cells #[.int .i64 kind, .int .i64 T, .int .i64 N, .int .i64 tg.1, .int .u32 ((tg.2 : Nat) : Int), .int .u32 ((mp.1 : Nat) : Int), .int .u8 ((mp.2 : Nat) : Int), .slice ca cl cc, .slice la ll lc] 77 (0, 0)) ∧ ps[i]? = some p ∧ SyncK ps c ∧ hs.length ≤ 4 * c ∧ ps ≠ []) := by
    obtain ⟨q1, q2, q3, q4, q5, q6, q7, q8, q9, q10⟩ := K1.out
    rw [hlb]
    exact ⟨q1.later hCW, q2.trans (Nx.kp hCW 7), q3.later hCW (fun i hi => relab_old hi), by rw [relab_old (Array.getElem?_eq_some_iff.1 q5).1]; exact q4, hCW.heap q5, q6, q7, q8, q9⟩
  have o0 : W.cell? ⟨Ob, 0, none⟩ = some (.int .i64 kind) := Kp.cell hCW o0
  clear hW hCW hlb K1 d0 d1 gX gY o1 hP
  obtain ⟨kw1, kw2, kw3, kw4, kw5, kw6, kw7, kw8, kw9⟩ := KW.out
  have o2 : W.cell? ⟨Ob, 2, none⟩ = some (.int .i64 N) := by simpa using (cells_at kw5 2).1
  have o3 : W.cell? ⟨Ob, 3, none⟩ = some (.int .i64 tg.1) := by simpa using (cells_at kw5 3).1
  have o4 : W.cell? ⟨Ob, 4, none⟩ = some (.int .u32 ((tg.2 : Nat) : Int)) := by simpa using (cells_at kw5 4).1
  have o5 : W.cell? ⟨Ob, 5, none⟩ = some (.int .u32 ((mp.1 : Nat) : Int)) := by simpa using (cells_at kw5 5).1
  have o6 : W.cell? ⟨Ob, 6, none⟩ = some (.int .u8 ((mp.2 : Nat) : Int)) := by simpa using (cells_at kw5 6).1
  have o7 : W.cell? ⟨Ob, 7, none⟩ = some (.slice ca cl cc) := by simpa using (cells_at kw5 7).1
  have o8 : W.cell? ⟨Ob, 8, none⟩ = some (.slice la ll lc) := by simpa using (cells_at kw5 8).1
  have hk := HK.out
  subst hk
  have hPr := kw1.ps i p kw6
  have hsl := (kw7 p (List.mem_of_getElem? kw6)).1
  have hkk := (kw7 p (List.mem_of_getElem? kw6)).2
  have hOk := hPr.t.ok
  have hn1 := hPr.t.n1
  have hCl := hPr.r.lt (.inl rfl)
  have htg := kw3.tg
  have hmp := kw3.mp
  have hnF : ¬ Ft p.B p.M p.v Ob := fun e => by have := hPr.ft Ob e; omega
  have HP : Hid (PrIs W lb i p ∧ p.l = p.s.slots ∧ p.k ≤ 1000 + c ∧ p.s.Ok p.n ∧ 1 ≤ p.n ∧ p.C < W.heap.size ∧ TOk tg ∧ MOk mp ∧ ¬ Ft p.B p.M p.v Ob) := ⟨hPr, hsl, hkk, hOk, hn1, hCl, htg, hmp, hnF⟩
  have hap : ∀ b, Ft p.B p.M p.v b → ¬ Gt p.C p.u b := fun b h1 h2 => by have := hPr.ft b h1; have := hPr.gt b h2; omega
  have hR : IsR W p.C p.u p.n p.s.slots := by have := hPr.r; rwa [hsl] at this
  have A1 := flushes_any W p.B p.M p.v p.n p.k p.s hPr.t p.C p.u hR hap ca cl cc Z kw3.ci (fun y hy h0 => ⟨fun e => by have := hPr.ft _ e; have := kw3.cb y hy h0; omega, fun e => by have := hPr.gt _ e; have := kw3.cb y hy h0; omega⟩)
  clear kw1 kw2 kw3 kw4 kw5 kw6 kw7 kw8 kw9 o2 o3 o4 o5 o6 o8 hPr hsl hkk hOk hn1 hCl htg hmp hnF hap hR
  go_wp2_with fail
  go_at_call 45
  refine A1.mono ?_
  rintro e W4 ⟨rfl, W2, v2, hT2, hL2, hC2, u4, hR4, hU4, hC4⟩
  have KE : Hid (SEnd w lab D c W4) := by
    obtain ⟨q1, q2, q3, q4, q5, q6, q7, q8, q9⟩ := KW.out
    obtain ⟨lab3, h3, n3⟩ := q1.one q6 hT2 hC2 (.inl hL2) (Chg.refl W2 _)
    rw [← dropCells_slots] at hR4
    obtain ⟨lab4, h4', n4⟩ := h3.other q6 hR4 hC4 hU4
    exact ⟨_, R, _, hs, h4', q2.trans (n3.trans n4), q7.set q6 rfl (by simp only; omega), by omega, set_ne q9⟩
  clear A1 hT2 hL2 hC2 hR4 hU4 hC4
  go_wp2
  go_ret
  exact ⟨rfl, KE.out⟩

set_option maxHeartbeats 4000000 in
set_option maxRecDepth 20000 in
theorem st_all (w : World) (lab : Nat → Nat) (D : Nat) (R : Rows) (ps : List Pr) (hs : List Hd) (c : Nat) (h : WI w lab D R ps hs) (hne : ps ≠ []) (hsy : SyncK ps c) (hc : c ≤ 300) (hh : hs.length ≤ 4 * c) (x : Opv) (Z : Nat → Int) (l : List Sl4) (hx : OpvOk w lab x Z l) (hk : x.kind = 8) :
    Calls Try.prog 27 #[.pointer (some ⟨D, 0, none⟩), .agg x.cells] w fun e w' => e = .returned (.bool true) ∧ SEnd w lab D c w' := by
  obtain ⟨kind, T, N, tg, mp, ca, cl, cc, la, ll, lc⟩ := x
  simp only [Opv.cells] at hk ⊢
  have HK : Hid (_) := hk
  clear hk
  have hlen : 0 < ps.length := List.length_pos_iff.2 hne
  have h4 := h.p4
  obtain ⟨w1, hw1⟩ : ∃ w1, w1 = w.alloc (.cells #[.int .i64 kind, .int .i64 T, .int .i64 N, .int .i64 tg.1, .int .u32 ((tg.2 : Nat) : Int), .int .u32 ((mp.1 : Nat) : Int), .int .u8 ((mp.2 : Nat) : Int), .slice ca cl cc, .slice la ll lc] 77) := ⟨_, rfl⟩
  obtain ⟨Ob, hOb⟩ : ∃ Ob, Ob = w.heap.size := ⟨_, rfl⟩
  have hC1 : Kp w w1 := by rw [hw1]; exact (Chg.refl _ _).alloc _
  have hO1 : w1.heap[Ob]? = some (.cells #[.int .i64 kind, .int .i64 T, .int .i64 N, .int .i64 tg.1, .int .u32 ((tg.2 : Nat) : Int), .int .u32 ((mp.1 : Nat) : Int), .int .u8 ((mp.2 : Nat) : Int), .slice ca cl cc, .slice la ll lc] 77 (0, 0)) := by rw [hw1, hOb]; exact heap_alloc_new w _
  have h1 := h.later hC1
  have hx1 := hx.later hC1 (lab' := relab lab w.heap.size 7) (fun i hi => relab_old hi)
  have n1 := Nx.kp (a := lab) hC1 7
  have lOb : relab lab w.heap.size 7 Ob = 7 := relab_new (by omega)
  obtain ⟨ax, cx, exv, hrx⟩ := row1 h1.x
  obtain ⟨ay, cy, eyv, hry⟩ := row1 h1.y
  obtain ⟨gx, eax, _, _, hgx⟩ := hrx.resolve_left (by omega)
  obtain ⟨gy, eay, _, _, hgy⟩ := hry.resolve_left (by omega)
  subst eax eay
  obtain ⟨d0, d1, d2, d3⟩ := cells4 h1.box
  rw [exv] at d0
  rw [eyv] at d1
  have hP := fun wx => pick_any wx T ps.length hlen (by omega) hx.t
  have hil := pk_lt T ps.length hlen
  obtain ⟨i, hi0⟩ : ∃ i, i = pk T ps.length := ⟨_, rfl⟩
  rw [← hi0] at hP hil
  obtain ⟨p, hi⟩ : ∃ p, ps[i]? = some p := ⟨_, List.getElem?_eq_getElem hil⟩
  have gX : w1.cell? ⟨gx, i, none⟩ = some (.pointer (some ⟨p.B, 0, none⟩)) := hgx i _ (by simp [xL, hi])
  have gY : w1.cell? ⟨gy, i, none⟩ = some (.pointer (some ⟨p.C, 0, none⟩)) := hgy i _ (by simp [yL, hi])
  obtain ⟨np, hnp⟩ : ∃ np, np = ps.length := ⟨_, rfl⟩
  rw [← hnp] at d0 d1 hP hil
  have o0 : w1.cell? ⟨Ob, 0, none⟩ = some (.int .i64 kind) := by simpa using (cells_at hO1 0).1
  have o1 : w1.cell? ⟨Ob, 1, none⟩ = some (.int .i64 T) := by simpa using (cells_at hO1 1).1
  have K1 : Hid (WI w1 (relab lab w.heap.size 7) D R ps hs ∧ Nx w lab w1 (relab lab w.heap.size 7) ∧ OpvOk w1 (relab lab w.heap.size 7) ⟨kind, T, N, tg, mp, ca, cl, cc, la, ll, lc⟩ Z l ∧ relab lab w.heap.size 7 Ob = 7 ∧ w1.heap[Ob]? = some (.cells #[.int .i64 kind, .int .i64 T, .int .i64 N, .int .i64 tg.1, .int .u32 ((tg.2 : Nat) : Int), .int .u32 ((mp.1 : Nat) : Int), .int .u8 ((mp.2 : Nat) : Int), .slice ca cl cc, .slice la ll lc] 77 (0, 0)) ∧ ps[i]? = some p ∧ SyncK ps c ∧ hs.length ≤ 4 * c ∧ ps ≠ [] ∧ w.heap.size = Ob) := ⟨h1, n1, hx1, lOb, hO1, hi, hsy, hh, hne, hOb.symm⟩
  clear h h1 hx hx1 n1 lOb hO1 hC1 hgx hgy hrx hry hsy hh hne hi exv eyv hi0 hlen hnp d2 d3 h4
  go_enter Try.func27, Try.ntmps27
  go_upto_region 1 with fail
  rw [← hOb, ← hw1]
  clear hw1 hOb
  go_quiet (first | (go_at_call 10; exact Calls.quiet_of_same (hP _)))
  go_upto_region 4 with fail
  obtain ⟨W, hW⟩ : ∃ W, W = w1.drewN nq := ⟨_, rfl⟩
  rw [← hW]
  have hCW : Kp w1 W := by rw [hW]; exact Chg.drewN (Chg.refl _ _) _
  obtain ⟨lb, hlb⟩ : ∃ lb, lb = relab (relab lab w.heap.size 7) w1.heap.size 7 := ⟨_, rfl⟩
  have KW : Hid (WI W lb D R ps hs ∧ Nx w lab W lb ∧ OpvOk W lb ⟨kind, T, N, tg, mp, ca, cl, cc, la, ll, lc⟩ Z l ∧ lb Ob = 7 ∧ W.heap[Ob]? = some (.cells #[.int .i64 kind, .int .i64 T, .int .i64 N, .int .i64 tg.1, .int .u32 ((tg.2 : Nat) : Int), .int .u32 ((mp.1 : Nat) : Int), .int .u8 ((mp.2 : Nat) : Int), .slice ca cl cc, .slice la ll lc] 77 (0, 0)) ∧ ps[i]? = some p ∧ SyncK ps c ∧ hs.length ≤ 4 * c ∧ ps ≠ []) := by
    obtain ⟨q1, q2, q3, q4, q5, q6, q7, q8, q9, q10⟩ := K1.out
    rw [hlb]
    exact ⟨q1.later hCW, q2.trans (Nx.kp hCW 7), q3.later hCW (fun i hi => relab_old hi), by rw [relab_old (Array.getElem?_eq_some_iff.1 q5).1]; exact q4, hCW.heap q5, q6, q7, q8, q9⟩
  have o0 : W.cell? ⟨Ob, 0, none⟩ = some (.int .i64 kind) := Kp.cell hCW o0
  clear hW hCW hlb K1 d0 d1 gX gY o1 hP
  obtain ⟨kw1, kw2, kw3, kw4, kw5, kw6, kw7, kw8, kw9⟩ := KW.out
  have o2 : W.cell? ⟨Ob, 2, none⟩ = some (.int .i64 N) := by simpa using (cells_at kw5 2).1
  have o3 : W.cell? ⟨Ob, 3, none⟩ = some (.int .i64 tg.1) := by simpa using (cells_at kw5 3).1
  have o4 : W.cell? ⟨Ob, 4, none⟩ = some (.int .u32 ((tg.2 : Nat) : Int)) := by simpa using (cells_at kw5 4).1
  have o5 : W.cell? ⟨Ob, 5, none⟩ = some (.int .u32 ((mp.1 : Nat) : Int)) := by simpa using (cells_at kw5 5).1
  have o6 : W.cell? ⟨Ob, 6, none⟩ = some (.int .u8 ((mp.2 : Nat) : Int)) := by simpa using (cells_at kw5 6).1
  have o7 : W.cell? ⟨Ob, 7, none⟩ = some (.slice ca cl cc) := by simpa using (cells_at kw5 7).1
  have o8 : W.cell? ⟨Ob, 8, none⟩ = some (.slice la ll lc) := by simpa using (cells_at kw5 8).1
  have hk := HK.out
  subst hk
  have hPr := kw1.ps i p kw6
  have hsl := (kw7 p (List.mem_of_getElem? kw6)).1
  have hkk := (kw7 p (List.mem_of_getElem? kw6)).2
  have hOk := hPr.t.ok
  have hn1 := hPr.t.n1
  have hCl := hPr.r.lt (.inl rfl)
  have htg := kw3.tg
  have hmp := kw3.mp
  have hnF : ¬ Ft p.B p.M p.v Ob := fun e => by have := hPr.ft Ob e; omega
  have HP : Hid (PrIs W lb i p ∧ p.l = p.s.slots ∧ p.k ≤ 1000 + c ∧ p.s.Ok p.n ∧ 1 ≤ p.n ∧ p.C < W.heap.size ∧ TOk tg ∧ MOk mp ∧ ¬ Ft p.B p.M p.v Ob) := ⟨hPr, hsl, hkk, hOk, hn1, hCl, htg, hmp, hnF⟩
  obtain ⟨ua, uc, huv⟩ := hPr.r.row.form
  have hbx := hPr.r.box
  rw [huv] at hbx
  have hSl : SlotsIn W ua p.l.length p.s.slots := by
    have := hPr.r.row
    rw [huv] at this
    have := this.slotsIn rfl
    rwa [hsl] at this ⊢
  obtain ⟨ul, hul⟩ : ∃ ul, ul = p.l.length := ⟨_, rfl⟩
  rw [← hul] at hbx hSl
  have A1 := all_any W.drew p.B p.M p.v p.n p.k p.s (hPr.t.kp (Chg.drew (Chg.refl _ _))) ua ul uc (hSl.kept (S := fun _ => False) (Chg.drew (Chg.refl _ _)) (fun _ _ h => h)) N kw3.n
  have f1 : W.cell? ⟨p.C, 1, none⟩ = some (.slice ua ul uc) := by rw [(cells_at hbx _).1]; rfl
  have hS0 : Sa8 Ob p.C N ua ul uc W.drew := ⟨o2, f1⟩
  have hlt : p.C < W.heap.size ∧ Ob < W.heap.size := ⟨hCl, (Array.getElem?_eq_some_iff.1 kw5).1⟩
  have hmx : Try.prog.follows .mixedOrders = true := by kernel_rfl
  have HQ : Hid (p.C < W.heap.size ∧ Ob < W.heap.size) := hlt
  clear kw1 kw2 kw3 kw4 kw5 kw6 kw7 kw8 kw9 o3 o4 o5 o6 o7 o8 hPr hsl hkk hOk hn1 hCl htg hmp hnF hbx hSl hul huv hlt
  go_upto_region 29 with fail
  clear o2 f1
  refine wp_region_held_drew (S := Sa8 Ob p.C N ua ul uc) hmx hS0 (fun hS => ?_)
  clear hS0
  refine wpAnyH_take (i := 0) (oi := { dst := some 166, op := Op.move (Operand.tmp 6), type := 26, pos := "law.go:244", after := #[], guard := none }) (v := .pointer (some ⟨p.B, 0, none⟩)) rfl (by kernel_rfl) (by kernel_rfl) (by kernel_rfl) (fun _ _ _ h => h) (Or.inl ⟨by rfl, ?_⟩) hS ?_
  · rintro wx ⟨x0, x1⟩
    go_simp
  simp only [Act.put, List.setIfInBounds_toArray, List.set_cons_zero, List.set_cons_succ]
  refine wpAnyH_take (i := 1) (oi := { dst := some 167, op := Op.move (Operand.tmp 7), type := 70, pos := "law.go:244", after := #[], guard := none }) (v := .pointer (some ⟨p.C, 0, none⟩)) rfl (by kernel_rfl) (by kernel_rfl) (by kernel_rfl) (fun _ _ _ h => h) (Or.inl ⟨by rfl, ?_⟩) hS ?_
  · rintro wx ⟨x0, x1⟩
    go_simp
  simp only [Act.put, List.setIfInBounds_toArray, List.set_cons_zero, List.set_cons_succ]
  refine wpAnyH_take (i := 2) (oi := { dst := some 168, op := Op.nilCheck (Operand.tmp 167), type := 0, pos := "law.go:244", after := #[{ on := 1, ground := Ground.data }], guard := none }) (v := .pointer (some ⟨p.C, 0, none⟩)) rfl (by kernel_rfl) (by kernel_rfl) (by kernel_rfl) (fun _ _ _ h => h) (Or.inl ⟨by rfl, ?_⟩) hS ?_
  · rintro wx ⟨x0, x1⟩
    go_simp
  simp only [Act.put, List.setIfInBounds_toArray, List.set_cons_zero, List.set_cons_succ]
  refine wpAnyH_take (i := 3) (oi := { dst := some 169, op := Op.fieldAddr 80 (Operand.tmp 168) 1, type := 0, pos := "law.go:244", after := #[{ on := 2, ground := Ground.data }], guard := none }) (v := .pointer (some ⟨p.C, 1, none⟩)) rfl (by kernel_rfl) (by kernel_rfl) (by kernel_rfl) (fun _ _ _ h => h) (Or.inl ⟨by rfl, ?_⟩) hS ?_
  · rintro wx ⟨x0, x1⟩
    go_simp
  simp only [Act.put, List.setIfInBounds_toArray, List.set_cons_zero, List.set_cons_succ]
  refine wpAnyH_take (i := 4) (oi := { dst := some 170, op := Op.load 55 (Operand.tmp 169), type := 55, pos := "law.go:244", after := #[{ on := 3, ground := Ground.data }], guard := none }) (v := .slice ua ul uc) rfl (by kernel_rfl) (by kernel_rfl) (by kernel_rfl) (fun _ _ _ h => h) (Or.inl ⟨by rfl, ?_⟩) hS ?_
  · rintro wx ⟨x0, x1⟩
    go_simp
  simp only [Act.put, List.setIfInBounds_toArray, List.set_cons_zero, List.set_cons_succ]
  refine wpAnyH_take (i := 5) (oi := { dst := some 171, op := Op.fieldAddr 77 (Operand.tmp 3) 2, type := 0, pos := "law.go:244", after := #[], guard := none }) (v := .pointer (some ⟨Ob, 2, none⟩)) rfl (by kernel_rfl) (by kernel_rfl) (by kernel_rfl) (fun _ _ _ h => h) (Or.inl ⟨by rfl, ?_⟩) hS ?_
  · rintro wx ⟨x0, x1⟩
    go_simp
  simp only [Act.put, List.setIfInBounds_toArray, List.set_cons_zero, List.set_cons_succ]
  refine wpAnyH_take (i := 6) (oi := { dst := some 172, op := Op.load 3 (Operand.tmp 171), type := 3, pos := "law.go:244", after := #[{ on := 5, ground := Ground.data }], guard := none }) (v := .int .i64 N) rfl (by kernel_rfl) (by kernel_rfl) (by kernel_rfl) (fun _ _ _ h => h) (Or.inl ⟨by rfl, ?_⟩) hS ?_
  · rintro wx ⟨x0, x1⟩
    go_simp
  simp only [Act.put, List.setIfInBounds_toArray, List.set_cons_zero, List.set_cons_succ]
  refine wpAnyH_ready (rs := [7]) (by kernel_rfl) (by simp) ?_
  refine AllReadyH.cons (o := { dst := some 173, op := Op.call { callee := Callee.value (Operand.func 29), args := #[Operand.tmp 166, Operand.tmp 170, Operand.tmp 172], argTypes := #[26, 55, 3] }, type := 4, pos := "law.go:244", after := #[{ on := 0, ground := Ground.data }, { on := 4, ground := Ground.data }, { on := 6, ground := Ground.data }], guard := none }) rfl (fun Kn hK => ?_) AllReadyH.nil
  rw [if_pos (by rfl)]
  go_simp
  refine A1.mono ?_
  rintro e W4 ⟨rfl, hk4⟩
  have hk4' : Kp W W4 := Kp.trans (Chg.drew (Chg.refl W _)) hk4
  have hS4 : Sa8 Ob p.C N ua ul uc W4 := ⟨Kp.cell hk4 hS.1, Kp.cell hk4 hS.2⟩
  have KE : Hid (SEnd w lab D c W4) := by
    obtain ⟨q1, q2, q3, q4, q5, q6, q7, q8, q9⟩ := KW.out
    exact ⟨_, R, ps, hs, q1.later hk4', q2.trans (Nx.kp hk4' 7), q7.up, by omega, q9⟩
  clear hk4 hk4' A1
  refine hK.out _ _ hS4 (fun hS5 => ?_)
  clear hK Kn hS hS4
  refine wpAnyH_ready (rs := [8]) (by kernel_rfl) (by simp) ?_
  refine AllReadyH.cons (o := { dst := some 4, op := Op.assign (Operand.tmp 173), type := 4, pos := "law.go:244", after := #[{ on := 7, ground := Ground.data }, { on := 7, ground := Ground.chain }, { on := 0, ground := Ground.phase }, { on := 1, ground := Ground.phase }, { on := 2, ground := Ground.phase }, { on := 3, ground := Ground.phase }, { on := 4, ground := Ground.phase }, { on := 5, ground := Ground.phase }, { on := 6, ground := Ground.phase }, { on := 7, ground := Ground.phase }], guard := none }) rfl (fun Kn hK => ?_) AllReadyH.nil
  rw [if_pos (by rfl)]
  go_simp
  refine hK.out _ _ hS5 (fun hS6 => ?_)
  clear hK Kn hS5 hS6
  refine wpAnyH_done (by kernel_rfl) ?_ _
  go_wp2
  go_ret
  exact ⟨rfl, KE.out⟩
end Go.Proofs.Ytadpgaaijdpbiaa
