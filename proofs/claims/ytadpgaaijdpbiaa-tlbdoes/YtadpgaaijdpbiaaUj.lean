import Derived.Test.YtadpgaaijdpbiaaUg
import Derived.Deep.RegionHeld3
import Derived.Deep.Cut
namespace Go.Proofs.Ytadpgaaijdpbiaa
open Go.ChangeShapes Go.WideShapes Go.ChangeAt Go.RowKit Go.Shelf
set_option linter.unusedVariables false

set_option maxHeartbeats 4000000 in
set_option maxRecDepth 20000 in
theorem st_save (w : World) (lab : Nat → Nat) (D : Nat) (R : Rows) (ps : List Pr) (hs : List Hd) (c : Nat) (h : WI w lab D R ps hs) (hne : ps ≠ []) (hsy : SyncK ps c) (hc : c ≤ 300) (hh : hs.length ≤ 4 * c) (x : Opv) (Z : Nat → Int) (l : List Sl4) (hx : OpvOk w lab x Z l) (hk : x.kind = 9) :
    Calls Try.prog 27 #[.pointer (some ⟨D, 0, none⟩), .agg x.cells] w fun e w' => e = .returned (.bool true) ∧ SEnd w lab D c w' := by
  obtain ⟨kind, T, N, tg, mp, ca, cl, cc, la, ll, lc⟩ := x
  simp only [Opv.cells] at hk ⊢
  have HK : Hid (_) := hk
  clear hk
  have hlen : 0 < ps.length := List.length_pos_iff.2 hne
  have h4 := h.p4
  obtain ⟨w1, hw1⟩ : ∃ w1, w1 = w.alloc (.cells #[.int .i64 kind, .int .i64 T, .int .i64 N, .int .i64 tg.1, .int .u32 ((tg.2 : Nat) : Int), .int .u32 ((mp.1 : Nat) : Int), .int .u8 ((mp.2 : Nat) : Int), .slice ca cl cc, .slice la ll lc] 77) := ⟨_, rfl⟩
  obtain ⟨Ob, hOb⟩ : ∃ Ob, Ob = w.heap.size := ⟨_, rfl⟩
  have hC1 : Kp w w1 := by rw [hw1]; exact (Chg.refl _ _).alloc _
  have hO1 : w1.heap[Ob]? = some (.cells #[.int .i64 kind, .int .i64 T, .int .i64 N, .int .i64 tg.1, .int .u32 ((tg.2 : Nat) : Int), .int .u32 ((mp.1 : Nat) : Int), .int .u8 ((mp.2 : Nat) : Int), .slice ca cl cc, .slice la ll lc] 77 (0, 0)) := by rw [hw1, hOb]; exact heap_alloc_new w _
  have h1 := h.later hC1
  have hx1 := hx.later hC1 (lab' := relab lab w.heap.size 7) (fun i hi => relab_old hi)
  have n1 := Nx.kp (a := lab) hC1 7
  have lOb : relab lab w.heap.size 7 Ob = 7 := relab_new (by omega)
  obtain ⟨ax, cx, exv, hrx⟩ := row1 h1.x
  obtain ⟨ay, cy, eyv, hry⟩ := row1 h1.y
  obtain ⟨gx, eax, _, _, hgx⟩ := hrx.resolve_left (by omega)
  obtain ⟨gy, eay, _, _, hgy⟩ := hry.resolve_left (by omega)
  subst eax eay
  obtain ⟨d0, d1, d2, d3⟩ := cells4 h1.box
  rw [exv] at d0
  rw [eyv] at d1
  have hP := fun wx => pick_any wx T ps.length hlen (by omega) hx.t
  have hil := pk_lt T ps.length hlen
  obtain ⟨i, hi0⟩ : ∃ i, i = pk T ps.length := ⟨_, rfl⟩
  rw [← hi0] at hP hil
  obtain ⟨p, hi⟩ : ∃ p, ps[i]? = some p := ⟨_, List.getElem?_eq_getElem hil⟩
  have gX : w1.cell? ⟨gx, i, none⟩ = some (.pointer (some ⟨p.B, 0, none⟩)) := hgx i _ (by simp [xL, hi])
  have gY : w1.cell? ⟨gy, i, none⟩ = some (.pointer (some ⟨p.C, 0, none⟩)) := hgy i _ (by simp [yL, hi])
  obtain ⟨np, hnp⟩ : ∃ np, np = ps.length := ⟨_, rfl⟩
  rw [← hnp] at d0 d1 hP hil
  have o0 : w1.cell? ⟨Ob, 0, none⟩ = some (.int .i64 kind) := by simpa using (cells_at hO1 0).1
  have o1 : w1.cell? ⟨Ob, 1, none⟩ = some (.int .i64 T) := by simpa using (cells_at hO1 1).1
  have K1 : Hid (WI w1 (relab lab w.heap.size 7) D R ps hs ∧ Nx w lab w1 (relab lab w.heap.size 7) ∧ OpvOk w1 (relab lab w.heap.size 7) ⟨kind, T, N, tg, mp, ca, cl, cc, la, ll, lc⟩ Z l ∧ relab lab w.heap.size 7 Ob = 7 ∧ w1.heap[Ob]? = some (.cells #[.int .i64 kind, .int .i64 T, .int .i64 N, .int .i64 tg.1, .int .u32 ((tg.2 : Nat) : Int), .int .u32 ((mp.1 : Nat) : Int), .int .u8 ((mp.2 : Nat) : Int), .slice ca cl cc, .slice la ll lc] 77 (0, 0)) ∧ ps[i]? = some p ∧ SyncK ps c ∧ hs.length ≤ 4 * c ∧ ps ≠ [] ∧ w.heap.size = Ob) := ⟨h1, n1, hx1, lOb, hO1, hi, hsy, hh, hne, hOb.symm⟩
  clear h h1 hx hx1 n1 lOb hO1 hC1 hgx hgy hrx hry hsy hh hne hi exv eyv hi0 hlen hnp d2 d3 h4
  go_enter Try.func27, Try.ntmps27
  go_upto_region 1 with fail
  rw [← hOb, ← hw1]
  clear hw1 hOb
  go_quiet (first | (go_at_call 10; exact Calls.quiet_of_same (hP _)))
  go_upto_region 4 with fail
  obtain ⟨W, hW⟩ : ∃ W, W = w1.drewN nq := ⟨_, rfl⟩
  rw [← hW]
  have hCW : Kp w1 W := by rw [hW]; exact Chg.drewN (Chg.refl _ _) _
  obtain ⟨lb, hlb⟩ : ∃ lb, lb = relab (relab lab w.heap.size 7) w1.heap.size 7 := ⟨_, rfl⟩
  have KW : Hid (WI W lb D R ps hs ∧ Nx w lab W lb ∧ OpvOk W lb ⟨kind, T, N, tg, mp, ca, cl, cc, la, ll, lc⟩ Z l ∧ lb Ob = 7 ∧ W.heap[Ob]? = some (.cells #[.int .i64 kind, .int .i64 T, .int .i64 N, .int .i64 tg.1, .int .u32 ((tg.2 : Nat) : Int), .int .u32 ((mp.1 : Nat) : Int), .int .u8 ((mp.2 : Nat) : Int), .slice ca cl cc, .slice la ll lc] 77 (0, 0)) ∧ ps[i]? = some p ∧ SyncK ps c ∧ hs.length ≤ 4 * c ∧ ps ≠ []) := by
    obtain ⟨q1, q2, q3, q4, q5, q6, q7, q8, q9, q10⟩ := K1.out
    rw [hlb]
    exact ⟨q1.later hCW, q2.trans (Nx.kp hCW 7), q3.later hCW (fun i hi => relab_old hi), by rw [relab_old (Array.getElem?_eq_some_iff.1 q5).1]; exact q4, hCW.heap q5, q6, q7, q8, q9⟩
  have o0 : W.cell? ⟨Ob, 0, none⟩ = some (.int .i64 kind) := Kp.cell hCW o0
  clear hW hCW hlb K1 d0 d1 gX gY o1 hP
  obtain ⟨kw1, kw2, kw3, kw4, kw5, kw6, kw7, kw8, kw9⟩ := KW.out
  have o2 : W.cell? ⟨Ob, 2, none⟩ = some (.int .i64 N) := by simpa using (cells_at kw5 2).1
  have o3 : W.cell? ⟨Ob, 3, none⟩ = some (.int .i64 tg.1) := by simpa using (cells_at kw5 3).1
  have o4 : W.cell? ⟨Ob, 4, none⟩ = some (.int .u32 ((tg.2 : Nat) : Int)) := by simpa using (cells_at kw5 4).1
  have o5 : W.cell? ⟨Ob, 5, none⟩ = some (.int .u32 ((mp.1 : Nat) : Int)) := by simpa using (cells_at kw5 5).1
  have o6 : W.cell? ⟨Ob, 6, none⟩ = some (.int .u8 ((mp.2 : Nat) : Int)) := by simpa using (cells_at kw5 6).1
  have o7 : W.cell? ⟨Ob, 7, none⟩ = some (.slice ca cl cc) := by simpa using (cells_at kw5 7).1
  have o8 : W.cell? ⟨Ob, 8, none⟩ = some (.slice la ll lc) := by simpa using (cells_at kw5 8).1
  have hk := HK.out
  subst hk
  have hPr := kw1.ps i p kw6
  have hsl := (kw7 p (List.mem_of_getElem? kw6)).1
  have hkk := (kw7 p (List.mem_of_getElem? kw6)).2
  have hOk := hPr.t.ok
  have hn1 := hPr.t.n1
  have hCl := hPr.r.lt (.inl rfl)
  have htg := kw3.tg
  have hmp := kw3.mp
  have hnF : ¬ Ft p.B p.M p.v Ob := fun e => by have := hPr.ft Ob e; omega
  have HP : Hid (PrIs W lb i p ∧ p.l = p.s.slots ∧ p.k ≤ 1000 + c ∧ p.s.Ok p.n ∧ 1 ≤ p.n ∧ p.C < W.heap.size ∧ TOk tg ∧ MOk mp ∧ ¬ Ft p.B p.M p.v Ob) := ⟨hPr, hsl, hkk, hOk, hn1, hCl, htg, hmp, hnF⟩
  obtain ⟨ua, uc, huv⟩ := hPr.r.row.form
  have hbx := hPr.r.box
  have hrow := hPr.r.row
  rw [huv] at hbx hrow
  obtain ⟨L, hL⟩ : ∃ L, L = p.s.slots.length := ⟨_, rfl⟩
  have hlL : p.l.length = L := by rw [hsl, hL]
  rw [hlL] at hbx hrow
  rw [hsl] at hrow
  have hL64 : L ≤ 64 := by rw [hL, Sta.slots_len]; have := hOk.len; have := hPr.t.n64; omega
  have hn64 := hPr.t.n64
  have A1 := Slots_any W p.B p.M p.v p.n p.k p.s hPr.t
  have HQ : Hid (W.heap[p.C]? = some (.cells #[.int .i64 ((p.n : Nat) : Int), .slice ua L uc] 80 (0, 0)) ∧ SR W (.slice ua L uc) p.s.slots ∧ L = p.s.slots.length) := ⟨hbx, hrow, hL⟩
  clear kw1 kw2 kw3 kw4 kw5 kw6 kw7 kw8 kw9 o2 o3 o4 o5 o6 o7 o8 hPr hsl hkk hOk hn1 hCl htg hmp hnF hbx hrow hL hlL huv
  go_wp2_with fail
  go_at_call 21
  refine A1.mono ?_
  rintro e W2 ⟨l1, rfl, hS1, hN1, hk2⟩
  obtain ⟨va1, vc1, rfl⟩ := hS1.form
  rw [← HQ.out.2.2] at hS1 hN1 ⊢
  have A2 := Slots_any W2 p.B p.M p.v p.n p.k p.s (HP.out.1.t.kp hk2)
  have K2 : Hid (SR W2 (.slice va1 L vc1) p.s.slots ∧ (∀ b, (Value.slice va1 L vc1).ownBlock = some b → W.heap.size ≤ b) ∧ Kp W W2) := ⟨hS1, hN1, hk2⟩
  clear A1 hS1 hN1 hk2
  go_wp2_with fail
  go_at_call 21
  refine A2.mono ?_
  rintro e W3 ⟨l2, rfl, hS2, hN2, hk3⟩
  obtain ⟨va2, vc2, rfl⟩ := hS2.form
  rw [← HQ.out.2.2] at hS2 hN2 ⊢
  have k3 : Kp W W3 := Kp.trans K2.out.2.2 hk3
  have i1 : SlotsIn W3 va1 L p.s.slots := SR.slotsIn (Chg.owns hk3 K2.out.1 (fun _ _ h => h)) HQ.out.2.2
  have i2 : SlotsIn W3 va2 L p.s.slots := SR.slotsIn hS2 HQ.out.2.2
  have iy : SlotsIn W3 ua L p.s.slots := SR.slotsIn (Chg.owns k3 HQ.out.2.1 (fun _ _ h => h)) HQ.out.2.2
  have A3 := sameSlots_any W3 va1 ua L L vc1 uc p.s.slots p.s.slots i1 iy (by omega) true (by simp)
  have f1 : W3.cell? ⟨p.C, 1, none⟩ = some (.slice ua L uc) := by rw [(cells_at (k3.heap HQ.out.1) _).1]; rfl
  have K3 : Hid (SR W3 (.slice va2 L vc2) p.s.slots ∧ (∀ b, (Value.slice va2 L vc2).ownBlock = some b → W2.heap.size ≤ b) ∧ Kp W2 W3 ∧ Kp W W3 ∧ SlotsIn W3 va2 L p.s.slots ∧ SlotsIn W3 ua L p.s.slots) := ⟨hS2, hN2, hk3, k3, i2, iy⟩
  clear A2 hS2 hN2 hk3 k3 i1 i2 iy
  go_wp2_with fail
  go_at_call 22
  refine A3.mono ?_
  rintro e W4 ⟨rfl, hk4⟩
  have A4 := sameSlots_any W4 va2 ua L L vc2 uc p.s.slots p.s.slots (K3.out.2.2.2.2.1.kept (S := fun _ => False) hk4 (fun _ _ h => h)) (K3.out.2.2.2.2.2.kept (S := fun _ => False) hk4 (fun _ _ h => h)) (by omega) true (by simp)
  have f1 : W4.cell? ⟨p.C, 1, none⟩ = some (.slice ua L uc) := Kp.cell hk4 f1
  have K4 : Hid (Kp W3 W4) := hk4
  clear A3 hk4
  go_wp2_with fail
  go_at_call 22
  refine A4.mono ?_
  rintro e W5 ⟨rfl, hk5⟩
  have f1 : W5.cell? ⟨p.C, 1, none⟩ = some (.slice ua L uc) := Kp.cell hk5 f1
  have k35 : Kp W3 W5 := Kp.trans K4.out hk5
  obtain ⟨v6, W6, hr6, hS6, hk6, hN6⟩ := app_twin W5 ua uc p.s.slots (by rw [← HQ.out.2.2]; exact Chg.owns (Kp.trans K3.out.2.2.2.1 k35) HQ.out.2.1 (fun _ _ h => h)) (by rw [← HQ.out.2.2]; exact hL64)
  rw [← HQ.out.2.2] at hr6
  obtain ⟨va6, vc6, rfl⟩ := hS6.form
  rw [← HQ.out.2.2] at hr6 hS6 hN6
  obtain ⟨W7, hW7⟩ : ∃ W7, W7 = W6.alloc (.cells #[.slice va1 L vc1, .slice va2 L vc2] 55) := ⟨_, rfl⟩
  obtain ⟨ab, hab⟩ : ∃ ab, ab = W6.heap.size := ⟨_, rfl⟩
  have hk7 : Kp W6 W7 := by rw [hW7]; exact (Chg.refl _ _).alloc _
  have xab : W7.heap[ab]? = some (.cells #[.slice va1 L vc1, .slice va2 L vc2] 55 (0, 0)) := by rw [hW7, hab]; exact heap_alloc_new W6 _
  obtain ⟨lab7, hlab7⟩ : ∃ lab7 : Nat → Nat, lab7 = fun b => if b < W.heap.size then lb b else if (Value.slice va1 L vc1).ownBlock = some b ∨ (Value.slice va2 L vc2).ownBlock = some b then 5 else if (Value.slice va6 L vc6).ownBlock = some b then 6 else 7 := ⟨_, rfl⟩
  have k37 : Kp W3 W7 := Kp.trans (Kp.trans k35 hk6) hk7
  have k7 : Kp W W7 := Kp.trans K3.out.2.2.2.1 k37
  have s2 := K2.out.2.2.size
  have s3 := K3.out.2.2.1.size
  have s5 := k35.size
  have s6 := hk6.size
  have lt1 : ∀ b, (Value.slice va1 L vc1).ownBlock = some b → W.heap.size ≤ b ∧ b < W2.heap.size := fun b hb => ⟨K2.out.2.1 b hb, own_lt K2.out.1 hb⟩
  have lt2 : ∀ b, (Value.slice va2 L vc2).ownBlock = some b → W2.heap.size ≤ b ∧ b < W3.heap.size := fun b hb => ⟨K3.out.2.1 b hb, own_lt K3.out.1 hb⟩
  have lt6 : ∀ b, (Value.slice va6 L vc6).ownBlock = some b → W5.heap.size ≤ b ∧ b < W6.heap.size := fun b hb => ⟨hN6 b hb, own_lt hS6 hb⟩
  have hl7 : ∀ b, b < W.heap.size → lab7 b = lb b := fun b hb => by rw [hlab7]; simp [hb]
  have h7 := KW.out.1.laterL k7 hl7
  have n7 : Nx W lb W7 lab7 := ⟨k7.mono (fun _ _ h => h.elim), hl7⟩
  have sr1 : SR W7 (.slice va1 L vc1) p.s.slots := Chg.owns (Kp.trans K3.out.2.2.1 k37) K2.out.1 (fun _ _ h => h)
  have sr2 : SR W7 (.slice va2 L vc2) p.s.slots := Chg.owns k37 K3.out.1 (fun _ _ h => h)
  have sr6 : SR W7 (.slice va6 L vc6) p.s.slots := Chg.owns hk7 hS6 (fun _ _ h => h)
  have A5 := own_any W7 lab7 D R ps hs h7 (by have := KW.out.2.2.2.2.2.2.2.1; omega) ab L (fun t => if t = 0 then va1 else va2) (fun t => if t = 0 then vc1 else vc2) (fun _ => p.s.slots) hL64 xab (by
      have e1 : ¬ ab < W.heap.size := by omega
      have e2 : ¬ ((Value.slice va1 L vc1).ownBlock = some ab ∨ (Value.slice va2 L vc2).ownBlock = some ab) := by
        rintro (e | e)
        · have := lt1 _ e; omega
        · have := lt2 _ e; omega
      have e3 : ¬ (Value.slice va6 L vc6).ownBlock = some ab := fun e => by have := lt6 _ e; omega
      rw [hlab7]; simp only; rw [if_neg e1, if_neg e2, if_neg e3]) (fun t ht => by
      refine ⟨?_, HQ.out.2.2.symm⟩
      by_cases h0 : t = 0
      · simp only [h0, if_true]; exact sr1
      · simp only [h0, if_false]; exact sr2) (fun t ht b hb => by
      have five : ∀ b, ((Value.slice va1 L vc1).ownBlock = some b ∨ (Value.slice va2 L vc2).ownBlock = some b) → lab7 b = 5 := fun b hb => by
        have e1 : ¬ b < W.heap.size := by
          rcases hb with e | e
          · have := lt1 _ e; omega
          · have := lt2 _ e; omega
        rw [hlab7]; simp only; rw [if_neg e1, if_pos hb]
      by_cases h0 : t = 0
      · simp only [h0, if_true] at hb
        refine ⟨five b (.inl hb), fun t' ht' hne e => ?_⟩
        have h0' : ¬ t' = 0 := by omega
        simp only [h0', if_false] at e
        have := lt1 _ hb; have := lt2 _ e; omega
      · simp only [h0, if_false] at hb
        refine ⟨five b (.inr hb), fun t' ht' hne e => ?_⟩
        have h0' : t' = 0 := by omega
        simp only [h0', if_true] at e
        have := lt2 _ hb; have := lt1 _ e; omega) (by
      intro hd hhd h0 b off hb
      rintro ⟨t, ht, e⟩
      have hm := KW.out.1.hs hd hhd
      rcases hm.2.2 with q | ⟨b', off', e', hb', _⟩
      · exact h0 q
      · rw [hb] at e'; cases e'
        by_cases h0 : t = 0
        · simp only [h0, if_true] at e
          have := lt1 _ e; omega
        · simp only [h0, if_false] at e
          have := lt2 _ e; omega)
  have K7 : Hid (SR W7 (.slice va6 L vc6) p.s.slots ∧ Nx W lb W7 lab7 ∧ ∀ b, (Value.slice va6 L vc6).ownBlock = some b → lab7 b = 6) := ⟨sr6, n7, fun b hb => by
    have := lt6 _ hb
    have e1 : ¬ b < W.heap.size := by omega
    have e2 : ¬ ((Value.slice va1 L vc1).ownBlock = some b ∨ (Value.slice va2 L vc2).ownBlock = some b) := by
      rintro (e | e)
      · have := lt1 _ e; omega
      · have := lt2 _ e; omega
    rw [hlab7]; simp only; rw [if_neg e1, if_neg e2, if_pos hb]⟩
  clear A4 hk5 k35 hS6 hk6 hN6 hk7 xab hlab7 k37 k7 s2 s3 s5 s6 lt1 lt2 lt6 hl7 h7 n7 sr1 sr2 sr6 K2 K3 K4
  go_upto_region 36 with (at_builtin; refine wpList_append_run _ rfl (.tmp 194) (.tmp 198) 55 55 rfl _ _ _ W6 rfl rfl hr6 ?_)
  clear hr6 f1
  go_wp2_with fail
  rw [← hab, ← hW7]
  clear hab hW7
  go_at_call 46
  refine A5.mono ?_
  rintro e W8 ⟨rfl, lab8, R8, hs8, h8, n8, e8⟩
  have sr8 : SR W8 (.slice va6 L vc6) p.s.slots := Chg.owns n8.1 K7.out.1 (fun b hb e => e (K7.out.2.2 b hb))
  have A6 := load_any W8 lab8 D R8 ps hs8 h8 ((p.n : Nat) : Int) (by unfold InI; omega) va6 L vc6 p.s.slots (SR.slotsIn sr8 HQ.out.2.2) (slots_ok HP.out.2.2.2.1) (by omega)
  have f0 : W8.cell? ⟨p.C, 0, none⟩ = some (.int .i64 ((p.n : Nat) : Int)) := by
    have := (h8.ps i p KW.out.2.2.2.2.2.1).r.box
    rw [(cells_at this _).1]; rfl
  have K8 : Hid (Nx W7 lab7 W8 lab8 ∧ hs8.length = hs.length + 4) := ⟨n8, e8⟩
  clear A5 h8 n8 e8 sr8
  go_wp2_with fail
  go_at_call 40
  refine A6.mono ?_
  rintro e W9 ⟨rfl, lab9, R9, ps9, h9, n9, l9⟩
  have KE : Hid (SEnd w lab D c W9) := by
    obtain ⟨q1, q2, q3, q4, q5, q6, q7, q8, q9⟩ := KW.out
    exact ⟨lab9, R9, ps9, hs8, h9, q2.trans (K7.out.2.1.trans (K8.out.1.trans n9)), q7.ld l9, by have := K8.out.2; omega, l9.ne q9⟩
  clear A6 h9 n9 l9 f0
  go_wp2
  go_ret
  exact ⟨rfl, KE.out⟩
end Go.Proofs.Ytadpgaaijdpbiaa
