import Derived.Test.YtfolnmmlhknmiaaGreatDoorPe
namespace Go.Proofs.YtfolnmmlhknmiaaGreatDoor
open Go.ChangeShapes Go.WideShapes Go.ChangeAt Go.RowKit Go.Shelf
set_option linter.unusedVariables false
attribute [local go_sem] Oper.semAt_some

/-- How far a place has come behind k pieces. -/
def pe (at_ n k : Nat) : Nat := min (nx at_ k) (at_ + n) - at_
theorem nx_ge (at_ k : Nat) : at_ ≤ nx at_ k := by
  unfold nx; split
  · omega
  · omega
theorem pe_zero (at_ n : Nat) : pe at_ n 0 = 0 := by simp [pe, nx]
theorem pe_all (at_ n : Nat) : pe at_ n (pN at_ n) = n := by
  unfold pe
  have : ¬ nx at_ (pN at_ n) < at_ + n := fun h => Nat.lt_irrefl _ ((pN_iff at_ n _).2 h)
  omega
theorem pe_step (at_ n k : Nat) (h : k < pN at_ n) : pe at_ n (k + 1) = pe at_ n k + (pTo at_ n k - pFr at_ k) ∧ at_ + pe at_ n k = nx at_ k ∧ pe at_ n k < n := by
  have h1 := (pN_iff at_ n k).1 h
  have h2 := nx_step at_ n k h
  have h3 := nx_ge at_ k
  unfold pe; omega

set_option maxHeartbeats 2000000 in
set_option maxRecDepth 200000 in
theorem fill_ok (w : World) (B M pages : Nat) (f : Nat → Option Nat) (m : Nat → Nat) (h : IsM w B M pages f m) (at_ n b : Nat) (hin : at_ + n ≤ 4096 * pages) (hb : b < 256) :
    Calls Tryz.prog 136 #[.pointer (some ⟨B, 0, none⟩), .int .u32 at_, .int .i64 n, .int .u8 b] w fun e w' => ∃ f', e = .returned (.int .i64 0) ∧ IsM w' B M pages f' (fillN m at_ n b) ∧ Chg w w' (Mf B M f) ∧ ∀ j x, f' j = some x → f j = some x ∨ w.heap.size ≤ x := by
  have hle := h.le
  have hc : Chg w ((w.alloc (.cells #[.pointer (some ⟨B, 0, none⟩)] 36)).alloc (.cells #[.int .u8 b] 5)) (fun _ => False) := ((Chg.refl w _).alloc _).alloc _
  have hE := place_any _ B M pages f m (h.other hc (fun _ _ h => h)) at_ n (by omega) (by omega)
  have her : placeErr pages at_ n = 0 := by unfold placeErr; rw [if_neg (by omega), Int.toNat_natCast, if_pos hin]
  rw [her] at hE
  have H : Hid (IsM w B M pages f m) := h
  clear hc her h
  refine (callsIn_wide (n := 3)).1 ?_
  refine callsIn_of_wp_marks Tryz.func136 rfl trivial ?_ rfl
  simp only [Tryz.ntmps136, List.size_toArray, List.length_cons, List.length_nil, Nat.reduceAdd, Nat.reduceSub, Array.replicate_succ, Array.replicate_zero, List.push_toArray, List.append_toArray, List.nil_append, List.cons_append]
  gi_wp2_with (refine ⟨trivial, ?_⟩; gi_at_call 50; refine (callsIn_wide.2 hE).mono ?_; rintro e w' ⟨rfl, rfl⟩)
  gi_wp2_with (refine ⟨trivial, ?_⟩; gi_at_call 51; refine (callsIn_wide.2 (pieces_any _ _ _)).mono ?_; rintro e w' ⟨rfl, rfl⟩)
  clear hE
  obtain ⟨w1, hw1⟩ : ∃ w1, w1 = w.alloc (.cells #[.pointer (some ⟨B, 0, none⟩)] 36) := ⟨_, rfl⟩
  obtain ⟨w2, hw2⟩ : ∃ w2, w2 = w1.alloc (.cells #[.int .u8 b] 5) := ⟨_, rfl⟩
  obtain ⟨w3, hw3⟩ : ∃ w3, w3 = w2.alloc (.cells #[.int .u32 at_] 22) := ⟨_, rfl⟩
  obtain ⟨w4, hw4⟩ : ∃ w4, w4 = w3.alloc (.cells #[.int .i64 n] 3) := ⟨_, rfl⟩
  have s1 : w1.heap.size = w.heap.size + 1 := by rw [hw1]; simp
  have s2 : w2.heap.size = w.heap.size + 2 := by rw [hw2]; simp; omega
  have s3 : w3.heap.size = w.heap.size + 3 := by rw [hw3]; simp; omega
  have s4 : w4.heap.size = w.heap.size + 4 := by rw [hw4]; simp; omega
  have c12 : Chg w1 w4 (fun _ => False) := by rw [hw4, hw3, hw2]; exact (((Chg.refl w1 _).alloc _).alloc _).alloc _
  have c2 : Chg w2 w4 (fun _ => False) := by rw [hw4, hw3]; exact ((Chg.refl w2 _).alloc _).alloc _
  have c3 : Chg w3 w4 (fun _ => False) := by rw [hw4]; exact (Chg.refl w3 _).alloc _
  have c0 : Chg w w4 (fun _ => False) := Chg.trans (by rw [hw1]; exact (Chg.refl w _).alloc _) c12 (fun _ _ h => h)
  have b0 : w4.heap[w.heap.size]? = some (.cells #[.pointer (some ⟨B, 0, none⟩)] 36 (0, 0)) := c12.heap (by rw [hw1]; exact heap_alloc_new w _) (fun h => h)
  have b1 : w4.heap[w.heap.size + 1]? = some (.cells #[.int .u8 b] 5 (0, 0)) := c2.heap (by rw [hw2, ← s1]; exact heap_alloc_new w1 _) (fun h => h)
  have b2 : w4.heap[w.heap.size + 2]? = some (.cells #[.int .u32 at_] 22 (0, 0)) := c3.heap (by rw [hw3, ← s2]; exact heap_alloc_new w2 _) (fun h => h)
  have b3 : w4.heap[w.heap.size + 3]? = some (.cells #[.int .i64 n] 3 (0, 0)) := by rw [hw4, ← s3]; exact heap_alloc_new w3 _
  rw [← hw1, ← hw2, ← hw3, ← hw4]
  clear hw1 hw2 hw3 hw4 c12 c2 c3 s1 s2 s3
  have hseq := pieces_seq w4 2 (w.heap.size + 2) (w.heap.size + 3) at_ n (by simpa using (cells_at b2 0).1) (by simpa using (cells_at b3 0).1) (by omega)
  have K : Hid (Chg w w4 (fun _ => False) ∧ w4.heap[w.heap.size]? = some (.cells #[.pointer (some ⟨B, 0, none⟩)] 36 (0, 0)) ∧ w4.heap[w.heap.size + 1]? = some (.cells #[.int .u8 b] 5 (0, 0))) := ⟨c0, b0, b1⟩
  clear c0 b0 b1 b2 b3
  refine range_own (gf := 96) rfl (enters_of Tryz.func96 (by kernel_rfl) rfl) hseq (fun _ _ => rfl)
    (fun _ k W => MA w f w4.heap.size W B M pages (fillN m at_ (pe at_ n k) b) ∧ W.heap[w.heap.size]? = some (.cells #[.pointer (some ⟨B, 0, none⟩)] 36 (0, 0)) ∧ W.heap[w.heap.size + 1]? = some (.cells #[.int .u8 b] 5 (0, 0)))
    (fun _ _ => False) ?_ (fun _ _ _ h _ => h) (fun _ _ _ _ _ _ => trivial) (fun _ _ _ _ _ _ => trivial) ?_
    (fun _ k a' W => ∃ Bx, w4.heap.size + 2 ≤ Bx ∧ W.heap[Bx]? = some (.cells #[.int .i64 (pFr at_ k : Nat), .int .i64 (pTo at_ n k : Nat)] 124 (0, 0)) ∧
      a' = { tmps := #[Value.pointer (some { block := B, off := 0 }), Value.int IntKind.u32 ↑at_, Value.int IntKind.i64 ↑n,
          Value.int IntKind.u8 ↑b, Value.pointer (some { block := w.heap.size, off := 0 }), undef, undef,
          Value.pointer (some { block := w.heap.size + 1, off := 0 }), Value.int IntKind.i64 0, Value.int IntKind.i64 0,
          .int .u32 (at_ / 4096 + k : Nat), .pointer (some ⟨Bx, 0, none⟩), undef, undef, Value.pointer (some { block := B, off := 0 }), Value.int IntKind.u32 ↑at_,
          Value.int IntKind.i64 ↑n, Value.int IntKind.i64 0, Value.int IntKind.i64 0, Value.bool false, undef,
          Value.int IntKind.u32 ↑at_, Value.int IntKind.i64 ↑n,
          Value.func (Fn.func 96) #[]
            #[Value.pointer (some { block := w.heap.size + 1 + 1, off := 0 }),
              Value.pointer (some { block := w.heap.size + 1 + 1 + 1, off := 0 })],
          .int .u32 (at_ / 4096 + k : Nat), .agg #[.int .i64 (pFr at_ k : Nat), .int .i64 (pTo at_ n k : Nat)], undef, undef, undef, undef, undef, undef, undef, undef, undef, undef, undef, undef, undef,
          undef, undef, undef], defers := [] }) ?_ ?assign ?body ?done (fun _ _ h => h.elim)
  · rintro _ k A C ⟨h1, h2, h3⟩ hC
    exact ⟨h1.two hC, hC.heap h2 (by rintro (e | e) <;> omega), hC.heap h3 (by rintro (e | e) <;> omega)⟩
  · intro _ W W1 hW hs hG
    obtain ⟨q1, q2, q3⟩ := K.out
    have hq := hW.trans hG (fun _ _ h => h)
    refine ⟨⟨?_, hq.heap q2 (fun h => h), hq.heap q3 (fun h => h)⟩, hG⟩
    rw [pe_zero, fillN_zero]
    exact MA.start H.out (q1.trans hq (fun _ _ h => h)) _ (by omega)
  · rintro _ k a' A C ⟨Bx, hBx, h1, h2⟩ hC
    exact ⟨Bx, hBx, hC.heap h1 (by rintro (e | e) <;> omega), h2⟩
  case assign =>
    rintro _ k W K hk hI hs hK
    unfold pArgs
    gi_wp2
    refine hK _ _ ((Chg.refl _ _).alloc _) ⟨W.heap.size, hs, heap_alloc_new W _, rfl⟩
  case body =>
    rintro _ k a' W hk ⟨⟨f1, hM⟩, hb0, hb1⟩ ⟨Bx, hBx, hbx, rfl⟩ hs
    obtain ⟨p1, p2, p3⟩ := p_at at_ k
    obtain ⟨t1, t2⟩ := p_lt at_ n k hk
    obtain ⟨e1, e2, e3⟩ := pe_step at_ n k hk
    have hx := (pN_iff at_ n k).1 hk
    have hnum : at_ / 4096 + k < pages := by omega
    have hP := hM.page (at_ / 4096 + k) hnum hs
    obtain ⟨num, hnn⟩ : ∃ num, num = at_ / 4096 + k := ⟨_, rfl⟩
    obtain ⟨fr, hfr⟩ : ∃ fr, fr = pFr at_ k := ⟨_, rfl⟩
    obtain ⟨to, hto⟩ : ∃ to, to = pTo at_ n k := ⟨_, rfl⟩
    obtain ⟨q, hq⟩ : ∃ q, q = pe at_ n k := ⟨_, rfl⟩
    rw [← hnn] at hP p1 ⊢
    rw [← hfr] at p1 t1 e1 hbx ⊢
    rw [← hto] at t1 t2 e1 hbx ⊢
    rw [← hq] at e1 e2 e3 hP hM
    have KK : Hid (4096 * num + fr = nx at_ k ∧ pe at_ n (k + 1) = q + (to - fr) ∧ at_ + q = nx at_ k) := ⟨p1, e1, e2⟩
    have c0 := (cells_at hb0 0).1
    have hlt := hM.isM.lt
    have hMb : M ≠ w.heap.size ∧ M ≠ w.heap.size + 1 ∧ M ≠ Bx := by
      obtain ⟨es, c, hh⟩ := hM.isM.map.heap
      have ne : ∀ x c e fz, W.heap[x]? = some (.cells c e fz) → M ≠ x := by
        rintro x c e fz hx rfl
        rw [hh] at hx; cases hx
      exact ⟨ne _ _ _ _ hb0, ne _ _ _ _ hb1, ne _ _ _ _ hbx⟩
    simp only [List.getElem?_toArray, List.getElem?_cons_zero] at c0
    have KW : Hid (MAf w f w4.heap.size W B M pages f1 (fillN m at_ q b) ∧ W.heap[w.heap.size]? = some (.cells #[.pointer (some ⟨B, 0, none⟩)] 36 (0, 0)) ∧ W.heap[w.heap.size + 1]? = some (.cells #[.int .u8 b] 5 (0, 0)) ∧ W.heap[Bx]? = some (.cells #[.int .i64 (fr : Nat), .int .i64 (to : Nat)] 124 (0, 0)) ∧ M ≠ w.heap.size ∧ M ≠ w.heap.size + 1 ∧ M ≠ Bx) := ⟨hM, hb0, hb1, hbx, hMb⟩
    clear p1 p2 p3 e1 e2 hnn hfr hto hq hM hb0 hb1 hbx hMb hlt hnum
    gi_wp2_with fail
    refine ⟨trivial, ?_⟩
    gi_at_call 39
    refine (CallsIn.inRound _ (callsIn_wide.2 hP)).mono ?_
    rintro e wa ⟨bp, f2, rfl, hb2, hM2, hC2⟩
    have bx := (hC2.heap KW.out.2.2.2.1 KW.out.2.2.2.2.2.2.symm)
    have bb := (hC2.heap KW.out.2.2.1 KW.out.2.2.2.2.2.1.symm)
    have bm := (hC2.heap KW.out.2.1 KW.out.2.2.2.2.1.symm)
    have KA : Hid (MAf w f w4.heap.size wa B M pages f2 (fillN m at_ q b) ∧ f2 num = some bp ∧ (∀ i, Two w4.heap.size i → wa.heap[i]? = W.heap[i]?)) := by
      refine ⟨hM2, hb2, fun i hi => ?_⟩
      have hMT := KW.out.1.two M (.inr (.inl rfl))
      have hil : i < W.heap.size := by rcases hi with e | e <;> omega
      exact hC2.block i hil (fun e => hMT (e ▸ hi))
    have cx0 := (cells_at bx 0).1
    simp only [List.getElem?_toArray, List.getElem?_cons_zero] at cx0
    have KB : Hid (wa.heap[w.heap.size]? = some (.cells #[.pointer (some ⟨B, 0, none⟩)] 36 (0, 0)) ∧ wa.heap[w.heap.size + 1]? = some (.cells #[.int .u8 b] 5 (0, 0)) ∧ wa.heap[Bx]? = some (.cells #[.int .i64 (fr : Nat), .int .i64 (to : Nat)] 124 (0, 0))) := ⟨bm, bb, bx⟩
    clear hP hM2 hC2 hb2 bx bb bm
    gi_wp2
    gi_loopw [13] (fun v wr => ∃ i : Nat, fr ≤ i ∧ i ≤ to ∧ v = .int .i64 i ∧ MAf w f w4.heap.size wr B M pages f2 (fillN m at_ (q + (i - fr)) b) ∧ Chg wa wr (fun x => x = bp)) (fun v _ => to - (intOf v).toNat)
    case atStart => exact ⟨fr, by omega, by omega, rfl, by rw [Nat.sub_self]; exact KA.out.1, Chg.refl _ _⟩
    case round =>
      obtain ⟨i, hi1, hi2, rfl, hMi, hCi⟩ := hrel
      have ap := hMi.isM.apart.2 num bp KA.out.2.1
      have hpg := (hMi.isM.page num bp KA.out.2.1).2
      have ne : ∀ x c e fz, e ≠ 202 → wa.heap[x]? = some (.cells c e fz) → x ≠ bp := by
        rintro x c e fz h99 hx rfl
        have h5 := (KA.out.1.isM.page num x KA.out.2.1).2
        rw [h5] at hx; simp at hx; exact h99 hx.2.1.symm
      have bx := hCi.heap KB.out.2.2 (ne _ _ _ _ (by decide) KB.out.2.2)
      have bb := hCi.heap KB.out.2.1 (ne _ _ _ _ (by decide) KB.out.2.1)
      have bm := hCi.heap KB.out.1 (ne _ _ _ _ (by decide) KB.out.1)
      have cx1 := (cells_at bx 1).1
      have cb := (cells_at bb 0).1
      simp only [List.getElem?_toArray, List.getElem?_cons_zero, List.getElem?_cons_succ] at cx1 cb
      have KI : Hid (MAf w f w4.heap.size wr B M pages f2 (fillN m at_ (q + (i - fr)) b) ∧ Chg wa wr (fun x => x = bp) ∧ wr.heap[w.heap.size]? = some (.cells #[.pointer (some ⟨B, 0, none⟩)] 36 (0, 0)) ∧ wr.heap[w.heap.size + 1]? = some (.cells #[.int .u8 b] 5 (0, 0))) := ⟨hMi, hCi, bm, bb⟩
      by_cases hlt : i < to
      · have hcell := (cells_at hpg i).1
        rw [pageOf_get _ _ _ (by omega)] at hcell
        have hfz := (cells_at hpg i).2
        obtain ⟨old, hold⟩ : ∃ old, old = Value.int .u8 ((fillN m at_ (q + (i - fr)) b (4096 * num + i) : Nat) : Int) := ⟨_, rfl⟩
        rw [← hold] at hcell
        clear hold hpg hMi hCi bx bb bm ap ne
        gi_wp2
        have KR : Hid (∃ i' : Nat, fr ≤ i' ∧ i' ≤ to ∧ Value.int .i64 ((i : Int) + 1) = .int .i64 i' ∧ MAf w f w4.heap.size (wr.setCell ⟨bp, i, none⟩ (.int .u8 b)).drew B M pages f2 (fillN m at_ (q + (i' - fr)) b) ∧ Chg wa (wr.setCell ⟨bp, i, none⟩ (.int .u8 b)).drew (fun x => x = bp)) := by
          obtain ⟨q1, q2, q3, q4⟩ := KI.out
          have h5 := q1.set KA.out.2.1 i b (by omega) hb
          obtain ⟨z1, z2, z3⟩ := KK.out
          have ea : 4096 * num + i = at_ + (q + (i - fr)) := by omega
          rw [ea, fillN_step, show q + (i - fr) + 1 = q + (i + 1 - fr) by omega] at h5
          exact ⟨i + 1, by omega, by omega, by go_num, h5.other ((Chg.refl _ (fun _ => False)).drew) (fun _ _ h => h) (fun _ _ h => h), (Chg.setCell (S := fun x => x = bp) q2 (.inl rfl) _).drew⟩
        gi_region
        all_goals gi_wp2
        all_goals go_roundw
        all_goals first | exact KR.out | (simp [intOf]; omega)
      · clear hpg hMi hCi bx bb bm ap ne
        gi_wp2
        obtain ⟨q1, q2, q3, q4⟩ := KI.out
        have hit : i = to := by omega
        subst hit
        obtain ⟨z1, z2, z3⟩ := KK.out
        rw [← z2] at q1
        refine ⟨fun j hj => ?_, ⟨⟨f2, q1⟩, q3, q4⟩, trivial⟩
        have hbT := KA.out.1.two bp (.inr (.inr ⟨num, KA.out.2.1⟩))
        have hjs : j < wa.heap.size := by
          have := KA.out.2.2 j hj
          have hil : j < W.heap.size := by rcases hj with e | e <;> omega
          have h6 : W.heap[j]? = some W.heap[j] := Array.getElem?_eq_getElem hil
          rw [h6] at this
          exact (Array.getElem?_eq_some_iff.1 this).1
        exact (q2.block j hjs (fun e => hbT (e ▸ hj))).trans (KA.out.2.2 j hj)
  case done =>
    rintro _ W ⟨⟨f1, hM⟩, hb0, hb1⟩ hD
    rw [pe_all] at hM
    gi_wp2
    refine ⟨by simp, .inl ⟨_, _, rfl, run_takeDeferred hD, ?_⟩⟩
    refine ⟨_, results_tmp rfl _ _ _, ?_⟩
    have hc : Chg W (W.putObj w4.heap.size (.deferred none)) (Two w4.heap.size) := Chg.putObj (Chg.refl _ _) (.inl (.inl rfl)) _
    have hM2 := hM.other hc hM.two (fun k hk e => by have := hM.base; rcases e with e | e <;> omega)
    exact ⟨f1, rfl, hM2.isM, hM2.chg, hM2.new⟩
end Go.Proofs.YtfolnmmlhknmiaaGreatDoor
