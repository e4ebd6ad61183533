import Derived.Test.YtggjfbfilidgoaaRr
namespace Go.Proofs.Ytggjfbfilidgoaa
open Go.ChangeShapes Go.WideShapes Go.ChangeAt Go.RowKit Go.Shelf
set_option linter.unusedVariables false
attribute [local go_sem] Oper.semAt_some

/-- Four boxes. -/
theorem four (w w4 : World) (c0 c1 c2 c3 : Value) (t0 t1 t2 t3 : TypeId) (h : w4 = (((w.alloc (.cells #[c0] t0)).alloc (.cells #[c1] t1)).alloc (.cells #[c2] t2)).alloc (.cells #[c3] t3)) :
    w4.heap.size = w.heap.size + 4 ∧ Chg w w4 (fun _ => False) ∧ w4.heap[w.heap.size]? = some (.cells #[c0] t0 (0, 0)) ∧ w4.heap[w.heap.size + 1]? = some (.cells #[c1] t1 (0, 0)) ∧
      w4.heap[w.heap.size + 2]? = some (.cells #[c2] t2 (0, 0)) ∧ w4.heap[w.heap.size + 3]? = some (.cells #[c3] t3 (0, 0)) := by
  subst h
  have nw : ∀ (x : World) (o : Obj) (k : Nat), k = x.heap.size → (x.alloc o).heap[k]? = some o := fun x o k e => by rw [e]; exact heap_alloc_new x o
  refine ⟨by simp, (((((Chg.refl w _).alloc _).alloc _).alloc _).alloc _), ?_, ?_, ?_, nw _ _ _ (by simp)⟩
  · rw [Below.heap_alloc _ _ _ (by simp; omega), Below.heap_alloc _ _ _ (by simp; omega), Below.heap_alloc _ _ _ (by simp)]
    exact nw _ _ _ rfl
  · rw [Below.heap_alloc _ _ _ (by simp), Below.heap_alloc _ _ _ (by simp)]
    exact nw _ _ _ (by simp)
  · rw [Below.heap_alloc _ _ _ (by simp)]
    exact nw _ _ _ (by simp)

set_option maxHeartbeats 2000000 in
set_option maxRecDepth 200000 in
theorem lay_ok (w : World) (B M pages : Nat) (f : Nat → Option Nat) (m : Nat → Nat) (h : IsM w B M pages f m) (at_ n cap g off : Nat) (a : Option Addr) (bs : List Nat) (hin : at_ + n ≤ 4096 * pages) (hl : bs.length = n) (hbyte : ∀ x ∈ bs, x < 256) (hcap : n ≤ cap)
    (hsrc : 0 < n → a = some ⟨g, off, none⟩ ∧ (∀ i, i < n → w.cell? ⟨g, off + i, none⟩ = some (.int .u8 (bs.getD i 0 : Nat))) ∧ ¬ Mf B M f g ∧ g < w.heap.size) :
    Calls Try.prog 35 #[.pointer (some ⟨B, 0, none⟩), .int .u32 at_, .slice a n cap] w fun e w' => ∃ f', e = .returned (.tuple #[]) ∧ IsM w' B M pages f' (layN m at_ bs) ∧ Chg w w' (Mf B M f) ∧ ∀ j x, f' j = some x → f j = some x ∨ w.heap.size ≤ x := by
  have hle := h.le
  have H : Hid (IsM w B M pages f m ∧ (∀ x ∈ bs, x < 256) ∧ (0 < n → a = some ⟨g, off, none⟩ ∧ (∀ i, i < n → w.cell? ⟨g, off + i, none⟩ = some (.int .u8 (bs.getD i 0 : Nat))) ∧ ¬ Mf B M f g ∧ g < w.heap.size)) := ⟨h, hbyte, hsrc⟩
  clear h hbyte hsrc
  refine (callsIn_wide (n := 3)).1 ?_
  refine callsIn_of_wp_marks Try.func35 rfl trivial ?_ rfl
  simp only [Try.ntmps35, List.size_toArray, List.length_cons, List.length_nil, Nat.reduceAdd, Nat.reduceSub, Array.replicate_succ, Array.replicate_zero, List.push_toArray, List.append_toArray, List.nil_append, List.cons_append]
  gi_wp2_with (refine ⟨trivial, ?_⟩; gi_at_call 37; refine (callsIn_wide.2 (pieces_any _ _ _)).mono ?_; rintro e w' ⟨rfl, rfl⟩)
  obtain ⟨w4, hw4⟩ : ∃ w4, w4 = (((w.alloc (.cells #[.pointer (some ⟨B, 0, none⟩)] 24)).alloc (.cells #[.slice a n cap] 38)).alloc (.cells #[.int .u32 at_] 22)).alloc (.cells #[.int .i64 n] 3) := ⟨_, rfl⟩
  obtain ⟨s4, c0, b0, b1, b2, b3⟩ := four w w4 _ _ _ _ _ _ _ _ hw4
  rw [← hw4]
  clear hw4
  have hseq := pieces_seq w4 2 (w.heap.size + 2) (w.heap.size + 3) at_ n (by simpa using (cells_at b2 0).1) (by simpa using (cells_at b3 0).1) (by omega)
  have K : Hid (Chg w w4 (fun _ => False) ∧ w4.heap[w.heap.size]? = some (.cells #[.pointer (some ⟨B, 0, none⟩)] 24 (0, 0)) ∧ w4.heap[w.heap.size + 1]? = some (.cells #[.slice a n cap] 38 (0, 0))) := ⟨c0, b0, b1⟩
  clear c0 b0 b1 b2 b3
  refine range_own (gf := 53) rfl (enters_of Try.func53 (by kernel_rfl) rfl) hseq (fun _ _ => rfl)
    (fun _ k W => MA w f w4.heap.size W B M pages (layN m at_ (bs.take (pe at_ n k))) ∧ W.heap[w.heap.size]? = some (.cells #[.pointer (some ⟨B, 0, none⟩)] 24 (0, 0)) ∧
      (∃ v, W.heap[w.heap.size + 1]? = some (.cells #[v] 38 (0, 0)) ∧ (k < pN at_ n → v = .slice (some ⟨g, off + pe at_ n k, none⟩) (n - pe at_ n k) (cap - pe at_ n k))) ∧ (0 < n → W.heap[g]? = w.heap[g]?))
    (fun _ _ => False) ?_ (fun _ _ _ h _ => h) (fun _ _ _ _ _ _ => trivial) (fun _ _ _ _ _ _ => trivial) ?_
    (fun _ k a' W => ∃ Bx, w4.heap.size + 2 ≤ Bx ∧ W.heap[Bx]? = some (.cells #[.int .i64 (pFr at_ k : Nat), .int .i64 (pTo at_ n k : Nat)] 91 (0, 0)) ∧
      a' = { tmps := #[Value.pointer (some { block := B, off := 0 }), Value.int IntKind.u32 ↑at_, Value.slice a n cap,
          Value.pointer (some { block := w.heap.size, off := 0 }), undef,
          Value.pointer (some { block := w.heap.size + 1, off := 0 }), .int .u32 (at_ / 4096 + k : Nat), .pointer (some ⟨Bx, 0, none⟩), undef, Value.int IntKind.u32 ↑at_,
          Value.slice a n cap, Value.int IntKind.i64 ↑n,
          Value.func (Fn.func 53) #[]
            #[Value.pointer (some { block := w.heap.size + 1 + 1, off := 0 }),
              Value.pointer (some { block := w.heap.size + 1 + 1 + 1, off := 0 })],
          .int .u32 (at_ / 4096 + k : Nat), .agg #[.int .i64 (pFr at_ k : Nat), .int .i64 (pTo at_ n k : Nat)], undef, undef, undef, undef, undef, undef, undef, undef, undef, undef, undef, undef, undef,
          undef], defers := [] }) ?_ ?assign ?body ?done (fun _ _ h => h.elim)
  · rintro _ k A C ⟨h1, h2, ⟨v, h3, h4⟩, h5⟩ hC
    refine ⟨h1.two hC, hC.heap h2 (by rintro (e | e) <;> omega), ⟨v, hC.heap h3 (by rintro (e | e) <;> omega), h4⟩, fun h0 => ?_⟩
    have hg := (H.out.2.2 h0).2.2.2
    have hgA : g < A.heap.size := by
      have := h5 h0
      rw [Array.getElem?_eq_getElem hg] at this
      exact (Array.getElem?_eq_some_iff.1 this).1
    rw [hC.block g hgA (by rintro (e | e) <;> omega)]; exact h5 h0
  · intro _ W W1 hW hs hG
    obtain ⟨q1, q2, q3⟩ := K.out
    have hq := hW.trans hG (fun _ _ h => h)
    have hq0 := q1.trans hq (fun _ _ h => h)
    refine ⟨⟨?_, hq.heap q2 (fun h => h), ⟨_, hq.heap q3 (fun h => h), fun hk => ?_⟩, fun h0 => hq0.block g (H.out.2.2 h0).2.2.2 (fun h => h)⟩, hG⟩
    · rw [pe_zero, List.take_zero, layN_nil]
      exact MA.start H.out.1 hq0 _ (by omega)
    · have h0 : 0 < n := by have := (pN_iff at_ n 0).1 hk; simp [nx] at this; omega
      rw [(H.out.2.2 h0).1, pe_zero]; simp
  · rintro _ k a' A C ⟨Bx, hBx, h1, h2⟩ hC
    exact ⟨Bx, hBx, hC.heap h1 (by rintro (e | e) <;> omega), h2⟩
  case assign =>
    rintro _ k W K hk hI hs hK
    unfold pArgs
    gi_wp2
    refine hK _ _ ((Chg.refl _ _).alloc _) ⟨W.heap.size, hs, heap_alloc_new W _, rfl⟩
  case body =>
    rintro _ k a' W hk ⟨⟨f1, hM⟩, hb0, ⟨v, hb1, hv⟩, hgg⟩ ⟨Bx, hBx, hbx, rfl⟩ hs
    have hv' := hv hk
    subst hv'
    obtain ⟨p1, p2, p3⟩ := p_at at_ k
    obtain ⟨t1, t2⟩ := p_lt at_ n k hk
    obtain ⟨e1, e2, e3⟩ := pe_step at_ n k hk
    have hx := (pN_iff at_ n k).1 hk
    have h0 : 0 < n := by omega
    have hnum : at_ / 4096 + k < pages := by omega
    have hP := hM.page (at_ / 4096 + k) hnum hs
    have hdn : pe at_ n k + (pTo at_ n k - pFr at_ k) ≤ n := by
      have := nx_step at_ n k hk
      omega
    obtain ⟨num, hnn⟩ : ∃ num, num = at_ / 4096 + k := ⟨_, rfl⟩
    obtain ⟨fr, hfr⟩ : ∃ fr, fr = pFr at_ k := ⟨_, rfl⟩
    obtain ⟨to, hto⟩ : ∃ to, to = pTo at_ n k := ⟨_, rfl⟩
    obtain ⟨q, hq⟩ : ∃ q, q = pe at_ n k := ⟨_, rfl⟩
    rw [← hnn] at hP p1 ⊢
    rw [← hfr] at p1 t1 e1 hbx hdn ⊢
    rw [← hto] at t1 t2 e1 hbx hdn ⊢
    rw [← hq] at e1 e2 e3 hP hM hb1 hdn
    have KK : Hid (4096 * num + fr = nx at_ k ∧ pe at_ n (k + 1) = q + (to - fr) ∧ at_ + q = nx at_ k) := ⟨p1, e1, e2⟩
    have hMb : M ≠ w.heap.size ∧ M ≠ w.heap.size + 1 ∧ M ≠ Bx := by
      obtain ⟨es, c, hh⟩ := hM.isM.map.heap
      have ne : ∀ x c e fz, W.heap[x]? = some (.cells c e fz) → M ≠ x := by
        rintro x c e fz hx rfl
        rw [hh] at hx; cases hx
      exact ⟨ne _ _ _ _ hb0, ne _ _ _ _ hb1, ne _ _ _ _ hbx⟩
    have c0 := (cells_at hb0 0).1
    have c1 := (cells_at hb1 0).1
    have x0 := (cells_at hbx 0).1
    have x1 := (cells_at hbx 1).1
    simp only [List.getElem?_toArray, List.getElem?_cons_zero, List.getElem?_cons_succ] at c0 c1 x0 x1
    have KW : Hid (MAf w f w4.heap.size W B M pages f1 (layN m at_ (bs.take q)) ∧ W.heap[w.heap.size]? = some (.cells #[.pointer (some ⟨B, 0, none⟩)] 24 (0, 0)) ∧ W.heap[w.heap.size + 1]? = some (.cells #[.slice (some ⟨g, off + q, none⟩) (n - q) (cap - q)] 38 (0, 0)) ∧ W.heap[Bx]? = some (.cells #[.int .i64 (fr : Nat), .int .i64 (to : Nat)] 91 (0, 0)) ∧ (M ≠ w.heap.size ∧ M ≠ w.heap.size + 1 ∧ M ≠ Bx) ∧ W.heap[g]? = w.heap[g]?) := ⟨hM, hb0, hb1, hbx, hMb, hgg h0⟩
    have hMd := hM.other ((Chg.refl W (fun _ => False)).drew) (fun _ _ h => h) (fun _ _ h => h)
    have hP2 : Calls Try.prog 33 #[.pointer (some ⟨B, 0, none⟩), .int .u32 num] W.drew fun e wa => ∃ bp f2, e = .returned (.pointer (some ⟨bp, 0, none⟩)) ∧
        wa.cell? ⟨w.heap.size + 1, 0, none⟩ = some (.slice (some ⟨g, off + q, none⟩) (n - q) (cap - q)) ∧ wa.cell? ⟨Bx, 0, none⟩ = some (.int .i64 (fr : Nat)) ∧ wa.cell? ⟨Bx, 1, none⟩ = some (.int .i64 (to : Nat)) ∧
        (∀ ty, (Builtin.copy_ #[38, 38] ty #[.slice (some ⟨bp, fr, none⟩) (to - fr) (4096 - fr), .slice (some ⟨g, off + q, none⟩) (n - q) (cap - q)]).run Try.prog wa = .ok (.int .i64 (to - fr : Nat)) (wa.setRow bp (pageOf (layN (layN m at_ (bs.take q)) (4096 * num + fr) ((bs.drop q).take (to - fr))) num))) ∧
        (∀ cs, (wa.setRow bp cs).cell? ⟨w.heap.size, 0, none⟩ = some (.pointer (some ⟨B, 0, none⟩)) ∧ (wa.setRow bp cs).cell? ⟨Bx, 0, none⟩ = some (.int .i64 (fr : Nat)) ∧ (wa.setRow bp cs).cell? ⟨Bx, 1, none⟩ = some (.int .i64 (to : Nat)) ∧ (wa.setRow bp cs).cell? ⟨w.heap.size + 1, 0, none⟩ = some (.slice (some ⟨g, off + q, none⟩) (n - q) (cap - q)) ∧ (wa.setRow bp cs).frozen? ⟨w.heap.size + 1, 0, none⟩ = false) ∧ wa.cell? ⟨w.heap.size, 0, none⟩ = some (.pointer (some ⟨B, 0, none⟩)) ∧
        Hid (MAf w f w4.heap.size (wa.setRow bp (pageOf (layN (layN m at_ (bs.take q)) (4096 * num + fr) ((bs.drop q).take (to - fr))) num)) B M pages f2 (layN m at_ (bs.take (q + (to - fr)))) ∧ Chg W wa (fun i => i = M) ∧ f2 num = some bp ∧ bp ≠ g ∧ (∀ x c e fz, e ≠ 99 → wa.heap[x]? = some (.cells c e fz) → x ≠ bp) ∧ wa.heap[g]? = w.heap[g]? ∧ wa.heap[w.heap.size]? = some (.cells #[.pointer (some ⟨B, 0, none⟩)] 24 (0, 0)) ∧ wa.heap[w.heap.size + 1]? = some (.cells #[.slice (some ⟨g, off + q, none⟩) (n - q) (cap - q)] 38 (0, 0))) := by
      refine (hMd.page num (by omega) hs).mono ?_
      rintro e wa ⟨bp, f2, rfl, hb2, hM2, hC2⟩
      have hC : Chg W wa (fun i => i = M) := ((Chg.refl W (fun i => i = M)).drew).trans hC2 (fun _ _ h => h)
      have bx := (hC.heap hbx hMb.2.2.symm)
      have bb := (hC.heap hb1 hMb.2.1.symm)
      obtain ⟨r1, r2, r3, r4⟩ := H.out.2.2 h0
      have hgM : g ≠ M := fun e => r3 (e ▸ .inr (.inl rfl))
      have hgW : g < W.heap.size := by
        have := hgg h0
        rw [Array.getElem?_eq_getElem r4] at this
        exact (Array.getElem?_eq_some_iff.1 this).1
      have hga : wa.heap[g]? = w.heap[g]? := (hC.block g hgW hgM).trans (hgg h0)
      have hbg : bp ≠ g := by
        rintro rfl
        rcases hM2.new num _ hb2 with h1 | h1
        · exact r3 (.inr (.inr ⟨num, h1⟩))
        · omega
      have hlen : ((bs.drop q).take (to - fr)).length = to - fr := by simp; omega
      have hby : ∀ x ∈ (bs.drop q).take (to - fr), x < 256 := fun x hx => H.out.2.1 x (List.mem_of_mem_drop (List.mem_of_mem_take hx))
      have hpg := (hM2.isM.page num bp hb2).2
      have cx0 := (cells_at bx 0).1
      have cx1 := (cells_at bx 1).1
      have cb := (cells_at bb 0).1
      simp only [List.getElem?_toArray, List.getElem?_cons_zero, List.getElem?_cons_succ] at cx0 cx1 cb
      have hpl := pageOf_lay (layN m at_ (bs.take q)) num fr ((bs.drop q).take (to - fr)) (by omega)
      have bm := (hC.heap hb0 hMb.1.symm)
      have cm := (cells_at bm 0).1
      simp only [List.getElem?_toArray, List.getElem?_cons_zero] at cm
      have ne : ∀ x c e fz, e ≠ 99 → wa.heap[x]? = some (.cells c e fz) → x ≠ bp := by
        rintro x c e fz h99 hx rfl
        rw [hpg] at hx; simp at hx; exact h99 hx.2.1.symm
      refine ⟨bp, f2, rfl, cb, cx0, cx1, fun ty => ?_, fun cs => ?_, cm, ?_, hC, hb2, hbg, ne, hga, bm, bb⟩
      · have := run_copy_row (P := Try.prog) wa 38 38 ty 5 bp fr (to - fr) (4096 - fr) ⟨g, off + q, none⟩ (n - q) (cap - q) (pageOf (layN m at_ (bs.take q)) num) 99 (bv ((bs.drop q).take (to - fr))) Try.underlying38 one5 hpg (by rw [bv_len, hlen]; simp [Nat.min_def]; omega) ?_ (by rw [bv_len, hlen, pageOf_size]; omega) (bv_one _)
        · rw [hpl, bv_len, hlen] at this
          exact this
        · intro j u hu
          have hj : j < ((bs.drop q).take (to - fr)).length := by
            have := (List.getElem?_eq_some_iff.1 hu).1
            rwa [bv_len] at this
          rw [bv_get _ _ hj] at hu
          cases hu
          rw [Addr.add_lit]
          have e : wa.cell? ⟨g, off + q + j, none⟩ = w.cell? ⟨g, off + q + j, none⟩ := World.cell?_of_block hga
          rw [e, Nat.add_assoc, r2 (q + j) (by omega)]
          congr 3
          rw [List.getD_eq_getElem?_getD, List.getD_eq_getElem?_getD, List.getElem?_take_of_lt (by omega), List.getElem?_drop]
      · have k0 : (wa.setRow bp cs).heap[w.heap.size]? = wa.heap[w.heap.size]? := setRow_other wa bp _ cs (ne _ _ _ _ (by decide) bm)
        have k1 : (wa.setRow bp cs).heap[w.heap.size + 1]? = wa.heap[w.heap.size + 1]? := setRow_other wa bp _ cs (ne _ _ _ _ (by decide) bb)
        have k2 : (wa.setRow bp cs).heap[Bx]? = wa.heap[Bx]? := setRow_other wa bp _ cs (ne _ _ _ _ (by decide) bx)
        exact ⟨(World.cell?_of_block k0).trans cm, (World.cell?_of_block k2).trans cx0, (World.cell?_of_block k2).trans cx1, (World.cell?_of_block k1).trans cb, (World.frozen?_of_block k1).trans (cells_at bb 0).2⟩
      · have h5 := hM2.lay hb2 fr ((bs.drop q).take (to - fr)) (by omega) hby
        rw [hpl] at h5
        have ea : 4096 * num + fr = at_ + (bs.take q).length := by simp; omega
        have eb : layN (layN m at_ (bs.take q)) (4096 * num + fr) ((bs.drop q).take (to - fr)) = layN m at_ (bs.take (q + (to - fr))) := by
          rw [ea, layN_app, List.take_add]
        have h6 : MAf w f w4.heap.size (wa.setRow bp (pageOf (layN (layN m at_ (bs.take q)) (4096 * num + fr) ((bs.drop q).take (to - fr))) num)) B M pages f2 (layN (layN m at_ (bs.take q)) (4096 * num + fr) ((bs.drop q).take (to - fr))) := h5
        rw [eb] at h6 ⊢
        exact h6
    clear p1 p2 p3 e1 e2 hnn hfr hto hq hM hb0 hb1 hbx hMb hnum hv hgg hP hMd
    gi_wp2_with fail
    have hmx : Try.prog.follows .mixedOrders = true := by kernel_rfl
    have hsl : ∀ bp wx, (Instr.sliceAt 99 (.pointer (some ⟨bp, 0, none⟩)) (some (.int .i64 fr)) (some (.int .i64 to)) none).run Try.prog wx = .ok (.slice (some ⟨bp, fr, none⟩) (to - fr) (4096 - fr)) wx := fun bp wx => sub99 bp fr to t1 t2 wx
    have hS : (fun w' : World => w'.cell? ⟨w.heap.size, 0, none⟩ = some (.pointer (some ⟨B, 0, none⟩)) ∧ w'.cell? ⟨Bx, 0, none⟩ = some (.int .i64 (fr : Nat)) ∧ w'.cell? ⟨Bx, 1, none⟩ = some (.int .i64 (to : Nat)) ∧ w'.cell? ⟨w.heap.size + 1, 0, none⟩ = some (.slice (some ⟨g, off + q, none⟩) (n - q) (cap - q))) W.drew := ⟨c0, x0, x1, c1⟩
    refine region_round _ _ (fun w' => w'.cell? ⟨w.heap.size, 0, none⟩ = some (.pointer (some ⟨B, 0, none⟩)) ∧ w'.cell? ⟨Bx, 0, none⟩ = some (.int .i64 (fr : Nat)) ∧ w'.cell? ⟨Bx, 1, none⟩ = some (.int .i64 (to : Nat)) ∧ w'.cell? ⟨w.heap.size + 1, 0, none⟩ = some (.slice (some ⟨g, off + q, none⟩) (n - q) (cap - q))) hmx (by rintro ⟨_, _, h⟩; exact h) (by rfl) ?_
    refine wpAnyH_take (i := 0) (oi := { dst := some 15, op := Op.load 24 (Operand.tmp 3), type := 24, pos := "place.go:71", after := #[], guard := none }) (v := .pointer (some ⟨B, 0, none⟩)) rfl (by kernel_rfl) (by kernel_rfl) (by kernel_rfl) (fun _ _ _ h => h) (Or.inl ⟨by rfl, ?_⟩) hS ?_
    · rintro wx ⟨d0, d1, d2, d3⟩
      go_simp
    simp only [Act.put, List.setIfInBounds_toArray, List.set_cons_zero, List.set_cons_succ]
    refine wpAnyH_take (i := 1) (oi := { dst := some 16, op := Op.move (Operand.tmp 6), type := 22, pos := "place.go:71", after := #[], guard := none }) (v := .int .u32 num) rfl (by kernel_rfl) (by kernel_rfl) (by kernel_rfl) (fun _ _ _ h => h) (Or.inl ⟨by rfl, ?_⟩) hS ?_
    · rintro wx ⟨d0, d1, d2, d3⟩
      go_simp
    simp only [Act.put, List.setIfInBounds_toArray, List.set_cons_zero, List.set_cons_succ]
    refine wpAnyH_take (i := 4) (oi := { dst := some 19, op := Op.fieldAddr 91 (Operand.tmp 7) 0, type := 0, pos := "place.go:71", after := #[], guard := none }) (v := .pointer (some ⟨Bx, 0, none⟩)) rfl (by kernel_rfl) (by kernel_rfl) (by kernel_rfl) (fun _ _ _ h => h) (Or.inl ⟨by rfl, ?_⟩) hS ?_
    · rintro wx ⟨d0, d1, d2, d3⟩
      go_simp
    simp only [Act.put, List.setIfInBounds_toArray, List.set_cons_zero, List.set_cons_succ]
    refine wpAnyH_take (i := 5) (oi := { dst := some 20, op := Op.load 3 (Operand.tmp 19), type := 3, pos := "place.go:71", after := #[{ on := 4, ground := Ground.data }], guard := none }) (v := .int .i64 (fr : Nat)) rfl (by kernel_rfl) (by kernel_rfl) (by kernel_rfl) (fun _ _ _ h => h) (Or.inl ⟨by rfl, ?_⟩) hS ?_
    · rintro wx ⟨d0, d1, d2, d3⟩
      go_simp
    simp only [Act.put, List.setIfInBounds_toArray, List.set_cons_zero, List.set_cons_succ]
    refine wpAnyH_take (i := 6) (oi := { dst := some 21, op := Op.fieldAddr 91 (Operand.tmp 7) 1, type := 0, pos := "place.go:71", after := #[], guard := none }) (v := .pointer (some ⟨Bx, 1, none⟩)) rfl (by kernel_rfl) (by kernel_rfl) (by kernel_rfl) (fun _ _ _ h => h) (Or.inl ⟨by rfl, ?_⟩) hS ?_
    · rintro wx ⟨d0, d1, d2, d3⟩
      go_simp
    simp only [Act.put, List.setIfInBounds_toArray, List.set_cons_zero, List.set_cons_succ]
    refine wpAnyH_take (i := 7) (oi := { dst := some 22, op := Op.load 3 (Operand.tmp 21), type := 3, pos := "place.go:71", after := #[{ on := 6, ground := Ground.data }], guard := none }) (v := .int .i64 (to : Nat)) rfl (by kernel_rfl) (by kernel_rfl) (by kernel_rfl) (fun _ _ _ h => h) (Or.inl ⟨by rfl, ?_⟩) hS ?_
    · rintro wx ⟨d0, d1, d2, d3⟩
      go_simp
    simp only [Act.put, List.setIfInBounds_toArray, List.set_cons_zero, List.set_cons_succ]
    refine wpAnyH_take (i := 9) (oi := { dst := some 24, op := Op.load 38 (Operand.tmp 5), type := 38, pos := "place.go:71", after := #[], guard := none }) (v := .slice (some ⟨g, off + q, none⟩) (n - q) (cap - q)) rfl (by kernel_rfl) (by kernel_rfl) (by kernel_rfl) (fun _ _ _ h => h) (Or.inl ⟨by rfl, ?_⟩) hS ?_
    · rintro wx ⟨d0, d1, d2, d3⟩
      go_simp
    simp only [Act.put, List.setIfInBounds_toArray, List.set_cons_zero, List.set_cons_succ]
    refine wpAnyH_ready (rs := [2]) (by kernel_rfl) (by simp) ?_
    refine AllReadyH.cons (o := { dst := some 17, op := Op.call { callee := Callee.value (Operand.func 33), args := #[Operand.tmp 15, Operand.tmp 16], argTypes := #[24, 22] }, type := 83, pos := "place.go:71", after := #[{ on := 0, ground := Ground.data }, { on := 1, ground := Ground.data }], guard := none }) rfl (fun K hK => ?_) AllReadyH.nil
    rw [if_pos (by rfl)]
    go_simp
    refine hP2.mono ?_
    rintro e wa ⟨bp, f2, rfl, cb, cx0, cx1, hcp, hbox, cm, KL⟩
    refine hK.out _ _ ⟨cm, cx0, cx1, cb⟩ (fun hS2 => ?_)
    clear hK K
    refine wpAnyH_take (i := 3) (oi := { dst := some 18, op := Op.nilCheck (Operand.tmp 17), type := 83, pos := "place.go:71", after := #[{ on := 2, ground := Ground.data }], guard := none }) (v := .pointer (some ⟨bp, 0, none⟩)) rfl (by kernel_rfl) (by kernel_rfl) (by kernel_rfl) (fun _ _ _ h => h) (Or.inl ⟨by rfl, ?_⟩) hS2 ?_
    · rintro wx ⟨d0, d1, d2, d3⟩
      go_simp
    simp only [Act.put, List.setIfInBounds_toArray, List.set_cons_zero, List.set_cons_succ]
    refine wpAnyH_take (i := 8) (oi := { dst := some 23, op := Op.slice 99 (Operand.tmp 18) (some (Operand.tmp 20)) (some (Operand.tmp 22)) none, type := 38, pos := "place.go:71", after := #[{ on := 3, ground := Ground.data }, { on := 5, ground := Ground.data }, { on := 7, ground := Ground.data }], guard := none }) (v := .slice (some ⟨bp, fr, none⟩) (to - fr) (4096 - fr)) rfl (by kernel_rfl) (by kernel_rfl) (by kernel_rfl) (fun _ _ _ h => h) (Or.inl ⟨by rfl, ?_⟩) hS2 ?_
    · rintro wx ⟨d0, d1, d2, d3⟩
      go_simp
    simp only [Act.put, List.setIfInBounds_toArray, List.set_cons_zero, List.set_cons_succ]
    refine wpAnyH_ready (rs := [10]) (by kernel_rfl) (by simp) ?_
    refine AllReadyH.cons (o := { dst := some 25, op := Op.call { callee := Callee.builtin Builtin.copy, args := #[Operand.tmp 23, Operand.tmp 24], argTypes := #[38, 38] }, type := 3, pos := "place.go:71", after := #[{ on := 8, ground := Ground.data }, { on := 9, ground := Ground.data }, { on := 2, ground := Ground.chain }], guard := none }) rfl (fun K hK => ?_) AllReadyH.nil
    rw [if_pos (by rfl)]
    go_simp
    obtain ⟨z0, z1, z2, z3, z4⟩ := hbox (pageOf (layN (layN m at_ (bs.take q)) (4096 * num + fr) ((bs.drop q).take (to - fr))) num)
    refine hK.out _ _ ⟨z0, z1, z2, z3⟩ (fun hS3 => ?_)
    clear hK K
    refine wpAnyH_take (i := 11) (oi := { dst := some 8, op := Op.assign (Operand.tmp 25), type := 3, pos := "place.go:71", after := #[{ on := 10, ground := Ground.data }, { on := 10, ground := Ground.chain }, { on := 0, ground := Ground.phase }, { on := 1, ground := Ground.phase }, { on := 2, ground := Ground.phase }, { on := 3, ground := Ground.phase }, { on := 4, ground := Ground.phase }, { on := 5, ground := Ground.phase }, { on := 6, ground := Ground.phase }, { on := 7, ground := Ground.phase }, { on := 8, ground := Ground.phase }, { on := 9, ground := Ground.phase }, { on := 10, ground := Ground.phase }], guard := none }) (v := .int .i64 (to - fr : Nat)) rfl (by kernel_rfl) (by kernel_rfl) (by kernel_rfl) (fun _ _ _ h => h) (Or.inl ⟨by rfl, ?_⟩) hS3 ?_
    · rintro wx ⟨d0, d1, d2, d3⟩
      go_simp
    simp only [Act.put, List.setIfInBounds_toArray, List.set_cons_zero, List.set_cons_succ]
    refine wpAnyH_done (by kernel_rfl) ?_ _
    clear hS hS2 hS3 hP2 hsl hcp hbox cb cx0 cx1 cm z0 z1 z2 x0 x1 c0 c1
    obtain ⟨ad, had, hsub⟩ := sub38 g (off + q) (n - q) (cap - q) (to - fr) (by omega)
    have HA : Hid (to - fr < cap - q → ad = ⟨g, off + q + (to - fr), none⟩) := had
    clear had
    gi_wp2
    obtain ⟨y1, y2, y3, y4, y5, y6, y7, y8⟩ := KL.out
    obtain ⟨u1, u2, u3, u4, u5, u6⟩ := KW.out
    obtain ⟨r1, r2, r3, r4⟩ := H.out.2.2 h0
    obtain ⟨o1, o2, o3⟩ := KK.out
    obtain ⟨wb, hwb⟩ : ∃ wb, wb = wa.setRow bp (pageOf (layN (layN m at_ (bs.take q)) (4096 * num + fr) ((bs.drop q).take (to - fr))) num) := ⟨_, rfl⟩
    rw [← hwb] at y1 ⊢
    have hcb : Chg wa wb (fun x => x = bp) := by rw [hwb]; exact Chg.setRow (S := fun x => x = bp) (Chg.refl _ _) (.inl rfl) _
    have v0 := hcb.heap y7 (y5 _ _ _ _ (by decide) y7)
    have v1 := hcb.heap y8 (y5 _ _ _ _ (by decide) y8)
    have hcc : Chg wb (wb.setCell ⟨w.heap.size + 1, 0, none⟩ (.slice (some ad) (n - q - (to - fr)) (cap - q - (to - fr)))) (fun x => x = w.heap.size + 1) := Chg.setCell (S := fun x => x = w.heap.size + 1) (Chg.refl _ _) (.inl rfl) _
    refine ⟨fun i hi => ?_, ⟨⟨f2, ?_⟩, hcc.heap v0 (by omega), ⟨.slice (some ad) (n - q - (to - fr)) (cap - q - (to - fr)), ?_, fun hk1 => ?_⟩, fun _ => ?_⟩, trivial⟩
    · have hiW : i < W.heap.size := by rcases hi with e | e <;> omega
      have hMT := u1.two M (.inr (.inl rfl))
      have hbT := y1.two bp (.inr (.inr ⟨num, y3⟩))
      have q1 : wa.heap[i]? = W.heap[i]? := y2.block i hiW (fun e => hMT (e ▸ hi))
      have q2 : wb.heap[i]? = wa.heap[i]? := by rw [hwb]; exact setRow_other wa bp i _ (fun e => hbT (e ▸ hi))
      have q3 := Below.heap_setCell wb ⟨w.heap.size + 1, 0, none⟩ (.slice (some ad) (n - q - (to - fr)) (cap - q - (to - fr))) i (by rcases hi with e | e <;> (simp; omega))
      rw [q3, q2, q1]
    · rw [o2]
      have hnb := y1.isM.notBlock v1 (by decide) (by decide)
      exact y1.other hcc (fun k hk e => hnb (e ▸ hk)) (fun k hk e => by omega)
    · rw [heap_setCell_same wb (w.heap.size + 1) 0 _ 38 _ v1]; rfl
    · have hp := (pe_step at_ n (k + 1) hk1).2.2
      rw [o2] at hp ⊢
      rw [HA.out (by omega), show off + q + (to - fr) = off + (q + (to - fr)) by omega, Nat.sub_sub, Nat.sub_sub]
    · have hgb : wb.heap[g]? = wa.heap[g]? := by rw [hwb]; exact setRow_other wa bp g _ (fun e => y4 e.symm)
      have q3 := Below.heap_setCell wb ⟨w.heap.size + 1, 0, none⟩ (.slice (some ad) (n - q - (to - fr)) (cap - q - (to - fr))) g (by simp; omega)
      rw [q3, hgb, y6]
  case done =>
    rintro _ W ⟨⟨f1, hM⟩, hb0, hb1⟩ hD
    rw [pe_all, List.take_of_length_le (by omega)] at hM
    gi_wp2
    refine ⟨by simp, .inl ⟨_, _, rfl, run_takeDeferred hD, ?_⟩⟩
    refine ⟨_, results_none rfl _ _ _, ?_⟩
    have hc : Chg W (W.putObj w4.heap.size (.deferred none)) (Two w4.heap.size) := Chg.putObj (Chg.refl _ _) (.inl (.inl rfl)) _
    have hM2 := hM.other hc hM.two (fun k hk e => by have := hM.base; rcases e with e | e <;> omega)
    exact ⟨f1, rfl, hM2.isM, hM2.chg, hM2.new⟩
end Go.Proofs.Ytggjfbfilidgoaa
