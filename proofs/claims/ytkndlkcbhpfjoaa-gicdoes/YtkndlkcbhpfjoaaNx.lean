import Derived.Test.YtkndlkcbhpfjoaaNw
namespace Go.Proofs.Ytkndlkcbhpfjoaa
open Go.ChangeShapes Go.WideShapes Go.ChangeAt Go.RowKit Go.Shelf
set_option linter.unusedVariables false
attribute [local go_sem] Oper.semAt_some
attribute [local go_sem] fn_no_nil run_store_fn
set_option maxHeartbeats 8000000 in
set_option maxRecDepth 10000 in
theorem plines_any (w : World) (q B F R P M : Nat) (s : GS) (h : IsP w q B F R P M s) (c m : Int) :
    Calls Try.prog 28 #[.pointer (some ⟨q, 0, none⟩), .int .i64 c, .int .i64 m] w fun e w' => e = .returned (.bool true) ∧ Kp w w' := by
  have H : Hid (IsP w q B F R P M s) := h
  clear h
  obtain ⟨w0, hw0⟩ : ∃ w0, w0 = (((w.alloc (.cells #[.pointer (some ⟨q, 0, none⟩)] 56)).alloc (.cells #[.int .i64 c] 3)).alloc (.cells #[.int .i64 m] 3)).alloc (.cells #[.bool false] 4) := ⟨_, rfl⟩
  obtain ⟨b3, hb3⟩ : ∃ b3, b3 = w.heap.size := ⟨_, rfl⟩
  have k0 : Kp w w0 := by rw [hw0]; exact ((((Chg.refl w _).alloc _).alloc _).alloc _).alloc _
  have s0 : w0.heap.size = b3 + 4 := by rw [hw0, hb3]; simp
  have y3 : w0.heap[b3]? = some (.cells #[.pointer (some ⟨q, 0, none⟩)] 56 (0, 0)) := by rw [hw0, hb3]; exact al_old _ (al_old _ (al_old _ (heap_alloc_new w _)))
  have y4 : w0.heap[b3 + 1]? = some (.cells #[.int .i64 c] 3 (0, 0)) := by
    have := heap_alloc_new (w.alloc (.cells #[.pointer (some ⟨q, 0, none⟩)] 56)) (.cells #[.int .i64 c] 3)
    rw [hw0, hb3]; exact al_old _ (al_old _ (by simpa using this))
  have y5 : w0.heap[b3 + 1 + 1]? = some (.cells #[.int .i64 m] 3 (0, 0)) := by
    have := heap_alloc_new ((w.alloc (.cells #[.pointer (some ⟨q, 0, none⟩)] 56)).alloc (.cells #[.int .i64 c] 3)) (.cells #[.int .i64 m] 3)
    rw [hw0, hb3]; exact al_old _ (by simpa using this)
  have y6 : w0.heap[b3 + 1 + 1 + 1]? = some (.cells #[.bool false] 4 (0, 0)) := by
    have := heap_alloc_new (((w.alloc (.cells #[.pointer (some ⟨q, 0, none⟩)] 56)).alloc (.cells #[.int .i64 c] 3)).alloc (.cells #[.int .i64 m] 3)) (.cells #[.bool false] 4)
    rw [hw0, hb3]; simpa using this
  obtain ⟨f, hf⟩ : ∃ f, f = s.to c := ⟨_, rfl⟩
  obtain ⟨ll, hll⟩ : ∃ ll, ll = (lns f).length := ⟨_, rfl⟩
  have kd : Kp w0 w0.drew := (Chg.refl w0 _).drew
  have kwd := Kp.trans k0 kd
  have z3 : w0.drew.cell? ⟨b3, 0, none⟩ = some (.pointer (some ⟨q, 0, none⟩)) := by rw [(cells_at (kd.heap y3) 0).1]; rfl
  have z4 : w0.drew.cell? ⟨b3 + 1, 0, none⟩ = some (.int .i64 c) := by rw [(cells_at (kd.heap y4) 0).1]; rfl
  have hO : ∀ w', Kp w0.drew w' → Calls Try.prog 49 #[.pointer (some ⟨F, 0, none⟩), .int .i64 c] w' fun e w'' => ∃ (va : Option Addr) (vc : Nat), e = .returned (.slice va ll vc) ∧ Kp w' w'' ∧ (OI w'' (.slice va ll vc) (lns f) ∧ ∀ k, (Value.slice va ll vc).ownBlock = some k → k < w''.heap.size) ∧ ∀ b, b < w'.heap.size → (Value.slice va ll vc).ownBlock ≠ some b := by
    intro w' k
    refine (fOwn_any w' F R P M s (H.out.kp (Kp.trans kwd k)).f c).mono ?_
    rintro e w'' ⟨v, rfl, ho, k5, hn5⟩
    rw [← hf] at ho
    obtain ⟨va, vc, rfl⟩ : ∃ va vc, v = .slice va ll vc := by
      rw [hll]
      rcases ho.at with ⟨h1, h2⟩ | ⟨g, cp, h1, _⟩
      · exact ⟨none, 0, by rw [h1, h2]; rfl⟩
      · exact ⟨_, _, h1⟩
    refine ⟨va, vc, rfl, k5, ⟨ho, fun g hg => ?_⟩, fun b hb e => ?_⟩
    · rcases ho.2 with ⟨e, _⟩ | ⟨g', cp, cur, e, _, hgg, _⟩
      · rw [e] at hg; cases hg
      · rw [e] at hg; cases hg; exact hp_lt hgg
    · have := hn5 b e; omega
  have H0 : Hid (Kp w w0 ∧ w0.heap.size = b3 + 4 ∧ w0.heap[b3]? = some (.cells #[.pointer (some ⟨q, 0, none⟩)] 56 (0, 0)) ∧ w0.heap[b3 + 1]? = some (.cells #[.int .i64 c] 3 (0, 0)) ∧ w0.heap[b3 + 1 + 1]? = some (.cells #[.int .i64 m] 3 (0, 0)) ∧ w0.heap[b3 + 1 + 1 + 1]? = some (.cells #[.bool false] 4 (0, 0)) ∧ f = s.to c ∧ ll = (lns f).length ∧ b3 = w.heap.size ∧ Kp w0 w0.drew) := ⟨k0, s0, y3, y4, y5, y6, hf, hll, hb3, kd⟩
  have z1 := (H.out.kp kwd).c1
  clear k0 s0 y3 y4 y5 y6 hf hll kd kwd
  refine (callsIn_wide (n := 8)).1 ?_
  refine callsIn_of_wp_marks Try.func28 rfl trivial ?_ rfl
  simp only [Try.ntmps28, List.size_toArray, List.length_cons, List.length_nil, Nat.reduceAdd, Nat.reduceSub, Array.replicate_succ, Array.replicate_zero, List.push_toArray, List.append_toArray, List.nil_append, List.cons_append]
  refine wpIn_wide.2 ?_
  go_upto_region 1 with fail
  rw [← hw0, ← hb3]
  clear hw0 hb3
  refine wp_ok ?_
  refine reg28_1 w0 q F b3 (b3 + 1) ll c (fun v w'' => OI w'' v (lns f) ∧ ∀ k, v.ownBlock = some k → k < w''.heap.size) (fun v b => v.ownBlock ≠ some b) ⟨z3, z1, z4⟩ hO (fun v w1 h e => by have := h.2 _ e; omega) (fun v w1 w2 b h nb hc => ⟨Chg.owns hc h.1 (fun g hg e => nb (by rw [hg, e])), fun k hk => by have := h.2 k hk; have := hc.size; omega⟩) _ (fun _ _ _ _ _ h => h) ?_
  clear hO z1 z3 z4
  rintro va vc b7 w5 k5 l7 m7 y7 ⟨ho, hV⟩ nb
  unfold okEnd
  have k05 := Kp.trans H0.out.2.2.2.2.2.2.2.2.2 k5
  have kd : Kp w5 w5.drew := (Chg.refl w5 _).drew
  have k0d := Kp.trans k05 kd
  have kwd := Kp.trans H0.out.1 k0d
  have z0 := (H.out.kp kwd).c0
  have z3 : w5.drew.cell? ⟨b3, 0, none⟩ = some (.pointer (some ⟨q, 0, none⟩)) := by rw [(cells_at (k0d.heap H0.out.2.2.1) 0).1]; rfl
  have z4 : w5.drew.cell? ⟨b3 + 1, 0, none⟩ = some (.int .i64 c) := by rw [(cells_at (k0d.heap H0.out.2.2.2.1) 0).1]; rfl
  have H5 : Hid (Kp w0 w5 ∧ w5.heap[b7]? = some (.cells #[.slice va ll vc] 22 (0, 0)) ∧ OI w5 (.slice va ll vc) (lns f) ∧ (∀ k, (Value.slice va ll vc).ownBlock = some k → k < w5.heap.size) ∧ b7 < w5.heap.size ∧ Kp w5 w5.drew) := ⟨k05, y7, ho, hV, m7, kd⟩
  clear k05 kd k0d kwd k5 l7 m7 y7 ho hV nb
  have hL : ∀ w', Kp w5.drew w' → Calls Try.prog 20 #[.pointer (some ⟨B, 0, none⟩), .int .i64 c] w' fun e w'' => ∃ (bg bc : Nat), e = .returned (fn38 bg bc) ∧ Kp w' w'' ∧ (fun (v : Value) (w1 : World) => ∀ x y, v = fn38 x y → w1.heap[x]? = some (.cells #[.pointer (some ⟨B, 0, none⟩)] 24 (0, 0)) ∧ w1.heap[y]? = some (.cells #[.int .i64 c] 3 (0, 0))) (fn38 bg bc) w'' ∧ ∀ b, b < w'.heap.size → (fun (v : Value) (b : Nat) => ∀ x y, v = fn38 x y → x ≠ b ∧ y ≠ b) (fn38 bg bc) b := by
    intro w' k
    refine (lines_any w' B c).mono ?_
    rintro e w'' ⟨rfl, hw⟩
    refine ⟨w'.heap.size, w'.heap.size + 1, rfl, by rw [hw]; exact ((Chg.refl w' _).alloc _).alloc _, ?_, ?_⟩
    · rintro x y e
      cases e
      refine ⟨by rw [hw]; exact al_old _ (heap_alloc_new w' _), ?_⟩
      have := heap_alloc_new (w'.alloc (.cells #[.pointer (some ⟨B, 0, none⟩)] 24)) (.cells #[.int .i64 c] 3)
      rw [hw]; simpa using this
    · rintro b hb x y e
      cases e
      constructor <;> omega
  go_upto_region 2 with fail
  refine wp_ok ?_
  refine reg28_2 w5 q B b3 (b3 + 1) ll c (fun (v : Value) (w1 : World) => ∀ x y, v = fn38 x y → w1.heap[x]? = some (.cells #[.pointer (some ⟨B, 0, none⟩)] 24 (0, 0)) ∧ w1.heap[y]? = some (.cells #[.int .i64 c] 3 (0, 0))) (fun (v : Value) (b : Nat) => ∀ x y, v = fn38 x y → x ≠ b ∧ y ≠ b) ⟨z3, z0, z4⟩ hL (fun v w1 h x y e => by have := hp_lt (h x y e).1; have := hp_lt (h x y e).2; omega) (fun v w1 w2 b h nb hc x y e => ⟨hc.heap (h x y e).1 (nb x y e).1, hc.heap (h x y e).2 (nb x y e).2⟩) _ (fun _ _ _ _ _ h => h) ?_
  clear hL z0 z3 z4
  rintro bg bc b8 w6 k6 l8 m8 y8 pv -
  unfold okEnd
  obtain ⟨yg, yc⟩ := pv bg bc rfl
  obtain ⟨w7, hw7⟩ : ∃ w7, w7 = w6.alloc (.cells #[.int .i64 0] 3) := ⟨_, rfl⟩
  obtain ⟨b9, hb9⟩ : ∃ b9, b9 = w6.heap.size := ⟨_, rfl⟩
  have k7 : Kp w6 w7 := by rw [hw7]; exact (Chg.refl w6 _).alloc _
  have s7 : w7.heap.size = b9 + 1 := by rw [hw7, hb9]; simp
  have y9 : w7.heap[b9]? = some (.cells #[.int .i64 0] 3 (0, 0)) := by rw [hw7, hb9]; exact heap_alloc_new w6 _
  have k57 := Kp.trans (Kp.trans H5.out.2.2.2.2.2 k6) k7
  have k07 := Kp.trans H5.out.1 k57
  have hO : LiO w b3 b7 b8 bg bc b9 (.slice va ll vc) := by
    have a1 := k6.size
    have a2 := H5.out.2.2.2.2.2.size
    have a3 := H5.out.1.size
    have a4 := H0.out.2.1
    have a5 := H5.out.2.2.2.2.1
    have a6 := hp_lt yg
    have a7 := hp_lt yc
    exact ⟨by rw [H0.out.2.2.2.2.2.2.2.2.1]; exact Nat.le_refl _, by omega, by omega, by omega, by omega, by omega, fun g hg => by have := H5.out.2.2.2.1 g hg; omega⟩
  have hI : LiI w q B b3 b7 b8 bg bc b9 c m (.slice va ll vc) (lns f) w7 0 := ⟨Kp.trans H0.out.1 k07, k07.heap H0.out.2.2.1, k07.heap H0.out.2.2.2.1, k07.heap H0.out.2.2.2.2.1, k07.heap H0.out.2.2.2.2.2.1, k57.heap H5.out.2.1, k7.heap y8, k7.heap yg, k7.heap yc, y9, Chg.owns k57 H5.out.2.2.1 (fun _ _ e => e)⟩
  have hseq := lines_seq w7 5 B bg bc s (H.out.kp hI.kp).g c (by rw [(cells_at hI.xg 0).1]; rfl) (by rw [(cells_at hI.xc 0).1]; rfl)
  rw [← H0.out.2.2.2.2.2.2.1] at hseq
  have K0 : Hid (LiI w q B b3 b7 b8 bg bc b9 c m (.slice va ll vc) (lns f) w7 0 ∧ LiO w b3 b7 b8 bg bc b9 (.slice va ll vc) ∧ w7.heap.size = b9 + 1 ∧ ll = (lns f).length ∧ f = s.to c) := ⟨hI, hO, s7, H0.out.2.2.2.2.2.2.2.1, H0.out.2.2.2.2.2.2.1⟩
  have e8 := hI.cells.2.2.2.2.1
  have e8' : w6.cell? ⟨b8, 0, none⟩ = some (.func (.func 38) #[] #[.pointer (some ⟨bg, 0, none⟩), .pointer (some ⟨bc, 0, none⟩)]) := by rw [(cells_at y8 0).1]; rfl
  clear hI hO s7 k57 k07 y9 k7 yg yc pv y8 m8 l8 k6 H5 H0
  go_upto_region 5 with fail
  go_upto_region 6 with fail
  rw [← hw7, ← hb9]
  clear hw7 hb9
  go_wp2_with fail
  rename_i K hK
  have HK : Hid (∀ (W : World) (j : Nat), LiI w q B b3 b7 b8 bg bc b9 c m (.slice va ll vc) (lns f) W j → ((j : Int) = m ∨ j = ll) → W.heap[w7.heap.size]? = some (.deferred (some [])) → K { tmps := #[Value.pointer (some { block := q, off := 0 }), Value.int IntKind.i64 c, Value.int IntKind.i64 m, Value.pointer (some { block := b3, off := 0 }), Value.pointer (some { block := b3 + 1, off := 0 }), Value.pointer (some { block := b3 + 1 + 1, off := 0 }), Value.pointer (some { block := b3 + 1 + 1 + 1, off := 0 }), Value.pointer (some { block := b7, off := 0 }), Value.pointer (some { block := b8, off := 0 }), Value.pointer (some { block := b9, off := 0 }), undef, undef, undef, undef, Value.pointer (some { block := q, off := 0 }), Value.pointer (some { block := q, off := 0 }), Value.pointer (some { block := q, off := 1 }), Value.pointer (some { block := F, off := 0 }), Value.int IntKind.i64 c, Value.slice va ll vc, Value.pointer (some { block := q, off := 0 }), Value.pointer (some { block := q, off := 0 }), Value.pointer (some { block := q, off := 0 }), Value.pointer (some { block := B, off := 0 }), Value.int IntKind.i64 c, Value.func (Fn.func 38) #[] #[Value.pointer (some { block := bg, off := 0 }), Value.pointer (some { block := bc, off := 0 })], Value.func (Fn.func 38) #[] #[Value.pointer (some { block := bg, off := 0 }), Value.pointer (some { block := bc, off := 0 })], Value.bool false, Value.func (Fn.func 38) #[] #[Value.pointer (some { block := bg, off := 0 }), Value.pointer (some { block := bc, off := 0 })], undef, undef, undef, undef, undef, undef, undef, undef, undef, undef, undef, undef, undef, undef, undef, undef, undef, undef, undef, undef, undef, undef, undef, undef, undef, undef, undef, undef, undef, undef, undef, undef, undef, undef, undef, undef, undef, undef, undef, undef, undef, undef, undef, undef, undef, undef, undef, undef, undef, undef, undef, undef, undef, undef, undef, undef, undef, undef, undef, undef, undef, undef, undef, undef, undef, undef, undef], defers := [{ target := .collected w7.heap.size, args := #[] }] } W) := by
    intro W j hI hj hD
    refine hK _ _ ?_
    clear hK
    obtain ⟨e3, e4, e5, e7, e8, e9, f9⟩ := hI.cells
    obtain ⟨hI1, c2⟩ := hI.set K0.out.2.1 0
    obtain ⟨W9, hW9⟩ : ∃ W9, W9 = W.setCell ⟨b9, 0, none⟩ (.int .i64 0) := ⟨_, rfl⟩
    have e8' : (W.setCell ⟨b9, 0, none⟩ (.int .i64 0)).cell? ⟨b8, 0, none⟩ = some (.func (.func 38) #[] #[.pointer (some ⟨bg, 0, none⟩), .pointer (some ⟨bc, 0, none⟩)]) := hI1.cells.2.2.2.2.1
    have hI9 : LiI w q B b3 b7 b8 bg bc b9 c m (.slice va ll vc) (lns f) W9 0 := by rw [hW9]; exact hI1
    have c9 : Chg W W9 (fun i => i = b9) := by rw [hW9]; exact c2
    have hD9 : W9.heap[w7.heap.size]? = some (.deferred (some [])) := c9.heap hD (by have := K0.out.2.2.1; omega)
    have hs9 : w7.heap.size < W9.heap.size := hp_lt hD9
    have hseq2 := lines_seqD 2 W9 5 B bg bc s (H.out.kp hI9.kp).g c (by rw [(cells_at hI9.xg 0).1]; rfl) (by rw [(cells_at hI9.xc 0).1]; rfl)
    rw [← K0.out.2.2.2.2] at hseq2
    have K9 : Hid (LiI w q B b3 b7 b8 bg bc b9 c m (.slice va ll vc) (lns f) W9 0 ∧ W9.heap[w7.heap.size]? = some (.deferred (some [])) ∧ w7.heap.size < W9.heap.size) := ⟨hI9, hD9, hs9⟩
    clear hI hI1 hI9 c2 c9 hD hD9 hs9 hseq
    by_cases hm : (j : Int) = m
    · subst hm
      clear hj
      go_wp2_with fail
      rw [← hW9]
      clear hW9 e3 e4 e5 e7 e8 e9 f9 e8'
      refine (wpIn_wide (n := 8)).1 ?_
      refine range_ownH (gf := 38) rfl (enters_of Try.func38 (by kernel_rfl) rfl) hseq2 (fun _ _ => rfl)
        (fun _ k W => LiI w q B b3 b7 b8 bg bc b9 c (j : Int) (.slice va ll vc) (lns f) W k ∧ W.heap[w7.heap.size]? = some (.deferred (some []))) (fun _ _ => False) ?_ (fun _ _ _ h _ => h) ?_ ?_ ?_
        (fun _ k a' W => a' = { tmps := #[Value.pointer (some { block := q, off := 0 }), Value.int IntKind.i64 c, Value.int IntKind.i64 ↑j, Value.pointer (some { block := b3, off := 0 }), Value.pointer (some { block := b3 + 1, off := 0 }), Value.pointer (some { block := b3 + 1 + 1, off := 0 }), Value.pointer (some { block := b3 + 1 + 1 + 1, off := 0 }), Value.pointer (some { block := b7, off := 0 }), Value.pointer (some { block := b8, off := 0 }), Value.pointer (some { block := b9, off := 0 }), undef, Value.int IntKind.i64 ↑(lnA f k), undef, undef, Value.pointer (some { block := q, off := 0 }), Value.pointer (some { block := q, off := 0 }), Value.pointer (some { block := q, off := 1 }), Value.pointer (some { block := F, off := 0 }), Value.int IntKind.i64 c, Value.slice va ll vc, Value.pointer (some { block := q, off := 0 }), Value.pointer (some { block := q, off := 0 }), Value.pointer (some { block := q, off := 0 }), Value.pointer (some { block := B, off := 0 }), Value.int IntKind.i64 c, Value.func (Fn.func 38) #[] #[Value.pointer (some { block := bg, off := 0 }), Value.pointer (some { block := bc, off := 0 })], Value.func (Fn.func 38) #[] #[Value.pointer (some { block := bg, off := 0 }), Value.pointer (some { block := bc, off := 0 })], Value.bool false, Value.func (Fn.func 38) #[] #[Value.pointer (some { block := bg, off := 0 }), Value.pointer (some { block := bc, off := 0 })], undef, undef, undef, undef, undef, undef, undef, undef, undef, undef, undef, undef, undef, undef, undef, undef, undef, undef, Value.int IntKind.i64 ↑j, Value.int IntKind.i64 ↑j, Value.bool false, Value.bool false, undef, undef, undef, undef, Value.bool false, Value.func (Fn.func 38) #[] #[Value.pointer (some { block := bg, off := 0 }), Value.pointer (some { block := bc, off := 0 })], Value.int IntKind.i64 ↑(lnA f k), undef, undef, undef, undef, undef, undef, undef, undef, undef, undef, undef, undef, undef, undef, undef, undef, undef, undef, undef, undef, undef, undef, undef, undef, undef, undef, undef, undef, undef, undef, undef, undef, undef, undef, undef, undef, undef, undef], defers := [] }) (fun _ _ _ _ _ h _ => h) ?assign2 ?body2 ?done2 (fun _ _ h => h.elim)
      · rintro _ k X Y ⟨hX, hX2⟩ hC
        have s1 := K9.out.2.2
        have s2 := K0.out.2.2.1
        exact ⟨hX.keep K0.out.2.1 hC (fun i hi e => by rcases e with e | e <;> omega), hC.heap hX2 (by rintro (e | e) <;> omega)⟩
      · rintro b X Y Z hXY hK hb h1
        have hbl : b < X.heap.size := World.block_lt_of_cell? X _ h1
        exact hK hb ((hXY.cell hbl (by rintro (e | e) <;> omega)).trans h1)
      · rintro b X Y Z hK hYZ hb h
        have h1 := hK hb h
        have hbl : b < Y.heap.size := World.block_lt_of_cell? Y _ h1
        exact (hYZ.cell hbl (by rintro (e | e) <;> omega)).trans h1
      · intro b W W1 hW hs hG
        have kk := Kp.trans hW hG.1
        exact ⟨⟨K9.out.1.kept K0.out.2.1 kk, kk.heap K9.out.2.1⟩, hG.1⟩
      case assign2 =>
        rintro b k W K' hk hI hs hK'
        unfold lArgs
        clear hI hk hs
        gi_wp2
        exact hK' _ _ (Chg.refl _ _) rfl
      case body2 =>
        rintro b k a' W hk ⟨r0, hr0⟩ ⟨hI, hD⟩ rfl hs
        obtain ⟨g, eva, cl⟩ := hI.thing k hk
        subst eva
        obtain ⟨e3, e4, e5, e7, e8, e9, f9⟩ := hI.cells
        have hll := K0.out.2.2.2.1
        have hkl : (k : Int) < (ll : Int) := by omega
        have hkn : ¬ ((ll : Int) ≤ (k : Int)) := by omega
        have hk32 : (k : Int) < 32 := by have := lns_len f; omega
        have ek : ((k + 1 : Nat) : Int) = (k : Int) + 1 := by omega
        obtain ⟨hI1, c2⟩ := hI.set K0.out.2.1 (k + 1)
        rw [ek] at hI1 c2
        obtain ⟨W1, hW1⟩ : ∃ W1, W1 = W.setCell ⟨b9, 0, none⟩ (.int .i64 ((k : Int) + 1)) := ⟨_, rfl⟩
        have sW1 : W1.heap.size = W.heap.size := by rw [hW1]; simp
        rw [← hW1] at hI1 c2
        obtain ⟨W2, hW2⟩ : ∃ W2, W2 = W1.alloc (.cells #[.int .i64 0] 3) := ⟨_, rfl⟩
        obtain ⟨b12, hb12⟩ : ∃ b12, b12 = W.heap.size := ⟨_, rfl⟩
        have k2 : Kp W1 W2 := by rw [hW2]; exact (Chg.refl W1 _).alloc _
        have s2 : W2.heap.size = b12 + 1 := by rw [hW2, hb12]; simp [sW1]
        have x12 : W2.heap[b12]? = some (.cells #[.int .i64 ((0 : Nat) : Int)] 3 (0, 0)) := by
          have := heap_alloc_new W1 (.cells #[.int .i64 0] 3)
          rw [sW1, ← hb12, ← hW2] at this; exact this
        have hI2 := hI1.kept K0.out.2.1 k2
        have e8' : ((W.setCell ⟨b9, 0, none⟩ (.int .i64 ((k : Int) + 1))).alloc (.cells #[.int .i64 0] 3)).cell? ⟨b8, 0, none⟩ = some (.func (.func 38) #[] #[.pointer (some ⟨bg, 0, none⟩), .pointer (some ⟨bc, 0, none⟩)]) := by rw [← hW1, ← hW2]; exact hI2.cells.2.2.2.2.1
        have nb1 := K0.out.2.2.1
        have nb2 := K9.out.2.2
        have hr1 : W1.heap[W9.heap.size + 1]? = some (.loop r0) := c2.heap hr0 (by omega)
        have hr2 : W2.heap[W9.heap.size + 1]? = some (.loop r0) := k2.heap hr1
        have hseq3 := lines_seqD 1 W2 3 B bg bc s (H.out.kp hI2.kp).g c (by rw [(cells_at hI2.xg 0).1]; rfl) (by rw [(cells_at hI2.xc 0).1]; rfl)
        rw [← K0.out.2.2.2.2] at hseq3
        have K1 : Hid (LiI w q B b3 b7 b8 bg bc b9 c (j : Int) (.slice (some ⟨g, 0, none⟩) ll vc) (lns f) W1 (k + 1) ∧ Kp W1 W2 ∧ W2.heap[b12]? = some (.cells #[.int .i64 ((0 : Nat) : Int)] 3 (0, 0)) ∧ W2.heap.size = b12 + 1 ∧ W1.heap.size = b12 ∧ b9 < b12) := ⟨hI1, k2, x12, s2, by omega, by omega⟩
        have KF : Hid (∀ Wf, Kp W1 Wf → (∀ i, Two W9.heap.size i → Wf.heap[i]? = W.heap[i]?) ∧ (LiI w q B b3 b7 b8 bg bc b9 c (j : Int) (.slice (some ⟨g, 0, none⟩) ll vc) (lns f) Wf (k + 1) ∧ Wf.heap[w7.heap.size]? = some (.deferred (some []))) ∧ lKp 2 W9 f b W Wf) := by
          intro Wf kf
          refine ⟨fun i hi => ?_, ⟨hI1.kept K0.out.2.1 kf, kf.heap (c2.heap hD (by omega))⟩, fun hb h1 => ?_⟩
          · have e1 := c2.block i (by rcases hi with e | e <;> omega) (by intro e; rcases hi with e' | e' <;> omega)
            rw [← e1]
            exact kf.block i (by rcases hi with e | e <;> omega) (fun x => x)
          · have hbl : b < W.heap.size := World.block_lt_of_cell? W _ h1
            exact Kp.cell kf ((c2.cell hbl (by intro e; omega)).trans h1)
        clear hI hI1 hI2 c2 k2 x12 s2 hr1 hr0 hD hk hseq2 ek nb1 nb2 hll
        generalize lnA f k = ln at *
        gi_wp2_with fail
        rw [← hW1, ← hW2, ← hb12]
        clear hW1 hW2 hb12 sW1 e3 e4 e5 e7 e8 e9 f9 e8' cl
        refine range_in (m := 6) hr2 (gf := 38) rfl (enters_of Try.func38 (by kernel_rfl) rfl) hseq3 (fun _ _ => rfl)
          (fun _ k2 Wz => Kp W1 Wz ∧ Wz.heap[b12]? = some (.cells #[.int .i64 ((k2 : Nat) : Int)] 3 (0, 0))) (fun _ _ => False) ?_ (fun _ _ _ h _ => h) ?_ ?_ ?_
          (fun _ k2 a' Wz => a' = { tmps := #[Value.pointer (some { block := q, off := 0 }), Value.int IntKind.i64 c, Value.int IntKind.i64 ↑j, Value.pointer (some { block := b3, off := 0 }), Value.pointer (some { block := b3 + 1, off := 0 }), Value.pointer (some { block := b3 + 1 + 1, off := 0 }), Value.pointer (some { block := b3 + 1 + 1 + 1, off := 0 }), Value.pointer (some { block := b7, off := 0 }), Value.pointer (some { block := b8, off := 0 }), Value.pointer (some { block := b9, off := 0 }), undef, Value.int IntKind.i64 ↑ln, Value.pointer (some { block := b12, off := 0 }), undef, Value.pointer (some { block := q, off := 0 }), Value.pointer (some { block := q, off := 0 }), Value.pointer (some { block := q, off := 1 }), Value.pointer (some { block := F, off := 0 }), Value.int IntKind.i64 c, Value.slice (some { block := g, off := 0 }) ll vc, Value.pointer (some { block := q, off := 0 }), Value.pointer (some { block := q, off := 0 }), Value.pointer (some { block := q, off := 0 }), Value.pointer (some { block := B, off := 0 }), Value.int IntKind.i64 c, Value.func (Fn.func 38) #[] #[Value.pointer (some { block := bg, off := 0 }), Value.pointer (some { block := bc, off := 0 })], Value.func (Fn.func 38) #[] #[Value.pointer (some { block := bg, off := 0 }), Value.pointer (some { block := bc, off := 0 })], Value.bool false, Value.func (Fn.func 38) #[] #[Value.pointer (some { block := bg, off := 0 }), Value.pointer (some { block := bc, off := 0 })], undef, undef, undef, undef, undef, undef, undef, undef, undef, undef, undef, undef, undef, undef, undef, undef, undef, undef, Value.int IntKind.i64 ↑j, Value.int IntKind.i64 ↑j, Value.bool false, Value.bool false, undef, undef, undef, undef, Value.bool false, Value.func (Fn.func 38) #[] #[Value.pointer (some { block := bg, off := 0 }), Value.pointer (some { block := bc, off := 0 })], Value.int IntKind.i64 ↑ln, Value.int IntKind.i64 ↑k, Value.slice (some { block := g, off := 0 }) ll vc, Value.int IntKind.i64 ↑ll, Value.bool false, Value.bool false, Value.int IntKind.i64 ↑ln, Value.slice (some { block := g, off := 0 }) ll vc, Value.int IntKind.i64 ↑k, Value.pointer (some { block := g, off := k }), Value.int IntKind.i64 ↑ln, Value.bool false, Value.bool false, Value.int IntKind.i64 ↑k, Value.int IntKind.i64 (↑k + 1), Value.func (Fn.func 38) #[] #[Value.pointer (some { block := bg, off := 0 }), Value.pointer (some { block := bc, off := 0 })], Value.int IntKind.i64 ↑(lnA f k2), undef, undef, undef, undef, undef, undef, undef, undef, undef, undef, undef, undef, undef, undef, undef, undef, undef, undef, undef, undef, undef, undef], defers := [] }) (fun _ _ _ _ _ h _ => h) ?assign3 ?body3 ?done3 (fun _ _ h => h.elim)
        · rintro _ kz X Y ⟨hX, hX2⟩ hC
          have s1 := K1.out.2.2.2
          have hC' : ∀ i, One W2.heap.size i → i = b12 + 1 := fun i e => by have e' : i = W2.heap.size := e; omega
          exact ⟨Chg.trans hX hC (fun i hi e => by have := hC' i e; omega), hC.heap hX2 (fun e => by have := hC' _ e; omega)⟩
        · rintro b' X Y Z hXY hK hb h1
          have hbl : b' < X.heap.size := World.block_lt_of_cell? X _ h1
          exact hK hb ((hXY.cell hbl (by intro e; have e' : b' = W2.heap.size := e; omega)).trans h1)
        · rintro b' X Y Z hK hYZ hb h
          have h1 := hK hb h
          have hbl : b' < Y.heap.size := World.block_lt_of_cell? Y _ h1
          exact (hYZ.cell hbl (by intro e; have e' : b' = W2.heap.size := e; omega)).trans h1
        · intro b' Wz Wz1 hW hsz hG
          have kk := Kp.trans hW hG.1
          exact ⟨⟨Kp.trans K1.out.2.1 kk, kk.heap K1.out.2.2.1⟩, hG.1⟩
        case assign3 =>
          rintro b' k2 Wz K' hk2 hI hsz hK'
          unfold lArgs
          clear hI hk2 hsz
          gi_wp2
          exact hK' _ _ (Chg.refl _ _) rfl
        case body3 =>
          rintro b' k2 a' Wz hk2 hrz ⟨kz, xz⟩ rfl hsz
          have hIz := K1.out.1.kept K0.out.2.1 kz
          have hll := K0.out.2.2.2.1
          have hk3 : (k2 : Int) < 32 := by have := lns_len f; omega
          have hkz : ¬ ((ll : Int) < (k2 : Int) + 1) := by omega
          have e12 : Wz.cell? ⟨b12, 0, none⟩ = some (.int .i64 (k2 : Nat)) := by rw [(cells_at xz 0).1]; rfl
          have f12 : Wz.frozen? ⟨b12, 0, none⟩ = false := (cells_at xz 0).2
          obtain ⟨Wy, hWy⟩ : ∃ Wy, Wy = Wz.setCell ⟨b12, 0, none⟩ (.int .i64 ((k2 : Int) + 1)) := ⟨_, rfl⟩
          have cy : Chg Wz Wy (fun i => i = b12) := by rw [hWy]; exact Chg.setCell (S := fun i => i = b12) (Chg.refl _ _) (.inl rfl) _
          have xy : Wy.heap[b12]? = some (.cells #[.int .i64 (((k2 + 1 : Nat) : Nat) : Int)] 3 (0, 0)) := by
            have := heap_setCell_same Wz b12 0 _ 3 (.int .i64 ((k2 : Int) + 1)) xz
            rw [← hWy] at this
            exact this
          have nb := K1.out.2.2.2.2
          have n7 := K0.out.2.1.h7
          have e7' : (Wz.setCell ⟨b12, 0, none⟩ (.int .i64 ((k2 : Int) + 1))).cell? ⟨b7, 0, none⟩ = some (.slice (some ⟨g, 0, none⟩) ll vc) := by
            rw [← hWy]
            exact (cy.cell (World.block_lt_of_cell? Wz _ hIz.cells.2.2.2.1) (by intro e; have e' : b7 = b12 := e; omega)).trans hIz.cells.2.2.2.1
          have e12' : (Wz.setCell ⟨b12, 0, none⟩ (.int .i64 ((k2 : Int) + 1))).cell? ⟨b12, 0, none⟩ = some (.int .i64 ((k2 : Int) + 1)) := by rw [← hWy, (cells_at xy 0).1]; rfl
          have KY : Hid ((∀ i, One W2.heap.size i → Wy.heap[i]? = Wz.heap[i]?) ∧ (Kp W1 Wy ∧ Wy.heap[b12]? = some (.cells #[.int .i64 (((k2 + 1 : Nat) : Nat) : Int)] 3 (0, 0))) ∧ lKp 1 W2 f b' Wz Wy) := by
            have s1 := K1.out.2.2.2.1
            refine ⟨fun i hi => cy.block i (by have e' : i = W2.heap.size := hi; omega) (by intro e; have e' : i = W2.heap.size := hi; omega), ⟨Chg.trans kz cy (fun i hi e => by omega), xy⟩, fun hb h1 => ?_⟩
            have hbl : b' < Wz.heap.size := World.block_lt_of_cell? Wz _ h1
            exact (cy.cell hbl (by intro e; omega)).trans h1
          clear hIz hll kz xz cy xy nb n7 hk2 hrz hsz hseq3
          gi_wp2
          rw [← hWy]
          exact KY.out
        case done3 =>
          rintro b' Wz ⟨kz, xz⟩
          have hIz := K1.out.1.kept K0.out.2.1 kz
          obtain ⟨d3, d4, d5, d7, d8, d9, g9⟩ := hIz.cells
          have hOt := fun x => others_any Wz q B F R P M s (H.out.kp hIz.kp) x
          have e12 : Wz.cell? ⟨b12, 0, none⟩ = some (.int .i64 (ll : Nat)) := by rw [(cells_at xz 0).1, K0.out.2.2.2.1]; rfl
          have KZ : Hid (LiI w q B b3 b7 b8 bg bc b9 c (j : Int) (.slice (some ⟨g, 0, none⟩) ll vc) (lns f) Wz (k + 1) ∧ Kp W1 Wz ∧ Wz.heap[b12]? = some (.cells #[.int .i64 (((lns f).length : Nat) : Int)] 3 (0, 0))) := ⟨hIz, kz, xz⟩
          clear hIz kz xz hseq3
          gi_wp2_with fail
          refine ⟨trivial, ?_⟩
          gi_at_call 50
          refine (callsIn_wide.2 (hOt _)).mono ?_
          rintro e Wf ⟨rfl, kf⟩
          have d7' := Kp.cell kf d7
          have e12' := Kp.cell kf e12
          have KE := KF.out Wf (Kp.trans KZ.out.2.1 kf)
          clear hOt d3 d4 d5 d7 d8 d9 g9 e12 kf
          gi_wp2
          exact KE
      case done2 =>
        rintro b W2 ⟨hI, hD⟩ hD2
        obtain ⟨d3, d4, d5, d7, d8, d9, g9⟩ := hI.cells
        have hll := K0.out.2.2.2.1
        rw [← hll] at d9
        have x6 := hI.x6
        have e6 : W2.cell? ⟨b3 + 1 + 1 + 1, 0, none⟩ = some (.bool false) := by rw [(cells_at x6 0).1]; rfl
        have f6 : W2.frozen? ⟨b3 + 1 + 1 + 1, 0, none⟩ = false := (cells_at x6 0).2
        obtain ⟨W3, hW3⟩ : ∃ W3, W3 = W2.setCell ⟨b3 + 1 + 1 + 1, 0, none⟩ (.bool true) := ⟨_, rfl⟩
        have c3 : Chg W2 W3 (fun i => i = b3 + 1 + 1 + 1) := by rw [hW3]; exact Chg.setCell (S := fun i => i = b3 + 1 + 1 + 1) (Chg.refl _ _) (.inl rfl) _
        have n1 := K0.out.2.1.h3
        have n2 := K0.out.2.1.w3
        have n3 := K0.out.2.2.1
        have n4 := K9.out.2.2
        have HE : Hid (Kp w W3 ∧ W3.heap[b3 + 1 + 1 + 1]? = some (.cells #[.bool true] 4 (0, 0)) ∧ W3.heap[W9.heap.size]? = some (.deferred (some [])) ∧ W3.heap[w7.heap.size]? = some (.deferred (some []))) := ⟨Chg.trans hI.kp c3 (fun i hi e => by omega), by rw [hW3]; exact heap_setCell_same W2 (b3 + 1 + 1 + 1) 0 _ 4 _ x6, c3.heap hD2 (by omega), c3.heap hD (by omega)⟩
        clear hI hD hD2 x6 c3 hseq2 d3 d4 d5 d8 hll
        go_wp2
        rw [← hW3]
        obtain ⟨z1, z2, z3, z4⟩ := HE.out
        refine ⟨by simp, .inl ⟨_, _, rfl, run_takeDeferred z3, ?_⟩⟩
        have y4 : (W3.putObj W9.heap.size (.deferred none)).heap[w7.heap.size]? = some (.deferred (some [])) := by rw [World.putObj_heap_other (by omega)]; exact z4
        refine ⟨by simp, .inl ⟨_, _, rfl, run_takeDeferred y4, ?_⟩⟩
        have g8 : ((W3.putObj W9.heap.size (.deferred none)).putObj w7.heap.size (.deferred none)).heap[b3 + 1 + 1 + 1]? = some (.cells #[.bool true] 4 (0, 0)) := by rw [World.putObj_heap_other (by omega), World.putObj_heap_other (by omega)]; exact z2
        refine ⟨_, results_boxB rfl _ _ (b3 + 1 + 1 + 1) true rfl (by rw [(cells_at g8 0).1]; rfl), rfl, ?_⟩
        exact Chg.putObj (Chg.putObj z1 (.inr (by omega)) _) (.inr (by omega)) _
    · have hjl : ll = j := (hj.resolve_left hm).symm
      subst hjl
      have hmb : ((ll : Int) != m) = true := by rw [bne_iff_ne]; exact hm
      go_wp2_with fail
      rw [← hW9]
      clear hW9 e3 e4 e5 e7 e8 e9 f9 e8'
      refine (wpIn_wide (n := 8)).1 ?_
      refine range_ownH (gf := 38) rfl (enters_of Try.func38 (by kernel_rfl) rfl) hseq2 (fun _ _ => rfl)
        (fun _ k W => LiI w q B b3 b7 b8 bg bc b9 c m (.slice va ll vc) (lns f) W k ∧ W.heap[w7.heap.size]? = some (.deferred (some []))) (fun _ _ => False) ?_ (fun _ _ _ h _ => h) ?_ ?_ ?_
        (fun _ k a' W => a' = { tmps := #[Value.pointer (some { block := q, off := 0 }), Value.int IntKind.i64 c, Value.int IntKind.i64 m, Value.pointer (some { block := b3, off := 0 }), Value.pointer (some { block := b3 + 1, off := 0 }), Value.pointer (some { block := b3 + 1 + 1, off := 0 }), Value.pointer (some { block := b3 + 1 + 1 + 1, off := 0 }), Value.pointer (some { block := b7, off := 0 }), Value.pointer (some { block := b8, off := 0 }), Value.pointer (some { block := b9, off := 0 }), undef, Value.int IntKind.i64 ↑(lnA f k), undef, undef, Value.pointer (some { block := q, off := 0 }), Value.pointer (some { block := q, off := 0 }), Value.pointer (some { block := q, off := 1 }), Value.pointer (some { block := F, off := 0 }), Value.int IntKind.i64 c, Value.slice va ll vc, Value.pointer (some { block := q, off := 0 }), Value.pointer (some { block := q, off := 0 }), Value.pointer (some { block := q, off := 0 }), Value.pointer (some { block := B, off := 0 }), Value.int IntKind.i64 c, Value.func (Fn.func 38) #[] #[Value.pointer (some { block := bg, off := 0 }), Value.pointer (some { block := bc, off := 0 })], Value.func (Fn.func 38) #[] #[Value.pointer (some { block := bg, off := 0 }), Value.pointer (some { block := bc, off := 0 })], Value.bool false, Value.func (Fn.func 38) #[] #[Value.pointer (some { block := bg, off := 0 }), Value.pointer (some { block := bc, off := 0 })], undef, undef, undef, undef, undef, undef, undef, undef, undef, undef, undef, undef, undef, undef, undef, undef, undef, undef, Value.int IntKind.i64 ↑ll, Value.int IntKind.i64 m, Value.bool true, Value.bool true, Value.int IntKind.i64 ↑ll, Value.slice va ll vc, Value.int IntKind.i64 ↑ll, Value.bool false, Value.bool false, Value.func (Fn.func 38) #[] #[Value.pointer (some { block := bg, off := 0 }), Value.pointer (some { block := bc, off := 0 })], Value.int IntKind.i64 ↑(lnA f k), undef, undef, undef, undef, undef, undef, undef, undef, undef, undef, undef, undef, undef, undef, undef, undef, undef, undef, undef, undef, undef, undef, undef, undef, undef, undef, undef, undef, undef, undef, undef, undef, undef, undef, undef, undef, undef, undef], defers := [] }) (fun _ _ _ _ _ h _ => h) ?assign2 ?body2 ?done2 (fun _ _ h => h.elim)
      · rintro _ k X Y ⟨hX, hX2⟩ hC
        have s1 := K9.out.2.2
        have s2 := K0.out.2.2.1
        exact ⟨hX.keep K0.out.2.1 hC (fun i hi e => by rcases e with e | e <;> omega), hC.heap hX2 (by rintro (e | e) <;> omega)⟩
      · rintro b X Y Z hXY hK hb h1
        have hbl : b < X.heap.size := World.block_lt_of_cell? X _ h1
        exact hK hb ((hXY.cell hbl (by rintro (e | e) <;> omega)).trans h1)
      · rintro b X Y Z hK hYZ hb h
        have h1 := hK hb h
        have hbl : b < Y.heap.size := World.block_lt_of_cell? Y _ h1
        exact (hYZ.cell hbl (by rintro (e | e) <;> omega)).trans h1
      · intro b W W1 hW hs hG
        have kk := Kp.trans hW hG.1
        exact ⟨⟨K9.out.1.kept K0.out.2.1 kk, kk.heap K9.out.2.1⟩, hG.1⟩
      case assign2 =>
        rintro b k W K' hk hI hs hK'
        unfold lArgs
        clear hI hk hs
        gi_wp2
        exact hK' _ _ (Chg.refl _ _) rfl
      case body2 =>
        rintro b k a' W hk ⟨r0, hr0⟩ ⟨hI, hD⟩ rfl hs
        obtain ⟨g, eva, cl⟩ := hI.thing k hk
        subst eva
        obtain ⟨e3, e4, e5, e7, e8, e9, f9⟩ := hI.cells
        have hll := K0.out.2.2.2.1
        have hkl : (k : Int) < (ll : Int) := by omega
        have hkn : ¬ ((ll : Int) ≤ (k : Int)) := by omega
        have hk32 : (k : Int) < 32 := by have := lns_len f; omega
        have ek : ((k + 1 : Nat) : Int) = (k : Int) + 1 := by omega
        obtain ⟨hI1, c2⟩ := hI.set K0.out.2.1 (k + 1)
        rw [ek] at hI1 c2
        obtain ⟨W1, hW1⟩ : ∃ W1, W1 = W.setCell ⟨b9, 0, none⟩ (.int .i64 ((k : Int) + 1)) := ⟨_, rfl⟩
        have sW1 : W1.heap.size = W.heap.size := by rw [hW1]; simp
        rw [← hW1] at hI1 c2
        obtain ⟨W2, hW2⟩ : ∃ W2, W2 = W1.alloc (.cells #[.int .i64 0] 3) := ⟨_, rfl⟩
        obtain ⟨b12, hb12⟩ : ∃ b12, b12 = W.heap.size := ⟨_, rfl⟩
        have k2 : Kp W1 W2 := by rw [hW2]; exact (Chg.refl W1 _).alloc _
        have s2 : W2.heap.size = b12 + 1 := by rw [hW2, hb12]; simp [sW1]
        have x12 : W2.heap[b12]? = some (.cells #[.int .i64 ((0 : Nat) : Int)] 3 (0, 0)) := by
          have := heap_alloc_new W1 (.cells #[.int .i64 0] 3)
          rw [sW1, ← hb12, ← hW2] at this; exact this
        have hI2 := hI1.kept K0.out.2.1 k2
        have e8' : ((W.setCell ⟨b9, 0, none⟩ (.int .i64 ((k : Int) + 1))).alloc (.cells #[.int .i64 0] 3)).cell? ⟨b8, 0, none⟩ = some (.func (.func 38) #[] #[.pointer (some ⟨bg, 0, none⟩), .pointer (some ⟨bc, 0, none⟩)]) := by rw [← hW1, ← hW2]; exact hI2.cells.2.2.2.2.1
        have nb1 := K0.out.2.2.1
        have nb2 := K9.out.2.2
        have hr1 : W1.heap[W9.heap.size + 1]? = some (.loop r0) := c2.heap hr0 (by omega)
        have hr2 : W2.heap[W9.heap.size + 1]? = some (.loop r0) := k2.heap hr1
        have hseq3 := lines_seqD 1 W2 3 B bg bc s (H.out.kp hI2.kp).g c (by rw [(cells_at hI2.xg 0).1]; rfl) (by rw [(cells_at hI2.xc 0).1]; rfl)
        rw [← K0.out.2.2.2.2] at hseq3
        have K1 : Hid (LiI w q B b3 b7 b8 bg bc b9 c m (.slice (some ⟨g, 0, none⟩) ll vc) (lns f) W1 (k + 1) ∧ Kp W1 W2 ∧ W2.heap[b12]? = some (.cells #[.int .i64 ((0 : Nat) : Int)] 3 (0, 0)) ∧ W2.heap.size = b12 + 1 ∧ W1.heap.size = b12 ∧ b9 < b12) := ⟨hI1, k2, x12, s2, by omega, by omega⟩
        have KF : Hid (∀ Wf, Kp W1 Wf → (∀ i, Two W9.heap.size i → Wf.heap[i]? = W.heap[i]?) ∧ (LiI w q B b3 b7 b8 bg bc b9 c m (.slice (some ⟨g, 0, none⟩) ll vc) (lns f) Wf (k + 1) ∧ Wf.heap[w7.heap.size]? = some (.deferred (some []))) ∧ lKp 2 W9 f b W Wf) := by
          intro Wf kf
          refine ⟨fun i hi => ?_, ⟨hI1.kept K0.out.2.1 kf, kf.heap (c2.heap hD (by omega))⟩, fun hb h1 => ?_⟩
          · have e1 := c2.block i (by rcases hi with e | e <;> omega) (by intro e; rcases hi with e' | e' <;> omega)
            rw [← e1]
            exact kf.block i (by rcases hi with e | e <;> omega) (fun x => x)
          · have hbl : b < W.heap.size := World.block_lt_of_cell? W _ h1
            exact Kp.cell kf ((c2.cell hbl (by intro e; omega)).trans h1)
        clear hI hI1 hI2 c2 k2 x12 s2 hr1 hr0 hD hk hseq2 ek nb1 nb2 hll
        generalize lnA f k = ln at *
        gi_wp2_with fail
        rw [← hW1, ← hW2, ← hb12]
        clear hW1 hW2 hb12 sW1 e3 e4 e5 e7 e8 e9 f9 e8' cl
        refine range_in (m := 6) hr2 (gf := 38) rfl (enters_of Try.func38 (by kernel_rfl) rfl) hseq3 (fun _ _ => rfl)
          (fun _ k2 Wz => Kp W1 Wz ∧ Wz.heap[b12]? = some (.cells #[.int .i64 ((k2 : Nat) : Int)] 3 (0, 0))) (fun _ _ => False) ?_ (fun _ _ _ h _ => h) ?_ ?_ ?_
          (fun _ k2 a' Wz => a' = { tmps := #[Value.pointer (some { block := q, off := 0 }), Value.int IntKind.i64 c, Value.int IntKind.i64 m, Value.pointer (some { block := b3, off := 0 }), Value.pointer (some { block := b3 + 1, off := 0 }), Value.pointer (some { block := b3 + 1 + 1, off := 0 }), Value.pointer (some { block := b3 + 1 + 1 + 1, off := 0 }), Value.pointer (some { block := b7, off := 0 }), Value.pointer (some { block := b8, off := 0 }), Value.pointer (some { block := b9, off := 0 }), undef, Value.int IntKind.i64 ↑ln, Value.pointer (some { block := b12, off := 0 }), undef, Value.pointer (some { block := q, off := 0 }), Value.pointer (some { block := q, off := 0 }), Value.pointer (some { block := q, off := 1 }), Value.pointer (some { block := F, off := 0 }), Value.int IntKind.i64 c, Value.slice (some { block := g, off := 0 }) ll vc, Value.pointer (some { block := q, off := 0 }), Value.pointer (some { block := q, off := 0 }), Value.pointer (some { block := q, off := 0 }), Value.pointer (some { block := B, off := 0 }), Value.int IntKind.i64 c, Value.func (Fn.func 38) #[] #[Value.pointer (some { block := bg, off := 0 }), Value.pointer (some { block := bc, off := 0 })], Value.func (Fn.func 38) #[] #[Value.pointer (some { block := bg, off := 0 }), Value.pointer (some { block := bc, off := 0 })], Value.bool false, Value.func (Fn.func 38) #[] #[Value.pointer (some { block := bg, off := 0 }), Value.pointer (some { block := bc, off := 0 })], undef, undef, undef, undef, undef, undef, undef, undef, undef, undef, undef, undef, undef, undef, undef, undef, undef, undef, Value.int IntKind.i64 ↑ll, Value.int IntKind.i64 m, Value.bool true, Value.bool true, Value.int IntKind.i64 ↑ll, Value.slice (some { block := g, off := 0 }) ll vc, Value.int IntKind.i64 ↑ll, Value.bool false, Value.bool false, Value.func (Fn.func 38) #[] #[Value.pointer (some { block := bg, off := 0 }), Value.pointer (some { block := bc, off := 0 })], Value.int IntKind.i64 ↑ln, Value.int IntKind.i64 ↑k, Value.slice (some { block := g, off := 0 }) ll vc, Value.int IntKind.i64 ↑ll, Value.bool false, Value.bool false, Value.int IntKind.i64 ↑ln, Value.slice (some { block := g, off := 0 }) ll vc, Value.int IntKind.i64 ↑k, Value.pointer (some { block := g, off := k }), Value.int IntKind.i64 ↑ln, Value.bool false, Value.bool false, Value.int IntKind.i64 ↑k, Value.int IntKind.i64 (↑k + 1), Value.func (Fn.func 38) #[] #[Value.pointer (some { block := bg, off := 0 }), Value.pointer (some { block := bc, off := 0 })], Value.int IntKind.i64 ↑(lnA f k2), undef, undef, undef, undef, undef, undef, undef, undef, undef, undef, undef, undef, undef, undef, undef, undef, undef, undef, undef, undef, undef, undef], defers := [] }) (fun _ _ _ _ _ h _ => h) ?assign3 ?body3 ?done3 (fun _ _ h => h.elim)
        · rintro _ kz X Y ⟨hX, hX2⟩ hC
          have s1 := K1.out.2.2.2
          have hC' : ∀ i, One W2.heap.size i → i = b12 + 1 := fun i e => by have e' : i = W2.heap.size := e; omega
          exact ⟨Chg.trans hX hC (fun i hi e => by have := hC' i e; omega), hC.heap hX2 (fun e => by have := hC' _ e; omega)⟩
        · rintro b' X Y Z hXY hK hb h1
          have hbl : b' < X.heap.size := World.block_lt_of_cell? X _ h1
          exact hK hb ((hXY.cell hbl (by intro e; have e' : b' = W2.heap.size := e; omega)).trans h1)
        · rintro b' X Y Z hK hYZ hb h
          have h1 := hK hb h
          have hbl : b' < Y.heap.size := World.block_lt_of_cell? Y _ h1
          exact (hYZ.cell hbl (by intro e; have e' : b' = W2.heap.size := e; omega)).trans h1
        · intro b' Wz Wz1 hW hsz hG
          have kk := Kp.trans hW hG.1
          exact ⟨⟨Kp.trans K1.out.2.1 kk, kk.heap K1.out.2.2.1⟩, hG.1⟩
        case assign3 =>
          rintro b' k2 Wz K' hk2 hI hsz hK'
          unfold lArgs
          clear hI hk2 hsz
          gi_wp2
          exact hK' _ _ (Chg.refl _ _) rfl
        case body3 =>
          rintro b' k2 a' Wz hk2 hrz ⟨kz, xz⟩ rfl hsz
          have hIz := K1.out.1.kept K0.out.2.1 kz
          have hll := K0.out.2.2.2.1
          have hk3 : (k2 : Int) < 32 := by have := lns_len f; omega
          have hkz : ¬ ((ll : Int) < (k2 : Int) + 1) := by omega
          have e12 : Wz.cell? ⟨b12, 0, none⟩ = some (.int .i64 (k2 : Nat)) := by rw [(cells_at xz 0).1]; rfl
          have f12 : Wz.frozen? ⟨b12, 0, none⟩ = false := (cells_at xz 0).2
          obtain ⟨Wy, hWy⟩ : ∃ Wy, Wy = Wz.setCell ⟨b12, 0, none⟩ (.int .i64 ((k2 : Int) + 1)) := ⟨_, rfl⟩
          have cy : Chg Wz Wy (fun i => i = b12) := by rw [hWy]; exact Chg.setCell (S := fun i => i = b12) (Chg.refl _ _) (.inl rfl) _
          have xy : Wy.heap[b12]? = some (.cells #[.int .i64 (((k2 + 1 : Nat) : Nat) : Int)] 3 (0, 0)) := by
            have := heap_setCell_same Wz b12 0 _ 3 (.int .i64 ((k2 : Int) + 1)) xz
            rw [← hWy] at this
            exact this
          have nb := K1.out.2.2.2.2
          have n7 := K0.out.2.1.h7
          have e7' : (Wz.setCell ⟨b12, 0, none⟩ (.int .i64 ((k2 : Int) + 1))).cell? ⟨b7, 0, none⟩ = some (.slice (some ⟨g, 0, none⟩) ll vc) := by
            rw [← hWy]
            exact (cy.cell (World.block_lt_of_cell? Wz _ hIz.cells.2.2.2.1) (by intro e; have e' : b7 = b12 := e; omega)).trans hIz.cells.2.2.2.1
          have e12' : (Wz.setCell ⟨b12, 0, none⟩ (.int .i64 ((k2 : Int) + 1))).cell? ⟨b12, 0, none⟩ = some (.int .i64 ((k2 : Int) + 1)) := by rw [← hWy, (cells_at xy 0).1]; rfl
          have KY : Hid ((∀ i, One W2.heap.size i → Wy.heap[i]? = Wz.heap[i]?) ∧ (Kp W1 Wy ∧ Wy.heap[b12]? = some (.cells #[.int .i64 (((k2 + 1 : Nat) : Nat) : Int)] 3 (0, 0))) ∧ lKp 1 W2 f b' Wz Wy) := by
            have s1 := K1.out.2.2.2.1
            refine ⟨fun i hi => cy.block i (by have e' : i = W2.heap.size := hi; omega) (by intro e; have e' : i = W2.heap.size := hi; omega), ⟨Chg.trans kz cy (fun i hi e => by omega), xy⟩, fun hb h1 => ?_⟩
            have hbl : b' < Wz.heap.size := World.block_lt_of_cell? Wz _ h1
            exact (cy.cell hbl (by intro e; omega)).trans h1
          clear hIz hll kz xz cy xy nb n7 hk2 hrz hsz hseq3
          gi_wp2
          rw [← hWy]
          exact KY.out
        case done3 =>
          rintro b' Wz ⟨kz, xz⟩
          have hIz := K1.out.1.kept K0.out.2.1 kz
          obtain ⟨d3, d4, d5, d7, d8, d9, g9⟩ := hIz.cells
          have hOt := fun x => others_any Wz q B F R P M s (H.out.kp hIz.kp) x
          have e12 : Wz.cell? ⟨b12, 0, none⟩ = some (.int .i64 (ll : Nat)) := by rw [(cells_at xz 0).1, K0.out.2.2.2.1]; rfl
          have KZ : Hid (LiI w q B b3 b7 b8 bg bc b9 c m (.slice (some ⟨g, 0, none⟩) ll vc) (lns f) Wz (k + 1) ∧ Kp W1 Wz ∧ Wz.heap[b12]? = some (.cells #[.int .i64 (((lns f).length : Nat) : Int)] 3 (0, 0))) := ⟨hIz, kz, xz⟩
          clear hIz kz xz hseq3
          gi_wp2_with fail
          refine ⟨trivial, ?_⟩
          gi_at_call 50
          refine (callsIn_wide.2 (hOt _)).mono ?_
          rintro e Wf ⟨rfl, kf⟩
          have d7' := Kp.cell kf d7
          have e12' := Kp.cell kf e12
          have KE := KF.out Wf (Kp.trans KZ.out.2.1 kf)
          clear hOt d3 d4 d5 d7 d8 d9 g9 e12 kf
          gi_wp2
          exact KE
      case done2 =>
        rintro b W2 ⟨hI, hD⟩ hD2
        obtain ⟨d3, d4, d5, d7, d8, d9, g9⟩ := hI.cells
        have hll := K0.out.2.2.2.1
        rw [← hll] at d9
        have x6 := hI.x6
        have e6 : W2.cell? ⟨b3 + 1 + 1 + 1, 0, none⟩ = some (.bool false) := by rw [(cells_at x6 0).1]; rfl
        have f6 : W2.frozen? ⟨b3 + 1 + 1 + 1, 0, none⟩ = false := (cells_at x6 0).2
        obtain ⟨W3, hW3⟩ : ∃ W3, W3 = W2.setCell ⟨b3 + 1 + 1 + 1, 0, none⟩ (.bool true) := ⟨_, rfl⟩
        have c3 : Chg W2 W3 (fun i => i = b3 + 1 + 1 + 1) := by rw [hW3]; exact Chg.setCell (S := fun i => i = b3 + 1 + 1 + 1) (Chg.refl _ _) (.inl rfl) _
        have n1 := K0.out.2.1.h3
        have n2 := K0.out.2.1.w3
        have n3 := K0.out.2.2.1
        have n4 := K9.out.2.2
        have HE : Hid (Kp w W3 ∧ W3.heap[b3 + 1 + 1 + 1]? = some (.cells #[.bool true] 4 (0, 0)) ∧ W3.heap[W9.heap.size]? = some (.deferred (some [])) ∧ W3.heap[w7.heap.size]? = some (.deferred (some []))) := ⟨Chg.trans hI.kp c3 (fun i hi e => by omega), by rw [hW3]; exact heap_setCell_same W2 (b3 + 1 + 1 + 1) 0 _ 4 _ x6, c3.heap hD2 (by omega), c3.heap hD (by omega)⟩
        clear hI hD hD2 x6 c3 hseq2 d3 d4 d5 d8 hll
        go_wp2
        rw [← hW3]
        obtain ⟨z1, z2, z3, z4⟩ := HE.out
        refine ⟨by simp, .inl ⟨_, _, rfl, run_takeDeferred z3, ?_⟩⟩
        have y4 : (W3.putObj W9.heap.size (.deferred none)).heap[w7.heap.size]? = some (.deferred (some [])) := by rw [World.putObj_heap_other (by omega)]; exact z4
        refine ⟨by simp, .inl ⟨_, _, rfl, run_takeDeferred y4, ?_⟩⟩
        have g8 : ((W3.putObj W9.heap.size (.deferred none)).putObj w7.heap.size (.deferred none)).heap[b3 + 1 + 1 + 1]? = some (.cells #[.bool true] 4 (0, 0)) := by rw [World.putObj_heap_other (by omega), World.putObj_heap_other (by omega)]; exact z2
        refine ⟨_, results_boxB rfl _ _ (b3 + 1 + 1 + 1) true rfl (by rw [(cells_at g8 0).1]; rfl), rfl, ?_⟩
        exact Chg.putObj (Chg.putObj z1 (.inr (by omega)) _) (.inr (by omega)) _

  clear hK
  refine (wpIn_wide (n := 8)).1 ?_
  refine range_own (gf := 38) rfl (enters_of Try.func38 (by kernel_rfl) rfl) hseq (fun _ _ => rfl)
    (fun _ k W => LiI w q B b3 b7 b8 bg bc b9 c m (.slice va ll vc) (lns f) W k) (fun c' W => c' = .exit 0 ∧ ∃ j : Nat, (j : Int) = m ∧ LiI w q B b3 b7 b8 bg bc b9 c m (.slice va ll vc) (lns f) W j) ?_ ?_ ?_ ?_ ?_
    (fun _ k a' W => a' = { tmps := #[Value.pointer (some { block := q, off := 0 }), Value.int IntKind.i64 c, Value.int IntKind.i64 m, Value.pointer (some { block := b3, off := 0 }), Value.pointer (some { block := b3 + 1, off := 0 }), Value.pointer (some { block := b3 + 1 + 1, off := 0 }), Value.pointer (some { block := b3 + 1 + 1 + 1, off := 0 }), Value.pointer (some { block := b7, off := 0 }), Value.pointer (some { block := b8, off := 0 }), Value.pointer (some { block := b9, off := 0 }), Value.int IntKind.i64 ↑(lnA f k), undef, undef, undef, Value.pointer (some { block := q, off := 0 }), Value.pointer (some { block := q, off := 0 }), Value.pointer (some { block := q, off := 1 }), Value.pointer (some { block := F, off := 0 }), Value.int IntKind.i64 c, Value.slice va ll vc, Value.pointer (some { block := q, off := 0 }), Value.pointer (some { block := q, off := 0 }), Value.pointer (some { block := q, off := 0 }), Value.pointer (some { block := B, off := 0 }), Value.int IntKind.i64 c, Value.func (Fn.func 38) #[] #[Value.pointer (some { block := bg, off := 0 }), Value.pointer (some { block := bc, off := 0 })], Value.func (Fn.func 38) #[] #[Value.pointer (some { block := bg, off := 0 }), Value.pointer (some { block := bc, off := 0 })], Value.bool false, Value.func (Fn.func 38) #[] #[Value.pointer (some { block := bg, off := 0 }), Value.pointer (some { block := bc, off := 0 })], Value.int IntKind.i64 ↑(lnA f k), undef, undef, undef, undef, undef, undef, undef, undef, undef, undef, undef, undef, undef, undef, undef, undef, undef, undef, undef, undef, undef, undef, undef, undef, undef, undef, undef, undef, undef, undef, undef, undef, undef, undef, undef, undef, undef, undef, undef, undef, undef, undef, undef, undef, undef, undef, undef, undef, undef, undef, undef, undef, undef, undef, undef, undef, undef, undef, undef, undef, undef, undef, undef, undef, undef, undef], defers := [] }) (fun _ _ _ _ _ h _ => h) ?assign ?body ?done ?stop
  · rintro _ k A C hA hC
    exact hA.keep K0.out.2.1 hC (fun i hi e => by have := K0.out.2.2.1; rcases e with e | e <;> omega)
  · rintro c' A C ⟨h0, j, hj, hA⟩ hC
    exact ⟨h0, j, hj, hA.keep K0.out.2.1 hC (fun i hi e => by have := K0.out.2.2.1; rcases e with e | e <;> omega)⟩
  · rintro b A C D hAC hK hb h1
    have hbl : b < A.heap.size := World.block_lt_of_cell? A _ h1
    exact hK hb ((hAC.cell hbl (by rintro (e | e) <;> omega)).trans h1)
  · rintro b A C D hK hCD hb h
    have h1 := hK hb h
    have hbl : b < C.heap.size := World.block_lt_of_cell? C _ h1
    exact (hCD.cell hbl (by rintro (e | e) <;> omega)).trans h1
  · intro b W W1 hW hs hG
    exact ⟨K0.out.1.kept K0.out.2.1 (Kp.trans hW hG.1), hG.1⟩
  case assign =>
    rintro b k W K' hk hI hs hK'
    unfold lArgs
    clear hI hk hs HK
    gi_wp2
    exact hK' _ _ (Chg.refl _ _) rfl
  case body =>
    rintro b k a' W hk hI rfl hs
    obtain ⟨q1, q2, q3, q4, q5⟩ := K0.out
    obtain ⟨g, eva, cl⟩ := hI.thing k hk
    obtain ⟨e3, e4, e5, e7, e8, e9, f9⟩ := hI.cells
    have hkl : (k : Int) < (ll : Int) := by omega
    have hkn : ¬ ((ll : Int) ≤ (k : Int)) := by omega
    have hk32 : (k : Int) < 32 := by have := lns_len f; omega
    have ek : ((k + 1 : Nat) : Int) = (k : Int) + 1 := by omega
    obtain ⟨hI1, c2⟩ := hI.set q2 (k + 1)
    rw [ek] at hI1 c2
    obtain ⟨W1, hW1⟩ : ∃ W1, W1 = W.setCell ⟨b9, 0, none⟩ (.int .i64 ((k : Int) + 1)) := ⟨_, rfl⟩
    rw [← hW1] at hI1 c2
    have e5' : (W.setCell ⟨b9, 0, none⟩ (.int .i64 ((k : Int) + 1))).cell? ⟨b3 + 1 + 1, 0, none⟩ = some (.int .i64 m) := by rw [← hW1]; exact hI1.cells.2.2.1
    have e9' : (W.setCell ⟨b9, 0, none⟩ (.int .i64 ((k : Int) + 1))).cell? ⟨b9, 0, none⟩ = some (.int .i64 ((k : Int) + 1)) := by rw [← hW1, hI1.cells.2.2.2.2.2.1, ek]
    have KX : Hid ((∀ i, Two w7.heap.size i → W1.heap[i]? = W.heap[i]?) ∧ LiI w q B b3 b7 b8 bg bc b9 c m (.slice va ll vc) (lns f) W1 (k + 1) ∧ lKp 2 w7 f b W W1) := by
      refine ⟨fun i hi => c2.block i (by rcases hi with e | e <;> omega) (by intro e; rcases hi with e' | e' <;> omega), hI1, fun hb h1 => ?_⟩
      have hbl : b < W.heap.size := World.block_lt_of_cell? W _ h1
      exact (c2.cell hbl (by intro e; omega)).trans h1
    clear hI hI1 c2 q1 q2 q3 q4 q5 hk hs hseq ek HK
    subst eva
    generalize lnA f k = ln at *
    by_cases hm : (k : Int) + 1 = m
    · subst hm
      gi_wp2
      rw [← hW1]
      exact ⟨KX.out.1, rfl, k + 1, by omega, KX.out.2.1⟩
    · have hmb : ((k : Int) + 1 == m) = false := by rw [beq_eq_false_iff_ne]; exact hm
      gi_wp2
      rw [← hW1]
      exact KX.out
  case done =>
    rintro b W2 hI hD
    exact HK.out W2 _ hI (.inr K0.out.2.2.2.1.symm) hD
  case stop =>
    rintro c' W2 ⟨rfl, j, hj, hI⟩ hD
    have hk := HK.out W2 j hI (.inl hj) hD
    gi_wp2
    exact hk
end Go.Proofs.Ytkndlkcbhpfjoaa
