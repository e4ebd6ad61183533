import Derived.Test.YtadpgaaijdpbiaaSo
namespace Go.Proofs.Ytadpgaaijdpbiaa
open Go.ChangeShapes Go.WideShapes Go.ChangeAt Go.RowKit Go.Shelf
set_option linter.unusedVariables false
attribute [local go_sem] Oper.semAt_some

set_option maxHeartbeats 1000000 in
set_option maxRecDepth 200000 in
theorem Slots_any (w : World) (B M : Nat) (v : Value) (n k : Nat) (s : Sta) (hT : IsT w B M v n k s) :
    Calls Try.prog 21 #[.pointer (some ⟨B, 0, none⟩)] w fun e w' => ∃ lv, e = .returned lv ∧ SR w' lv s.slots ∧ (∀ b, lv.ownBlock = some b → w.heap.size ≤ b) ∧ Kp w w' := by
  have hL64 : s.slots.length ≤ 64 := by rw [s.slots_len]; have := hT.ok.len; have := hT.n64; omega
  have H : Hid (IsT w B M v n k s) := hT
  clear hT
  refine (callsIn_wide (n := 4)).1 ?_
  refine callsIn_of_wp_marks Try.func21 rfl trivial ?_ rfl
  simp only [Try.ntmps21, List.size_toArray, List.length_cons, List.length_nil, Nat.reduceAdd, Nat.reduceSub, Array.replicate_succ, Array.replicate_zero, List.push_toArray, List.append_toArray, List.nil_append, List.cons_append]
  gi_wp2_with (refine ⟨trivial, ?_⟩; gi_at_call 20; refine (callsIn_wide.2 (All_any _ _)).mono ?_; rintro e w' ⟨rfl, rfl⟩)
  obtain ⟨w1, hw1⟩ : ∃ w1, w1 = w.alloc (.cells #[.slice none 0 0] 55) := ⟨_, rfl⟩
  obtain ⟨w2, hw2⟩ : ∃ w2, w2 = w1.alloc (.cells #[.pointer (some ⟨B, 0, none⟩)] 26) := ⟨_, rfl⟩
  have s1 : w1.heap.size = w.heap.size + 1 := by rw [hw1]; simp
  have s2 : w2.heap.size = w.heap.size + 2 := by rw [hw2]; simp; omega
  have k1 : Kp w w1 := by rw [hw1]; exact (Chg.refl w _).alloc _
  have k2 : Kp w1 w2 := by rw [hw2]; exact (Chg.refl w1 _).alloc _
  have b0 : w2.heap[w.heap.size]? = some (.cells #[.slice none 0 0] 55 (0, 0)) := k2.heap (by rw [hw1]; exact heap_alloc_new w _)
  have b1 : w2.heap[w.heap.size + 1]? = some (.cells #[.pointer (some ⟨B, 0, none⟩)] 26 (0, 0)) := by rw [hw2, ← s1]; exact heap_alloc_new w1 _
  rw [← hw1, ← hw2]
  have hseq := all_seq w2 2 B M v n k s (H.out.kp (Kp.trans k1 k2)) (w.heap.size + 1) (by rw [(cells_at b1 _).1]; rfl)
  have K : Hid (Kp w w2 ∧ w2.heap[w.heap.size]? = some (.cells #[.slice none 0 0] 55 (0, 0)) ∧ w2.heap.size = w.heap.size + 2) := ⟨Kp.trans k1 k2, b0, s2⟩
  clear hw1 hw2 k1 k2 b0 b1 s1 s2
  obtain ⟨bl, hbl⟩ : ∃ bl, bl = w.heap.size := ⟨_, rfl⟩
  have KB : Hid (bl = w.heap.size) := hbl
  rw [← hbl] at hseq ⊢
  clear hbl
  refine range_own (gf := 37) rfl (enters_of Try.func37 (by kernel_rfl) rfl) hseq (fun _ _ => rfl)
    (fun g k W => ∃ lv, SI w (w2.heap.size + 2) bl s g k W lv)
    (fun _ _ => False) ?_ (fun _ _ _ h _ => h) ?_ ?_ ?_
    (fun g k a' W => ∃ b4 b5, w2.heap.size + 2 ≤ b4 ∧ w2.heap.size + 2 ≤ b5 ∧ W.heap[b4]? = some (.cells #[.int .i64 (sAt s k).1.1, .int .u32 (((sAt s k).1.2 : Nat) : Int)] 31 (0, 0)) ∧ W.heap[b5]? = some (.cells #[.int .u32 (((sAt s k).2.1 : Nat) : Int), .int .u8 (((sAt s k).2.2 : Nat) : Int)] 36 (0, 0)) ∧
      a' = { tmps := #[Value.pointer (some { block := B, off := 0 }), undef, Value.slice none 0 0, Value.pointer (some { block := bl, off := 0 }), .pointer (some ⟨b4, 0, none⟩), .pointer (some ⟨b5, 0, none⟩), Value.pointer (some { block := B, off := 0 }),
          Value.func (Fn.func 37) #[] #[Value.pointer (some { block := bl + 1, off := 0 })], .agg #[.int .i64 (sAt s k).1.1, .int .u32 (((sAt s k).1.2 : Nat) : Int)], .agg #[.int .u32 (((sAt s k).2.1 : Nat) : Int), .int .u8 (((sAt s k).2.2 : Nat) : Int)],
          undef, undef, undef, undef, undef, undef, undef], defers := [] }) ?_ ?assign ?body ?done (fun _ _ h => h.elim)
  · rintro g k A C ⟨lv, h⟩ hC
    exact ⟨lv, h.two hC (by have := K.out.2.2; have := KB.out; omega) (by have := K.out.2.2; omega)⟩
  · intro g A C D hAC hK hg hrow
    exact hK hg (Chg.heap hAC hrow (by rintro (e | e) <;> omega))
  · intro g A C D hK hCD hg hrow
    exact Chg.heap hCD (hK hg hrow) (by rintro (e | e) <;> omega)
  · intro g W W1 hW hs hG
    obtain ⟨q1, q2, q3⟩ := K.out
    obtain ⟨g1, g2, g3⟩ := hG
    have hbl := KB.out
    have hq : Kp w2 W1 := Kp.trans hW g1
    refine ⟨⟨_, hq.heap (by rw [hbl]; exact q2), by rw [List.take_zero]; exact World.ownsRow_nil _ 0 58 4, fun b hb => (by cases hb), by omega, (Array.getElem?_eq_some_iff.1 g3).1, Kp.trans q1 hq⟩, g1⟩
  · rintro g k a' A C ⟨b4, b5, h1, h2, h3, h4, h5⟩ hC
    exact ⟨b4, b5, h1, h2, hC.heap h3 (by rintro (e | e) <;> omega), hC.heap h4 (by rintro (e | e) <;> omega), h5⟩
  case assign =>
    rintro g k W K' hk hI hs hK'
    unfold aArgs
    gi_wp2
    refine hK' _ _ (((Chg.refl _ _).alloc _).alloc _) ⟨W.heap.size, W.heap.size + 1, hs, by omega, al_old _ (heap_alloc_new W _), ?_, rfl⟩
    have := heap_alloc_new (W.alloc (.cells #[.int .i64 (sAt s k).1.1, .int .u32 (((sAt s k).1.2 : Nat) : Int)] 31)) (.cells #[.int .u32 (((sAt s k).2.1 : Nat) : Int), .int .u8 (((sAt s k).2.2 : Nat) : Int)] 36)
    rw [al_size] at this
    exact this
  case body =>
    rintro g k a' W hk ⟨lv, hI⟩ ⟨b4, b5, hb4, hb5, hx4, hx5, rfl⟩ hs
    obtain ⟨la, lc, hlv⟩ := hI.row.form
    generalize (s.slots.take k).length = lk at hlv
    subst hlv
    obtain ⟨x, hx⟩ : ∃ x, x = sAt s k := ⟨_, rfl⟩
    rw [← hx] at hx4 hx5 ⊢
    obtain ⟨q1, q2, q3⟩ := K.out
    have hbl := KB.out
    obtain ⟨v', W', hr, ⟨ga, na, ca, hv'⟩, hz, hf, hI', hC'⟩ := hI.more hk hL64 x hx (by omega) (by omega) (by omega) hs
    obtain ⟨z, hz⟩ := hz
    obtain ⟨c0, c1, _, _⟩ := cells2 hx4
    obtain ⟨d0, d1, _, _⟩ := cells2 hx5
    have cl : W.cell? ⟨bl, 0, none⟩ = some (.slice la lk lc) := by rw [(cells_at hI.box _).1]; rfl
    have KW : Hid ((∃ lv, SI w (w2.heap.size + 2) bl s g (k + 1) (W'.setCell ⟨bl, 0, none⟩ v') lv) ∧ Chg W (W'.setCell ⟨bl, 0, none⟩ v') (fun i => i = bl ∨ (Value.slice la lk lc).ownBlock = some i) ∧ (∀ b, (Value.slice la lk lc).ownBlock = some b → w2.heap.size + 2 ≤ b ∧ b ≠ g) ∧ bl < w2.heap.size) := ⟨⟨_, hI'⟩, hC', hI.ap, by omega⟩
    subst hv'
    clear hI hI' hC' hx4 hx5 q1 q2 q3 hx hbl
    gi_wp2_with (gi_at_builtin; refine wpListIn_append_run _ rfl (.tmp 10) (.tmp 14) 55 55 rfl _ _ _ W' rfl rfl hr ?_)
    obtain ⟨y1, y2, y3, y4⟩ := KW.out
    refine ⟨fun i hi => ?_, y1, fun hg hrow => ?_⟩
    · have hil : i < W.heap.size := by rcases hi with e | e <;> omega
      refine y2.block i hil (fun e => ?_)
      rcases e with e | e
      · rcases hi with e' | e' <;> omega
      · have := (y3 i e).1
        rcases hi with e' | e' <;> omega
    · refine Chg.heap y2 hrow (fun e => ?_)
      rcases e with e | e
      · omega
      · exact (y3 g e).2 rfl
  case done =>
    rintro g W ⟨lv, hI⟩ hD
    obtain ⟨la, lc, hlv⟩ := hI.row.form
    generalize (s.slots.take s.slots.length).length = lk at hlv
    subst hlv
    obtain ⟨q1, q2, q3⟩ := K.out
    have hbl := KB.out
    have hc : Chg W (W.putObj w2.heap.size (.deferred none)) (Two w2.heap.size) := Chg.putObj (Chg.refl _ _) (.inl (.inl rfl)) _
    have hI2 := hI.two hc (by omega) (by omega)
    have cl : W.cell? ⟨bl, 0, none⟩ = some (.slice la lk lc) := by rw [(cells_at hI.box _).1]; rfl
    have KF : Hid (SR (W.putObj w2.heap.size (.deferred none)) (.slice la lk lc) s.slots ∧ (∀ b, (Value.slice la lk lc).ownBlock = some b → w.heap.size ≤ b) ∧ Kp w (W.putObj w2.heap.size (.deferred none))) := by
      refine ⟨?_, fun b hb => by have := (hI.ap b hb).1; omega, hI2.kp⟩
      have := hI2.row
      rw [List.take_of_length_le (Nat.le_refl _)] at this
      exact this
    clear hc hI hI2 q1 q2 q3 hbl
    gi_wp2
    refine ⟨by simp, .inl ⟨_, _, rfl, run_takeDeferred hD, ?_⟩⟩
    refine ⟨_, results_tmp rfl _ _ _, ?_⟩
    exact ⟨_, rfl, KF.out⟩
end Go.Proofs.Ytadpgaaijdpbiaa
