import Derived.Test.YtadpgaaijdpbiaaAs
namespace Go.Proofs.Ytadpgaaijdpbiaa
open Go.ChangeShapes Go.WideShapes Go.ChangeAt Go.RowKit Go.Shelf
set_option linter.unusedVariables false
attribute [local go_sem] Oper.semAt_some

theorem wpListIn_append_run {F : Fence} {n : Nat} {P : Program} (w : World) {ops : Array Oper} {rest : List Oper} {o : Oper} {a : Act} {Q : Exit → Act → World → Prop} (hgd : o.guard = none) (s x : Operand) (t u : TypeId)
    (ho : o.op = .call { callee := .builtin .append, args := #[s, x], argTypes := #[t, u] }) (v y v' : Value) (w' : World)
    (hs : a.eval s = v) (hx : a.eval x = y) (hrun : (Builtin.append_ #[t, u] o.type #[v, y]).run P w = .ok v' w')
    (h : wpListIn F n P ops Q rest (a.put o.dst v') w') : wpListIn F n P ops Q (o :: rest) a w := by
  refine wpListIn_plain hgd fun K hK => ?_
  unfold Oper.wpIn
  refine ⟨?_, ?_⟩
  · simp [Oper.about, ho, resolve, Target.leads, Sem.run_pure]
  · rw [Oper.semAt_plain F _ _ (by rw [ho]; intro c hc'; cases hc')]
    simp [execOp, ho, resolve, invoke, builtin, hs, hx, hrun, Result.andThen]
    exact hK _ _ h

/-- The list that is being made. -/
structure SI (w : World) (base bl : Nat) (s : Sta) (g k : Nat) (W : World) (lv : Value) : Prop where
  box : W.heap[bl]? = some (.cells #[lv] 55 (0, 0))
  row : SR W lv (s.slots.take k)
  ap : ∀ b, lv.ownBlock = some b → base ≤ b ∧ b ≠ g
  g1 : base ≤ g
  g2 : g < W.heap.size
  kp : Kp w W
theorem SI.two {w : World} {s0 bl : Nat} {s : Sta} {g k : Nat} {A C : World} {lv : Value} (h : SI w (s0 + 2) bl s g k A lv) (hC : Chg A C (Two s0)) (hbl : bl < s0) (hs : w.heap.size ≤ s0) : SI w (s0 + 2) bl s g k C lv := by
  refine ⟨hC.heap h.box (by rintro (e | e) <;> omega), Chg.owns hC h.row (fun b hb e => ?_), h.ap, h.g1, Nat.lt_of_lt_of_le h.g2 hC.size, Chg.trans h.kp hC (fun i hi e => by rcases e with e | e <;> omega)⟩
  have := (h.ap b hb).1
  rcases e with e | e <;> omega
theorem SI.later {w : World} {base bl : Nat} {s : Sta} {g k : Nat} {A C : World} {lv : Value} (h : SI w base bl s g k A lv) (hC : Kp A C) : SI w base bl s g k C lv :=
  ⟨hC.heap h.box, Chg.owns hC h.row (fun _ _ x => x), h.ap, h.g1, Nat.lt_of_lt_of_le h.g2 hC.size, Kp.trans h.kp hC⟩
theorem SI.more {w : World} {base bl : Nat} {s : Sta} {g k : Nat} {A : World} {lv : Value} (h : SI w base bl s g k A lv) (hk : k < s.slots.length) (h64 : s.slots.length ≤ 64) (x : Sl4) (hx : x = sAt s k) (hbl : w.heap.size ≤ bl) (hbb : bl < base) (hwb : w.heap.size ≤ base) (hA : base ≤ A.heap.size) :
    ∃ v' W', (Builtin.append_ #[55, 55] 55 #[lv, .slice (some ⟨A.heap.size, 0, none⟩) 1 1]).run Try.prog (A.alloc (.cells #[.int .i64 x.1.1, .int .u32 ((x.1.2 : Nat) : Int), .int .u32 ((x.2.1 : Nat) : Int), .int .u8 ((x.2.2 : Nat) : Int)] 58)) = .ok v' W' ∧
      (∃ ga na ca, v' = .slice (some ⟨ga, 0, none⟩) na ca) ∧ (∃ z, W'.cell? ⟨bl, 0, none⟩ = some z) ∧ W'.frozen? ⟨bl, 0, none⟩ = false ∧ SI w base bl s g (k + 1) (W'.setCell ⟨bl, 0, none⟩ v') v' ∧ Chg A (W'.setCell ⟨bl, 0, none⟩ v') (fun i => i = bl ∨ lv.ownBlock = some i) := by
  obtain ⟨i58, z58, h58, hz58, hs58, hb58, hzs58⟩ := info58
  have hkA : Kp A (A.alloc (.cells #[.int .i64 x.1.1, .int .u32 ((x.1.2 : Nat) : Int), .int .u32 ((x.2.1 : Nat) : Int), .int .u8 ((x.2.2 : Nat) : Int)] 58)) := (Chg.refl A _).alloc _
  have hnw := heap_alloc_new A (.cells #[.int .i64 x.1.1, .int .u32 ((x.1.2 : Nat) : Int), .int .u32 ((x.2.1 : Nat) : Int), .int .u8 ((x.2.2 : Nat) : Int)] 58)
  have h1 := h.later hkA
  have hlen : (s.slots.take k).length = k := by rw [List.length_take]; omega
  obtain ⟨v', W', hr, q1, q2, q3⟩ := run_app (P := Try.prog) _ 55 55 58 i58 z58 4 24 Try.underlying55 h58 hz58 hs58 hb58 hzs58 (by omega) lv (s.slots.take k).length (scs (s.slots.take k)) h1.row (some ⟨A.heap.size, 0, none⟩) 1 1 (scs [x]) (by simp [scs]) (.inr ⟨_, _, rfl, fun j u hu => by
    rw [(cells_at hnw _).1, Nat.zero_add, ← hu]; simp [scs]⟩) (scs_one _) (by simp [maxLen]; omega) (by omega)
  have hC : Chg (A.alloc (.cells #[.int .i64 x.1.1, .int .u32 ((x.1.2 : Nat) : Int), .int .u32 ((x.2.1 : Nat) : Int), .int .u8 ((x.2.2 : Nat) : Int)] 58)) W' (fun i => lv.ownBlock = some i) := Chg.grown (Chg.refl _ _) q2 (fun k e => .inl e)
  have hblA : bl < A.heap.size := by omega
  have hlb : ∀ b, lv.ownBlock = some b → b ≠ bl := fun b hb e => by have := (h.ap b hb).1; omega
  have hbox := Chg.heap hC h1.box (fun e => hlb bl e rfl)
  have hset := heap_setCell_same W' bl 0 _ 55 v' hbox
  have hCs : Chg W' (W'.setCell ⟨bl, 0, none⟩ v') (fun i => i = bl) := Chg.setCell (S := fun i => i = bl) (Chg.refl W' _) (.inl rfl) _
  have e2 : s.slots.take (k + 1) = s.slots.take k ++ [x] := by
    rw [List.take_add_one, List.getElem?_eq_getElem hk, hx, sAt_get s k hk]; rfl
  rw [← scs_app, ← e2] at q1
  have hlen2 : (s.slots.take (k + 1)).length = (s.slots.take k).length + 1 := by rw [e2]; simp
  rw [← hlen2] at q1
  have q1' : SR W' v' (s.slots.take (k + 1)) := q1
  have hnew : ∀ b, v'.ownBlock = some b → base ≤ b ∧ b ≠ g := fun b hb => by
    rcases q3 with e | ⟨i, hi, his⟩
    · exact h.ap b (by rw [← e]; exact hb)
    · rw [hi] at hb; cases hb
      simp at his
      have := h.g2
      omega
  refine ⟨v', W', hr, ?_, ⟨_, by rw [(cells_at hbox _).1]; rfl⟩, (cells_at hbox _).2, ⟨hset, Chg.owns hCs q1' (fun b hb e => ?_), hnew, h.g1, ?_, ?_⟩, ?_⟩
  · rcases q1'.2 with ⟨_, h0⟩ | ⟨ga, ca, cur, hv, _⟩
    · rw [hlen2] at h0; omega
    · exact ⟨ga, _, ca, hv⟩
  · have := (hnew b hb).1; omega
  · have h3 := hkA.size
    have h4 := hC.size
    have h5 := hCs.size
    have := h.g2
    omega
  · exact Chg.trans (Chg.trans h1.kp hC (fun i hi e => by have := (h.ap i e).1; omega)) hCs (fun i hi e => by omega)
  · exact Chg.trans (Chg.trans (hkA.mono (fun _ _ h => h.elim)) hC (fun i _ e => .inr e)) hCs (fun i _ e => .inl e)
end Go.Proofs.Ytadpgaaijdpbiaa
namespace Go.Proofs.Ytadpgaaijdpbiaa
open Go.ChangeShapes Go.WideShapes Go.ChangeAt Go.RowKit Go.Shelf
set_option linter.unusedVariables false
attribute [local go_sem] Oper.semAt_some

set_option maxHeartbeats 1000000 in
set_option maxRecDepth 200000 in
theorem Slots_any (w : World) (B M : Nat) (v : Value) (n k : Nat) (s : Sta) (hT : IsT w B M v n k s) :
    Calls Try.prog 21 #[.pointer (some ⟨B, 0, none⟩)] w fun e w' => ∃ lv, e = .returned lv ∧ SR w' lv s.slots ∧ (∀ b, lv.ownBlock = some b → w.heap.size ≤ b) ∧ Kp w w' := by
  have hL64 : s.slots.length ≤ 64 := by rw [s.slots_len]; have := hT.ok.len; have := hT.n64; omega
  have H : Hid (IsT w B M v n k s) := hT
  clear hT
  refine (callsIn_wide (n := 4)).1 ?_
  refine callsIn_of_wp_marks Try.func21 rfl trivial ?_ rfl
  simp only [Try.ntmps21, List.size_toArray, List.length_cons, List.length_nil, Nat.reduceAdd, Nat.reduceSub, Array.replicate_succ, Array.replicate_zero, List.push_toArray, List.append_toArray, List.nil_append, List.cons_append]
  gi_wp2_with (refine ⟨trivial, ?_⟩; gi_at_call 20; refine (callsIn_wide.2 (All_any _ _)).mono ?_; rintro e w' ⟨rfl, rfl⟩)
  obtain ⟨w1, hw1⟩ : ∃ w1, w1 = w.alloc (.cells #[.slice none 0 0] 55) := ⟨_, rfl⟩
  obtain ⟨w2, hw2⟩ : ∃ w2, w2 = w1.alloc (.cells #[.pointer (some ⟨B, 0, none⟩)] 26) := ⟨_, rfl⟩
  have s1 : w1.heap.size = w.heap.size + 1 := by rw [hw1]; simp
  have s2 : w2.heap.size = w.heap.size + 2 := by rw [hw2]; simp; omega
  have k1 : Kp w w1 := by rw [hw1]; exact (Chg.refl w _).alloc _
  have k2 : Kp w1 w2 := by rw [hw2]; exact (Chg.refl w1 _).alloc _
  have b0 : w2.heap[w.heap.size]? = some (.cells #[.slice none 0 0] 55 (0, 0)) := k2.heap (by rw [hw1]; exact heap_alloc_new w _)
  have b1 : w2.heap[w.heap.size + 1]? = some (.cells #[.pointer (some ⟨B, 0, none⟩)] 26 (0, 0)) := by rw [hw2, ← s1]; exact heap_alloc_new w1 _
  rw [← hw1, ← hw2]
  have hseq := all_seq w2 2 B M v n k s (H.out.kp (Kp.trans k1 k2)) (w.heap.size + 1) (by rw [(cells_at b1 _).1]; rfl)
  have K : Hid (Kp w w2 ∧ w2.heap[w.heap.size]? = some (.cells #[.slice none 0 0] 55 (0, 0)) ∧ w2.heap.size = w.heap.size + 2) := ⟨Kp.trans k1 k2, b0, s2⟩
  clear hw1 hw2 k1 k2 b0 b1 s1 s2
  obtain ⟨bl, hbl⟩ : ∃ bl, bl = w.heap.size := ⟨_, rfl⟩
  have KB : Hid (bl = w.heap.size) := hbl
  rw [← hbl] at hseq ⊢
  clear hbl
  refine range_own (gf := 37) rfl (enters_of Try.func37 (by kernel_rfl) rfl) hseq (fun _ _ => rfl)
    (fun g k W => ∃ lv, SI w (w2.heap.size + 2) bl s g k W lv)
    (fun _ _ => False) ?_ (fun _ _ _ h _ => h) ?_ ?_ ?_
    (fun g k a' W => ∃ b4 b5, w2.heap.size + 2 ≤ b4 ∧ w2.heap.size + 2 ≤ b5 ∧ W.heap[b4]? = some (.cells #[.int .i64 (sAt s k).1.1, .int .u32 (((sAt s k).1.2 : Nat) : Int)] 31 (0, 0)) ∧ W.heap[b5]? = some (.cells #[.int .u32 (((sAt s k).2.1 : Nat) : Int), .int .u8 (((sAt s k).2.2 : Nat) : Int)] 36 (0, 0)) ∧
      a' = { tmps := #[Value.pointer (some { block := B, off := 0 }), undef, Value.slice none 0 0, Value.pointer (some { block := bl, off := 0 }), .pointer (some ⟨b4, 0, none⟩), .pointer (some ⟨b5, 0, none⟩), Value.pointer (some { block := B, off := 0 }),
          Value.func (Fn.func 37) #[] #[Value.pointer (some { block := bl + 1, off := 0 })], .agg #[.int .i64 (sAt s k).1.1, .int .u32 (((sAt s k).1.2 : Nat) : Int)], .agg #[.int .u32 (((sAt s k).2.1 : Nat) : Int), .int .u8 (((sAt s k).2.2 : Nat) : Int)],
          undef, undef, undef, undef, undef, undef, undef], defers := [] }) ?_ ?assign ?body ?done (fun _ _ h => h.elim)
  · rintro g k A C ⟨lv, h⟩ hC
    exact ⟨lv, h.two hC (by have := K.out.2.2; have := KB.out; omega) (by have := K.out.2.2; omega)⟩
  · intro g A C D hAC hK hg hrow
    exact hK hg (Chg.heap hAC hrow (by rintro (e | e) <;> omega))
  · intro g A C D hK hCD hg hrow
    exact Chg.heap hCD (hK hg hrow) (by rintro (e | e) <;> omega)
  · intro g W W1 hW hs hG
    obtain ⟨q1, q2, q3⟩ := K.out
    obtain ⟨g1, g2, g3⟩ := hG
    have hbl := KB.out
    have hq : Kp w2 W1 := Kp.trans hW g1
    refine ⟨⟨_, hq.heap (by rw [hbl]; exact q2), by rw [List.take_zero]; exact World.ownsRow_nil _ 0 58 4, fun b hb => (by cases hb), by omega, (Array.getElem?_eq_some_iff.1 g3).1, Kp.trans q1 hq⟩, g1⟩
  · rintro g k a' A C ⟨b4, b5, h1, h2, h3, h4, h5⟩ hC
    exact ⟨b4, b5, h1, h2, hC.heap h3 (by rintro (e | e) <;> omega), hC.heap h4 (by rintro (e | e) <;> omega), h5⟩
  case assign =>
    rintro g k W K' hk hI hs hK'
    unfold aArgs
    gi_wp2
    refine hK' _ _ (((Chg.refl _ _).alloc _).alloc _) ⟨W.heap.size, W.heap.size + 1, hs, by omega, al_old _ (heap_alloc_new W _), ?_, rfl⟩
    have := heap_alloc_new (W.alloc (.cells #[.int .i64 (sAt s k).1.1, .int .u32 (((sAt s k).1.2 : Nat) : Int)] 31)) (.cells #[.int .u32 (((sAt s k).2.1 : Nat) : Int), .int .u8 (((sAt s k).2.2 : Nat) : Int)] 36)
    rw [al_size] at this
    exact this
  case body =>
    rintro g k a' W hk ⟨lv, hI⟩ ⟨b4, b5, hb4, hb5, hx4, hx5, rfl⟩ hs
    obtain ⟨la, lc, hlv⟩ := hI.row.form
    generalize (s.slots.take k).length = lk at hlv
    subst hlv
    obtain ⟨x, hx⟩ : ∃ x, x = sAt s k := ⟨_, rfl⟩
    rw [← hx] at hx4 hx5 ⊢
    obtain ⟨q1, q2, q3⟩ := K.out
    have hbl := KB.out
    obtain ⟨v', W', hr, ⟨ga, na, ca, hv'⟩, hz, hf, hI', hC'⟩ := hI.more hk hL64 x hx (by omega) (by omega) (by omega) hs
    obtain ⟨z, hz⟩ := hz
    obtain ⟨c0, c1, _, _⟩ := cells2 hx4
    obtain ⟨d0, d1, _, _⟩ := cells2 hx5
    have cl : W.cell? ⟨bl, 0, none⟩ = some (.slice la lk lc) := by rw [(cells_at hI.box _).1]; rfl
    have KW : Hid ((∃ lv, SI w (w2.heap.size + 2) bl s g (k + 1) (W'.setCell ⟨bl, 0, none⟩ v') lv) ∧ Chg W (W'.setCell ⟨bl, 0, none⟩ v') (fun i => i = bl ∨ (Value.slice la lk lc).ownBlock = some i) ∧ (∀ b, (Value.slice la lk lc).ownBlock = some b → w2.heap.size + 2 ≤ b ∧ b ≠ g) ∧ bl < w2.heap.size) := ⟨⟨_, hI'⟩, hC', hI.ap, by omega⟩
    subst hv'
    clear hI hI' hC' hx4 hx5 q1 q2 q3 hx hbl
    gi_wp2_with (gi_at_builtin; refine wpListIn_append_run _ rfl (.tmp 10) (.tmp 14) 55 55 rfl _ _ _ W' rfl rfl hr ?_)
    obtain ⟨y1, y2, y3, y4⟩ := KW.out
    refine ⟨fun i hi => ?_, y1, fun hg hrow => ?_⟩
    · have hil : i < W.heap.size := by rcases hi with e | e <;> omega
      refine y2.block i hil (fun e => ?_)
      rcases e with e | e
      · rcases hi with e' | e' <;> omega
      · have := (y3 i e).1
        rcases hi with e' | e' <;> omega
    · refine Chg.heap y2 hrow (fun e => ?_)
      rcases e with e | e
      · omega
      · exact (y3 g e).2 rfl
  case done =>
    rintro g W ⟨lv, hI⟩ hD
    obtain ⟨la, lc, hlv⟩ := hI.row.form
    generalize (s.slots.take s.slots.length).length = lk at hlv
    subst hlv
    obtain ⟨q1, q2, q3⟩ := K.out
    have hbl := KB.out
    have hc : Chg W (W.putObj w2.heap.size (.deferred none)) (Two w2.heap.size) := Chg.putObj (Chg.refl _ _) (.inl (.inl rfl)) _
    have hI2 := hI.two hc (by omega) (by omega)
    have cl : W.cell? ⟨bl, 0, none⟩ = some (.slice la lk lc) := by rw [(cells_at hI.box _).1]; rfl
    have KF : Hid (SR (W.putObj w2.heap.size (.deferred none)) (.slice la lk lc) s.slots ∧ (∀ b, (Value.slice la lk lc).ownBlock = some b → w.heap.size ≤ b) ∧ Kp w (W.putObj w2.heap.size (.deferred none))) := by
      refine ⟨?_, fun b hb => by have := (hI.ap b hb).1; omega, hI2.kp⟩
      have := hI2.row
      rw [List.take_of_length_le (Nat.le_refl _)] at this
      exact this
    clear hc hI hI2 q1 q2 q3 hbl
    gi_wp2
    refine ⟨by simp, .inl ⟨_, _, rfl, run_takeDeferred hD, ?_⟩⟩
    refine ⟨_, results_tmp rfl _ _ _, ?_⟩
    exact ⟨_, rfl, KF.out⟩
end Go.Proofs.Ytadpgaaijdpbiaa
namespace Go.Proofs.Ytadpgaaijdpbiaa
open Go.ChangeShapes Go.WideShapes Go.ChangeAt Go.RowKit Go.Shelf
set_option linter.unusedVariables false
attribute [local go_sem] Oper.semAt_some

/-- Slots that can be read. -/
structure SlotsIn (w : World) (a : Option Addr) (len : Nat) (l : List Sl4) : Prop where
  ln : len = l.length
  src : len = 0 ∨ ∃ b off, a = some ⟨b, off, none⟩ ∧ b < w.heap.size ∧ ∀ i (h : i < l.length), w.cell? ⟨b, off + i * 4, none⟩ = some (.int .i64 (l[i]).1.1) ∧ w.cell? ⟨b, off + i * 4 + 1, none⟩ = some (.int .u32 (((l[i]).1.2 : Nat) : Int)) ∧ w.cell? ⟨b, off + i * 4 + 2, none⟩ = some (.int .u32 (((l[i]).2.1 : Nat) : Int)) ∧ w.cell? ⟨b, off + i * 4 + 3, none⟩ = some (.int .u8 (((l[i]).2.2 : Nat) : Int))
theorem SlotsIn.kept {w w' : World} {a : Option Addr} {len : Nat} {l : List Sl4} {S : Nat → Prop} (h : SlotsIn w a len l) (hc : Chg w w' S) (hS : ∀ x : Addr, a = some x → ¬ S x.block) : SlotsIn w' a len l := by
  refine ⟨h.ln, h.src.imp_right ?_⟩
  rintro ⟨b, off, rfl, hb, hh⟩
  have hn := hS _ rfl
  exact ⟨b, off, rfl, Nat.lt_of_lt_of_le hb hc.size, fun i hi => ⟨(hc.cell hb hn).trans (hh i hi).1, (hc.cell hb hn).trans (hh i hi).2.1, (hc.cell hb hn).trans (hh i hi).2.2.1, (hc.cell hb hn).trans (hh i hi).2.2.2⟩⟩
theorem SlotsIn.kp {w w' : World} {a : Option Addr} {len : Nat} {l : List Sl4} (h : SlotsIn w a len l) (hc : Kp w w') : SlotsIn w' a len l := h.kept hc (fun _ _ x => x)
theorem SR.slotsIn {w : World} {va : Option Addr} {n cap : Nat} {l : List Sl4} (h : SR w (.slice va n cap) l) (hn : n = l.length) : SlotsIn w va n l := by
  refine ⟨hn, ?_⟩
  rcases h.2 with ⟨h1, h0⟩ | ⟨g, cap', cur, h1, _, hg, _⟩
  · exact .inl (by omega)
  · simp at h1
    obtain ⟨rfl, rfl, rfl⟩ := h1
    refine .inr ⟨g, 0, rfl, (Array.getElem?_eq_some_iff.1 hg).1, fun i hi => ?_⟩
    have := SR.cells h i hi
    simpa using this
def bAt (l : List Sl4) (k : Nat) : Sl4 := l.getD k ((0, 0), (0, 0))
theorem bAt_get (l : List Sl4) (k : Nat) (h : k < l.length) : bAt l k = l[k] := by
  unfold bAt
  rw [List.getD_eq_getElem?_getD, List.getElem?_eq_getElem h]; rfl
def bArgs (l : List Sl4) (_ : Unit) (k : Nat) : Array Value := #[.int .i64 ((l.length : Int) - 1 - (k : Int)), .agg #[.int .i64 (bAt l (l.length - 1 - k)).1.1, .int .u32 (((bAt l (l.length - 1 - k)).1.2 : Nat) : Int), .int .u32 (((bAt l (l.length - 1 - k)).2.1 : Nat) : Int), .int .u8 (((bAt l (l.length - 1 - k)).2.2 : Nat) : Int)]]
def bKp (b : Nat) (a : Option Addr) (len cap : Nat) (l : List Sl4) (_ : Unit) (A C : World) : Prop := A.cell? ⟨b, 0, none⟩ = some (.slice a len cap) ∧ SlotsIn A a len l → C.cell? ⟨b, 0, none⟩ = some (.slice a len cap) ∧ SlotsIn C a len l

theorem Backward_any (w : World) (v : Value) (a : Option Addr) (len cap : Nat) (hv : v = .slice a len cap) :
    Calls Try.prog 39 #[v] w fun e w' => e = .returned (.func (.func 53) #[] #[.pointer (some ⟨w.heap.size, 0, none⟩)]) ∧ w' = w.alloc (.cells #[.slice a len cap] 55) := by
  subst hv
  go_enter Try.func39, Try.ntmps39
  go_wp2
  go_ret
  exact ⟨rfl, rfl⟩

set_option maxHeartbeats 1000000 in
set_option maxRecDepth 10000 in
theorem back_seq (w : World) (m b : Nat) (a : Option Addr) (len cap : Nat) (l : List Sl4) (hS : SlotsIn w a len l) (hb : w.cell? ⟨b, 0, none⟩ = some (.slice a len cap)) (h64 : len ≤ 1000) :
    Seq Try.prog (m + 1) 53 #[.pointer (some ⟨b, 0, none⟩)] len (bArgs l) (fun _ W W1 => Kp W W1) (bKp b a len cap l) w := by
  intro lo J Jx W hC hsz hJ h0 hY
  have cB : W.cell? ⟨b, 0, none⟩ = some (.slice a len cap) := Kp.cell hC hb
  have KI : Hid (J () 0 W ∧ W.cell? ⟨b, 0, none⟩ = some (.slice a len cap) ∧ SlotsIn W a len l) := ⟨h0 () W (Chg.refl _ _), cB, hS.kp hC⟩
  have HY : Hid (∀ (t : Unit) (k : Nat) (W1 : World), k < len → J t k W1 → YieldAt Fence.wide (m + 1 - 1) Try.prog lo (bArgs l t k) W1 fun e W' => (e = .returned (.bool true) ∧ J t (k + 1) W' ∧ bKp b a len cap l t W1 W') ∨ (e = .returned (.bool false) ∧ Jx W')) := hY
  clear hJ h0 hY hb hC hS
  refine callsIn_of_wp Try.func53 rfl trivial ?_ rfl
  simp only [Try.ntmps53, List.size_toArray, List.length_cons, List.length_nil, Nat.reduceAdd, Nat.reduceSub, Array.replicate_succ, Array.replicate_zero, List.push_toArray, List.append_toArray, List.nil_append, List.cons_append]
  gi_wp2
  gi_loopw [3] (fun s3 wr => ∃ j : Nat, s3 = .int .i64 ((len : Int) - 1 - (j : Int)) ∧ j ≤ len ∧ Hid (J () j wr ∧ wr.cell? ⟨b, 0, none⟩ = some (.slice a len cap) ∧ SlotsIn wr a len l)) (fun s3 _ => (intOf s3 + 1).toNat)
  case atStart => exact ⟨0, by go_num, by omega, KI⟩
  case round =>
    obtain ⟨j, rfl, hj, HI⟩ := hrel
    by_cases hlt : j < len
    · obtain ⟨p, hp⟩ : ∃ p : Nat, p = len - 1 - j := ⟨_, rfl⟩
      have ep : (len : Int) - 1 - (j : Int) = (p : Int) := by omega
      have hpl : p < l.length := by have := HI.out.2.2.ln; omega
      have hp0 : (0 : Int) ≤ (p : Int) := by omega
      have hpz : (p : Int) < (len : Int) := by omega
      obtain ⟨bb, off, hab, _, hh⟩ := HI.out.2.2.src.resolve_left (by omega)
      subst hab
      obtain ⟨x, hx⟩ : ∃ x, x = bAt l p := ⟨_, rfl⟩
      obtain ⟨c0, c1, c2, c3⟩ := hh p hpl
      rw [← bAt_get l p hpl, ← hx] at c0 c1 c2 c3
      have cb := HI.out.2.1
      obtain ⟨fn, tmps, assign, body, hy, hR⟩ := HY.out () j wr hlt HI.out.1
      unfold bArgs at hy
      have e2 : (l.length : Int) - 1 - (j : Int) = (p : Int) := by have := HI.out.2.2.ln; omega
      have e3 : l.length - 1 - j = p := by have := HI.out.2.2.ln; omega
      rw [e2, e3, ← hx] at hy
      have HP : Hid (p = len - 1 - j) := hp
      rw [ep]
      clear hp ep e2 e3 hh hx hpl
      gi_wp2
      refine RoundIn.mono (show RoundIn Fence.wide m Try.prog lo fn tmps assign body _ _ from hR) ?_
      rintro e W3 (⟨rfl, hJ3, hK3⟩ | ⟨rfl, hJx3⟩)
      · have HN : Hid (J () (j + 1) W3 ∧ W3.cell? ⟨b, 0, none⟩ = some (.slice (some ⟨bb, off, none⟩) len cap) ∧ SlotsIn W3 (some ⟨bb, off, none⟩) len l) := ⟨hJ3, hK3 HI.out.2⟩
        clear hR hy hJ3 hK3 c0 c1 c2 c3 cb
        gi_wp2
        refine ⟨⟨j + 1, by have := HP.out; go_num, by omega, HN⟩, by simp [intOf]⟩
      · clear hR hy
        gi_wp2
        refine bodyPost_ret (results_none rfl _ _ _) rfl ?_
        exact ⟨⟨_, rfl⟩, .inr hJx3⟩
    · have ej : (len : Int) - 1 - (j : Int) = -1 := by omega
      have KF : Hid (∃ t, J t len wr) := ⟨(), by
        have hj2 : j = len := by omega
        rw [← hj2]; exact HI.out.1⟩
      rw [ej]
      clear ej
      gi_wp2
      go_end0
      exact ⟨⟨_, rfl⟩, .inl KF.out⟩
end Go.Proofs.Ytadpgaaijdpbiaa
namespace Go.Proofs.Ytadpgaaijdpbiaa
open Go.ChangeShapes Go.WideShapes Go.ChangeAt Go.RowKit Go.Shelf
set_option linter.unusedVariables false

/-! What Load makes, and what two TLBs that know the same do alike. -/

def SOk (l : List Sl4) : Prop := ∀ x ∈ l, TOk x.1 ∧ MOk x.2
theorem bAt_ok {l : List Sl4} (h : SOk l) (k : Nat) (hk : k < l.length) : TOk (bAt l k).1 ∧ MOk (bAt l k).2 := by
  rw [bAt_get l k hk]
  exact h _ (List.getElem_mem hk)
/-- What is known behind k rounds. -/
def ldF (n : Nat) (l : List Sl4) : Nat → Sta
  | 0 => Sta.none
  | k + 1 => (ldF n l k).put n (bAt l (l.length - 1 - k)).1 (bAt l (l.length - 1 - k)).2
theorem ldF_ok (n : Nat) (l : List Sl4) (hn : 0 < n) (h : SOk l) : ∀ k, k ≤ l.length → (ldF n l k).Ok n
  | 0, _ => Sta.none_ok n
  | k + 1, hk => by
    have := bAt_ok h (l.length - 1 - k) (by omega)
    exact (ldF_ok n l hn h k (by omega)).put hn this.1 this.2
theorem room_small (s : Sta) (n : Nat) (t : Tg) (h : s.l.length < n) : s.room n t = s := by
  unfold Sta.room
  rw [if_pos (by simp [h])]
theorem mv_le (t : Tg) (l : List Tg) : (mv t l).length ≤ l.length + 1 := by
  rw [mv_len]; split <;> omega
theorem ldF_len (n : Nat) (l : List Sl4) (hl : l.length ≤ n) : ∀ k, k ≤ l.length → (ldF n l k).l.length ≤ k
  | 0, _ => by simp [ldF, Sta.none]
  | k + 1, hk => by
    have h1 := ldF_len n l hl k (by omega)
    show ((ldF n l k).put n _ _).l.length ≤ k + 1
    unfold Sta.put
    rw [room_small _ _ _ (by omega)]
    have := mv_le (bAt l (l.length - 1 - k)).1 (ldF n l k).l
    show (mv _ (ldF n l k).l).length ≤ k + 1
    omega
theorem drop_step (l : List Sl4) (k : Nat) (hk : k < l.length) : l.drop (l.length - (k + 1)) = bAt l (l.length - 1 - k) :: l.drop (l.length - k) := by
  have h1 : l.length - (k + 1) < l.length := by omega
  rw [List.drop_eq_getElem_cons h1, ← bAt_get l _ h1]
  have e1 : l.length - (k + 1) = l.length - 1 - k := by omega
  have e2 : l.length - (k + 1) + 1 = l.length - k := by omega
  rw [e2, e1]
theorem ldF_is (n : Nat) (l : List Sl4) (hl : l.length ≤ n) (hd : (l.map (·.1)).Nodup) : ∀ k, k ≤ l.length → (ldF n l k).l = (l.drop (l.length - k)).map (·.1) ∧ ∀ x ∈ l.drop (l.length - k), (ldF n l k).f x.1 = some x.2
  | 0, _ => by simp [ldF, Sta.none]
  | k + 1, hk => by
    obtain ⟨h1, h2⟩ := ldF_is n l hl hd k (by omega)
    have h3 := ldF_len n l hl k (by omega)
    have hst := drop_step l k (by omega)
    have hnd : ((l.drop (l.length - (k + 1))).map (·.1)).Nodup := by
      rw [List.map_drop]; exact hd.sublist (List.drop_sublist _ _)
    rw [hst, List.map_cons, List.nodup_cons] at hnd
    have e : ldF n l (k + 1) = (ldF n l k).set (bAt l (l.length - 1 - k)).1 (bAt l (l.length - 1 - k)).2 := by
      show (ldF n l k).put n _ _ = _
      unfold Sta.put
      rw [room_small _ _ _ (by omega)]
    rw [e, hst]
    refine ⟨?_, fun x hx => ?_⟩
    · show mv _ (ldF n l k).l = _
      unfold mv
      rw [h1, List.map_cons, List.erase_of_not_mem hnd.1]
    · show (if x.1 = _ then _ else _) = _
      rcases List.mem_cons.1 hx with rfl | hx
      · rw [if_pos rfl]
      · rw [if_neg (fun e => hnd.1 (by rw [← e]; exact List.mem_map_of_mem hx)), h2 x hx]
theorem ldF_all (n : Nat) (l : List Sl4) (hl : l.length ≤ n) (hd : (l.map (·.1)).Nodup) : (ldF n l l.length).l = l.map (·.1) ∧ ∀ x ∈ l, (ldF n l l.length).f x.1 = some x.2 := by
  have := ldF_is n l hl hd l.length (Nat.le_refl _)
  rw [Nat.sub_self, List.drop_zero] at this
  exact this

/-- The same known. -/
structure Eqv (s s' : Sta) : Prop where
  l : s.l = s'.l
  f : ∀ t, TOk t → s.f t = s'.f t
theorem Eqv.look {s s' : Sta} (h : Eqv s s') {t : Tg} (ht : TOk t) : Eqv (s.look t) (s'.look t) := by
  unfold Sta.look
  rw [← h.f t ht]
  split
  · exact ⟨by show mv t s.l = mv t s'.l; rw [h.l], h.f⟩
  · exact h
theorem Eqv.gone {s s' : Sta} (h : Eqv s s') (n : Nat) {t : Tg} (ht : TOk t) : s.gone n t = s'.gone n t ∧ s.went n t = s'.went n t := by
  unfold Sta.gone Sta.went
  rw [← h.f t ht, h.l]
  exact ⟨rfl, rfl⟩
theorem Eqv.put {s s' : Sta} (h : Eqv s s') (n : Nat) {t : Tg} (ht : TOk t) (m : Mp) : Eqv (s.put n t m) (s'.put n t m) := by
  have hr : Eqv (s.room n t) (s'.room n t) := by
    unfold Sta.room
    rw [← h.f t ht, h.l]
    split
    · exact h
    · refine ⟨by show s.l.filter _ = s'.l.filter _; rw [h.l], fun x hx => ?_⟩
      show (if _ then _ else s.f x) = if _ then _ else s'.f x
      rw [h.f x hx]
  refine ⟨by show mv t _ = mv t _; rw [hr.l], fun x hx => ?_⟩
  show (if x = t then _ else (s.room n t).f x) = if x = t then _ else (s'.room n t).f x
  rw [hr.f x hx]
theorem Eqv.slots {s s' : Sta} (h : Eqv s s') {n : Nat} (hs : s.Ok n) : s.slots = s'.slots := by
  unfold Sta.slots
  rw [← h.l]
  apply List.map_congr_left
  intro t ht
  rw [h.f t (hs.tok t ht)]
theorem slots_ok {s : Sta} {n : Nat} (h : s.Ok n) : SOk s.slots := by
  intro x hx
  obtain ⟨t, ht, rfl⟩ := List.mem_map.1 hx
  have := h.tok t ht
  refine ⟨this, ?_⟩
  obtain ⟨m, hm⟩ := Option.isSome_iff_exists.1 ((h.mem t this).1 ht)
  rw [hm]
  exact h.mok t m hm
theorem slots_tags (s : Sta) : s.slots.map (·.1) = s.l := by
  unfold Sta.slots
  rw [List.map_map]
  exact List.map_id' _
theorem ldF_eqv {s : Sta} {n : Nat} (h : s.Ok n) (hn : 0 < n) : Eqv s (ldF n s.slots s.slots.length) ∧ (ldF n s.slots s.slots.length).l.length = s.slots.length := by
  have hl : s.slots.length ≤ n := by rw [s.slots_len]; exact h.len
  obtain ⟨h1, h2⟩ := ldF_all n s.slots hl (by rw [slots_tags]; exact h.nd)
  have hok := ldF_ok n s.slots hn (slots_ok h) s.slots.length (Nat.le_refl _)
  rw [slots_tags] at h1
  refine ⟨⟨h1.symm, fun t ht => ?_⟩, by rw [h1, s.slots_len]⟩
  by_cases hm : t ∈ s.l
  · have := h2 (t, (s.f t).getD m0) (List.mem_map.2 ⟨t, hm, rfl⟩)
    rw [this]
    obtain ⟨m, hm'⟩ := Option.isSome_iff_exists.1 ((h.mem t ht).1 hm)
    rw [hm']; rfl
  · have e1 : s.f t = Option.none := by
      cases hf : s.f t with
      | none => rfl
      | some m => exact absurd ((h.mem t ht).2 (by rw [hf]; rfl)) hm
    have e2 : (ldF n s.slots s.slots.length).f t = Option.none := by
      cases hf : (ldF n s.slots s.slots.length).f t with
      | none => rfl
      | some m => exact absurd ((hok.mem t ht).2 (by rw [hf]; rfl)) (by rw [h1]; exact hm)
    rw [e1, e2]

theorem fields58 : Try.prog.underlying 58 = some (.struct (Try.prog.fieldsOf 58)) := by simp [Program.fieldsOf, Try.underlying58]
theorem stood58 : Try.prog.stoodInHeld 58 = false := by kernel_rfl
theorem fields36 : Try.prog.underlying 36 = some (.struct (Try.prog.fieldsOf 36)) := by simp [Program.fieldsOf, Try.underlying36]
theorem stood36 : Try.prog.stoodInHeld 36 = false := by kernel_rfl
/-- Two mappings held against each other. -/
theorem neq36 (a x b y : Int) (w : World) : (binOp BinOp.neq 36 (.agg #[.int .u32 a, .int .u8 b]) (.agg #[.int .u32 x, .int .u8 y])).run Try.prog w = .ok (.bool (!decide (a = x ∧ b = y))) w := by
  rw [run_neq_struct, run_equalIn_agg w 9999 36 _ _ fields36 stood36]
  simp [Program.fieldsOf, Try.underlying36, go_sem]
  by_cases h1 : a = x <;> by_cases h2 : b = y <;> simp [h1, h2]
theorem map_eq (s t : Mp) : decide (((s.1 : Nat) : Int) = ((t.1 : Nat) : Int) ∧ ((s.2 : Nat) : Int) = ((t.2 : Nat) : Int)) = decide (s = t) := by
  have : (((s.1 : Nat) : Int) = ((t.1 : Nat) : Int) ∧ ((s.2 : Nat) : Int) = ((t.2 : Nat) : Int)) ↔ s = t := ⟨fun h => Prod.ext (by omega) (by omega), fun h => by rw [h]; exact ⟨rfl, rfl⟩⟩
  simp [this]
end Go.Proofs.Ytadpgaaijdpbiaa
namespace Go.Proofs.Ytadpgaaijdpbiaa
open Go.ChangeShapes Go.WideShapes Go.ChangeAt Go.RowKit Go.Shelf
set_option linter.unusedVariables false
/-- A slot's value. -/
def slV (x : Sl4) : Value := .agg #[.int .i64 x.1.1, .int .u32 ((x.1.2 : Nat) : Int), .int .u32 ((x.2.1 : Nat) : Int), .int .u8 ((x.2.2 : Nat) : Int)]
/-- Two slots held against each other. -/
theorem neq58 (a b c d x y z u : Int) (w : World) : (binOp BinOp.neq 58 (.agg #[.int .i64 a, .int .u32 b, .int .u32 c, .int .u8 d]) (.agg #[.int .i64 x, .int .u32 y, .int .u32 z, .int .u8 u])).run Try.prog w = .ok (.bool (!decide ((a = x ∧ b = y) ∧ c = z ∧ d = u))) w := by
  rw [run_neq_struct, run_equalIn_agg w 9999 58 _ _ fields58 stood58]
  simp [Program.fieldsOf, Try.underlying58, go_sem]
  by_cases h1 : a = x <;> by_cases h2 : b = y <;> by_cases h3 : c = z <;> by_cases h4 : d = u <;> simp [h1, h2, h3, h4]
theorem slot_eq (s t : Sl4) : decide ((s.1.1 = t.1.1 ∧ ((s.1.2 : Nat) : Int) = ((t.1.2 : Nat) : Int)) ∧ ((s.2.1 : Nat) : Int) = ((t.2.1 : Nat) : Int) ∧ ((s.2.2 : Nat) : Int) = ((t.2.2 : Nat) : Int)) = decide (s = t) := by
  have : ((s.1.1 = t.1.1 ∧ ((s.1.2 : Nat) : Int) = ((t.1.2 : Nat) : Int)) ∧ ((s.2.1 : Nat) : Int) = ((t.2.1 : Nat) : Int) ∧ ((s.2.2 : Nat) : Int) = ((t.2.2 : Nat) : Int)) ↔ s = t :=
    ⟨fun h => Prod.ext (Prod.ext h.1.1 (by omega)) (Prod.ext (by omega) (by omega)), fun h => by rw [h]; exact ⟨⟨rfl, rfl⟩, rfl, rfl⟩⟩
  simp [this]
theorem neqS (s t : Sl4) (w : World) : (binOp BinOp.neq 58 (.agg #[.int .i64 s.1.1, .int .u32 ((s.1.2 : Nat) : Int), .int .u32 ((s.2.1 : Nat) : Int), .int .u8 ((s.2.2 : Nat) : Int)]) (.agg #[.int .i64 t.1.1, .int .u32 ((t.1.2 : Nat) : Int), .int .u32 ((t.2.1 : Nat) : Int), .int .u8 ((t.2.2 : Nat) : Int)])).run Try.prog w = .ok (.bool (!decide (s = t))) w := by
  rw [neq58, slot_eq]
theorem list_ne {a b : List Sl4} {j : Nat} (h : bAt a j ≠ bAt b j) : a ≠ b := fun e => h (by rw [e])
theorem list_same {a b : List Sl4} (hl : a.length = b.length) (h : ∀ j, j < a.length → bAt a j = bAt b j) : a = b := by
  apply List.ext_getElem hl
  intro j h1 h2
  rw [← bAt_get a j h1, ← bAt_get b j h2]
  exact h j h1

set_option maxHeartbeats 1000000 in
set_option maxRecDepth 10000 in
theorem sameSlots_any (w : World) (a b : Option Addr) (la lb ca cb : Nat) (l m : List Sl4) (ha : SlotsIn w a la l) (hb : SlotsIn w b lb m) (h1 : la ≤ 1000000000) (r : Bool) (hr : r = decide (l = m)) :
    Calls Try.prog 22 #[.slice a la ca, .slice b lb cb] w fun e w' => e = .returned (.bool r) ∧ Kp w w' := by
  have HA : Hid (SlotsIn w a la l ∧ SlotsIn w b lb m) := ⟨ha, hb⟩
  have HR : Hid (r = decide (l = m)) := hr
  clear hr
  by_cases hll : la = lb
  · subst hll
    clear ha hb
    go_enter Try.func22, Try.ntmps22
    go_wp2
    go_loopw [5] (fun i wr => ∃ j : Nat, j ≤ la ∧ i = .int .i64 j ∧ Hid (Kp w wr ∧ ∀ q, q < j → bAt l q = bAt m q)) (fun i _ => la - (intOf i).toNat)
    case atStart => exact ⟨0, by omega, rfl, ⟨Chg.refl _ _, fun q hq => by omega⟩⟩
    case round =>
      obtain ⟨j, hj, rfl, HN⟩ := hrel
      by_cases hlt : j < la
      · have hltz : (j : Int) < (la : Int) := by omega
        have hl1 := HA.out.1.ln
        have hl2 := HA.out.2.ln
        obtain ⟨g1, o1, e1, _, c1⟩ := (HA.out.1.kp HN.out.1).src.resolve_left (by omega)
        obtain ⟨g2, o2, e2, _, c2⟩ := (HA.out.2.kp HN.out.1).src.resolve_left (by omega)
        subst e1 e2
        obtain ⟨c10, c11, c12, c13⟩ := c1 j (by omega)
        obtain ⟨c20, c21, c22, c23⟩ := c2 j (by omega)
        rw [← bAt_get l j (by omega)] at c10 c11 c12 c13
        rw [← bAt_get m j (by omega)] at c20 c21 c22 c23
        have hq := fun W => neqS (bAt l j) (bAt m j) W
        have HD : Hid (∀ q, q < j → bAt l q = bAt m q) := HN.out.2
        have HK : Hid (Kp w wr) := HN.out.1
        obtain ⟨x, hx⟩ : ∃ x, x = bAt l j := ⟨_, rfl⟩
        obtain ⟨y, hy⟩ : ∃ y, y = bAt m j := ⟨_, rfl⟩
        have HX : Hid (x = bAt l j ∧ y = bAt m j) := ⟨hx, hy⟩
        rw [← hx, ← hy] at hq
        rw [← hx] at c10 c11 c12 c13
        rw [← hy] at c20 c21 c22 c23
        clear hx hy c1 c2 hl1 hl2 HN
        by_cases hxy : x = y
        · rw [decide_eq_true hxy] at hq
          have HE : Hid (x = y) := hxy
          clear hxy
          go_wp2_with fail
          go_quiet (fail)
          go_wp2
          refine ⟨⟨j + 1, by omega, by go_num, ⟨Chg.drewN HK.out _, fun q hq' => ?_⟩⟩, by simp [intOf]; omega⟩
          rcases Nat.lt_or_ge q j with h1 | h1
          · exact HD.out q h1
          · have : q = j := by omega
            subst this; rw [← HX.out.1, ← HX.out.2]; exact HE.out
        · rw [decide_eq_false hxy] at hq
          have HE : Hid (r = false) := by
            show r = false
            rw [HR.out]
            exact decide_eq_false (list_ne (j := j) (fun e => hxy (HX.out.1.trans (e.trans HX.out.2.symm))))
          clear hxy
          go_wp2_with fail
          go_quiet (fail)
          go_wp2
          go_ret
          exact ⟨by rw [HE.out]; rfl, Chg.drewN HK.out _⟩
      · have hltz : ¬ (j : Int) < (la : Int) := by omega
        have HE : Hid (r = true) := by
          have hl1 := HA.out.1.ln
          have hl2 := HA.out.2.ln
          show r = true
          rw [HR.out]
          exact decide_eq_true (list_same (by omega) (fun q hq => HN.out.2 q (by omega)))
        have HK : Hid (Kp w wr) := HN.out.1
        clear HN
        go_wp2
        go_ret
        exact ⟨by rw [HE.out]; rfl, HK.out⟩
  · have hne : ((la : Int) != (lb : Int)) = true := by simp; omega
    have HE : Hid (r = false) := by
      show r = false
      rw [HR.out]
      refine decide_eq_false (fun e => ?_)
      have h1 := ha.ln
      have h2 := hb.ln
      rw [e] at h1
      omega
    clear ha hb hll
    go_enter Try.func22, Try.ntmps22
    go_wp2
    go_ret
    exact ⟨by rw [HE.out]; rfl, Chg.refl _ _⟩
end Go.Proofs.Ytadpgaaijdpbiaa
