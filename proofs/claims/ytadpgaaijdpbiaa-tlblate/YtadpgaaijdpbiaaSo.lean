import Derived.Test.YtadpgaaijdpbiaaAs
namespace Go.Proofs.Ytadpgaaijdpbiaa
open Go.ChangeShapes Go.WideShapes Go.ChangeAt Go.RowKit Go.Shelf
set_option linter.unusedVariables false
attribute [local go_sem] Oper.semAt_some

theorem wpListIn_append_run {F : Fence} {n : Nat} {P : Program} (w : World) {ops : Array Oper} {rest : List Oper} {o : Oper} {a : Act} {Q : Exit → Act → World → Prop} (hgd : o.guard = none) (s x : Operand) (t u : TypeId)
    (ho : o.op = .call { callee := .builtin .append, args := #[s, x], argTypes := #[t, u] }) (v y v' : Value) (w' : World)
    (hs : a.eval s = v) (hx : a.eval x = y) (hrun : (Builtin.append_ #[t, u] o.type #[v, y]).run P w = .ok v' w')
    (h : wpListIn F n P ops Q rest (a.put o.dst v') w') : wpListIn F n P ops Q (o :: rest) a w := by
  refine wpListIn_plain hgd fun K hK => ?_
  unfold Oper.wpIn
  refine ⟨?_, ?_⟩
  · simp [Oper.about, ho, resolve, Target.leads, Sem.run_pure]
  · rw [Oper.semAt_plain F _ _ (by rw [ho]; intro c hc'; cases hc')]
    simp [execOp, ho, resolve, invoke, builtin, hs, hx, hrun, Result.andThen]
    exact hK _ _ h

/-- The list that is being made. -/
structure SI (w : World) (base bl : Nat) (s : Sta) (g k : Nat) (W : World) (lv : Value) : Prop where
  box : W.heap[bl]? = some (.cells #[lv] 55 (0, 0))
  row : SR W lv (s.slots.take k)
  ap : ∀ b, lv.ownBlock = some b → base ≤ b ∧ b ≠ g
  g1 : base ≤ g
  g2 : g < W.heap.size
  kp : Kp w W
theorem SI.two {w : World} {s0 bl : Nat} {s : Sta} {g k : Nat} {A C : World} {lv : Value} (h : SI w (s0 + 2) bl s g k A lv) (hC : Chg A C (Two s0)) (hbl : bl < s0) (hs : w.heap.size ≤ s0) : SI w (s0 + 2) bl s g k C lv := by
  refine ⟨hC.heap h.box (by rintro (e | e) <;> omega), Chg.owns hC h.row (fun b hb e => ?_), h.ap, h.g1, Nat.lt_of_lt_of_le h.g2 hC.size, Chg.trans h.kp hC (fun i hi e => by rcases e with e | e <;> omega)⟩
  have := (h.ap b hb).1
  rcases e with e | e <;> omega
theorem SI.later {w : World} {base bl : Nat} {s : Sta} {g k : Nat} {A C : World} {lv : Value} (h : SI w base bl s g k A lv) (hC : Kp A C) : SI w base bl s g k C lv :=
  ⟨hC.heap h.box, Chg.owns hC h.row (fun _ _ x => x), h.ap, h.g1, Nat.lt_of_lt_of_le h.g2 hC.size, Kp.trans h.kp hC⟩
theorem SI.more {w : World} {base bl : Nat} {s : Sta} {g k : Nat} {A : World} {lv : Value} (h : SI w base bl s g k A lv) (hk : k < s.slots.length) (h64 : s.slots.length ≤ 64) (x : Sl4) (hx : x = sAt s k) (hbl : w.heap.size ≤ bl) (hbb : bl < base) (hwb : w.heap.size ≤ base) (hA : base ≤ A.heap.size) :
    ∃ v' W', (Builtin.append_ #[55, 55] 55 #[lv, .slice (some ⟨A.heap.size, 0, none⟩) 1 1]).run Try.prog (A.alloc (.cells #[.int .i64 x.1.1, .int .u32 ((x.1.2 : Nat) : Int), .int .u32 ((x.2.1 : Nat) : Int), .int .u8 ((x.2.2 : Nat) : Int)] 58)) = .ok v' W' ∧
      (∃ ga na ca, v' = .slice (some ⟨ga, 0, none⟩) na ca) ∧ (∃ z, W'.cell? ⟨bl, 0, none⟩ = some z) ∧ W'.frozen? ⟨bl, 0, none⟩ = false ∧ SI w base bl s g (k + 1) (W'.setCell ⟨bl, 0, none⟩ v') v' ∧ Chg A (W'.setCell ⟨bl, 0, none⟩ v') (fun i => i = bl ∨ lv.ownBlock = some i) := by
  obtain ⟨i58, z58, h58, hz58, hs58, hb58, hzs58⟩ := info58
  have hkA : Kp A (A.alloc (.cells #[.int .i64 x.1.1, .int .u32 ((x.1.2 : Nat) : Int), .int .u32 ((x.2.1 : Nat) : Int), .int .u8 ((x.2.2 : Nat) : Int)] 58)) := (Chg.refl A _).alloc _
  have hnw := heap_alloc_new A (.cells #[.int .i64 x.1.1, .int .u32 ((x.1.2 : Nat) : Int), .int .u32 ((x.2.1 : Nat) : Int), .int .u8 ((x.2.2 : Nat) : Int)] 58)
  have h1 := h.later hkA
  have hlen : (s.slots.take k).length = k := by rw [List.length_take]; omega
  obtain ⟨v', W', hr, q1, q2, q3⟩ := run_app (P := Try.prog) _ 55 55 58 i58 z58 4 24 Try.underlying55 h58 hz58 hs58 hb58 hzs58 (by omega) lv (s.slots.take k).length (scs (s.slots.take k)) h1.row (some ⟨A.heap.size, 0, none⟩) 1 1 (scs [x]) (by simp [scs]) (.inr ⟨_, _, rfl, fun j u hu => by
    rw [(cells_at hnw _).1, Nat.zero_add, ← hu]; simp [scs]⟩) (scs_one _) (by simp [maxLen]; omega) (by omega)
  have hC : Chg (A.alloc (.cells #[.int .i64 x.1.1, .int .u32 ((x.1.2 : Nat) : Int), .int .u32 ((x.2.1 : Nat) : Int), .int .u8 ((x.2.2 : Nat) : Int)] 58)) W' (fun i => lv.ownBlock = some i) := Chg.grown (Chg.refl _ _) q2 (fun k e => .inl e)
  have hblA : bl < A.heap.size := by omega
  have hlb : ∀ b, lv.ownBlock = some b → b ≠ bl := fun b hb e => by have := (h.ap b hb).1; omega
  have hbox := Chg.heap hC h1.box (fun e => hlb bl e rfl)
  have hset := heap_setCell_same W' bl 0 _ 55 v' hbox
  have hCs : Chg W' (W'.setCell ⟨bl, 0, none⟩ v') (fun i => i = bl) := Chg.setCell (S := fun i => i = bl) (Chg.refl W' _) (.inl rfl) _
  have e2 : s.slots.take (k + 1) = s.slots.take k ++ [x] := by
    rw [List.take_add_one, List.getElem?_eq_getElem hk, hx, sAt_get s k hk]; rfl
  rw [← scs_app, ← e2] at q1
  have hlen2 : (s.slots.take (k + 1)).length = (s.slots.take k).length + 1 := by rw [e2]; simp
  rw [← hlen2] at q1
  have q1' : SR W' v' (s.slots.take (k + 1)) := q1
  have hnew : ∀ b, v'.ownBlock = some b → base ≤ b ∧ b ≠ g := fun b hb => by
    rcases q3 with e | ⟨i, hi, his⟩
    · exact h.ap b (by rw [← e]; exact hb)
    · rw [hi] at hb; cases hb
      simp at his
      have := h.g2
      omega
  refine ⟨v', W', hr, ?_, ⟨_, by rw [(cells_at hbox _).1]; rfl⟩, (cells_at hbox _).2, ⟨hset, Chg.owns hCs q1' (fun b hb e => ?_), hnew, h.g1, ?_, ?_⟩, ?_⟩
  · rcases q1'.2 with ⟨_, h0⟩ | ⟨ga, ca, cur, hv, _⟩
    · rw [hlen2] at h0; omega
    · exact ⟨ga, _, ca, hv⟩
  · have := (hnew b hb).1; omega
  · have h3 := hkA.size
    have h4 := hC.size
    have h5 := hCs.size
    have := h.g2
    omega
  · exact Chg.trans (Chg.trans h1.kp hC (fun i hi e => by have := (h.ap i e).1; omega)) hCs (fun i hi e => by omega)
  · exact Chg.trans (Chg.trans (hkA.mono (fun _ _ h => h.elim)) hC (fun i _ e => .inr e)) hCs (fun i _ e => .inl e)
end Go.Proofs.Ytadpgaaijdpbiaa
