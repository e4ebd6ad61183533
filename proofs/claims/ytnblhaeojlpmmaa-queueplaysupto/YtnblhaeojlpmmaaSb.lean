import Derived.Test.YtnblhaeojlpmmaaSa
namespace Go.Proofs.Ytnblhaeojlpmmaa
open Go.ChangeShapes Go.WideShapes Go.ChangeAt Go.RowKit
set_option linter.unusedVariables false
/-- The elements' types: one cell, at most 24 bytes. -/
theorem info1 {i : Nat} (hi : i < 13) (h8 : i ≠ 8) : ∃ j z, Try.prog.info? (spT i) = some j ∧ j.zero = some z ∧ z.cells.size = 1 ∧ j.size = 1 ∧ j.bytes ≤ 24 := by
  have hz : ∀ T, (Try.prog.info? T).map (fun i => (i.zero.map (fun z => z.cells.size), i.size, decide (i.bytes ≤ 24))) = some (some 1, 1, true) → ∃ j z, Try.prog.info? T = some j ∧ j.zero = some z ∧ z.cells.size = 1 ∧ j.size = 1 ∧ j.bytes ≤ 24 := by
    intro T hz
    cases hq : Try.prog.info? T with
    | none => rw [hq] at hz; cases hz
    | some j =>
      rw [hq] at hz
      cases hy : j.zero with
      | none => simp [hy] at hz
      | some z =>
        simp [hy] at hz
        exact ⟨j, z, rfl, hy, hz.1, hz.2.1, hz.2.2⟩
  have : i = 0 ∨ i = 1 ∨ i = 2 ∨ i = 3 ∨ i = 4 ∨ i = 5 ∨ i = 6 ∨ i = 7 ∨ i = 9 ∨ i = 10 ∨ i = 11 ∨ i = 12 := by omega
  rcases this with rfl | rfl | rfl | rfl | rfl | rfl | rfl | rfl | rfl | rfl | rfl | rfl <;> exact hz _ (by kernel_rfl)
/-- What one more in a list of the book leaves. -/
structure Apd (w : World) (σ : Nat → Nat × Nat) (K : Nat) (U V : Nat → Value) (X : Nat → List Value) (i : Nat) (news : List Value) (a : Option Addr) (c : Nat) (w' : World) : Prop where
  bk : BkM (w'.setCell ⟨K, 8 + i, none⟩ (.slice a ((X i).length + news.length) c)) (lab σ (.slice a ((X i).length + news.length) c) (1, i)) K U (upd V i (.slice a ((X i).length + news.length) c)) (upd X i (X i ++ news))
  ch : Chg w (w'.setCell ⟨K, 8 + i, none⟩ (.slice a ((X i).length + news.length) c)) (fun b => (σ b).1 = 1)
  ex : Ext w σ (lab σ (.slice a ((X i).length + news.length) c) (1, i))
  c1 : Chg w w' (fun b => (σ b).1 = 1)
  cl : w'.cell? ⟨K, 8 + i, none⟩ = some (V i) ∧ w'.frozen? ⟨K, 8 + i, none⟩ = false
/-- 'append(b.list, ..)'. -/
theorem BkM.app {w : World} {σ : Nat → Nat × Nat} {K : Nat} {U V : Nat → Value} {X : Nat → List Value} (h : BkM w σ K U V X) {i : Nat} (hi : i < 13) (h8 : i ≠ 8) (t : TypeId) (ht : Try.prog.underlying t = some (.slice (spT i))) (news : List Value) (h1 : ∀ u ∈ news, u.oneCell' = true) (hl : ((X i).length + news.length) * 24 ≤ 140737488355328) :
    ∃ a c w', (Builtin.append_ #[t, t] t #[V i, .slice (some ⟨w.heap.size, 0, none⟩) news.length news.length]).run Try.prog (w.alloc (.cells news.toArray (spT i))) = .ok (.slice a ((X i).length + news.length) c) w' ∧ Apd w σ K U V X i news a c w' := by
  obtain ⟨j, z, e1, e2, e3, e4, e5⟩ := info1 hi h8
  have ha := (h.own i hi h8).1
  have ka : Kp w (w.alloc (.cells news.toArray (spT i))) := Kp.al _ _
  obtain ⟨v', w', hr, ho, hg, hL⟩ := run_app (P := Try.prog) (w.alloc (.cells news.toArray (spT i))) t t (spT i) j z 1 j.bytes ht e1 e2 e4 rfl e3 (by omega) (V i) (X i).length (X i) (Chg.owns ka ha (fun _ _ h => h)) (some ⟨w.heap.size, 0, none⟩) news.length news.length news (by simp) (.inr ⟨_, _, rfl, fun j u hu => by
    rw [(cells_at (heap_alloc_new w _) _).1, Nat.zero_add]
    simpa using hu⟩) h1 (by unfold maxLen; omega) (Nat.le_trans (Nat.mul_le_mul_left _ e5) hl)
  have hsh : ∃ a c, v' = .slice a ((X i).length + news.length) c := by
    rcases ho.2 with ⟨e, e'⟩ | ⟨g, cap, cur, e, _⟩
    · exact ⟨none, 0, by rw [e, e']⟩
    · exact ⟨_, _, e⟩
  obtain ⟨a, c, rfl⟩ := hsh
  have hc : Chg w w' (fun b => (V i).ownBlock = some b) := Chg.grown ((Chg.refl w _).alloc _) hg (fun k hk => .inl hk)
  have hS : ∀ b, (V i).ownBlock = some b → σ b = (1, i) := fun b hb => (h.own i hi h8).2 b hb
  have ho' : w'.ownsRow 0 (spT i) 1 (.slice a ((X i).length + news.length) c) (X i ++ news).length (X i ++ news) := by rw [List.length_append]; exact ho
  obtain ⟨p1, p2, p3⟩ := h.put hi h8 ho' hc hS (by
    rcases hL with e | ⟨k, e, hk⟩
    · exact .inl e
    · exact .inr (fun b hb => by rw [e] at hb; simp at hb hk; omega))
  have hb' := hc.heap h.box (fun e => h.notbox hi h8 e)
  have hcl := h.cell hi
  refine ⟨a, c, w', hr, p1, p2, p3, hc.mono (fun b _ e => by show (σ b).1 = 1; rw [hS b e]), ?_, (cells_at hb' _).2⟩
  rw [(cells_at hb' _).1, ← (cells_at h.box _).1]
  exact hcl.1
def ops27_3 : Array Oper := #[{ dst := some 20, op := Op.move (Operand.tmp 0), type := 88, pos := "law.go:178", after := #[], guard := none },
  { dst := some 21, op := Op.move (Operand.tmp 0), type := 88, pos := "law.go:178", after := #[], guard := none },
  { dst := some 22, op := Op.nilCheck (Operand.tmp 21), type := 0, pos := "law.go:178", after := #[{ on := 1, ground := Ground.data }], guard := none },
  { dst := some 23, op := Op.fieldAddr 58 (Operand.tmp 22) 3, type := 0, pos := "law.go:178", after := #[{ on := 2, ground := Ground.data }], guard := none },
  { dst := some 24, op := Op.load 54 (Operand.tmp 23), type := 54, pos := "law.go:178", after := #[{ on := 3, ground := Ground.data }], guard := none },
  { dst := some 25, op := Op.move (Operand.tmp 5), type := 37, pos := "law.go:178", after := #[], guard := none },
  { dst := some 26, op := Op.convert 37 9 (Operand.tmp 25), type := 9, pos := "law.go:178", after := #[{ on := 5, ground := Ground.data }], guard := none },
  { dst := some 27, op := Op.buildSlice 54 1 #[(0, Operand.tmp 26)], type := 54, pos := "law.go:178", after := #[{ on := 6, ground := Ground.data }], guard := none },
  { dst := some 28, op := Op.call { callee := Callee.builtin Builtin.append, args := #[Operand.tmp 24, Operand.tmp 27], argTypes := #[54, 54] }, type := 54, pos := "law.go:178", after := #[{ on := 4, ground := Ground.data }, { on := 7, ground := Ground.data }], guard := none },
  { dst := some 29, op := Op.nilCheck (Operand.tmp 20), type := 0, pos := "law.go:178", after := #[{ on := 0, ground := Ground.data }, { on := 0, ground := Ground.phase }, { on := 1, ground := Ground.phase }, { on := 2, ground := Ground.phase }, { on := 3, ground := Ground.phase }, { on := 4, ground := Ground.phase }, { on := 5, ground := Ground.phase }, { on := 6, ground := Ground.phase }, { on := 7, ground := Ground.phase }, { on := 8, ground := Ground.phase }], guard := none },
  { dst := some 30, op := Op.fieldAddr 58 (Operand.tmp 29) 3, type := 0, pos := "law.go:178", after := #[{ on := 9, ground := Ground.data }, { on := 0, ground := Ground.phase }, { on := 1, ground := Ground.phase }, { on := 2, ground := Ground.phase }, { on := 3, ground := Ground.phase }, { on := 4, ground := Ground.phase }, { on := 5, ground := Ground.phase }, { on := 6, ground := Ground.phase }, { on := 7, ground := Ground.phase }, { on := 8, ground := Ground.phase }], guard := none },
  { dst := none, op := Op.store 54 (Operand.tmp 30) (Operand.tmp 28), type := 0, pos := "law.go:178", after := #[{ on := 10, ground := Ground.data }, { on := 8, ground := Ground.data }, { on := 8, ground := Ground.chain }, { on := 0, ground := Ground.phase }, { on := 1, ground := Ground.phase }, { on := 2, ground := Ground.phase }, { on := 3, ground := Ground.phase }, { on := 4, ground := Ground.phase }, { on := 5, ground := Ground.phase }, { on := 6, ground := Ground.phase }, { on := 7, ground := Ground.phase }, { on := 8, ground := Ground.phase }], guard := none }]
set_option maxHeartbeats 4000000 in
set_option maxRecDepth 100000 in
theorem reg27_3 (W w2 : World) (K ln lc dn dc n2 c2 : Nat) (la da a2 : Option Addr) (st : ByteArray) (hS : (fun w' => (convert 37 9 (.slice da dn dc)).run Try.prog w' = .ok (.string st) w') W.drew) (h0 : W.cell? ⟨K, 11, none⟩ = some (.slice la ln lc))
    (hr : (Builtin.append_ #[54, 54] 54 #[.slice la ln lc, .slice (some ⟨W.heap.size, 0, none⟩) 1 1]).run Try.prog (W.drew.alloc (.cells #[.string st] 9)) = .ok (.slice a2 n2 c2) w2) (HS1 : (fun w' => (convert 37 9 (.slice da dn dc)).run Try.prog w' = .ok (.string st) w') (W.drew.alloc (.cells #[.string st] 9))) (HA : (fun w' => (convert 37 9 (.slice da dn dc)).run Try.prog w' = .ok (.string st) w') w2) (x0 : ∃ z, w2.cell? ⟨K, 11, none⟩ = some z) (f0 : w2.frozen? ⟨K, 11, none⟩ = false) (HZ : (fun w' => (convert 37 9 (.slice da dn dc)).run Try.prog w' = .ok (.string st) w') (w2.setCell ⟨K, 11, none⟩ (.slice a2 n2 c2)))
    (Q : Exit → Act → World → Prop) (hPan : ∀ c (a : Act) w (d : Option Tmp) v, Q (.panic c) (a.put d v) w → Q (.panic c) a w) {u1 u2 u3 u4 u6 u7 u8 u9 u10 u11 u12 u13 u14 u15 u16 u17 u18 u19 u20 u21 u22 u23 u24 u25 u26 u27 u28 u29 u30 u31 u32 u33 u34 : Value}
    (hQ : Q .normal ⟨#[.pointer (some ⟨K, 8, none⟩), u1,u2,u3,u4, .slice da dn dc, u6,u7,u8,u9,u10,u11,u12,u13,u14,u15,u16,u17,u18,u19, .pointer (some ⟨K, 8, none⟩), .pointer (some ⟨K, 8, none⟩), .pointer (some ⟨K, 8, none⟩), .pointer (some ⟨K, 11, none⟩), .slice la ln lc, .slice da dn dc, .string st, .slice (some ⟨W.heap.size, 0, none⟩) 1 1, .slice a2 n2 c2, .pointer (some ⟨K, 8, none⟩), .pointer (some ⟨K, 11, none⟩), u31,u32,u33,u34], []⟩ (w2.setCell ⟨K, 11, none⟩ (.slice a2 n2 c2))) :
    Code.wp Try.prog (Code.region 3 ops27_3 true) Q ⟨#[.pointer (some ⟨K, 8, none⟩), u1,u2,u3,u4, .slice da dn dc, u6,u7,u8,u9,u10,u11,u12,u13,u14,u15,u16,u17,u18,u19,u20,u21,u22,u23,u24,u25,u26,u27,u28,u29,u30,u31,u32,u33,u34], []⟩ W := by
  have k0 : Kp W W.drew := (Chg.refl _ _).drew
  have hz : W.drew.heap.size = W.heap.size := rfl
  rw [← hz] at hQ hr
  have h0' : W.drew.cell? ⟨K, 11, none⟩ = some (.slice la ln lc) := k0.cell h0
  obtain ⟨z, x0⟩ := x0
  have k1 : Kp W.drew (W.drew.alloc (.cells #[.string st] 9)) := (Chg.refl _ _).alloc _
  have h01 := k1.cell h0'
  refine wp_region_held_drew (S := fun w' => (convert 37 9 (.slice da dn dc)).run Try.prog w' = .ok (.string st) w') hmx hS (fun HSX => ?_)
  clear k0 hz hS h0 k1
  obtain ⟨W0, hW0⟩ : ∃ W0,W0 = W.drew := ⟨_, rfl⟩
  rw [← hW0] at HSX hQ hr h0' h01 HS1 ⊢
  clear hW0
  refine wpAnyH_take (i := 0) (oi := { dst := some 20, op := Op.move (Operand.tmp 0), type := 88, pos := "law.go:178", after := #[], guard := none }) (v := .pointer (some ⟨K, 8, none⟩)) rfl (by kernel_rfl) (by kernel_rfl) (by kernel_rfl) (fun _ _ _ h => hPan _ _ _ _ _ h) (Or.inl ⟨by rfl, ?_⟩) HSX ?_
  · intro wx d0
    obtain s1 := d0
    go_simp
  simp only [Act.put, List.setIfInBounds_toArray, List.set_cons_zero, List.set_cons_succ]
  refine wpAnyH_take (i := 1) (oi := { dst := some 21, op := Op.move (Operand.tmp 0), type := 88, pos := "law.go:178", after := #[], guard := none }) (v := .pointer (some ⟨K, 8, none⟩)) rfl (by kernel_rfl) (by kernel_rfl) (by kernel_rfl) (fun _ _ _ h => hPan _ _ _ _ _ h) (Or.inl ⟨by rfl, ?_⟩) HSX ?_
  · intro wx d0
    obtain s1 := d0
    go_simp
  simp only [Act.put, List.setIfInBounds_toArray, List.set_cons_zero, List.set_cons_succ]
  refine wpAnyH_take (i := 2) (oi := { dst := some 22, op := Op.nilCheck (Operand.tmp 21), type := 0, pos := "law.go:178", after := #[{ on := 1, ground := Ground.data }], guard := none }) (v := .pointer (some ⟨K, 8, none⟩)) rfl (by kernel_rfl) (by kernel_rfl) (by kernel_rfl) (fun _ _ _ h => hPan _ _ _ _ _ h) (Or.inl ⟨by rfl, ?_⟩) HSX ?_
  · intro wx d0
    obtain s1 := d0
    go_simp
  simp only [Act.put, List.setIfInBounds_toArray, List.set_cons_zero, List.set_cons_succ]
  refine wpAnyH_take (i := 3) (oi := { dst := some 23, op := Op.fieldAddr 58 (Operand.tmp 22) 3, type := 0, pos := "law.go:178", after := #[{ on := 2, ground := Ground.data }], guard := none }) (v := .pointer (some ⟨K, 11, none⟩)) rfl (by kernel_rfl) (by kernel_rfl) (by kernel_rfl) (fun _ _ _ h => hPan _ _ _ _ _ h) (Or.inl ⟨by rfl, ?_⟩) HSX ?_
  · intro wx d0
    obtain s1 := d0
    go_simp
  simp only [Act.put, List.setIfInBounds_toArray, List.set_cons_zero, List.set_cons_succ]
  refine wpAnyH_take (i := 5) (oi := { dst := some 25, op := Op.move (Operand.tmp 5), type := 37, pos := "law.go:178", after := #[], guard := none }) (v := .slice da dn dc) rfl (by kernel_rfl) (by kernel_rfl) (by kernel_rfl) (fun _ _ _ h => hPan _ _ _ _ _ h) (Or.inl ⟨by rfl, ?_⟩) HSX ?_
  · intro wx d0
    obtain s1 := d0
    go_simp
  simp only [Act.put, List.setIfInBounds_toArray, List.set_cons_zero, List.set_cons_succ]
  refine wpAnyH_take (i := 6) (oi := { dst := some 26, op := Op.convert 37 9 (Operand.tmp 25), type := 9, pos := "law.go:178", after := #[{ on := 5, ground := Ground.data }], guard := none }) (v := .string st) rfl (by kernel_rfl) (by kernel_rfl) (by kernel_rfl) (fun _ _ _ h => hPan _ _ _ _ _ h) (Or.inl ⟨by rfl, ?_⟩) HSX ?_
  · intro wx d0
    obtain s1 := d0
    go_simp
  simp only [Act.put, List.setIfInBounds_toArray, List.set_cons_zero, List.set_cons_succ]
  refine wpAnyH_ready (rs := [4, 7]) (by kernel_rfl) (by simp) ?_
  refine (AllReadyH.cons (o := { dst := some 24, op := Op.load 54 (Operand.tmp 23), type := 54, pos := "law.go:178", after := #[{ on := 3, ground := Ground.data }], guard := none }) rfl (fun K hK => ?_) (AllReadyH.cons (o := { dst := some 27, op := Op.buildSlice 54 1 #[(0, Operand.tmp 26)], type := 54, pos := "law.go:178", after := #[{ on := 6, ground := Ground.data }], guard := none }) rfl (fun K hK => ?_) AllReadyH.nil))
  · rw [if_pos (by rfl)]
    go_simp
    refine hK.out _ _ HSX (fun HSX => ?_)
    clear hK K
    refine wpAnyH_ready (rs := [7]) (by kernel_rfl) (by simp) ?_
    refine (AllReadyH.cons (o := { dst := some 27, op := Op.buildSlice 54 1 #[(0, Operand.tmp 26)], type := 54, pos := "law.go:178", after := #[{ on := 6, ground := Ground.data }], guard := none }) rfl (fun K hK => ?_) AllReadyH.nil)
    · rw [if_pos (by rfl)]
      go_simp
      refine hK.out _ _ HS1 (fun HSX => ?_)
      clear hK K
      refine wpAnyH_ready (rs := [8]) (by kernel_rfl) (by simp) ?_
      refine AllReadyH.cons (o := { dst := some 28, op := Op.call { callee := Callee.builtin Builtin.append, args := #[Operand.tmp 24, Operand.tmp 27], argTypes := #[54, 54] }, type := 54, pos := "law.go:178", after := #[{ on := 4, ground := Ground.data }, { on := 7, ground := Ground.data }], guard := none }) rfl (fun K hK => ?_) AllReadyH.nil
      refine step_app rfl (.tmp 24) (.tmp 27) 54 54 rfl _ _ (.slice a2 n2 c2) w2 rfl rfl hr ?_
      simp only [Act.put, List.setIfInBounds_toArray, List.set_cons_zero, List.set_cons_succ]
      refine hK.out _ _ HA (fun HSX => ?_)
      clear hK K
      refine wpAnyH_take (i := 9) (oi := { dst := some 29, op := Op.nilCheck (Operand.tmp 20), type := 0, pos := "law.go:178", after := #[{ on := 0, ground := Ground.data }, { on := 0, ground := Ground.phase }, { on := 1, ground := Ground.phase }, { on := 2, ground := Ground.phase }, { on := 3, ground := Ground.phase }, { on := 4, ground := Ground.phase }, { on := 5, ground := Ground.phase }, { on := 6, ground := Ground.phase }, { on := 7, ground := Ground.phase }, { on := 8, ground := Ground.phase }], guard := none }) (v := .pointer (some ⟨K, 8, none⟩)) rfl (by kernel_rfl) (by kernel_rfl) (by kernel_rfl) (fun _ _ _ h => hPan _ _ _ _ _ h) (Or.inl ⟨by rfl, ?_⟩) HSX ?_
      · intro wx d0
        obtain s1 := d0
        go_simp
      simp only [Act.put, List.setIfInBounds_toArray, List.set_cons_zero, List.set_cons_succ]
      refine wpAnyH_take (i := 10) (oi := { dst := some 30, op := Op.fieldAddr 58 (Operand.tmp 29) 3, type := 0, pos := "law.go:178", after := #[{ on := 9, ground := Ground.data }, { on := 0, ground := Ground.phase }, { on := 1, ground := Ground.phase }, { on := 2, ground := Ground.phase }, { on := 3, ground := Ground.phase }, { on := 4, ground := Ground.phase }, { on := 5, ground := Ground.phase }, { on := 6, ground := Ground.phase }, { on := 7, ground := Ground.phase }, { on := 8, ground := Ground.phase }], guard := none }) (v := .pointer (some ⟨K, 11, none⟩)) rfl (by kernel_rfl) (by kernel_rfl) (by kernel_rfl) (fun _ _ _ h => hPan _ _ _ _ _ h) (Or.inl ⟨by rfl, ?_⟩) HSX ?_
      · intro wx d0
        obtain s1 := d0
        go_simp
      simp only [Act.put, List.setIfInBounds_toArray, List.set_cons_zero, List.set_cons_succ]
      refine wpAnyH_ready (rs := [11]) (by kernel_rfl) (by simp) ?_
      refine AllReadyH.cons (o := { dst := none, op := Op.store 54 (Operand.tmp 30) (Operand.tmp 28), type := 0, pos := "law.go:178", after := #[{ on := 10, ground := Ground.data }, { on := 8, ground := Ground.data }, { on := 8, ground := Ground.chain }, { on := 0, ground := Ground.phase }, { on := 1, ground := Ground.phase }, { on := 2, ground := Ground.phase }, { on := 3, ground := Ground.phase }, { on := 4, ground := Ground.phase }, { on := 5, ground := Ground.phase }, { on := 6, ground := Ground.phase }, { on := 7, ground := Ground.phase }, { on := 8, ground := Ground.phase }], guard := none }) rfl (fun K hK => ?_) AllReadyH.nil
      rw [if_pos (by rfl)]
      go_simp
      refine hK.out _ _ HZ (fun HSX => ?_)
      clear hK K
      refine wpAnyH_done (by kernel_rfl) ?_ _
      exact hQ
  · rw [if_pos (by rfl)]
    go_simp
    refine hK.out _ _ HS1 (fun HSX => ?_)
    clear hK K
    refine wpAnyH_ready (rs := [4]) (by kernel_rfl) (by simp) ?_
    refine (AllReadyH.cons (o := { dst := some 24, op := Op.load 54 (Operand.tmp 23), type := 54, pos := "law.go:178", after := #[{ on := 3, ground := Ground.data }], guard := none }) rfl (fun K hK => ?_) AllReadyH.nil)
    · rw [if_pos (by rfl)]
      go_simp
      refine hK.out _ _ HSX (fun HSX => ?_)
      clear hK K
      refine wpAnyH_ready (rs := [8]) (by kernel_rfl) (by simp) ?_
      refine AllReadyH.cons (o := { dst := some 28, op := Op.call { callee := Callee.builtin Builtin.append, args := #[Operand.tmp 24, Operand.tmp 27], argTypes := #[54, 54] }, type := 54, pos := "law.go:178", after := #[{ on := 4, ground := Ground.data }, { on := 7, ground := Ground.data }], guard := none }) rfl (fun K hK => ?_) AllReadyH.nil
      refine step_app rfl (.tmp 24) (.tmp 27) 54 54 rfl _ _ (.slice a2 n2 c2) w2 rfl rfl hr ?_
      simp only [Act.put, List.setIfInBounds_toArray, List.set_cons_zero, List.set_cons_succ]
      refine hK.out _ _ HA (fun HSX => ?_)
      clear hK K
      refine wpAnyH_take (i := 9) (oi := { dst := some 29, op := Op.nilCheck (Operand.tmp 20), type := 0, pos := "law.go:178", after := #[{ on := 0, ground := Ground.data }, { on := 0, ground := Ground.phase }, { on := 1, ground := Ground.phase }, { on := 2, ground := Ground.phase }, { on := 3, ground := Ground.phase }, { on := 4, ground := Ground.phase }, { on := 5, ground := Ground.phase }, { on := 6, ground := Ground.phase }, { on := 7, ground := Ground.phase }, { on := 8, ground := Ground.phase }], guard := none }) (v := .pointer (some ⟨K, 8, none⟩)) rfl (by kernel_rfl) (by kernel_rfl) (by kernel_rfl) (fun _ _ _ h => hPan _ _ _ _ _ h) (Or.inl ⟨by rfl, ?_⟩) HSX ?_
      · intro wx d0
        obtain s1 := d0
        go_simp
      simp only [Act.put, List.setIfInBounds_toArray, List.set_cons_zero, List.set_cons_succ]
      refine wpAnyH_take (i := 10) (oi := { dst := some 30, op := Op.fieldAddr 58 (Operand.tmp 29) 3, type := 0, pos := "law.go:178", after := #[{ on := 9, ground := Ground.data }, { on := 0, ground := Ground.phase }, { on := 1, ground := Ground.phase }, { on := 2, ground := Ground.phase }, { on := 3, ground := Ground.phase }, { on := 4, ground := Ground.phase }, { on := 5, ground := Ground.phase }, { on := 6, ground := Ground.phase }, { on := 7, ground := Ground.phase }, { on := 8, ground := Ground.phase }], guard := none }) (v := .pointer (some ⟨K, 11, none⟩)) rfl (by kernel_rfl) (by kernel_rfl) (by kernel_rfl) (fun _ _ _ h => hPan _ _ _ _ _ h) (Or.inl ⟨by rfl, ?_⟩) HSX ?_
      · intro wx d0
        obtain s1 := d0
        go_simp
      simp only [Act.put, List.setIfInBounds_toArray, List.set_cons_zero, List.set_cons_succ]
      refine wpAnyH_ready (rs := [11]) (by kernel_rfl) (by simp) ?_
      refine AllReadyH.cons (o := { dst := none, op := Op.store 54 (Operand.tmp 30) (Operand.tmp 28), type := 0, pos := "law.go:178", after := #[{ on := 10, ground := Ground.data }, { on := 8, ground := Ground.data }, { on := 8, ground := Ground.chain }, { on := 0, ground := Ground.phase }, { on := 1, ground := Ground.phase }, { on := 2, ground := Ground.phase }, { on := 3, ground := Ground.phase }, { on := 4, ground := Ground.phase }, { on := 5, ground := Ground.phase }, { on := 6, ground := Ground.phase }, { on := 7, ground := Ground.phase }, { on := 8, ground := Ground.phase }], guard := none }) rfl (fun K hK => ?_) AllReadyH.nil
      rw [if_pos (by rfl)]
      go_simp
      refine hK.out _ _ HZ (fun HSX => ?_)
      clear hK K
      refine wpAnyH_done (by kernel_rfl) ?_ _
      exact hQ
def ops31_2 : Array Oper := #[{ dst := some 22, op := Op.move (Operand.tmp 0), type := 88, pos := "law.go:159", after := #[], guard := none },
  { dst := some 23, op := Op.move (Operand.tmp 0), type := 88, pos := "law.go:159", after := #[], guard := none },
  { dst := some 24, op := Op.nilCheck (Operand.tmp 23), type := 0, pos := "law.go:159", after := #[{ on := 1, ground := Ground.data }], guard := none },
  { dst := some 25, op := Op.fieldAddr 58 (Operand.tmp 24) 10, type := 0, pos := "law.go:159", after := #[{ on := 2, ground := Ground.data }], guard := none },
  { dst := some 26, op := Op.load 54 (Operand.tmp 25), type := 54, pos := "law.go:159", after := #[{ on := 3, ground := Ground.data }], guard := none },
  { dst := some 27, op := Op.move (Operand.tmp 1), type := 37, pos := "law.go:159", after := #[], guard := none },
  { dst := some 28, op := Op.convert 37 9 (Operand.tmp 27), type := 9, pos := "law.go:159", after := #[{ on := 5, ground := Ground.data }], guard := none },
  { dst := some 29, op := Op.buildSlice 54 1 #[(0, Operand.tmp 28)], type := 54, pos := "law.go:159", after := #[{ on := 6, ground := Ground.data }], guard := none },
  { dst := some 30, op := Op.call { callee := Callee.builtin Builtin.append, args := #[Operand.tmp 26, Operand.tmp 29], argTypes := #[54, 54] }, type := 54, pos := "law.go:159", after := #[{ on := 4, ground := Ground.data }, { on := 7, ground := Ground.data }], guard := none },
  { dst := some 31, op := Op.nilCheck (Operand.tmp 22), type := 0, pos := "law.go:159", after := #[{ on := 0, ground := Ground.data }, { on := 0, ground := Ground.phase }, { on := 1, ground := Ground.phase }, { on := 2, ground := Ground.phase }, { on := 3, ground := Ground.phase }, { on := 4, ground := Ground.phase }, { on := 5, ground := Ground.phase }, { on := 6, ground := Ground.phase }, { on := 7, ground := Ground.phase }, { on := 8, ground := Ground.phase }], guard := none },
  { dst := some 32, op := Op.fieldAddr 58 (Operand.tmp 31) 10, type := 0, pos := "law.go:159", after := #[{ on := 9, ground := Ground.data }, { on := 0, ground := Ground.phase }, { on := 1, ground := Ground.phase }, { on := 2, ground := Ground.phase }, { on := 3, ground := Ground.phase }, { on := 4, ground := Ground.phase }, { on := 5, ground := Ground.phase }, { on := 6, ground := Ground.phase }, { on := 7, ground := Ground.phase }, { on := 8, ground := Ground.phase }], guard := none },
  { dst := none, op := Op.store 54 (Operand.tmp 32) (Operand.tmp 30), type := 0, pos := "law.go:159", after := #[{ on := 10, ground := Ground.data }, { on := 8, ground := Ground.data }, { on := 8, ground := Ground.chain }, { on := 0, ground := Ground.phase }, { on := 1, ground := Ground.phase }, { on := 2, ground := Ground.phase }, { on := 3, ground := Ground.phase }, { on := 4, ground := Ground.phase }, { on := 5, ground := Ground.phase }, { on := 6, ground := Ground.phase }, { on := 7, ground := Ground.phase }, { on := 8, ground := Ground.phase }], guard := none }]
set_option maxHeartbeats 4000000 in
set_option maxRecDepth 100000 in
theorem reg31_2 (W w2 : World) (K ln lc dn dc n2 c2 : Nat) (la da a2 : Option Addr) (st : ByteArray) (hS : (fun w' => (convert 37 9 (.slice da dn dc)).run Try.prog w' = .ok (.string st) w') W.drew) (h0 : W.cell? ⟨K, 18, none⟩ = some (.slice la ln lc))
    (hr : (Builtin.append_ #[54, 54] 54 #[.slice la ln lc, .slice (some ⟨W.heap.size, 0, none⟩) 1 1]).run Try.prog (W.drew.alloc (.cells #[.string st] 9)) = .ok (.slice a2 n2 c2) w2) (HS1 : (fun w' => (convert 37 9 (.slice da dn dc)).run Try.prog w' = .ok (.string st) w') (W.drew.alloc (.cells #[.string st] 9))) (HA : (fun w' => (convert 37 9 (.slice da dn dc)).run Try.prog w' = .ok (.string st) w') w2) (x0 : ∃ z, w2.cell? ⟨K, 18, none⟩ = some z) (f0 : w2.frozen? ⟨K, 18, none⟩ = false) (HZ : (fun w' => (convert 37 9 (.slice da dn dc)).run Try.prog w' = .ok (.string st) w') (w2.setCell ⟨K, 18, none⟩ (.slice a2 n2 c2)))
    (Q : Exit → Act → World → Prop) (hPan : ∀ c (a : Act) w (d : Option Tmp) v, Q (.panic c) (a.put d v) w → Q (.panic c) a w) {u2 u3 u4 u5 u6 u7 u8 u9 u10 u11 u12 u13 u14 u15 u16 u17 u18 u19 u20 u21 u22 u23 u24 u25 u26 u27 u28 u29 u30 u31 u32 u33 u34 u35 u36 u37 u38 u39 u40 u41 u42 u43 u44 u45 u46 u47 u48 u49 u50 u51 u52 u53 u54 u55 u56 u57 u58 u59 u60 u61 u62 u63 u64 u65 u66 u67 u68 u69 u70 u71 u72 u73 u74 u75 u76 u77 u78 u79 u80 u81 : Value}
    (hQ : Q .normal ⟨#[.pointer (some ⟨K, 8, none⟩), .slice da dn dc, u2,u3,u4,u5,u6,u7,u8,u9,u10,u11,u12,u13,u14,u15,u16,u17,u18,u19,u20,u21, .pointer (some ⟨K, 8, none⟩), .pointer (some ⟨K, 8, none⟩), .pointer (some ⟨K, 8, none⟩), .pointer (some ⟨K, 18, none⟩), .slice la ln lc, .slice da dn dc, .string st, .slice (some ⟨W.heap.size, 0, none⟩) 1 1, .slice a2 n2 c2, .pointer (some ⟨K, 8, none⟩), .pointer (some ⟨K, 18, none⟩), u33,u34,u35,u36,u37,u38,u39,u40,u41,u42,u43,u44,u45,u46,u47,u48,u49,u50,u51,u52,u53,u54,u55,u56,u57,u58,u59,u60,u61,u62,u63,u64,u65,u66,u67,u68,u69,u70,u71,u72,u73,u74,u75,u76,u77,u78,u79,u80,u81], []⟩ (w2.setCell ⟨K, 18, none⟩ (.slice a2 n2 c2))) :
    Code.wp Try.prog (Code.region 2 ops31_2 true) Q ⟨#[.pointer (some ⟨K, 8, none⟩), .slice da dn dc, u2,u3,u4,u5,u6,u7,u8,u9,u10,u11,u12,u13,u14,u15,u16,u17,u18,u19,u20,u21,u22,u23,u24,u25,u26,u27,u28,u29,u30,u31,u32,u33,u34,u35,u36,u37,u38,u39,u40,u41,u42,u43,u44,u45,u46,u47,u48,u49,u50,u51,u52,u53,u54,u55,u56,u57,u58,u59,u60,u61,u62,u63,u64,u65,u66,u67,u68,u69,u70,u71,u72,u73,u74,u75,u76,u77,u78,u79,u80,u81], []⟩ W := by
  have k0 : Kp W W.drew := (Chg.refl _ _).drew
  have hz : W.drew.heap.size = W.heap.size := rfl
  rw [← hz] at hQ hr
  have h0' : W.drew.cell? ⟨K, 18, none⟩ = some (.slice la ln lc) := k0.cell h0
  obtain ⟨z, x0⟩ := x0
  have k1 : Kp W.drew (W.drew.alloc (.cells #[.string st] 9)) := (Chg.refl _ _).alloc _
  have h01 := k1.cell h0'
  refine wp_region_held_drew (S := fun w' => (convert 37 9 (.slice da dn dc)).run Try.prog w' = .ok (.string st) w') hmx hS (fun HSX => ?_)
  clear k0 hz hS h0 k1
  obtain ⟨W0, hW0⟩ : ∃ W0,W0 = W.drew := ⟨_, rfl⟩
  rw [← hW0] at HSX hQ hr h0' h01 HS1 ⊢
  clear hW0
  refine wpAnyH_take (i := 0) (oi := { dst := some 22, op := Op.move (Operand.tmp 0), type := 88, pos := "law.go:159", after := #[], guard := none }) (v := .pointer (some ⟨K, 8, none⟩)) rfl (by kernel_rfl) (by kernel_rfl) (by kernel_rfl) (fun _ _ _ h => hPan _ _ _ _ _ h) (Or.inl ⟨by rfl, ?_⟩) HSX ?_
  · intro wx d0
    obtain s1 := d0
    go_simp
  simp only [Act.put, List.setIfInBounds_toArray, List.set_cons_zero, List.set_cons_succ]
  refine wpAnyH_take (i := 1) (oi := { dst := some 23, op := Op.move (Operand.tmp 0), type := 88, pos := "law.go:159", after := #[], guard := none }) (v := .pointer (some ⟨K, 8, none⟩)) rfl (by kernel_rfl) (by kernel_rfl) (by kernel_rfl) (fun _ _ _ h => hPan _ _ _ _ _ h) (Or.inl ⟨by rfl, ?_⟩) HSX ?_
  · intro wx d0
    obtain s1 := d0
    go_simp
  simp only [Act.put, List.setIfInBounds_toArray, List.set_cons_zero, List.set_cons_succ]
  refine wpAnyH_take (i := 2) (oi := { dst := some 24, op := Op.nilCheck (Operand.tmp 23), type := 0, pos := "law.go:159", after := #[{ on := 1, ground := Ground.data }], guard := none }) (v := .pointer (some ⟨K, 8, none⟩)) rfl (by kernel_rfl) (by kernel_rfl) (by kernel_rfl) (fun _ _ _ h => hPan _ _ _ _ _ h) (Or.inl ⟨by rfl, ?_⟩) HSX ?_
  · intro wx d0
    obtain s1 := d0
    go_simp
  simp only [Act.put, List.setIfInBounds_toArray, List.set_cons_zero, List.set_cons_succ]
  refine wpAnyH_take (i := 3) (oi := { dst := some 25, op := Op.fieldAddr 58 (Operand.tmp 24) 10, type := 0, pos := "law.go:159", after := #[{ on := 2, ground := Ground.data }], guard := none }) (v := .pointer (some ⟨K, 18, none⟩)) rfl (by kernel_rfl) (by kernel_rfl) (by kernel_rfl) (fun _ _ _ h => hPan _ _ _ _ _ h) (Or.inl ⟨by rfl, ?_⟩) HSX ?_
  · intro wx d0
    obtain s1 := d0
    go_simp
  simp only [Act.put, List.setIfInBounds_toArray, List.set_cons_zero, List.set_cons_succ]
  refine wpAnyH_take (i := 5) (oi := { dst := some 27, op := Op.move (Operand.tmp 1), type := 37, pos := "law.go:159", after := #[], guard := none }) (v := .slice da dn dc) rfl (by kernel_rfl) (by kernel_rfl) (by kernel_rfl) (fun _ _ _ h => hPan _ _ _ _ _ h) (Or.inl ⟨by rfl, ?_⟩) HSX ?_
  · intro wx d0
    obtain s1 := d0
    go_simp
  simp only [Act.put, List.setIfInBounds_toArray, List.set_cons_zero, List.set_cons_succ]
  refine wpAnyH_take (i := 6) (oi := { dst := some 28, op := Op.convert 37 9 (Operand.tmp 27), type := 9, pos := "law.go:159", after := #[{ on := 5, ground := Ground.data }], guard := none }) (v := .string st) rfl (by kernel_rfl) (by kernel_rfl) (by kernel_rfl) (fun _ _ _ h => hPan _ _ _ _ _ h) (Or.inl ⟨by rfl, ?_⟩) HSX ?_
  · intro wx d0
    obtain s1 := d0
    go_simp
  simp only [Act.put, List.setIfInBounds_toArray, List.set_cons_zero, List.set_cons_succ]
  refine wpAnyH_ready (rs := [4, 7]) (by kernel_rfl) (by simp) ?_
  refine (AllReadyH.cons (o := { dst := some 26, op := Op.load 54 (Operand.tmp 25), type := 54, pos := "law.go:159", after := #[{ on := 3, ground := Ground.data }], guard := none }) rfl (fun K hK => ?_) (AllReadyH.cons (o := { dst := some 29, op := Op.buildSlice 54 1 #[(0, Operand.tmp 28)], type := 54, pos := "law.go:159", after := #[{ on := 6, ground := Ground.data }], guard := none }) rfl (fun K hK => ?_) AllReadyH.nil))
  · rw [if_pos (by rfl)]
    go_simp
    refine hK.out _ _ HSX (fun HSX => ?_)
    clear hK K
    refine wpAnyH_ready (rs := [7]) (by kernel_rfl) (by simp) ?_
    refine (AllReadyH.cons (o := { dst := some 29, op := Op.buildSlice 54 1 #[(0, Operand.tmp 28)], type := 54, pos := "law.go:159", after := #[{ on := 6, ground := Ground.data }], guard := none }) rfl (fun K hK => ?_) AllReadyH.nil)
    · rw [if_pos (by rfl)]
      go_simp
      refine hK.out _ _ HS1 (fun HSX => ?_)
      clear hK K
      refine wpAnyH_ready (rs := [8]) (by kernel_rfl) (by simp) ?_
      refine AllReadyH.cons (o := { dst := some 30, op := Op.call { callee := Callee.builtin Builtin.append, args := #[Operand.tmp 26, Operand.tmp 29], argTypes := #[54, 54] }, type := 54, pos := "law.go:159", after := #[{ on := 4, ground := Ground.data }, { on := 7, ground := Ground.data }], guard := none }) rfl (fun K hK => ?_) AllReadyH.nil
      refine step_app rfl (.tmp 26) (.tmp 29) 54 54 rfl _ _ (.slice a2 n2 c2) w2 rfl rfl hr ?_
      simp only [Act.put, List.setIfInBounds_toArray, List.set_cons_zero, List.set_cons_succ]
      refine hK.out _ _ HA (fun HSX => ?_)
      clear hK K
      refine wpAnyH_take (i := 9) (oi := { dst := some 31, op := Op.nilCheck (Operand.tmp 22), type := 0, pos := "law.go:159", after := #[{ on := 0, ground := Ground.data }, { on := 0, ground := Ground.phase }, { on := 1, ground := Ground.phase }, { on := 2, ground := Ground.phase }, { on := 3, ground := Ground.phase }, { on := 4, ground := Ground.phase }, { on := 5, ground := Ground.phase }, { on := 6, ground := Ground.phase }, { on := 7, ground := Ground.phase }, { on := 8, ground := Ground.phase }], guard := none }) (v := .pointer (some ⟨K, 8, none⟩)) rfl (by kernel_rfl) (by kernel_rfl) (by kernel_rfl) (fun _ _ _ h => hPan _ _ _ _ _ h) (Or.inl ⟨by rfl, ?_⟩) HSX ?_
      · intro wx d0
        obtain s1 := d0
        go_simp
      simp only [Act.put, List.setIfInBounds_toArray, List.set_cons_zero, List.set_cons_succ]
      refine wpAnyH_take (i := 10) (oi := { dst := some 32, op := Op.fieldAddr 58 (Operand.tmp 31) 10, type := 0, pos := "law.go:159", after := #[{ on := 9, ground := Ground.data }, { on := 0, ground := Ground.phase }, { on := 1, ground := Ground.phase }, { on := 2, ground := Ground.phase }, { on := 3, ground := Ground.phase }, { on := 4, ground := Ground.phase }, { on := 5, ground := Ground.phase }, { on := 6, ground := Ground.phase }, { on := 7, ground := Ground.phase }, { on := 8, ground := Ground.phase }], guard := none }) (v := .pointer (some ⟨K, 18, none⟩)) rfl (by kernel_rfl) (by kernel_rfl) (by kernel_rfl) (fun _ _ _ h => hPan _ _ _ _ _ h) (Or.inl ⟨by rfl, ?_⟩) HSX ?_
      · intro wx d0
        obtain s1 := d0
        go_simp
      simp only [Act.put, List.setIfInBounds_toArray, List.set_cons_zero, List.set_cons_succ]
      refine wpAnyH_ready (rs := [11]) (by kernel_rfl) (by simp) ?_
      refine AllReadyH.cons (o := { dst := none, op := Op.store 54 (Operand.tmp 32) (Operand.tmp 30), type := 0, pos := "law.go:159", after := #[{ on := 10, ground := Ground.data }, { on := 8, ground := Ground.data }, { on := 8, ground := Ground.chain }, { on := 0, ground := Ground.phase }, { on := 1, ground := Ground.phase }, { on := 2, ground := Ground.phase }, { on := 3, ground := Ground.phase }, { on := 4, ground := Ground.phase }, { on := 5, ground := Ground.phase }, { on := 6, ground := Ground.phase }, { on := 7, ground := Ground.phase }, { on := 8, ground := Ground.phase }], guard := none }) rfl (fun K hK => ?_) AllReadyH.nil
      rw [if_pos (by rfl)]
      go_simp
      refine hK.out _ _ HZ (fun HSX => ?_)
      clear hK K
      refine wpAnyH_done (by kernel_rfl) ?_ _
      exact hQ
  · rw [if_pos (by rfl)]
    go_simp
    refine hK.out _ _ HS1 (fun HSX => ?_)
    clear hK K
    refine wpAnyH_ready (rs := [4]) (by kernel_rfl) (by simp) ?_
    refine (AllReadyH.cons (o := { dst := some 26, op := Op.load 54 (Operand.tmp 25), type := 54, pos := "law.go:159", after := #[{ on := 3, ground := Ground.data }], guard := none }) rfl (fun K hK => ?_) AllReadyH.nil)
    · rw [if_pos (by rfl)]
      go_simp
      refine hK.out _ _ HSX (fun HSX => ?_)
      clear hK K
      refine wpAnyH_ready (rs := [8]) (by kernel_rfl) (by simp) ?_
      refine AllReadyH.cons (o := { dst := some 30, op := Op.call { callee := Callee.builtin Builtin.append, args := #[Operand.tmp 26, Operand.tmp 29], argTypes := #[54, 54] }, type := 54, pos := "law.go:159", after := #[{ on := 4, ground := Ground.data }, { on := 7, ground := Ground.data }], guard := none }) rfl (fun K hK => ?_) AllReadyH.nil
      refine step_app rfl (.tmp 26) (.tmp 29) 54 54 rfl _ _ (.slice a2 n2 c2) w2 rfl rfl hr ?_
      simp only [Act.put, List.setIfInBounds_toArray, List.set_cons_zero, List.set_cons_succ]
      refine hK.out _ _ HA (fun HSX => ?_)
      clear hK K
      refine wpAnyH_take (i := 9) (oi := { dst := some 31, op := Op.nilCheck (Operand.tmp 22), type := 0, pos := "law.go:159", after := #[{ on := 0, ground := Ground.data }, { on := 0, ground := Ground.phase }, { on := 1, ground := Ground.phase }, { on := 2, ground := Ground.phase }, { on := 3, ground := Ground.phase }, { on := 4, ground := Ground.phase }, { on := 5, ground := Ground.phase }, { on := 6, ground := Ground.phase }, { on := 7, ground := Ground.phase }, { on := 8, ground := Ground.phase }], guard := none }) (v := .pointer (some ⟨K, 8, none⟩)) rfl (by kernel_rfl) (by kernel_rfl) (by kernel_rfl) (fun _ _ _ h => hPan _ _ _ _ _ h) (Or.inl ⟨by rfl, ?_⟩) HSX ?_
      · intro wx d0
        obtain s1 := d0
        go_simp
      simp only [Act.put, List.setIfInBounds_toArray, List.set_cons_zero, List.set_cons_succ]
      refine wpAnyH_take (i := 10) (oi := { dst := some 32, op := Op.fieldAddr 58 (Operand.tmp 31) 10, type := 0, pos := "law.go:159", after := #[{ on := 9, ground := Ground.data }, { on := 0, ground := Ground.phase }, { on := 1, ground := Ground.phase }, { on := 2, ground := Ground.phase }, { on := 3, ground := Ground.phase }, { on := 4, ground := Ground.phase }, { on := 5, ground := Ground.phase }, { on := 6, ground := Ground.phase }, { on := 7, ground := Ground.phase }, { on := 8, ground := Ground.phase }], guard := none }) (v := .pointer (some ⟨K, 18, none⟩)) rfl (by kernel_rfl) (by kernel_rfl) (by kernel_rfl) (fun _ _ _ h => hPan _ _ _ _ _ h) (Or.inl ⟨by rfl, ?_⟩) HSX ?_
      · intro wx d0
        obtain s1 := d0
        go_simp
      simp only [Act.put, List.setIfInBounds_toArray, List.set_cons_zero, List.set_cons_succ]
      refine wpAnyH_ready (rs := [11]) (by kernel_rfl) (by simp) ?_
      refine AllReadyH.cons (o := { dst := none, op := Op.store 54 (Operand.tmp 32) (Operand.tmp 30), type := 0, pos := "law.go:159", after := #[{ on := 10, ground := Ground.data }, { on := 8, ground := Ground.data }, { on := 8, ground := Ground.chain }, { on := 0, ground := Ground.phase }, { on := 1, ground := Ground.phase }, { on := 2, ground := Ground.phase }, { on := 3, ground := Ground.phase }, { on := 4, ground := Ground.phase }, { on := 5, ground := Ground.phase }, { on := 6, ground := Ground.phase }, { on := 7, ground := Ground.phase }, { on := 8, ground := Ground.phase }], guard := none }) rfl (fun K hK => ?_) AllReadyH.nil
      rw [if_pos (by rfl)]
      go_simp
      refine hK.out _ _ HZ (fun HSX => ?_)
      clear hK K
      refine wpAnyH_done (by kernel_rfl) ?_ _
      exact hQ
end Go.Proofs.Ytnblhaeojlpmmaa
