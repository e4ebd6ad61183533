import Derived.Test.YtfmiicbaooaheaaDoorRr
namespace Go.Proofs.YtfmiicbaooaheaaDoor
open Go.ChangeShapes Go.WideShapes Go.ChangeAt Go.RowKit Go.Shelf
set_option linter.unusedVariables false
theorem step_app {P : Program} {ops : Array Oper} {o : Oper} {a : Act} {w : World} {K : Act → World → Prop} {Q : Exit → Act → World → Prop} {E : Prop} (hg : o.guard = none) (s x : Operand) (t u : TypeId)
    (ho : o.op = .call { callee := .builtin .append, args := #[s, x], argTypes := #[t, u] }) (v y v' : Value) (w' : World)
    (hs : a.eval s = v) (hx : a.eval x = y) (hrun : (Builtin.append_ #[t, u] o.type #[v, y]).run P w = .ok v' w')
    (hK : K (a.put o.dst v') w') : if Region.wanted o (yielded ops a.tmps) = true then Oper.wp P o a w K Q else E := by
  have hw : Region.wanted o (yielded ops a.tmps) = true := by simp [Region.wanted, hg]
  rw [if_pos hw]
  unfold Oper.wp
  simp [execOp, ho, resolve, invoke, builtin, hs, hx, hrun, Result.andThen]
  exact hK
theorem info47p : ∃ i, Tryd.prog.info? 47 = some i ∧ i.zero = some (.slice none 0 0) ∧ i.size = 1 ∧ i.bytes = 24 := by
  have hz : (Tryd.prog.info? 47).map (fun i => (i.zero, i.size, i.bytes)) = some (some (.slice none 0 0), 1, 24) := by kernel_rfl
  cases hq : Tryd.prog.info? 47 with
  | none => rw [hq] at hz; cases hz
  | some i =>
    rw [hq] at hz
    have hz2 : i.zero = some (.slice none 0 0) ∧ i.size = 1 ∧ i.bytes = 24 := by simpa using hz
    exact ⟨i, rfl, hz2⟩
/-- 'append(nil, part)'. -/
theorem app_part (w : World) (ab : Option Addr) (nb cb : Nat) :
    ∃ av n c w', (Builtin.append_ #[43, 43] 43 #[.slice none 0 0, .slice (some ⟨w.heap.size, 0, none⟩) 1 1]).run Tryd.prog (w.alloc (.cells #[.slice ab nb cb] 47)) = .ok (.slice av n c) w' ∧ (∃ g, av = some ⟨g, 0, none⟩ ∧ n = 1 ∧ w.heap.size ≤ g ∧ w'.cell? ⟨g, 0, none⟩ = some (.slice ab nb cb)) ∧ Kp w w' := by
  obtain ⟨i0, hi, hz, hs, hb⟩ := info47p
  obtain ⟨v', w', hr, ho, hg, hL⟩ := run_app (P := Tryd.prog) (w.alloc (.cells #[.slice ab nb cb] 47)) 43 43 47 i0 _ 1 24 Tryd.underlying43 hi hz hs hb rfl (by omega) (.slice none 0 0) 0 [] (World.ownsRow_nil _ 0 47 1) (some ⟨w.heap.size, 0, none⟩) 1 1 [.slice ab nb cb] rfl (.inr ⟨_, _, rfl, fun j u hu => by
    have : j = 0 := by cases j with
      | zero => rfl
      | succ j => simp at hu
    subst this
    rw [(cells_at (heap_alloc_new w _) _).1]
    simpa using hu⟩) (by simp [Value.oneCell']) (by simp [maxLen]) (by omega)
  simp only [Nat.zero_add, List.nil_append] at ho
  rcases ho.2 with ⟨_, h0⟩ | ⟨g, cap, cur, h1, h2, h3, h4, h5, h6, h7⟩
  · cases h0
  · subst h1
    refine ⟨_, _, _, w', hr, ⟨g, rfl, rfl, ?_, ?_⟩, Chg.trans (Kp.al w _) (Chg.grown (Chg.refl _ (fun _ => False)) hg (fun k hk => by simp [Value.ownBlock] at hk)) (fun _ _ e => e)⟩
    · rcases hL with e | ⟨k, e, hk⟩
      · simp [Value.ownBlock] at e
      · simp [Value.ownBlock] at e; simp at hk; omega
    · have := ho.cellAt 0 (by omega)
      simpa using this
set_option maxHeartbeats 4000000 in
set_option maxRecDepth 100000 in
theorem reg6_9 (l m : Nat) (W : World) (b7 : Nat) (av : Option Addr) (nO : Nat) {u0 u1 u2 u3 u4 u5 u6 u9 u10 u11 u12 u13 u14 u15 u16 u17 u18 u19 u20 u21 u22 u23 u24 u25 u26 u27 u28 : Value} (Q : Exit → Act → World → Prop) (hQ0 : ¬ LetsOut Q) (hPan : ∀ ch a w, ¬ Q (.panic ch) a w)
    (c0 : W.drew.cell? ⟨b7, 0, none⟩ = some (.slice none 0 0)) (PO : World → Option Addr → Nat → Nat → Prop)
    (hcall : Calls Tryd.prog 13 #[.slice av nO nO] W.drew fun e wa => ∃ ab nb cb, e = .returned (.slice ab nb cb) ∧ PO wa ab nb cb)
    (hfin : ∀ wa ab nb cb, PO wa ab nb cb → wa.cell? ⟨b7, 0, none⟩ = some (.slice none 0 0) ∧ (wa.alloc (.cells #[.slice ab nb cb] 47)).cell? ⟨b7, 0, none⟩ = some (.slice none 0 0) ∧ ∃ av' n' c' wz, (Builtin.append_ #[43, 43] 43 #[.slice none 0 0, .slice (some ⟨wa.heap.size, 0, none⟩) 1 1]).run Tryd.prog (wa.alloc (.cells #[.slice ab nb cb] 47)) = .ok (.slice av' n' c') wz ∧ wz.cell? ⟨b7, 0, none⟩ = some (.slice none 0 0) ∧ wz.frozen? ⟨b7, 0, none⟩ = false ∧ ∀ act, Q .normal act (wz.setCell ⟨b7, 0, none⟩ (.slice av' n' c'))) :
    (Code.region 9 #[{ dst := some 22, op := Op.load 43 (Operand.tmp 7), type := 43, pos := "trace.go:87", after := #[], guard := none }, { dst := some 23, op := Op.move (Operand.tmp 8), type := 25, pos := "trace.go:87", after := #[], guard := none }, { dst := some 24, op := Op.call { callee := Callee.value (Operand.func 13), args := #[Operand.tmp 23], argTypes := #[25] }, type := 47, pos := "trace.go:87", after := #[{ on := 1, ground := Ground.data }], guard := none }, { dst := some 25, op := Op.buildSlice 43 1 #[(0, Operand.tmp 24)], type := 43, pos := "trace.go:87", after := #[{ on := 2, ground := Ground.data }], guard := none }, { dst := some 26, op := Op.call { callee := Callee.builtin Builtin.append, args := #[Operand.tmp 22, Operand.tmp 25], argTypes := #[43, 43] }, type := 43, pos := "trace.go:87", after := #[{ on := 0, ground := Ground.data }, { on := 3, ground := Ground.data }, { on := 2, ground := Ground.chain }], guard := none }, { dst := none, op := Op.store 43 (Operand.tmp 7) (Operand.tmp 26), type := 0, pos := "trace.go:87", after := #[{ on := 4, ground := Ground.data }, { on := 4, ground := Ground.chain }, { on := 0, ground := Ground.phase }, { on := 1, ground := Ground.phase }, { on := 2, ground := Ground.phase }, { on := 3, ground := Ground.phase }, { on := 4, ground := Ground.phase }], guard := none }] true).wpIn (Fence.wide.inRound l) m Tryd.prog Q { tmps := #[u0, u1, u2, u3, u4, u5, u6, .pointer (some ⟨b7, 0, none⟩), .slice av nO nO, u9, u10, u11, u12, u13, u14, u15, u16, u17, u18, u19, u20, u21, u22, u23, u24, u25, u26, u27, u28], defers := [] } W := by
  have hmx : Tryd.prog.follows .mixedOrders = true := by kernel_rfl
  have hS : (fun _ : World => True) W.drew := trivial
  refine region_round _ _ (fun _ : World => True) hmx hQ0 (by rfl) ?_
  refine wpAnyH_take (i := 1) (oi := { dst := some 23, op := Op.move (Operand.tmp 8), type := 25, pos := "trace.go:87", after := #[], guard := none }) (v := .slice av nO nO) rfl (by kernel_rfl) (by kernel_rfl) (by kernel_rfl) (fun _ _ _ h => (hPan _ _ _ h).elim) (Or.inl ⟨by rfl, ?_⟩) hS ?_
  · intro wx d0
    go_simp
  simp only [Act.put, List.setIfInBounds_toArray, List.set_cons_zero, List.set_cons_succ]
  refine wpAnyH_ready (rs := [0, 2]) (by kernel_rfl) (by simp) ?_
  refine AllReadyH.cons (o := { dst := some 22, op := Op.load 43 (Operand.tmp 7), type := 43, pos := "trace.go:87", after := #[], guard := none }) rfl (fun K hK => ?_) (AllReadyH.cons (o := { dst := some 24, op := Op.call { callee := Callee.value (Operand.func 13), args := #[Operand.tmp 23], argTypes := #[25] }, type := 47, pos := "trace.go:87", after := #[{ on := 1, ground := Ground.data }], guard := none }) rfl (fun K hK => ?_) (AllReadyH.nil))
  · rw [if_pos (by rfl)]
    go_simp
    refine hK.out _ _ trivial (fun _ => ?_)
    clear hK K
    refine wpAnyH_ready (rs := [2]) (by kernel_rfl) (by simp) ?_
    refine AllReadyH.cons (o := { dst := some 24, op := Op.call { callee := Callee.value (Operand.func 13), args := #[Operand.tmp 23], argTypes := #[25] }, type := 47, pos := "trace.go:87", after := #[{ on := 1, ground := Ground.data }], guard := none }) rfl (fun K hK => ?_) (AllReadyH.nil)
    rw [if_pos (by rfl)]
    go_simp
    refine hcall.mono ?_
    rintro e wa ⟨ab, nb, cb, rfl, hpo⟩
    obtain ⟨ca, cb', av', n', c', wz, hrun, cz, fz, hq⟩ := hfin wa ab nb cb hpo
    have HQ : Hid (∀ act, Q .normal act (wz.setCell ⟨b7, 0, none⟩ (.slice av' n' c'))) := hq
    clear hq hpo
    refine hK.out _ _ trivial (fun _ => ?_)
    clear hK K
    refine wpAnyH_ready (rs := [3]) (by kernel_rfl) (by simp) ?_
    refine AllReadyH.cons (o := { dst := some 25, op := Op.buildSlice 43 1 #[(0, Operand.tmp 24)], type := 43, pos := "trace.go:87", after := #[{ on := 2, ground := Ground.data }], guard := none }) rfl (fun K hK => ?_) (AllReadyH.nil)
    rw [if_pos (by rfl)]
    go_simp
    refine hK.out _ _ trivial (fun _ => ?_)
    clear hK K
    refine wpAnyH_ready (rs := [4]) (by kernel_rfl) (by simp) ?_
    refine AllReadyH.cons (o := { dst := some 26, op := Op.call { callee := Callee.builtin Builtin.append, args := #[Operand.tmp 22, Operand.tmp 25], argTypes := #[43, 43] }, type := 43, pos := "trace.go:87", after := #[{ on := 0, ground := Ground.data }, { on := 3, ground := Ground.data }, { on := 2, ground := Ground.chain }], guard := none }) rfl (fun K hK => ?_) (AllReadyH.nil)
    refine step_app rfl (.tmp 22) (.tmp 25) 43 43 rfl _ _ (.slice av' n' c') wz rfl rfl hrun ?_
    simp only [Act.put, List.setIfInBounds_toArray, List.set_cons_zero, List.set_cons_succ]
    refine hK.out _ _ trivial (fun _ => ?_)
    clear hK K
    refine wpAnyH_ready (rs := [5]) (by kernel_rfl) (by simp) ?_
    refine AllReadyH.cons (o := { dst := none, op := Op.store 43 (Operand.tmp 7) (Operand.tmp 26), type := 0, pos := "trace.go:87", after := #[{ on := 4, ground := Ground.data }, { on := 4, ground := Ground.chain }, { on := 0, ground := Ground.phase }, { on := 1, ground := Ground.phase }, { on := 2, ground := Ground.phase }, { on := 3, ground := Ground.phase }, { on := 4, ground := Ground.phase }], guard := none }) rfl (fun K hK => ?_) (AllReadyH.nil)
    rw [if_pos (by rfl)]
    go_simp
    refine hK.out _ _ trivial (fun _ => ?_)
    clear hK K
    refine wpAnyH_done (by kernel_rfl) ?_ _
    exact HQ.out _
  · rw [if_pos (by rfl)]
    go_simp
    refine hcall.mono ?_
    rintro e wa ⟨ab, nb, cb, rfl, hpo⟩
    obtain ⟨ca, cb', av', n', c', wz, hrun, cz, fz, hq⟩ := hfin wa ab nb cb hpo
    have HQ : Hid (∀ act, Q .normal act (wz.setCell ⟨b7, 0, none⟩ (.slice av' n' c'))) := hq
    clear hq hpo
    refine hK.out _ _ trivial (fun _ => ?_)
    clear hK K
    refine wpAnyH_ready (rs := [0, 3]) (by kernel_rfl) (by simp) ?_
    refine AllReadyH.cons (o := { dst := some 22, op := Op.load 43 (Operand.tmp 7), type := 43, pos := "trace.go:87", after := #[], guard := none }) rfl (fun K hK => ?_) (AllReadyH.cons (o := { dst := some 25, op := Op.buildSlice 43 1 #[(0, Operand.tmp 24)], type := 43, pos := "trace.go:87", after := #[{ on := 2, ground := Ground.data }], guard := none }) rfl (fun K hK => ?_) (AllReadyH.nil))
    · rw [if_pos (by rfl)]
      go_simp
      refine hK.out _ _ trivial (fun _ => ?_)
      clear hK K
      refine wpAnyH_ready (rs := [3]) (by kernel_rfl) (by simp) ?_
      refine AllReadyH.cons (o := { dst := some 25, op := Op.buildSlice 43 1 #[(0, Operand.tmp 24)], type := 43, pos := "trace.go:87", after := #[{ on := 2, ground := Ground.data }], guard := none }) rfl (fun K hK => ?_) (AllReadyH.nil)
      rw [if_pos (by rfl)]
      go_simp
      refine hK.out _ _ trivial (fun _ => ?_)
      clear hK K
      refine wpAnyH_ready (rs := [4]) (by kernel_rfl) (by simp) ?_
      refine AllReadyH.cons (o := { dst := some 26, op := Op.call { callee := Callee.builtin Builtin.append, args := #[Operand.tmp 22, Operand.tmp 25], argTypes := #[43, 43] }, type := 43, pos := "trace.go:87", after := #[{ on := 0, ground := Ground.data }, { on := 3, ground := Ground.data }, { on := 2, ground := Ground.chain }], guard := none }) rfl (fun K hK => ?_) (AllReadyH.nil)
      refine step_app rfl (.tmp 22) (.tmp 25) 43 43 rfl _ _ (.slice av' n' c') wz rfl rfl hrun ?_
      simp only [Act.put, List.setIfInBounds_toArray, List.set_cons_zero, List.set_cons_succ]
      refine hK.out _ _ trivial (fun _ => ?_)
      clear hK K
      refine wpAnyH_ready (rs := [5]) (by kernel_rfl) (by simp) ?_
      refine AllReadyH.cons (o := { dst := none, op := Op.store 43 (Operand.tmp 7) (Operand.tmp 26), type := 0, pos := "trace.go:87", after := #[{ on := 4, ground := Ground.data }, { on := 4, ground := Ground.chain }, { on := 0, ground := Ground.phase }, { on := 1, ground := Ground.phase }, { on := 2, ground := Ground.phase }, { on := 3, ground := Ground.phase }, { on := 4, ground := Ground.phase }], guard := none }) rfl (fun K hK => ?_) (AllReadyH.nil)
      rw [if_pos (by rfl)]
      go_simp
      refine hK.out _ _ trivial (fun _ => ?_)
      clear hK K
      refine wpAnyH_done (by kernel_rfl) ?_ _
      exact HQ.out _
    · rw [if_pos (by rfl)]
      go_simp
      refine hK.out _ _ trivial (fun _ => ?_)
      clear hK K
      refine wpAnyH_ready (rs := [0]) (by kernel_rfl) (by simp) ?_
      refine AllReadyH.cons (o := { dst := some 22, op := Op.load 43 (Operand.tmp 7), type := 43, pos := "trace.go:87", after := #[], guard := none }) rfl (fun K hK => ?_) (AllReadyH.nil)
      rw [if_pos (by rfl)]
      go_simp
      refine hK.out _ _ trivial (fun _ => ?_)
      clear hK K
      refine wpAnyH_ready (rs := [4]) (by kernel_rfl) (by simp) ?_
      refine AllReadyH.cons (o := { dst := some 26, op := Op.call { callee := Callee.builtin Builtin.append, args := #[Operand.tmp 22, Operand.tmp 25], argTypes := #[43, 43] }, type := 43, pos := "trace.go:87", after := #[{ on := 0, ground := Ground.data }, { on := 3, ground := Ground.data }, { on := 2, ground := Ground.chain }], guard := none }) rfl (fun K hK => ?_) (AllReadyH.nil)
      refine step_app rfl (.tmp 22) (.tmp 25) 43 43 rfl _ _ (.slice av' n' c') wz rfl rfl hrun ?_
      simp only [Act.put, List.setIfInBounds_toArray, List.set_cons_zero, List.set_cons_succ]
      refine hK.out _ _ trivial (fun _ => ?_)
      clear hK K
      refine wpAnyH_ready (rs := [5]) (by kernel_rfl) (by simp) ?_
      refine AllReadyH.cons (o := { dst := none, op := Op.store 43 (Operand.tmp 7) (Operand.tmp 26), type := 0, pos := "trace.go:87", after := #[{ on := 4, ground := Ground.data }, { on := 4, ground := Ground.chain }, { on := 0, ground := Ground.phase }, { on := 1, ground := Ground.phase }, { on := 2, ground := Ground.phase }, { on := 3, ground := Ground.phase }, { on := 4, ground := Ground.phase }], guard := none }) rfl (fun K hK => ?_) (AllReadyH.nil)
      rw [if_pos (by rfl)]
      go_simp
      refine hK.out _ _ trivial (fun _ => ?_)
      clear hK K
      refine wpAnyH_done (by kernel_rfl) ?_ _
      exact HQ.out _
/-- While the parts of a digest are gathered. -/
structure DgI (w8 W : World) (b7 : Nat) (av : Option Addr) (nO cv : Nat) (O : List Ob) (k : Nat) : Prop where
  k8 : Chg w8 W (fun i => i = b7)
  ow : OO W (.slice av nO cv) O
  pt : (k = 0 ∧ W.heap[b7]? = some (.cells #[.slice none 0 0] 43 (0, 0))) ∨ (k = 1 ∧ ∃ g cp ab nb cb, W.heap[b7]? = some (.cells #[.slice (some ⟨g, 0, none⟩) 1 cp] 43 (0, 0)) ∧ w8.heap.size + 2 ≤ g ∧ W.cell? ⟨g, 0, none⟩ = some (.slice ab nb cb) ∧ Bs W ab nb (rows O) ∧ ∀ b o, ab = some ⟨b, o, none⟩ → w8.heap.size + 2 ≤ b)
theorem DgI.two {w8 W W' : World} {b7 : Nat} {av : Option Addr} {nO cv : Nat} {O : List Ob} {k : Nat} (h : DgI w8 W b7 av nO cv O k) (h7 : b7 < w8.heap.size) (hl : ∀ k, Value.ownBlock (.slice av nO cv) = some k → k < w8.heap.size) (hc : Chg W W' (Two w8.heap.size)) : DgI w8 W' b7 av nO cv O k := by
  refine ⟨Chg.trans h.k8 hc (fun i hi e => by rcases e with e | e <;> omega), h.ow.chg hc (fun k hk e => by have := hl k hk; rcases e with e | e <;> omega), ?_⟩
  rcases h.pt with ⟨e, h1⟩ | ⟨e, g, cp, ab, nb, cb, h1, h2, h3, h4, h5⟩
  · exact .inl ⟨e, hc.heap h1 (by rintro (e | e) <;> omega)⟩
  · exact .inr ⟨e, g, cp, ab, nb, cb, hc.heap h1 (by rintro (e | e) <;> omega), h2, hc.cell' (by rintro (e | e) <;> omega) h3, h4.chg hc (fun b o e _ h => by have := h5 b o e; rcases h with h | h <;> omega), h5⟩
end Go.Proofs.YtfmiicbaooaheaaDoor
