import Derived.Test.YtkggkkoblpdopaaGreatNc
namespace Go.Proofs.YtkggkkoblpdopaaGreat
open Go.ChangeShapes Go.WideShapes Go.ChangeAt Go.RowKit
set_option linter.unusedVariables false
theorem step_app {P : Program} {ops : Array Oper} {o : Oper} {a : Act} {w : World} {K : Act → World → Prop} {Q : Exit → Act → World → Prop} {E : Prop}
  (hgd : o.guard = none) (s x : Operand) (t u : TypeId) (ho : o.op = .call { callee := .builtin .append, args := #[s, x], argTypes := #[t, u] }) (v y v' : Value) (w' : World)
  (hs : a.eval s = v) (hx : a.eval x = y) (hrun : (Builtin.append_ #[t, u] o.type #[v, y]).run P w = .ok v' w') (hK : K (a.put o.dst v') w') :
  if Region.wanted o (yielded ops a.tmps) = true then Oper.wp P o a w K Q else E := by
 rw [if_pos (by simp [Region.wanted, hgd])]
 unfold Oper.wp
 simp [execOp, ho, resolve, invoke, builtin, hs, hx, hrun, Result.andThen]
 exact hK
theorem step_al {P : Program} {ops : Array Oper} {o : Oper} {a : Act} {w : World} {K : Act → World → Prop} {Q : Exit → Act → World → Prop} {E : Prop}
  (hgd : o.guard = none) (t : TypeId) (ho : o.op = .alloc t) (v : Value) (w' : World) (hrun : (Instr.alloc t true (.tuple #[])).run P w = .ok v w') (hK : K (a.put o.dst v) w') :
  if Region.wanted o (yielded ops a.tmps) = true then Oper.wp P o a w K Q else E := by
 rw [if_pos (by simp [Region.wanted, hgd])]
 unfold Oper.wp
 simp only [execOp, ho]
 simp [hrun, Result.andThen]
 exact hK
theorem step_ld {P : Program} {ops : Array Oper} {o : Oper} {a : Act} {w : World} {K : Act → World → Prop} {Q : Exit → Act → World → Prop} {E : Prop}
  (hgd : o.guard = none) (t : TypeId) (x : Operand) (ho : o.op = .load t x) (p v : Value) (hx : a.eval x = p) (hrun : (Instr.loadAt t p).run P w = .ok v w) (hK : K (a.put o.dst v) w) :
  if Region.wanted o (yielded ops a.tmps) = true then Oper.wp P o a w K Q else E := by
 rw [if_pos (by simp [Region.wanted, hgd])]
 unfold Oper.wp
 simp only [execOp, ho, hx]
 simp [hrun, Result.andThen]
 exact hK
theorem step_bs {P : Program} {ops : Array Oper} {o : Oper} {a : Act} {w : World} {K : Act → World → Prop} {Q : Exit → Act → World → Prop} {E : Prop}
  (hgd : o.guard = none) (t : TypeId) (n : Nat) (parts : Array (Nat × Operand)) (ho : o.op = .buildSlice t n parts) (vs : Array (Nat × Value)) (hvs : (parts.map fun (i, x) => (i, a.eval x)) = vs) (v : Value) (w' : World) (hrun : (Instr.buildSlice t n vs).run P w = .ok v w') (hK : K (a.put o.dst v) w') :
  if Region.wanted o (yielded ops a.tmps) = true then Oper.wp P o a w K Q else E := by
 subst hvs
 rw [if_pos (by simp [Region.wanted, hgd])]
 unfold Oper.wp
 simp only [execOp, ho]
 simp [hrun, Result.andThen]
 exact hK
theorem step_st {P : Program} {ops : Array Oper} {o : Oper} {a : Act} {w : World} {K : Act → World → Prop} {Q : Exit → Act → World → Prop} {E : Prop}
  (hgd : o.guard = none) (t : TypeId) (x y : Operand) (ho : o.op = .store t x y) (hd : o.dst = none) (p v : Value) (w' : World) (hx : a.eval x = p) (hy : a.eval y = v) (hrun : (Instr.storeAt t p v).run P w = .ok () w') (hK : K a w') :
  if Region.wanted o (yielded ops a.tmps) = true then Oper.wp P o a w K Q else E := by
 rw [if_pos (by simp [Region.wanted, hgd])]
 unfold Oper.wp
 simp only [execOp, ho, hx, hy]
 simp only [Sem.run_bind, hrun, Result.andThen, Sem.run_pure, Oper.upon]
 rw [hd]
 exact hK
abbrev ZPg : Array Value := #[.int .u32 0, .slice none 0 0]
theorem al_46 (w : World) : (Instr.alloc 103 true (.tuple #[])).run Tryz.prog w = .ok (.pointer (some ⟨w.heap.size, 0, none⟩)) (w.alloc (.cells ZPg 103)) := by kernel_rfl
theorem bs_46 (w : World) : (Instr.buildSlice 24 1 #[(0, .agg ZPg)]).run Tryz.prog w = .ok (.slice (some ⟨w.heap.size, 0, none⟩) 1 1) (w.alloc (.cells ZPg 103)) := by kernel_rfl
def ops46_7 : Array Oper := #[⟨some 26, Op.move (.tmp 1), 146, "fields.go:117", #[], none⟩,
 ⟨some 27, Op.move (.tmp 1), 146, "fields.go:117", #[], none⟩,
 ⟨some 28, Op.nilCheck (.tmp 27), 0, "fields.go:117", #[gd' 1], none⟩,
 ⟨some 29, Op.load 24 (.tmp 28), 24, "fields.go:117", #[gd' 2], none⟩,
 ⟨some 30, Op.alloc 103, 147, "fields.go:117", #[], none⟩,
 ⟨some 31, Op.nilCheck (.tmp 30), 0, "fields.go:117", #[gd' 4], none⟩,
 ⟨some 32, Op.load 103 (.tmp 31), 103, "fields.go:117", #[gd' 5], none⟩,
 ⟨some 33, Op.buildSlice 24 1 #[(0, Operand.tmp 32)], 24, "fields.go:117", #[gd' 6], none⟩,
 ⟨some 34, Op.call { callee := Callee.builtin Builtin.append, args := #[Operand.tmp 29, Operand.tmp 33], argTypes := #[24, 24] }, 24, "fields.go:117", #[gd' 3, gd' 7], none⟩,
 ⟨some 35, Op.nilCheck (.tmp 26), 0, "fields.go:117", #[gd' 0, gp' 0, gp' 1, gp' 2, gp' 3, gp' 4, gp' 5, gp' 6, gp' 7, gp' 8], none⟩,
 ⟨none, Op.store 24 (.tmp 35) (.tmp 34), 0, "fields.go:117", #[gd' 9, gd' 8, gc' 8, gp' 0, gp' 1, gp' 2, gp' 3, gp' 4, gp' 5, gp' 6, gp' 7, gp' 8], none⟩]
set_option maxHeartbeats 8000000 in
set_option maxRecDepth 100000 in
theorem reg46_7 (W WA WB W7 W8 : World) (b o n0 n1 : Nat) (LV v' : Value) (hl0 : (Instr.loadAt 24 (.pointer (some ⟨b, o, none⟩))).run Tryz.prog W.drew = .ok LV W.drew) (hlA : (Instr.loadAt 24 (.pointer (some ⟨b, o, none⟩))).run Tryz.prog WA = .ok LV WA) (hlB : (Instr.loadAt 24 (.pointer (some ⟨b, o, none⟩))).run Tryz.prog WB = .ok LV WB)
  (hal : (Instr.alloc 103 true (.tuple #[])).run Tryz.prog W.drew = .ok (.pointer (some ⟨n0, 0, none⟩)) WA) (hzA : (Instr.loadAt 103 (.pointer (some ⟨n0, 0, none⟩))).run Tryz.prog WA = .ok (.agg ZPg) WA) (hbs : (Instr.buildSlice 24 1 #[(0, .agg ZPg)]).run Tryz.prog WA = .ok (.slice (some ⟨n1, 0, none⟩) 1 1) WB)
  (hr : (Builtin.append_ #[24, 24] 24 #[LV, .slice (some ⟨n1, 0, none⟩) 1 1]).run Tryz.prog WB = .ok v' W7) (hst : (Instr.storeAt 24 (.pointer (some ⟨b, o, none⟩)) v').run Tryz.prog W7 = .ok () W8)
  (Q : Exit → Act → World → Prop) (hPan : ∀ c (a : Act) w (d : Option Tmp) v, Q (.panic c) (a.put d v) w → Q (.panic c) a w) {u0 u2 u3 u4 u5 u6 u7 u8 u9 u10 u11 u12 u13 u14 u15 u16 u17 u18 u19 u20 u21 u22 u23 u24 u25 u26 u27 u28 u29 u30 u31 u32 u33 u34 u35 u36 u37 u38 u39 u40 u41 u42 u43 : Value}
  (hQ : Q .normal ⟨#[u0, .pointer (some ⟨b, o, none⟩), u2,u3,u4,u5,u6,u7,u8,u9,u10,u11,u12,u13,u14,u15,u16,u17,u18,u19,u20,u21,u22,u23,u24,u25, .pointer (some ⟨b, o, none⟩), .pointer (some ⟨b, o, none⟩), .pointer (some ⟨b, o, none⟩), LV, .pointer (some ⟨n0, 0, none⟩), .pointer (some ⟨n0, 0, none⟩), .agg ZPg, .slice (some ⟨n1, 0, none⟩) 1 1, v', .pointer (some ⟨b, o, none⟩), u36,u37,u38,u39,u40,u41,u42,u43], []⟩ W8) :
  Code.wp Tryz.prog (Code.region 7 ops46_7 true) Q ⟨#[u0, .pointer (some ⟨b, o, none⟩), u2,u3,u4,u5,u6,u7,u8,u9,u10,u11,u12,u13,u14,u15,u16,u17,u18,u19,u20,u21,u22,u23,u24,u25,u26,u27,u28,u29,u30,u31,u32,u33,u34,u35,u36,u37,u38,u39,u40,u41,u42,u43], []⟩ W := by
 refine wp_region_held_drew (S := fun _ => True) hmx trivial (fun HSX => ?_)
 obtain ⟨W0, hW0⟩ : ∃ W0,W0 = W.drew := ⟨_, rfl⟩
 rw [← hW0] at hl0 hal ⊢
 clear hW0
 refine tk hPan (i := 0) (oi := ⟨some 26, Op.move (.tmp 1), 146, "fields.go:117", #[], none⟩) (v := .pointer (some ⟨b, o, none⟩)) rfl (by kernel_rfl) (.inl ⟨by rfl, ?_⟩) HSX ?_
 ·intro wx d0
  skip
  go_simp
 simp only [Act.put, sl0', sl1', sl2']
 refine tk hPan (i := 1) (oi := ⟨some 27, Op.move (.tmp 1), 146, "fields.go:117", #[], none⟩) (v := .pointer (some ⟨b, o, none⟩)) rfl (by kernel_rfl) (.inl ⟨by rfl, ?_⟩) HSX ?_
 ·intro wx d0
  skip
  go_simp
 simp only [Act.put, sl0', sl1', sl2']
 refine tk hPan (i := 2) (oi := ⟨some 28, Op.nilCheck (.tmp 27), 0, "fields.go:117", #[gd' 1], none⟩) (v := .pointer (some ⟨b, o, none⟩)) rfl (by kernel_rfl) (.inl ⟨by rfl, ?_⟩) HSX ?_
 ·intro wx d0
  skip
  go_simp
 simp only [Act.put, sl0', sl1', sl2']
 refine wpAnyH_ready (rs := [3, 4]) (by kernel_rfl) (by simp) ?_
 refine (AllReadyH.cons (o := ⟨some 29, Op.load 24 (.tmp 28), 24, "fields.go:117", #[gd' 2], none⟩) rfl (fun K hK => ?_) (AllReadyH.cons (o := ⟨some 30, Op.alloc 103, 147, "fields.go:117", #[], none⟩) rfl (fun K hK => ?_) AllReadyH.nil))
 ·refine step_ld rfl 24 (.tmp 28) rfl (.pointer (some ⟨b, o, none⟩)) LV rfl hl0 ?_
  simp only [Act.put, sl0', sl1', sl2']
  refine hK.out _ _ trivial (fun HSX => ?_)
  clear hK K
  refine wpAnyH_ready (rs := [4]) (by kernel_rfl) (by simp) ?_
  refine (AllReadyH.cons (o := ⟨some 30, Op.alloc 103, 147, "fields.go:117", #[], none⟩) rfl (fun K hK => ?_) AllReadyH.nil)
  refine step_al rfl 103 rfl (.pointer (some ⟨n0, 0, none⟩)) WA hal ?_
  simp only [Act.put, sl0', sl1', sl2']
  refine hK.out _ _ trivial (fun HSX => ?_)
  clear hK K
  refine tk hPan (i := 5) (oi := ⟨some 31, Op.nilCheck (.tmp 30), 0, "fields.go:117", #[gd' 4], none⟩) (v := .pointer (some ⟨n0, 0, none⟩)) rfl (by kernel_rfl) (.inl ⟨by rfl, ?_⟩) HSX ?_
  ·intro wx d0
   skip
   go_simp
  simp only [Act.put, sl0', sl1', sl2']
  refine wpAnyH_ready (rs := [6]) (by kernel_rfl) (by simp) ?_
  refine (AllReadyH.cons (o := ⟨some 32, Op.load 103 (.tmp 31), 103, "fields.go:117", #[gd' 5], none⟩) rfl (fun K hK => ?_) AllReadyH.nil)
  refine step_ld rfl 103 (.tmp 31) rfl (.pointer (some ⟨n0, 0, none⟩)) (.agg ZPg) rfl hzA ?_
  simp only [Act.put, sl0', sl1', sl2']
  refine hK.out _ _ trivial (fun HSX => ?_)
  clear hK K
  refine wpAnyH_ready (rs := [7]) (by kernel_rfl) (by simp) ?_
  refine (AllReadyH.cons (o := ⟨some 33, Op.buildSlice 24 1 #[(0, Operand.tmp 32)], 24, "fields.go:117", #[gd' 6], none⟩) rfl (fun K hK => ?_) AllReadyH.nil)
  refine step_bs rfl 24 1 _ rfl #[(0, .agg ZPg)] (by kernel_rfl) (.slice (some ⟨n1, 0, none⟩) 1 1) WB hbs ?_
  simp only [Act.put, sl0', sl1', sl2']
  refine hK.out _ _ trivial (fun HSX => ?_)
  clear hK K
  refine wpAnyH_ready (rs := [8]) (by kernel_rfl) (by simp) ?_
  refine (AllReadyH.cons (o := ⟨some 34, Op.call { callee := Callee.builtin Builtin.append, args := #[Operand.tmp 29, Operand.tmp 33], argTypes := #[24, 24] }, 24, "fields.go:117", #[gd' 3, gd' 7], none⟩) rfl (fun K hK => ?_) AllReadyH.nil)
  refine step_app rfl (.tmp 29) (.tmp 33) 24 24 rfl LV (.slice (some ⟨n1, 0, none⟩) 1 1) v' W7 rfl rfl hr ?_
  simp only [Act.put, sl0', sl1', sl2']
  refine hK.out _ _ trivial (fun HSX => ?_)
  clear hK K
  refine tk hPan (i := 9) (oi := ⟨some 35, Op.nilCheck (.tmp 26), 0, "fields.go:117", #[gd' 0, gp' 0, gp' 1, gp' 2, gp' 3, gp' 4, gp' 5, gp' 6, gp' 7, gp' 8], none⟩) (v := .pointer (some ⟨b, o, none⟩)) rfl (by kernel_rfl) (.inl ⟨by rfl, ?_⟩) HSX ?_
  ·intro wx d0
   skip
   go_simp
  simp only [Act.put, sl0', sl1', sl2']
  refine wpAnyH_ready (rs := [10]) (by kernel_rfl) (by simp) ?_
  refine (AllReadyH.cons (o := ⟨none, Op.store 24 (.tmp 35) (.tmp 34), 0, "fields.go:117", #[gd' 9, gd' 8, gc' 8, gp' 0, gp' 1, gp' 2, gp' 3, gp' 4, gp' 5, gp' 6, gp' 7, gp' 8], none⟩) rfl (fun K hK => ?_) AllReadyH.nil)
  refine step_st rfl 24 (.tmp 35) (.tmp 34) rfl rfl (.pointer (some ⟨b, o, none⟩)) v' W8 rfl rfl hst ?_
  refine hK.out _ _ trivial (fun HSX => ?_)
  clear hK K
  refine wpAnyH_done (by kernel_rfl) ?_ _
  exact hQ
 ·refine step_al rfl 103 rfl (.pointer (some ⟨n0, 0, none⟩)) WA hal ?_
  simp only [Act.put, sl0', sl1', sl2']
  refine hK.out _ _ trivial (fun HSX => ?_)
  clear hK K
  refine tk hPan (i := 5) (oi := ⟨some 31, Op.nilCheck (.tmp 30), 0, "fields.go:117", #[gd' 4], none⟩) (v := .pointer (some ⟨n0, 0, none⟩)) rfl (by kernel_rfl) (.inl ⟨by rfl, ?_⟩) HSX ?_
  ·intro wx d0
   skip
   go_simp
  simp only [Act.put, sl0', sl1', sl2']
  refine wpAnyH_ready (rs := [3, 6]) (by kernel_rfl) (by simp) ?_
  refine (AllReadyH.cons (o := ⟨some 29, Op.load 24 (.tmp 28), 24, "fields.go:117", #[gd' 2], none⟩) rfl (fun K hK => ?_) (AllReadyH.cons (o := ⟨some 32, Op.load 103 (.tmp 31), 103, "fields.go:117", #[gd' 5], none⟩) rfl (fun K hK => ?_) AllReadyH.nil))
  ·refine step_ld rfl 24 (.tmp 28) rfl (.pointer (some ⟨b, o, none⟩)) LV rfl hlA ?_
   simp only [Act.put, sl0', sl1', sl2']
   refine hK.out _ _ trivial (fun HSX => ?_)
   clear hK K
   refine wpAnyH_ready (rs := [6]) (by kernel_rfl) (by simp) ?_
   refine (AllReadyH.cons (o := ⟨some 32, Op.load 103 (.tmp 31), 103, "fields.go:117", #[gd' 5], none⟩) rfl (fun K hK => ?_) AllReadyH.nil)
   refine step_ld rfl 103 (.tmp 31) rfl (.pointer (some ⟨n0, 0, none⟩)) (.agg ZPg) rfl hzA ?_
   simp only [Act.put, sl0', sl1', sl2']
   refine hK.out _ _ trivial (fun HSX => ?_)
   clear hK K
   refine wpAnyH_ready (rs := [7]) (by kernel_rfl) (by simp) ?_
   refine (AllReadyH.cons (o := ⟨some 33, Op.buildSlice 24 1 #[(0, Operand.tmp 32)], 24, "fields.go:117", #[gd' 6], none⟩) rfl (fun K hK => ?_) AllReadyH.nil)
   refine step_bs rfl 24 1 _ rfl #[(0, .agg ZPg)] (by kernel_rfl) (.slice (some ⟨n1, 0, none⟩) 1 1) WB hbs ?_
   simp only [Act.put, sl0', sl1', sl2']
   refine hK.out _ _ trivial (fun HSX => ?_)
   clear hK K
   refine wpAnyH_ready (rs := [8]) (by kernel_rfl) (by simp) ?_
   refine (AllReadyH.cons (o := ⟨some 34, Op.call { callee := Callee.builtin Builtin.append, args := #[Operand.tmp 29, Operand.tmp 33], argTypes := #[24, 24] }, 24, "fields.go:117", #[gd' 3, gd' 7], none⟩) rfl (fun K hK => ?_) AllReadyH.nil)
   refine step_app rfl (.tmp 29) (.tmp 33) 24 24 rfl LV (.slice (some ⟨n1, 0, none⟩) 1 1) v' W7 rfl rfl hr ?_
   simp only [Act.put, sl0', sl1', sl2']
   refine hK.out _ _ trivial (fun HSX => ?_)
   clear hK K
   refine tk hPan (i := 9) (oi := ⟨some 35, Op.nilCheck (.tmp 26), 0, "fields.go:117", #[gd' 0, gp' 0, gp' 1, gp' 2, gp' 3, gp' 4, gp' 5, gp' 6, gp' 7, gp' 8], none⟩) (v := .pointer (some ⟨b, o, none⟩)) rfl (by kernel_rfl) (.inl ⟨by rfl, ?_⟩) HSX ?_
   ·intro wx d0
    skip
    go_simp
   simp only [Act.put, sl0', sl1', sl2']
   refine wpAnyH_ready (rs := [10]) (by kernel_rfl) (by simp) ?_
   refine (AllReadyH.cons (o := ⟨none, Op.store 24 (.tmp 35) (.tmp 34), 0, "fields.go:117", #[gd' 9, gd' 8, gc' 8, gp' 0, gp' 1, gp' 2, gp' 3, gp' 4, gp' 5, gp' 6, gp' 7, gp' 8], none⟩) rfl (fun K hK => ?_) AllReadyH.nil)
   refine step_st rfl 24 (.tmp 35) (.tmp 34) rfl rfl (.pointer (some ⟨b, o, none⟩)) v' W8 rfl rfl hst ?_
   refine hK.out _ _ trivial (fun HSX => ?_)
   clear hK K
   refine wpAnyH_done (by kernel_rfl) ?_ _
   exact hQ
  ·refine step_ld rfl 103 (.tmp 31) rfl (.pointer (some ⟨n0, 0, none⟩)) (.agg ZPg) rfl hzA ?_
   simp only [Act.put, sl0', sl1', sl2']
   refine hK.out _ _ trivial (fun HSX => ?_)
   clear hK K
   refine wpAnyH_ready (rs := [3, 7]) (by kernel_rfl) (by simp) ?_
   refine (AllReadyH.cons (o := ⟨some 29, Op.load 24 (.tmp 28), 24, "fields.go:117", #[gd' 2], none⟩) rfl (fun K hK => ?_) (AllReadyH.cons (o := ⟨some 33, Op.buildSlice 24 1 #[(0, Operand.tmp 32)], 24, "fields.go:117", #[gd' 6], none⟩) rfl (fun K hK => ?_) AllReadyH.nil))
   ·refine step_ld rfl 24 (.tmp 28) rfl (.pointer (some ⟨b, o, none⟩)) LV rfl hlA ?_
    simp only [Act.put, sl0', sl1', sl2']
    refine hK.out _ _ trivial (fun HSX => ?_)
    clear hK K
    refine wpAnyH_ready (rs := [7]) (by kernel_rfl) (by simp) ?_
    refine (AllReadyH.cons (o := ⟨some 33, Op.buildSlice 24 1 #[(0, Operand.tmp 32)], 24, "fields.go:117", #[gd' 6], none⟩) rfl (fun K hK => ?_) AllReadyH.nil)
    refine step_bs rfl 24 1 _ rfl #[(0, .agg ZPg)] (by kernel_rfl) (.slice (some ⟨n1, 0, none⟩) 1 1) WB hbs ?_
    simp only [Act.put, sl0', sl1', sl2']
    refine hK.out _ _ trivial (fun HSX => ?_)
    clear hK K
    refine wpAnyH_ready (rs := [8]) (by kernel_rfl) (by simp) ?_
    refine (AllReadyH.cons (o := ⟨some 34, Op.call { callee := Callee.builtin Builtin.append, args := #[Operand.tmp 29, Operand.tmp 33], argTypes := #[24, 24] }, 24, "fields.go:117", #[gd' 3, gd' 7], none⟩) rfl (fun K hK => ?_) AllReadyH.nil)
    refine step_app rfl (.tmp 29) (.tmp 33) 24 24 rfl LV (.slice (some ⟨n1, 0, none⟩) 1 1) v' W7 rfl rfl hr ?_
    simp only [Act.put, sl0', sl1', sl2']
    refine hK.out _ _ trivial (fun HSX => ?_)
    clear hK K
    refine tk hPan (i := 9) (oi := ⟨some 35, Op.nilCheck (.tmp 26), 0, "fields.go:117", #[gd' 0, gp' 0, gp' 1, gp' 2, gp' 3, gp' 4, gp' 5, gp' 6, gp' 7, gp' 8], none⟩) (v := .pointer (some ⟨b, o, none⟩)) rfl (by kernel_rfl) (.inl ⟨by rfl, ?_⟩) HSX ?_
    ·intro wx d0
     skip
     go_simp
    simp only [Act.put, sl0', sl1', sl2']
    refine wpAnyH_ready (rs := [10]) (by kernel_rfl) (by simp) ?_
    refine (AllReadyH.cons (o := ⟨none, Op.store 24 (.tmp 35) (.tmp 34), 0, "fields.go:117", #[gd' 9, gd' 8, gc' 8, gp' 0, gp' 1, gp' 2, gp' 3, gp' 4, gp' 5, gp' 6, gp' 7, gp' 8], none⟩) rfl (fun K hK => ?_) AllReadyH.nil)
    refine step_st rfl 24 (.tmp 35) (.tmp 34) rfl rfl (.pointer (some ⟨b, o, none⟩)) v' W8 rfl rfl hst ?_
    refine hK.out _ _ trivial (fun HSX => ?_)
    clear hK K
    refine wpAnyH_done (by kernel_rfl) ?_ _
    exact hQ
   ·refine step_bs rfl 24 1 _ rfl #[(0, .agg ZPg)] (by kernel_rfl) (.slice (some ⟨n1, 0, none⟩) 1 1) WB hbs ?_
    simp only [Act.put, sl0', sl1', sl2']
    refine hK.out _ _ trivial (fun HSX => ?_)
    clear hK K
    refine wpAnyH_ready (rs := [3]) (by kernel_rfl) (by simp) ?_
    refine (AllReadyH.cons (o := ⟨some 29, Op.load 24 (.tmp 28), 24, "fields.go:117", #[gd' 2], none⟩) rfl (fun K hK => ?_) AllReadyH.nil)
    refine step_ld rfl 24 (.tmp 28) rfl (.pointer (some ⟨b, o, none⟩)) LV rfl hlB ?_
    simp only [Act.put, sl0', sl1', sl2']
    refine hK.out _ _ trivial (fun HSX => ?_)
    clear hK K
    refine wpAnyH_ready (rs := [8]) (by kernel_rfl) (by simp) ?_
    refine (AllReadyH.cons (o := ⟨some 34, Op.call { callee := Callee.builtin Builtin.append, args := #[Operand.tmp 29, Operand.tmp 33], argTypes := #[24, 24] }, 24, "fields.go:117", #[gd' 3, gd' 7], none⟩) rfl (fun K hK => ?_) AllReadyH.nil)
    refine step_app rfl (.tmp 29) (.tmp 33) 24 24 rfl LV (.slice (some ⟨n1, 0, none⟩) 1 1) v' W7 rfl rfl hr ?_
    simp only [Act.put, sl0', sl1', sl2']
    refine hK.out _ _ trivial (fun HSX => ?_)
    clear hK K
    refine tk hPan (i := 9) (oi := ⟨some 35, Op.nilCheck (.tmp 26), 0, "fields.go:117", #[gd' 0, gp' 0, gp' 1, gp' 2, gp' 3, gp' 4, gp' 5, gp' 6, gp' 7, gp' 8], none⟩) (v := .pointer (some ⟨b, o, none⟩)) rfl (by kernel_rfl) (.inl ⟨by rfl, ?_⟩) HSX ?_
    ·intro wx d0
     skip
     go_simp
    simp only [Act.put, sl0', sl1', sl2']
    refine wpAnyH_ready (rs := [10]) (by kernel_rfl) (by simp) ?_
    refine (AllReadyH.cons (o := ⟨none, Op.store 24 (.tmp 35) (.tmp 34), 0, "fields.go:117", #[gd' 9, gd' 8, gc' 8, gp' 0, gp' 1, gp' 2, gp' 3, gp' 4, gp' 5, gp' 6, gp' 7, gp' 8], none⟩) rfl (fun K hK => ?_) AllReadyH.nil)
    refine step_st rfl 24 (.tmp 35) (.tmp 34) rfl rfl (.pointer (some ⟨b, o, none⟩)) v' W8 rfl rfl hst ?_
    refine hK.out _ _ trivial (fun HSX => ?_)
    clear hK K
    refine wpAnyH_done (by kernel_rfl) ?_ _
    exact hQ
abbrev ZCel : Array Value := #[.int .u32 0, .int .u32 0, .int .u32 0, .int .u32 0, .int .u32 0, .int .u32 0, .int .u32 0, .int .u32 0, .int .u32 0, .int .u32 0, .int .u32 0, .int .u32 0, .int .u32 0, .int .u32 0, .int .u32 0, .int .u32 0, .int .u32 0, .int .u32 0, .int .u32 0, .bool false, .bool false, .bool false]
theorem al_49 (w : World) : (Instr.alloc 62 true (.tuple #[])).run Tryz.prog w = .ok (.pointer (some ⟨w.heap.size, 0, none⟩)) (w.alloc (.cells ZCel 62)) := by kernel_rfl
theorem bs_49 (w : World) : (Instr.buildSlice 25 1 #[(0, .agg ZCel)]).run Tryz.prog w = .ok (.slice (some ⟨w.heap.size, 0, none⟩) 1 1) (w.alloc (.cells ZCel 62)) := by kernel_rfl
def ops49_7 : Array Oper := #[⟨some 26, Op.move (.tmp 1), 151, "fields.go:117", #[], none⟩,
 ⟨some 27, Op.move (.tmp 1), 151, "fields.go:117", #[], none⟩,
 ⟨some 28, Op.nilCheck (.tmp 27), 0, "fields.go:117", #[gd' 1], none⟩,
 ⟨some 29, Op.load 25 (.tmp 28), 25, "fields.go:117", #[gd' 2], none⟩,
 ⟨some 30, Op.alloc 62, 152, "fields.go:117", #[], none⟩,
 ⟨some 31, Op.nilCheck (.tmp 30), 0, "fields.go:117", #[gd' 4], none⟩,
 ⟨some 32, Op.load 62 (.tmp 31), 62, "fields.go:117", #[gd' 5], none⟩,
 ⟨some 33, Op.buildSlice 25 1 #[(0, Operand.tmp 32)], 25, "fields.go:117", #[gd' 6], none⟩,
 ⟨some 34, Op.call { callee := Callee.builtin Builtin.append, args := #[Operand.tmp 29, Operand.tmp 33], argTypes := #[25, 25] }, 25, "fields.go:117", #[gd' 3, gd' 7], none⟩,
 ⟨some 35, Op.nilCheck (.tmp 26), 0, "fields.go:117", #[gd' 0, gp' 0, gp' 1, gp' 2, gp' 3, gp' 4, gp' 5, gp' 6, gp' 7, gp' 8], none⟩,
 ⟨none, Op.store 25 (.tmp 35) (.tmp 34), 0, "fields.go:117", #[gd' 9, gd' 8, gc' 8, gp' 0, gp' 1, gp' 2, gp' 3, gp' 4, gp' 5, gp' 6, gp' 7, gp' 8], none⟩]
set_option maxHeartbeats 8000000 in
set_option maxRecDepth 100000 in
theorem reg49_7 (W WA WB W7 W8 : World) (b o n0 n1 : Nat) (LV v' : Value) (hl0 : (Instr.loadAt 25 (.pointer (some ⟨b, o, none⟩))).run Tryz.prog W.drew = .ok LV W.drew) (hlA : (Instr.loadAt 25 (.pointer (some ⟨b, o, none⟩))).run Tryz.prog WA = .ok LV WA) (hlB : (Instr.loadAt 25 (.pointer (some ⟨b, o, none⟩))).run Tryz.prog WB = .ok LV WB)
  (hal : (Instr.alloc 62 true (.tuple #[])).run Tryz.prog W.drew = .ok (.pointer (some ⟨n0, 0, none⟩)) WA) (hzA : (Instr.loadAt 62 (.pointer (some ⟨n0, 0, none⟩))).run Tryz.prog WA = .ok (.agg ZCel) WA) (hbs : (Instr.buildSlice 25 1 #[(0, .agg ZCel)]).run Tryz.prog WA = .ok (.slice (some ⟨n1, 0, none⟩) 1 1) WB)
  (hr : (Builtin.append_ #[25, 25] 25 #[LV, .slice (some ⟨n1, 0, none⟩) 1 1]).run Tryz.prog WB = .ok v' W7) (hst : (Instr.storeAt 25 (.pointer (some ⟨b, o, none⟩)) v').run Tryz.prog W7 = .ok () W8)
  (Q : Exit → Act → World → Prop) (hPan : ∀ c (a : Act) w (d : Option Tmp) v, Q (.panic c) (a.put d v) w → Q (.panic c) a w) {u0 u2 u3 u4 u5 u6 u7 u8 u9 u10 u11 u12 u13 u14 u15 u16 u17 u18 u19 u20 u21 u22 u23 u24 u25 u26 u27 u28 u29 u30 u31 u32 u33 u34 u35 u36 u37 u38 u39 u40 u41 u42 u43 : Value}
  (hQ : Q .normal ⟨#[u0, .pointer (some ⟨b, o, none⟩), u2,u3,u4,u5,u6,u7,u8,u9,u10,u11,u12,u13,u14,u15,u16,u17,u18,u19,u20,u21,u22,u23,u24,u25, .pointer (some ⟨b, o, none⟩), .pointer (some ⟨b, o, none⟩), .pointer (some ⟨b, o, none⟩), LV, .pointer (some ⟨n0, 0, none⟩), .pointer (some ⟨n0, 0, none⟩), .agg ZCel, .slice (some ⟨n1, 0, none⟩) 1 1, v', .pointer (some ⟨b, o, none⟩), u36,u37,u38,u39,u40,u41,u42,u43], []⟩ W8) :
  Code.wp Tryz.prog (Code.region 7 ops49_7 true) Q ⟨#[u0, .pointer (some ⟨b, o, none⟩), u2,u3,u4,u5,u6,u7,u8,u9,u10,u11,u12,u13,u14,u15,u16,u17,u18,u19,u20,u21,u22,u23,u24,u25,u26,u27,u28,u29,u30,u31,u32,u33,u34,u35,u36,u37,u38,u39,u40,u41,u42,u43], []⟩ W := by
 refine wp_region_held_drew (S := fun _ => True) hmx trivial (fun HSX => ?_)
 obtain ⟨W0, hW0⟩ : ∃ W0,W0 = W.drew := ⟨_, rfl⟩
 rw [← hW0] at hl0 hal ⊢
 clear hW0
 refine tk hPan (i := 0) (oi := ⟨some 26, Op.move (.tmp 1), 151, "fields.go:117", #[], none⟩) (v := .pointer (some ⟨b, o, none⟩)) rfl (by kernel_rfl) (.inl ⟨by rfl, ?_⟩) HSX ?_
 ·intro wx d0
  skip
  go_simp
 simp only [Act.put, sl0', sl1', sl2']
 refine tk hPan (i := 1) (oi := ⟨some 27, Op.move (.tmp 1), 151, "fields.go:117", #[], none⟩) (v := .pointer (some ⟨b, o, none⟩)) rfl (by kernel_rfl) (.inl ⟨by rfl, ?_⟩) HSX ?_
 ·intro wx d0
  skip
  go_simp
 simp only [Act.put, sl0', sl1', sl2']
 refine tk hPan (i := 2) (oi := ⟨some 28, Op.nilCheck (.tmp 27), 0, "fields.go:117", #[gd' 1], none⟩) (v := .pointer (some ⟨b, o, none⟩)) rfl (by kernel_rfl) (.inl ⟨by rfl, ?_⟩) HSX ?_
 ·intro wx d0
  skip
  go_simp
 simp only [Act.put, sl0', sl1', sl2']
 refine wpAnyH_ready (rs := [3, 4]) (by kernel_rfl) (by simp) ?_
 refine (AllReadyH.cons (o := ⟨some 29, Op.load 25 (.tmp 28), 25, "fields.go:117", #[gd' 2], none⟩) rfl (fun K hK => ?_) (AllReadyH.cons (o := ⟨some 30, Op.alloc 62, 152, "fields.go:117", #[], none⟩) rfl (fun K hK => ?_) AllReadyH.nil))
 ·refine step_ld rfl 25 (.tmp 28) rfl (.pointer (some ⟨b, o, none⟩)) LV rfl hl0 ?_
  simp only [Act.put, sl0', sl1', sl2']
  refine hK.out _ _ trivial (fun HSX => ?_)
  clear hK K
  refine wpAnyH_ready (rs := [4]) (by kernel_rfl) (by simp) ?_
  refine (AllReadyH.cons (o := ⟨some 30, Op.alloc 62, 152, "fields.go:117", #[], none⟩) rfl (fun K hK => ?_) AllReadyH.nil)
  refine step_al rfl 62 rfl (.pointer (some ⟨n0, 0, none⟩)) WA hal ?_
  simp only [Act.put, sl0', sl1', sl2']
  refine hK.out _ _ trivial (fun HSX => ?_)
  clear hK K
  refine tk hPan (i := 5) (oi := ⟨some 31, Op.nilCheck (.tmp 30), 0, "fields.go:117", #[gd' 4], none⟩) (v := .pointer (some ⟨n0, 0, none⟩)) rfl (by kernel_rfl) (.inl ⟨by rfl, ?_⟩) HSX ?_
  ·intro wx d0
   skip
   go_simp
  simp only [Act.put, sl0', sl1', sl2']
  refine wpAnyH_ready (rs := [6]) (by kernel_rfl) (by simp) ?_
  refine (AllReadyH.cons (o := ⟨some 32, Op.load 62 (.tmp 31), 62, "fields.go:117", #[gd' 5], none⟩) rfl (fun K hK => ?_) AllReadyH.nil)
  refine step_ld rfl 62 (.tmp 31) rfl (.pointer (some ⟨n0, 0, none⟩)) (.agg ZCel) rfl hzA ?_
  simp only [Act.put, sl0', sl1', sl2']
  refine hK.out _ _ trivial (fun HSX => ?_)
  clear hK K
  refine wpAnyH_ready (rs := [7]) (by kernel_rfl) (by simp) ?_
  refine (AllReadyH.cons (o := ⟨some 33, Op.buildSlice 25 1 #[(0, Operand.tmp 32)], 25, "fields.go:117", #[gd' 6], none⟩) rfl (fun K hK => ?_) AllReadyH.nil)
  refine step_bs rfl 25 1 _ rfl #[(0, .agg ZCel)] (by kernel_rfl) (.slice (some ⟨n1, 0, none⟩) 1 1) WB hbs ?_
  simp only [Act.put, sl0', sl1', sl2']
  refine hK.out _ _ trivial (fun HSX => ?_)
  clear hK K
  refine wpAnyH_ready (rs := [8]) (by kernel_rfl) (by simp) ?_
  refine (AllReadyH.cons (o := ⟨some 34, Op.call { callee := Callee.builtin Builtin.append, args := #[Operand.tmp 29, Operand.tmp 33], argTypes := #[25, 25] }, 25, "fields.go:117", #[gd' 3, gd' 7], none⟩) rfl (fun K hK => ?_) AllReadyH.nil)
  refine step_app rfl (.tmp 29) (.tmp 33) 25 25 rfl LV (.slice (some ⟨n1, 0, none⟩) 1 1) v' W7 rfl rfl hr ?_
  simp only [Act.put, sl0', sl1', sl2']
  refine hK.out _ _ trivial (fun HSX => ?_)
  clear hK K
  refine tk hPan (i := 9) (oi := ⟨some 35, Op.nilCheck (.tmp 26), 0, "fields.go:117", #[gd' 0, gp' 0, gp' 1, gp' 2, gp' 3, gp' 4, gp' 5, gp' 6, gp' 7, gp' 8], none⟩) (v := .pointer (some ⟨b, o, none⟩)) rfl (by kernel_rfl) (.inl ⟨by rfl, ?_⟩) HSX ?_
  ·intro wx d0
   skip
   go_simp
  simp only [Act.put, sl0', sl1', sl2']
  refine wpAnyH_ready (rs := [10]) (by kernel_rfl) (by simp) ?_
  refine (AllReadyH.cons (o := ⟨none, Op.store 25 (.tmp 35) (.tmp 34), 0, "fields.go:117", #[gd' 9, gd' 8, gc' 8, gp' 0, gp' 1, gp' 2, gp' 3, gp' 4, gp' 5, gp' 6, gp' 7, gp' 8], none⟩) rfl (fun K hK => ?_) AllReadyH.nil)
  refine step_st rfl 25 (.tmp 35) (.tmp 34) rfl rfl (.pointer (some ⟨b, o, none⟩)) v' W8 rfl rfl hst ?_
  refine hK.out _ _ trivial (fun HSX => ?_)
  clear hK K
  refine wpAnyH_done (by kernel_rfl) ?_ _
  exact hQ
 ·refine step_al rfl 62 rfl (.pointer (some ⟨n0, 0, none⟩)) WA hal ?_
  simp only [Act.put, sl0', sl1', sl2']
  refine hK.out _ _ trivial (fun HSX => ?_)
  clear hK K
  refine tk hPan (i := 5) (oi := ⟨some 31, Op.nilCheck (.tmp 30), 0, "fields.go:117", #[gd' 4], none⟩) (v := .pointer (some ⟨n0, 0, none⟩)) rfl (by kernel_rfl) (.inl ⟨by rfl, ?_⟩) HSX ?_
  ·intro wx d0
   skip
   go_simp
  simp only [Act.put, sl0', sl1', sl2']
  refine wpAnyH_ready (rs := [3, 6]) (by kernel_rfl) (by simp) ?_
  refine (AllReadyH.cons (o := ⟨some 29, Op.load 25 (.tmp 28), 25, "fields.go:117", #[gd' 2], none⟩) rfl (fun K hK => ?_) (AllReadyH.cons (o := ⟨some 32, Op.load 62 (.tmp 31), 62, "fields.go:117", #[gd' 5], none⟩) rfl (fun K hK => ?_) AllReadyH.nil))
  ·refine step_ld rfl 25 (.tmp 28) rfl (.pointer (some ⟨b, o, none⟩)) LV rfl hlA ?_
   simp only [Act.put, sl0', sl1', sl2']
   refine hK.out _ _ trivial (fun HSX => ?_)
   clear hK K
   refine wpAnyH_ready (rs := [6]) (by kernel_rfl) (by simp) ?_
   refine (AllReadyH.cons (o := ⟨some 32, Op.load 62 (.tmp 31), 62, "fields.go:117", #[gd' 5], none⟩) rfl (fun K hK => ?_) AllReadyH.nil)
   refine step_ld rfl 62 (.tmp 31) rfl (.pointer (some ⟨n0, 0, none⟩)) (.agg ZCel) rfl hzA ?_
   simp only [Act.put, sl0', sl1', sl2']
   refine hK.out _ _ trivial (fun HSX => ?_)
   clear hK K
   refine wpAnyH_ready (rs := [7]) (by kernel_rfl) (by simp) ?_
   refine (AllReadyH.cons (o := ⟨some 33, Op.buildSlice 25 1 #[(0, Operand.tmp 32)], 25, "fields.go:117", #[gd' 6], none⟩) rfl (fun K hK => ?_) AllReadyH.nil)
   refine step_bs rfl 25 1 _ rfl #[(0, .agg ZCel)] (by kernel_rfl) (.slice (some ⟨n1, 0, none⟩) 1 1) WB hbs ?_
   simp only [Act.put, sl0', sl1', sl2']
   refine hK.out _ _ trivial (fun HSX => ?_)
   clear hK K
   refine wpAnyH_ready (rs := [8]) (by kernel_rfl) (by simp) ?_
   refine (AllReadyH.cons (o := ⟨some 34, Op.call { callee := Callee.builtin Builtin.append, args := #[Operand.tmp 29, Operand.tmp 33], argTypes := #[25, 25] }, 25, "fields.go:117", #[gd' 3, gd' 7], none⟩) rfl (fun K hK => ?_) AllReadyH.nil)
   refine step_app rfl (.tmp 29) (.tmp 33) 25 25 rfl LV (.slice (some ⟨n1, 0, none⟩) 1 1) v' W7 rfl rfl hr ?_
   simp only [Act.put, sl0', sl1', sl2']
   refine hK.out _ _ trivial (fun HSX => ?_)
   clear hK K
   refine tk hPan (i := 9) (oi := ⟨some 35, Op.nilCheck (.tmp 26), 0, "fields.go:117", #[gd' 0, gp' 0, gp' 1, gp' 2, gp' 3, gp' 4, gp' 5, gp' 6, gp' 7, gp' 8], none⟩) (v := .pointer (some ⟨b, o, none⟩)) rfl (by kernel_rfl) (.inl ⟨by rfl, ?_⟩) HSX ?_
   ·intro wx d0
    skip
    go_simp
   simp only [Act.put, sl0', sl1', sl2']
   refine wpAnyH_ready (rs := [10]) (by kernel_rfl) (by simp) ?_
   refine (AllReadyH.cons (o := ⟨none, Op.store 25 (.tmp 35) (.tmp 34), 0, "fields.go:117", #[gd' 9, gd' 8, gc' 8, gp' 0, gp' 1, gp' 2, gp' 3, gp' 4, gp' 5, gp' 6, gp' 7, gp' 8], none⟩) rfl (fun K hK => ?_) AllReadyH.nil)
   refine step_st rfl 25 (.tmp 35) (.tmp 34) rfl rfl (.pointer (some ⟨b, o, none⟩)) v' W8 rfl rfl hst ?_
   refine hK.out _ _ trivial (fun HSX => ?_)
   clear hK K
   refine wpAnyH_done (by kernel_rfl) ?_ _
   exact hQ
  ·refine step_ld rfl 62 (.tmp 31) rfl (.pointer (some ⟨n0, 0, none⟩)) (.agg ZCel) rfl hzA ?_
   simp only [Act.put, sl0', sl1', sl2']
   refine hK.out _ _ trivial (fun HSX => ?_)
   clear hK K
   refine wpAnyH_ready (rs := [3, 7]) (by kernel_rfl) (by simp) ?_
   refine (AllReadyH.cons (o := ⟨some 29, Op.load 25 (.tmp 28), 25, "fields.go:117", #[gd' 2], none⟩) rfl (fun K hK => ?_) (AllReadyH.cons (o := ⟨some 33, Op.buildSlice 25 1 #[(0, Operand.tmp 32)], 25, "fields.go:117", #[gd' 6], none⟩) rfl (fun K hK => ?_) AllReadyH.nil))
   ·refine step_ld rfl 25 (.tmp 28) rfl (.pointer (some ⟨b, o, none⟩)) LV rfl hlA ?_
    simp only [Act.put, sl0', sl1', sl2']
    refine hK.out _ _ trivial (fun HSX => ?_)
    clear hK K
    refine wpAnyH_ready (rs := [7]) (by kernel_rfl) (by simp) ?_
    refine (AllReadyH.cons (o := ⟨some 33, Op.buildSlice 25 1 #[(0, Operand.tmp 32)], 25, "fields.go:117", #[gd' 6], none⟩) rfl (fun K hK => ?_) AllReadyH.nil)
    refine step_bs rfl 25 1 _ rfl #[(0, .agg ZCel)] (by kernel_rfl) (.slice (some ⟨n1, 0, none⟩) 1 1) WB hbs ?_
    simp only [Act.put, sl0', sl1', sl2']
    refine hK.out _ _ trivial (fun HSX => ?_)
    clear hK K
    refine wpAnyH_ready (rs := [8]) (by kernel_rfl) (by simp) ?_
    refine (AllReadyH.cons (o := ⟨some 34, Op.call { callee := Callee.builtin Builtin.append, args := #[Operand.tmp 29, Operand.tmp 33], argTypes := #[25, 25] }, 25, "fields.go:117", #[gd' 3, gd' 7], none⟩) rfl (fun K hK => ?_) AllReadyH.nil)
    refine step_app rfl (.tmp 29) (.tmp 33) 25 25 rfl LV (.slice (some ⟨n1, 0, none⟩) 1 1) v' W7 rfl rfl hr ?_
    simp only [Act.put, sl0', sl1', sl2']
    refine hK.out _ _ trivial (fun HSX => ?_)
    clear hK K
    refine tk hPan (i := 9) (oi := ⟨some 35, Op.nilCheck (.tmp 26), 0, "fields.go:117", #[gd' 0, gp' 0, gp' 1, gp' 2, gp' 3, gp' 4, gp' 5, gp' 6, gp' 7, gp' 8], none⟩) (v := .pointer (some ⟨b, o, none⟩)) rfl (by kernel_rfl) (.inl ⟨by rfl, ?_⟩) HSX ?_
    ·intro wx d0
     skip
     go_simp
    simp only [Act.put, sl0', sl1', sl2']
    refine wpAnyH_ready (rs := [10]) (by kernel_rfl) (by simp) ?_
    refine (AllReadyH.cons (o := ⟨none, Op.store 25 (.tmp 35) (.tmp 34), 0, "fields.go:117", #[gd' 9, gd' 8, gc' 8, gp' 0, gp' 1, gp' 2, gp' 3, gp' 4, gp' 5, gp' 6, gp' 7, gp' 8], none⟩) rfl (fun K hK => ?_) AllReadyH.nil)
    refine step_st rfl 25 (.tmp 35) (.tmp 34) rfl rfl (.pointer (some ⟨b, o, none⟩)) v' W8 rfl rfl hst ?_
    refine hK.out _ _ trivial (fun HSX => ?_)
    clear hK K
    refine wpAnyH_done (by kernel_rfl) ?_ _
    exact hQ
   ·refine step_bs rfl 25 1 _ rfl #[(0, .agg ZCel)] (by kernel_rfl) (.slice (some ⟨n1, 0, none⟩) 1 1) WB hbs ?_
    simp only [Act.put, sl0', sl1', sl2']
    refine hK.out _ _ trivial (fun HSX => ?_)
    clear hK K
    refine wpAnyH_ready (rs := [3]) (by kernel_rfl) (by simp) ?_
    refine (AllReadyH.cons (o := ⟨some 29, Op.load 25 (.tmp 28), 25, "fields.go:117", #[gd' 2], none⟩) rfl (fun K hK => ?_) AllReadyH.nil)
    refine step_ld rfl 25 (.tmp 28) rfl (.pointer (some ⟨b, o, none⟩)) LV rfl hlB ?_
    simp only [Act.put, sl0', sl1', sl2']
    refine hK.out _ _ trivial (fun HSX => ?_)
    clear hK K
    refine wpAnyH_ready (rs := [8]) (by kernel_rfl) (by simp) ?_
    refine (AllReadyH.cons (o := ⟨some 34, Op.call { callee := Callee.builtin Builtin.append, args := #[Operand.tmp 29, Operand.tmp 33], argTypes := #[25, 25] }, 25, "fields.go:117", #[gd' 3, gd' 7], none⟩) rfl (fun K hK => ?_) AllReadyH.nil)
    refine step_app rfl (.tmp 29) (.tmp 33) 25 25 rfl LV (.slice (some ⟨n1, 0, none⟩) 1 1) v' W7 rfl rfl hr ?_
    simp only [Act.put, sl0', sl1', sl2']
    refine hK.out _ _ trivial (fun HSX => ?_)
    clear hK K
    refine tk hPan (i := 9) (oi := ⟨some 35, Op.nilCheck (.tmp 26), 0, "fields.go:117", #[gd' 0, gp' 0, gp' 1, gp' 2, gp' 3, gp' 4, gp' 5, gp' 6, gp' 7, gp' 8], none⟩) (v := .pointer (some ⟨b, o, none⟩)) rfl (by kernel_rfl) (.inl ⟨by rfl, ?_⟩) HSX ?_
    ·intro wx d0
     skip
     go_simp
    simp only [Act.put, sl0', sl1', sl2']
    refine wpAnyH_ready (rs := [10]) (by kernel_rfl) (by simp) ?_
    refine (AllReadyH.cons (o := ⟨none, Op.store 25 (.tmp 35) (.tmp 34), 0, "fields.go:117", #[gd' 9, gd' 8, gc' 8, gp' 0, gp' 1, gp' 2, gp' 3, gp' 4, gp' 5, gp' 6, gp' 7, gp' 8], none⟩) rfl (fun K hK => ?_) AllReadyH.nil)
    refine step_st rfl 25 (.tmp 35) (.tmp 34) rfl rfl (.pointer (some ⟨b, o, none⟩)) v' W8 rfl rfl hst ?_
    refine hK.out _ _ trivial (fun HSX => ?_)
    clear hK K
    refine wpAnyH_done (by kernel_rfl) ?_ _
    exact hQ
abbrev ZLne : Array Value := #[.int .u32 0, .int .u32 0, .bool false]
theorem al_52 (w : World) : (Instr.alloc 105 true (.tuple #[])).run Tryz.prog w = .ok (.pointer (some ⟨w.heap.size, 0, none⟩)) (w.alloc (.cells ZLne 105)) := by kernel_rfl
theorem bs_52 (w : World) : (Instr.buildSlice 26 1 #[(0, .agg ZLne)]).run Tryz.prog w = .ok (.slice (some ⟨w.heap.size, 0, none⟩) 1 1) (w.alloc (.cells ZLne 105)) := by kernel_rfl
def ops52_7 : Array Oper := #[⟨some 26, Op.move (.tmp 1), 156, "fields.go:117", #[], none⟩,
 ⟨some 27, Op.move (.tmp 1), 156, "fields.go:117", #[], none⟩,
 ⟨some 28, Op.nilCheck (.tmp 27), 0, "fields.go:117", #[gd' 1], none⟩,
 ⟨some 29, Op.load 26 (.tmp 28), 26, "fields.go:117", #[gd' 2], none⟩,
 ⟨some 30, Op.alloc 105, 157, "fields.go:117", #[], none⟩,
 ⟨some 31, Op.nilCheck (.tmp 30), 0, "fields.go:117", #[gd' 4], none⟩,
 ⟨some 32, Op.load 105 (.tmp 31), 105, "fields.go:117", #[gd' 5], none⟩,
 ⟨some 33, Op.buildSlice 26 1 #[(0, Operand.tmp 32)], 26, "fields.go:117", #[gd' 6], none⟩,
 ⟨some 34, Op.call { callee := Callee.builtin Builtin.append, args := #[Operand.tmp 29, Operand.tmp 33], argTypes := #[26, 26] }, 26, "fields.go:117", #[gd' 3, gd' 7], none⟩,
 ⟨some 35, Op.nilCheck (.tmp 26), 0, "fields.go:117", #[gd' 0, gp' 0, gp' 1, gp' 2, gp' 3, gp' 4, gp' 5, gp' 6, gp' 7, gp' 8], none⟩,
 ⟨none, Op.store 26 (.tmp 35) (.tmp 34), 0, "fields.go:117", #[gd' 9, gd' 8, gc' 8, gp' 0, gp' 1, gp' 2, gp' 3, gp' 4, gp' 5, gp' 6, gp' 7, gp' 8], none⟩]
set_option maxHeartbeats 8000000 in
set_option maxRecDepth 100000 in
theorem reg52_7 (W WA WB W7 W8 : World) (b o n0 n1 : Nat) (LV v' : Value) (hl0 : (Instr.loadAt 26 (.pointer (some ⟨b, o, none⟩))).run Tryz.prog W.drew = .ok LV W.drew) (hlA : (Instr.loadAt 26 (.pointer (some ⟨b, o, none⟩))).run Tryz.prog WA = .ok LV WA) (hlB : (Instr.loadAt 26 (.pointer (some ⟨b, o, none⟩))).run Tryz.prog WB = .ok LV WB)
  (hal : (Instr.alloc 105 true (.tuple #[])).run Tryz.prog W.drew = .ok (.pointer (some ⟨n0, 0, none⟩)) WA) (hzA : (Instr.loadAt 105 (.pointer (some ⟨n0, 0, none⟩))).run Tryz.prog WA = .ok (.agg ZLne) WA) (hbs : (Instr.buildSlice 26 1 #[(0, .agg ZLne)]).run Tryz.prog WA = .ok (.slice (some ⟨n1, 0, none⟩) 1 1) WB)
  (hr : (Builtin.append_ #[26, 26] 26 #[LV, .slice (some ⟨n1, 0, none⟩) 1 1]).run Tryz.prog WB = .ok v' W7) (hst : (Instr.storeAt 26 (.pointer (some ⟨b, o, none⟩)) v').run Tryz.prog W7 = .ok () W8)
  (Q : Exit → Act → World → Prop) (hPan : ∀ c (a : Act) w (d : Option Tmp) v, Q (.panic c) (a.put d v) w → Q (.panic c) a w) {u0 u2 u3 u4 u5 u6 u7 u8 u9 u10 u11 u12 u13 u14 u15 u16 u17 u18 u19 u20 u21 u22 u23 u24 u25 u26 u27 u28 u29 u30 u31 u32 u33 u34 u35 u36 u37 u38 u39 u40 u41 u42 u43 : Value}
  (hQ : Q .normal ⟨#[u0, .pointer (some ⟨b, o, none⟩), u2,u3,u4,u5,u6,u7,u8,u9,u10,u11,u12,u13,u14,u15,u16,u17,u18,u19,u20,u21,u22,u23,u24,u25, .pointer (some ⟨b, o, none⟩), .pointer (some ⟨b, o, none⟩), .pointer (some ⟨b, o, none⟩), LV, .pointer (some ⟨n0, 0, none⟩), .pointer (some ⟨n0, 0, none⟩), .agg ZLne, .slice (some ⟨n1, 0, none⟩) 1 1, v', .pointer (some ⟨b, o, none⟩), u36,u37,u38,u39,u40,u41,u42,u43], []⟩ W8) :
  Code.wp Tryz.prog (Code.region 7 ops52_7 true) Q ⟨#[u0, .pointer (some ⟨b, o, none⟩), u2,u3,u4,u5,u6,u7,u8,u9,u10,u11,u12,u13,u14,u15,u16,u17,u18,u19,u20,u21,u22,u23,u24,u25,u26,u27,u28,u29,u30,u31,u32,u33,u34,u35,u36,u37,u38,u39,u40,u41,u42,u43], []⟩ W := by
 refine wp_region_held_drew (S := fun _ => True) hmx trivial (fun HSX => ?_)
 obtain ⟨W0, hW0⟩ : ∃ W0,W0 = W.drew := ⟨_, rfl⟩
 rw [← hW0] at hl0 hal ⊢
 clear hW0
 refine tk hPan (i := 0) (oi := ⟨some 26, Op.move (.tmp 1), 156, "fields.go:117", #[], none⟩) (v := .pointer (some ⟨b, o, none⟩)) rfl (by kernel_rfl) (.inl ⟨by rfl, ?_⟩) HSX ?_
 ·intro wx d0
  skip
  go_simp
 simp only [Act.put, sl0', sl1', sl2']
 refine tk hPan (i := 1) (oi := ⟨some 27, Op.move (.tmp 1), 156, "fields.go:117", #[], none⟩) (v := .pointer (some ⟨b, o, none⟩)) rfl (by kernel_rfl) (.inl ⟨by rfl, ?_⟩) HSX ?_
 ·intro wx d0
  skip
  go_simp
 simp only [Act.put, sl0', sl1', sl2']
 refine tk hPan (i := 2) (oi := ⟨some 28, Op.nilCheck (.tmp 27), 0, "fields.go:117", #[gd' 1], none⟩) (v := .pointer (some ⟨b, o, none⟩)) rfl (by kernel_rfl) (.inl ⟨by rfl, ?_⟩) HSX ?_
 ·intro wx d0
  skip
  go_simp
 simp only [Act.put, sl0', sl1', sl2']
 refine wpAnyH_ready (rs := [3, 4]) (by kernel_rfl) (by simp) ?_
 refine (AllReadyH.cons (o := ⟨some 29, Op.load 26 (.tmp 28), 26, "fields.go:117", #[gd' 2], none⟩) rfl (fun K hK => ?_) (AllReadyH.cons (o := ⟨some 30, Op.alloc 105, 157, "fields.go:117", #[], none⟩) rfl (fun K hK => ?_) AllReadyH.nil))
 ·refine step_ld rfl 26 (.tmp 28) rfl (.pointer (some ⟨b, o, none⟩)) LV rfl hl0 ?_
  simp only [Act.put, sl0', sl1', sl2']
  refine hK.out _ _ trivial (fun HSX => ?_)
  clear hK K
  refine wpAnyH_ready (rs := [4]) (by kernel_rfl) (by simp) ?_
  refine (AllReadyH.cons (o := ⟨some 30, Op.alloc 105, 157, "fields.go:117", #[], none⟩) rfl (fun K hK => ?_) AllReadyH.nil)
  refine step_al rfl 105 rfl (.pointer (some ⟨n0, 0, none⟩)) WA hal ?_
  simp only [Act.put, sl0', sl1', sl2']
  refine hK.out _ _ trivial (fun HSX => ?_)
  clear hK K
  refine tk hPan (i := 5) (oi := ⟨some 31, Op.nilCheck (.tmp 30), 0, "fields.go:117", #[gd' 4], none⟩) (v := .pointer (some ⟨n0, 0, none⟩)) rfl (by kernel_rfl) (.inl ⟨by rfl, ?_⟩) HSX ?_
  ·intro wx d0
   skip
   go_simp
  simp only [Act.put, sl0', sl1', sl2']
  refine wpAnyH_ready (rs := [6]) (by kernel_rfl) (by simp) ?_
  refine (AllReadyH.cons (o := ⟨some 32, Op.load 105 (.tmp 31), 105, "fields.go:117", #[gd' 5], none⟩) rfl (fun K hK => ?_) AllReadyH.nil)
  refine step_ld rfl 105 (.tmp 31) rfl (.pointer (some ⟨n0, 0, none⟩)) (.agg ZLne) rfl hzA ?_
  simp only [Act.put, sl0', sl1', sl2']
  refine hK.out _ _ trivial (fun HSX => ?_)
  clear hK K
  refine wpAnyH_ready (rs := [7]) (by kernel_rfl) (by simp) ?_
  refine (AllReadyH.cons (o := ⟨some 33, Op.buildSlice 26 1 #[(0, Operand.tmp 32)], 26, "fields.go:117", #[gd' 6], none⟩) rfl (fun K hK => ?_) AllReadyH.nil)
  refine step_bs rfl 26 1 _ rfl #[(0, .agg ZLne)] (by kernel_rfl) (.slice (some ⟨n1, 0, none⟩) 1 1) WB hbs ?_
  simp only [Act.put, sl0', sl1', sl2']
  refine hK.out _ _ trivial (fun HSX => ?_)
  clear hK K
  refine wpAnyH_ready (rs := [8]) (by kernel_rfl) (by simp) ?_
  refine (AllReadyH.cons (o := ⟨some 34, Op.call { callee := Callee.builtin Builtin.append, args := #[Operand.tmp 29, Operand.tmp 33], argTypes := #[26, 26] }, 26, "fields.go:117", #[gd' 3, gd' 7], none⟩) rfl (fun K hK => ?_) AllReadyH.nil)
  refine step_app rfl (.tmp 29) (.tmp 33) 26 26 rfl LV (.slice (some ⟨n1, 0, none⟩) 1 1) v' W7 rfl rfl hr ?_
  simp only [Act.put, sl0', sl1', sl2']
  refine hK.out _ _ trivial (fun HSX => ?_)
  clear hK K
  refine tk hPan (i := 9) (oi := ⟨some 35, Op.nilCheck (.tmp 26), 0, "fields.go:117", #[gd' 0, gp' 0, gp' 1, gp' 2, gp' 3, gp' 4, gp' 5, gp' 6, gp' 7, gp' 8], none⟩) (v := .pointer (some ⟨b, o, none⟩)) rfl (by kernel_rfl) (.inl ⟨by rfl, ?_⟩) HSX ?_
  ·intro wx d0
   skip
   go_simp
  simp only [Act.put, sl0', sl1', sl2']
  refine wpAnyH_ready (rs := [10]) (by kernel_rfl) (by simp) ?_
  refine (AllReadyH.cons (o := ⟨none, Op.store 26 (.tmp 35) (.tmp 34), 0, "fields.go:117", #[gd' 9, gd' 8, gc' 8, gp' 0, gp' 1, gp' 2, gp' 3, gp' 4, gp' 5, gp' 6, gp' 7, gp' 8], none⟩) rfl (fun K hK => ?_) AllReadyH.nil)
  refine step_st rfl 26 (.tmp 35) (.tmp 34) rfl rfl (.pointer (some ⟨b, o, none⟩)) v' W8 rfl rfl hst ?_
  refine hK.out _ _ trivial (fun HSX => ?_)
  clear hK K
  refine wpAnyH_done (by kernel_rfl) ?_ _
  exact hQ
 ·refine step_al rfl 105 rfl (.pointer (some ⟨n0, 0, none⟩)) WA hal ?_
  simp only [Act.put, sl0', sl1', sl2']
  refine hK.out _ _ trivial (fun HSX => ?_)
  clear hK K
  refine tk hPan (i := 5) (oi := ⟨some 31, Op.nilCheck (.tmp 30), 0, "fields.go:117", #[gd' 4], none⟩) (v := .pointer (some ⟨n0, 0, none⟩)) rfl (by kernel_rfl) (.inl ⟨by rfl, ?_⟩) HSX ?_
  ·intro wx d0
   skip
   go_simp
  simp only [Act.put, sl0', sl1', sl2']
  refine wpAnyH_ready (rs := [3, 6]) (by kernel_rfl) (by simp) ?_
  refine (AllReadyH.cons (o := ⟨some 29, Op.load 26 (.tmp 28), 26, "fields.go:117", #[gd' 2], none⟩) rfl (fun K hK => ?_) (AllReadyH.cons (o := ⟨some 32, Op.load 105 (.tmp 31), 105, "fields.go:117", #[gd' 5], none⟩) rfl (fun K hK => ?_) AllReadyH.nil))
  ·refine step_ld rfl 26 (.tmp 28) rfl (.pointer (some ⟨b, o, none⟩)) LV rfl hlA ?_
   simp only [Act.put, sl0', sl1', sl2']
   refine hK.out _ _ trivial (fun HSX => ?_)
   clear hK K
   refine wpAnyH_ready (rs := [6]) (by kernel_rfl) (by simp) ?_
   refine (AllReadyH.cons (o := ⟨some 32, Op.load 105 (.tmp 31), 105, "fields.go:117", #[gd' 5], none⟩) rfl (fun K hK => ?_) AllReadyH.nil)
   refine step_ld rfl 105 (.tmp 31) rfl (.pointer (some ⟨n0, 0, none⟩)) (.agg ZLne) rfl hzA ?_
   simp only [Act.put, sl0', sl1', sl2']
   refine hK.out _ _ trivial (fun HSX => ?_)
   clear hK K
   refine wpAnyH_ready (rs := [7]) (by kernel_rfl) (by simp) ?_
   refine (AllReadyH.cons (o := ⟨some 33, Op.buildSlice 26 1 #[(0, Operand.tmp 32)], 26, "fields.go:117", #[gd' 6], none⟩) rfl (fun K hK => ?_) AllReadyH.nil)
   refine step_bs rfl 26 1 _ rfl #[(0, .agg ZLne)] (by kernel_rfl) (.slice (some ⟨n1, 0, none⟩) 1 1) WB hbs ?_
   simp only [Act.put, sl0', sl1', sl2']
   refine hK.out _ _ trivial (fun HSX => ?_)
   clear hK K
   refine wpAnyH_ready (rs := [8]) (by kernel_rfl) (by simp) ?_
   refine (AllReadyH.cons (o := ⟨some 34, Op.call { callee := Callee.builtin Builtin.append, args := #[Operand.tmp 29, Operand.tmp 33], argTypes := #[26, 26] }, 26, "fields.go:117", #[gd' 3, gd' 7], none⟩) rfl (fun K hK => ?_) AllReadyH.nil)
   refine step_app rfl (.tmp 29) (.tmp 33) 26 26 rfl LV (.slice (some ⟨n1, 0, none⟩) 1 1) v' W7 rfl rfl hr ?_
   simp only [Act.put, sl0', sl1', sl2']
   refine hK.out _ _ trivial (fun HSX => ?_)
   clear hK K
   refine tk hPan (i := 9) (oi := ⟨some 35, Op.nilCheck (.tmp 26), 0, "fields.go:117", #[gd' 0, gp' 0, gp' 1, gp' 2, gp' 3, gp' 4, gp' 5, gp' 6, gp' 7, gp' 8], none⟩) (v := .pointer (some ⟨b, o, none⟩)) rfl (by kernel_rfl) (.inl ⟨by rfl, ?_⟩) HSX ?_
   ·intro wx d0
    skip
    go_simp
   simp only [Act.put, sl0', sl1', sl2']
   refine wpAnyH_ready (rs := [10]) (by kernel_rfl) (by simp) ?_
   refine (AllReadyH.cons (o := ⟨none, Op.store 26 (.tmp 35) (.tmp 34), 0, "fields.go:117", #[gd' 9, gd' 8, gc' 8, gp' 0, gp' 1, gp' 2, gp' 3, gp' 4, gp' 5, gp' 6, gp' 7, gp' 8], none⟩) rfl (fun K hK => ?_) AllReadyH.nil)
   refine step_st rfl 26 (.tmp 35) (.tmp 34) rfl rfl (.pointer (some ⟨b, o, none⟩)) v' W8 rfl rfl hst ?_
   refine hK.out _ _ trivial (fun HSX => ?_)
   clear hK K
   refine wpAnyH_done (by kernel_rfl) ?_ _
   exact hQ
  ·refine step_ld rfl 105 (.tmp 31) rfl (.pointer (some ⟨n0, 0, none⟩)) (.agg ZLne) rfl hzA ?_
   simp only [Act.put, sl0', sl1', sl2']
   refine hK.out _ _ trivial (fun HSX => ?_)
   clear hK K
   refine wpAnyH_ready (rs := [3, 7]) (by kernel_rfl) (by simp) ?_
   refine (AllReadyH.cons (o := ⟨some 29, Op.load 26 (.tmp 28), 26, "fields.go:117", #[gd' 2], none⟩) rfl (fun K hK => ?_) (AllReadyH.cons (o := ⟨some 33, Op.buildSlice 26 1 #[(0, Operand.tmp 32)], 26, "fields.go:117", #[gd' 6], none⟩) rfl (fun K hK => ?_) AllReadyH.nil))
   ·refine step_ld rfl 26 (.tmp 28) rfl (.pointer (some ⟨b, o, none⟩)) LV rfl hlA ?_
    simp only [Act.put, sl0', sl1', sl2']
    refine hK.out _ _ trivial (fun HSX => ?_)
    clear hK K
    refine wpAnyH_ready (rs := [7]) (by kernel_rfl) (by simp) ?_
    refine (AllReadyH.cons (o := ⟨some 33, Op.buildSlice 26 1 #[(0, Operand.tmp 32)], 26, "fields.go:117", #[gd' 6], none⟩) rfl (fun K hK => ?_) AllReadyH.nil)
    refine step_bs rfl 26 1 _ rfl #[(0, .agg ZLne)] (by kernel_rfl) (.slice (some ⟨n1, 0, none⟩) 1 1) WB hbs ?_
    simp only [Act.put, sl0', sl1', sl2']
    refine hK.out _ _ trivial (fun HSX => ?_)
    clear hK K
    refine wpAnyH_ready (rs := [8]) (by kernel_rfl) (by simp) ?_
    refine (AllReadyH.cons (o := ⟨some 34, Op.call { callee := Callee.builtin Builtin.append, args := #[Operand.tmp 29, Operand.tmp 33], argTypes := #[26, 26] }, 26, "fields.go:117", #[gd' 3, gd' 7], none⟩) rfl (fun K hK => ?_) AllReadyH.nil)
    refine step_app rfl (.tmp 29) (.tmp 33) 26 26 rfl LV (.slice (some ⟨n1, 0, none⟩) 1 1) v' W7 rfl rfl hr ?_
    simp only [Act.put, sl0', sl1', sl2']
    refine hK.out _ _ trivial (fun HSX => ?_)
    clear hK K
    refine tk hPan (i := 9) (oi := ⟨some 35, Op.nilCheck (.tmp 26), 0, "fields.go:117", #[gd' 0, gp' 0, gp' 1, gp' 2, gp' 3, gp' 4, gp' 5, gp' 6, gp' 7, gp' 8], none⟩) (v := .pointer (some ⟨b, o, none⟩)) rfl (by kernel_rfl) (.inl ⟨by rfl, ?_⟩) HSX ?_
    ·intro wx d0
     skip
     go_simp
    simp only [Act.put, sl0', sl1', sl2']
    refine wpAnyH_ready (rs := [10]) (by kernel_rfl) (by simp) ?_
    refine (AllReadyH.cons (o := ⟨none, Op.store 26 (.tmp 35) (.tmp 34), 0, "fields.go:117", #[gd' 9, gd' 8, gc' 8, gp' 0, gp' 1, gp' 2, gp' 3, gp' 4, gp' 5, gp' 6, gp' 7, gp' 8], none⟩) rfl (fun K hK => ?_) AllReadyH.nil)
    refine step_st rfl 26 (.tmp 35) (.tmp 34) rfl rfl (.pointer (some ⟨b, o, none⟩)) v' W8 rfl rfl hst ?_
    refine hK.out _ _ trivial (fun HSX => ?_)
    clear hK K
    refine wpAnyH_done (by kernel_rfl) ?_ _
    exact hQ
   ·refine step_bs rfl 26 1 _ rfl #[(0, .agg ZLne)] (by kernel_rfl) (.slice (some ⟨n1, 0, none⟩) 1 1) WB hbs ?_
    simp only [Act.put, sl0', sl1', sl2']
    refine hK.out _ _ trivial (fun HSX => ?_)
    clear hK K
    refine wpAnyH_ready (rs := [3]) (by kernel_rfl) (by simp) ?_
    refine (AllReadyH.cons (o := ⟨some 29, Op.load 26 (.tmp 28), 26, "fields.go:117", #[gd' 2], none⟩) rfl (fun K hK => ?_) AllReadyH.nil)
    refine step_ld rfl 26 (.tmp 28) rfl (.pointer (some ⟨b, o, none⟩)) LV rfl hlB ?_
    simp only [Act.put, sl0', sl1', sl2']
    refine hK.out _ _ trivial (fun HSX => ?_)
    clear hK K
    refine wpAnyH_ready (rs := [8]) (by kernel_rfl) (by simp) ?_
    refine (AllReadyH.cons (o := ⟨some 34, Op.call { callee := Callee.builtin Builtin.append, args := #[Operand.tmp 29, Operand.tmp 33], argTypes := #[26, 26] }, 26, "fields.go:117", #[gd' 3, gd' 7], none⟩) rfl (fun K hK => ?_) AllReadyH.nil)
    refine step_app rfl (.tmp 29) (.tmp 33) 26 26 rfl LV (.slice (some ⟨n1, 0, none⟩) 1 1) v' W7 rfl rfl hr ?_
    simp only [Act.put, sl0', sl1', sl2']
    refine hK.out _ _ trivial (fun HSX => ?_)
    clear hK K
    refine tk hPan (i := 9) (oi := ⟨some 35, Op.nilCheck (.tmp 26), 0, "fields.go:117", #[gd' 0, gp' 0, gp' 1, gp' 2, gp' 3, gp' 4, gp' 5, gp' 6, gp' 7, gp' 8], none⟩) (v := .pointer (some ⟨b, o, none⟩)) rfl (by kernel_rfl) (.inl ⟨by rfl, ?_⟩) HSX ?_
    ·intro wx d0
     skip
     go_simp
    simp only [Act.put, sl0', sl1', sl2']
    refine wpAnyH_ready (rs := [10]) (by kernel_rfl) (by simp) ?_
    refine (AllReadyH.cons (o := ⟨none, Op.store 26 (.tmp 35) (.tmp 34), 0, "fields.go:117", #[gd' 9, gd' 8, gc' 8, gp' 0, gp' 1, gp' 2, gp' 3, gp' 4, gp' 5, gp' 6, gp' 7, gp' 8], none⟩) rfl (fun K hK => ?_) AllReadyH.nil)
    refine step_st rfl 26 (.tmp 35) (.tmp 34) rfl rfl (.pointer (some ⟨b, o, none⟩)) v' W8 rfl rfl hst ?_
    refine hK.out _ _ trivial (fun HSX => ?_)
    clear hK K
    refine wpAnyH_done (by kernel_rfl) ?_ _
    exact hQ
abbrev ZSlt : Array Value := #[.int .i64 0, .int .u32 0, .int .u32 0, .int .u8 0]
theorem al_55 (w : World) : (Instr.alloc 112 true (.tuple #[])).run Tryz.prog w = .ok (.pointer (some ⟨w.heap.size, 0, none⟩)) (w.alloc (.cells ZSlt 112)) := by kernel_rfl
theorem bs_55 (w : World) : (Instr.buildSlice 27 1 #[(0, .agg ZSlt)]).run Tryz.prog w = .ok (.slice (some ⟨w.heap.size, 0, none⟩) 1 1) (w.alloc (.cells ZSlt 112)) := by kernel_rfl
def ops55_7 : Array Oper := #[⟨some 26, Op.move (.tmp 1), 161, "fields.go:117", #[], none⟩,
 ⟨some 27, Op.move (.tmp 1), 161, "fields.go:117", #[], none⟩,
 ⟨some 28, Op.nilCheck (.tmp 27), 0, "fields.go:117", #[gd' 1], none⟩,
 ⟨some 29, Op.load 27 (.tmp 28), 27, "fields.go:117", #[gd' 2], none⟩,
 ⟨some 30, Op.alloc 112, 162, "fields.go:117", #[], none⟩,
 ⟨some 31, Op.nilCheck (.tmp 30), 0, "fields.go:117", #[gd' 4], none⟩,
 ⟨some 32, Op.load 112 (.tmp 31), 112, "fields.go:117", #[gd' 5], none⟩,
 ⟨some 33, Op.buildSlice 27 1 #[(0, Operand.tmp 32)], 27, "fields.go:117", #[gd' 6], none⟩,
 ⟨some 34, Op.call { callee := Callee.builtin Builtin.append, args := #[Operand.tmp 29, Operand.tmp 33], argTypes := #[27, 27] }, 27, "fields.go:117", #[gd' 3, gd' 7], none⟩,
 ⟨some 35, Op.nilCheck (.tmp 26), 0, "fields.go:117", #[gd' 0, gp' 0, gp' 1, gp' 2, gp' 3, gp' 4, gp' 5, gp' 6, gp' 7, gp' 8], none⟩,
 ⟨none, Op.store 27 (.tmp 35) (.tmp 34), 0, "fields.go:117", #[gd' 9, gd' 8, gc' 8, gp' 0, gp' 1, gp' 2, gp' 3, gp' 4, gp' 5, gp' 6, gp' 7, gp' 8], none⟩]
set_option maxHeartbeats 8000000 in
set_option maxRecDepth 100000 in
theorem reg55_7 (W WA WB W7 W8 : World) (b o n0 n1 : Nat) (LV v' : Value) (hl0 : (Instr.loadAt 27 (.pointer (some ⟨b, o, none⟩))).run Tryz.prog W.drew = .ok LV W.drew) (hlA : (Instr.loadAt 27 (.pointer (some ⟨b, o, none⟩))).run Tryz.prog WA = .ok LV WA) (hlB : (Instr.loadAt 27 (.pointer (some ⟨b, o, none⟩))).run Tryz.prog WB = .ok LV WB)
  (hal : (Instr.alloc 112 true (.tuple #[])).run Tryz.prog W.drew = .ok (.pointer (some ⟨n0, 0, none⟩)) WA) (hzA : (Instr.loadAt 112 (.pointer (some ⟨n0, 0, none⟩))).run Tryz.prog WA = .ok (.agg ZSlt) WA) (hbs : (Instr.buildSlice 27 1 #[(0, .agg ZSlt)]).run Tryz.prog WA = .ok (.slice (some ⟨n1, 0, none⟩) 1 1) WB)
  (hr : (Builtin.append_ #[27, 27] 27 #[LV, .slice (some ⟨n1, 0, none⟩) 1 1]).run Tryz.prog WB = .ok v' W7) (hst : (Instr.storeAt 27 (.pointer (some ⟨b, o, none⟩)) v').run Tryz.prog W7 = .ok () W8)
  (Q : Exit → Act → World → Prop) (hPan : ∀ c (a : Act) w (d : Option Tmp) v, Q (.panic c) (a.put d v) w → Q (.panic c) a w) {u0 u2 u3 u4 u5 u6 u7 u8 u9 u10 u11 u12 u13 u14 u15 u16 u17 u18 u19 u20 u21 u22 u23 u24 u25 u26 u27 u28 u29 u30 u31 u32 u33 u34 u35 u36 u37 u38 u39 u40 u41 u42 u43 : Value}
  (hQ : Q .normal ⟨#[u0, .pointer (some ⟨b, o, none⟩), u2,u3,u4,u5,u6,u7,u8,u9,u10,u11,u12,u13,u14,u15,u16,u17,u18,u19,u20,u21,u22,u23,u24,u25, .pointer (some ⟨b, o, none⟩), .pointer (some ⟨b, o, none⟩), .pointer (some ⟨b, o, none⟩), LV, .pointer (some ⟨n0, 0, none⟩), .pointer (some ⟨n0, 0, none⟩), .agg ZSlt, .slice (some ⟨n1, 0, none⟩) 1 1, v', .pointer (some ⟨b, o, none⟩), u36,u37,u38,u39,u40,u41,u42,u43], []⟩ W8) :
  Code.wp Tryz.prog (Code.region 7 ops55_7 true) Q ⟨#[u0, .pointer (some ⟨b, o, none⟩), u2,u3,u4,u5,u6,u7,u8,u9,u10,u11,u12,u13,u14,u15,u16,u17,u18,u19,u20,u21,u22,u23,u24,u25,u26,u27,u28,u29,u30,u31,u32,u33,u34,u35,u36,u37,u38,u39,u40,u41,u42,u43], []⟩ W := by
 refine wp_region_held_drew (S := fun _ => True) hmx trivial (fun HSX => ?_)
 obtain ⟨W0, hW0⟩ : ∃ W0,W0 = W.drew := ⟨_, rfl⟩
 rw [← hW0] at hl0 hal ⊢
 clear hW0
 refine tk hPan (i := 0) (oi := ⟨some 26, Op.move (.tmp 1), 161, "fields.go:117", #[], none⟩) (v := .pointer (some ⟨b, o, none⟩)) rfl (by kernel_rfl) (.inl ⟨by rfl, ?_⟩) HSX ?_
 ·intro wx d0
  skip
  go_simp
 simp only [Act.put, sl0', sl1', sl2']
 refine tk hPan (i := 1) (oi := ⟨some 27, Op.move (.tmp 1), 161, "fields.go:117", #[], none⟩) (v := .pointer (some ⟨b, o, none⟩)) rfl (by kernel_rfl) (.inl ⟨by rfl, ?_⟩) HSX ?_
 ·intro wx d0
  skip
  go_simp
 simp only [Act.put, sl0', sl1', sl2']
 refine tk hPan (i := 2) (oi := ⟨some 28, Op.nilCheck (.tmp 27), 0, "fields.go:117", #[gd' 1], none⟩) (v := .pointer (some ⟨b, o, none⟩)) rfl (by kernel_rfl) (.inl ⟨by rfl, ?_⟩) HSX ?_
 ·intro wx d0
  skip
  go_simp
 simp only [Act.put, sl0', sl1', sl2']
 refine wpAnyH_ready (rs := [3, 4]) (by kernel_rfl) (by simp) ?_
 refine (AllReadyH.cons (o := ⟨some 29, Op.load 27 (.tmp 28), 27, "fields.go:117", #[gd' 2], none⟩) rfl (fun K hK => ?_) (AllReadyH.cons (o := ⟨some 30, Op.alloc 112, 162, "fields.go:117", #[], none⟩) rfl (fun K hK => ?_) AllReadyH.nil))
 ·refine step_ld rfl 27 (.tmp 28) rfl (.pointer (some ⟨b, o, none⟩)) LV rfl hl0 ?_
  simp only [Act.put, sl0', sl1', sl2']
  refine hK.out _ _ trivial (fun HSX => ?_)
  clear hK K
  refine wpAnyH_ready (rs := [4]) (by kernel_rfl) (by simp) ?_
  refine (AllReadyH.cons (o := ⟨some 30, Op.alloc 112, 162, "fields.go:117", #[], none⟩) rfl (fun K hK => ?_) AllReadyH.nil)
  refine step_al rfl 112 rfl (.pointer (some ⟨n0, 0, none⟩)) WA hal ?_
  simp only [Act.put, sl0', sl1', sl2']
  refine hK.out _ _ trivial (fun HSX => ?_)
  clear hK K
  refine tk hPan (i := 5) (oi := ⟨some 31, Op.nilCheck (.tmp 30), 0, "fields.go:117", #[gd' 4], none⟩) (v := .pointer (some ⟨n0, 0, none⟩)) rfl (by kernel_rfl) (.inl ⟨by rfl, ?_⟩) HSX ?_
  ·intro wx d0
   skip
   go_simp
  simp only [Act.put, sl0', sl1', sl2']
  refine wpAnyH_ready (rs := [6]) (by kernel_rfl) (by simp) ?_
  refine (AllReadyH.cons (o := ⟨some 32, Op.load 112 (.tmp 31), 112, "fields.go:117", #[gd' 5], none⟩) rfl (fun K hK => ?_) AllReadyH.nil)
  refine step_ld rfl 112 (.tmp 31) rfl (.pointer (some ⟨n0, 0, none⟩)) (.agg ZSlt) rfl hzA ?_
  simp only [Act.put, sl0', sl1', sl2']
  refine hK.out _ _ trivial (fun HSX => ?_)
  clear hK K
  refine wpAnyH_ready (rs := [7]) (by kernel_rfl) (by simp) ?_
  refine (AllReadyH.cons (o := ⟨some 33, Op.buildSlice 27 1 #[(0, Operand.tmp 32)], 27, "fields.go:117", #[gd' 6], none⟩) rfl (fun K hK => ?_) AllReadyH.nil)
  refine step_bs rfl 27 1 _ rfl #[(0, .agg ZSlt)] (by kernel_rfl) (.slice (some ⟨n1, 0, none⟩) 1 1) WB hbs ?_
  simp only [Act.put, sl0', sl1', sl2']
  refine hK.out _ _ trivial (fun HSX => ?_)
  clear hK K
  refine wpAnyH_ready (rs := [8]) (by kernel_rfl) (by simp) ?_
  refine (AllReadyH.cons (o := ⟨some 34, Op.call { callee := Callee.builtin Builtin.append, args := #[Operand.tmp 29, Operand.tmp 33], argTypes := #[27, 27] }, 27, "fields.go:117", #[gd' 3, gd' 7], none⟩) rfl (fun K hK => ?_) AllReadyH.nil)
  refine step_app rfl (.tmp 29) (.tmp 33) 27 27 rfl LV (.slice (some ⟨n1, 0, none⟩) 1 1) v' W7 rfl rfl hr ?_
  simp only [Act.put, sl0', sl1', sl2']
  refine hK.out _ _ trivial (fun HSX => ?_)
  clear hK K
  refine tk hPan (i := 9) (oi := ⟨some 35, Op.nilCheck (.tmp 26), 0, "fields.go:117", #[gd' 0, gp' 0, gp' 1, gp' 2, gp' 3, gp' 4, gp' 5, gp' 6, gp' 7, gp' 8], none⟩) (v := .pointer (some ⟨b, o, none⟩)) rfl (by kernel_rfl) (.inl ⟨by rfl, ?_⟩) HSX ?_
  ·intro wx d0
   skip
   go_simp
  simp only [Act.put, sl0', sl1', sl2']
  refine wpAnyH_ready (rs := [10]) (by kernel_rfl) (by simp) ?_
  refine (AllReadyH.cons (o := ⟨none, Op.store 27 (.tmp 35) (.tmp 34), 0, "fields.go:117", #[gd' 9, gd' 8, gc' 8, gp' 0, gp' 1, gp' 2, gp' 3, gp' 4, gp' 5, gp' 6, gp' 7, gp' 8], none⟩) rfl (fun K hK => ?_) AllReadyH.nil)
  refine step_st rfl 27 (.tmp 35) (.tmp 34) rfl rfl (.pointer (some ⟨b, o, none⟩)) v' W8 rfl rfl hst ?_
  refine hK.out _ _ trivial (fun HSX => ?_)
  clear hK K
  refine wpAnyH_done (by kernel_rfl) ?_ _
  exact hQ
 ·refine step_al rfl 112 rfl (.pointer (some ⟨n0, 0, none⟩)) WA hal ?_
  simp only [Act.put, sl0', sl1', sl2']
  refine hK.out _ _ trivial (fun HSX => ?_)
  clear hK K
  refine tk hPan (i := 5) (oi := ⟨some 31, Op.nilCheck (.tmp 30), 0, "fields.go:117", #[gd' 4], none⟩) (v := .pointer (some ⟨n0, 0, none⟩)) rfl (by kernel_rfl) (.inl ⟨by rfl, ?_⟩) HSX ?_
  ·intro wx d0
   skip
   go_simp
  simp only [Act.put, sl0', sl1', sl2']
  refine wpAnyH_ready (rs := [3, 6]) (by kernel_rfl) (by simp) ?_
  refine (AllReadyH.cons (o := ⟨some 29, Op.load 27 (.tmp 28), 27, "fields.go:117", #[gd' 2], none⟩) rfl (fun K hK => ?_) (AllReadyH.cons (o := ⟨some 32, Op.load 112 (.tmp 31), 112, "fields.go:117", #[gd' 5], none⟩) rfl (fun K hK => ?_) AllReadyH.nil))
  ·refine step_ld rfl 27 (.tmp 28) rfl (.pointer (some ⟨b, o, none⟩)) LV rfl hlA ?_
   simp only [Act.put, sl0', sl1', sl2']
   refine hK.out _ _ trivial (fun HSX => ?_)
   clear hK K
   refine wpAnyH_ready (rs := [6]) (by kernel_rfl) (by simp) ?_
   refine (AllReadyH.cons (o := ⟨some 32, Op.load 112 (.tmp 31), 112, "fields.go:117", #[gd' 5], none⟩) rfl (fun K hK => ?_) AllReadyH.nil)
   refine step_ld rfl 112 (.tmp 31) rfl (.pointer (some ⟨n0, 0, none⟩)) (.agg ZSlt) rfl hzA ?_
   simp only [Act.put, sl0', sl1', sl2']
   refine hK.out _ _ trivial (fun HSX => ?_)
   clear hK K
   refine wpAnyH_ready (rs := [7]) (by kernel_rfl) (by simp) ?_
   refine (AllReadyH.cons (o := ⟨some 33, Op.buildSlice 27 1 #[(0, Operand.tmp 32)], 27, "fields.go:117", #[gd' 6], none⟩) rfl (fun K hK => ?_) AllReadyH.nil)
   refine step_bs rfl 27 1 _ rfl #[(0, .agg ZSlt)] (by kernel_rfl) (.slice (some ⟨n1, 0, none⟩) 1 1) WB hbs ?_
   simp only [Act.put, sl0', sl1', sl2']
   refine hK.out _ _ trivial (fun HSX => ?_)
   clear hK K
   refine wpAnyH_ready (rs := [8]) (by kernel_rfl) (by simp) ?_
   refine (AllReadyH.cons (o := ⟨some 34, Op.call { callee := Callee.builtin Builtin.append, args := #[Operand.tmp 29, Operand.tmp 33], argTypes := #[27, 27] }, 27, "fields.go:117", #[gd' 3, gd' 7], none⟩) rfl (fun K hK => ?_) AllReadyH.nil)
   refine step_app rfl (.tmp 29) (.tmp 33) 27 27 rfl LV (.slice (some ⟨n1, 0, none⟩) 1 1) v' W7 rfl rfl hr ?_
   simp only [Act.put, sl0', sl1', sl2']
   refine hK.out _ _ trivial (fun HSX => ?_)
   clear hK K
   refine tk hPan (i := 9) (oi := ⟨some 35, Op.nilCheck (.tmp 26), 0, "fields.go:117", #[gd' 0, gp' 0, gp' 1, gp' 2, gp' 3, gp' 4, gp' 5, gp' 6, gp' 7, gp' 8], none⟩) (v := .pointer (some ⟨b, o, none⟩)) rfl (by kernel_rfl) (.inl ⟨by rfl, ?_⟩) HSX ?_
   ·intro wx d0
    skip
    go_simp
   simp only [Act.put, sl0', sl1', sl2']
   refine wpAnyH_ready (rs := [10]) (by kernel_rfl) (by simp) ?_
   refine (AllReadyH.cons (o := ⟨none, Op.store 27 (.tmp 35) (.tmp 34), 0, "fields.go:117", #[gd' 9, gd' 8, gc' 8, gp' 0, gp' 1, gp' 2, gp' 3, gp' 4, gp' 5, gp' 6, gp' 7, gp' 8], none⟩) rfl (fun K hK => ?_) AllReadyH.nil)
   refine step_st rfl 27 (.tmp 35) (.tmp 34) rfl rfl (.pointer (some ⟨b, o, none⟩)) v' W8 rfl rfl hst ?_
   refine hK.out _ _ trivial (fun HSX => ?_)
   clear hK K
   refine wpAnyH_done (by kernel_rfl) ?_ _
   exact hQ
  ·refine step_ld rfl 112 (.tmp 31) rfl (.pointer (some ⟨n0, 0, none⟩)) (.agg ZSlt) rfl hzA ?_
   simp only [Act.put, sl0', sl1', sl2']
   refine hK.out _ _ trivial (fun HSX => ?_)
   clear hK K
   refine wpAnyH_ready (rs := [3, 7]) (by kernel_rfl) (by simp) ?_
   refine (AllReadyH.cons (o := ⟨some 29, Op.load 27 (.tmp 28), 27, "fields.go:117", #[gd' 2], none⟩) rfl (fun K hK => ?_) (AllReadyH.cons (o := ⟨some 33, Op.buildSlice 27 1 #[(0, Operand.tmp 32)], 27, "fields.go:117", #[gd' 6], none⟩) rfl (fun K hK => ?_) AllReadyH.nil))
   ·refine step_ld rfl 27 (.tmp 28) rfl (.pointer (some ⟨b, o, none⟩)) LV rfl hlA ?_
    simp only [Act.put, sl0', sl1', sl2']
    refine hK.out _ _ trivial (fun HSX => ?_)
    clear hK K
    refine wpAnyH_ready (rs := [7]) (by kernel_rfl) (by simp) ?_
    refine (AllReadyH.cons (o := ⟨some 33, Op.buildSlice 27 1 #[(0, Operand.tmp 32)], 27, "fields.go:117", #[gd' 6], none⟩) rfl (fun K hK => ?_) AllReadyH.nil)
    refine step_bs rfl 27 1 _ rfl #[(0, .agg ZSlt)] (by kernel_rfl) (.slice (some ⟨n1, 0, none⟩) 1 1) WB hbs ?_
    simp only [Act.put, sl0', sl1', sl2']
    refine hK.out _ _ trivial (fun HSX => ?_)
    clear hK K
    refine wpAnyH_ready (rs := [8]) (by kernel_rfl) (by simp) ?_
    refine (AllReadyH.cons (o := ⟨some 34, Op.call { callee := Callee.builtin Builtin.append, args := #[Operand.tmp 29, Operand.tmp 33], argTypes := #[27, 27] }, 27, "fields.go:117", #[gd' 3, gd' 7], none⟩) rfl (fun K hK => ?_) AllReadyH.nil)
    refine step_app rfl (.tmp 29) (.tmp 33) 27 27 rfl LV (.slice (some ⟨n1, 0, none⟩) 1 1) v' W7 rfl rfl hr ?_
    simp only [Act.put, sl0', sl1', sl2']
    refine hK.out _ _ trivial (fun HSX => ?_)
    clear hK K
    refine tk hPan (i := 9) (oi := ⟨some 35, Op.nilCheck (.tmp 26), 0, "fields.go:117", #[gd' 0, gp' 0, gp' 1, gp' 2, gp' 3, gp' 4, gp' 5, gp' 6, gp' 7, gp' 8], none⟩) (v := .pointer (some ⟨b, o, none⟩)) rfl (by kernel_rfl) (.inl ⟨by rfl, ?_⟩) HSX ?_
    ·intro wx d0
     skip
     go_simp
    simp only [Act.put, sl0', sl1', sl2']
    refine wpAnyH_ready (rs := [10]) (by kernel_rfl) (by simp) ?_
    refine (AllReadyH.cons (o := ⟨none, Op.store 27 (.tmp 35) (.tmp 34), 0, "fields.go:117", #[gd' 9, gd' 8, gc' 8, gp' 0, gp' 1, gp' 2, gp' 3, gp' 4, gp' 5, gp' 6, gp' 7, gp' 8], none⟩) rfl (fun K hK => ?_) AllReadyH.nil)
    refine step_st rfl 27 (.tmp 35) (.tmp 34) rfl rfl (.pointer (some ⟨b, o, none⟩)) v' W8 rfl rfl hst ?_
    refine hK.out _ _ trivial (fun HSX => ?_)
    clear hK K
    refine wpAnyH_done (by kernel_rfl) ?_ _
    exact hQ
   ·refine step_bs rfl 27 1 _ rfl #[(0, .agg ZSlt)] (by kernel_rfl) (.slice (some ⟨n1, 0, none⟩) 1 1) WB hbs ?_
    simp only [Act.put, sl0', sl1', sl2']
    refine hK.out _ _ trivial (fun HSX => ?_)
    clear hK K
    refine wpAnyH_ready (rs := [3]) (by kernel_rfl) (by simp) ?_
    refine (AllReadyH.cons (o := ⟨some 29, Op.load 27 (.tmp 28), 27, "fields.go:117", #[gd' 2], none⟩) rfl (fun K hK => ?_) AllReadyH.nil)
    refine step_ld rfl 27 (.tmp 28) rfl (.pointer (some ⟨b, o, none⟩)) LV rfl hlB ?_
    simp only [Act.put, sl0', sl1', sl2']
    refine hK.out _ _ trivial (fun HSX => ?_)
    clear hK K
    refine wpAnyH_ready (rs := [8]) (by kernel_rfl) (by simp) ?_
    refine (AllReadyH.cons (o := ⟨some 34, Op.call { callee := Callee.builtin Builtin.append, args := #[Operand.tmp 29, Operand.tmp 33], argTypes := #[27, 27] }, 27, "fields.go:117", #[gd' 3, gd' 7], none⟩) rfl (fun K hK => ?_) AllReadyH.nil)
    refine step_app rfl (.tmp 29) (.tmp 33) 27 27 rfl LV (.slice (some ⟨n1, 0, none⟩) 1 1) v' W7 rfl rfl hr ?_
    simp only [Act.put, sl0', sl1', sl2']
    refine hK.out _ _ trivial (fun HSX => ?_)
    clear hK K
    refine tk hPan (i := 9) (oi := ⟨some 35, Op.nilCheck (.tmp 26), 0, "fields.go:117", #[gd' 0, gp' 0, gp' 1, gp' 2, gp' 3, gp' 4, gp' 5, gp' 6, gp' 7, gp' 8], none⟩) (v := .pointer (some ⟨b, o, none⟩)) rfl (by kernel_rfl) (.inl ⟨by rfl, ?_⟩) HSX ?_
    ·intro wx d0
     skip
     go_simp
    simp only [Act.put, sl0', sl1', sl2']
    refine wpAnyH_ready (rs := [10]) (by kernel_rfl) (by simp) ?_
    refine (AllReadyH.cons (o := ⟨none, Op.store 27 (.tmp 35) (.tmp 34), 0, "fields.go:117", #[gd' 9, gd' 8, gc' 8, gp' 0, gp' 1, gp' 2, gp' 3, gp' 4, gp' 5, gp' 6, gp' 7, gp' 8], none⟩) rfl (fun K hK => ?_) AllReadyH.nil)
    refine step_st rfl 27 (.tmp 35) (.tmp 34) rfl rfl (.pointer (some ⟨b, o, none⟩)) v' W8 rfl rfl hst ?_
    refine hK.out _ _ trivial (fun HSX => ?_)
    clear hK K
    refine wpAnyH_done (by kernel_rfl) ?_ _
    exact hQ
abbrev ZSpl : Array Value := #[.bool false, .bool false, .slice none 0 0, .int .u64 0, .slice none 0 0, .int .u64 0]
theorem al_59 (w : World) : (Instr.alloc 114 true (.tuple #[])).run Tryz.prog w = .ok (.pointer (some ⟨w.heap.size, 0, none⟩)) (w.alloc (.cells ZSpl 114)) := by kernel_rfl
theorem bs_59 (w : World) : (Instr.buildSlice 32 1 #[(0, .agg ZSpl)]).run Tryz.prog w = .ok (.slice (some ⟨w.heap.size, 0, none⟩) 1 1) (w.alloc (.cells ZSpl 114)) := by kernel_rfl
def ops59_7 : Array Oper := #[⟨some 26, Op.move (.tmp 1), 168, "fields.go:117", #[], none⟩,
 ⟨some 27, Op.move (.tmp 1), 168, "fields.go:117", #[], none⟩,
 ⟨some 28, Op.nilCheck (.tmp 27), 0, "fields.go:117", #[gd' 1], none⟩,
 ⟨some 29, Op.load 32 (.tmp 28), 32, "fields.go:117", #[gd' 2], none⟩,
 ⟨some 30, Op.alloc 114, 169, "fields.go:117", #[], none⟩,
 ⟨some 31, Op.nilCheck (.tmp 30), 0, "fields.go:117", #[gd' 4], none⟩,
 ⟨some 32, Op.load 114 (.tmp 31), 114, "fields.go:117", #[gd' 5], none⟩,
 ⟨some 33, Op.buildSlice 32 1 #[(0, Operand.tmp 32)], 32, "fields.go:117", #[gd' 6], none⟩,
 ⟨some 34, Op.call { callee := Callee.builtin Builtin.append, args := #[Operand.tmp 29, Operand.tmp 33], argTypes := #[32, 32] }, 32, "fields.go:117", #[gd' 3, gd' 7], none⟩,
 ⟨some 35, Op.nilCheck (.tmp 26), 0, "fields.go:117", #[gd' 0, gp' 0, gp' 1, gp' 2, gp' 3, gp' 4, gp' 5, gp' 6, gp' 7, gp' 8], none⟩,
 ⟨none, Op.store 32 (.tmp 35) (.tmp 34), 0, "fields.go:117", #[gd' 9, gd' 8, gc' 8, gp' 0, gp' 1, gp' 2, gp' 3, gp' 4, gp' 5, gp' 6, gp' 7, gp' 8], none⟩]
set_option maxHeartbeats 8000000 in
set_option maxRecDepth 100000 in
theorem reg59_7 (W WA WB W7 W8 : World) (b o n0 n1 : Nat) (LV v' : Value) (hl0 : (Instr.loadAt 32 (.pointer (some ⟨b, o, none⟩))).run Tryz.prog W.drew = .ok LV W.drew) (hlA : (Instr.loadAt 32 (.pointer (some ⟨b, o, none⟩))).run Tryz.prog WA = .ok LV WA) (hlB : (Instr.loadAt 32 (.pointer (some ⟨b, o, none⟩))).run Tryz.prog WB = .ok LV WB)
  (hal : (Instr.alloc 114 true (.tuple #[])).run Tryz.prog W.drew = .ok (.pointer (some ⟨n0, 0, none⟩)) WA) (hzA : (Instr.loadAt 114 (.pointer (some ⟨n0, 0, none⟩))).run Tryz.prog WA = .ok (.agg ZSpl) WA) (hbs : (Instr.buildSlice 32 1 #[(0, .agg ZSpl)]).run Tryz.prog WA = .ok (.slice (some ⟨n1, 0, none⟩) 1 1) WB)
  (hr : (Builtin.append_ #[32, 32] 32 #[LV, .slice (some ⟨n1, 0, none⟩) 1 1]).run Tryz.prog WB = .ok v' W7) (hst : (Instr.storeAt 32 (.pointer (some ⟨b, o, none⟩)) v').run Tryz.prog W7 = .ok () W8)
  (Q : Exit → Act → World → Prop) (hPan : ∀ c (a : Act) w (d : Option Tmp) v, Q (.panic c) (a.put d v) w → Q (.panic c) a w) {u0 u2 u3 u4 u5 u6 u7 u8 u9 u10 u11 u12 u13 u14 u15 u16 u17 u18 u19 u20 u21 u22 u23 u24 u25 u26 u27 u28 u29 u30 u31 u32 u33 u34 u35 u36 u37 u38 u39 u40 u41 u42 u43 : Value}
  (hQ : Q .normal ⟨#[u0, .pointer (some ⟨b, o, none⟩), u2,u3,u4,u5,u6,u7,u8,u9,u10,u11,u12,u13,u14,u15,u16,u17,u18,u19,u20,u21,u22,u23,u24,u25, .pointer (some ⟨b, o, none⟩), .pointer (some ⟨b, o, none⟩), .pointer (some ⟨b, o, none⟩), LV, .pointer (some ⟨n0, 0, none⟩), .pointer (some ⟨n0, 0, none⟩), .agg ZSpl, .slice (some ⟨n1, 0, none⟩) 1 1, v', .pointer (some ⟨b, o, none⟩), u36,u37,u38,u39,u40,u41,u42,u43], []⟩ W8) :
  Code.wp Tryz.prog (Code.region 7 ops59_7 true) Q ⟨#[u0, .pointer (some ⟨b, o, none⟩), u2,u3,u4,u5,u6,u7,u8,u9,u10,u11,u12,u13,u14,u15,u16,u17,u18,u19,u20,u21,u22,u23,u24,u25,u26,u27,u28,u29,u30,u31,u32,u33,u34,u35,u36,u37,u38,u39,u40,u41,u42,u43], []⟩ W := by
 refine wp_region_held_drew (S := fun _ => True) hmx trivial (fun HSX => ?_)
 obtain ⟨W0, hW0⟩ : ∃ W0,W0 = W.drew := ⟨_, rfl⟩
 rw [← hW0] at hl0 hal ⊢
 clear hW0
 refine tk hPan (i := 0) (oi := ⟨some 26, Op.move (.tmp 1), 168, "fields.go:117", #[], none⟩) (v := .pointer (some ⟨b, o, none⟩)) rfl (by kernel_rfl) (.inl ⟨by rfl, ?_⟩) HSX ?_
 ·intro wx d0
  skip
  go_simp
 simp only [Act.put, sl0', sl1', sl2']
 refine tk hPan (i := 1) (oi := ⟨some 27, Op.move (.tmp 1), 168, "fields.go:117", #[], none⟩) (v := .pointer (some ⟨b, o, none⟩)) rfl (by kernel_rfl) (.inl ⟨by rfl, ?_⟩) HSX ?_
 ·intro wx d0
  skip
  go_simp
 simp only [Act.put, sl0', sl1', sl2']
 refine tk hPan (i := 2) (oi := ⟨some 28, Op.nilCheck (.tmp 27), 0, "fields.go:117", #[gd' 1], none⟩) (v := .pointer (some ⟨b, o, none⟩)) rfl (by kernel_rfl) (.inl ⟨by rfl, ?_⟩) HSX ?_
 ·intro wx d0
  skip
  go_simp
 simp only [Act.put, sl0', sl1', sl2']
 refine wpAnyH_ready (rs := [3, 4]) (by kernel_rfl) (by simp) ?_
 refine (AllReadyH.cons (o := ⟨some 29, Op.load 32 (.tmp 28), 32, "fields.go:117", #[gd' 2], none⟩) rfl (fun K hK => ?_) (AllReadyH.cons (o := ⟨some 30, Op.alloc 114, 169, "fields.go:117", #[], none⟩) rfl (fun K hK => ?_) AllReadyH.nil))
 ·refine step_ld rfl 32 (.tmp 28) rfl (.pointer (some ⟨b, o, none⟩)) LV rfl hl0 ?_
  simp only [Act.put, sl0', sl1', sl2']
  refine hK.out _ _ trivial (fun HSX => ?_)
  clear hK K
  refine wpAnyH_ready (rs := [4]) (by kernel_rfl) (by simp) ?_
  refine (AllReadyH.cons (o := ⟨some 30, Op.alloc 114, 169, "fields.go:117", #[], none⟩) rfl (fun K hK => ?_) AllReadyH.nil)
  refine step_al rfl 114 rfl (.pointer (some ⟨n0, 0, none⟩)) WA hal ?_
  simp only [Act.put, sl0', sl1', sl2']
  refine hK.out _ _ trivial (fun HSX => ?_)
  clear hK K
  refine tk hPan (i := 5) (oi := ⟨some 31, Op.nilCheck (.tmp 30), 0, "fields.go:117", #[gd' 4], none⟩) (v := .pointer (some ⟨n0, 0, none⟩)) rfl (by kernel_rfl) (.inl ⟨by rfl, ?_⟩) HSX ?_
  ·intro wx d0
   skip
   go_simp
  simp only [Act.put, sl0', sl1', sl2']
  refine wpAnyH_ready (rs := [6]) (by kernel_rfl) (by simp) ?_
  refine (AllReadyH.cons (o := ⟨some 32, Op.load 114 (.tmp 31), 114, "fields.go:117", #[gd' 5], none⟩) rfl (fun K hK => ?_) AllReadyH.nil)
  refine step_ld rfl 114 (.tmp 31) rfl (.pointer (some ⟨n0, 0, none⟩)) (.agg ZSpl) rfl hzA ?_
  simp only [Act.put, sl0', sl1', sl2']
  refine hK.out _ _ trivial (fun HSX => ?_)
  clear hK K
  refine wpAnyH_ready (rs := [7]) (by kernel_rfl) (by simp) ?_
  refine (AllReadyH.cons (o := ⟨some 33, Op.buildSlice 32 1 #[(0, Operand.tmp 32)], 32, "fields.go:117", #[gd' 6], none⟩) rfl (fun K hK => ?_) AllReadyH.nil)
  refine step_bs rfl 32 1 _ rfl #[(0, .agg ZSpl)] (by kernel_rfl) (.slice (some ⟨n1, 0, none⟩) 1 1) WB hbs ?_
  simp only [Act.put, sl0', sl1', sl2']
  refine hK.out _ _ trivial (fun HSX => ?_)
  clear hK K
  refine wpAnyH_ready (rs := [8]) (by kernel_rfl) (by simp) ?_
  refine (AllReadyH.cons (o := ⟨some 34, Op.call { callee := Callee.builtin Builtin.append, args := #[Operand.tmp 29, Operand.tmp 33], argTypes := #[32, 32] }, 32, "fields.go:117", #[gd' 3, gd' 7], none⟩) rfl (fun K hK => ?_) AllReadyH.nil)
  refine step_app rfl (.tmp 29) (.tmp 33) 32 32 rfl LV (.slice (some ⟨n1, 0, none⟩) 1 1) v' W7 rfl rfl hr ?_
  simp only [Act.put, sl0', sl1', sl2']
  refine hK.out _ _ trivial (fun HSX => ?_)
  clear hK K
  refine tk hPan (i := 9) (oi := ⟨some 35, Op.nilCheck (.tmp 26), 0, "fields.go:117", #[gd' 0, gp' 0, gp' 1, gp' 2, gp' 3, gp' 4, gp' 5, gp' 6, gp' 7, gp' 8], none⟩) (v := .pointer (some ⟨b, o, none⟩)) rfl (by kernel_rfl) (.inl ⟨by rfl, ?_⟩) HSX ?_
  ·intro wx d0
   skip
   go_simp
  simp only [Act.put, sl0', sl1', sl2']
  refine wpAnyH_ready (rs := [10]) (by kernel_rfl) (by simp) ?_
  refine (AllReadyH.cons (o := ⟨none, Op.store 32 (.tmp 35) (.tmp 34), 0, "fields.go:117", #[gd' 9, gd' 8, gc' 8, gp' 0, gp' 1, gp' 2, gp' 3, gp' 4, gp' 5, gp' 6, gp' 7, gp' 8], none⟩) rfl (fun K hK => ?_) AllReadyH.nil)
  refine step_st rfl 32 (.tmp 35) (.tmp 34) rfl rfl (.pointer (some ⟨b, o, none⟩)) v' W8 rfl rfl hst ?_
  refine hK.out _ _ trivial (fun HSX => ?_)
  clear hK K
  refine wpAnyH_done (by kernel_rfl) ?_ _
  exact hQ
 ·refine step_al rfl 114 rfl (.pointer (some ⟨n0, 0, none⟩)) WA hal ?_
  simp only [Act.put, sl0', sl1', sl2']
  refine hK.out _ _ trivial (fun HSX => ?_)
  clear hK K
  refine tk hPan (i := 5) (oi := ⟨some 31, Op.nilCheck (.tmp 30), 0, "fields.go:117", #[gd' 4], none⟩) (v := .pointer (some ⟨n0, 0, none⟩)) rfl (by kernel_rfl) (.inl ⟨by rfl, ?_⟩) HSX ?_
  ·intro wx d0
   skip
   go_simp
  simp only [Act.put, sl0', sl1', sl2']
  refine wpAnyH_ready (rs := [3, 6]) (by kernel_rfl) (by simp) ?_
  refine (AllReadyH.cons (o := ⟨some 29, Op.load 32 (.tmp 28), 32, "fields.go:117", #[gd' 2], none⟩) rfl (fun K hK => ?_) (AllReadyH.cons (o := ⟨some 32, Op.load 114 (.tmp 31), 114, "fields.go:117", #[gd' 5], none⟩) rfl (fun K hK => ?_) AllReadyH.nil))
  ·refine step_ld rfl 32 (.tmp 28) rfl (.pointer (some ⟨b, o, none⟩)) LV rfl hlA ?_
   simp only [Act.put, sl0', sl1', sl2']
   refine hK.out _ _ trivial (fun HSX => ?_)
   clear hK K
   refine wpAnyH_ready (rs := [6]) (by kernel_rfl) (by simp) ?_
   refine (AllReadyH.cons (o := ⟨some 32, Op.load 114 (.tmp 31), 114, "fields.go:117", #[gd' 5], none⟩) rfl (fun K hK => ?_) AllReadyH.nil)
   refine step_ld rfl 114 (.tmp 31) rfl (.pointer (some ⟨n0, 0, none⟩)) (.agg ZSpl) rfl hzA ?_
   simp only [Act.put, sl0', sl1', sl2']
   refine hK.out _ _ trivial (fun HSX => ?_)
   clear hK K
   refine wpAnyH_ready (rs := [7]) (by kernel_rfl) (by simp) ?_
   refine (AllReadyH.cons (o := ⟨some 33, Op.buildSlice 32 1 #[(0, Operand.tmp 32)], 32, "fields.go:117", #[gd' 6], none⟩) rfl (fun K hK => ?_) AllReadyH.nil)
   refine step_bs rfl 32 1 _ rfl #[(0, .agg ZSpl)] (by kernel_rfl) (.slice (some ⟨n1, 0, none⟩) 1 1) WB hbs ?_
   simp only [Act.put, sl0', sl1', sl2']
   refine hK.out _ _ trivial (fun HSX => ?_)
   clear hK K
   refine wpAnyH_ready (rs := [8]) (by kernel_rfl) (by simp) ?_
   refine (AllReadyH.cons (o := ⟨some 34, Op.call { callee := Callee.builtin Builtin.append, args := #[Operand.tmp 29, Operand.tmp 33], argTypes := #[32, 32] }, 32, "fields.go:117", #[gd' 3, gd' 7], none⟩) rfl (fun K hK => ?_) AllReadyH.nil)
   refine step_app rfl (.tmp 29) (.tmp 33) 32 32 rfl LV (.slice (some ⟨n1, 0, none⟩) 1 1) v' W7 rfl rfl hr ?_
   simp only [Act.put, sl0', sl1', sl2']
   refine hK.out _ _ trivial (fun HSX => ?_)
   clear hK K
   refine tk hPan (i := 9) (oi := ⟨some 35, Op.nilCheck (.tmp 26), 0, "fields.go:117", #[gd' 0, gp' 0, gp' 1, gp' 2, gp' 3, gp' 4, gp' 5, gp' 6, gp' 7, gp' 8], none⟩) (v := .pointer (some ⟨b, o, none⟩)) rfl (by kernel_rfl) (.inl ⟨by rfl, ?_⟩) HSX ?_
   ·intro wx d0
    skip
    go_simp
   simp only [Act.put, sl0', sl1', sl2']
   refine wpAnyH_ready (rs := [10]) (by kernel_rfl) (by simp) ?_
   refine (AllReadyH.cons (o := ⟨none, Op.store 32 (.tmp 35) (.tmp 34), 0, "fields.go:117", #[gd' 9, gd' 8, gc' 8, gp' 0, gp' 1, gp' 2, gp' 3, gp' 4, gp' 5, gp' 6, gp' 7, gp' 8], none⟩) rfl (fun K hK => ?_) AllReadyH.nil)
   refine step_st rfl 32 (.tmp 35) (.tmp 34) rfl rfl (.pointer (some ⟨b, o, none⟩)) v' W8 rfl rfl hst ?_
   refine hK.out _ _ trivial (fun HSX => ?_)
   clear hK K
   refine wpAnyH_done (by kernel_rfl) ?_ _
   exact hQ
  ·refine step_ld rfl 114 (.tmp 31) rfl (.pointer (some ⟨n0, 0, none⟩)) (.agg ZSpl) rfl hzA ?_
   simp only [Act.put, sl0', sl1', sl2']
   refine hK.out _ _ trivial (fun HSX => ?_)
   clear hK K
   refine wpAnyH_ready (rs := [3, 7]) (by kernel_rfl) (by simp) ?_
   refine (AllReadyH.cons (o := ⟨some 29, Op.load 32 (.tmp 28), 32, "fields.go:117", #[gd' 2], none⟩) rfl (fun K hK => ?_) (AllReadyH.cons (o := ⟨some 33, Op.buildSlice 32 1 #[(0, Operand.tmp 32)], 32, "fields.go:117", #[gd' 6], none⟩) rfl (fun K hK => ?_) AllReadyH.nil))
   ·refine step_ld rfl 32 (.tmp 28) rfl (.pointer (some ⟨b, o, none⟩)) LV rfl hlA ?_
    simp only [Act.put, sl0', sl1', sl2']
    refine hK.out _ _ trivial (fun HSX => ?_)
    clear hK K
    refine wpAnyH_ready (rs := [7]) (by kernel_rfl) (by simp) ?_
    refine (AllReadyH.cons (o := ⟨some 33, Op.buildSlice 32 1 #[(0, Operand.tmp 32)], 32, "fields.go:117", #[gd' 6], none⟩) rfl (fun K hK => ?_) AllReadyH.nil)
    refine step_bs rfl 32 1 _ rfl #[(0, .agg ZSpl)] (by kernel_rfl) (.slice (some ⟨n1, 0, none⟩) 1 1) WB hbs ?_
    simp only [Act.put, sl0', sl1', sl2']
    refine hK.out _ _ trivial (fun HSX => ?_)
    clear hK K
    refine wpAnyH_ready (rs := [8]) (by kernel_rfl) (by simp) ?_
    refine (AllReadyH.cons (o := ⟨some 34, Op.call { callee := Callee.builtin Builtin.append, args := #[Operand.tmp 29, Operand.tmp 33], argTypes := #[32, 32] }, 32, "fields.go:117", #[gd' 3, gd' 7], none⟩) rfl (fun K hK => ?_) AllReadyH.nil)
    refine step_app rfl (.tmp 29) (.tmp 33) 32 32 rfl LV (.slice (some ⟨n1, 0, none⟩) 1 1) v' W7 rfl rfl hr ?_
    simp only [Act.put, sl0', sl1', sl2']
    refine hK.out _ _ trivial (fun HSX => ?_)
    clear hK K
    refine tk hPan (i := 9) (oi := ⟨some 35, Op.nilCheck (.tmp 26), 0, "fields.go:117", #[gd' 0, gp' 0, gp' 1, gp' 2, gp' 3, gp' 4, gp' 5, gp' 6, gp' 7, gp' 8], none⟩) (v := .pointer (some ⟨b, o, none⟩)) rfl (by kernel_rfl) (.inl ⟨by rfl, ?_⟩) HSX ?_
    ·intro wx d0
     skip
     go_simp
    simp only [Act.put, sl0', sl1', sl2']
    refine wpAnyH_ready (rs := [10]) (by kernel_rfl) (by simp) ?_
    refine (AllReadyH.cons (o := ⟨none, Op.store 32 (.tmp 35) (.tmp 34), 0, "fields.go:117", #[gd' 9, gd' 8, gc' 8, gp' 0, gp' 1, gp' 2, gp' 3, gp' 4, gp' 5, gp' 6, gp' 7, gp' 8], none⟩) rfl (fun K hK => ?_) AllReadyH.nil)
    refine step_st rfl 32 (.tmp 35) (.tmp 34) rfl rfl (.pointer (some ⟨b, o, none⟩)) v' W8 rfl rfl hst ?_
    refine hK.out _ _ trivial (fun HSX => ?_)
    clear hK K
    refine wpAnyH_done (by kernel_rfl) ?_ _
    exact hQ
   ·refine step_bs rfl 32 1 _ rfl #[(0, .agg ZSpl)] (by kernel_rfl) (.slice (some ⟨n1, 0, none⟩) 1 1) WB hbs ?_
    simp only [Act.put, sl0', sl1', sl2']
    refine hK.out _ _ trivial (fun HSX => ?_)
    clear hK K
    refine wpAnyH_ready (rs := [3]) (by kernel_rfl) (by simp) ?_
    refine (AllReadyH.cons (o := ⟨some 29, Op.load 32 (.tmp 28), 32, "fields.go:117", #[gd' 2], none⟩) rfl (fun K hK => ?_) AllReadyH.nil)
    refine step_ld rfl 32 (.tmp 28) rfl (.pointer (some ⟨b, o, none⟩)) LV rfl hlB ?_
    simp only [Act.put, sl0', sl1', sl2']
    refine hK.out _ _ trivial (fun HSX => ?_)
    clear hK K
    refine wpAnyH_ready (rs := [8]) (by kernel_rfl) (by simp) ?_
    refine (AllReadyH.cons (o := ⟨some 34, Op.call { callee := Callee.builtin Builtin.append, args := #[Operand.tmp 29, Operand.tmp 33], argTypes := #[32, 32] }, 32, "fields.go:117", #[gd' 3, gd' 7], none⟩) rfl (fun K hK => ?_) AllReadyH.nil)
    refine step_app rfl (.tmp 29) (.tmp 33) 32 32 rfl LV (.slice (some ⟨n1, 0, none⟩) 1 1) v' W7 rfl rfl hr ?_
    simp only [Act.put, sl0', sl1', sl2']
    refine hK.out _ _ trivial (fun HSX => ?_)
    clear hK K
    refine tk hPan (i := 9) (oi := ⟨some 35, Op.nilCheck (.tmp 26), 0, "fields.go:117", #[gd' 0, gp' 0, gp' 1, gp' 2, gp' 3, gp' 4, gp' 5, gp' 6, gp' 7, gp' 8], none⟩) (v := .pointer (some ⟨b, o, none⟩)) rfl (by kernel_rfl) (.inl ⟨by rfl, ?_⟩) HSX ?_
    ·intro wx d0
     skip
     go_simp
    simp only [Act.put, sl0', sl1', sl2']
    refine wpAnyH_ready (rs := [10]) (by kernel_rfl) (by simp) ?_
    refine (AllReadyH.cons (o := ⟨none, Op.store 32 (.tmp 35) (.tmp 34), 0, "fields.go:117", #[gd' 9, gd' 8, gc' 8, gp' 0, gp' 1, gp' 2, gp' 3, gp' 4, gp' 5, gp' 6, gp' 7, gp' 8], none⟩) rfl (fun K hK => ?_) AllReadyH.nil)
    refine step_st rfl 32 (.tmp 35) (.tmp 34) rfl rfl (.pointer (some ⟨b, o, none⟩)) v' W8 rfl rfl hst ?_
    refine hK.out _ _ trivial (fun HSX => ?_)
    clear hK K
    refine wpAnyH_done (by kernel_rfl) ?_ _
    exact hQ
abbrev ZQue : Array Value := #[.int .i64 0, .int .i64 0, .int .i64 0, .int .i64 0, .int .i64 0, .slice none 0 0, .slice none 0 0]
theorem al_62 (w : World) : (Instr.alloc 69 true (.tuple #[])).run Tryz.prog w = .ok (.pointer (some ⟨w.heap.size, 0, none⟩)) (w.alloc (.cells ZQue 69)) := by kernel_rfl
theorem bs_62 (w : World) : (Instr.buildSlice 33 1 #[(0, .agg ZQue)]).run Tryz.prog w = .ok (.slice (some ⟨w.heap.size, 0, none⟩) 1 1) (w.alloc (.cells ZQue 69)) := by kernel_rfl
def ops62_7 : Array Oper := #[⟨some 26, Op.move (.tmp 1), 173, "fields.go:117", #[], none⟩,
 ⟨some 27, Op.move (.tmp 1), 173, "fields.go:117", #[], none⟩,
 ⟨some 28, Op.nilCheck (.tmp 27), 0, "fields.go:117", #[gd' 1], none⟩,
 ⟨some 29, Op.load 33 (.tmp 28), 33, "fields.go:117", #[gd' 2], none⟩,
 ⟨some 30, Op.alloc 69, 174, "fields.go:117", #[], none⟩,
 ⟨some 31, Op.nilCheck (.tmp 30), 0, "fields.go:117", #[gd' 4], none⟩,
 ⟨some 32, Op.load 69 (.tmp 31), 69, "fields.go:117", #[gd' 5], none⟩,
 ⟨some 33, Op.buildSlice 33 1 #[(0, Operand.tmp 32)], 33, "fields.go:117", #[gd' 6], none⟩,
 ⟨some 34, Op.call { callee := Callee.builtin Builtin.append, args := #[Operand.tmp 29, Operand.tmp 33], argTypes := #[33, 33] }, 33, "fields.go:117", #[gd' 3, gd' 7], none⟩,
 ⟨some 35, Op.nilCheck (.tmp 26), 0, "fields.go:117", #[gd' 0, gp' 0, gp' 1, gp' 2, gp' 3, gp' 4, gp' 5, gp' 6, gp' 7, gp' 8], none⟩,
 ⟨none, Op.store 33 (.tmp 35) (.tmp 34), 0, "fields.go:117", #[gd' 9, gd' 8, gc' 8, gp' 0, gp' 1, gp' 2, gp' 3, gp' 4, gp' 5, gp' 6, gp' 7, gp' 8], none⟩]
set_option maxHeartbeats 8000000 in
set_option maxRecDepth 100000 in
theorem reg62_7 (W WA WB W7 W8 : World) (b o n0 n1 : Nat) (LV v' : Value) (hl0 : (Instr.loadAt 33 (.pointer (some ⟨b, o, none⟩))).run Tryz.prog W.drew = .ok LV W.drew) (hlA : (Instr.loadAt 33 (.pointer (some ⟨b, o, none⟩))).run Tryz.prog WA = .ok LV WA) (hlB : (Instr.loadAt 33 (.pointer (some ⟨b, o, none⟩))).run Tryz.prog WB = .ok LV WB)
  (hal : (Instr.alloc 69 true (.tuple #[])).run Tryz.prog W.drew = .ok (.pointer (some ⟨n0, 0, none⟩)) WA) (hzA : (Instr.loadAt 69 (.pointer (some ⟨n0, 0, none⟩))).run Tryz.prog WA = .ok (.agg ZQue) WA) (hbs : (Instr.buildSlice 33 1 #[(0, .agg ZQue)]).run Tryz.prog WA = .ok (.slice (some ⟨n1, 0, none⟩) 1 1) WB)
  (hr : (Builtin.append_ #[33, 33] 33 #[LV, .slice (some ⟨n1, 0, none⟩) 1 1]).run Tryz.prog WB = .ok v' W7) (hst : (Instr.storeAt 33 (.pointer (some ⟨b, o, none⟩)) v').run Tryz.prog W7 = .ok () W8)
  (Q : Exit → Act → World → Prop) (hPan : ∀ c (a : Act) w (d : Option Tmp) v, Q (.panic c) (a.put d v) w → Q (.panic c) a w) {u0 u2 u3 u4 u5 u6 u7 u8 u9 u10 u11 u12 u13 u14 u15 u16 u17 u18 u19 u20 u21 u22 u23 u24 u25 u26 u27 u28 u29 u30 u31 u32 u33 u34 u35 u36 u37 u38 u39 u40 u41 u42 u43 : Value}
  (hQ : Q .normal ⟨#[u0, .pointer (some ⟨b, o, none⟩), u2,u3,u4,u5,u6,u7,u8,u9,u10,u11,u12,u13,u14,u15,u16,u17,u18,u19,u20,u21,u22,u23,u24,u25, .pointer (some ⟨b, o, none⟩), .pointer (some ⟨b, o, none⟩), .pointer (some ⟨b, o, none⟩), LV, .pointer (some ⟨n0, 0, none⟩), .pointer (some ⟨n0, 0, none⟩), .agg ZQue, .slice (some ⟨n1, 0, none⟩) 1 1, v', .pointer (some ⟨b, o, none⟩), u36,u37,u38,u39,u40,u41,u42,u43], []⟩ W8) :
  Code.wp Tryz.prog (Code.region 7 ops62_7 true) Q ⟨#[u0, .pointer (some ⟨b, o, none⟩), u2,u3,u4,u5,u6,u7,u8,u9,u10,u11,u12,u13,u14,u15,u16,u17,u18,u19,u20,u21,u22,u23,u24,u25,u26,u27,u28,u29,u30,u31,u32,u33,u34,u35,u36,u37,u38,u39,u40,u41,u42,u43], []⟩ W := by
 refine wp_region_held_drew (S := fun _ => True) hmx trivial (fun HSX => ?_)
 obtain ⟨W0, hW0⟩ : ∃ W0,W0 = W.drew := ⟨_, rfl⟩
 rw [← hW0] at hl0 hal ⊢
 clear hW0
 refine tk hPan (i := 0) (oi := ⟨some 26, Op.move (.tmp 1), 173, "fields.go:117", #[], none⟩) (v := .pointer (some ⟨b, o, none⟩)) rfl (by kernel_rfl) (.inl ⟨by rfl, ?_⟩) HSX ?_
 ·intro wx d0
  skip
  go_simp
 simp only [Act.put, sl0', sl1', sl2']
 refine tk hPan (i := 1) (oi := ⟨some 27, Op.move (.tmp 1), 173, "fields.go:117", #[], none⟩) (v := .pointer (some ⟨b, o, none⟩)) rfl (by kernel_rfl) (.inl ⟨by rfl, ?_⟩) HSX ?_
 ·intro wx d0
  skip
  go_simp
 simp only [Act.put, sl0', sl1', sl2']
 refine tk hPan (i := 2) (oi := ⟨some 28, Op.nilCheck (.tmp 27), 0, "fields.go:117", #[gd' 1], none⟩) (v := .pointer (some ⟨b, o, none⟩)) rfl (by kernel_rfl) (.inl ⟨by rfl, ?_⟩) HSX ?_
 ·intro wx d0
  skip
  go_simp
 simp only [Act.put, sl0', sl1', sl2']
 refine wpAnyH_ready (rs := [3, 4]) (by kernel_rfl) (by simp) ?_
 refine (AllReadyH.cons (o := ⟨some 29, Op.load 33 (.tmp 28), 33, "fields.go:117", #[gd' 2], none⟩) rfl (fun K hK => ?_) (AllReadyH.cons (o := ⟨some 30, Op.alloc 69, 174, "fields.go:117", #[], none⟩) rfl (fun K hK => ?_) AllReadyH.nil))
 ·refine step_ld rfl 33 (.tmp 28) rfl (.pointer (some ⟨b, o, none⟩)) LV rfl hl0 ?_
  simp only [Act.put, sl0', sl1', sl2']
  refine hK.out _ _ trivial (fun HSX => ?_)
  clear hK K
  refine wpAnyH_ready (rs := [4]) (by kernel_rfl) (by simp) ?_
  refine (AllReadyH.cons (o := ⟨some 30, Op.alloc 69, 174, "fields.go:117", #[], none⟩) rfl (fun K hK => ?_) AllReadyH.nil)
  refine step_al rfl 69 rfl (.pointer (some ⟨n0, 0, none⟩)) WA hal ?_
  simp only [Act.put, sl0', sl1', sl2']
  refine hK.out _ _ trivial (fun HSX => ?_)
  clear hK K
  refine tk hPan (i := 5) (oi := ⟨some 31, Op.nilCheck (.tmp 30), 0, "fields.go:117", #[gd' 4], none⟩) (v := .pointer (some ⟨n0, 0, none⟩)) rfl (by kernel_rfl) (.inl ⟨by rfl, ?_⟩) HSX ?_
  ·intro wx d0
   skip
   go_simp
  simp only [Act.put, sl0', sl1', sl2']
  refine wpAnyH_ready (rs := [6]) (by kernel_rfl) (by simp) ?_
  refine (AllReadyH.cons (o := ⟨some 32, Op.load 69 (.tmp 31), 69, "fields.go:117", #[gd' 5], none⟩) rfl (fun K hK => ?_) AllReadyH.nil)
  refine step_ld rfl 69 (.tmp 31) rfl (.pointer (some ⟨n0, 0, none⟩)) (.agg ZQue) rfl hzA ?_
  simp only [Act.put, sl0', sl1', sl2']
  refine hK.out _ _ trivial (fun HSX => ?_)
  clear hK K
  refine wpAnyH_ready (rs := [7]) (by kernel_rfl) (by simp) ?_
  refine (AllReadyH.cons (o := ⟨some 33, Op.buildSlice 33 1 #[(0, Operand.tmp 32)], 33, "fields.go:117", #[gd' 6], none⟩) rfl (fun K hK => ?_) AllReadyH.nil)
  refine step_bs rfl 33 1 _ rfl #[(0, .agg ZQue)] (by kernel_rfl) (.slice (some ⟨n1, 0, none⟩) 1 1) WB hbs ?_
  simp only [Act.put, sl0', sl1', sl2']
  refine hK.out _ _ trivial (fun HSX => ?_)
  clear hK K
  refine wpAnyH_ready (rs := [8]) (by kernel_rfl) (by simp) ?_
  refine (AllReadyH.cons (o := ⟨some 34, Op.call { callee := Callee.builtin Builtin.append, args := #[Operand.tmp 29, Operand.tmp 33], argTypes := #[33, 33] }, 33, "fields.go:117", #[gd' 3, gd' 7], none⟩) rfl (fun K hK => ?_) AllReadyH.nil)
  refine step_app rfl (.tmp 29) (.tmp 33) 33 33 rfl LV (.slice (some ⟨n1, 0, none⟩) 1 1) v' W7 rfl rfl hr ?_
  simp only [Act.put, sl0', sl1', sl2']
  refine hK.out _ _ trivial (fun HSX => ?_)
  clear hK K
  refine tk hPan (i := 9) (oi := ⟨some 35, Op.nilCheck (.tmp 26), 0, "fields.go:117", #[gd' 0, gp' 0, gp' 1, gp' 2, gp' 3, gp' 4, gp' 5, gp' 6, gp' 7, gp' 8], none⟩) (v := .pointer (some ⟨b, o, none⟩)) rfl (by kernel_rfl) (.inl ⟨by rfl, ?_⟩) HSX ?_
  ·intro wx d0
   skip
   go_simp
  simp only [Act.put, sl0', sl1', sl2']
  refine wpAnyH_ready (rs := [10]) (by kernel_rfl) (by simp) ?_
  refine (AllReadyH.cons (o := ⟨none, Op.store 33 (.tmp 35) (.tmp 34), 0, "fields.go:117", #[gd' 9, gd' 8, gc' 8, gp' 0, gp' 1, gp' 2, gp' 3, gp' 4, gp' 5, gp' 6, gp' 7, gp' 8], none⟩) rfl (fun K hK => ?_) AllReadyH.nil)
  refine step_st rfl 33 (.tmp 35) (.tmp 34) rfl rfl (.pointer (some ⟨b, o, none⟩)) v' W8 rfl rfl hst ?_
  refine hK.out _ _ trivial (fun HSX => ?_)
  clear hK K
  refine wpAnyH_done (by kernel_rfl) ?_ _
  exact hQ
 ·refine step_al rfl 69 rfl (.pointer (some ⟨n0, 0, none⟩)) WA hal ?_
  simp only [Act.put, sl0', sl1', sl2']
  refine hK.out _ _ trivial (fun HSX => ?_)
  clear hK K
  refine tk hPan (i := 5) (oi := ⟨some 31, Op.nilCheck (.tmp 30), 0, "fields.go:117", #[gd' 4], none⟩) (v := .pointer (some ⟨n0, 0, none⟩)) rfl (by kernel_rfl) (.inl ⟨by rfl, ?_⟩) HSX ?_
  ·intro wx d0
   skip
   go_simp
  simp only [Act.put, sl0', sl1', sl2']
  refine wpAnyH_ready (rs := [3, 6]) (by kernel_rfl) (by simp) ?_
  refine (AllReadyH.cons (o := ⟨some 29, Op.load 33 (.tmp 28), 33, "fields.go:117", #[gd' 2], none⟩) rfl (fun K hK => ?_) (AllReadyH.cons (o := ⟨some 32, Op.load 69 (.tmp 31), 69, "fields.go:117", #[gd' 5], none⟩) rfl (fun K hK => ?_) AllReadyH.nil))
  ·refine step_ld rfl 33 (.tmp 28) rfl (.pointer (some ⟨b, o, none⟩)) LV rfl hlA ?_
   simp only [Act.put, sl0', sl1', sl2']
   refine hK.out _ _ trivial (fun HSX => ?_)
   clear hK K
   refine wpAnyH_ready (rs := [6]) (by kernel_rfl) (by simp) ?_
   refine (AllReadyH.cons (o := ⟨some 32, Op.load 69 (.tmp 31), 69, "fields.go:117", #[gd' 5], none⟩) rfl (fun K hK => ?_) AllReadyH.nil)
   refine step_ld rfl 69 (.tmp 31) rfl (.pointer (some ⟨n0, 0, none⟩)) (.agg ZQue) rfl hzA ?_
   simp only [Act.put, sl0', sl1', sl2']
   refine hK.out _ _ trivial (fun HSX => ?_)
   clear hK K
   refine wpAnyH_ready (rs := [7]) (by kernel_rfl) (by simp) ?_
   refine (AllReadyH.cons (o := ⟨some 33, Op.buildSlice 33 1 #[(0, Operand.tmp 32)], 33, "fields.go:117", #[gd' 6], none⟩) rfl (fun K hK => ?_) AllReadyH.nil)
   refine step_bs rfl 33 1 _ rfl #[(0, .agg ZQue)] (by kernel_rfl) (.slice (some ⟨n1, 0, none⟩) 1 1) WB hbs ?_
   simp only [Act.put, sl0', sl1', sl2']
   refine hK.out _ _ trivial (fun HSX => ?_)
   clear hK K
   refine wpAnyH_ready (rs := [8]) (by kernel_rfl) (by simp) ?_
   refine (AllReadyH.cons (o := ⟨some 34, Op.call { callee := Callee.builtin Builtin.append, args := #[Operand.tmp 29, Operand.tmp 33], argTypes := #[33, 33] }, 33, "fields.go:117", #[gd' 3, gd' 7], none⟩) rfl (fun K hK => ?_) AllReadyH.nil)
   refine step_app rfl (.tmp 29) (.tmp 33) 33 33 rfl LV (.slice (some ⟨n1, 0, none⟩) 1 1) v' W7 rfl rfl hr ?_
   simp only [Act.put, sl0', sl1', sl2']
   refine hK.out _ _ trivial (fun HSX => ?_)
   clear hK K
   refine tk hPan (i := 9) (oi := ⟨some 35, Op.nilCheck (.tmp 26), 0, "fields.go:117", #[gd' 0, gp' 0, gp' 1, gp' 2, gp' 3, gp' 4, gp' 5, gp' 6, gp' 7, gp' 8], none⟩) (v := .pointer (some ⟨b, o, none⟩)) rfl (by kernel_rfl) (.inl ⟨by rfl, ?_⟩) HSX ?_
   ·intro wx d0
    skip
    go_simp
   simp only [Act.put, sl0', sl1', sl2']
   refine wpAnyH_ready (rs := [10]) (by kernel_rfl) (by simp) ?_
   refine (AllReadyH.cons (o := ⟨none, Op.store 33 (.tmp 35) (.tmp 34), 0, "fields.go:117", #[gd' 9, gd' 8, gc' 8, gp' 0, gp' 1, gp' 2, gp' 3, gp' 4, gp' 5, gp' 6, gp' 7, gp' 8], none⟩) rfl (fun K hK => ?_) AllReadyH.nil)
   refine step_st rfl 33 (.tmp 35) (.tmp 34) rfl rfl (.pointer (some ⟨b, o, none⟩)) v' W8 rfl rfl hst ?_
   refine hK.out _ _ trivial (fun HSX => ?_)
   clear hK K
   refine wpAnyH_done (by kernel_rfl) ?_ _
   exact hQ
  ·refine step_ld rfl 69 (.tmp 31) rfl (.pointer (some ⟨n0, 0, none⟩)) (.agg ZQue) rfl hzA ?_
   simp only [Act.put, sl0', sl1', sl2']
   refine hK.out _ _ trivial (fun HSX => ?_)
   clear hK K
   refine wpAnyH_ready (rs := [3, 7]) (by kernel_rfl) (by simp) ?_
   refine (AllReadyH.cons (o := ⟨some 29, Op.load 33 (.tmp 28), 33, "fields.go:117", #[gd' 2], none⟩) rfl (fun K hK => ?_) (AllReadyH.cons (o := ⟨some 33, Op.buildSlice 33 1 #[(0, Operand.tmp 32)], 33, "fields.go:117", #[gd' 6], none⟩) rfl (fun K hK => ?_) AllReadyH.nil))
   ·refine step_ld rfl 33 (.tmp 28) rfl (.pointer (some ⟨b, o, none⟩)) LV rfl hlA ?_
    simp only [Act.put, sl0', sl1', sl2']
    refine hK.out _ _ trivial (fun HSX => ?_)
    clear hK K
    refine wpAnyH_ready (rs := [7]) (by kernel_rfl) (by simp) ?_
    refine (AllReadyH.cons (o := ⟨some 33, Op.buildSlice 33 1 #[(0, Operand.tmp 32)], 33, "fields.go:117", #[gd' 6], none⟩) rfl (fun K hK => ?_) AllReadyH.nil)
    refine step_bs rfl 33 1 _ rfl #[(0, .agg ZQue)] (by kernel_rfl) (.slice (some ⟨n1, 0, none⟩) 1 1) WB hbs ?_
    simp only [Act.put, sl0', sl1', sl2']
    refine hK.out _ _ trivial (fun HSX => ?_)
    clear hK K
    refine wpAnyH_ready (rs := [8]) (by kernel_rfl) (by simp) ?_
    refine (AllReadyH.cons (o := ⟨some 34, Op.call { callee := Callee.builtin Builtin.append, args := #[Operand.tmp 29, Operand.tmp 33], argTypes := #[33, 33] }, 33, "fields.go:117", #[gd' 3, gd' 7], none⟩) rfl (fun K hK => ?_) AllReadyH.nil)
    refine step_app rfl (.tmp 29) (.tmp 33) 33 33 rfl LV (.slice (some ⟨n1, 0, none⟩) 1 1) v' W7 rfl rfl hr ?_
    simp only [Act.put, sl0', sl1', sl2']
    refine hK.out _ _ trivial (fun HSX => ?_)
    clear hK K
    refine tk hPan (i := 9) (oi := ⟨some 35, Op.nilCheck (.tmp 26), 0, "fields.go:117", #[gd' 0, gp' 0, gp' 1, gp' 2, gp' 3, gp' 4, gp' 5, gp' 6, gp' 7, gp' 8], none⟩) (v := .pointer (some ⟨b, o, none⟩)) rfl (by kernel_rfl) (.inl ⟨by rfl, ?_⟩) HSX ?_
    ·intro wx d0
     skip
     go_simp
    simp only [Act.put, sl0', sl1', sl2']
    refine wpAnyH_ready (rs := [10]) (by kernel_rfl) (by simp) ?_
    refine (AllReadyH.cons (o := ⟨none, Op.store 33 (.tmp 35) (.tmp 34), 0, "fields.go:117", #[gd' 9, gd' 8, gc' 8, gp' 0, gp' 1, gp' 2, gp' 3, gp' 4, gp' 5, gp' 6, gp' 7, gp' 8], none⟩) rfl (fun K hK => ?_) AllReadyH.nil)
    refine step_st rfl 33 (.tmp 35) (.tmp 34) rfl rfl (.pointer (some ⟨b, o, none⟩)) v' W8 rfl rfl hst ?_
    refine hK.out _ _ trivial (fun HSX => ?_)
    clear hK K
    refine wpAnyH_done (by kernel_rfl) ?_ _
    exact hQ
   ·refine step_bs rfl 33 1 _ rfl #[(0, .agg ZQue)] (by kernel_rfl) (.slice (some ⟨n1, 0, none⟩) 1 1) WB hbs ?_
    simp only [Act.put, sl0', sl1', sl2']
    refine hK.out _ _ trivial (fun HSX => ?_)
    clear hK K
    refine wpAnyH_ready (rs := [3]) (by kernel_rfl) (by simp) ?_
    refine (AllReadyH.cons (o := ⟨some 29, Op.load 33 (.tmp 28), 33, "fields.go:117", #[gd' 2], none⟩) rfl (fun K hK => ?_) AllReadyH.nil)
    refine step_ld rfl 33 (.tmp 28) rfl (.pointer (some ⟨b, o, none⟩)) LV rfl hlB ?_
    simp only [Act.put, sl0', sl1', sl2']
    refine hK.out _ _ trivial (fun HSX => ?_)
    clear hK K
    refine wpAnyH_ready (rs := [8]) (by kernel_rfl) (by simp) ?_
    refine (AllReadyH.cons (o := ⟨some 34, Op.call { callee := Callee.builtin Builtin.append, args := #[Operand.tmp 29, Operand.tmp 33], argTypes := #[33, 33] }, 33, "fields.go:117", #[gd' 3, gd' 7], none⟩) rfl (fun K hK => ?_) AllReadyH.nil)
    refine step_app rfl (.tmp 29) (.tmp 33) 33 33 rfl LV (.slice (some ⟨n1, 0, none⟩) 1 1) v' W7 rfl rfl hr ?_
    simp only [Act.put, sl0', sl1', sl2']
    refine hK.out _ _ trivial (fun HSX => ?_)
    clear hK K
    refine tk hPan (i := 9) (oi := ⟨some 35, Op.nilCheck (.tmp 26), 0, "fields.go:117", #[gd' 0, gp' 0, gp' 1, gp' 2, gp' 3, gp' 4, gp' 5, gp' 6, gp' 7, gp' 8], none⟩) (v := .pointer (some ⟨b, o, none⟩)) rfl (by kernel_rfl) (.inl ⟨by rfl, ?_⟩) HSX ?_
    ·intro wx d0
     skip
     go_simp
    simp only [Act.put, sl0', sl1', sl2']
    refine wpAnyH_ready (rs := [10]) (by kernel_rfl) (by simp) ?_
    refine (AllReadyH.cons (o := ⟨none, Op.store 33 (.tmp 35) (.tmp 34), 0, "fields.go:117", #[gd' 9, gd' 8, gc' 8, gp' 0, gp' 1, gp' 2, gp' 3, gp' 4, gp' 5, gp' 6, gp' 7, gp' 8], none⟩) rfl (fun K hK => ?_) AllReadyH.nil)
    refine step_st rfl 33 (.tmp 35) (.tmp 34) rfl rfl (.pointer (some ⟨b, o, none⟩)) v' W8 rfl rfl hst ?_
    refine hK.out _ _ trivial (fun HSX => ?_)
    clear hK K
    refine wpAnyH_done (by kernel_rfl) ?_ _
    exact hQ
abbrev ZArr : Array Value := #[.int .u64 0, .int .i64 0]
theorem al_65 (w : World) : (Instr.alloc 117 true (.tuple #[])).run Tryz.prog w = .ok (.pointer (some ⟨w.heap.size, 0, none⟩)) (w.alloc (.cells ZArr 117)) := by kernel_rfl
theorem bs_65 (w : World) : (Instr.buildSlice 34 1 #[(0, .agg ZArr)]).run Tryz.prog w = .ok (.slice (some ⟨w.heap.size, 0, none⟩) 1 1) (w.alloc (.cells ZArr 117)) := by kernel_rfl
def ops65_7 : Array Oper := #[⟨some 26, Op.move (.tmp 1), 178, "fields.go:117", #[], none⟩,
 ⟨some 27, Op.move (.tmp 1), 178, "fields.go:117", #[], none⟩,
 ⟨some 28, Op.nilCheck (.tmp 27), 0, "fields.go:117", #[gd' 1], none⟩,
 ⟨some 29, Op.load 34 (.tmp 28), 34, "fields.go:117", #[gd' 2], none⟩,
 ⟨some 30, Op.alloc 117, 179, "fields.go:117", #[], none⟩,
 ⟨some 31, Op.nilCheck (.tmp 30), 0, "fields.go:117", #[gd' 4], none⟩,
 ⟨some 32, Op.load 117 (.tmp 31), 117, "fields.go:117", #[gd' 5], none⟩,
 ⟨some 33, Op.buildSlice 34 1 #[(0, Operand.tmp 32)], 34, "fields.go:117", #[gd' 6], none⟩,
 ⟨some 34, Op.call { callee := Callee.builtin Builtin.append, args := #[Operand.tmp 29, Operand.tmp 33], argTypes := #[34, 34] }, 34, "fields.go:117", #[gd' 3, gd' 7], none⟩,
 ⟨some 35, Op.nilCheck (.tmp 26), 0, "fields.go:117", #[gd' 0, gp' 0, gp' 1, gp' 2, gp' 3, gp' 4, gp' 5, gp' 6, gp' 7, gp' 8], none⟩,
 ⟨none, Op.store 34 (.tmp 35) (.tmp 34), 0, "fields.go:117", #[gd' 9, gd' 8, gc' 8, gp' 0, gp' 1, gp' 2, gp' 3, gp' 4, gp' 5, gp' 6, gp' 7, gp' 8], none⟩]
set_option maxHeartbeats 8000000 in
set_option maxRecDepth 100000 in
theorem reg65_7 (W WA WB W7 W8 : World) (b o n0 n1 : Nat) (LV v' : Value) (hl0 : (Instr.loadAt 34 (.pointer (some ⟨b, o, none⟩))).run Tryz.prog W.drew = .ok LV W.drew) (hlA : (Instr.loadAt 34 (.pointer (some ⟨b, o, none⟩))).run Tryz.prog WA = .ok LV WA) (hlB : (Instr.loadAt 34 (.pointer (some ⟨b, o, none⟩))).run Tryz.prog WB = .ok LV WB)
  (hal : (Instr.alloc 117 true (.tuple #[])).run Tryz.prog W.drew = .ok (.pointer (some ⟨n0, 0, none⟩)) WA) (hzA : (Instr.loadAt 117 (.pointer (some ⟨n0, 0, none⟩))).run Tryz.prog WA = .ok (.agg ZArr) WA) (hbs : (Instr.buildSlice 34 1 #[(0, .agg ZArr)]).run Tryz.prog WA = .ok (.slice (some ⟨n1, 0, none⟩) 1 1) WB)
  (hr : (Builtin.append_ #[34, 34] 34 #[LV, .slice (some ⟨n1, 0, none⟩) 1 1]).run Tryz.prog WB = .ok v' W7) (hst : (Instr.storeAt 34 (.pointer (some ⟨b, o, none⟩)) v').run Tryz.prog W7 = .ok () W8)
  (Q : Exit → Act → World → Prop) (hPan : ∀ c (a : Act) w (d : Option Tmp) v, Q (.panic c) (a.put d v) w → Q (.panic c) a w) {u0 u2 u3 u4 u5 u6 u7 u8 u9 u10 u11 u12 u13 u14 u15 u16 u17 u18 u19 u20 u21 u22 u23 u24 u25 u26 u27 u28 u29 u30 u31 u32 u33 u34 u35 u36 u37 u38 u39 u40 u41 u42 u43 : Value}
  (hQ : Q .normal ⟨#[u0, .pointer (some ⟨b, o, none⟩), u2,u3,u4,u5,u6,u7,u8,u9,u10,u11,u12,u13,u14,u15,u16,u17,u18,u19,u20,u21,u22,u23,u24,u25, .pointer (some ⟨b, o, none⟩), .pointer (some ⟨b, o, none⟩), .pointer (some ⟨b, o, none⟩), LV, .pointer (some ⟨n0, 0, none⟩), .pointer (some ⟨n0, 0, none⟩), .agg ZArr, .slice (some ⟨n1, 0, none⟩) 1 1, v', .pointer (some ⟨b, o, none⟩), u36,u37,u38,u39,u40,u41,u42,u43], []⟩ W8) :
  Code.wp Tryz.prog (Code.region 7 ops65_7 true) Q ⟨#[u0, .pointer (some ⟨b, o, none⟩), u2,u3,u4,u5,u6,u7,u8,u9,u10,u11,u12,u13,u14,u15,u16,u17,u18,u19,u20,u21,u22,u23,u24,u25,u26,u27,u28,u29,u30,u31,u32,u33,u34,u35,u36,u37,u38,u39,u40,u41,u42,u43], []⟩ W := by
 refine wp_region_held_drew (S := fun _ => True) hmx trivial (fun HSX => ?_)
 obtain ⟨W0, hW0⟩ : ∃ W0,W0 = W.drew := ⟨_, rfl⟩
 rw [← hW0] at hl0 hal ⊢
 clear hW0
 refine tk hPan (i := 0) (oi := ⟨some 26, Op.move (.tmp 1), 178, "fields.go:117", #[], none⟩) (v := .pointer (some ⟨b, o, none⟩)) rfl (by kernel_rfl) (.inl ⟨by rfl, ?_⟩) HSX ?_
 ·intro wx d0
  skip
  go_simp
 simp only [Act.put, sl0', sl1', sl2']
 refine tk hPan (i := 1) (oi := ⟨some 27, Op.move (.tmp 1), 178, "fields.go:117", #[], none⟩) (v := .pointer (some ⟨b, o, none⟩)) rfl (by kernel_rfl) (.inl ⟨by rfl, ?_⟩) HSX ?_
 ·intro wx d0
  skip
  go_simp
 simp only [Act.put, sl0', sl1', sl2']
 refine tk hPan (i := 2) (oi := ⟨some 28, Op.nilCheck (.tmp 27), 0, "fields.go:117", #[gd' 1], none⟩) (v := .pointer (some ⟨b, o, none⟩)) rfl (by kernel_rfl) (.inl ⟨by rfl, ?_⟩) HSX ?_
 ·intro wx d0
  skip
  go_simp
 simp only [Act.put, sl0', sl1', sl2']
 refine wpAnyH_ready (rs := [3, 4]) (by kernel_rfl) (by simp) ?_
 refine (AllReadyH.cons (o := ⟨some 29, Op.load 34 (.tmp 28), 34, "fields.go:117", #[gd' 2], none⟩) rfl (fun K hK => ?_) (AllReadyH.cons (o := ⟨some 30, Op.alloc 117, 179, "fields.go:117", #[], none⟩) rfl (fun K hK => ?_) AllReadyH.nil))
 ·refine step_ld rfl 34 (.tmp 28) rfl (.pointer (some ⟨b, o, none⟩)) LV rfl hl0 ?_
  simp only [Act.put, sl0', sl1', sl2']
  refine hK.out _ _ trivial (fun HSX => ?_)
  clear hK K
  refine wpAnyH_ready (rs := [4]) (by kernel_rfl) (by simp) ?_
  refine (AllReadyH.cons (o := ⟨some 30, Op.alloc 117, 179, "fields.go:117", #[], none⟩) rfl (fun K hK => ?_) AllReadyH.nil)
  refine step_al rfl 117 rfl (.pointer (some ⟨n0, 0, none⟩)) WA hal ?_
  simp only [Act.put, sl0', sl1', sl2']
  refine hK.out _ _ trivial (fun HSX => ?_)
  clear hK K
  refine tk hPan (i := 5) (oi := ⟨some 31, Op.nilCheck (.tmp 30), 0, "fields.go:117", #[gd' 4], none⟩) (v := .pointer (some ⟨n0, 0, none⟩)) rfl (by kernel_rfl) (.inl ⟨by rfl, ?_⟩) HSX ?_
  ·intro wx d0
   skip
   go_simp
  simp only [Act.put, sl0', sl1', sl2']
  refine wpAnyH_ready (rs := [6]) (by kernel_rfl) (by simp) ?_
  refine (AllReadyH.cons (o := ⟨some 32, Op.load 117 (.tmp 31), 117, "fields.go:117", #[gd' 5], none⟩) rfl (fun K hK => ?_) AllReadyH.nil)
  refine step_ld rfl 117 (.tmp 31) rfl (.pointer (some ⟨n0, 0, none⟩)) (.agg ZArr) rfl hzA ?_
  simp only [Act.put, sl0', sl1', sl2']
  refine hK.out _ _ trivial (fun HSX => ?_)
  clear hK K
  refine wpAnyH_ready (rs := [7]) (by kernel_rfl) (by simp) ?_
  refine (AllReadyH.cons (o := ⟨some 33, Op.buildSlice 34 1 #[(0, Operand.tmp 32)], 34, "fields.go:117", #[gd' 6], none⟩) rfl (fun K hK => ?_) AllReadyH.nil)
  refine step_bs rfl 34 1 _ rfl #[(0, .agg ZArr)] (by kernel_rfl) (.slice (some ⟨n1, 0, none⟩) 1 1) WB hbs ?_
  simp only [Act.put, sl0', sl1', sl2']
  refine hK.out _ _ trivial (fun HSX => ?_)
  clear hK K
  refine wpAnyH_ready (rs := [8]) (by kernel_rfl) (by simp) ?_
  refine (AllReadyH.cons (o := ⟨some 34, Op.call { callee := Callee.builtin Builtin.append, args := #[Operand.tmp 29, Operand.tmp 33], argTypes := #[34, 34] }, 34, "fields.go:117", #[gd' 3, gd' 7], none⟩) rfl (fun K hK => ?_) AllReadyH.nil)
  refine step_app rfl (.tmp 29) (.tmp 33) 34 34 rfl LV (.slice (some ⟨n1, 0, none⟩) 1 1) v' W7 rfl rfl hr ?_
  simp only [Act.put, sl0', sl1', sl2']
  refine hK.out _ _ trivial (fun HSX => ?_)
  clear hK K
  refine tk hPan (i := 9) (oi := ⟨some 35, Op.nilCheck (.tmp 26), 0, "fields.go:117", #[gd' 0, gp' 0, gp' 1, gp' 2, gp' 3, gp' 4, gp' 5, gp' 6, gp' 7, gp' 8], none⟩) (v := .pointer (some ⟨b, o, none⟩)) rfl (by kernel_rfl) (.inl ⟨by rfl, ?_⟩) HSX ?_
  ·intro wx d0
   skip
   go_simp
  simp only [Act.put, sl0', sl1', sl2']
  refine wpAnyH_ready (rs := [10]) (by kernel_rfl) (by simp) ?_
  refine (AllReadyH.cons (o := ⟨none, Op.store 34 (.tmp 35) (.tmp 34), 0, "fields.go:117", #[gd' 9, gd' 8, gc' 8, gp' 0, gp' 1, gp' 2, gp' 3, gp' 4, gp' 5, gp' 6, gp' 7, gp' 8], none⟩) rfl (fun K hK => ?_) AllReadyH.nil)
  refine step_st rfl 34 (.tmp 35) (.tmp 34) rfl rfl (.pointer (some ⟨b, o, none⟩)) v' W8 rfl rfl hst ?_
  refine hK.out _ _ trivial (fun HSX => ?_)
  clear hK K
  refine wpAnyH_done (by kernel_rfl) ?_ _
  exact hQ
 ·refine step_al rfl 117 rfl (.pointer (some ⟨n0, 0, none⟩)) WA hal ?_
  simp only [Act.put, sl0', sl1', sl2']
  refine hK.out _ _ trivial (fun HSX => ?_)
  clear hK K
  refine tk hPan (i := 5) (oi := ⟨some 31, Op.nilCheck (.tmp 30), 0, "fields.go:117", #[gd' 4], none⟩) (v := .pointer (some ⟨n0, 0, none⟩)) rfl (by kernel_rfl) (.inl ⟨by rfl, ?_⟩) HSX ?_
  ·intro wx d0
   skip
   go_simp
  simp only [Act.put, sl0', sl1', sl2']
  refine wpAnyH_ready (rs := [3, 6]) (by kernel_rfl) (by simp) ?_
  refine (AllReadyH.cons (o := ⟨some 29, Op.load 34 (.tmp 28), 34, "fields.go:117", #[gd' 2], none⟩) rfl (fun K hK => ?_) (AllReadyH.cons (o := ⟨some 32, Op.load 117 (.tmp 31), 117, "fields.go:117", #[gd' 5], none⟩) rfl (fun K hK => ?_) AllReadyH.nil))
  ·refine step_ld rfl 34 (.tmp 28) rfl (.pointer (some ⟨b, o, none⟩)) LV rfl hlA ?_
   simp only [Act.put, sl0', sl1', sl2']
   refine hK.out _ _ trivial (fun HSX => ?_)
   clear hK K
   refine wpAnyH_ready (rs := [6]) (by kernel_rfl) (by simp) ?_
   refine (AllReadyH.cons (o := ⟨some 32, Op.load 117 (.tmp 31), 117, "fields.go:117", #[gd' 5], none⟩) rfl (fun K hK => ?_) AllReadyH.nil)
   refine step_ld rfl 117 (.tmp 31) rfl (.pointer (some ⟨n0, 0, none⟩)) (.agg ZArr) rfl hzA ?_
   simp only [Act.put, sl0', sl1', sl2']
   refine hK.out _ _ trivial (fun HSX => ?_)
   clear hK K
   refine wpAnyH_ready (rs := [7]) (by kernel_rfl) (by simp) ?_
   refine (AllReadyH.cons (o := ⟨some 33, Op.buildSlice 34 1 #[(0, Operand.tmp 32)], 34, "fields.go:117", #[gd' 6], none⟩) rfl (fun K hK => ?_) AllReadyH.nil)
   refine step_bs rfl 34 1 _ rfl #[(0, .agg ZArr)] (by kernel_rfl) (.slice (some ⟨n1, 0, none⟩) 1 1) WB hbs ?_
   simp only [Act.put, sl0', sl1', sl2']
   refine hK.out _ _ trivial (fun HSX => ?_)
   clear hK K
   refine wpAnyH_ready (rs := [8]) (by kernel_rfl) (by simp) ?_
   refine (AllReadyH.cons (o := ⟨some 34, Op.call { callee := Callee.builtin Builtin.append, args := #[Operand.tmp 29, Operand.tmp 33], argTypes := #[34, 34] }, 34, "fields.go:117", #[gd' 3, gd' 7], none⟩) rfl (fun K hK => ?_) AllReadyH.nil)
   refine step_app rfl (.tmp 29) (.tmp 33) 34 34 rfl LV (.slice (some ⟨n1, 0, none⟩) 1 1) v' W7 rfl rfl hr ?_
   simp only [Act.put, sl0', sl1', sl2']
   refine hK.out _ _ trivial (fun HSX => ?_)
   clear hK K
   refine tk hPan (i := 9) (oi := ⟨some 35, Op.nilCheck (.tmp 26), 0, "fields.go:117", #[gd' 0, gp' 0, gp' 1, gp' 2, gp' 3, gp' 4, gp' 5, gp' 6, gp' 7, gp' 8], none⟩) (v := .pointer (some ⟨b, o, none⟩)) rfl (by kernel_rfl) (.inl ⟨by rfl, ?_⟩) HSX ?_
   ·intro wx d0
    skip
    go_simp
   simp only [Act.put, sl0', sl1', sl2']
   refine wpAnyH_ready (rs := [10]) (by kernel_rfl) (by simp) ?_
   refine (AllReadyH.cons (o := ⟨none, Op.store 34 (.tmp 35) (.tmp 34), 0, "fields.go:117", #[gd' 9, gd' 8, gc' 8, gp' 0, gp' 1, gp' 2, gp' 3, gp' 4, gp' 5, gp' 6, gp' 7, gp' 8], none⟩) rfl (fun K hK => ?_) AllReadyH.nil)
   refine step_st rfl 34 (.tmp 35) (.tmp 34) rfl rfl (.pointer (some ⟨b, o, none⟩)) v' W8 rfl rfl hst ?_
   refine hK.out _ _ trivial (fun HSX => ?_)
   clear hK K
   refine wpAnyH_done (by kernel_rfl) ?_ _
   exact hQ
  ·refine step_ld rfl 117 (.tmp 31) rfl (.pointer (some ⟨n0, 0, none⟩)) (.agg ZArr) rfl hzA ?_
   simp only [Act.put, sl0', sl1', sl2']
   refine hK.out _ _ trivial (fun HSX => ?_)
   clear hK K
   refine wpAnyH_ready (rs := [3, 7]) (by kernel_rfl) (by simp) ?_
   refine (AllReadyH.cons (o := ⟨some 29, Op.load 34 (.tmp 28), 34, "fields.go:117", #[gd' 2], none⟩) rfl (fun K hK => ?_) (AllReadyH.cons (o := ⟨some 33, Op.buildSlice 34 1 #[(0, Operand.tmp 32)], 34, "fields.go:117", #[gd' 6], none⟩) rfl (fun K hK => ?_) AllReadyH.nil))
   ·refine step_ld rfl 34 (.tmp 28) rfl (.pointer (some ⟨b, o, none⟩)) LV rfl hlA ?_
    simp only [Act.put, sl0', sl1', sl2']
    refine hK.out _ _ trivial (fun HSX => ?_)
    clear hK K
    refine wpAnyH_ready (rs := [7]) (by kernel_rfl) (by simp) ?_
    refine (AllReadyH.cons (o := ⟨some 33, Op.buildSlice 34 1 #[(0, Operand.tmp 32)], 34, "fields.go:117", #[gd' 6], none⟩) rfl (fun K hK => ?_) AllReadyH.nil)
    refine step_bs rfl 34 1 _ rfl #[(0, .agg ZArr)] (by kernel_rfl) (.slice (some ⟨n1, 0, none⟩) 1 1) WB hbs ?_
    simp only [Act.put, sl0', sl1', sl2']
    refine hK.out _ _ trivial (fun HSX => ?_)
    clear hK K
    refine wpAnyH_ready (rs := [8]) (by kernel_rfl) (by simp) ?_
    refine (AllReadyH.cons (o := ⟨some 34, Op.call { callee := Callee.builtin Builtin.append, args := #[Operand.tmp 29, Operand.tmp 33], argTypes := #[34, 34] }, 34, "fields.go:117", #[gd' 3, gd' 7], none⟩) rfl (fun K hK => ?_) AllReadyH.nil)
    refine step_app rfl (.tmp 29) (.tmp 33) 34 34 rfl LV (.slice (some ⟨n1, 0, none⟩) 1 1) v' W7 rfl rfl hr ?_
    simp only [Act.put, sl0', sl1', sl2']
    refine hK.out _ _ trivial (fun HSX => ?_)
    clear hK K
    refine tk hPan (i := 9) (oi := ⟨some 35, Op.nilCheck (.tmp 26), 0, "fields.go:117", #[gd' 0, gp' 0, gp' 1, gp' 2, gp' 3, gp' 4, gp' 5, gp' 6, gp' 7, gp' 8], none⟩) (v := .pointer (some ⟨b, o, none⟩)) rfl (by kernel_rfl) (.inl ⟨by rfl, ?_⟩) HSX ?_
    ·intro wx d0
     skip
     go_simp
    simp only [Act.put, sl0', sl1', sl2']
    refine wpAnyH_ready (rs := [10]) (by kernel_rfl) (by simp) ?_
    refine (AllReadyH.cons (o := ⟨none, Op.store 34 (.tmp 35) (.tmp 34), 0, "fields.go:117", #[gd' 9, gd' 8, gc' 8, gp' 0, gp' 1, gp' 2, gp' 3, gp' 4, gp' 5, gp' 6, gp' 7, gp' 8], none⟩) rfl (fun K hK => ?_) AllReadyH.nil)
    refine step_st rfl 34 (.tmp 35) (.tmp 34) rfl rfl (.pointer (some ⟨b, o, none⟩)) v' W8 rfl rfl hst ?_
    refine hK.out _ _ trivial (fun HSX => ?_)
    clear hK K
    refine wpAnyH_done (by kernel_rfl) ?_ _
    exact hQ
   ·refine step_bs rfl 34 1 _ rfl #[(0, .agg ZArr)] (by kernel_rfl) (.slice (some ⟨n1, 0, none⟩) 1 1) WB hbs ?_
    simp only [Act.put, sl0', sl1', sl2']
    refine hK.out _ _ trivial (fun HSX => ?_)
    clear hK K
    refine wpAnyH_ready (rs := [3]) (by kernel_rfl) (by simp) ?_
    refine (AllReadyH.cons (o := ⟨some 29, Op.load 34 (.tmp 28), 34, "fields.go:117", #[gd' 2], none⟩) rfl (fun K hK => ?_) AllReadyH.nil)
    refine step_ld rfl 34 (.tmp 28) rfl (.pointer (some ⟨b, o, none⟩)) LV rfl hlB ?_
    simp only [Act.put, sl0', sl1', sl2']
    refine hK.out _ _ trivial (fun HSX => ?_)
    clear hK K
    refine wpAnyH_ready (rs := [8]) (by kernel_rfl) (by simp) ?_
    refine (AllReadyH.cons (o := ⟨some 34, Op.call { callee := Callee.builtin Builtin.append, args := #[Operand.tmp 29, Operand.tmp 33], argTypes := #[34, 34] }, 34, "fields.go:117", #[gd' 3, gd' 7], none⟩) rfl (fun K hK => ?_) AllReadyH.nil)
    refine step_app rfl (.tmp 29) (.tmp 33) 34 34 rfl LV (.slice (some ⟨n1, 0, none⟩) 1 1) v' W7 rfl rfl hr ?_
    simp only [Act.put, sl0', sl1', sl2']
    refine hK.out _ _ trivial (fun HSX => ?_)
    clear hK K
    refine tk hPan (i := 9) (oi := ⟨some 35, Op.nilCheck (.tmp 26), 0, "fields.go:117", #[gd' 0, gp' 0, gp' 1, gp' 2, gp' 3, gp' 4, gp' 5, gp' 6, gp' 7, gp' 8], none⟩) (v := .pointer (some ⟨b, o, none⟩)) rfl (by kernel_rfl) (.inl ⟨by rfl, ?_⟩) HSX ?_
    ·intro wx d0
     skip
     go_simp
    simp only [Act.put, sl0', sl1', sl2']
    refine wpAnyH_ready (rs := [10]) (by kernel_rfl) (by simp) ?_
    refine (AllReadyH.cons (o := ⟨none, Op.store 34 (.tmp 35) (.tmp 34), 0, "fields.go:117", #[gd' 9, gd' 8, gc' 8, gp' 0, gp' 1, gp' 2, gp' 3, gp' 4, gp' 5, gp' 6, gp' 7, gp' 8], none⟩) rfl (fun K hK => ?_) AllReadyH.nil)
    refine step_st rfl 34 (.tmp 35) (.tmp 34) rfl rfl (.pointer (some ⟨b, o, none⟩)) v' W8 rfl rfl hst ?_
    refine hK.out _ _ trivial (fun HSX => ?_)
    clear hK K
    refine wpAnyH_done (by kernel_rfl) ?_ _
    exact hQ
abbrev ZMg : Array Value := #[.slice none 0 0, .int .u64 0]
theorem al_108 (w : World) : (Instr.alloc 64 true (.tuple #[])).run Tryz.prog w = .ok (.pointer (some ⟨w.heap.size, 0, none⟩)) (w.alloc (.cells ZMg 64)) := by kernel_rfl
theorem bs_108 (w : World) : (Instr.buildSlice 65 1 #[(0, .agg ZMg)]).run Tryz.prog w = .ok (.slice (some ⟨w.heap.size, 0, none⟩) 1 1) (w.alloc (.cells ZMg 64)) := by kernel_rfl
def ops108_7 : Array Oper := #[⟨some 26, Op.move (.tmp 1), 252, "fields.go:117", #[], none⟩,
 ⟨some 27, Op.move (.tmp 1), 252, "fields.go:117", #[], none⟩,
 ⟨some 28, Op.nilCheck (.tmp 27), 0, "fields.go:117", #[gd' 1], none⟩,
 ⟨some 29, Op.load 65 (.tmp 28), 65, "fields.go:117", #[gd' 2], none⟩,
 ⟨some 30, Op.alloc 64, 250, "fields.go:117", #[], none⟩,
 ⟨some 31, Op.nilCheck (.tmp 30), 0, "fields.go:117", #[gd' 4], none⟩,
 ⟨some 32, Op.load 64 (.tmp 31), 64, "fields.go:117", #[gd' 5], none⟩,
 ⟨some 33, Op.buildSlice 65 1 #[(0, Operand.tmp 32)], 65, "fields.go:117", #[gd' 6], none⟩,
 ⟨some 34, Op.call { callee := Callee.builtin Builtin.append, args := #[Operand.tmp 29, Operand.tmp 33], argTypes := #[65, 65] }, 65, "fields.go:117", #[gd' 3, gd' 7], none⟩,
 ⟨some 35, Op.nilCheck (.tmp 26), 0, "fields.go:117", #[gd' 0, gp' 0, gp' 1, gp' 2, gp' 3, gp' 4, gp' 5, gp' 6, gp' 7, gp' 8], none⟩,
 ⟨none, Op.store 65 (.tmp 35) (.tmp 34), 0, "fields.go:117", #[gd' 9, gd' 8, gc' 8, gp' 0, gp' 1, gp' 2, gp' 3, gp' 4, gp' 5, gp' 6, gp' 7, gp' 8], none⟩]
set_option maxHeartbeats 8000000 in
set_option maxRecDepth 100000 in
theorem reg108_7 (W WA WB W7 W8 : World) (b o n0 n1 : Nat) (LV v' : Value) (hl0 : (Instr.loadAt 65 (.pointer (some ⟨b, o, none⟩))).run Tryz.prog W.drew = .ok LV W.drew) (hlA : (Instr.loadAt 65 (.pointer (some ⟨b, o, none⟩))).run Tryz.prog WA = .ok LV WA) (hlB : (Instr.loadAt 65 (.pointer (some ⟨b, o, none⟩))).run Tryz.prog WB = .ok LV WB)
  (hal : (Instr.alloc 64 true (.tuple #[])).run Tryz.prog W.drew = .ok (.pointer (some ⟨n0, 0, none⟩)) WA) (hzA : (Instr.loadAt 64 (.pointer (some ⟨n0, 0, none⟩))).run Tryz.prog WA = .ok (.agg ZMg) WA) (hbs : (Instr.buildSlice 65 1 #[(0, .agg ZMg)]).run Tryz.prog WA = .ok (.slice (some ⟨n1, 0, none⟩) 1 1) WB)
  (hr : (Builtin.append_ #[65, 65] 65 #[LV, .slice (some ⟨n1, 0, none⟩) 1 1]).run Tryz.prog WB = .ok v' W7) (hst : (Instr.storeAt 65 (.pointer (some ⟨b, o, none⟩)) v').run Tryz.prog W7 = .ok () W8)
  (Q : Exit → Act → World → Prop) (hPan : ∀ c (a : Act) w (d : Option Tmp) v, Q (.panic c) (a.put d v) w → Q (.panic c) a w) {u0 u2 u3 u4 u5 u6 u7 u8 u9 u10 u11 u12 u13 u14 u15 u16 u17 u18 u19 u20 u21 u22 u23 u24 u25 u26 u27 u28 u29 u30 u31 u32 u33 u34 u35 u36 u37 u38 u39 u40 u41 u42 u43 : Value}
  (hQ : Q .normal ⟨#[u0, .pointer (some ⟨b, o, none⟩), u2,u3,u4,u5,u6,u7,u8,u9,u10,u11,u12,u13,u14,u15,u16,u17,u18,u19,u20,u21,u22,u23,u24,u25, .pointer (some ⟨b, o, none⟩), .pointer (some ⟨b, o, none⟩), .pointer (some ⟨b, o, none⟩), LV, .pointer (some ⟨n0, 0, none⟩), .pointer (some ⟨n0, 0, none⟩), .agg ZMg, .slice (some ⟨n1, 0, none⟩) 1 1, v', .pointer (some ⟨b, o, none⟩), u36,u37,u38,u39,u40,u41,u42,u43], []⟩ W8) :
  Code.wp Tryz.prog (Code.region 7 ops108_7 true) Q ⟨#[u0, .pointer (some ⟨b, o, none⟩), u2,u3,u4,u5,u6,u7,u8,u9,u10,u11,u12,u13,u14,u15,u16,u17,u18,u19,u20,u21,u22,u23,u24,u25,u26,u27,u28,u29,u30,u31,u32,u33,u34,u35,u36,u37,u38,u39,u40,u41,u42,u43], []⟩ W := by
 refine wp_region_held_drew (S := fun _ => True) hmx trivial (fun HSX => ?_)
 obtain ⟨W0, hW0⟩ : ∃ W0,W0 = W.drew := ⟨_, rfl⟩
 rw [← hW0] at hl0 hal ⊢
 clear hW0
 refine tk hPan (i := 0) (oi := ⟨some 26, Op.move (.tmp 1), 252, "fields.go:117", #[], none⟩) (v := .pointer (some ⟨b, o, none⟩)) rfl (by kernel_rfl) (.inl ⟨by rfl, ?_⟩) HSX ?_
 ·intro wx d0
  skip
  go_simp
 simp only [Act.put, sl0', sl1', sl2']
 refine tk hPan (i := 1) (oi := ⟨some 27, Op.move (.tmp 1), 252, "fields.go:117", #[], none⟩) (v := .pointer (some ⟨b, o, none⟩)) rfl (by kernel_rfl) (.inl ⟨by rfl, ?_⟩) HSX ?_
 ·intro wx d0
  skip
  go_simp
 simp only [Act.put, sl0', sl1', sl2']
 refine tk hPan (i := 2) (oi := ⟨some 28, Op.nilCheck (.tmp 27), 0, "fields.go:117", #[gd' 1], none⟩) (v := .pointer (some ⟨b, o, none⟩)) rfl (by kernel_rfl) (.inl ⟨by rfl, ?_⟩) HSX ?_
 ·intro wx d0
  skip
  go_simp
 simp only [Act.put, sl0', sl1', sl2']
 refine wpAnyH_ready (rs := [3, 4]) (by kernel_rfl) (by simp) ?_
 refine (AllReadyH.cons (o := ⟨some 29, Op.load 65 (.tmp 28), 65, "fields.go:117", #[gd' 2], none⟩) rfl (fun K hK => ?_) (AllReadyH.cons (o := ⟨some 30, Op.alloc 64, 250, "fields.go:117", #[], none⟩) rfl (fun K hK => ?_) AllReadyH.nil))
 ·refine step_ld rfl 65 (.tmp 28) rfl (.pointer (some ⟨b, o, none⟩)) LV rfl hl0 ?_
  simp only [Act.put, sl0', sl1', sl2']
  refine hK.out _ _ trivial (fun HSX => ?_)
  clear hK K
  refine wpAnyH_ready (rs := [4]) (by kernel_rfl) (by simp) ?_
  refine (AllReadyH.cons (o := ⟨some 30, Op.alloc 64, 250, "fields.go:117", #[], none⟩) rfl (fun K hK => ?_) AllReadyH.nil)
  refine step_al rfl 64 rfl (.pointer (some ⟨n0, 0, none⟩)) WA hal ?_
  simp only [Act.put, sl0', sl1', sl2']
  refine hK.out _ _ trivial (fun HSX => ?_)
  clear hK K
  refine tk hPan (i := 5) (oi := ⟨some 31, Op.nilCheck (.tmp 30), 0, "fields.go:117", #[gd' 4], none⟩) (v := .pointer (some ⟨n0, 0, none⟩)) rfl (by kernel_rfl) (.inl ⟨by rfl, ?_⟩) HSX ?_
  ·intro wx d0
   skip
   go_simp
  simp only [Act.put, sl0', sl1', sl2']
  refine wpAnyH_ready (rs := [6]) (by kernel_rfl) (by simp) ?_
  refine (AllReadyH.cons (o := ⟨some 32, Op.load 64 (.tmp 31), 64, "fields.go:117", #[gd' 5], none⟩) rfl (fun K hK => ?_) AllReadyH.nil)
  refine step_ld rfl 64 (.tmp 31) rfl (.pointer (some ⟨n0, 0, none⟩)) (.agg ZMg) rfl hzA ?_
  simp only [Act.put, sl0', sl1', sl2']
  refine hK.out _ _ trivial (fun HSX => ?_)
  clear hK K
  refine wpAnyH_ready (rs := [7]) (by kernel_rfl) (by simp) ?_
  refine (AllReadyH.cons (o := ⟨some 33, Op.buildSlice 65 1 #[(0, Operand.tmp 32)], 65, "fields.go:117", #[gd' 6], none⟩) rfl (fun K hK => ?_) AllReadyH.nil)
  refine step_bs rfl 65 1 _ rfl #[(0, .agg ZMg)] (by kernel_rfl) (.slice (some ⟨n1, 0, none⟩) 1 1) WB hbs ?_
  simp only [Act.put, sl0', sl1', sl2']
  refine hK.out _ _ trivial (fun HSX => ?_)
  clear hK K
  refine wpAnyH_ready (rs := [8]) (by kernel_rfl) (by simp) ?_
  refine (AllReadyH.cons (o := ⟨some 34, Op.call { callee := Callee.builtin Builtin.append, args := #[Operand.tmp 29, Operand.tmp 33], argTypes := #[65, 65] }, 65, "fields.go:117", #[gd' 3, gd' 7], none⟩) rfl (fun K hK => ?_) AllReadyH.nil)
  refine step_app rfl (.tmp 29) (.tmp 33) 65 65 rfl LV (.slice (some ⟨n1, 0, none⟩) 1 1) v' W7 rfl rfl hr ?_
  simp only [Act.put, sl0', sl1', sl2']
  refine hK.out _ _ trivial (fun HSX => ?_)
  clear hK K
  refine tk hPan (i := 9) (oi := ⟨some 35, Op.nilCheck (.tmp 26), 0, "fields.go:117", #[gd' 0, gp' 0, gp' 1, gp' 2, gp' 3, gp' 4, gp' 5, gp' 6, gp' 7, gp' 8], none⟩) (v := .pointer (some ⟨b, o, none⟩)) rfl (by kernel_rfl) (.inl ⟨by rfl, ?_⟩) HSX ?_
  ·intro wx d0
   skip
   go_simp
  simp only [Act.put, sl0', sl1', sl2']
  refine wpAnyH_ready (rs := [10]) (by kernel_rfl) (by simp) ?_
  refine (AllReadyH.cons (o := ⟨none, Op.store 65 (.tmp 35) (.tmp 34), 0, "fields.go:117", #[gd' 9, gd' 8, gc' 8, gp' 0, gp' 1, gp' 2, gp' 3, gp' 4, gp' 5, gp' 6, gp' 7, gp' 8], none⟩) rfl (fun K hK => ?_) AllReadyH.nil)
  refine step_st rfl 65 (.tmp 35) (.tmp 34) rfl rfl (.pointer (some ⟨b, o, none⟩)) v' W8 rfl rfl hst ?_
  refine hK.out _ _ trivial (fun HSX => ?_)
  clear hK K
  refine wpAnyH_done (by kernel_rfl) ?_ _
  exact hQ
 ·refine step_al rfl 64 rfl (.pointer (some ⟨n0, 0, none⟩)) WA hal ?_
  simp only [Act.put, sl0', sl1', sl2']
  refine hK.out _ _ trivial (fun HSX => ?_)
  clear hK K
  refine tk hPan (i := 5) (oi := ⟨some 31, Op.nilCheck (.tmp 30), 0, "fields.go:117", #[gd' 4], none⟩) (v := .pointer (some ⟨n0, 0, none⟩)) rfl (by kernel_rfl) (.inl ⟨by rfl, ?_⟩) HSX ?_
  ·intro wx d0
   skip
   go_simp
  simp only [Act.put, sl0', sl1', sl2']
  refine wpAnyH_ready (rs := [3, 6]) (by kernel_rfl) (by simp) ?_
  refine (AllReadyH.cons (o := ⟨some 29, Op.load 65 (.tmp 28), 65, "fields.go:117", #[gd' 2], none⟩) rfl (fun K hK => ?_) (AllReadyH.cons (o := ⟨some 32, Op.load 64 (.tmp 31), 64, "fields.go:117", #[gd' 5], none⟩) rfl (fun K hK => ?_) AllReadyH.nil))
  ·refine step_ld rfl 65 (.tmp 28) rfl (.pointer (some ⟨b, o, none⟩)) LV rfl hlA ?_
   simp only [Act.put, sl0', sl1', sl2']
   refine hK.out _ _ trivial (fun HSX => ?_)
   clear hK K
   refine wpAnyH_ready (rs := [6]) (by kernel_rfl) (by simp) ?_
   refine (AllReadyH.cons (o := ⟨some 32, Op.load 64 (.tmp 31), 64, "fields.go:117", #[gd' 5], none⟩) rfl (fun K hK => ?_) AllReadyH.nil)
   refine step_ld rfl 64 (.tmp 31) rfl (.pointer (some ⟨n0, 0, none⟩)) (.agg ZMg) rfl hzA ?_
   simp only [Act.put, sl0', sl1', sl2']
   refine hK.out _ _ trivial (fun HSX => ?_)
   clear hK K
   refine wpAnyH_ready (rs := [7]) (by kernel_rfl) (by simp) ?_
   refine (AllReadyH.cons (o := ⟨some 33, Op.buildSlice 65 1 #[(0, Operand.tmp 32)], 65, "fields.go:117", #[gd' 6], none⟩) rfl (fun K hK => ?_) AllReadyH.nil)
   refine step_bs rfl 65 1 _ rfl #[(0, .agg ZMg)] (by kernel_rfl) (.slice (some ⟨n1, 0, none⟩) 1 1) WB hbs ?_
   simp only [Act.put, sl0', sl1', sl2']
   refine hK.out _ _ trivial (fun HSX => ?_)
   clear hK K
   refine wpAnyH_ready (rs := [8]) (by kernel_rfl) (by simp) ?_
   refine (AllReadyH.cons (o := ⟨some 34, Op.call { callee := Callee.builtin Builtin.append, args := #[Operand.tmp 29, Operand.tmp 33], argTypes := #[65, 65] }, 65, "fields.go:117", #[gd' 3, gd' 7], none⟩) rfl (fun K hK => ?_) AllReadyH.nil)
   refine step_app rfl (.tmp 29) (.tmp 33) 65 65 rfl LV (.slice (some ⟨n1, 0, none⟩) 1 1) v' W7 rfl rfl hr ?_
   simp only [Act.put, sl0', sl1', sl2']
   refine hK.out _ _ trivial (fun HSX => ?_)
   clear hK K
   refine tk hPan (i := 9) (oi := ⟨some 35, Op.nilCheck (.tmp 26), 0, "fields.go:117", #[gd' 0, gp' 0, gp' 1, gp' 2, gp' 3, gp' 4, gp' 5, gp' 6, gp' 7, gp' 8], none⟩) (v := .pointer (some ⟨b, o, none⟩)) rfl (by kernel_rfl) (.inl ⟨by rfl, ?_⟩) HSX ?_
   ·intro wx d0
    skip
    go_simp
   simp only [Act.put, sl0', sl1', sl2']
   refine wpAnyH_ready (rs := [10]) (by kernel_rfl) (by simp) ?_
   refine (AllReadyH.cons (o := ⟨none, Op.store 65 (.tmp 35) (.tmp 34), 0, "fields.go:117", #[gd' 9, gd' 8, gc' 8, gp' 0, gp' 1, gp' 2, gp' 3, gp' 4, gp' 5, gp' 6, gp' 7, gp' 8], none⟩) rfl (fun K hK => ?_) AllReadyH.nil)
   refine step_st rfl 65 (.tmp 35) (.tmp 34) rfl rfl (.pointer (some ⟨b, o, none⟩)) v' W8 rfl rfl hst ?_
   refine hK.out _ _ trivial (fun HSX => ?_)
   clear hK K
   refine wpAnyH_done (by kernel_rfl) ?_ _
   exact hQ
  ·refine step_ld rfl 64 (.tmp 31) rfl (.pointer (some ⟨n0, 0, none⟩)) (.agg ZMg) rfl hzA ?_
   simp only [Act.put, sl0', sl1', sl2']
   refine hK.out _ _ trivial (fun HSX => ?_)
   clear hK K
   refine wpAnyH_ready (rs := [3, 7]) (by kernel_rfl) (by simp) ?_
   refine (AllReadyH.cons (o := ⟨some 29, Op.load 65 (.tmp 28), 65, "fields.go:117", #[gd' 2], none⟩) rfl (fun K hK => ?_) (AllReadyH.cons (o := ⟨some 33, Op.buildSlice 65 1 #[(0, Operand.tmp 32)], 65, "fields.go:117", #[gd' 6], none⟩) rfl (fun K hK => ?_) AllReadyH.nil))
   ·refine step_ld rfl 65 (.tmp 28) rfl (.pointer (some ⟨b, o, none⟩)) LV rfl hlA ?_
    simp only [Act.put, sl0', sl1', sl2']
    refine hK.out _ _ trivial (fun HSX => ?_)
    clear hK K
    refine wpAnyH_ready (rs := [7]) (by kernel_rfl) (by simp) ?_
    refine (AllReadyH.cons (o := ⟨some 33, Op.buildSlice 65 1 #[(0, Operand.tmp 32)], 65, "fields.go:117", #[gd' 6], none⟩) rfl (fun K hK => ?_) AllReadyH.nil)
    refine step_bs rfl 65 1 _ rfl #[(0, .agg ZMg)] (by kernel_rfl) (.slice (some ⟨n1, 0, none⟩) 1 1) WB hbs ?_
    simp only [Act.put, sl0', sl1', sl2']
    refine hK.out _ _ trivial (fun HSX => ?_)
    clear hK K
    refine wpAnyH_ready (rs := [8]) (by kernel_rfl) (by simp) ?_
    refine (AllReadyH.cons (o := ⟨some 34, Op.call { callee := Callee.builtin Builtin.append, args := #[Operand.tmp 29, Operand.tmp 33], argTypes := #[65, 65] }, 65, "fields.go:117", #[gd' 3, gd' 7], none⟩) rfl (fun K hK => ?_) AllReadyH.nil)
    refine step_app rfl (.tmp 29) (.tmp 33) 65 65 rfl LV (.slice (some ⟨n1, 0, none⟩) 1 1) v' W7 rfl rfl hr ?_
    simp only [Act.put, sl0', sl1', sl2']
    refine hK.out _ _ trivial (fun HSX => ?_)
    clear hK K
    refine tk hPan (i := 9) (oi := ⟨some 35, Op.nilCheck (.tmp 26), 0, "fields.go:117", #[gd' 0, gp' 0, gp' 1, gp' 2, gp' 3, gp' 4, gp' 5, gp' 6, gp' 7, gp' 8], none⟩) (v := .pointer (some ⟨b, o, none⟩)) rfl (by kernel_rfl) (.inl ⟨by rfl, ?_⟩) HSX ?_
    ·intro wx d0
     skip
     go_simp
    simp only [Act.put, sl0', sl1', sl2']
    refine wpAnyH_ready (rs := [10]) (by kernel_rfl) (by simp) ?_
    refine (AllReadyH.cons (o := ⟨none, Op.store 65 (.tmp 35) (.tmp 34), 0, "fields.go:117", #[gd' 9, gd' 8, gc' 8, gp' 0, gp' 1, gp' 2, gp' 3, gp' 4, gp' 5, gp' 6, gp' 7, gp' 8], none⟩) rfl (fun K hK => ?_) AllReadyH.nil)
    refine step_st rfl 65 (.tmp 35) (.tmp 34) rfl rfl (.pointer (some ⟨b, o, none⟩)) v' W8 rfl rfl hst ?_
    refine hK.out _ _ trivial (fun HSX => ?_)
    clear hK K
    refine wpAnyH_done (by kernel_rfl) ?_ _
    exact hQ
   ·refine step_bs rfl 65 1 _ rfl #[(0, .agg ZMg)] (by kernel_rfl) (.slice (some ⟨n1, 0, none⟩) 1 1) WB hbs ?_
    simp only [Act.put, sl0', sl1', sl2']
    refine hK.out _ _ trivial (fun HSX => ?_)
    clear hK K
    refine wpAnyH_ready (rs := [3]) (by kernel_rfl) (by simp) ?_
    refine (AllReadyH.cons (o := ⟨some 29, Op.load 65 (.tmp 28), 65, "fields.go:117", #[gd' 2], none⟩) rfl (fun K hK => ?_) AllReadyH.nil)
    refine step_ld rfl 65 (.tmp 28) rfl (.pointer (some ⟨b, o, none⟩)) LV rfl hlB ?_
    simp only [Act.put, sl0', sl1', sl2']
    refine hK.out _ _ trivial (fun HSX => ?_)
    clear hK K
    refine wpAnyH_ready (rs := [8]) (by kernel_rfl) (by simp) ?_
    refine (AllReadyH.cons (o := ⟨some 34, Op.call { callee := Callee.builtin Builtin.append, args := #[Operand.tmp 29, Operand.tmp 33], argTypes := #[65, 65] }, 65, "fields.go:117", #[gd' 3, gd' 7], none⟩) rfl (fun K hK => ?_) AllReadyH.nil)
    refine step_app rfl (.tmp 29) (.tmp 33) 65 65 rfl LV (.slice (some ⟨n1, 0, none⟩) 1 1) v' W7 rfl rfl hr ?_
    simp only [Act.put, sl0', sl1', sl2']
    refine hK.out _ _ trivial (fun HSX => ?_)
    clear hK K
    refine tk hPan (i := 9) (oi := ⟨some 35, Op.nilCheck (.tmp 26), 0, "fields.go:117", #[gd' 0, gp' 0, gp' 1, gp' 2, gp' 3, gp' 4, gp' 5, gp' 6, gp' 7, gp' 8], none⟩) (v := .pointer (some ⟨b, o, none⟩)) rfl (by kernel_rfl) (.inl ⟨by rfl, ?_⟩) HSX ?_
    ·intro wx d0
     skip
     go_simp
    simp only [Act.put, sl0', sl1', sl2']
    refine wpAnyH_ready (rs := [10]) (by kernel_rfl) (by simp) ?_
    refine (AllReadyH.cons (o := ⟨none, Op.store 65 (.tmp 35) (.tmp 34), 0, "fields.go:117", #[gd' 9, gd' 8, gc' 8, gp' 0, gp' 1, gp' 2, gp' 3, gp' 4, gp' 5, gp' 6, gp' 7, gp' 8], none⟩) rfl (fun K hK => ?_) AllReadyH.nil)
    refine step_st rfl 65 (.tmp 35) (.tmp 34) rfl rfl (.pointer (some ⟨b, o, none⟩)) v' W8 rfl rfl hst ?_
    refine hK.out _ _ trivial (fun HSX => ?_)
    clear hK K
    refine wpAnyH_done (by kernel_rfl) ?_ _
    exact hQ
end Go.Proofs.YtkggkkoblpdopaaGreat
