import Derived.Test.YtnblhaeojlpmmaaAc
namespace Go.Proofs.Ytnblhaeojlpmmaa
open Go.ChangeShapes Go.WideShapes Go.ChangeAt Go.RowKit
set_option linter.unusedVariables false
theorem hmx : Try.prog.follows .mixedOrders = true := by kernel_rfl
/-- An append as one step of a region. -/
theorem step_app {P : Program} {ops : Array Oper} {o : Oper} {a : Act} {w : World} {K : Act → World → Prop} {Q : Exit → Act → World → Prop} {E : Prop}
    (hgd : o.guard = none) (s x : Operand) (t u : TypeId) (ho : o.op = .call { callee := .builtin .append, args := #[s, x], argTypes := #[t, u] }) (v y v' : Value) (w' : World)
    (hs : a.eval s = v) (hx : a.eval x = y) (hrun : (Builtin.append_ #[t, u] o.type #[v, y]).run P w = .ok v' w') (hK : K (a.put o.dst v') w') :
    if Region.wanted o (yielded ops a.tmps) = true then Oper.wp P o a w K Q else E := by
  rw [if_pos (by simp [Region.wanted, hgd])]
  unfold Oper.wp
  simp [execOp, ho, resolve, invoke, builtin, hs, hx, hrun, Result.andThen]
  exact hK
def ops14_9 : Array Oper := #[{ dst := some 30, op := Op.move (Operand.tmp 0), type := 25, pos := "queuing.go:44", after := #[], guard := none },
  { dst := some 31, op := Op.move (Operand.tmp 0), type := 25, pos := "queuing.go:44", after := #[], guard := none },
  { dst := some 32, op := Op.nilCheck (Operand.tmp 31), type := 0, pos := "queuing.go:44", after := #[{ on := 1, ground := Ground.data }], guard := none },
  { dst := some 33, op := Op.fieldAddr 71 (Operand.tmp 32) 3, type := 0, pos := "queuing.go:44", after := #[{ on := 2, ground := Ground.data }], guard := none },
  { dst := some 34, op := Op.load 62 (Operand.tmp 33), type := 62, pos := "queuing.go:44", after := #[{ on := 3, ground := Ground.data }], guard := none },
  { dst := some 35, op := Op.move (Operand.tmp 3), type := 37, pos := "queuing.go:44", after := #[], guard := none },
  { dst := some 36, op := Op.move (Operand.tmp 2), type := 38, pos := "queuing.go:44", after := #[], guard := none },
  { dst := some 37, op := Op.build 75 #[(0, Operand.tmp 35), (1, Operand.tmp 36)], type := 75, pos := "queuing.go:44", after := #[{ on := 5, ground := Ground.data }, { on := 6, ground := Ground.data }], guard := none },
  { dst := some 38, op := Op.call { callee := Callee.value (Operand.func 26), args := #[Operand.tmp 37], argTypes := #[75] }, type := 75, pos := "queuing.go:44", after := #[{ on := 7, ground := Ground.data }], guard := none },
  { dst := some 39, op := Op.buildSlice 62 1 #[(0, Operand.tmp 38)], type := 62, pos := "queuing.go:44", after := #[{ on := 8, ground := Ground.data }], guard := none },
  { dst := some 40, op := Op.call { callee := Callee.builtin Builtin.append, args := #[Operand.tmp 34, Operand.tmp 39], argTypes := #[62, 62] }, type := 62, pos := "queuing.go:44", after := #[{ on := 4, ground := Ground.data }, { on := 9, ground := Ground.data }, { on := 8, ground := Ground.chain }], guard := none },
  { dst := some 41, op := Op.nilCheck (Operand.tmp 30), type := 0, pos := "queuing.go:44", after := #[{ on := 0, ground := Ground.data }, { on := 0, ground := Ground.phase }, { on := 1, ground := Ground.phase }, { on := 2, ground := Ground.phase }, { on := 3, ground := Ground.phase }, { on := 4, ground := Ground.phase }, { on := 5, ground := Ground.phase }, { on := 6, ground := Ground.phase }, { on := 7, ground := Ground.phase }, { on := 8, ground := Ground.phase }, { on := 9, ground := Ground.phase }, { on := 10, ground := Ground.phase }], guard := none },
  { dst := some 42, op := Op.fieldAddr 71 (Operand.tmp 41) 3, type := 0, pos := "queuing.go:44", after := #[{ on := 11, ground := Ground.data }, { on := 0, ground := Ground.phase }, { on := 1, ground := Ground.phase }, { on := 2, ground := Ground.phase }, { on := 3, ground := Ground.phase }, { on := 4, ground := Ground.phase }, { on := 5, ground := Ground.phase }, { on := 6, ground := Ground.phase }, { on := 7, ground := Ground.phase }, { on := 8, ground := Ground.phase }, { on := 9, ground := Ground.phase }, { on := 10, ground := Ground.phase }], guard := none },
  { dst := none, op := Op.store 62 (Operand.tmp 42) (Operand.tmp 40), type := 0, pos := "queuing.go:44", after := #[{ on := 12, ground := Ground.data }, { on := 10, ground := Ground.data }, { on := 10, ground := Ground.chain }, { on := 0, ground := Ground.phase }, { on := 1, ground := Ground.phase }, { on := 2, ground := Ground.phase }, { on := 3, ground := Ground.phase }, { on := 4, ground := Ground.phase }, { on := 5, ground := Ground.phase }, { on := 6, ground := Ground.phase }, { on := 7, ground := Ground.phase }, { on := 8, ground := Ground.phase }, { on := 9, ground := Ground.phase }, { on := 10, ground := Ground.phase }], guard := none }]
set_option maxHeartbeats 4000000 in
set_option maxRecDepth 100000 in
theorem reg14_9 (W : World) (B sn sc dn dc : Nat) (sa da : Option Addr) (tk : Int) (h0 : W.cell? ⟨B, 10, none⟩ = some (.slice sa sn sc))
    (RR : Option Addr → Nat → Nat → Option Addr → Nat → Nat → World → World → Prop)
    (hCp : Calls Try.prog 26 #[.agg #[.slice da dn dc, .int .u64 tk]] W.drew fun e w1 => ∃ la ln lc a2 n2 c2 w2, e = .returned (.agg #[.slice la ln lc, .int .u64 tk]) ∧ w1.cell? ⟨B, 10, none⟩ = some (.slice sa sn sc) ∧ (w1.alloc (.cells #[.slice la ln lc, .int .u64 tk] 75)).cell? ⟨B, 10, none⟩ = some (.slice sa sn sc) ∧ (Builtin.append_ #[62, 62] 62 #[.slice sa sn sc, .slice (some ⟨w1.heap.size, 0, none⟩) 1 1]).run Try.prog (w1.alloc (.cells #[.slice la ln lc, .int .u64 tk] 75)) = .ok (.slice a2 n2 c2) w2 ∧ (∃ z, w2.cell? ⟨B, 10, none⟩ = some z) ∧ w2.frozen? ⟨B, 10, none⟩ = false ∧ RR la ln lc a2 n2 c2 w1 w2)
    (Q : Exit → Act → World → Prop) (hPan : ∀ c (a : Act) w (d : Option Tmp) v, Q (.panic c) (a.put d v) w → Q (.panic c) a w) {u1 u4 u5 u6 u7 u8 u9 u10 u11 u12 u13 u14 u15 u16 u17 u18 u19 u20 u21 u22 u23 u24 u25 u26 u27 u28 u29 u30 u31 u32 u33 u34 u35 u36 u37 u38 u39 u40 u41 u42 u43 u44 u45 u46 u47 u48 u49 u50 u51 : Value}
    (hQ : ∀ la ln lc a2 n2 c2 w1 w2, RR la ln lc a2 n2 c2 w1 w2 → Q .normal ⟨#[.pointer (some ⟨B, 0, none⟩), u1, .int .u64 tk, .slice da dn dc, u4,u5,u6,u7,u8,u9,u10,u11,u12,u13,u14,u15,u16,u17,u18,u19,u20,u21,u22,u23,u24,u25,u26,u27,u28,u29, .pointer (some ⟨B, 0, none⟩), .pointer (some ⟨B, 0, none⟩), .pointer (some ⟨B, 0, none⟩), .pointer (some ⟨B, 10, none⟩), .slice sa sn sc, .slice da dn dc, .int .u64 tk, .agg #[.slice da dn dc, .int .u64 tk], .agg #[.slice la ln lc, .int .u64 tk], .slice (some ⟨w1.heap.size, 0, none⟩) 1 1, .slice a2 n2 c2, .pointer (some ⟨B, 0, none⟩), .pointer (some ⟨B, 10, none⟩), u43,u44,u45,u46,u47,u48,u49,u50,u51], []⟩ (w2.setCell ⟨B, 10, none⟩ (.slice a2 n2 c2))) :
    Code.wp Try.prog (Code.region 9 ops14_9 true) Q ⟨#[.pointer (some ⟨B, 0, none⟩), u1, .int .u64 tk, .slice da dn dc, u4,u5,u6,u7,u8,u9,u10,u11,u12,u13,u14,u15,u16,u17,u18,u19,u20,u21,u22,u23,u24,u25,u26,u27,u28,u29,u30,u31,u32,u33,u34,u35,u36,u37,u38,u39,u40,u41,u42,u43,u44,u45,u46,u47,u48,u49,u50,u51], []⟩ W := by
  have k0 : Kp W W.drew := (Chg.refl _ _).drew
  have h0' : W.drew.cell? ⟨B, 10, none⟩ = some (.slice sa sn sc) := k0.cell h0
  refine wp_region_held_drew (S := fun (_ : World) => True) hmx trivial (fun HSX => ?_)
  clear k0 h0
  obtain ⟨W0, hW0⟩ : ∃ W0,W0 = W.drew := ⟨_, rfl⟩
  rw [← hW0] at hCp h0' ⊢
  clear hW0
  refine wpAnyH_take (i := 0) (oi := { dst := some 30, op := Op.move (Operand.tmp 0), type := 25, pos := "queuing.go:44", after := #[], guard := none }) (v := .pointer (some ⟨B, 0, none⟩)) rfl (by kernel_rfl) (by kernel_rfl) (by kernel_rfl) (fun _ _ _ h => hPan _ _ _ _ _ h) (Or.inl ⟨by rfl, ?_⟩) HSX ?_
  · intro wx d0
    skip
    go_simp
  simp only [Act.put, List.setIfInBounds_toArray, List.set_cons_zero, List.set_cons_succ]
  refine wpAnyH_take (i := 1) (oi := { dst := some 31, op := Op.move (Operand.tmp 0), type := 25, pos := "queuing.go:44", after := #[], guard := none }) (v := .pointer (some ⟨B, 0, none⟩)) rfl (by kernel_rfl) (by kernel_rfl) (by kernel_rfl) (fun _ _ _ h => hPan _ _ _ _ _ h) (Or.inl ⟨by rfl, ?_⟩) HSX ?_
  · intro wx d0
    skip
    go_simp
  simp only [Act.put, List.setIfInBounds_toArray, List.set_cons_zero, List.set_cons_succ]
  refine wpAnyH_take (i := 2) (oi := { dst := some 32, op := Op.nilCheck (Operand.tmp 31), type := 0, pos := "queuing.go:44", after := #[{ on := 1, ground := Ground.data }], guard := none }) (v := .pointer (some ⟨B, 0, none⟩)) rfl (by kernel_rfl) (by kernel_rfl) (by kernel_rfl) (fun _ _ _ h => hPan _ _ _ _ _ h) (Or.inl ⟨by rfl, ?_⟩) HSX ?_
  · intro wx d0
    skip
    go_simp
  simp only [Act.put, List.setIfInBounds_toArray, List.set_cons_zero, List.set_cons_succ]
  refine wpAnyH_take (i := 3) (oi := { dst := some 33, op := Op.fieldAddr 71 (Operand.tmp 32) 3, type := 0, pos := "queuing.go:44", after := #[{ on := 2, ground := Ground.data }], guard := none }) (v := .pointer (some ⟨B, 10, none⟩)) rfl (by kernel_rfl) (by kernel_rfl) (by kernel_rfl) (fun _ _ _ h => hPan _ _ _ _ _ h) (Or.inl ⟨by rfl, ?_⟩) HSX ?_
  · intro wx d0
    skip
    go_simp
  simp only [Act.put, List.setIfInBounds_toArray, List.set_cons_zero, List.set_cons_succ]
  refine wpAnyH_take (i := 5) (oi := { dst := some 35, op := Op.move (Operand.tmp 3), type := 37, pos := "queuing.go:44", after := #[], guard := none }) (v := .slice da dn dc) rfl (by kernel_rfl) (by kernel_rfl) (by kernel_rfl) (fun _ _ _ h => hPan _ _ _ _ _ h) (Or.inl ⟨by rfl, ?_⟩) HSX ?_
  · intro wx d0
    skip
    go_simp
  simp only [Act.put, List.setIfInBounds_toArray, List.set_cons_zero, List.set_cons_succ]
  refine wpAnyH_take (i := 6) (oi := { dst := some 36, op := Op.move (Operand.tmp 2), type := 38, pos := "queuing.go:44", after := #[], guard := none }) (v := .int .u64 tk) rfl (by kernel_rfl) (by kernel_rfl) (by kernel_rfl) (fun _ _ _ h => hPan _ _ _ _ _ h) (Or.inl ⟨by rfl, ?_⟩) HSX ?_
  · intro wx d0
    skip
    go_simp
  simp only [Act.put, List.setIfInBounds_toArray, List.set_cons_zero, List.set_cons_succ]
  refine wpAnyH_take (i := 7) (oi := { dst := some 37, op := Op.build 75 #[(0, Operand.tmp 35), (1, Operand.tmp 36)], type := 75, pos := "queuing.go:44", after := #[{ on := 5, ground := Ground.data }, { on := 6, ground := Ground.data }], guard := none }) (v := .agg #[.slice da dn dc, .int .u64 tk]) rfl (by kernel_rfl) (by kernel_rfl) (by kernel_rfl) (fun _ _ _ h => hPan _ _ _ _ _ h) (Or.inl ⟨by rfl, ?_⟩) HSX ?_
  · intro wx d0
    skip
    go_simp
  simp only [Act.put, List.setIfInBounds_toArray, List.set_cons_zero, List.set_cons_succ]
  refine wpAnyH_ready (rs := [4, 8]) (by kernel_rfl) (by simp) ?_
  refine (AllReadyH.cons (o := { dst := some 34, op := Op.load 62 (Operand.tmp 33), type := 62, pos := "queuing.go:44", after := #[{ on := 3, ground := Ground.data }], guard := none }) rfl (fun K hK => ?_) (AllReadyH.cons (o := { dst := some 38, op := Op.call { callee := Callee.value (Operand.func 26), args := #[Operand.tmp 37], argTypes := #[75] }, type := 75, pos := "queuing.go:44", after := #[{ on := 7, ground := Ground.data }], guard := none }) rfl (fun K hK => ?_) AllReadyH.nil))
  · rw [if_pos (by rfl)]
    go_simp
    refine hK.out _ _ trivial (fun HSX => ?_)
    clear hK K
    refine wpAnyH_ready (rs := [8]) (by kernel_rfl) (by simp) ?_
    refine (AllReadyH.cons (o := { dst := some 38, op := Op.call { callee := Callee.value (Operand.func 26), args := #[Operand.tmp 37], argTypes := #[75] }, type := 75, pos := "queuing.go:44", after := #[{ on := 7, ground := Ground.data }], guard := none }) rfl (fun K hK => ?_) AllReadyH.nil)
    · rw [if_pos (by rfl)]
      go_simp
      go_at_call 26
      refine hCp.mono ?_
      rintro e w1 ⟨la, ln, lc, a2, n2, c2, w2, rfl, hk1, hk2, hr, ⟨z, h02⟩, hf2, hR⟩
      go_simp
      refine hK.out _ _ trivial (fun HSX => ?_)
      clear hK K
      refine wpAnyH_ready (rs := [9]) (by kernel_rfl) (by simp) ?_
      refine (AllReadyH.cons (o := { dst := some 39, op := Op.buildSlice 62 1 #[(0, Operand.tmp 38)], type := 62, pos := "queuing.go:44", after := #[{ on := 8, ground := Ground.data }], guard := none }) rfl (fun K hK => ?_) AllReadyH.nil)
      · rw [if_pos (by rfl)]
        go_simp
        refine hK.out _ _ trivial (fun HSX => ?_)
        clear hK K
        refine wpAnyH_ready (rs := [10]) (by kernel_rfl) (by simp) ?_
        refine AllReadyH.cons (o := { dst := some 40, op := Op.call { callee := Callee.builtin Builtin.append, args := #[Operand.tmp 34, Operand.tmp 39], argTypes := #[62, 62] }, type := 62, pos := "queuing.go:44", after := #[{ on := 4, ground := Ground.data }, { on := 9, ground := Ground.data }, { on := 8, ground := Ground.chain }], guard := none }) rfl (fun K hK => ?_) AllReadyH.nil
        refine step_app rfl (.tmp 34) (.tmp 39) 62 62 rfl _ _ (.slice a2 n2 c2) w2 rfl rfl hr ?_
        simp only [Act.put, List.setIfInBounds_toArray, List.set_cons_zero, List.set_cons_succ]
        refine hK.out _ _ trivial (fun HSX => ?_)
        clear hK K
        refine wpAnyH_take (i := 11) (oi := { dst := some 41, op := Op.nilCheck (Operand.tmp 30), type := 0, pos := "queuing.go:44", after := #[{ on := 0, ground := Ground.data }, { on := 0, ground := Ground.phase }, { on := 1, ground := Ground.phase }, { on := 2, ground := Ground.phase }, { on := 3, ground := Ground.phase }, { on := 4, ground := Ground.phase }, { on := 5, ground := Ground.phase }, { on := 6, ground := Ground.phase }, { on := 7, ground := Ground.phase }, { on := 8, ground := Ground.phase }, { on := 9, ground := Ground.phase }, { on := 10, ground := Ground.phase }], guard := none }) (v := .pointer (some ⟨B, 0, none⟩)) rfl (by kernel_rfl) (by kernel_rfl) (by kernel_rfl) (fun _ _ _ h => hPan _ _ _ _ _ h) (Or.inl ⟨by rfl, ?_⟩) HSX ?_
        · intro wx d0
          skip
          go_simp
        simp only [Act.put, List.setIfInBounds_toArray, List.set_cons_zero, List.set_cons_succ]
        refine wpAnyH_take (i := 12) (oi := { dst := some 42, op := Op.fieldAddr 71 (Operand.tmp 41) 3, type := 0, pos := "queuing.go:44", after := #[{ on := 11, ground := Ground.data }, { on := 0, ground := Ground.phase }, { on := 1, ground := Ground.phase }, { on := 2, ground := Ground.phase }, { on := 3, ground := Ground.phase }, { on := 4, ground := Ground.phase }, { on := 5, ground := Ground.phase }, { on := 6, ground := Ground.phase }, { on := 7, ground := Ground.phase }, { on := 8, ground := Ground.phase }, { on := 9, ground := Ground.phase }, { on := 10, ground := Ground.phase }], guard := none }) (v := .pointer (some ⟨B, 10, none⟩)) rfl (by kernel_rfl) (by kernel_rfl) (by kernel_rfl) (fun _ _ _ h => hPan _ _ _ _ _ h) (Or.inl ⟨by rfl, ?_⟩) HSX ?_
        · intro wx d0
          skip
          go_simp
        simp only [Act.put, List.setIfInBounds_toArray, List.set_cons_zero, List.set_cons_succ]
        refine wpAnyH_ready (rs := [13]) (by kernel_rfl) (by simp) ?_
        refine AllReadyH.cons (o := { dst := none, op := Op.store 62 (Operand.tmp 42) (Operand.tmp 40), type := 0, pos := "queuing.go:44", after := #[{ on := 12, ground := Ground.data }, { on := 10, ground := Ground.data }, { on := 10, ground := Ground.chain }, { on := 0, ground := Ground.phase }, { on := 1, ground := Ground.phase }, { on := 2, ground := Ground.phase }, { on := 3, ground := Ground.phase }, { on := 4, ground := Ground.phase }, { on := 5, ground := Ground.phase }, { on := 6, ground := Ground.phase }, { on := 7, ground := Ground.phase }, { on := 8, ground := Ground.phase }, { on := 9, ground := Ground.phase }, { on := 10, ground := Ground.phase }], guard := none }) rfl (fun K hK => ?_) AllReadyH.nil
        rw [if_pos (by rfl)]
        go_simp
        refine hK.out _ _ trivial (fun HSX => ?_)
        clear hK K
        refine wpAnyH_done (by kernel_rfl) ?_ _
        exact hQ _ _ _ _ _ _ _ _ hR
  · rw [if_pos (by rfl)]
    go_simp
    go_at_call 26
    refine hCp.mono ?_
    rintro e w1 ⟨la, ln, lc, a2, n2, c2, w2, rfl, hk1, hk2, hr, ⟨z, h02⟩, hf2, hR⟩
    go_simp
    refine hK.out _ _ trivial (fun HSX => ?_)
    clear hK K
    refine wpAnyH_ready (rs := [4, 9]) (by kernel_rfl) (by simp) ?_
    refine (AllReadyH.cons (o := { dst := some 34, op := Op.load 62 (Operand.tmp 33), type := 62, pos := "queuing.go:44", after := #[{ on := 3, ground := Ground.data }], guard := none }) rfl (fun K hK => ?_) (AllReadyH.cons (o := { dst := some 39, op := Op.buildSlice 62 1 #[(0, Operand.tmp 38)], type := 62, pos := "queuing.go:44", after := #[{ on := 8, ground := Ground.data }], guard := none }) rfl (fun K hK => ?_) AllReadyH.nil))
    · rw [if_pos (by rfl)]
      go_simp
      refine hK.out _ _ trivial (fun HSX => ?_)
      clear hK K
      refine wpAnyH_ready (rs := [9]) (by kernel_rfl) (by simp) ?_
      refine (AllReadyH.cons (o := { dst := some 39, op := Op.buildSlice 62 1 #[(0, Operand.tmp 38)], type := 62, pos := "queuing.go:44", after := #[{ on := 8, ground := Ground.data }], guard := none }) rfl (fun K hK => ?_) AllReadyH.nil)
      · rw [if_pos (by rfl)]
        go_simp
        refine hK.out _ _ trivial (fun HSX => ?_)
        clear hK K
        refine wpAnyH_ready (rs := [10]) (by kernel_rfl) (by simp) ?_
        refine AllReadyH.cons (o := { dst := some 40, op := Op.call { callee := Callee.builtin Builtin.append, args := #[Operand.tmp 34, Operand.tmp 39], argTypes := #[62, 62] }, type := 62, pos := "queuing.go:44", after := #[{ on := 4, ground := Ground.data }, { on := 9, ground := Ground.data }, { on := 8, ground := Ground.chain }], guard := none }) rfl (fun K hK => ?_) AllReadyH.nil
        refine step_app rfl (.tmp 34) (.tmp 39) 62 62 rfl _ _ (.slice a2 n2 c2) w2 rfl rfl hr ?_
        simp only [Act.put, List.setIfInBounds_toArray, List.set_cons_zero, List.set_cons_succ]
        refine hK.out _ _ trivial (fun HSX => ?_)
        clear hK K
        refine wpAnyH_take (i := 11) (oi := { dst := some 41, op := Op.nilCheck (Operand.tmp 30), type := 0, pos := "queuing.go:44", after := #[{ on := 0, ground := Ground.data }, { on := 0, ground := Ground.phase }, { on := 1, ground := Ground.phase }, { on := 2, ground := Ground.phase }, { on := 3, ground := Ground.phase }, { on := 4, ground := Ground.phase }, { on := 5, ground := Ground.phase }, { on := 6, ground := Ground.phase }, { on := 7, ground := Ground.phase }, { on := 8, ground := Ground.phase }, { on := 9, ground := Ground.phase }, { on := 10, ground := Ground.phase }], guard := none }) (v := .pointer (some ⟨B, 0, none⟩)) rfl (by kernel_rfl) (by kernel_rfl) (by kernel_rfl) (fun _ _ _ h => hPan _ _ _ _ _ h) (Or.inl ⟨by rfl, ?_⟩) HSX ?_
        · intro wx d0
          skip
          go_simp
        simp only [Act.put, List.setIfInBounds_toArray, List.set_cons_zero, List.set_cons_succ]
        refine wpAnyH_take (i := 12) (oi := { dst := some 42, op := Op.fieldAddr 71 (Operand.tmp 41) 3, type := 0, pos := "queuing.go:44", after := #[{ on := 11, ground := Ground.data }, { on := 0, ground := Ground.phase }, { on := 1, ground := Ground.phase }, { on := 2, ground := Ground.phase }, { on := 3, ground := Ground.phase }, { on := 4, ground := Ground.phase }, { on := 5, ground := Ground.phase }, { on := 6, ground := Ground.phase }, { on := 7, ground := Ground.phase }, { on := 8, ground := Ground.phase }, { on := 9, ground := Ground.phase }, { on := 10, ground := Ground.phase }], guard := none }) (v := .pointer (some ⟨B, 10, none⟩)) rfl (by kernel_rfl) (by kernel_rfl) (by kernel_rfl) (fun _ _ _ h => hPan _ _ _ _ _ h) (Or.inl ⟨by rfl, ?_⟩) HSX ?_
        · intro wx d0
          skip
          go_simp
        simp only [Act.put, List.setIfInBounds_toArray, List.set_cons_zero, List.set_cons_succ]
        refine wpAnyH_ready (rs := [13]) (by kernel_rfl) (by simp) ?_
        refine AllReadyH.cons (o := { dst := none, op := Op.store 62 (Operand.tmp 42) (Operand.tmp 40), type := 0, pos := "queuing.go:44", after := #[{ on := 12, ground := Ground.data }, { on := 10, ground := Ground.data }, { on := 10, ground := Ground.chain }, { on := 0, ground := Ground.phase }, { on := 1, ground := Ground.phase }, { on := 2, ground := Ground.phase }, { on := 3, ground := Ground.phase }, { on := 4, ground := Ground.phase }, { on := 5, ground := Ground.phase }, { on := 6, ground := Ground.phase }, { on := 7, ground := Ground.phase }, { on := 8, ground := Ground.phase }, { on := 9, ground := Ground.phase }, { on := 10, ground := Ground.phase }], guard := none }) rfl (fun K hK => ?_) AllReadyH.nil
        rw [if_pos (by rfl)]
        go_simp
        refine hK.out _ _ trivial (fun HSX => ?_)
        clear hK K
        refine wpAnyH_done (by kernel_rfl) ?_ _
        exact hQ _ _ _ _ _ _ _ _ hR
    · rw [if_pos (by rfl)]
      go_simp
      refine hK.out _ _ trivial (fun HSX => ?_)
      clear hK K
      refine wpAnyH_ready (rs := [4]) (by kernel_rfl) (by simp) ?_
      refine (AllReadyH.cons (o := { dst := some 34, op := Op.load 62 (Operand.tmp 33), type := 62, pos := "queuing.go:44", after := #[{ on := 3, ground := Ground.data }], guard := none }) rfl (fun K hK => ?_) AllReadyH.nil)
      · rw [if_pos (by rfl)]
        go_simp
        refine hK.out _ _ trivial (fun HSX => ?_)
        clear hK K
        refine wpAnyH_ready (rs := [10]) (by kernel_rfl) (by simp) ?_
        refine AllReadyH.cons (o := { dst := some 40, op := Op.call { callee := Callee.builtin Builtin.append, args := #[Operand.tmp 34, Operand.tmp 39], argTypes := #[62, 62] }, type := 62, pos := "queuing.go:44", after := #[{ on := 4, ground := Ground.data }, { on := 9, ground := Ground.data }, { on := 8, ground := Ground.chain }], guard := none }) rfl (fun K hK => ?_) AllReadyH.nil
        refine step_app rfl (.tmp 34) (.tmp 39) 62 62 rfl _ _ (.slice a2 n2 c2) w2 rfl rfl hr ?_
        simp only [Act.put, List.setIfInBounds_toArray, List.set_cons_zero, List.set_cons_succ]
        refine hK.out _ _ trivial (fun HSX => ?_)
        clear hK K
        refine wpAnyH_take (i := 11) (oi := { dst := some 41, op := Op.nilCheck (Operand.tmp 30), type := 0, pos := "queuing.go:44", after := #[{ on := 0, ground := Ground.data }, { on := 0, ground := Ground.phase }, { on := 1, ground := Ground.phase }, { on := 2, ground := Ground.phase }, { on := 3, ground := Ground.phase }, { on := 4, ground := Ground.phase }, { on := 5, ground := Ground.phase }, { on := 6, ground := Ground.phase }, { on := 7, ground := Ground.phase }, { on := 8, ground := Ground.phase }, { on := 9, ground := Ground.phase }, { on := 10, ground := Ground.phase }], guard := none }) (v := .pointer (some ⟨B, 0, none⟩)) rfl (by kernel_rfl) (by kernel_rfl) (by kernel_rfl) (fun _ _ _ h => hPan _ _ _ _ _ h) (Or.inl ⟨by rfl, ?_⟩) HSX ?_
        · intro wx d0
          skip
          go_simp
        simp only [Act.put, List.setIfInBounds_toArray, List.set_cons_zero, List.set_cons_succ]
        refine wpAnyH_take (i := 12) (oi := { dst := some 42, op := Op.fieldAddr 71 (Operand.tmp 41) 3, type := 0, pos := "queuing.go:44", after := #[{ on := 11, ground := Ground.data }, { on := 0, ground := Ground.phase }, { on := 1, ground := Ground.phase }, { on := 2, ground := Ground.phase }, { on := 3, ground := Ground.phase }, { on := 4, ground := Ground.phase }, { on := 5, ground := Ground.phase }, { on := 6, ground := Ground.phase }, { on := 7, ground := Ground.phase }, { on := 8, ground := Ground.phase }, { on := 9, ground := Ground.phase }, { on := 10, ground := Ground.phase }], guard := none }) (v := .pointer (some ⟨B, 10, none⟩)) rfl (by kernel_rfl) (by kernel_rfl) (by kernel_rfl) (fun _ _ _ h => hPan _ _ _ _ _ h) (Or.inl ⟨by rfl, ?_⟩) HSX ?_
        · intro wx d0
          skip
          go_simp
        simp only [Act.put, List.setIfInBounds_toArray, List.set_cons_zero, List.set_cons_succ]
        refine wpAnyH_ready (rs := [13]) (by kernel_rfl) (by simp) ?_
        refine AllReadyH.cons (o := { dst := none, op := Op.store 62 (Operand.tmp 42) (Operand.tmp 40), type := 0, pos := "queuing.go:44", after := #[{ on := 12, ground := Ground.data }, { on := 10, ground := Ground.data }, { on := 10, ground := Ground.chain }, { on := 0, ground := Ground.phase }, { on := 1, ground := Ground.phase }, { on := 2, ground := Ground.phase }, { on := 3, ground := Ground.phase }, { on := 4, ground := Ground.phase }, { on := 5, ground := Ground.phase }, { on := 6, ground := Ground.phase }, { on := 7, ground := Ground.phase }, { on := 8, ground := Ground.phase }, { on := 9, ground := Ground.phase }, { on := 10, ground := Ground.phase }], guard := none }) rfl (fun K hK => ?_) AllReadyH.nil
        rw [if_pos (by rfl)]
        go_simp
        refine hK.out _ _ trivial (fun HSX => ?_)
        clear hK K
        refine wpAnyH_done (by kernel_rfl) ?_ _
        exact hQ _ _ _ _ _ _ _ _ hR
end Go.Proofs.Ytnblhaeojlpmmaa
