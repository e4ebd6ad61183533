import Derived.Test.YtgofjmhdgmfgfaaGreatDoorTk
namespace Go.Proofs.YtgofjmhdgmfgfaaGreatDoor
open Go.ChangeShapes Go.WideShapes Go.ChangeAt Go.RowKit
set_option linter.unusedVariables false

/-- While operands are put together. -/
structure PW (w : World) (B L : Nat) (iC lC : Array Value) (W : World) (v : Value) (xs : List ByteArray) : Prop where
  kp : Kp w W
  bi : W.heap[B]? = some (.cells iC 48 (0, 0))
  bl : W.heap[L]? = some (.cells lC 127 (0, 0))
  ow : OS W v xs
  nw : ∀ k, v.ownBlock = some k → w.heap.size ≤ k ∧ k ≠ B ∧ k ≠ L ∧ k < W.heap.size
theorem PW.call {w W W' : World} {B L : Nat} {iC lC : Array Value} {v : Value} {xs : List ByteArray} (h : PW w B L iC lC W v xs) (k : Kp W W') : PW w B L iC lC W' v xs :=
  ⟨Kp.trans h.kp k, Kp.heap k h.bi, Kp.heap k h.bl, Chg.owns k h.ow (fun _ _ x => x), fun i hi => ⟨(h.nw i hi).1, (h.nw i hi).2.1, (h.nw i hi).2.2.1, Nat.lt_of_lt_of_le (h.nw i hi).2.2.2 k.size⟩⟩
theorem PW.app {w W : World} {B L : Nat} {iC lC : Array Value} {v : Value} {xs : List ByteArray} (h : PW w B L iC lC W v xs) (s : ByteArray) (hl : xs.length < 100) :
    ∃ v' w', (Builtin.append_ #[39, 39] 39 #[v, .slice (some ⟨W.heap.size, 0, none⟩) 1 1]).run Tryz.prog (W.alloc (.cells #[.string s] 9)) = .ok v' w' ∧ PW w B L iC lC w' v' (xs ++ [s]) := by
  obtain ⟨v', w', hr, ho, hc, hLoc⟩ := app_str W v xs h.ow s hl
  refine ⟨v', w', hr, Chg.trans h.kp hc (fun i hi e => by have := (h.nw i e).1; omega), hc.heap h.bi (fun e => (h.nw _ e).2.1 rfl), hc.heap h.bl (fun e => (h.nw _ e).2.2.1 rfl), ho, fun k hk => ?_⟩
  have hk' : k < w'.heap.size := by
    rcases ho.2 with ⟨e, _⟩ | ⟨g, cap, cur, e, _, hg, _⟩
    · rw [e] at hk; cases hk
    · rw [e] at hk; cases hk; exact hp_lt hg
  rcases hLoc with e | ⟨k', e, hk2⟩
  · rw [e] at hk; exact ⟨(h.nw k hk).1, (h.nw k hk).2.1, (h.nw k hk).2.2.1, hk'⟩
  · rw [e] at hk; cases hk
    have h1 := h.kp.size
    have h2 := hp_lt h.bi
    have h3 := hp_lt h.bl
    simp at hk2
    exact ⟨by omega, by omega, by omega, hk'⟩
theorem step_val {P : Program} {ops : Array Oper} {o : Oper} {a : Act} {w w' : World} {v : Value} {K : Act → World → Prop} {Q : Exit → Act → World → Prop} {E : Prop} (hg : o.guard = none) (hr : (execOp a.eval o).run P w = .ok (.value v) w') (hK : K (a.put o.dst v) w') : if Region.wanted o (yielded ops a.tmps) = true then Oper.wp P o a w K Q else E := by
  have hw : Region.wanted o (yielded ops a.tmps) = true := by simp [Region.wanted, hg]
  rw [if_pos hw]
  unfold Oper.wp
  rw [hr]
  exact hK
theorem exec_app {o : Oper} {ev : Operand → Value} {w w' : World} {x y : Operand} {v u v' : Value} (ht : o.type = 39) (ho : o.op = .call { callee := .builtin .append, args := #[x, y], argTypes := #[39, 39] }) (hx : ev x = v) (hy : ev y = u) (hr : (Builtin.append_ #[39, 39] 39 #[v, u]).run Tryz.prog w = .ok v' w') : (execOp ev o).run Tryz.prog w = .ok (.value v') w' := by
  simp [execOp, ho, resolve, invoke, builtin, hx, hy, ht, hr, Result.andThen]
def ops26_10 : Array Oper := #[{ dst := some 46, op := Op.move (Operand.tmp 5), type := 39, pos := "text.go:37", after := #[], guard := none },
  { dst := some 47, op := Op.fieldAddr 48 (Operand.tmp 1) 4, type := 0, pos := "text.go:37", after := #[], guard := none },
  { dst := some 48, op := Op.load 21 (Operand.tmp 47), type := 21, pos := "text.go:37", after := #[{ on := 1, ground := Ground.data }], guard := none },
  { dst := some 49, op := Op.call { callee := Callee.value (Operand.func 75), args := #[Operand.tmp 48], argTypes := #[21] }, type := 9, pos := "text.go:37", after := #[{ on := 2, ground := Ground.data }], guard := none },
  { dst := some 50, op := Op.binOp BinOp.add 9 (Operand.tmp 49) (Operand.const (Value.string { data := #[40] })) 9, type := 9, pos := "text.go:37", after := #[{ on := 3, ground := Ground.data }], guard := none },
  { dst := some 51, op := Op.fieldAddr 48 (Operand.tmp 1) 2, type := 0, pos := "text.go:37", after := #[], guard := none },
  { dst := some 52, op := Op.load 5 (Operand.tmp 51), type := 5, pos := "text.go:37", after := #[{ on := 5, ground := Ground.data }], guard := none },
  { dst := some 53, op := Op.call { callee := Callee.value (Operand.func 74), args := #[Operand.tmp 52], argTypes := #[5] }, type := 9, pos := "text.go:37", after := #[{ on := 6, ground := Ground.data }, { on := 3, ground := Ground.chain }], guard := none },
  { dst := some 54, op := Op.binOp BinOp.add 9 (Operand.tmp 50) (Operand.tmp 53) 9, type := 9, pos := "text.go:37", after := #[{ on := 4, ground := Ground.data }, { on := 7, ground := Ground.data }], guard := none },
  { dst := some 55, op := Op.binOp BinOp.add 9 (Operand.tmp 54) (Operand.const (Value.string { data := #[41] })) 9, type := 9, pos := "text.go:37", after := #[{ on := 8, ground := Ground.data }], guard := none },
  { dst := some 56, op := Op.buildSlice 39 1 #[(0, Operand.tmp 55)], type := 39, pos := "text.go:37", after := #[{ on := 9, ground := Ground.data }], guard := none },
  { dst := some 57, op := Op.call { callee := Callee.builtin Builtin.append, args := #[Operand.tmp 46, Operand.tmp 56], argTypes := #[39, 39] }, type := 39, pos := "text.go:37", after := #[{ on := 0, ground := Ground.data }, { on := 10, ground := Ground.data }, { on := 7, ground := Ground.chain }], guard := none },
  { dst := some 2, op := Op.assign (Operand.tmp 57), type := 39, pos := "text.go:37", after := #[{ on := 11, ground := Ground.data }, { on := 11, ground := Ground.chain }, { on := 0, ground := Ground.phase }, { on := 1, ground := Ground.phase }, { on := 2, ground := Ground.phase }, { on := 3, ground := Ground.phase }, { on := 4, ground := Ground.phase }, { on := 5, ground := Ground.phase }, { on := 6, ground := Ground.phase }, { on := 7, ground := Ground.phase }, { on := 8, ground := Ground.phase }, { on := 9, ground := Ground.phase }, { on := 10, ground := Ground.phase }, { on := 11, ground := Ground.phase }], guard := none }]

set_option maxHeartbeats 4000000 in
set_option maxRecDepth 100000 in
theorem reg26_10 (w W : World) (B L : Nat) (iC lC : Array Value) (v : Value) (xs : List ByteArray) (P : PW w B L iC lC W v xs) (hl : xs.length < 100) (n a : Int) (h4 : iC[4]? = some (.int .i32 n)) (h2 : iC[2]? = some (.int .u8 a)) (t1 t2 t3 : ByteArray)
    (hN : ∀ V, Kp W V → Calls Tryz.prog 75 #[.int .i32 n] V fun e w' => e = .returned (.string t1) ∧ Kp V w')
    (hR : ∀ V, Kp W V → Calls Tryz.prog 74 #[.int .u8 a] V fun e w' => e = .returned (.string t2) ∧ Kp V w')
    (ht : t1 ++ ⟨#[40]⟩ ++ t2 ++ ⟨#[41]⟩ = t3) (s1 : t1.size ≤ 30) (s2 : t2.size ≤ 30)
    (Q : Exit → Act → World → Prop) (hPan : ∀ c (a : Act) w (d : Option Tmp) v, Q (.panic c) (a.put d v) w → Q (.panic c) a w) {u0 u2 u3 u4 u6 u7 u8 u9 u10 u11 u12 u13 u14 u15 u16 u17 u18 u19 u20 u21 u22 u23 u24 u25 u26 u27 u28 u29 u30 u31 u32 u33 u34 u35 u36 u37 u38 u39 u40 u41 u42 u43 u44 u45 u46 u47 u48 u49 u50 u51 u52 u53 u54 u55 u56 u57 u58 u59 u60 u61 u62 u63 u64 u65 u66 u67 : Value}
    (hQ : ∀ (V : World) (v' : Value) (w' : World), PW w B L iC lC w' v' (xs ++ [t3]) → Q .normal ⟨#[u0, .pointer (some ⟨B, 0, none⟩), v', u3, u4, v, u6, u7, u8, u9, u10, u11, u12, u13, u14, u15, u16, u17, u18, u19, u20, u21, u22, u23, u24, u25, u26, u27, u28, u29, u30, u31, u32, u33, u34, u35, u36, u37, u38, u39, u40, u41, u42, u43, u44, u45, v, .pointer (some ⟨B, 4, none⟩), .int .i32 n, .string t1, .string (t1 ++ ⟨#[40]⟩), .pointer (some ⟨B, 2, none⟩), .int .u8 a, .string t2, .string (t1 ++ ⟨#[40]⟩ ++ t2), .string t3, .slice (some ⟨V.heap.size, 0, none⟩) 1 1, v', u58, u59, u60, u61, u62, u63, u64, u65, u66, u67], []⟩ w') :
    Code.wp Tryz.prog (Code.region 10 ops26_10 true) Q ⟨#[u0, .pointer (some ⟨B, 0, none⟩), u2, u3, u4, v, u6, u7, u8, u9, u10, u11, u12, u13, u14, u15, u16, u17, u18, u19, u20, u21, u22, u23, u24, u25, u26, u27, u28, u29, u30, u31, u32, u33, u34, u35, u36, u37, u38, u39, u40, u41, u42, u43, u44, u45, u46, u47, u48, u49, u50, u51, u52, u53, u54, u55, u56, u57, u58, u59, u60, u61, u62, u63, u64, u65, u66, u67], []⟩ W := by
  have HS : ∀ V, Kp W V → V.cell? ⟨B, 4, none⟩ = some (.int .i32 n) ∧ V.cell? ⟨B, 2, none⟩ = some (.int .u8 a) := fun V k => by
    have g := Kp.heap k P.bi
    exact ⟨by rw [(cells_at g 4).1]; exact h4, by rw [(cells_at g 2).1]; exact h2⟩
  have z1 : ¬ 9223372036854775807 < t1.size + 1 := by omega
  have z2 : ¬ 9223372036854775807 < (t1 ++ ⟨#[40]⟩).size + t2.size := by
    have : (t1 ++ ⟨#[40]⟩).size = t1.size + 1 := by simp [ByteArray.size_append]; rfl
    omega
  have z3 : ¬ 9223372036854775807 < (t1 ++ ⟨#[40]⟩ ++ t2).size + 1 := by
    have : (t1 ++ ⟨#[40]⟩ ++ t2).size = t1.size + 1 + t2.size := by simp [ByteArray.size_append]; rfl
    omega
  refine wp_region_held_drew (S := fun w' => w'.cell? ⟨B, 4, none⟩ = some (.int .i32 n) ∧ w'.cell? ⟨B, 2, none⟩ = some (.int .u8 a)) hmx (HS _ (Chg.refl _ _).drew) (fun hS => ?_)
  refine wpAnyH_take (i := 0) (oi := { dst := some 46, op := Op.move (Operand.tmp 5), type := 39, pos := "text.go:37", after := #[], guard := none }) (v := v) rfl (by kernel_rfl) (by kernel_rfl) (by kernel_rfl) (fun _ _ _ h => hPan _ _ _ _ _ h) (Or.inl ⟨by rfl, ?_⟩) hS ?_
  · rintro wx ⟨d0, d1⟩
    go_simp
  simp only [Act.put, List.setIfInBounds_toArray, List.set_cons_zero, List.set_cons_succ]
  refine wpAnyH_take (i := 1) (oi := { dst := some 47, op := Op.fieldAddr 48 (Operand.tmp 1) 4, type := 0, pos := "text.go:37", after := #[], guard := none }) (v := .pointer (some ⟨B, 4, none⟩)) rfl (by kernel_rfl) (by kernel_rfl) (by kernel_rfl) (fun _ _ _ h => hPan _ _ _ _ _ h) (Or.inl ⟨by rfl, ?_⟩) hS ?_
  · rintro wx ⟨d0, d1⟩
    go_simp
  simp only [Act.put, List.setIfInBounds_toArray, List.set_cons_zero, List.set_cons_succ]
  refine wpAnyH_take (i := 2) (oi := { dst := some 48, op := Op.load 21 (Operand.tmp 47), type := 21, pos := "text.go:37", after := #[{ on := 1, ground := Ground.data }], guard := none }) (v := .int .i32 n) rfl (by kernel_rfl) (by kernel_rfl) (by kernel_rfl) (fun _ _ _ h => hPan _ _ _ _ _ h) (Or.inl ⟨by rfl, ?_⟩) hS ?_
  · rintro wx ⟨d0, d1⟩
    go_simp
  simp only [Act.put, List.setIfInBounds_toArray, List.set_cons_zero, List.set_cons_succ]
  refine wpAnyH_take (i := 5) (oi := { dst := some 51, op := Op.fieldAddr 48 (Operand.tmp 1) 2, type := 0, pos := "text.go:37", after := #[], guard := none }) (v := .pointer (some ⟨B, 2, none⟩)) rfl (by kernel_rfl) (by kernel_rfl) (by kernel_rfl) (fun _ _ _ h => hPan _ _ _ _ _ h) (Or.inl ⟨by rfl, ?_⟩) hS ?_
  · rintro wx ⟨d0, d1⟩
    go_simp
  simp only [Act.put, List.setIfInBounds_toArray, List.set_cons_zero, List.set_cons_succ]
  refine wpAnyH_take (i := 6) (oi := { dst := some 52, op := Op.load 5 (Operand.tmp 51), type := 5, pos := "text.go:37", after := #[{ on := 5, ground := Ground.data }], guard := none }) (v := .int .u8 a) rfl (by kernel_rfl) (by kernel_rfl) (by kernel_rfl) (fun _ _ _ h => hPan _ _ _ _ _ h) (Or.inl ⟨by rfl, ?_⟩) hS ?_
  · rintro wx ⟨d0, d1⟩
    go_simp
  simp only [Act.put, List.setIfInBounds_toArray, List.set_cons_zero, List.set_cons_succ]
  refine wpAnyH_ready (rs := [3]) (by kernel_rfl) (by simp) ?_
  refine AllReadyH.cons (o := { dst := some 49, op := Op.call { callee := Callee.value (Operand.func 75), args := #[Operand.tmp 48], argTypes := #[21] }, type := 9, pos := "text.go:37", after := #[{ on := 2, ground := Ground.data }], guard := none }) rfl (fun K hK => ?_) AllReadyH.nil
  rw [if_pos (by rfl)]
  go_simp
  go_at_call 75
  with_reducible refine (hN _ (Chg.refl W _).drew).mono ?_
  rintro e w1 ⟨rfl, k1⟩
  go_simp
  have kk1 : Kp W w1 := Kp.trans ((Chg.refl W _).drew) k1
  refine hK.out _ _ (HS _ kk1) (fun hS1 => ?_)
  clear hK K
  refine wpAnyH_take (i := 4) (oi := { dst := some 50, op := Op.binOp BinOp.add 9 (Operand.tmp 49) (Operand.const (Value.string { data := #[40] })) 9, type := 9, pos := "text.go:37", after := #[{ on := 3, ground := Ground.data }], guard := none }) (v := .string (t1 ++ ⟨#[40]⟩)) rfl (by kernel_rfl) (by kernel_rfl) (by kernel_rfl) (fun _ _ _ h => hPan _ _ _ _ _ h) (Or.inl ⟨by rfl, ?_⟩) hS1 ?_
  · rintro wx ⟨d0, d1⟩
    go_simp
  simp only [Act.put, List.setIfInBounds_toArray, List.set_cons_zero, List.set_cons_succ]
  refine wpAnyH_ready (rs := [7]) (by kernel_rfl) (by simp) ?_
  refine AllReadyH.cons (o := { dst := some 53, op := Op.call { callee := Callee.value (Operand.func 74), args := #[Operand.tmp 52], argTypes := #[5] }, type := 9, pos := "text.go:37", after := #[{ on := 6, ground := Ground.data }, { on := 3, ground := Ground.chain }], guard := none }) rfl (fun K hK => ?_) AllReadyH.nil
  rw [if_pos (by rfl)]
  go_simp
  go_at_call 74
  with_reducible refine (hR _ kk1).mono ?_
  rintro e w2 ⟨rfl, k2⟩
  go_simp
  have kk2 : Kp W w2 := Kp.trans kk1 k2
  refine hK.out _ _ (HS _ kk2) (fun hS2 => ?_)
  clear hK K
  refine wpAnyH_take (i := 8) (oi := { dst := some 54, op := Op.binOp BinOp.add 9 (Operand.tmp 50) (Operand.tmp 53) 9, type := 9, pos := "text.go:37", after := #[{ on := 4, ground := Ground.data }, { on := 7, ground := Ground.data }], guard := none }) (v := .string (t1 ++ ⟨#[40]⟩ ++ t2)) rfl (by kernel_rfl) (by kernel_rfl) (by kernel_rfl) (fun _ _ _ h => hPan _ _ _ _ _ h) (Or.inl ⟨by rfl, ?_⟩) hS2 ?_
  · rintro wx ⟨d0, d1⟩
    go_simp
    omega
  simp only [Act.put, List.setIfInBounds_toArray, List.set_cons_zero, List.set_cons_succ]
  refine wpAnyH_take (i := 9) (oi := { dst := some 55, op := Op.binOp BinOp.add 9 (Operand.tmp 54) (Operand.const (Value.string { data := #[41] })) 9, type := 9, pos := "text.go:37", after := #[{ on := 8, ground := Ground.data }], guard := none }) (v := .string t3) rfl (by kernel_rfl) (by kernel_rfl) (by kernel_rfl) (fun _ _ _ h => hPan _ _ _ _ _ h) (Or.inl ⟨by rfl, ?_⟩) hS2 ?_
  · rintro wx ⟨d0, d1⟩
    rw [← ht]
    go_simp
    omega
  simp only [Act.put, List.setIfInBounds_toArray, List.set_cons_zero, List.set_cons_succ]
  refine wpAnyH_ready (rs := [10]) (by kernel_rfl) (by simp) ?_
  refine AllReadyH.cons (o := { dst := some 56, op := Op.buildSlice 39 1 #[(0, Operand.tmp 55)], type := 39, pos := "text.go:37", after := #[{ on := 9, ground := Ground.data }], guard := none }) rfl (fun K hK => ?_) AllReadyH.nil
  rw [if_pos (by rfl)]
  go_simp
  have kA : Kp W (w2.alloc (.cells #[.string t3] 9)) := kk2.alloc _
  refine hK.out _ _ (HS _ kA) (fun hS3 => ?_)
  clear hK K
  obtain ⟨v', w', hr, PN⟩ := (P.call kk2).app t3 hl
  refine wpAnyH_ready (rs := [11]) (by kernel_rfl) (by simp) ?_
  refine AllReadyH.cons (o := { dst := some 57, op := Op.call { callee := Callee.builtin Builtin.append, args := #[Operand.tmp 46, Operand.tmp 56], argTypes := #[39, 39] }, type := 39, pos := "text.go:37", after := #[{ on := 0, ground := Ground.data }, { on := 10, ground := Ground.data }, { on := 7, ground := Ground.chain }], guard := none }) rfl (fun K hK => ?_) AllReadyH.nil
  refine step_val rfl (exec_app rfl rfl rfl rfl hr) ?_
  simp only [Act.put, List.setIfInBounds_toArray, List.set_cons_zero, List.set_cons_succ]
  have hS4 : w'.cell? ⟨B, 4, none⟩ = some (.int .i32 n) ∧ w'.cell? ⟨B, 2, none⟩ = some (.int .u8 a) := ⟨by rw [(cells_at PN.bi 4).1]; exact h4, by rw [(cells_at PN.bi 2).1]; exact h2⟩
  refine hK.out _ _ hS4 (fun _ => ?_)
  clear hK K
  refine wpAnyH_take (i := 12) (oi := { dst := some 2, op := Op.assign (Operand.tmp 57), type := 39, pos := "text.go:37", after := #[{ on := 11, ground := Ground.data }, { on := 11, ground := Ground.chain }, { on := 0, ground := Ground.phase }, { on := 1, ground := Ground.phase }, { on := 2, ground := Ground.phase }, { on := 3, ground := Ground.phase }, { on := 4, ground := Ground.phase }, { on := 5, ground := Ground.phase }, { on := 6, ground := Ground.phase }, { on := 7, ground := Ground.phase }, { on := 8, ground := Ground.phase }, { on := 9, ground := Ground.phase }, { on := 10, ground := Ground.phase }, { on := 11, ground := Ground.phase }], guard := none }) (v := v') rfl (by kernel_rfl) (by kernel_rfl) (by kernel_rfl) (fun _ _ _ h => hPan _ _ _ _ _ h) (Or.inl ⟨by rfl, ?_⟩) hS4 ?_
  · rintro wx ⟨d0, d1⟩
    go_simp
  simp only [Act.put, List.setIfInBounds_toArray, List.set_cons_zero, List.set_cons_succ]
  refine wpAnyH_done (by kernel_rfl) ?_ _
  exact hQ w2 v' w' PN
end Go.Proofs.YtgofjmhdgmfgfaaGreatDoor
