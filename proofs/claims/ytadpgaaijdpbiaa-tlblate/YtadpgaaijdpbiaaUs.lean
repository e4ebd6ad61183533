import Derived.Test.YtadpgaaijdpbiaaUr
namespace Go.Proofs.Ytadpgaaijdpbiaa
open Go.ChangeShapes Go.WideShapes Go.ChangeAt Go.RowKit
set_option linter.unusedVariables false

/-- A tag in a variable of its own. -/
def Sx (b3 : Nat) (t : Tg) (wx : World) : Prop := wx.cell? ⟨b3, 0, none⟩ = some (.int .i64 t.1) ∧ wx.cell? ⟨b3, 1, none⟩ = some (.int .u32 ((t.2 : Nat) : Int))

def ops31_4 : Array Oper := #[
  { dst := some 16, op := Op.move (Operand.tmp 0), type := 97, pos := "order.go:17", after := #[], guard := none },
  { dst := some 17, op := Op.move (Operand.tmp 0), type := 97, pos := "order.go:17", after := #[], guard := none },
  { dst := some 18, op := Op.nilCheck (Operand.tmp 17), type := 0, pos := "order.go:17", after := #[{ on := 1, ground := Ground.data }], guard := none },
  { dst := some 19, op := Op.load 83 (Operand.tmp 18), type := 83, pos := "order.go:17", after := #[{ on := 2, ground := Ground.data }], guard := none },
  { dst := some 20, op := Op.load 31 (Operand.tmp 3), type := 31, pos := "order.go:17", after := #[], guard := none },
  { dst := some 21, op := Op.buildSlice 83 1 #[(0, Operand.tmp 20)], type := 83, pos := "order.go:17", after := #[{ on := 4, ground := Ground.data }], guard := none },
  { dst := some 22, op := Op.call { callee := Callee.builtin Builtin.append, args := #[Operand.tmp 19, Operand.tmp 21], argTypes := #[83, 83] }, type := 83, pos := "order.go:17", after := #[{ on := 3, ground := Ground.data }, { on := 5, ground := Ground.data }], guard := none },
  { dst := some 23, op := Op.nilCheck (Operand.tmp 16), type := 0, pos := "order.go:17", after := #[{ on := 0, ground := Ground.data }, { on := 0, ground := Ground.phase }, { on := 1, ground := Ground.phase }, { on := 2, ground := Ground.phase }, { on := 3, ground := Ground.phase }, { on := 4, ground := Ground.phase }, { on := 5, ground := Ground.phase }, { on := 6, ground := Ground.phase }], guard := none },
  { dst := none, op := Op.store 83 (Operand.tmp 23) (Operand.tmp 22), type := 0, pos := "order.go:17", after := #[{ on := 7, ground := Ground.data }, { on := 6, ground := Ground.data }, { on := 6, ground := Ground.chain }, { on := 0, ground := Ground.phase }, { on := 1, ground := Ground.phase }, { on := 2, ground := Ground.phase }, { on := 3, ground := Ground.phase }, { on := 4, ground := Ground.phase }, { on := 5, ground := Ground.phase }, { on := 6, ground := Ground.phase }], guard := none }]

set_option maxHeartbeats 4000000 in
set_option maxRecDepth 100000 in
theorem reg31_4 (W W7 : World) (B b3 : Nat) (t : Tg) (v : Value) (g' n' cap' : Nat) (hap : (Builtin.append_ #[83, 83] 83 #[v, .slice (some ⟨W.heap.size, 0, none⟩) 1 1]).run Try.prog (W.drew.alloc (.cells #[.int .i64 t.1, .int .u32 ((t.2 : Nat) : Int)] 31)) = .ok (.slice (some ⟨g', 0, none⟩) n' cap') W7) (hv0 : W.drew.cell? ⟨B, 2, none⟩ = some v) (hva : (W.drew.alloc (.cells #[.int .i64 t.1, .int .u32 ((t.2 : Nat) : Int)] 31)).cell? ⟨B, 2, none⟩ = some v) (hS4 : Sx b3 t W.drew) (hSa : Sx b3 t (W.drew.alloc (.cells #[.int .i64 t.1, .int .u32 ((t.2 : Nat) : Int)] 31))) (hS7 : Sx b3 t W7) (hS8 : Sx b3 t (W7.setCell ⟨B, 2, none⟩ (.slice (some ⟨g', 0, none⟩) n' cap'))) (hc7 : ∃ z, W7.cell? ⟨B, 2, none⟩ = some z) (hf7 : W7.frozen? ⟨B, 2, none⟩ = false) (Q : Exit → Act → World → Prop) (hPan : ∀ c (a : Act) w (d : Option Tmp) v, Q (.panic c) (a.put d v) w → Q (.panic c) a w)
    (u1 u2 u4 u5 u6 u7 u8 u9 u10 u11 u12 u13 u14 u15 u16 u17 u18 u19 u20 u21 u22 u23 u24 u25 u26 u27 u28 u29 u30 u31 u32 u33 u34 u35 u36 u37 u38 : Value)
    (hQ : Q .normal ⟨#[.pointer (some ⟨B, 2, none⟩), u1, u2, .pointer (some ⟨b3, 0, none⟩), u4, u5, u6, u7, u8, u9, u10, u11, u12, u13, u14, u15, .pointer (some ⟨B, 2, none⟩), .pointer (some ⟨B, 2, none⟩), .pointer (some ⟨B, 2, none⟩), v, .agg #[.int .i64 t.1, .int .u32 ((t.2 : Nat) : Int)], .slice (some ⟨W.heap.size, 0, none⟩) 1 1, .slice (some ⟨g', 0, none⟩) n' cap', .pointer (some ⟨B, 2, none⟩), u24, u25, u26, u27, u28, u29, u30, u31, u32, u33, u34, u35, u36, u37, u38], []⟩ (W7.setCell ⟨B, 2, none⟩ (.slice (some ⟨g', 0, none⟩) n' cap'))) :
    Code.wp Try.prog (Code.region 4 ops31_4 true) Q ⟨#[.pointer (some ⟨B, 2, none⟩), u1, u2, .pointer (some ⟨b3, 0, none⟩), u4, u5, u6, u7, u8, u9, u10, u11, u12, u13, u14, u15, u16, u17, u18, u19, u20, u21, u22, u23, u24, u25, u26, u27, u28, u29, u30, u31, u32, u33, u34, u35, u36, u37, u38], []⟩ W := by
  obtain ⟨z7, hc7⟩ := hc7
  have hva2 : (W.alloc (.cells #[.int .i64 t.1, .int .u32 ((t.2 : Nat) : Int)] 31)).cell? ⟨B, 2, none⟩ = some v := hva
  refine wp_region_held_drew (S := Sx b3 t) hmx hS4 (fun hS => ?_)
  refine wpAnyH_take (i := 0) (oi := { dst := some 16, op := Op.move (Operand.tmp 0), type := 97, pos := "order.go:17", after := #[], guard := none }) (v := .pointer (some ⟨B, 2, none⟩)) rfl (by kernel_rfl) (by kernel_rfl) (by kernel_rfl) (fun _ _ _ h => hPan _ _ _ _ _ h) (Or.inl ⟨by rfl, ?_⟩) hS ?_
  · rintro wx ⟨d0, d1⟩
    go_simp
  simp only [Act.put, List.setIfInBounds_toArray, List.set_cons_zero, List.set_cons_succ]
  refine wpAnyH_take (i := 1) (oi := { dst := some 17, op := Op.move (Operand.tmp 0), type := 97, pos := "order.go:17", after := #[], guard := none }) (v := .pointer (some ⟨B, 2, none⟩)) rfl (by kernel_rfl) (by kernel_rfl) (by kernel_rfl) (fun _ _ _ h => hPan _ _ _ _ _ h) (Or.inl ⟨by rfl, ?_⟩) hS ?_
  · rintro wx ⟨d0, d1⟩
    go_simp
  simp only [Act.put, List.setIfInBounds_toArray, List.set_cons_zero, List.set_cons_succ]
  refine wpAnyH_take (i := 2) (oi := { dst := some 18, op := Op.nilCheck (Operand.tmp 17), type := 0, pos := "order.go:17", after := #[{ on := 1, ground := Ground.data }], guard := none }) (v := .pointer (some ⟨B, 2, none⟩)) rfl (by kernel_rfl) (by kernel_rfl) (by kernel_rfl) (fun _ _ _ h => hPan _ _ _ _ _ h) (Or.inl ⟨by rfl, ?_⟩) hS ?_
  · rintro wx ⟨d0, d1⟩
    go_simp
  simp only [Act.put, List.setIfInBounds_toArray, List.set_cons_zero, List.set_cons_succ]
  refine wpAnyH_take (i := 4) (oi := { dst := some 20, op := Op.load 31 (Operand.tmp 3), type := 31, pos := "order.go:17", after := #[], guard := none }) (v := .agg #[.int .i64 t.1, .int .u32 ((t.2 : Nat) : Int)]) rfl (by kernel_rfl) (by kernel_rfl) (by kernel_rfl) (fun _ _ _ h => hPan _ _ _ _ _ h) (Or.inl ⟨by rfl, ?_⟩) hS ?_
  · rintro wx ⟨d0, d1⟩
    go_simp
  simp only [Act.put, List.setIfInBounds_toArray, List.set_cons_zero, List.set_cons_succ]
  refine wpAnyH_ready (rs := [3, 5]) (by kernel_rfl) (by simp) ?_
  refine AllReadyH.cons (o := { dst := some 19, op := Op.load 83 (Operand.tmp 18), type := 83, pos := "order.go:17", after := #[{ on := 2, ground := Ground.data }], guard := none }) rfl (fun K hK => ?_) (AllReadyH.cons (o := { dst := some 21, op := Op.buildSlice 83 1 #[(0, Operand.tmp 20)], type := 83, pos := "order.go:17", after := #[{ on := 4, ground := Ground.data }], guard := none }) rfl (fun K hK => ?_) AllReadyH.nil)
  · rw [if_pos (by rfl)]
    go_simp
    refine hK.out _ _ hS4 (fun hS2 => ?_)
    clear hK K
    refine wpAnyH_ready (rs := [5]) (by kernel_rfl) (by simp) ?_
    refine AllReadyH.cons (o := { dst := some 21, op := Op.buildSlice 83 1 #[(0, Operand.tmp 20)], type := 83, pos := "order.go:17", after := #[{ on := 4, ground := Ground.data }], guard := none }) rfl (fun K hK => ?_) AllReadyH.nil
    rw [if_pos (by rfl)]
    go_simp
    refine hK.out _ _ hSa (fun hS3 => ?_)
    clear hK K
    refine wpAnyH_ready (rs := [6]) (by kernel_rfl) (by simp) ?_
    refine AllReadyH.cons (o := { dst := some 22, op := Op.call { callee := Callee.builtin Builtin.append, args := #[Operand.tmp 19, Operand.tmp 21], argTypes := #[83, 83] }, type := 83, pos := "order.go:17", after := #[{ on := 3, ground := Ground.data }, { on := 5, ground := Ground.data }], guard := none }) rfl (fun K hK => ?_) AllReadyH.nil
    rw [if_pos (by rfl)]
    refine step_append_run (.tmp 19) (.tmp 21) 83 83 rfl _ _ _ W7 rfl rfl hap ?_
    refine hK.out _ _ hS7 (fun hS5 => ?_)
    clear hK K
    simp only [Act.put, List.setIfInBounds_toArray, List.set_cons_zero, List.set_cons_succ]
    refine wpAnyH_take (i := 7) (oi := { dst := some 23, op := Op.nilCheck (Operand.tmp 16), type := 0, pos := "order.go:17", after := #[{ on := 0, ground := Ground.data }, { on := 0, ground := Ground.phase }, { on := 1, ground := Ground.phase }, { on := 2, ground := Ground.phase }, { on := 3, ground := Ground.phase }, { on := 4, ground := Ground.phase }, { on := 5, ground := Ground.phase }, { on := 6, ground := Ground.phase }], guard := none }) (v := .pointer (some ⟨B, 2, none⟩)) rfl (by kernel_rfl) (by kernel_rfl) (by kernel_rfl) (fun _ _ _ h => hPan _ _ _ _ _ h) (Or.inl ⟨by rfl, ?_⟩) hS5 ?_
    · rintro wx ⟨d0, d1⟩
      go_simp
    simp only [Act.put, List.setIfInBounds_toArray, List.set_cons_zero, List.set_cons_succ]
    refine wpAnyH_ready (rs := [8]) (by kernel_rfl) (by simp) ?_
    refine AllReadyH.cons (o := { dst := none, op := Op.store 83 (Operand.tmp 23) (Operand.tmp 22), type := 0, pos := "order.go:17", after := #[{ on := 7, ground := Ground.data }, { on := 6, ground := Ground.data }, { on := 6, ground := Ground.chain }, { on := 0, ground := Ground.phase }, { on := 1, ground := Ground.phase }, { on := 2, ground := Ground.phase }, { on := 3, ground := Ground.phase }, { on := 4, ground := Ground.phase }, { on := 5, ground := Ground.phase }, { on := 6, ground := Ground.phase }], guard := none }) rfl (fun K hK => ?_) AllReadyH.nil
    rw [if_pos (by rfl)]
    go_simp
    refine hK.out _ _ hS8 (fun hS6 => ?_)
    clear hK K
    refine wpAnyH_done (by kernel_rfl) ?_ _
    exact hQ
  · rw [if_pos (by rfl)]
    go_simp
    refine hK.out _ _ hSa (fun hS2 => ?_)
    clear hK K
    refine wpAnyH_ready (rs := [3]) (by kernel_rfl) (by simp) ?_
    refine AllReadyH.cons (o := { dst := some 19, op := Op.load 83 (Operand.tmp 18), type := 83, pos := "order.go:17", after := #[{ on := 2, ground := Ground.data }], guard := none }) rfl (fun K hK => ?_) AllReadyH.nil
    rw [if_pos (by rfl)]
    go_simp
    refine hK.out _ _ hSa (fun hS3 => ?_)
    clear hK K
    refine wpAnyH_ready (rs := [6]) (by kernel_rfl) (by simp) ?_
    refine AllReadyH.cons (o := { dst := some 22, op := Op.call { callee := Callee.builtin Builtin.append, args := #[Operand.tmp 19, Operand.tmp 21], argTypes := #[83, 83] }, type := 83, pos := "order.go:17", after := #[{ on := 3, ground := Ground.data }, { on := 5, ground := Ground.data }], guard := none }) rfl (fun K hK => ?_) AllReadyH.nil
    rw [if_pos (by rfl)]
    refine step_append_run (.tmp 19) (.tmp 21) 83 83 rfl _ _ _ W7 rfl rfl hap ?_
    refine hK.out _ _ hS7 (fun hS5 => ?_)
    clear hK K
    simp only [Act.put, List.setIfInBounds_toArray, List.set_cons_zero, List.set_cons_succ]
    refine wpAnyH_take (i := 7) (oi := { dst := some 23, op := Op.nilCheck (Operand.tmp 16), type := 0, pos := "order.go:17", after := #[{ on := 0, ground := Ground.data }, { on := 0, ground := Ground.phase }, { on := 1, ground := Ground.phase }, { on := 2, ground := Ground.phase }, { on := 3, ground := Ground.phase }, { on := 4, ground := Ground.phase }, { on := 5, ground := Ground.phase }, { on := 6, ground := Ground.phase }], guard := none }) (v := .pointer (some ⟨B, 2, none⟩)) rfl (by kernel_rfl) (by kernel_rfl) (by kernel_rfl) (fun _ _ _ h => hPan _ _ _ _ _ h) (Or.inl ⟨by rfl, ?_⟩) hS5 ?_
    · rintro wx ⟨d0, d1⟩
      go_simp
    simp only [Act.put, List.setIfInBounds_toArray, List.set_cons_zero, List.set_cons_succ]
    refine wpAnyH_ready (rs := [8]) (by kernel_rfl) (by simp) ?_
    refine AllReadyH.cons (o := { dst := none, op := Op.store 83 (Operand.tmp 23) (Operand.tmp 22), type := 0, pos := "order.go:17", after := #[{ on := 7, ground := Ground.data }, { on := 6, ground := Ground.data }, { on := 6, ground := Ground.chain }, { on := 0, ground := Ground.phase }, { on := 1, ground := Ground.phase }, { on := 2, ground := Ground.phase }, { on := 3, ground := Ground.phase }, { on := 4, ground := Ground.phase }, { on := 5, ground := Ground.phase }, { on := 6, ground := Ground.phase }], guard := none }) rfl (fun K hK => ?_) AllReadyH.nil
    rw [if_pos (by rfl)]
    go_simp
    refine hK.out _ _ hS8 (fun hS6 => ?_)
    clear hK K
    refine wpAnyH_done (by kernel_rfl) ?_ _
    exact hQ
end Go.Proofs.Ytadpgaaijdpbiaa
