import Derived.Test.YtadpgaaijdpbiaaQg
import Derived.Test.YtadpgaaijdpbiaaLx
namespace Go.Proofs.Ytadpgaaijdpbiaa
open Go.ChangeShapes Go.WideShapes Go.ChangeAt Go.RowKit Go.Shelf
set_option linter.unusedVariables false

/-- An append told by its run, as one step of a region that draws. -/
theorem step_append_run54 {P : Program} {ops : Array Oper} {o : Oper} {a : Act} {w : World} {K : Act → World → Prop} {Q : Exit → Act → World → Prop} {E : Prop} (hg : o.guard = none) (s x : Operand) (t u : TypeId)
    (ho : o.op = .call { callee := .builtin .append, args := #[s, x], argTypes := #[t, u] }) (v y v' : Value) (w' : World)
    (hs : a.eval s = v) (hx : a.eval x = y) (hrun : (Builtin.append_ #[t, u] o.type #[v, y]).run P w = .ok v' w')
    (hK : K (a.put o.dst v') w') : if Region.wanted o (yielded ops a.tmps) = true then Oper.wp P o a w K Q else E := by
  have hw : Region.wanted o (yielded ops a.tmps) = true := by simp [Region.wanted, hg]
  rw [if_pos hw]
  unfold Oper.wp
  simp [execOp, ho, resolve, invoke, builtin, hs, hx, hrun, Result.andThen]
  exact hK
def S54 (g o : Nat) (x : Sl4) (wx : World) : Prop := wx.cell? ⟨g, o, none⟩ = some (.int .i64 x.1.1) ∧ wx.cell? ⟨g, o + 1, none⟩ = some (.int .u32 ((x.1.2 : Nat) : Int)) ∧ wx.cell? ⟨g, o + 2, none⟩ = some (.int .u32 ((x.2.1 : Nat) : Int)) ∧ wx.cell? ⟨g, o + 3, none⟩ = some (.int .u8 ((x.2.2 : Nat) : Int))
def ops54 : Array Oper := #[
  { dst := some 38, op := Op.move (Operand.tmp 6), type := 70, pos := "ref.go:38", after := #[], guard := none }, { dst := some 39, op := Op.move (Operand.tmp 6), type := 70, pos := "ref.go:38", after := #[], guard := none }, { dst := some 40, op := Op.nilCheck (Operand.tmp 39), type := 0, pos := "ref.go:38", after := #[{ on := 1, ground := Ground.data }], guard := none }, { dst := some 41, op := Op.fieldAddr 80 (Operand.tmp 40) 1, type := 0, pos := "ref.go:38", after := #[{ on := 2, ground := Ground.data }], guard := none }, { dst := some 42, op := Op.load 55 (Operand.tmp 41), type := 55, pos := "ref.go:38", after := #[{ on := 3, ground := Ground.data }], guard := none }, { dst := some 43, op := Op.move (Operand.tmp 1), type := 55, pos := "ref.go:38", after := #[], guard := none }, { dst := some 44, op := Op.move (Operand.tmp 8), type := 3, pos := "ref.go:38", after := #[], guard := none }, { dst := some 45, op := Op.indexAddr 55 (Operand.tmp 43) (Operand.tmp 44), type := 0, pos := "ref.go:38", after := #[{ on := 5, ground := Ground.data }, { on := 6, ground := Ground.data }], guard := none }, { dst := some 46, op := Op.load 58 (Operand.tmp 45), type := 58, pos := "ref.go:38", after := #[{ on := 7, ground := Ground.data }], guard := none }, { dst := some 47, op := Op.buildSlice 55 1 #[(0, Operand.tmp 46)], type := 55, pos := "ref.go:38", after := #[{ on := 8, ground := Ground.data }], guard := none }, { dst := some 48, op := Op.call { callee := Callee.builtin Builtin.append, args := #[Operand.tmp 42, Operand.tmp 47], argTypes := #[55, 55] }, type := 55, pos := "ref.go:38", after := #[{ on := 4, ground := Ground.data }, { on := 9, ground := Ground.data }], guard := none }, { dst := some 49, op := Op.nilCheck (Operand.tmp 38), type := 0, pos := "ref.go:38", after := #[{ on := 0, ground := Ground.data }, { on := 0, ground := Ground.phase }, { on := 1, ground := Ground.phase }, { on := 2, ground := Ground.phase }, { on := 3, ground := Ground.phase }, { on := 4, ground := Ground.phase }, { on := 5, ground := Ground.phase }, { on := 6, ground := Ground.phase }, { on := 7, ground := Ground.phase }, { on := 8, ground := Ground.phase }, { on := 9, ground := Ground.phase }, { on := 10, ground := Ground.phase }], guard := none }, { dst := some 50, op := Op.fieldAddr 80 (Operand.tmp 49) 1, type := 0, pos := "ref.go:38", after := #[{ on := 11, ground := Ground.data }, { on := 0, ground := Ground.phase }, { on := 1, ground := Ground.phase }, { on := 2, ground := Ground.phase }, { on := 3, ground := Ground.phase }, { on := 4, ground := Ground.phase }, { on := 5, ground := Ground.phase }, { on := 6, ground := Ground.phase }, { on := 7, ground := Ground.phase }, { on := 8, ground := Ground.phase }, { on := 9, ground := Ground.phase }, { on := 10, ground := Ground.phase }], guard := none }, { dst := none, op := Op.store 55 (Operand.tmp 50) (Operand.tmp 48), type := 0, pos := "ref.go:38", after := #[{ on := 12, ground := Ground.data }, { on := 10, ground := Ground.data }, { on := 10, ground := Ground.chain }, { on := 0, ground := Ground.phase }, { on := 1, ground := Ground.phase }, { on := 2, ground := Ground.phase }, { on := 3, ground := Ground.phase }, { on := 4, ground := Ground.phase }, { on := 5, ground := Ground.phase }, { on := 6, ground := Ground.phase }, { on := 7, ground := Ground.phase }, { on := 8, ground := Ground.phase }, { on := 9, ground := Ground.phase }, { on := 10, ground := Ground.phase }], guard := none }]
set_option maxHeartbeats 4000000 in
set_option maxRecDepth 100000 in
theorem reg54 (W W' : World) (C g1 o1 L cap j : Nat) (x : Sl4) (lv v' : Value) (hjz : (j : Int) < (L : Int)) (Q : Exit → Act → World → Prop)
    (u0 u2 u3 u4 u5 u7 u9 u10 u11 u12 u13 u14 u15 u16 u17 u18 u19 u20 u21 u22 u23 u24 u25 u26 u27 u28 u29 u30 u31 u32 u33 u34 u35 u36 u37 u38 u39 u40 u41 u42 u43 u44 u45 u46 u47 u48 u49 u50 u51 : Value)
    (c0 : W.cell? ⟨C, 1, none⟩ = some lv) (c1 : (W.alloc (.cells #[.int .i64 x.1.1, .int .u32 ((x.1.2 : Nat) : Int), .int .u32 ((x.2.1 : Nat) : Int), .int .u8 ((x.2.2 : Nat) : Int)] 58)).cell? ⟨C, 1, none⟩ = some lv) (hlv : ∃ a b c, lv = .slice a b c) (hv' : ∃ a b c, v' = .slice (some a) b c)
    (hS : S54 g1 (o1 + j * 4) x W.drew) (hSa : S54 g1 (o1 + j * 4) x (W.alloc (.cells #[.int .i64 x.1.1, .int .u32 ((x.1.2 : Nat) : Int), .int .u32 ((x.2.1 : Nat) : Int), .int .u8 ((x.2.2 : Nat) : Int)] 58)).drew) (hSb : S54 g1 (o1 + j * 4) x W') (hSc : S54 g1 (o1 + j * 4) x (W'.setCell ⟨C, 1, none⟩ v'))
    (hr : (Builtin.append_ #[55, 55] 55 #[lv, .slice (some ⟨W.heap.size, 0, none⟩) 1 1]).run Try.prog (W.alloc (.cells #[.int .i64 x.1.1, .int .u32 ((x.1.2 : Nat) : Int), .int .u32 ((x.2.1 : Nat) : Int), .int .u8 ((x.2.2 : Nat) : Int)] 58)).drew = .ok v' W')
    (k4 : ∃ z, W'.cell? ⟨C, 1, none⟩ = some z) (k4f : W'.frozen? ⟨C, 1, none⟩ = false)
    (hQ0 : Q .normal ⟨#[u0, .slice (some ⟨g1, o1, none⟩) L cap, u2, u3, u4, u5, .pointer (some ⟨C, 0, none⟩), u7, .int .i64 ((j : Nat) : Int), u9, u10, u11, u12, u13, u14, u15, u16, u17, u18, u19, u20, u21, u22, u23, u24, u25, u26, u27, u28, u29, u30, u31, u32, u33, u34, u35, u36, u37, .pointer (some ⟨C, 0, none⟩), .pointer (some ⟨C, 0, none⟩), .pointer (some ⟨C, 0, none⟩), .pointer (some ⟨C, 1, none⟩), lv, .slice (some ⟨g1, o1, none⟩) L cap, .int .i64 ((j : Nat) : Int), .pointer (some ⟨g1, o1 + j * 4, none⟩), .agg #[.int .i64 x.1.1, .int .u32 ((x.1.2 : Nat) : Int), .int .u32 ((x.2.1 : Nat) : Int), .int .u8 ((x.2.2 : Nat) : Int)], .slice (some ⟨W.heap.size, 0, none⟩) 1 1, v', .pointer (some ⟨C, 0, none⟩), .pointer (some ⟨C, 1, none⟩), u51], []⟩ (W'.setCell ⟨C, 1, none⟩ v')) :
    Code.wp Try.prog (Code.region 10 ops54 true) Q ⟨#[u0, .slice (some ⟨g1, o1, none⟩) L cap, u2, u3, u4, u5, .pointer (some ⟨C, 0, none⟩), u7, .int .i64 ((j : Nat) : Int), u9, u10, u11, u12, u13, u14, u15, u16, u17, u18, u19, u20, u21, u22, u23, u24, u25, u26, u27, u28, u29, u30, u31, u32, u33, u34, u35, u36, u37, u38, u39, u40, u41, u42, u43, u44, u45, u46, u47, u48, u49, u50, u51], []⟩ W := by
  refine wp_ok ?_
  have hQ : okEnd Q .normal ⟨#[u0, .slice (some ⟨g1, o1, none⟩) L cap, u2, u3, u4, u5, .pointer (some ⟨C, 0, none⟩), u7, .int .i64 ((j : Nat) : Int), u9, u10, u11, u12, u13, u14, u15, u16, u17, u18, u19, u20, u21, u22, u23, u24, u25, u26, u27, u28, u29, u30, u31, u32, u33, u34, u35, u36, u37, .pointer (some ⟨C, 0, none⟩), .pointer (some ⟨C, 0, none⟩), .pointer (some ⟨C, 0, none⟩), .pointer (some ⟨C, 1, none⟩), lv, .slice (some ⟨g1, o1, none⟩) L cap, .int .i64 ((j : Nat) : Int), .pointer (some ⟨g1, o1 + j * 4, none⟩), .agg #[.int .i64 x.1.1, .int .u32 ((x.1.2 : Nat) : Int), .int .u32 ((x.2.1 : Nat) : Int), .int .u8 ((x.2.2 : Nat) : Int)], .slice (some ⟨W.heap.size, 0, none⟩) 1 1, v', .pointer (some ⟨C, 0, none⟩), .pointer (some ⟨C, 1, none⟩), u51], []⟩ (W'.setCell ⟨C, 1, none⟩ v') := hQ0
  obtain ⟨z4, k4⟩ := k4
  obtain ⟨la, lb, lc, rfl⟩ := hlv
  obtain ⟨va, vb, vc, rfl⟩ := hv'
  have hmx : Try.prog.follows .mixedOrders = true := by kernel_rfl
  refine wp_region_held_drew (S := S54 g1 (o1 + j * 4) x) hmx hS (fun hS0 => ?_)
  refine wpAnyH_take (i := 0) (oi := { dst := some 38, op := Op.move (Operand.tmp 6), type := 70, pos := "ref.go:38", after := #[], guard := none }) (v := .pointer (some ⟨C, 0, none⟩)) rfl (by kernel_rfl) (by kernel_rfl) (by kernel_rfl) (fun _ _ _ h => h) (Or.inl ⟨by rfl, ?_⟩) hS ?_
  · rintro wx ⟨d0, d1, d2, d3⟩
    go_simp
  simp only [Act.put, List.setIfInBounds_toArray, List.set_cons_zero, List.set_cons_succ]
  refine wpAnyH_take (i := 1) (oi := { dst := some 39, op := Op.move (Operand.tmp 6), type := 70, pos := "ref.go:38", after := #[], guard := none }) (v := .pointer (some ⟨C, 0, none⟩)) rfl (by kernel_rfl) (by kernel_rfl) (by kernel_rfl) (fun _ _ _ h => h) (Or.inl ⟨by rfl, ?_⟩) hS ?_
  · rintro wx ⟨d0, d1, d2, d3⟩
    go_simp
  simp only [Act.put, List.setIfInBounds_toArray, List.set_cons_zero, List.set_cons_succ]
  refine wpAnyH_take (i := 2) (oi := { dst := some 40, op := Op.nilCheck (Operand.tmp 39), type := 0, pos := "ref.go:38", after := #[{ on := 1, ground := Ground.data }], guard := none }) (v := .pointer (some ⟨C, 0, none⟩)) rfl (by kernel_rfl) (by kernel_rfl) (by kernel_rfl) (fun _ _ _ h => h) (Or.inl ⟨by rfl, ?_⟩) hS ?_
  · rintro wx ⟨d0, d1, d2, d3⟩
    go_simp
  simp only [Act.put, List.setIfInBounds_toArray, List.set_cons_zero, List.set_cons_succ]
  refine wpAnyH_take (i := 3) (oi := { dst := some 41, op := Op.fieldAddr 80 (Operand.tmp 40) 1, type := 0, pos := "ref.go:38", after := #[{ on := 2, ground := Ground.data }], guard := none }) (v := .pointer (some ⟨C, 1, none⟩)) rfl (by kernel_rfl) (by kernel_rfl) (by kernel_rfl) (fun _ _ _ h => h) (Or.inl ⟨by rfl, ?_⟩) hS ?_
  · rintro wx ⟨d0, d1, d2, d3⟩
    go_simp
  simp only [Act.put, List.setIfInBounds_toArray, List.set_cons_zero, List.set_cons_succ]
  refine wpAnyH_take (i := 5) (oi := { dst := some 43, op := Op.move (Operand.tmp 1), type := 55, pos := "ref.go:38", after := #[], guard := none }) (v := .slice (some ⟨g1, o1, none⟩) L cap) rfl (by kernel_rfl) (by kernel_rfl) (by kernel_rfl) (fun _ _ _ h => h) (Or.inl ⟨by rfl, ?_⟩) hS ?_
  · rintro wx ⟨d0, d1, d2, d3⟩
    go_simp
  simp only [Act.put, List.setIfInBounds_toArray, List.set_cons_zero, List.set_cons_succ]
  refine wpAnyH_take (i := 6) (oi := { dst := some 44, op := Op.move (Operand.tmp 8), type := 3, pos := "ref.go:38", after := #[], guard := none }) (v := .int .i64 ((j : Nat) : Int)) rfl (by kernel_rfl) (by kernel_rfl) (by kernel_rfl) (fun _ _ _ h => h) (Or.inl ⟨by rfl, ?_⟩) hS ?_
  · rintro wx ⟨d0, d1, d2, d3⟩
    go_simp
  simp only [Act.put, List.setIfInBounds_toArray, List.set_cons_zero, List.set_cons_succ]
  refine wpAnyH_take (i := 7) (oi := { dst := some 45, op := Op.indexAddr 55 (Operand.tmp 43) (Operand.tmp 44), type := 0, pos := "ref.go:38", after := #[{ on := 5, ground := Ground.data }, { on := 6, ground := Ground.data }], guard := none }) (v := .pointer (some ⟨g1, o1 + j * 4, none⟩)) rfl (by kernel_rfl) (by kernel_rfl) (by kernel_rfl) (fun _ _ _ h => h) (Or.inl ⟨by rfl, ?_⟩) hS ?_
  · rintro wx ⟨d0, d1, d2, d3⟩
    go_simp
  simp only [Act.put, List.setIfInBounds_toArray, List.set_cons_zero, List.set_cons_succ]
  refine wpAnyH_take (i := 8) (oi := { dst := some 46, op := Op.load 58 (Operand.tmp 45), type := 58, pos := "ref.go:38", after := #[{ on := 7, ground := Ground.data }], guard := none }) (v := .agg #[.int .i64 x.1.1, .int .u32 ((x.1.2 : Nat) : Int), .int .u32 ((x.2.1 : Nat) : Int), .int .u8 ((x.2.2 : Nat) : Int)]) rfl (by kernel_rfl) (by kernel_rfl) (by kernel_rfl) (fun _ _ _ h => h) (Or.inl ⟨by rfl, ?_⟩) hS ?_
  · rintro wx ⟨d0, d1, d2, d3⟩
    go_simp
  simp only [Act.put, List.setIfInBounds_toArray, List.set_cons_zero, List.set_cons_succ]
  refine wpAnyH_ready (rs := [4, 9]) (by kernel_rfl) (by simp) ?_
  refine AllReadyH.cons (o := { dst := some 42, op := Op.load 55 (Operand.tmp 41), type := 55, pos := "ref.go:38", after := #[{ on := 3, ground := Ground.data }], guard := none }) rfl (fun K hK => ?_) (AllReadyH.cons (o := { dst := some 47, op := Op.buildSlice 55 1 #[(0, Operand.tmp 46)], type := 55, pos := "ref.go:38", after := #[{ on := 8, ground := Ground.data }], guard := none }) rfl (fun K hK => ?_) AllReadyH.nil)
  · rw [if_pos (by rfl)]
    go_simp
    refine hK.out _ _ hS (fun hS2 => ?_)
    clear hK K
    refine wpAnyH_ready (rs := [9]) (by kernel_rfl) (by simp) ?_
    refine AllReadyH.cons (o := { dst := some 47, op := Op.buildSlice 55 1 #[(0, Operand.tmp 46)], type := 55, pos := "ref.go:38", after := #[{ on := 8, ground := Ground.data }], guard := none }) rfl (fun K hK => ?_) AllReadyH.nil
    rw [if_pos (by rfl)]
    go_simp
    refine hK.out _ _ hSa (fun hS3 => ?_)
    clear hK K
    refine wpAnyH_ready (rs := [10]) (by kernel_rfl) (by simp) ?_
    refine AllReadyH.cons (o := { dst := some 48, op := Op.call { callee := Callee.builtin Builtin.append, args := #[Operand.tmp 42, Operand.tmp 47], argTypes := #[55, 55] }, type := 55, pos := "ref.go:38", after := #[{ on := 4, ground := Ground.data }, { on := 9, ground := Ground.data }], guard := none }) rfl (fun K hK => ?_) AllReadyH.nil
    refine step_append_run54 rfl (.tmp 42) (.tmp 47) 55 55 rfl _ _ _ W' rfl rfl hr ?_
    refine hK.out _ _ hSb (fun hS5 => ?_)
    clear hK K
    simp only [Act.put, List.setIfInBounds_toArray, List.set_cons_zero, List.set_cons_succ]
    refine wpAnyH_take (i := 11) (oi := { dst := some 49, op := Op.nilCheck (Operand.tmp 38), type := 0, pos := "ref.go:38", after := #[{ on := 0, ground := Ground.data }, { on := 0, ground := Ground.phase }, { on := 1, ground := Ground.phase }, { on := 2, ground := Ground.phase }, { on := 3, ground := Ground.phase }, { on := 4, ground := Ground.phase }, { on := 5, ground := Ground.phase }, { on := 6, ground := Ground.phase }, { on := 7, ground := Ground.phase }, { on := 8, ground := Ground.phase }, { on := 9, ground := Ground.phase }, { on := 10, ground := Ground.phase }], guard := none }) (v := .pointer (some ⟨C, 0, none⟩)) rfl (by kernel_rfl) (by kernel_rfl) (by kernel_rfl) (fun _ _ _ h => h) (Or.inl ⟨by rfl, ?_⟩) hSb ?_
    · rintro wx ⟨d0, d1, d2, d3⟩
      go_simp
    simp only [Act.put, List.setIfInBounds_toArray, List.set_cons_zero, List.set_cons_succ]
    refine wpAnyH_take (i := 12) (oi := { dst := some 50, op := Op.fieldAddr 80 (Operand.tmp 49) 1, type := 0, pos := "ref.go:38", after := #[{ on := 11, ground := Ground.data }, { on := 0, ground := Ground.phase }, { on := 1, ground := Ground.phase }, { on := 2, ground := Ground.phase }, { on := 3, ground := Ground.phase }, { on := 4, ground := Ground.phase }, { on := 5, ground := Ground.phase }, { on := 6, ground := Ground.phase }, { on := 7, ground := Ground.phase }, { on := 8, ground := Ground.phase }, { on := 9, ground := Ground.phase }, { on := 10, ground := Ground.phase }], guard := none }) (v := .pointer (some ⟨C, 1, none⟩)) rfl (by kernel_rfl) (by kernel_rfl) (by kernel_rfl) (fun _ _ _ h => h) (Or.inl ⟨by rfl, ?_⟩) hSb ?_
    · rintro wx ⟨d0, d1, d2, d3⟩
      go_simp
    simp only [Act.put, List.setIfInBounds_toArray, List.set_cons_zero, List.set_cons_succ]
    refine wpAnyH_ready (rs := [13]) (by kernel_rfl) (by simp) ?_
    refine AllReadyH.cons (o := { dst := none, op := Op.store 55 (Operand.tmp 50) (Operand.tmp 48), type := 0, pos := "ref.go:38", after := #[{ on := 12, ground := Ground.data }, { on := 10, ground := Ground.data }, { on := 10, ground := Ground.chain }, { on := 0, ground := Ground.phase }, { on := 1, ground := Ground.phase }, { on := 2, ground := Ground.phase }, { on := 3, ground := Ground.phase }, { on := 4, ground := Ground.phase }, { on := 5, ground := Ground.phase }, { on := 6, ground := Ground.phase }, { on := 7, ground := Ground.phase }, { on := 8, ground := Ground.phase }, { on := 9, ground := Ground.phase }, { on := 10, ground := Ground.phase }], guard := none }) rfl (fun K hK => ?_) AllReadyH.nil
    rw [if_pos (by rfl)]
    go_simp
    refine hK.out _ _ hSc (fun hS6 => ?_)
    clear hK K
    refine wpAnyH_done (by kernel_rfl) ?_ _
    exact hQ
  · rw [if_pos (by rfl)]
    go_simp
    refine hK.out _ _ hSa (fun hS2 => ?_)
    clear hK K
    refine wpAnyH_ready (rs := [4]) (by kernel_rfl) (by simp) ?_
    refine AllReadyH.cons (o := { dst := some 42, op := Op.load 55 (Operand.tmp 41), type := 55, pos := "ref.go:38", after := #[{ on := 3, ground := Ground.data }], guard := none }) rfl (fun K hK => ?_) AllReadyH.nil
    rw [if_pos (by rfl)]
    go_simp
    refine hK.out _ _ hSa (fun hS3 => ?_)
    clear hK K
    refine wpAnyH_ready (rs := [10]) (by kernel_rfl) (by simp) ?_
    refine AllReadyH.cons (o := { dst := some 48, op := Op.call { callee := Callee.builtin Builtin.append, args := #[Operand.tmp 42, Operand.tmp 47], argTypes := #[55, 55] }, type := 55, pos := "ref.go:38", after := #[{ on := 4, ground := Ground.data }, { on := 9, ground := Ground.data }], guard := none }) rfl (fun K hK => ?_) AllReadyH.nil
    refine step_append_run54 rfl (.tmp 42) (.tmp 47) 55 55 rfl _ _ _ W' rfl rfl hr ?_
    refine hK.out _ _ hSb (fun hS5 => ?_)
    clear hK K
    simp only [Act.put, List.setIfInBounds_toArray, List.set_cons_zero, List.set_cons_succ]
    refine wpAnyH_take (i := 11) (oi := { dst := some 49, op := Op.nilCheck (Operand.tmp 38), type := 0, pos := "ref.go:38", after := #[{ on := 0, ground := Ground.data }, { on := 0, ground := Ground.phase }, { on := 1, ground := Ground.phase }, { on := 2, ground := Ground.phase }, { on := 3, ground := Ground.phase }, { on := 4, ground := Ground.phase }, { on := 5, ground := Ground.phase }, { on := 6, ground := Ground.phase }, { on := 7, ground := Ground.phase }, { on := 8, ground := Ground.phase }, { on := 9, ground := Ground.phase }, { on := 10, ground := Ground.phase }], guard := none }) (v := .pointer (some ⟨C, 0, none⟩)) rfl (by kernel_rfl) (by kernel_rfl) (by kernel_rfl) (fun _ _ _ h => h) (Or.inl ⟨by rfl, ?_⟩) hSb ?_
    · rintro wx ⟨d0, d1, d2, d3⟩
      go_simp
    simp only [Act.put, List.setIfInBounds_toArray, List.set_cons_zero, List.set_cons_succ]
    refine wpAnyH_take (i := 12) (oi := { dst := some 50, op := Op.fieldAddr 80 (Operand.tmp 49) 1, type := 0, pos := "ref.go:38", after := #[{ on := 11, ground := Ground.data }, { on := 0, ground := Ground.phase }, { on := 1, ground := Ground.phase }, { on := 2, ground := Ground.phase }, { on := 3, ground := Ground.phase }, { on := 4, ground := Ground.phase }, { on := 5, ground := Ground.phase }, { on := 6, ground := Ground.phase }, { on := 7, ground := Ground.phase }, { on := 8, ground := Ground.phase }, { on := 9, ground := Ground.phase }, { on := 10, ground := Ground.phase }], guard := none }) (v := .pointer (some ⟨C, 1, none⟩)) rfl (by kernel_rfl) (by kernel_rfl) (by kernel_rfl) (fun _ _ _ h => h) (Or.inl ⟨by rfl, ?_⟩) hSb ?_
    · rintro wx ⟨d0, d1, d2, d3⟩
      go_simp
    simp only [Act.put, List.setIfInBounds_toArray, List.set_cons_zero, List.set_cons_succ]
    refine wpAnyH_ready (rs := [13]) (by kernel_rfl) (by simp) ?_
    refine AllReadyH.cons (o := { dst := none, op := Op.store 55 (Operand.tmp 50) (Operand.tmp 48), type := 0, pos := "ref.go:38", after := #[{ on := 12, ground := Ground.data }, { on := 10, ground := Ground.data }, { on := 10, ground := Ground.chain }, { on := 0, ground := Ground.phase }, { on := 1, ground := Ground.phase }, { on := 2, ground := Ground.phase }, { on := 3, ground := Ground.phase }, { on := 4, ground := Ground.phase }, { on := 5, ground := Ground.phase }, { on := 6, ground := Ground.phase }, { on := 7, ground := Ground.phase }, { on := 8, ground := Ground.phase }, { on := 9, ground := Ground.phase }, { on := 10, ground := Ground.phase }], guard := none }) rfl (fun K hK => ?_) AllReadyH.nil
    rw [if_pos (by rfl)]
    go_simp
    refine hK.out _ _ hSc (fun hS6 => ?_)
    clear hK K
    refine wpAnyH_done (by kernel_rfl) ?_ _
    exact hQ
end Go.Proofs.Ytadpgaaijdpbiaa
