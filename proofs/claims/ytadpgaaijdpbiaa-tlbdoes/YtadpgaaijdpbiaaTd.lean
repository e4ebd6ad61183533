import Derived.Test.YtadpgaaijdpbiaaTb
namespace Go.Proofs.Ytadpgaaijdpbiaa
open Go.ChangeShapes Go.WideShapes Go.ChangeAt Go.RowKit Go.Shelf
set_option linter.unusedVariables false

def S46 (ab j : Nat) (ra : Option Addr) (rl rc : Nat) (wx : World) : Prop := wx.cell? ⟨ab, j, none⟩ = some (.slice ra rl rc)
def ops46 : Array Oper := #[
  { dst := some 67, op := Op.move (Operand.tmp 0), type := 65, pos := "law.go:111", after := #[], guard := none }, { dst := some 68, op := Op.move (Operand.tmp 0), type := 65, pos := "law.go:111", after := #[], guard := none }, { dst := some 69, op := Op.nilCheck (Operand.tmp 68), type := 0, pos := "law.go:111", after := #[{ on := 1, ground := Ground.data }], guard := none }, { dst := some 70, op := Op.fieldAddr 69 (Operand.tmp 69) 2, type := 0, pos := "law.go:111", after := #[{ on := 2, ground := Ground.data }], guard := none }, { dst := some 71, op := Op.load 67 (Operand.tmp 70), type := 67, pos := "law.go:111", after := #[{ on := 3, ground := Ground.data }], guard := none }, { dst := some 72, op := Op.move (Operand.tmp 1), type := 67, pos := "law.go:111", after := #[], guard := none }, { dst := some 73, op := Op.move (Operand.tmp 7), type := 3, pos := "law.go:111", after := #[], guard := none }, { dst := some 74, op := Op.indexAddr 67 (Operand.tmp 72) (Operand.tmp 73), type := 0, pos := "law.go:111", after := #[{ on := 5, ground := Ground.data }, { on := 6, ground := Ground.data }], guard := none }, { dst := some 75, op := Op.load 55 (Operand.tmp 74), type := 55, pos := "law.go:111", after := #[{ on := 7, ground := Ground.data }], guard := none }, { dst := some 76, op := Op.move (Operand.tmp 9), type := 55, pos := "law.go:111", after := #[], guard := none }, { dst := some 77, op := Op.buildSlice 67 2 #[(0, Operand.tmp 75), (1, Operand.tmp 76)], type := 67, pos := "law.go:111", after := #[{ on := 8, ground := Ground.data }, { on := 9, ground := Ground.data }], guard := none }, { dst := some 78, op := Op.call { callee := Callee.builtin Builtin.append, args := #[Operand.tmp 71, Operand.tmp 77], argTypes := #[67, 67] }, type := 67, pos := "law.go:111", after := #[{ on := 4, ground := Ground.data }, { on := 10, ground := Ground.data }], guard := none }, { dst := some 79, op := Op.nilCheck (Operand.tmp 67), type := 0, pos := "law.go:111", after := #[{ on := 0, ground := Ground.data }, { on := 0, ground := Ground.phase }, { on := 1, ground := Ground.phase }, { on := 2, ground := Ground.phase }, { on := 3, ground := Ground.phase }, { on := 4, ground := Ground.phase }, { on := 5, ground := Ground.phase }, { on := 6, ground := Ground.phase }, { on := 7, ground := Ground.phase }, { on := 8, ground := Ground.phase }, { on := 9, ground := Ground.phase }, { on := 10, ground := Ground.phase }, { on := 11, ground := Ground.phase }], guard := none }, { dst := some 80, op := Op.fieldAddr 69 (Operand.tmp 79) 2, type := 0, pos := "law.go:111", after := #[{ on := 12, ground := Ground.data }, { on := 0, ground := Ground.phase }, { on := 1, ground := Ground.phase }, { on := 2, ground := Ground.phase }, { on := 3, ground := Ground.phase }, { on := 4, ground := Ground.phase }, { on := 5, ground := Ground.phase }, { on := 6, ground := Ground.phase }, { on := 7, ground := Ground.phase }, { on := 8, ground := Ground.phase }, { on := 9, ground := Ground.phase }, { on := 10, ground := Ground.phase }, { on := 11, ground := Ground.phase }], guard := none }, { dst := none, op := Op.store 67 (Operand.tmp 80) (Operand.tmp 78), type := 0, pos := "law.go:111", after := #[{ on := 13, ground := Ground.data }, { on := 11, ground := Ground.data }, { on := 11, ground := Ground.chain }, { on := 0, ground := Ground.phase }, { on := 1, ground := Ground.phase }, { on := 2, ground := Ground.phase }, { on := 3, ground := Ground.phase }, { on := 4, ground := Ground.phase }, { on := 5, ground := Ground.phase }, { on := 6, ground := Ground.phase }, { on := 7, ground := Ground.phase }, { on := 8, ground := Ground.phase }, { on := 9, ground := Ground.phase }, { on := 10, ground := Ground.phase }, { on := 11, ground := Ground.phase }], guard := none }]
set_option maxHeartbeats 4000000 in
set_option maxRecDepth 100000 in
theorem reg46 (W W' : World) (D ab j : Nat) (ra la : Option Addr) (rl rc ll lc : Nat) (hv v' : Value) (hjz : (j : Int) < (2 : Int)) (hj : j < 2) (Q : Exit → Act → World → Prop)
    (u2 u3 u4 u5 u6 u8 u10 u11 u12 u13 u14 u15 u16 u17 u18 u19 u20 u21 u22 u23 u24 u25 u26 u27 u28 u29 u30 u31 u32 u33 u34 u35 u36 u37 u38 u39 u40 u41 u42 u43 u44 u45 u46 u47 u48 u49 u50 u51 u52 u53 u54 u55 u56 u57 u58 u59 u60 u61 u62 u63 u64 u65 u66 u67 u68 u69 u70 u71 u72 u73 u74 u75 u76 u77 u78 u79 u80 u81 u82 u83 u84 u85 u86 u87 u88 u89 u90 u91 : Value)
    (c0 : W.cell? ⟨D, 2, none⟩ = some hv) (c1 : (W.alloc (.cells #[.slice ra rl rc, .slice la ll lc] 55)).cell? ⟨D, 2, none⟩ = some hv) (hlv : ∃ a b c, hv = .slice a b c) (hv' : ∃ a b c, v' = .slice (some a) b c)
    (hS : S46 ab j ra rl rc W.drew) (hSa : S46 ab j ra rl rc (W.alloc (.cells #[.slice ra rl rc, .slice la ll lc] 55)).drew) (hSb : S46 ab j ra rl rc W') (hSc : S46 ab j ra rl rc (W'.setCell ⟨D, 2, none⟩ v'))
    (hr : (Builtin.append_ #[67, 67] 67 #[hv, .slice (some ⟨W.heap.size, 0, none⟩) 2 2]).run Try.prog (W.alloc (.cells #[.slice ra rl rc, .slice la ll lc] 55)).drew = .ok v' W')
    (k4 : ∃ z, W'.cell? ⟨D, 2, none⟩ = some z) (k4f : W'.frozen? ⟨D, 2, none⟩ = false)
    (hQ0 : Q .normal ⟨#[.pointer (some ⟨D, 0, none⟩), .slice (some ⟨ab, 0, none⟩) 2 2, u2, u3, u4, u5, u6, .int .i64 ((j : Nat) : Int), u8, .slice la ll lc, u10, u11, u12, u13, u14, u15, u16, u17, u18, u19, u20, u21, u22, u23, u24, u25, u26, u27, u28, u29, u30, u31, u32, u33, u34, u35, u36, u37, u38, u39, u40, u41, u42, u43, u44, u45, u46, u47, u48, u49, u50, u51, u52, u53, u54, u55, u56, u57, u58, u59, u60, u61, u62, u63, u64, u65, u66, .pointer (some ⟨D, 0, none⟩), .pointer (some ⟨D, 0, none⟩), .pointer (some ⟨D, 0, none⟩), .pointer (some ⟨D, 2, none⟩), hv, .slice (some ⟨ab, 0, none⟩) 2 2, .int .i64 ((j : Nat) : Int), .pointer (some ⟨ab, j, none⟩), .slice ra rl rc, .slice la ll lc, .slice (some ⟨W.heap.size, 0, none⟩) 2 2, v', .pointer (some ⟨D, 0, none⟩), .pointer (some ⟨D, 2, none⟩), u81, u82, u83, u84, u85, u86, u87, u88, u89, u90, u91], []⟩ (W'.setCell ⟨D, 2, none⟩ v')) :
    Code.wp Try.prog (Code.region 17 ops46 true) Q ⟨#[.pointer (some ⟨D, 0, none⟩), .slice (some ⟨ab, 0, none⟩) 2 2, u2, u3, u4, u5, u6, .int .i64 ((j : Nat) : Int), u8, .slice la ll lc, u10, u11, u12, u13, u14, u15, u16, u17, u18, u19, u20, u21, u22, u23, u24, u25, u26, u27, u28, u29, u30, u31, u32, u33, u34, u35, u36, u37, u38, u39, u40, u41, u42, u43, u44, u45, u46, u47, u48, u49, u50, u51, u52, u53, u54, u55, u56, u57, u58, u59, u60, u61, u62, u63, u64, u65, u66, u67, u68, u69, u70, u71, u72, u73, u74, u75, u76, u77, u78, u79, u80, u81, u82, u83, u84, u85, u86, u87, u88, u89, u90, u91], []⟩ W := by
  refine wp_ok ?_
  have hQ : okEnd Q .normal ⟨#[.pointer (some ⟨D, 0, none⟩), .slice (some ⟨ab, 0, none⟩) 2 2, u2, u3, u4, u5, u6, .int .i64 ((j : Nat) : Int), u8, .slice la ll lc, u10, u11, u12, u13, u14, u15, u16, u17, u18, u19, u20, u21, u22, u23, u24, u25, u26, u27, u28, u29, u30, u31, u32, u33, u34, u35, u36, u37, u38, u39, u40, u41, u42, u43, u44, u45, u46, u47, u48, u49, u50, u51, u52, u53, u54, u55, u56, u57, u58, u59, u60, u61, u62, u63, u64, u65, u66, .pointer (some ⟨D, 0, none⟩), .pointer (some ⟨D, 0, none⟩), .pointer (some ⟨D, 0, none⟩), .pointer (some ⟨D, 2, none⟩), hv, .slice (some ⟨ab, 0, none⟩) 2 2, .int .i64 ((j : Nat) : Int), .pointer (some ⟨ab, j, none⟩), .slice ra rl rc, .slice la ll lc, .slice (some ⟨W.heap.size, 0, none⟩) 2 2, v', .pointer (some ⟨D, 0, none⟩), .pointer (some ⟨D, 2, none⟩), u81, u82, u83, u84, u85, u86, u87, u88, u89, u90, u91], []⟩ (W'.setCell ⟨D, 2, none⟩ v') := hQ0
  obtain ⟨z4, k4⟩ := k4
  obtain ⟨ha, hb, hc, rfl⟩ := hlv
  obtain ⟨va, vb, vc, rfl⟩ := hv'
  have hmx : Try.prog.follows .mixedOrders = true := by kernel_rfl
  refine wp_region_held_drew (S := S46 ab j ra rl rc) hmx hS (fun hS0 => ?_)
  refine wpAnyH_take (i := 0) (oi := { dst := some 67, op := Op.move (Operand.tmp 0), type := 65, pos := "law.go:111", after := #[], guard := none }) (v := .pointer (some ⟨D, 0, none⟩)) rfl (by kernel_rfl) (by kernel_rfl) (by kernel_rfl) (fun _ _ _ h => h) (Or.inl ⟨by rfl, ?_⟩) hS ?_
  · rintro wx d0
    unfold S46 at d0
    go_simp
  simp only [Act.put, List.setIfInBounds_toArray, List.set_cons_zero, List.set_cons_succ]
  refine wpAnyH_take (i := 1) (oi := { dst := some 68, op := Op.move (Operand.tmp 0), type := 65, pos := "law.go:111", after := #[], guard := none }) (v := .pointer (some ⟨D, 0, none⟩)) rfl (by kernel_rfl) (by kernel_rfl) (by kernel_rfl) (fun _ _ _ h => h) (Or.inl ⟨by rfl, ?_⟩) hS ?_
  · rintro wx d0
    unfold S46 at d0
    go_simp
  simp only [Act.put, List.setIfInBounds_toArray, List.set_cons_zero, List.set_cons_succ]
  refine wpAnyH_take (i := 2) (oi := { dst := some 69, op := Op.nilCheck (Operand.tmp 68), type := 0, pos := "law.go:111", after := #[{ on := 1, ground := Ground.data }], guard := none }) (v := .pointer (some ⟨D, 0, none⟩)) rfl (by kernel_rfl) (by kernel_rfl) (by kernel_rfl) (fun _ _ _ h => h) (Or.inl ⟨by rfl, ?_⟩) hS ?_
  · rintro wx d0
    unfold S46 at d0
    go_simp
  simp only [Act.put, List.setIfInBounds_toArray, List.set_cons_zero, List.set_cons_succ]
  refine wpAnyH_take (i := 3) (oi := { dst := some 70, op := Op.fieldAddr 69 (Operand.tmp 69) 2, type := 0, pos := "law.go:111", after := #[{ on := 2, ground := Ground.data }], guard := none }) (v := .pointer (some ⟨D, 2, none⟩)) rfl (by kernel_rfl) (by kernel_rfl) (by kernel_rfl) (fun _ _ _ h => h) (Or.inl ⟨by rfl, ?_⟩) hS ?_
  · rintro wx d0
    unfold S46 at d0
    go_simp
  simp only [Act.put, List.setIfInBounds_toArray, List.set_cons_zero, List.set_cons_succ]
  refine wpAnyH_take (i := 5) (oi := { dst := some 72, op := Op.move (Operand.tmp 1), type := 67, pos := "law.go:111", after := #[], guard := none }) (v := .slice (some ⟨ab, 0, none⟩) 2 2) rfl (by kernel_rfl) (by kernel_rfl) (by kernel_rfl) (fun _ _ _ h => h) (Or.inl ⟨by rfl, ?_⟩) hS ?_
  · rintro wx d0
    unfold S46 at d0
    go_simp
  simp only [Act.put, List.setIfInBounds_toArray, List.set_cons_zero, List.set_cons_succ]
  refine wpAnyH_take (i := 6) (oi := { dst := some 73, op := Op.move (Operand.tmp 7), type := 3, pos := "law.go:111", after := #[], guard := none }) (v := .int .i64 ((j : Nat) : Int)) rfl (by kernel_rfl) (by kernel_rfl) (by kernel_rfl) (fun _ _ _ h => h) (Or.inl ⟨by rfl, ?_⟩) hS ?_
  · rintro wx d0
    unfold S46 at d0
    go_simp
  simp only [Act.put, List.setIfInBounds_toArray, List.set_cons_zero, List.set_cons_succ]
  refine wpAnyH_take (i := 7) (oi := { dst := some 74, op := Op.indexAddr 67 (Operand.tmp 72) (Operand.tmp 73), type := 0, pos := "law.go:111", after := #[{ on := 5, ground := Ground.data }, { on := 6, ground := Ground.data }], guard := none }) (v := .pointer (some ⟨ab, j, none⟩)) rfl (by kernel_rfl) (by kernel_rfl) (by kernel_rfl) (fun _ _ _ h => h) (Or.inl ⟨by rfl, ?_⟩) hS ?_
  · rintro wx d0
    unfold S46 at d0
    go_simp
  simp only [Act.put, List.setIfInBounds_toArray, List.set_cons_zero, List.set_cons_succ]
  refine wpAnyH_take (i := 8) (oi := { dst := some 75, op := Op.load 55 (Operand.tmp 74), type := 55, pos := "law.go:111", after := #[{ on := 7, ground := Ground.data }], guard := none }) (v := .slice ra rl rc) rfl (by kernel_rfl) (by kernel_rfl) (by kernel_rfl) (fun _ _ _ h => h) (Or.inl ⟨by rfl, ?_⟩) hS ?_
  · rintro wx d0
    unfold S46 at d0
    go_simp
  simp only [Act.put, List.setIfInBounds_toArray, List.set_cons_zero, List.set_cons_succ]
  refine wpAnyH_take (i := 9) (oi := { dst := some 76, op := Op.move (Operand.tmp 9), type := 55, pos := "law.go:111", after := #[], guard := none }) (v := .slice la ll lc) rfl (by kernel_rfl) (by kernel_rfl) (by kernel_rfl) (fun _ _ _ h => h) (Or.inl ⟨by rfl, ?_⟩) hS ?_
  · rintro wx d0
    unfold S46 at d0
    go_simp
  simp only [Act.put, List.setIfInBounds_toArray, List.set_cons_zero, List.set_cons_succ]
  refine wpAnyH_ready (rs := [4, 10]) (by kernel_rfl) (by simp) ?_
  refine AllReadyH.cons (o := { dst := some 71, op := Op.load 67 (Operand.tmp 70), type := 67, pos := "law.go:111", after := #[{ on := 3, ground := Ground.data }], guard := none }) rfl (fun K hK => ?_) (AllReadyH.cons (o := { dst := some 77, op := Op.buildSlice 67 2 #[(0, Operand.tmp 75), (1, Operand.tmp 76)], type := 67, pos := "law.go:111", after := #[{ on := 8, ground := Ground.data }, { on := 9, ground := Ground.data }], guard := none }) rfl (fun K hK => ?_) AllReadyH.nil)
  · rw [if_pos (by rfl)]
    go_simp
    refine hK.out _ _ hS (fun hS2 => ?_)
    clear hK K
    refine wpAnyH_ready (rs := [10]) (by kernel_rfl) (by simp) ?_
    refine AllReadyH.cons (o := { dst := some 77, op := Op.buildSlice 67 2 #[(0, Operand.tmp 75), (1, Operand.tmp 76)], type := 67, pos := "law.go:111", after := #[{ on := 8, ground := Ground.data }, { on := 9, ground := Ground.data }], guard := none }) rfl (fun K hK => ?_) AllReadyH.nil
    rw [if_pos (by rfl)]
    go_simp
    refine hK.out _ _ hSa (fun hS3 => ?_)
    clear hK K
    refine wpAnyH_ready (rs := [11]) (by kernel_rfl) (by simp) ?_
    refine AllReadyH.cons (o := { dst := some 78, op := Op.call { callee := Callee.builtin Builtin.append, args := #[Operand.tmp 71, Operand.tmp 77], argTypes := #[67, 67] }, type := 67, pos := "law.go:111", after := #[{ on := 4, ground := Ground.data }, { on := 10, ground := Ground.data }], guard := none }) rfl (fun K hK => ?_) AllReadyH.nil
    refine step_append_run54 rfl (.tmp 71) (.tmp 77) 67 67 rfl _ _ _ W' rfl rfl hr ?_
    refine hK.out _ _ hSb (fun hS5 => ?_)
    clear hK K
    simp only [Act.put, List.setIfInBounds_toArray, List.set_cons_zero, List.set_cons_succ]
    refine wpAnyH_take (i := 12) (oi := { dst := some 79, op := Op.nilCheck (Operand.tmp 67), type := 0, pos := "law.go:111", after := #[{ on := 0, ground := Ground.data }, { on := 0, ground := Ground.phase }, { on := 1, ground := Ground.phase }, { on := 2, ground := Ground.phase }, { on := 3, ground := Ground.phase }, { on := 4, ground := Ground.phase }, { on := 5, ground := Ground.phase }, { on := 6, ground := Ground.phase }, { on := 7, ground := Ground.phase }, { on := 8, ground := Ground.phase }, { on := 9, ground := Ground.phase }, { on := 10, ground := Ground.phase }, { on := 11, ground := Ground.phase }], guard := none }) (v := .pointer (some ⟨D, 0, none⟩)) rfl (by kernel_rfl) (by kernel_rfl) (by kernel_rfl) (fun _ _ _ h => h) (Or.inl ⟨by rfl, ?_⟩) hSb ?_
    · rintro wx d0
      unfold S46 at d0
      go_simp
    simp only [Act.put, List.setIfInBounds_toArray, List.set_cons_zero, List.set_cons_succ]
    refine wpAnyH_take (i := 13) (oi := { dst := some 80, op := Op.fieldAddr 69 (Operand.tmp 79) 2, type := 0, pos := "law.go:111", after := #[{ on := 12, ground := Ground.data }, { on := 0, ground := Ground.phase }, { on := 1, ground := Ground.phase }, { on := 2, ground := Ground.phase }, { on := 3, ground := Ground.phase }, { on := 4, ground := Ground.phase }, { on := 5, ground := Ground.phase }, { on := 6, ground := Ground.phase }, { on := 7, ground := Ground.phase }, { on := 8, ground := Ground.phase }, { on := 9, ground := Ground.phase }, { on := 10, ground := Ground.phase }, { on := 11, ground := Ground.phase }], guard := none }) (v := .pointer (some ⟨D, 2, none⟩)) rfl (by kernel_rfl) (by kernel_rfl) (by kernel_rfl) (fun _ _ _ h => h) (Or.inl ⟨by rfl, ?_⟩) hSb ?_
    · rintro wx d0
      unfold S46 at d0
      go_simp
    simp only [Act.put, List.setIfInBounds_toArray, List.set_cons_zero, List.set_cons_succ]
    refine wpAnyH_ready (rs := [14]) (by kernel_rfl) (by simp) ?_
    refine AllReadyH.cons (o := { dst := none, op := Op.store 67 (Operand.tmp 80) (Operand.tmp 78), type := 0, pos := "law.go:111", after := #[{ on := 13, ground := Ground.data }, { on := 11, ground := Ground.data }, { on := 11, ground := Ground.chain }, { on := 0, ground := Ground.phase }, { on := 1, ground := Ground.phase }, { on := 2, ground := Ground.phase }, { on := 3, ground := Ground.phase }, { on := 4, ground := Ground.phase }, { on := 5, ground := Ground.phase }, { on := 6, ground := Ground.phase }, { on := 7, ground := Ground.phase }, { on := 8, ground := Ground.phase }, { on := 9, ground := Ground.phase }, { on := 10, ground := Ground.phase }, { on := 11, ground := Ground.phase }], guard := none }) rfl (fun K hK => ?_) AllReadyH.nil
    rw [if_pos (by rfl)]
    go_simp
    refine hK.out _ _ hSc (fun hS6 => ?_)
    clear hK K
    refine wpAnyH_done (by kernel_rfl) ?_ _
    exact hQ
  · rw [if_pos (by rfl)]
    go_simp
    refine hK.out _ _ hSa (fun hS2 => ?_)
    clear hK K
    refine wpAnyH_ready (rs := [4]) (by kernel_rfl) (by simp) ?_
    refine AllReadyH.cons (o := { dst := some 71, op := Op.load 67 (Operand.tmp 70), type := 67, pos := "law.go:111", after := #[{ on := 3, ground := Ground.data }], guard := none }) rfl (fun K hK => ?_) AllReadyH.nil
    rw [if_pos (by rfl)]
    go_simp
    refine hK.out _ _ hSa (fun hS3 => ?_)
    clear hK K
    refine wpAnyH_ready (rs := [11]) (by kernel_rfl) (by simp) ?_
    refine AllReadyH.cons (o := { dst := some 78, op := Op.call { callee := Callee.builtin Builtin.append, args := #[Operand.tmp 71, Operand.tmp 77], argTypes := #[67, 67] }, type := 67, pos := "law.go:111", after := #[{ on := 4, ground := Ground.data }, { on := 10, ground := Ground.data }], guard := none }) rfl (fun K hK => ?_) AllReadyH.nil
    refine step_append_run54 rfl (.tmp 71) (.tmp 77) 67 67 rfl _ _ _ W' rfl rfl hr ?_
    refine hK.out _ _ hSb (fun hS5 => ?_)
    clear hK K
    simp only [Act.put, List.setIfInBounds_toArray, List.set_cons_zero, List.set_cons_succ]
    refine wpAnyH_take (i := 12) (oi := { dst := some 79, op := Op.nilCheck (Operand.tmp 67), type := 0, pos := "law.go:111", after := #[{ on := 0, ground := Ground.data }, { on := 0, ground := Ground.phase }, { on := 1, ground := Ground.phase }, { on := 2, ground := Ground.phase }, { on := 3, ground := Ground.phase }, { on := 4, ground := Ground.phase }, { on := 5, ground := Ground.phase }, { on := 6, ground := Ground.phase }, { on := 7, ground := Ground.phase }, { on := 8, ground := Ground.phase }, { on := 9, ground := Ground.phase }, { on := 10, ground := Ground.phase }, { on := 11, ground := Ground.phase }], guard := none }) (v := .pointer (some ⟨D, 0, none⟩)) rfl (by kernel_rfl) (by kernel_rfl) (by kernel_rfl) (fun _ _ _ h => h) (Or.inl ⟨by rfl, ?_⟩) hSb ?_
    · rintro wx d0
      unfold S46 at d0
      go_simp
    simp only [Act.put, List.setIfInBounds_toArray, List.set_cons_zero, List.set_cons_succ]
    refine wpAnyH_take (i := 13) (oi := { dst := some 80, op := Op.fieldAddr 69 (Operand.tmp 79) 2, type := 0, pos := "law.go:111", after := #[{ on := 12, ground := Ground.data }, { on := 0, ground := Ground.phase }, { on := 1, ground := Ground.phase }, { on := 2, ground := Ground.phase }, { on := 3, ground := Ground.phase }, { on := 4, ground := Ground.phase }, { on := 5, ground := Ground.phase }, { on := 6, ground := Ground.phase }, { on := 7, ground := Ground.phase }, { on := 8, ground := Ground.phase }, { on := 9, ground := Ground.phase }, { on := 10, ground := Ground.phase }, { on := 11, ground := Ground.phase }], guard := none }) (v := .pointer (some ⟨D, 2, none⟩)) rfl (by kernel_rfl) (by kernel_rfl) (by kernel_rfl) (fun _ _ _ h => h) (Or.inl ⟨by rfl, ?_⟩) hSb ?_
    · rintro wx d0
      unfold S46 at d0
      go_simp
    simp only [Act.put, List.setIfInBounds_toArray, List.set_cons_zero, List.set_cons_succ]
    refine wpAnyH_ready (rs := [14]) (by kernel_rfl) (by simp) ?_
    refine AllReadyH.cons (o := { dst := none, op := Op.store 67 (Operand.tmp 80) (Operand.tmp 78), type := 0, pos := "law.go:111", after := #[{ on := 13, ground := Ground.data }, { on := 11, ground := Ground.data }, { on := 11, ground := Ground.chain }, { on := 0, ground := Ground.phase }, { on := 1, ground := Ground.phase }, { on := 2, ground := Ground.phase }, { on := 3, ground := Ground.phase }, { on := 4, ground := Ground.phase }, { on := 5, ground := Ground.phase }, { on := 6, ground := Ground.phase }, { on := 7, ground := Ground.phase }, { on := 8, ground := Ground.phase }, { on := 9, ground := Ground.phase }, { on := 10, ground := Ground.phase }, { on := 11, ground := Ground.phase }], guard := none }) rfl (fun K hK => ?_) AllReadyH.nil
    rw [if_pos (by rfl)]
    go_simp
    refine hK.out _ _ hSc (fun hS6 => ?_)
    clear hK K
    refine wpAnyH_done (by kernel_rfl) ?_ _
    exact hQ
end Go.Proofs.Ytadpgaaijdpbiaa
namespace Go.Proofs.Ytadpgaaijdpbiaa
open Go.ChangeShapes Go.WideShapes Go.ChangeAt Go.RowKit Go.Shelf
set_option linter.unusedVariables false

/-- No list that came out lies there. -/
def Off (hs : List Hd) (S : Nat → Prop) : Prop := ∀ h ∈ hs, h.1.2.1 ≠ 0 → ∀ b off, h.1.1 = some ⟨b, off, none⟩ → ¬ S b
/-- Lists that came out are written, or made longer: of the others nothing is. -/
theorem WI.chg5 {W W' : World} {lab lab' : Nat → Nat} {D : Nat} {R : Rows} {ps : List Pr} {hs : List Hd} (h : WI W lab D R ps hs) {S : Nat → Prop} (hC : Chg W W' S) (hS : ∀ b, b < W.heap.size → S b → lab b = 5) (ho : Off hs S) (hl : ∀ i, i < W.heap.size → lab' i = lab i) : WI W' lab' D R ps hs := by
  have hD := (Array.getElem?_eq_some_iff.1 h.box).1
  have k0 : ∀ {b c : Nat}, b < W.heap.size → lab b = c → c ≠ 5 → ¬ S b := fun hb e hc hs => hc (by rw [← e]; exact hS _ hb hs)
  refine ⟨hC.heap h.box (k0 hD h.d (by omega)), Chg.owns hC h.x (fun b hb => k0 (own_lt h.x hb) (h.lx b hb) (by omega)), Chg.owns hC h.y (fun b hb => k0 (own_lt h.y hb) (h.ly b hb) (by omega)), Chg.owns hC h.h (fun b hb => k0 (own_lt h.h hb) (h.lh b hb) (by omega)), Chg.owns hC h.m (fun b hb => k0 (own_lt h.m hb) (h.lm b hb) (by omega)), ?_, ?_, ?_, ?_, ?_, h.p4, ?_, ?_⟩
  · rw [hl _ hD]; exact h.d
  · intro b hb; rw [hl _ (own_lt h.x hb)]; exact h.lx b hb
  · intro b hb; rw [hl _ (own_lt h.y hb)]; exact h.ly b hb
  · intro b hb; rw [hl _ (own_lt h.h hb)]; exact h.lh b hb
  · intro b hb; rw [hl _ (own_lt h.m hb)]; exact h.lm b hb
  · intro i p hi
    have hP := h.ps i p hi
    exact ⟨hP.t.kept (S := fun b => S b ∧ b < W.heap.size) ⟨hC.os, hC.tape, hC.output, hC.size, fun k hk hn => hC.block k hk (fun e => hn ⟨e, hk⟩)⟩ (fun b hb e => k0 e.2 (hP.ft b hb) (by omega) e.1),
      hP.r.kept (S := fun b => S b ∧ b < W.heap.size) ⟨hC.os, hC.tape, hC.output, hC.size, fun k hk hn => hC.block k hk (fun e => hn ⟨e, hk⟩)⟩ (fun b hb e => k0 e.2 (hP.gt b hb) (by omega) e.1),
      fun b hb => by rw [hl _ (hP.t.lt hb)]; exact hP.ft b hb, fun b hb => by rw [hl _ (hP.r.lt hb)]; exact hP.gt b hb⟩
  · intro x hx
    obtain ⟨a1, a2, a3⟩ := h.hs x hx
    refine ⟨a1, a2, ?_⟩
    by_cases h0 : x.1.2.1 = 0
    · exact .inl h0
    · refine a3.imp_right ?_
      rintro ⟨b, off, e, hb, hlb, hc⟩
      exact ⟨b, off, e, Nat.lt_of_lt_of_le hb hC.size, by rw [hl _ hb]; exact hlb, fun i hi => (hC.cell hb (ho x hx h0 b off e)).trans (hc i hi)⟩
theorem hL_app (hs es : List Hd) : hL (hs ++ es) = hL hs ++ hL es := by simp [hL]
theorem mL_app (hs es : List Hd) : mL (hs ++ es) = mL hs ++ mL es := by simp [mL]
/-- Two more lists came out. -/
theorem WI.held2 {w w' : World} {lab : Nat → Nat} {D : Nat} {R : Rows} {ps : List Pr} {hs : List Hd} (h : WI w lab D R ps hs) (es : List Hd) (hes : ∀ e ∈ es, Mk w lab e) {hv' mv' : Value}
    (hx : w'.ownsRow 0 55 1 hv' (hs.length + es.length) (hL hs ++ hL es)) (hy : w'.ownsRow 0 3 1 mv' (hs.length + es.length) (mL hs ++ mL es))
    (hb : w'.heap[D]? = some (.cells #[R.x, R.y, hv', mv'] 69 (0, 0))) (hC : Chg w w' (fun i => i = D ∨ R.h.ownBlock = some i ∨ R.m.ownBlock = some i)) (lx : Loc w R.h hv') (ly : Loc w R.m mv') (hxy : ∀ b, mv'.ownBlock = some b → hv'.ownBlock ≠ some b) :
    WI w' (lab2 lab w.heap.size hv' 3 4) D ⟨R.x, R.y, hv', mv'⟩ ps (hs ++ es) ∧ Nx w lab w' (lab2 lab w.heap.size hv' 3 4) := by
  have old : ∀ {b}, b < w.heap.size → lab2 lab w.heap.size hv' 3 4 b = lab b := fun hb => by simp [lab2, hb]
  have hC' : Chg w w' (fun i => lab i = 0 ∨ lab i = 3 ∨ lab i = 4) := hC.mono (fun i _ e => by
    rcases e with e | e | e
    · rw [e, h.d]; omega
    · rw [h.lh i e]; omega
    · rw [h.lm i e]; omega)
  have k0 : ∀ {b c : Nat}, lab b = c → c ≠ 0 → c ≠ 3 → c ≠ 4 → ¬ (lab b = 0 ∨ lab b = 3 ∨ lab b = 4) := fun e h1 h2 h3 e' => by omega
  have hD := (Array.getElem?_eq_some_iff.1 h.box).1
  have hlen : (hs ++ es).length = hs.length + es.length := by simp
  refine ⟨⟨hb, Chg.owns hC' h.x (fun b hb => k0 (h.lx b hb) (by omega) (by omega) (by omega)), Chg.owns hC' h.y (fun b hb => k0 (h.ly b hb) (by omega) (by omega) (by omega)), by rw [hlen, hL_app]; exact hx, by rw [hlen, mL_app]; exact hy, by rw [old hD]; exact h.d, ?_, ?_, ?_, ?_, h.p4, ?_, ?_⟩, hC'.mono (fun i _ e => by omega), fun i hi => old hi⟩
  · intro b hb; rw [old (own_lt h.x hb)]; exact h.lx b hb
  · intro b hb; rw [old (own_lt h.y hb)]; exact h.ly b hb
  · intro b hb
    rcases lx with e | ⟨g, hg, hgs⟩
    · have e2 : R.h.ownBlock = some b := by rw [← e]; exact hb
      rw [old (own_lt h.h e2)]; exact h.lh b e2
    · have : b = g := by
        have hb' : hv'.ownBlock = some b := hb
        rw [hg] at hb'; cases hb'; rfl
      subst this
      unfold lab2; rw [if_neg (by omega), if_pos hb]
  · intro b hb
    rcases ly with e | ⟨g, hg, hgs⟩
    · have e2 : R.m.ownBlock = some b := by rw [← e]; exact hb
      rw [old (own_lt h.m e2)]; exact h.lm b e2
    · have : b = g := by
        have hb' : mv'.ownBlock = some b := hb
        rw [hg] at hb'; cases hb'; rfl
      subst this
      unfold lab2; rw [if_neg (by omega), if_neg (hxy b hb)]
  · intro i p hi
    have hq := h.ps i p hi
    exact ⟨hq.t.kept hC' (fun b hb => k0 (hq.ft b hb) (by omega) (by omega) (by omega)), hq.r.kept hC' (fun b hb => k0 (hq.gt b hb) (by omega) (by omega) (by omega)), fun b hb => by rw [old (hq.t.lt hb)]; exact hq.ft b hb, fun b hb => by rw [old (hq.r.lt hb)]; exact hq.gt b hb⟩
  · intro x hx
    have hm : Mk w lab x := by
      rcases List.mem_append.1 hx with h1 | h1
      · exact h.hs x h1
      · exact hes x h1
    obtain ⟨a1, a2, a3⟩ := hm
    refine ⟨a1, a2, a3.imp_right ?_⟩
    rintro ⟨b, off, e, hb, hl, hc⟩
    exact ⟨b, off, e, Nat.lt_of_lt_of_le hb hC.size, by rw [old hb]; exact hl, fun i hi => (hC'.cell hb (k0 hl (by omega) (by omega) (by omega))).trans (hc i hi)⟩
end Go.Proofs.Ytadpgaaijdpbiaa
