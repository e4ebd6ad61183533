import Derived.Test.YthgpcmickgcdhaaBe
import Derived.Deep.RegionHeld3
namespace Go.Proofs.Ythgpcmickgcdhaa
open Go.ChangeShapes Go.WideShapes Go.ChangeAt Go.RowKit
set_option linter.unusedVariables false
theorem hmx : Try.prog.follows .mixedOrders = true := by kernel_rfl
/-- An append as one step of a region. -/
theorem step_app {P : Program} {ops : Array Oper} {o : Oper} {a : Act} {w : World} {K : Act → World → Prop} {Q : Exit → Act → World → Prop} {E : Prop}
    (hgd : o.guard = none) (s x : Operand) (t u : TypeId) (ho : o.op = .call { callee := .builtin .append, args := #[s, x], argTypes := #[t, u] }) (v y v' : Value) (w' : World)
    (hs : a.eval s = v) (hx : a.eval x = y) (hrun : (Builtin.append_ #[t, u] o.type #[v, y]).run P w = .ok v' w') (hK : K (a.put o.dst v') w') :
    if Region.wanted o (yielded ops a.tmps) = true then Oper.wp P o a w K Q else E := by
  rw [if_pos (by simp [Region.wanted, hgd])]
  unfold Oper.wp
  simp [execOp, ho, resolve, invoke, builtin, hs, hx, hrun, Result.andThen]
  exact hK

theorem make61 (w : World) (n : Nat) (h : n < 1000000) : (Instr.makeSlice 61 (.int .i64 ((n : Int) + 1)) (.int .i64 ((n : Int) + 1))).run Try.prog w = .ok (.slice (some ⟨w.heap.size, 0, none⟩) (n + 1) (n + 1)) (w.alloc (.cells (bnC n (fun _ => false)).toArray 4)) := by
  have hz : (Try.prog.info? 4).map (fun i => (i.zero, i.size, i.bytes)) = some (some (.bool false), 1, 1) := by kernel_rfl
  cases hq : Try.prog.info? 4 with
  | none => rw [hq] at hz; cases hz
  | some i =>
    rw [hq] at hz
    have hz2 : i.zero = some (.bool false) ∧ i.size = 1 ∧ i.bytes = 1 := by simpa using hz
    obtain ⟨z1, z2, z3⟩ := hz2
    have hm := run_make (P := Try.prog) w 61 4 i (.bool false) Try.underlying61 hq z1 .i64 .i64 ((n : Int) + 1) ((n : Int) + 1) (by omega) (by omega) (by rw [z3]; omega) (by omega)
    have hN : ((n : Int) + 1).toNat = n + 1 := by omega
    have e : madeCells (Value.bool false).cells (((n : Int) + 1).toNat * i.size) = (bnC n (fun _ => false)).toArray := by
      rw [z2, hN]
      apply Array.ext_getElem?
      intro j
      by_cases hj : j ≤ n
      · have hr : (bnC n (fun _ => false)).toArray[j]? = some (.bool false) := by rw [List.getElem?_toArray, bnC_at n _ j hj]
        rw [hr]; simp [madeCells, Value.cells, show j < n + 1 by omega, Nat.mod_one]
      · have hr : (bnC n (fun _ => false)).toArray[j]? = none := by rw [List.getElem?_toArray, List.getElem?_eq_none (by simp [bnC]; omega)]
        rw [hr]; simp [madeCells]; omega
    rw [hm, e, hN]
theorem make49 (w : World) (n : Nat) (h : n < 1000000) : (Instr.makeSlice 49 (.int .i64 ((n : Int) + 1)) (.int .i64 ((n : Int) + 1))).run Try.prog w = .ok (.slice (some ⟨w.heap.size, 0, none⟩) (n + 1) (n + 1)) (w.alloc (.cells (ahC n (fun _ => .slice none 0 0)).toArray 34)) := by
  have hz : (Try.prog.info? 34).map (fun i => (i.zero, i.size, i.bytes)) = some (some (.slice none 0 0), 1, 24) := by kernel_rfl
  cases hq : Try.prog.info? 34 with
  | none => rw [hq] at hz; cases hz
  | some i =>
    rw [hq] at hz
    have hz2 : i.zero = some (.slice none 0 0) ∧ i.size = 1 ∧ i.bytes = 24 := by simpa using hz
    obtain ⟨z1, z2, z3⟩ := hz2
    have hm := run_make (P := Try.prog) w 49 34 i (.slice none 0 0) Try.underlying49 hq z1 .i64 .i64 ((n : Int) + 1) ((n : Int) + 1) (by omega) (by omega) (by rw [z3]; omega) (by omega)
    have hN : ((n : Int) + 1).toNat = n + 1 := by omega
    have e : madeCells (Value.slice none 0 0).cells (((n : Int) + 1).toNat * i.size) = (ahC n (fun _ => .slice none 0 0)).toArray := by
      rw [z2, hN]
      apply Array.ext_getElem?
      intro j
      by_cases hj : j ≤ n
      · have hr : (ahC n (fun _ => .slice none 0 0)).toArray[j]? = some (.slice none 0 0) := by rw [List.getElem?_toArray, ahC_at n _ j hj]
        rw [hr]; simp [madeCells, Value.cells, show j < n + 1 by omega, Nat.mod_one]
      · have hr : (ahC n (fun _ => .slice none 0 0)).toArray[j]? = none := by rw [List.getElem?_toArray, List.getElem?_eq_none (by simp [ahC]; omega)]
        rw [hr]; simp [madeCells]; omega
    rw [hm, e, hN]
theorem Kp.cell {w w' : World} (h : Kp w w') {b o : Nat} {v : Value} (hc : w.cell? ⟨b, o, none⟩ = some v) : w'.cell? ⟨b, o, none⟩ = some v := Chg.cell' h (fun e => e) hc
def ops22_1 : Array Oper := #[{ dst := some 8, op := Op.fieldAddr 31 (Operand.tmp 2) 6, type := 0, pos := "walk.go:12", after := #[], guard := none },
  { dst := some 9, op := Op.load 26 (Operand.tmp 8), type := 26, pos := "walk.go:12", after := #[{ on := 0, ground := Ground.data }], guard := none },
  { dst := some 10, op := Op.call { callee := Callee.builtin Builtin.len, args := #[Operand.tmp 9], argTypes := #[26] }, type := 3, pos := "walk.go:12", after := #[{ on := 1, ground := Ground.data }], guard := none },
  { dst := some 11, op := Op.binOp BinOp.add 3 (Operand.tmp 10) (Operand.const (Value.int IntKind.i64 1)) 3, type := 3, pos := "walk.go:12", after := #[{ on := 2, ground := Ground.data }], guard := none },
  { dst := some 12, op := Op.makeSlice 61 (Operand.tmp 11) (Operand.tmp 11), type := 61, pos := "walk.go:12", after := #[{ on := 3, ground := Ground.data }, { on := 3, ground := Ground.data }], guard := none },
  { dst := some 13, op := Op.fieldAddr 31 (Operand.tmp 2) 6, type := 0, pos := "walk.go:12", after := #[], guard := none },
  { dst := some 14, op := Op.load 26 (Operand.tmp 13), type := 26, pos := "walk.go:12", after := #[{ on := 5, ground := Ground.data }], guard := none },
  { dst := some 15, op := Op.call { callee := Callee.builtin Builtin.len, args := #[Operand.tmp 14], argTypes := #[26] }, type := 3, pos := "walk.go:12", after := #[{ on := 6, ground := Ground.data }], guard := none },
  { dst := some 16, op := Op.binOp BinOp.add 3 (Operand.tmp 15) (Operand.const (Value.int IntKind.i64 1)) 3, type := 3, pos := "walk.go:12", after := #[{ on := 7, ground := Ground.data }], guard := none },
  { dst := some 17, op := Op.makeSlice 49 (Operand.tmp 16) (Operand.tmp 16), type := 49, pos := "walk.go:12", after := #[{ on := 8, ground := Ground.data }, { on := 8, ground := Ground.data }], guard := none },
  { dst := some 18, op := Op.build 84 #[(0, Operand.tmp 12), (1, Operand.tmp 17)], type := 84, pos := "walk.go:12", after := #[{ on := 4, ground := Ground.data }, { on := 9, ground := Ground.data }], guard := none },
  { dst := some 19, op := Op.box 84 (Operand.tmp 18), type := 65, pos := "walk.go:12", after := #[{ on := 10, ground := Ground.data }], guard := none },
  { dst := some 5, op := Op.assign (Operand.tmp 19), type := 65, pos := "walk.go:12", after := #[{ on := 11, ground := Ground.data }, { on := 0, ground := Ground.phase }, { on := 1, ground := Ground.phase }, { on := 2, ground := Ground.phase }, { on := 3, ground := Ground.phase }, { on := 4, ground := Ground.phase }, { on := 5, ground := Ground.phase }, { on := 6, ground := Ground.phase }, { on := 7, ground := Ground.phase }, { on := 8, ground := Ground.phase }, { on := 9, ground := Ground.phase }, { on := 10, ground := Ground.phase }, { on := 11, ground := Ground.phase }], guard := none }]
set_option maxHeartbeats 4000000 in
set_option maxRecDepth 100000 in
theorem reg22_1 (W : World) (gb n cc : Nat) (pc : Option Addr) (hn : n < 1000000) (hS : W.cell? ⟨gb, 8, none⟩ = some (.slice pc n cc))
    (Q : Exit → Act → World → Prop) (hPan : ∀ c (a : Act) w (d : Option Tmp) v, Q (.panic c) (a.put d v) w → Q (.panic c) a w) {u0 u1 u3 u4 u5 u6 u7 u8 u9 u10 u11 u12 u13 u14 u15 u16 u17 u18 u19 u20 u21 u22 u23 u24 u25 u26 u27 u28 u29 u30 u31 u32 u33 u34 u35 u36 u37 u38 u39 u40 u41 u42 u43 u44 u45 u46 : Value}
    (hQ : ∀ Wb Bb Ba w1, IsW w1 Wb Bb Ba n (fun _ => false) (fun _ => .slice none 0 0) (fun _ => []) → Kp W.drew w1 → W.heap.size ≤ Wb → W.heap.size ≤ Bb → W.heap.size ≤ Ba → Q .normal ⟨#[u0, u1, .pointer (some ⟨gb, 0, none⟩), u3, u4, .pointer (some ⟨Wb, 0, none⟩), u6, u7, .pointer (some ⟨gb, 8, none⟩), .slice pc n cc, .int .i64 (n : Nat), .int .i64 ((n : Int) + 1), .slice (some ⟨Bb, 0, none⟩) (n + 1) (n + 1), .pointer (some ⟨gb, 8, none⟩), .slice pc n cc, .int .i64 (n : Nat), .int .i64 ((n : Int) + 1), .slice (some ⟨Ba, 0, none⟩) (n + 1) (n + 1), .agg #[.slice (some ⟨Bb, 0, none⟩) (n + 1) (n + 1), .slice (some ⟨Ba, 0, none⟩) (n + 1) (n + 1)], .pointer (some ⟨Wb, 0, none⟩), u20, u21, u22, u23, u24, u25, u26, u27, u28, u29, u30, u31, u32, u33, u34, u35, u36, u37, u38, u39, u40, u41, u42, u43, u44, u45, u46], []⟩ w1) :
    Code.wp Try.prog (Code.region 1 ops22_1 true) Q ⟨#[u0, u1, .pointer (some ⟨gb, 0, none⟩), u3, u4, u5, u6, u7, u8, u9, u10, u11, u12, u13, u14, u15, u16, u17, u18, u19, u20, u21, u22, u23, u24, u25, u26, u27, u28, u29, u30, u31, u32, u33, u34, u35, u36, u37, u38, u39, u40, u41, u42, u43, u44, u45, u46], []⟩ W := by
  have k0 : Kp W W.drew := (Chg.refl _ _).drew
  have hz : W.drew.heap.size = W.heap.size := rfl
  rw [← hz] at hQ
  have m1 := fun w => make61 w n hn
  have m2 := fun w => make49 w n hn
  have hw : IntKind.i64.wrap ((n : Int) + 1) = (n : Int) + 1 := w64 (by omega) (by omega)
  refine wp_region_held_drew (S := fun w' => w'.cell? ⟨gb, 8, none⟩ = some (.slice pc n cc)) hmx (k0.cell hS) (fun HSX => ?_)
  clear k0 hz hS
  obtain ⟨W0, hW0⟩ : ∃ W0, W0 = W.drew := ⟨_, rfl⟩
  rw [← hW0] at HSX hQ ⊢
  clear hW0
  refine wpAnyH_take (i := 0) (oi := { dst := some 8, op := Op.fieldAddr 31 (Operand.tmp 2) 6, type := 0, pos := "walk.go:12", after := #[], guard := none }) (v := .pointer (some ⟨gb, 8, none⟩)) rfl (by kernel_rfl) (by kernel_rfl) (by kernel_rfl) (fun _ _ _ h => hPan _ _ _ _ _ h) (Or.inl ⟨by rfl, ?_⟩) HSX ?_
  · intro wx d0
    skip
    go_simp
  simp only [Act.put, List.setIfInBounds_toArray, List.set_cons_zero, List.set_cons_succ]
  refine wpAnyH_take (i := 1) (oi := { dst := some 9, op := Op.load 26 (Operand.tmp 8), type := 26, pos := "walk.go:12", after := #[{ on := 0, ground := Ground.data }], guard := none }) (v := .slice pc n cc) rfl (by kernel_rfl) (by kernel_rfl) (by kernel_rfl) (fun _ _ _ h => hPan _ _ _ _ _ h) (Or.inl ⟨by rfl, ?_⟩) HSX ?_
  · intro wx d0
    skip
    go_simp
  simp only [Act.put, List.setIfInBounds_toArray, List.set_cons_zero, List.set_cons_succ]
  refine wpAnyH_take (i := 2) (oi := { dst := some 10, op := Op.call { callee := Callee.builtin Builtin.len, args := #[Operand.tmp 9], argTypes := #[26] }, type := 3, pos := "walk.go:12", after := #[{ on := 1, ground := Ground.data }], guard := none }) (v := .int .i64 (n : Nat)) rfl (by kernel_rfl) (by kernel_rfl) (by kernel_rfl) (fun _ _ _ h => hPan _ _ _ _ _ h) (Or.inl ⟨by rfl, ?_⟩) HSX ?_
  · intro wx d0
    skip
    go_simp
  simp only [Act.put, List.setIfInBounds_toArray, List.set_cons_zero, List.set_cons_succ]
  refine wpAnyH_take (i := 3) (oi := { dst := some 11, op := Op.binOp BinOp.add 3 (Operand.tmp 10) (Operand.const (Value.int IntKind.i64 1)) 3, type := 3, pos := "walk.go:12", after := #[{ on := 2, ground := Ground.data }], guard := none }) (v := .int .i64 ((n : Int) + 1)) rfl (by kernel_rfl) (by kernel_rfl) (by kernel_rfl) (fun _ _ _ h => hPan _ _ _ _ _ h) (Or.inl ⟨by rfl, ?_⟩) HSX ?_
  · intro wx d0
    skip
    go_simp
  simp only [Act.put, List.setIfInBounds_toArray, List.set_cons_zero, List.set_cons_succ]
  refine wpAnyH_take (i := 5) (oi := { dst := some 13, op := Op.fieldAddr 31 (Operand.tmp 2) 6, type := 0, pos := "walk.go:12", after := #[], guard := none }) (v := .pointer (some ⟨gb, 8, none⟩)) rfl (by kernel_rfl) (by kernel_rfl) (by kernel_rfl) (fun _ _ _ h => hPan _ _ _ _ _ h) (Or.inl ⟨by rfl, ?_⟩) HSX ?_
  · intro wx d0
    skip
    go_simp
  simp only [Act.put, List.setIfInBounds_toArray, List.set_cons_zero, List.set_cons_succ]
  refine wpAnyH_take (i := 6) (oi := { dst := some 14, op := Op.load 26 (Operand.tmp 13), type := 26, pos := "walk.go:12", after := #[{ on := 5, ground := Ground.data }], guard := none }) (v := .slice pc n cc) rfl (by kernel_rfl) (by kernel_rfl) (by kernel_rfl) (fun _ _ _ h => hPan _ _ _ _ _ h) (Or.inl ⟨by rfl, ?_⟩) HSX ?_
  · intro wx d0
    skip
    go_simp
  simp only [Act.put, List.setIfInBounds_toArray, List.set_cons_zero, List.set_cons_succ]
  refine wpAnyH_take (i := 7) (oi := { dst := some 15, op := Op.call { callee := Callee.builtin Builtin.len, args := #[Operand.tmp 14], argTypes := #[26] }, type := 3, pos := "walk.go:12", after := #[{ on := 6, ground := Ground.data }], guard := none }) (v := .int .i64 (n : Nat)) rfl (by kernel_rfl) (by kernel_rfl) (by kernel_rfl) (fun _ _ _ h => hPan _ _ _ _ _ h) (Or.inl ⟨by rfl, ?_⟩) HSX ?_
  · intro wx d0
    skip
    go_simp
  simp only [Act.put, List.setIfInBounds_toArray, List.set_cons_zero, List.set_cons_succ]
  refine wpAnyH_take (i := 8) (oi := { dst := some 16, op := Op.binOp BinOp.add 3 (Operand.tmp 15) (Operand.const (Value.int IntKind.i64 1)) 3, type := 3, pos := "walk.go:12", after := #[{ on := 7, ground := Ground.data }], guard := none }) (v := .int .i64 ((n : Int) + 1)) rfl (by kernel_rfl) (by kernel_rfl) (by kernel_rfl) (fun _ _ _ h => hPan _ _ _ _ _ h) (Or.inl ⟨by rfl, ?_⟩) HSX ?_
  · intro wx d0
    skip
    go_simp
  simp only [Act.put, List.setIfInBounds_toArray, List.set_cons_zero, List.set_cons_succ]
  refine wpAnyH_ready (rs := [4, 9]) (by kernel_rfl) (by simp) ?_
  refine AllReadyH.cons (o := { dst := some 12, op := Op.makeSlice 61 (Operand.tmp 11) (Operand.tmp 11), type := 61, pos := "walk.go:12", after := #[{ on := 3, ground := Ground.data }, { on := 3, ground := Ground.data }], guard := none }) rfl (fun K hK => ?_) (AllReadyH.cons (o := { dst := some 17, op := Op.makeSlice 49 (Operand.tmp 16) (Operand.tmp 16), type := 49, pos := "walk.go:12", after := #[{ on := 8, ground := Ground.data }, { on := 8, ground := Ground.data }], guard := none }) rfl (fun K hK => ?_) AllReadyH.nil)
  · rw [if_pos (by rfl)]
    go_simp
    have k1 : Kp W0 (W0.alloc (.cells (bnC n (fun _ => false)).toArray 4)) := (Chg.refl _ _).alloc _
    refine hK.out _ _ (k1.cell HSX) (fun HSX => ?_)
    clear hK K
    refine wpAnyH_ready (rs := [9]) (by kernel_rfl) (by simp) ?_
    refine AllReadyH.cons (o := { dst := some 17, op := Op.makeSlice 49 (Operand.tmp 16) (Operand.tmp 16), type := 49, pos := "walk.go:12", after := #[{ on := 8, ground := Ground.data }, { on := 8, ground := Ground.data }], guard := none }) rfl (fun K hK => ?_) AllReadyH.nil
    rw [if_pos (by rfl)]
    go_simp
    have k2 : Kp (W0.alloc (.cells (bnC n (fun _ => false)).toArray 4)) ((W0.alloc (.cells (bnC n (fun _ => false)).toArray 4)).alloc (.cells (ahC n (fun _ => .slice none 0 0)).toArray 34)) := (Chg.refl _ _).alloc _
    refine hK.out _ _ (k2.cell HSX) (fun HSX => ?_)
    clear hK K
    obtain ⟨x2, hx2⟩ : ∃ x2, x2 = (W0.alloc (.cells (bnC n (fun _ => false)).toArray 4)).alloc (.cells (ahC n (fun _ => .slice none 0 0)).toArray 34) := ⟨_, rfl⟩
    obtain ⟨Bb, hBb⟩ : ∃ Bb, Bb = W0.heap.size := ⟨_, rfl⟩
    obtain ⟨Ba, hBa⟩ : ∃ Ba, Ba = (W0.heap.size + 1) := ⟨_, rfl⟩
    rw [← hx2] at HSX k2 ⊢
    have gB : x2.heap[Bb]? = some (.cells (bnC n (fun _ => false)).toArray 4 (0, 0)) := by rw [hx2, hBb]; first | exact al_old _ (heap_alloc_new W0 _) | (have := heap_alloc_new (W0.alloc (.cells (bnC n (fun _ => false)).toArray 4)) (.cells (ahC n (fun _ => .slice none 0 0)).toArray 34); simpa using this)
    have gA : x2.heap[Ba]? = some (.cells (ahC n (fun _ => .slice none 0 0)).toArray 34 (0, 0)) := by rw [hx2, hBa]; first | exact al_old _ (heap_alloc_new W0 _) | (have := heap_alloc_new (W0.alloc (.cells (bnC n (fun _ => false)).toArray 4)) (.cells (ahC n (fun _ => .slice none 0 0)).toArray 34); simpa using this)
    have kx : Kp W0 x2 := Kp.trans k1 k2
    have nB : W0.heap.size ≤ Bb := by omega
    have nA : W0.heap.size ≤ Ba := by omega
    rw [← hBa, ← hBb]
    clear hx2 hBb hBa k1 k2
    refine wpAnyH_take (i := 10) (oi := { dst := some 18, op := Op.build 84 #[(0, Operand.tmp 12), (1, Operand.tmp 17)], type := 84, pos := "walk.go:12", after := #[{ on := 4, ground := Ground.data }, { on := 9, ground := Ground.data }], guard := none }) (v := .agg #[.slice (some ⟨Bb, 0, none⟩) (n + 1) (n + 1), .slice (some ⟨Ba, 0, none⟩) (n + 1) (n + 1)]) rfl (by kernel_rfl) (by kernel_rfl) (by kernel_rfl) (fun _ _ _ h => hPan _ _ _ _ _ h) (Or.inl ⟨by rfl, ?_⟩) HSX ?_
    · intro wx d0
      skip
      go_simp
    simp only [Act.put, List.setIfInBounds_toArray, List.set_cons_zero, List.set_cons_succ]
    refine wpAnyH_ready (rs := [11]) (by kernel_rfl) (by simp) ?_
    refine AllReadyH.cons (o := { dst := some 19, op := Op.box 84 (Operand.tmp 18), type := 65, pos := "walk.go:12", after := #[{ on := 10, ground := Ground.data }], guard := none }) rfl (fun K hK => ?_) AllReadyH.nil
    rw [if_pos (by rfl)]
    go_simp
    have k3 : Kp x2 (x2.alloc (.cells #[.slice (some ⟨Bb, 0, none⟩) (n + 1) (n + 1), .slice (some ⟨Ba, 0, none⟩) (n + 1) (n + 1)] 84)) := (Chg.refl _ _).alloc _
    refine hK.out _ _ (k3.cell HSX) (fun HSX => ?_)
    clear hK K
    refine wpAnyH_take (i := 12) (oi := { dst := some 5, op := Op.assign (Operand.tmp 19), type := 65, pos := "walk.go:12", after := #[{ on := 11, ground := Ground.data }, { on := 0, ground := Ground.phase }, { on := 1, ground := Ground.phase }, { on := 2, ground := Ground.phase }, { on := 3, ground := Ground.phase }, { on := 4, ground := Ground.phase }, { on := 5, ground := Ground.phase }, { on := 6, ground := Ground.phase }, { on := 7, ground := Ground.phase }, { on := 8, ground := Ground.phase }, { on := 9, ground := Ground.phase }, { on := 10, ground := Ground.phase }, { on := 11, ground := Ground.phase }], guard := none }) (v := .pointer (some ⟨x2.heap.size, 0, none⟩)) rfl (by kernel_rfl) (by kernel_rfl) (by kernel_rfl) (fun _ _ _ h => hPan _ _ _ _ _ h) (Or.inl ⟨by rfl, ?_⟩) HSX ?_
    · intro wx d0
      skip
      go_simp
    simp only [Act.put, List.setIfInBounds_toArray, List.set_cons_zero, List.set_cons_succ]
    refine wpAnyH_done (by kernel_rfl) ?_ _
    exact hQ x2.heap.size Bb Ba _ ⟨heap_alloc_new x2 _, k3.heap gB, k3.heap gA, fun i hi => ⟨_, _, rfl, .inl rfl⟩, fun i hi => ⟨Nat.le_refl _, by simp [maxLen]⟩⟩ (Kp.trans kx k3) kx.size nB nA
  · rw [if_pos (by rfl)]
    go_simp
    have k1 : Kp W0 (W0.alloc (.cells (ahC n (fun _ => .slice none 0 0)).toArray 34)) := (Chg.refl _ _).alloc _
    refine hK.out _ _ (k1.cell HSX) (fun HSX => ?_)
    clear hK K
    refine wpAnyH_ready (rs := [4]) (by kernel_rfl) (by simp) ?_
    refine AllReadyH.cons (o := { dst := some 12, op := Op.makeSlice 61 (Operand.tmp 11) (Operand.tmp 11), type := 61, pos := "walk.go:12", after := #[{ on := 3, ground := Ground.data }, { on := 3, ground := Ground.data }], guard := none }) rfl (fun K hK => ?_) AllReadyH.nil
    rw [if_pos (by rfl)]
    go_simp
    have k2 : Kp (W0.alloc (.cells (ahC n (fun _ => .slice none 0 0)).toArray 34)) ((W0.alloc (.cells (ahC n (fun _ => .slice none 0 0)).toArray 34)).alloc (.cells (bnC n (fun _ => false)).toArray 4)) := (Chg.refl _ _).alloc _
    refine hK.out _ _ (k2.cell HSX) (fun HSX => ?_)
    clear hK K
    obtain ⟨x2, hx2⟩ : ∃ x2, x2 = (W0.alloc (.cells (ahC n (fun _ => .slice none 0 0)).toArray 34)).alloc (.cells (bnC n (fun _ => false)).toArray 4) := ⟨_, rfl⟩
    obtain ⟨Bb, hBb⟩ : ∃ Bb, Bb = (W0.heap.size + 1) := ⟨_, rfl⟩
    obtain ⟨Ba, hBa⟩ : ∃ Ba, Ba = W0.heap.size := ⟨_, rfl⟩
    rw [← hx2] at HSX k2 ⊢
    have gB : x2.heap[Bb]? = some (.cells (bnC n (fun _ => false)).toArray 4 (0, 0)) := by rw [hx2, hBb]; first | exact al_old _ (heap_alloc_new W0 _) | (have := heap_alloc_new (W0.alloc (.cells (ahC n (fun _ => .slice none 0 0)).toArray 34)) (.cells (bnC n (fun _ => false)).toArray 4); simpa using this)
    have gA : x2.heap[Ba]? = some (.cells (ahC n (fun _ => .slice none 0 0)).toArray 34 (0, 0)) := by rw [hx2, hBa]; first | exact al_old _ (heap_alloc_new W0 _) | (have := heap_alloc_new (W0.alloc (.cells (ahC n (fun _ => .slice none 0 0)).toArray 34)) (.cells (bnC n (fun _ => false)).toArray 4); simpa using this)
    have kx : Kp W0 x2 := Kp.trans k1 k2
    have nB : W0.heap.size ≤ Bb := by omega
    have nA : W0.heap.size ≤ Ba := by omega
    rw [← hBb, ← hBa]
    clear hx2 hBb hBa k1 k2
    refine wpAnyH_take (i := 10) (oi := { dst := some 18, op := Op.build 84 #[(0, Operand.tmp 12), (1, Operand.tmp 17)], type := 84, pos := "walk.go:12", after := #[{ on := 4, ground := Ground.data }, { on := 9, ground := Ground.data }], guard := none }) (v := .agg #[.slice (some ⟨Bb, 0, none⟩) (n + 1) (n + 1), .slice (some ⟨Ba, 0, none⟩) (n + 1) (n + 1)]) rfl (by kernel_rfl) (by kernel_rfl) (by kernel_rfl) (fun _ _ _ h => hPan _ _ _ _ _ h) (Or.inl ⟨by rfl, ?_⟩) HSX ?_
    · intro wx d0
      skip
      go_simp
    simp only [Act.put, List.setIfInBounds_toArray, List.set_cons_zero, List.set_cons_succ]
    refine wpAnyH_ready (rs := [11]) (by kernel_rfl) (by simp) ?_
    refine AllReadyH.cons (o := { dst := some 19, op := Op.box 84 (Operand.tmp 18), type := 65, pos := "walk.go:12", after := #[{ on := 10, ground := Ground.data }], guard := none }) rfl (fun K hK => ?_) AllReadyH.nil
    rw [if_pos (by rfl)]
    go_simp
    have k3 : Kp x2 (x2.alloc (.cells #[.slice (some ⟨Bb, 0, none⟩) (n + 1) (n + 1), .slice (some ⟨Ba, 0, none⟩) (n + 1) (n + 1)] 84)) := (Chg.refl _ _).alloc _
    refine hK.out _ _ (k3.cell HSX) (fun HSX => ?_)
    clear hK K
    refine wpAnyH_take (i := 12) (oi := { dst := some 5, op := Op.assign (Operand.tmp 19), type := 65, pos := "walk.go:12", after := #[{ on := 11, ground := Ground.data }, { on := 0, ground := Ground.phase }, { on := 1, ground := Ground.phase }, { on := 2, ground := Ground.phase }, { on := 3, ground := Ground.phase }, { on := 4, ground := Ground.phase }, { on := 5, ground := Ground.phase }, { on := 6, ground := Ground.phase }, { on := 7, ground := Ground.phase }, { on := 8, ground := Ground.phase }, { on := 9, ground := Ground.phase }, { on := 10, ground := Ground.phase }, { on := 11, ground := Ground.phase }], guard := none }) (v := .pointer (some ⟨x2.heap.size, 0, none⟩)) rfl (by kernel_rfl) (by kernel_rfl) (by kernel_rfl) (fun _ _ _ h => hPan _ _ _ _ _ h) (Or.inl ⟨by rfl, ?_⟩) HSX ?_
    · intro wx d0
      skip
      go_simp
    simp only [Act.put, List.setIfInBounds_toArray, List.set_cons_zero, List.set_cons_succ]
    refine wpAnyH_done (by kernel_rfl) ?_ _
    exact hQ x2.heap.size Bb Ba _ ⟨heap_alloc_new x2 _, k3.heap gB, k3.heap gA, fun i hi => ⟨_, _, rfl, .inl rfl⟩, fun i hi => ⟨Nat.le_refl _, by simp [maxLen]⟩⟩ (Kp.trans kx k3) kx.size nB nA
def ops22_5 : Array Oper := #[{ dst := some 26, op := Op.move (Operand.tmp 5), type := 65, pos := "walk.go:14", after := #[], guard := none },
  { dst := some 27, op := Op.nilCheck (Operand.tmp 26), type := 0, pos := "walk.go:14", after := #[{ on := 0, ground := Ground.data }], guard := none },
  { dst := some 28, op := Op.fieldAddr 84 (Operand.tmp 27) 1, type := 0, pos := "walk.go:14", after := #[{ on := 1, ground := Ground.data }], guard := none },
  { dst := some 29, op := Op.load 49 (Operand.tmp 28), type := 49, pos := "walk.go:14", after := #[{ on := 2, ground := Ground.data }], guard := none },
  { dst := some 30, op := Op.fieldAddr 41 (Operand.tmp 7) 0, type := 0, pos := "walk.go:14", after := #[], guard := none },
  { dst := some 31, op := Op.load 3 (Operand.tmp 30), type := 3, pos := "walk.go:14", after := #[{ on := 4, ground := Ground.data }], guard := none },
  { dst := some 32, op := Op.move (Operand.tmp 5), type := 65, pos := "walk.go:14", after := #[], guard := none },
  { dst := some 33, op := Op.nilCheck (Operand.tmp 32), type := 0, pos := "walk.go:14", after := #[{ on := 6, ground := Ground.data }], guard := none },
  { dst := some 34, op := Op.fieldAddr 84 (Operand.tmp 33) 1, type := 0, pos := "walk.go:14", after := #[{ on := 7, ground := Ground.data }], guard := none },
  { dst := some 35, op := Op.load 49 (Operand.tmp 34), type := 49, pos := "walk.go:14", after := #[{ on := 8, ground := Ground.data }], guard := none },
  { dst := some 36, op := Op.fieldAddr 41 (Operand.tmp 7) 0, type := 0, pos := "walk.go:14", after := #[], guard := none },
  { dst := some 37, op := Op.load 3 (Operand.tmp 36), type := 3, pos := "walk.go:14", after := #[{ on := 10, ground := Ground.data }], guard := none },
  { dst := some 38, op := Op.indexAddr 49 (Operand.tmp 35) (Operand.tmp 37), type := 0, pos := "walk.go:14", after := #[{ on := 9, ground := Ground.data }, { on := 11, ground := Ground.data }], guard := none },
  { dst := some 39, op := Op.load 34 (Operand.tmp 38), type := 34, pos := "walk.go:14", after := #[{ on := 12, ground := Ground.data }], guard := none },
  { dst := some 40, op := Op.fieldAddr 41 (Operand.tmp 7) 1, type := 0, pos := "walk.go:14", after := #[], guard := none },
  { dst := some 41, op := Op.load 3 (Operand.tmp 40), type := 3, pos := "walk.go:14", after := #[{ on := 14, ground := Ground.data }], guard := none },
  { dst := some 42, op := Op.buildSlice 34 1 #[(0, Operand.tmp 41)], type := 34, pos := "walk.go:14", after := #[{ on := 15, ground := Ground.data }], guard := none },
  { dst := some 43, op := Op.call { callee := Callee.builtin Builtin.append, args := #[Operand.tmp 39, Operand.tmp 42], argTypes := #[34, 34] }, type := 34, pos := "walk.go:14", after := #[{ on := 13, ground := Ground.data }, { on := 16, ground := Ground.data }], guard := none },
  { dst := some 44, op := Op.indexAddr 49 (Operand.tmp 29) (Operand.tmp 31), type := 0, pos := "walk.go:14", after := #[{ on := 3, ground := Ground.data }, { on := 5, ground := Ground.data }, { on := 0, ground := Ground.phase }, { on := 1, ground := Ground.phase }, { on := 2, ground := Ground.phase }, { on := 3, ground := Ground.phase }, { on := 4, ground := Ground.phase }, { on := 5, ground := Ground.phase }, { on := 6, ground := Ground.phase }, { on := 7, ground := Ground.phase }, { on := 8, ground := Ground.phase }, { on := 9, ground := Ground.phase }, { on := 10, ground := Ground.phase }, { on := 11, ground := Ground.phase }, { on := 12, ground := Ground.phase }, { on := 13, ground := Ground.phase }, { on := 14, ground := Ground.phase }, { on := 15, ground := Ground.phase }, { on := 16, ground := Ground.phase }, { on := 17, ground := Ground.phase }], guard := none },
  { dst := none, op := Op.store 34 (Operand.tmp 44) (Operand.tmp 43), type := 0, pos := "walk.go:14", after := #[{ on := 18, ground := Ground.data }, { on := 17, ground := Ground.data }, { on := 17, ground := Ground.chain }, { on := 0, ground := Ground.phase }, { on := 1, ground := Ground.phase }, { on := 2, ground := Ground.phase }, { on := 3, ground := Ground.phase }, { on := 4, ground := Ground.phase }, { on := 5, ground := Ground.phase }, { on := 6, ground := Ground.phase }, { on := 7, ground := Ground.phase }, { on := 8, ground := Ground.phase }, { on := 9, ground := Ground.phase }, { on := 10, ground := Ground.phase }, { on := 11, ground := Ground.phase }, { on := 12, ground := Ground.phase }, { on := 13, ground := Ground.phase }, { on := 14, ground := Ground.phase }, { on := 15, ground := Ground.phase }, { on := 16, ground := Ground.phase }, { on := 17, ground := Ground.phase }], guard := none }]
set_option maxHeartbeats 4000000 in
set_option maxRecDepth 100000 in
theorem reg22_5 (W wa : World) (Wb Ba eb n f t g nn cc : Nat) (row v' : Value) (hf : f ≤ n) (hn : n < 1000000) (hS : (fun w' => w'.cell? ⟨Wb, 1, none⟩ = some (.slice (some ⟨Ba, 0, none⟩) (n + 1) (n + 1)) ∧ w'.cell? ⟨eb, 0, none⟩ = some (.int .i64 (f : Nat)) ∧ w'.cell? ⟨eb, 1, none⟩ = some (.int .i64 (t : Nat))) W) (hrow : W.cell? ⟨Ba, f, none⟩ = some row)
    (hr : (Builtin.append_ #[34, 34] 34 #[row, .slice (some ⟨W.heap.size, 0, none⟩) 1 1]).run Try.prog (W.drew.alloc (.cells #[.int .i64 (t : Nat)] 3)) = .ok v' wa) (HA : (fun w' => w'.cell? ⟨Wb, 1, none⟩ = some (.slice (some ⟨Ba, 0, none⟩) (n + 1) (n + 1)) ∧ w'.cell? ⟨eb, 0, none⟩ = some (.int .i64 (f : Nat)) ∧ w'.cell? ⟨eb, 1, none⟩ = some (.int .i64 (t : Nat))) wa) (hv : v' = .slice (some ⟨g, 0, none⟩) nn cc)
    (hrow2 : (wa.cell? ⟨Ba, f, none⟩) = some row) (hfr : wa.frozen? ⟨Ba, f, none⟩ = false) (HZ : (fun w' => w'.cell? ⟨Wb, 1, none⟩ = some (.slice (some ⟨Ba, 0, none⟩) (n + 1) (n + 1)) ∧ w'.cell? ⟨eb, 0, none⟩ = some (.int .i64 (f : Nat)) ∧ w'.cell? ⟨eb, 1, none⟩ = some (.int .i64 (t : Nat))) (wa.setCell ⟨Ba, f, none⟩ v'))
    (Q : Exit → Act → World → Prop) (hPan : ∀ c (a : Act) w (d : Option Tmp) v, Q (.panic c) (a.put d v) w → Q (.panic c) a w) {u0 u1 u2 u3 u4 u6 u8 u9 u10 u11 u12 u13 u14 u15 u16 u17 u18 u19 u20 u21 u22 u23 u24 u25 u26 u27 u28 u29 u30 u31 u32 u33 u34 u35 u36 u37 u38 u39 u40 u41 u42 u43 u44 u45 u46 : Value}
    (hQ : Q .normal ⟨#[u0, u1, u2, u3, u4, .pointer (some ⟨Wb, 0, none⟩), u6, .pointer (some ⟨eb, 0, none⟩), u8, u9, u10, u11, u12, u13, u14, u15, u16, u17, u18, u19, u20, u21, u22, u23, u24, u25, .pointer (some ⟨Wb, 0, none⟩), .pointer (some ⟨Wb, 0, none⟩), .pointer (some ⟨Wb, 1, none⟩), .slice (some ⟨Ba, 0, none⟩) (n + 1) (n + 1), .pointer (some ⟨eb, 0, none⟩), .int .i64 (f : Nat), .pointer (some ⟨Wb, 0, none⟩), .pointer (some ⟨Wb, 0, none⟩), .pointer (some ⟨Wb, 1, none⟩), .slice (some ⟨Ba, 0, none⟩) (n + 1) (n + 1), .pointer (some ⟨eb, 0, none⟩), .int .i64 (f : Nat), .pointer (some ⟨Ba, f, none⟩), row, .pointer (some ⟨eb, 1, none⟩), .int .i64 (t : Nat), .slice (some ⟨W.heap.size, 0, none⟩) 1 1, v', .pointer (some ⟨Ba, f, none⟩), u45, u46], []⟩ (wa.setCell ⟨Ba, f, none⟩ v')) :
    Code.wp Try.prog (Code.region 5 ops22_5 true) Q ⟨#[u0, u1, u2, u3, u4, .pointer (some ⟨Wb, 0, none⟩), u6, .pointer (some ⟨eb, 0, none⟩), u8, u9, u10, u11, u12, u13, u14, u15, u16, u17, u18, u19, u20, u21, u22, u23, u24, u25, u26, u27, u28, u29, u30, u31, u32, u33, u34, u35, u36, u37, u38, u39, u40, u41, u42, u43, u44, u45, u46], []⟩ W := by
  have k0 : Kp W W.drew := (Chg.refl _ _).drew
  have hz : W.drew.heap.size = W.heap.size := rfl
  rw [← hz] at hQ hr
  have hw1 : (f : Int) < (n : Int) + 1 := by omega
  have hrow' : W.drew.cell? ⟨Ba, f, none⟩ = some row := k0.cell hrow
  refine wp_region_held_drew (S := fun w' => w'.cell? ⟨Wb, 1, none⟩ = some (.slice (some ⟨Ba, 0, none⟩) (n + 1) (n + 1)) ∧ w'.cell? ⟨eb, 0, none⟩ = some (.int .i64 (f : Nat)) ∧ w'.cell? ⟨eb, 1, none⟩ = some (.int .i64 (t : Nat))) hmx ⟨k0.cell hS.1, k0.cell hS.2.1, k0.cell hS.2.2⟩ (fun HSX => ?_)
  clear k0 hz hS hrow
  obtain ⟨W0, hW0⟩ : ∃ W0, W0 = W.drew := ⟨_, rfl⟩
  rw [← hW0] at HSX hQ hr hrow' ⊢
  clear hW0
  subst hv
  refine wpAnyH_take (i := 0) (oi := { dst := some 26, op := Op.move (Operand.tmp 5), type := 65, pos := "walk.go:14", after := #[], guard := none }) (v := .pointer (some ⟨Wb, 0, none⟩)) rfl (by kernel_rfl) (by kernel_rfl) (by kernel_rfl) (fun _ _ _ h => hPan _ _ _ _ _ h) (Or.inl ⟨by rfl, ?_⟩) HSX ?_
  · intro wx d0
    obtain ⟨q0, q1, q2⟩ := d0
    go_simp
  simp only [Act.put, List.setIfInBounds_toArray, List.set_cons_zero, List.set_cons_succ]
  refine wpAnyH_take (i := 1) (oi := { dst := some 27, op := Op.nilCheck (Operand.tmp 26), type := 0, pos := "walk.go:14", after := #[{ on := 0, ground := Ground.data }], guard := none }) (v := .pointer (some ⟨Wb, 0, none⟩)) rfl (by kernel_rfl) (by kernel_rfl) (by kernel_rfl) (fun _ _ _ h => hPan _ _ _ _ _ h) (Or.inl ⟨by rfl, ?_⟩) HSX ?_
  · intro wx d0
    obtain ⟨q0, q1, q2⟩ := d0
    go_simp
  simp only [Act.put, List.setIfInBounds_toArray, List.set_cons_zero, List.set_cons_succ]
  refine wpAnyH_take (i := 2) (oi := { dst := some 28, op := Op.fieldAddr 84 (Operand.tmp 27) 1, type := 0, pos := "walk.go:14", after := #[{ on := 1, ground := Ground.data }], guard := none }) (v := .pointer (some ⟨Wb, 1, none⟩)) rfl (by kernel_rfl) (by kernel_rfl) (by kernel_rfl) (fun _ _ _ h => hPan _ _ _ _ _ h) (Or.inl ⟨by rfl, ?_⟩) HSX ?_
  · intro wx d0
    obtain ⟨q0, q1, q2⟩ := d0
    go_simp
  simp only [Act.put, List.setIfInBounds_toArray, List.set_cons_zero, List.set_cons_succ]
  refine wpAnyH_take (i := 3) (oi := { dst := some 29, op := Op.load 49 (Operand.tmp 28), type := 49, pos := "walk.go:14", after := #[{ on := 2, ground := Ground.data }], guard := none }) (v := .slice (some ⟨Ba, 0, none⟩) (n + 1) (n + 1)) rfl (by kernel_rfl) (by kernel_rfl) (by kernel_rfl) (fun _ _ _ h => hPan _ _ _ _ _ h) (Or.inl ⟨by rfl, ?_⟩) HSX ?_
  · intro wx d0
    obtain ⟨q0, q1, q2⟩ := d0
    go_simp
  simp only [Act.put, List.setIfInBounds_toArray, List.set_cons_zero, List.set_cons_succ]
  refine wpAnyH_take (i := 4) (oi := { dst := some 30, op := Op.fieldAddr 41 (Operand.tmp 7) 0, type := 0, pos := "walk.go:14", after := #[], guard := none }) (v := .pointer (some ⟨eb, 0, none⟩)) rfl (by kernel_rfl) (by kernel_rfl) (by kernel_rfl) (fun _ _ _ h => hPan _ _ _ _ _ h) (Or.inl ⟨by rfl, ?_⟩) HSX ?_
  · intro wx d0
    obtain ⟨q0, q1, q2⟩ := d0
    go_simp
  simp only [Act.put, List.setIfInBounds_toArray, List.set_cons_zero, List.set_cons_succ]
  refine wpAnyH_take (i := 5) (oi := { dst := some 31, op := Op.load 3 (Operand.tmp 30), type := 3, pos := "walk.go:14", after := #[{ on := 4, ground := Ground.data }], guard := none }) (v := .int .i64 (f : Nat)) rfl (by kernel_rfl) (by kernel_rfl) (by kernel_rfl) (fun _ _ _ h => hPan _ _ _ _ _ h) (Or.inl ⟨by rfl, ?_⟩) HSX ?_
  · intro wx d0
    obtain ⟨q0, q1, q2⟩ := d0
    go_simp
  simp only [Act.put, List.setIfInBounds_toArray, List.set_cons_zero, List.set_cons_succ]
  refine wpAnyH_take (i := 6) (oi := { dst := some 32, op := Op.move (Operand.tmp 5), type := 65, pos := "walk.go:14", after := #[], guard := none }) (v := .pointer (some ⟨Wb, 0, none⟩)) rfl (by kernel_rfl) (by kernel_rfl) (by kernel_rfl) (fun _ _ _ h => hPan _ _ _ _ _ h) (Or.inl ⟨by rfl, ?_⟩) HSX ?_
  · intro wx d0
    obtain ⟨q0, q1, q2⟩ := d0
    go_simp
  simp only [Act.put, List.setIfInBounds_toArray, List.set_cons_zero, List.set_cons_succ]
  refine wpAnyH_take (i := 7) (oi := { dst := some 33, op := Op.nilCheck (Operand.tmp 32), type := 0, pos := "walk.go:14", after := #[{ on := 6, ground := Ground.data }], guard := none }) (v := .pointer (some ⟨Wb, 0, none⟩)) rfl (by kernel_rfl) (by kernel_rfl) (by kernel_rfl) (fun _ _ _ h => hPan _ _ _ _ _ h) (Or.inl ⟨by rfl, ?_⟩) HSX ?_
  · intro wx d0
    obtain ⟨q0, q1, q2⟩ := d0
    go_simp
  simp only [Act.put, List.setIfInBounds_toArray, List.set_cons_zero, List.set_cons_succ]
  refine wpAnyH_take (i := 8) (oi := { dst := some 34, op := Op.fieldAddr 84 (Operand.tmp 33) 1, type := 0, pos := "walk.go:14", after := #[{ on := 7, ground := Ground.data }], guard := none }) (v := .pointer (some ⟨Wb, 1, none⟩)) rfl (by kernel_rfl) (by kernel_rfl) (by kernel_rfl) (fun _ _ _ h => hPan _ _ _ _ _ h) (Or.inl ⟨by rfl, ?_⟩) HSX ?_
  · intro wx d0
    obtain ⟨q0, q1, q2⟩ := d0
    go_simp
  simp only [Act.put, List.setIfInBounds_toArray, List.set_cons_zero, List.set_cons_succ]
  refine wpAnyH_take (i := 9) (oi := { dst := some 35, op := Op.load 49 (Operand.tmp 34), type := 49, pos := "walk.go:14", after := #[{ on := 8, ground := Ground.data }], guard := none }) (v := .slice (some ⟨Ba, 0, none⟩) (n + 1) (n + 1)) rfl (by kernel_rfl) (by kernel_rfl) (by kernel_rfl) (fun _ _ _ h => hPan _ _ _ _ _ h) (Or.inl ⟨by rfl, ?_⟩) HSX ?_
  · intro wx d0
    obtain ⟨q0, q1, q2⟩ := d0
    go_simp
  simp only [Act.put, List.setIfInBounds_toArray, List.set_cons_zero, List.set_cons_succ]
  refine wpAnyH_take (i := 10) (oi := { dst := some 36, op := Op.fieldAddr 41 (Operand.tmp 7) 0, type := 0, pos := "walk.go:14", after := #[], guard := none }) (v := .pointer (some ⟨eb, 0, none⟩)) rfl (by kernel_rfl) (by kernel_rfl) (by kernel_rfl) (fun _ _ _ h => hPan _ _ _ _ _ h) (Or.inl ⟨by rfl, ?_⟩) HSX ?_
  · intro wx d0
    obtain ⟨q0, q1, q2⟩ := d0
    go_simp
  simp only [Act.put, List.setIfInBounds_toArray, List.set_cons_zero, List.set_cons_succ]
  refine wpAnyH_take (i := 11) (oi := { dst := some 37, op := Op.load 3 (Operand.tmp 36), type := 3, pos := "walk.go:14", after := #[{ on := 10, ground := Ground.data }], guard := none }) (v := .int .i64 (f : Nat)) rfl (by kernel_rfl) (by kernel_rfl) (by kernel_rfl) (fun _ _ _ h => hPan _ _ _ _ _ h) (Or.inl ⟨by rfl, ?_⟩) HSX ?_
  · intro wx d0
    obtain ⟨q0, q1, q2⟩ := d0
    go_simp
  simp only [Act.put, List.setIfInBounds_toArray, List.set_cons_zero, List.set_cons_succ]
  refine wpAnyH_take (i := 12) (oi := { dst := some 38, op := Op.indexAddr 49 (Operand.tmp 35) (Operand.tmp 37), type := 0, pos := "walk.go:14", after := #[{ on := 9, ground := Ground.data }, { on := 11, ground := Ground.data }], guard := none }) (v := .pointer (some ⟨Ba, f, none⟩)) rfl (by kernel_rfl) (by kernel_rfl) (by kernel_rfl) (fun _ _ _ h => hPan _ _ _ _ _ h) (Or.inl ⟨by rfl, ?_⟩) HSX ?_
  · intro wx d0
    obtain ⟨q0, q1, q2⟩ := d0
    go_simp
  simp only [Act.put, List.setIfInBounds_toArray, List.set_cons_zero, List.set_cons_succ]
  refine wpAnyH_take (i := 14) (oi := { dst := some 40, op := Op.fieldAddr 41 (Operand.tmp 7) 1, type := 0, pos := "walk.go:14", after := #[], guard := none }) (v := .pointer (some ⟨eb, 1, none⟩)) rfl (by kernel_rfl) (by kernel_rfl) (by kernel_rfl) (fun _ _ _ h => hPan _ _ _ _ _ h) (Or.inl ⟨by rfl, ?_⟩) HSX ?_
  · intro wx d0
    obtain ⟨q0, q1, q2⟩ := d0
    go_simp
  simp only [Act.put, List.setIfInBounds_toArray, List.set_cons_zero, List.set_cons_succ]
  refine wpAnyH_take (i := 15) (oi := { dst := some 41, op := Op.load 3 (Operand.tmp 40), type := 3, pos := "walk.go:14", after := #[{ on := 14, ground := Ground.data }], guard := none }) (v := .int .i64 (t : Nat)) rfl (by kernel_rfl) (by kernel_rfl) (by kernel_rfl) (fun _ _ _ h => hPan _ _ _ _ _ h) (Or.inl ⟨by rfl, ?_⟩) HSX ?_
  · intro wx d0
    obtain ⟨q0, q1, q2⟩ := d0
    go_simp
  simp only [Act.put, List.setIfInBounds_toArray, List.set_cons_zero, List.set_cons_succ]
  refine wpAnyH_ready (rs := [13, 16]) (by kernel_rfl) (by simp) ?_
  refine AllReadyH.cons (o := { dst := some 39, op := Op.load 34 (Operand.tmp 38), type := 34, pos := "walk.go:14", after := #[{ on := 12, ground := Ground.data }], guard := none }) rfl (fun K hK => ?_) (AllReadyH.cons (o := { dst := some 42, op := Op.buildSlice 34 1 #[(0, Operand.tmp 41)], type := 34, pos := "walk.go:14", after := #[{ on := 15, ground := Ground.data }], guard := none }) rfl (fun K hK => ?_) AllReadyH.nil)
  · rw [if_pos (by rfl)]
    go_simp
    refine hK.out _ _ HSX (fun HSX => ?_)
    clear hK K
    refine wpAnyH_ready (rs := [16]) (by kernel_rfl) (by simp) ?_
    refine AllReadyH.cons (o := { dst := some 42, op := Op.buildSlice 34 1 #[(0, Operand.tmp 41)], type := 34, pos := "walk.go:14", after := #[{ on := 15, ground := Ground.data }], guard := none }) rfl (fun K hK => ?_) AllReadyH.nil
    rw [if_pos (by rfl)]
    go_simp
    have k1 : Kp W0 (W0.alloc (.cells #[.int .i64 (t : Nat)] 3)) := (Chg.refl _ _).alloc _
    refine hK.out _ _ ⟨k1.cell HSX.1, k1.cell HSX.2.1, k1.cell HSX.2.2⟩ (fun HSX => ?_)
    clear hK K
    have hrow1 := k1.cell hrow'
    refine wpAnyH_ready (rs := [17]) (by kernel_rfl) (by simp) ?_
    refine AllReadyH.cons (o := { dst := some 43, op := Op.call { callee := Callee.builtin Builtin.append, args := #[Operand.tmp 39, Operand.tmp 42], argTypes := #[34, 34] }, type := 34, pos := "walk.go:14", after := #[{ on := 13, ground := Ground.data }, { on := 16, ground := Ground.data }], guard := none }) rfl (fun K hK => ?_) AllReadyH.nil
    refine step_app rfl (.tmp 39) (.tmp 42) 34 34 rfl row _ (.slice (some ⟨g, 0, none⟩) nn cc) wa rfl rfl hr ?_
    simp only [Act.put, List.setIfInBounds_toArray, List.set_cons_zero, List.set_cons_succ]
    refine hK.out _ _ HA (fun HSX => ?_)
    clear hK K
    refine wpAnyH_take (i := 18) (oi := { dst := some 44, op := Op.indexAddr 49 (Operand.tmp 29) (Operand.tmp 31), type := 0, pos := "walk.go:14", after := #[{ on := 3, ground := Ground.data }, { on := 5, ground := Ground.data }, { on := 0, ground := Ground.phase }, { on := 1, ground := Ground.phase }, { on := 2, ground := Ground.phase }, { on := 3, ground := Ground.phase }, { on := 4, ground := Ground.phase }, { on := 5, ground := Ground.phase }, { on := 6, ground := Ground.phase }, { on := 7, ground := Ground.phase }, { on := 8, ground := Ground.phase }, { on := 9, ground := Ground.phase }, { on := 10, ground := Ground.phase }, { on := 11, ground := Ground.phase }, { on := 12, ground := Ground.phase }, { on := 13, ground := Ground.phase }, { on := 14, ground := Ground.phase }, { on := 15, ground := Ground.phase }, { on := 16, ground := Ground.phase }, { on := 17, ground := Ground.phase }], guard := none }) (v := .pointer (some ⟨Ba, f, none⟩)) rfl (by kernel_rfl) (by kernel_rfl) (by kernel_rfl) (fun _ _ _ h => hPan _ _ _ _ _ h) (Or.inl ⟨by rfl, ?_⟩) HSX ?_
    · intro wx d0
      obtain ⟨q0, q1, q2⟩ := d0
      go_simp
    simp only [Act.put, List.setIfInBounds_toArray, List.set_cons_zero, List.set_cons_succ]
    refine wpAnyH_ready (rs := [19]) (by kernel_rfl) (by simp) ?_
    refine AllReadyH.cons (o := { dst := none, op := Op.store 34 (Operand.tmp 44) (Operand.tmp 43), type := 0, pos := "walk.go:14", after := #[{ on := 18, ground := Ground.data }, { on := 17, ground := Ground.data }, { on := 17, ground := Ground.chain }, { on := 0, ground := Ground.phase }, { on := 1, ground := Ground.phase }, { on := 2, ground := Ground.phase }, { on := 3, ground := Ground.phase }, { on := 4, ground := Ground.phase }, { on := 5, ground := Ground.phase }, { on := 6, ground := Ground.phase }, { on := 7, ground := Ground.phase }, { on := 8, ground := Ground.phase }, { on := 9, ground := Ground.phase }, { on := 10, ground := Ground.phase }, { on := 11, ground := Ground.phase }, { on := 12, ground := Ground.phase }, { on := 13, ground := Ground.phase }, { on := 14, ground := Ground.phase }, { on := 15, ground := Ground.phase }, { on := 16, ground := Ground.phase }, { on := 17, ground := Ground.phase }], guard := none }) rfl (fun K hK => ?_) AllReadyH.nil
    rw [if_pos (by rfl)]
    go_simp
    refine hK.out _ _ HZ (fun HSX => ?_)
    clear hK K
    refine wpAnyH_done (by kernel_rfl) ?_ _
    exact hQ
  · rw [if_pos (by rfl)]
    go_simp
    have k1 : Kp W0 (W0.alloc (.cells #[.int .i64 (t : Nat)] 3)) := (Chg.refl _ _).alloc _
    refine hK.out _ _ ⟨k1.cell HSX.1, k1.cell HSX.2.1, k1.cell HSX.2.2⟩ (fun HSX => ?_)
    clear hK K
    have hrow1 := k1.cell hrow'
    refine wpAnyH_ready (rs := [13]) (by kernel_rfl) (by simp) ?_
    refine AllReadyH.cons (o := { dst := some 39, op := Op.load 34 (Operand.tmp 38), type := 34, pos := "walk.go:14", after := #[{ on := 12, ground := Ground.data }], guard := none }) rfl (fun K hK => ?_) AllReadyH.nil
    rw [if_pos (by rfl)]
    go_simp
    refine hK.out _ _ HSX (fun HSX => ?_)
    clear hK K
    refine wpAnyH_ready (rs := [17]) (by kernel_rfl) (by simp) ?_
    refine AllReadyH.cons (o := { dst := some 43, op := Op.call { callee := Callee.builtin Builtin.append, args := #[Operand.tmp 39, Operand.tmp 42], argTypes := #[34, 34] }, type := 34, pos := "walk.go:14", after := #[{ on := 13, ground := Ground.data }, { on := 16, ground := Ground.data }], guard := none }) rfl (fun K hK => ?_) AllReadyH.nil
    refine step_app rfl (.tmp 39) (.tmp 42) 34 34 rfl row _ (.slice (some ⟨g, 0, none⟩) nn cc) wa rfl rfl hr ?_
    simp only [Act.put, List.setIfInBounds_toArray, List.set_cons_zero, List.set_cons_succ]
    refine hK.out _ _ HA (fun HSX => ?_)
    clear hK K
    refine wpAnyH_take (i := 18) (oi := { dst := some 44, op := Op.indexAddr 49 (Operand.tmp 29) (Operand.tmp 31), type := 0, pos := "walk.go:14", after := #[{ on := 3, ground := Ground.data }, { on := 5, ground := Ground.data }, { on := 0, ground := Ground.phase }, { on := 1, ground := Ground.phase }, { on := 2, ground := Ground.phase }, { on := 3, ground := Ground.phase }, { on := 4, ground := Ground.phase }, { on := 5, ground := Ground.phase }, { on := 6, ground := Ground.phase }, { on := 7, ground := Ground.phase }, { on := 8, ground := Ground.phase }, { on := 9, ground := Ground.phase }, { on := 10, ground := Ground.phase }, { on := 11, ground := Ground.phase }, { on := 12, ground := Ground.phase }, { on := 13, ground := Ground.phase }, { on := 14, ground := Ground.phase }, { on := 15, ground := Ground.phase }, { on := 16, ground := Ground.phase }, { on := 17, ground := Ground.phase }], guard := none }) (v := .pointer (some ⟨Ba, f, none⟩)) rfl (by kernel_rfl) (by kernel_rfl) (by kernel_rfl) (fun _ _ _ h => hPan _ _ _ _ _ h) (Or.inl ⟨by rfl, ?_⟩) HSX ?_
    · intro wx d0
      obtain ⟨q0, q1, q2⟩ := d0
      go_simp
    simp only [Act.put, List.setIfInBounds_toArray, List.set_cons_zero, List.set_cons_succ]
    refine wpAnyH_ready (rs := [19]) (by kernel_rfl) (by simp) ?_
    refine AllReadyH.cons (o := { dst := none, op := Op.store 34 (Operand.tmp 44) (Operand.tmp 43), type := 0, pos := "walk.go:14", after := #[{ on := 18, ground := Ground.data }, { on := 17, ground := Ground.data }, { on := 17, ground := Ground.chain }, { on := 0, ground := Ground.phase }, { on := 1, ground := Ground.phase }, { on := 2, ground := Ground.phase }, { on := 3, ground := Ground.phase }, { on := 4, ground := Ground.phase }, { on := 5, ground := Ground.phase }, { on := 6, ground := Ground.phase }, { on := 7, ground := Ground.phase }, { on := 8, ground := Ground.phase }, { on := 9, ground := Ground.phase }, { on := 10, ground := Ground.phase }, { on := 11, ground := Ground.phase }, { on := 12, ground := Ground.phase }, { on := 13, ground := Ground.phase }, { on := 14, ground := Ground.phase }, { on := 15, ground := Ground.phase }, { on := 16, ground := Ground.phase }, { on := 17, ground := Ground.phase }], guard := none }) rfl (fun K hK => ?_) AllReadyH.nil
    rw [if_pos (by rfl)]
    go_simp
    refine hK.out _ _ HZ (fun HSX => ?_)
    clear hK K
    refine wpAnyH_done (by kernel_rfl) ?_ _
    exact hQ
end Go.Proofs.Ythgpcmickgcdhaa
