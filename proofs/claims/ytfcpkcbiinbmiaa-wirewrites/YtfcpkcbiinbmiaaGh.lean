import Derived.Test.YtfcpkcbiinbmiaaGg
namespace Go.Proofs.Ytfcpkcbiinbmiaa
open Go.ChangeShapes Go.WideShapes Go.ChangeAt Go.RowKit
set_option linter.unusedVariables false
def ops8_18 : Array Oper := #[{ dst := some 81, op := Op.fieldAddr 77 (Operand.tmp 13) 0, type := 0, pos := "law.go:466", after := #[], guard := none },
  { dst := some 82, op := Op.load 34 (Operand.tmp 81), type := 34, pos := "law.go:466", after := #[{ on := 0, ground := Ground.data }], guard := none },
  { dst := some 83, op := Op.call { callee := Callee.value (Operand.func 23), args := #[Operand.tmp 82], argTypes := #[34] }, type := 34, pos := "law.go:466", after := #[{ on := 1, ground := Ground.data }], guard := none },
  { dst := some 84, op := Op.fieldAddr 77 (Operand.tmp 13) 1, type := 0, pos := "law.go:466", after := #[], guard := none },
  { dst := some 85, op := Op.load 74 (Operand.tmp 84), type := 74, pos := "law.go:466", after := #[{ on := 3, ground := Ground.data }], guard := none },
  { dst := some 86, op := Op.call { callee := Callee.value (Operand.func 38), args := #[Operand.tmp 85], argTypes := #[74] }, type := 74, pos := "law.go:466", after := #[{ on := 4, ground := Ground.data }, { on := 2, ground := Ground.chain }], guard := none },
  { dst := some 87, op := Op.build 77 #[(0, Operand.tmp 83), (1, Operand.tmp 86)], type := 77, pos := "law.go:466", after := #[{ on := 2, ground := Ground.data }, { on := 5, ground := Ground.data }], guard := none },
  { dst := some 15, op := Op.alloc 77, type := 0, pos := "law.go:466", after := #[], guard := none },
  { dst := none, op := Op.store 77 (Operand.tmp 15) (Operand.tmp 87), type := 0, pos := "law.go:466", after := #[{ on := 7, ground := Ground.data }, { on := 6, ground := Ground.data }, { on := 5, ground := Ground.chain }, { on := 0, ground := Ground.phase }, { on := 1, ground := Ground.phase }, { on := 2, ground := Ground.phase }, { on := 3, ground := Ground.phase }, { on := 4, ground := Ground.phase }, { on := 5, ground := Ground.phase }, { on := 6, ground := Ground.phase }, { on := 7, ground := Ground.phase }], guard := none }]
set_option maxHeartbeats 8000000 in
set_option maxRecDepth 100000 in
theorem reg8_18 (W : World) (p R D : Nat) (hS : (fun w' => w'.cell? ⟨p, 0, none⟩ = some (.pointer (some ⟨R, 0, none⟩)) ∧ w'.cell? ⟨p, 1, none⟩ = some (.pointer (some ⟨D, 0, none⟩))) W.drew) (hpz : p < W.heap.size) (hpR : p ≠ R) (hpD : p ≠ D) (hRz : R < W.heap.size) (hDz : D < W.heap.size) (P1 P2 : World → World → Nat → Prop)
    (hc1 : ∀ w1, Kp W w1 → Calls Try.prog 23 #[.pointer (some ⟨R, 0, none⟩)] w1 fun e x => ∃ R2 : Nat, e = .returned (.pointer (some ⟨R2, 0, none⟩)) ∧ Chg w1 x (fun k => k = R) ∧ P1 w1 x R2)
    (hc2 : ∀ w1 x R2 w2, Kp W w1 → Chg w1 x (fun k => k = R) → P1 w1 x R2 → Kp x w2 → Calls Try.prog 38 #[.pointer (some ⟨D, 0, none⟩)] w2 fun e y => ∃ D2 : Nat, e = .returned (.pointer (some ⟨D2, 0, none⟩)) ∧ Chg w2 y (fun k => k = D) ∧ P2 w2 y D2)
    (Q : Exit → Act → World → Prop) (hPan : ∀ c (a : Act) w (d : Option Tmp) v, Q (.panic c) (a.put d v) w → Q (.panic c) a w) {u0 u1 u2 u3 u4 u5 u6 u7 u8 u9 u10 u11 u12 u14 u15 u16 u17 u18 u19 u20 u21 u22 u23 u24 u25 u26 u27 u28 u29 u30 u31 u32 u33 u34 u35 u36 u37 u38 u39 u40 u41 u42 u43 u44 u45 u46 u47 u48 u49 u50 u51 u52 u53 u54 u55 u56 u57 u58 u59 u60 u61 u62 u63 u64 u65 u66 u67 u68 u69 u70 u71 u72 u73 u74 u75 u76 u77 u78 u79 u80 u81 u82 u83 u84 u85 u86 u87 u88 u89 u90 u91 u92 u93 u94 u95 u96 u97 u98 u99 u100 u101 u102 u103 u104 u105 u106 u107 u108 u109 u110 u111 u112 u113 u114 u115 u116 u117 u118 u119 u120 u121 u122 u123 u124 u125 u126 u127 u128 u129 u130 u131 u132 : Value}
    (hQ : ∀ w1 x1 w2 x2 w3 R2 D2 q, Kp W w1 → Chg w1 x1 (fun k => k = R) → P1 w1 x1 R2 → Kp x1 w2 → Chg w2 x2 (fun k => k = D) → P2 w2 x2 D2 → W.heap.size ≤ q → (x2.heap.size ≤ q ∨ x2.heap[q]? = some (.cells #[.pointer none, .pointer none] 77 (0, 0))) → Chg x2 w3 (fun k => k = q) → w3.heap[q]? = some (.cells #[.pointer (some ⟨R2, 0, none⟩), .pointer (some ⟨D2, 0, none⟩)] 77 (0, 0)) → Q .normal ⟨#[u0, u1, u2, u3, u4, u5, u6, u7, u8, u9, u10, u11, u12, .pointer (some ⟨p, 0, none⟩), u14, .pointer (some ⟨q, 0, none⟩), u16, u17, u18, u19, u20, u21, u22, u23, u24, u25, u26, u27, u28, u29, u30, u31, u32, u33, u34, u35, u36, u37, u38, u39, u40, u41, u42, u43, u44, u45, u46, u47, u48, u49, u50, u51, u52, u53, u54, u55, u56, u57, u58, u59, u60, u61, u62, u63, u64, u65, u66, u67, u68, u69, u70, u71, u72, u73, u74, u75, u76, u77, u78, u79, u80, .pointer (some ⟨p, 0, none⟩), .pointer (some ⟨R, 0, none⟩), .pointer (some ⟨R2, 0, none⟩), .pointer (some ⟨p, 1, none⟩), .pointer (some ⟨D, 0, none⟩), .pointer (some ⟨D2, 0, none⟩), .agg #[.pointer (some ⟨R2, 0, none⟩), .pointer (some ⟨D2, 0, none⟩)], u88, u89, u90, u91, u92, u93, u94, u95, u96, u97, u98, u99, u100, u101, u102, u103, u104, u105, u106, u107, u108, u109, u110, u111, u112, u113, u114, u115, u116, u117, u118, u119, u120, u121, u122, u123, u124, u125, u126, u127, u128, u129, u130, u131, u132], []⟩ w3) :
    Code.wp Try.prog (Code.region 18 ops8_18 true) Q ⟨#[u0, u1, u2, u3, u4, u5, u6, u7, u8, u9, u10, u11, u12, .pointer (some ⟨p, 0, none⟩), u14, u15, u16, u17, u18, u19, u20, u21, u22, u23, u24, u25, u26, u27, u28, u29, u30, u31, u32, u33, u34, u35, u36, u37, u38, u39, u40, u41, u42, u43, u44, u45, u46, u47, u48, u49, u50, u51, u52, u53, u54, u55, u56, u57, u58, u59, u60, u61, u62, u63, u64, u65, u66, u67, u68, u69, u70, u71, u72, u73, u74, u75, u76, u77, u78, u79, u80, u81, u82, u83, u84, u85, u86, u87, u88, u89, u90, u91, u92, u93, u94, u95, u96, u97, u98, u99, u100, u101, u102, u103, u104, u105, u106, u107, u108, u109, u110, u111, u112, u113, u114, u115, u116, u117, u118, u119, u120, u121, u122, u123, u124, u125, u126, u127, u128, u129, u130, u131, u132], []⟩ W := by
  have k0 : Kp W W.drew := Kp.drew W
  refine wp_region_held_drew (S := fun w' => w'.cell? ⟨p, 0, none⟩ = some (.pointer (some ⟨R, 0, none⟩)) ∧ w'.cell? ⟨p, 1, none⟩ = some (.pointer (some ⟨D, 0, none⟩))) hmx hS (fun HSX => ?_)
  clear hS
  obtain ⟨W0, hW0⟩ : ∃ W0, W0 = W.drew := ⟨_, rfl⟩
  rw [← hW0] at HSX k0 ⊢
  clear hW0
  refine wpAnyH_take (i := 0) (oi := { dst := some 81, op := Op.fieldAddr 77 (Operand.tmp 13) 0, type := 0, pos := "law.go:466", after := #[], guard := none }) (v := .pointer (some ⟨p, 0, none⟩)) rfl (by kernel_rfl) (by kernel_rfl) (by kernel_rfl) (fun _ _ _ h => hPan _ _ _ _ _ h) (Or.inl ⟨by rfl, ?_⟩) HSX ?_
  · intro wx d0
    obtain ⟨s1, s2⟩ := d0
    go_simp
  simp only [Act.put, List.setIfInBounds_toArray, List.set_cons_zero, List.set_cons_succ]
  refine wpAnyH_take (i := 1) (oi := { dst := some 82, op := Op.load 34 (Operand.tmp 81), type := 34, pos := "law.go:466", after := #[{ on := 0, ground := Ground.data }], guard := none }) (v := .pointer (some ⟨R, 0, none⟩)) rfl (by kernel_rfl) (by kernel_rfl) (by kernel_rfl) (fun _ _ _ h => hPan _ _ _ _ _ h) (Or.inl ⟨by rfl, ?_⟩) HSX ?_
  · intro wx d0
    obtain ⟨s1, s2⟩ := d0
    go_simp
  simp only [Act.put, List.setIfInBounds_toArray, List.set_cons_zero, List.set_cons_succ]
  refine wpAnyH_take (i := 3) (oi := { dst := some 84, op := Op.fieldAddr 77 (Operand.tmp 13) 1, type := 0, pos := "law.go:466", after := #[], guard := none }) (v := .pointer (some ⟨p, 1, none⟩)) rfl (by kernel_rfl) (by kernel_rfl) (by kernel_rfl) (fun _ _ _ h => hPan _ _ _ _ _ h) (Or.inl ⟨by rfl, ?_⟩) HSX ?_
  · intro wx d0
    obtain ⟨s1, s2⟩ := d0
    go_simp
  simp only [Act.put, List.setIfInBounds_toArray, List.set_cons_zero, List.set_cons_succ]
  refine wpAnyH_take (i := 4) (oi := { dst := some 85, op := Op.load 74 (Operand.tmp 84), type := 74, pos := "law.go:466", after := #[{ on := 3, ground := Ground.data }], guard := none }) (v := .pointer (some ⟨D, 0, none⟩)) rfl (by kernel_rfl) (by kernel_rfl) (by kernel_rfl) (fun _ _ _ h => hPan _ _ _ _ _ h) (Or.inl ⟨by rfl, ?_⟩) HSX ?_
  · intro wx d0
    obtain ⟨s1, s2⟩ := d0
    go_simp
  simp only [Act.put, List.setIfInBounds_toArray, List.set_cons_zero, List.set_cons_succ]
  refine wpAnyH_ready (rs := [2, 7]) (by kernel_rfl) (by simp) ?_
  refine (AllReadyH.cons (o := { dst := some 83, op := Op.call { callee := Callee.value (Operand.func 23), args := #[Operand.tmp 82], argTypes := #[34] }, type := 34, pos := "law.go:466", after := #[{ on := 1, ground := Ground.data }], guard := none }) rfl (fun K hK => ?_) (AllReadyH.cons (o := { dst := some 15, op := Op.alloc 77, type := 0, pos := "law.go:466", after := #[], guard := none }) rfl (fun K hK => ?_) AllReadyH.nil))
  · rw [if_pos (by rfl)]
    go_simp
    go_at_call 23
    refine (hc1 W0 k0).mono ?_
    rintro e x1 ⟨R2, rfl, hg1, hp1⟩
    go_simp
    have HS1 : (fun w' => w'.cell? ⟨p, 0, none⟩ = some (.pointer (some ⟨R, 0, none⟩)) ∧ w'.cell? ⟨p, 1, none⟩ = some (.pointer (some ⟨D, 0, none⟩))) x1 := ⟨hg1.cell' hpR HSX.1, hg1.cell' hpR HSX.2⟩
    refine hK.out _ _ HS1 (fun HSX => ?_)
    clear hK K HS1
    refine wpAnyH_ready (rs := [5, 7]) (by kernel_rfl) (by simp) ?_
    refine (AllReadyH.cons (o := { dst := some 86, op := Op.call { callee := Callee.value (Operand.func 38), args := #[Operand.tmp 85], argTypes := #[74] }, type := 74, pos := "law.go:466", after := #[{ on := 4, ground := Ground.data }, { on := 2, ground := Ground.chain }], guard := none }) rfl (fun K hK => ?_) (AllReadyH.cons (o := { dst := some 15, op := Op.alloc 77, type := 0, pos := "law.go:466", after := #[], guard := none }) rfl (fun K hK => ?_) AllReadyH.nil))
    · rw [if_pos (by rfl)]
      go_simp
      go_at_call 38
      refine (hc2 W0 x1 R2 x1 k0 hg1 hp1 (Kp.refl _)).mono ?_
      rintro e x2 ⟨D2, rfl, hg2, hp2⟩
      go_simp
      have HS2 : (fun w' => w'.cell? ⟨p, 0, none⟩ = some (.pointer (some ⟨R, 0, none⟩)) ∧ w'.cell? ⟨p, 1, none⟩ = some (.pointer (some ⟨D, 0, none⟩))) x2 := ⟨hg2.cell' hpD HSX.1, hg2.cell' hpD HSX.2⟩
      refine hK.out _ _ HS2 (fun HSX => ?_)
      clear hK K HS2
      have s9 := HSX
      refine wpAnyH_take (i := 6) (oi := { dst := some 87, op := Op.build 77 #[(0, Operand.tmp 83), (1, Operand.tmp 86)], type := 77, pos := "law.go:466", after := #[{ on := 2, ground := Ground.data }, { on := 5, ground := Ground.data }], guard := none }) (v := .agg #[.pointer (some ⟨R2, 0, none⟩), .pointer (some ⟨D2, 0, none⟩)]) rfl (by kernel_rfl) (by kernel_rfl) (by kernel_rfl) (fun _ _ _ h => hPan _ _ _ _ _ h) (Or.inl ⟨by rfl, ?_⟩) HSX ?_
      · intro wx d0
        obtain ⟨s1, s2⟩ := d0
        go_simp
      simp only [Act.put, List.setIfInBounds_toArray, List.set_cons_zero, List.set_cons_succ]
      refine wpAnyH_ready (rs := [7]) (by kernel_rfl) (by simp) ?_
      refine (AllReadyH.cons (o := { dst := some 15, op := Op.alloc 77, type := 0, pos := "law.go:466", after := #[], guard := none }) rfl (fun K hK => ?_) AllReadyH.nil)
      rw [if_pos (by rfl)]
      go_simp
      refine hK.out _ _ (⟨(Kp.al x2 _).cell HSX.1, (Kp.al x2 _).cell HSX.2⟩ : (fun w' => w'.cell? ⟨p, 0, none⟩ = some (.pointer (some ⟨R, 0, none⟩)) ∧ w'.cell? ⟨p, 1, none⟩ = some (.pointer (some ⟨D, 0, none⟩))) (x2.alloc (.cells #[.pointer none, .pointer none] 77))) (fun HSX => ?_)
      clear hK K
      refine wpAnyH_ready (rs := [8]) (by kernel_rfl) (by simp) ?_
      refine (AllReadyH.cons (o := { dst := none, op := Op.store 77 (Operand.tmp 15) (Operand.tmp 87), type := 0, pos := "law.go:466", after := #[{ on := 7, ground := Ground.data }, { on := 6, ground := Ground.data }, { on := 5, ground := Ground.chain }, { on := 0, ground := Ground.phase }, { on := 1, ground := Ground.phase }, { on := 2, ground := Ground.phase }, { on := 3, ground := Ground.phase }, { on := 4, ground := Ground.phase }, { on := 5, ground := Ground.phase }, { on := 6, ground := Ground.phase }, { on := 7, ground := Ground.phase }], guard := none }) rfl (fun K hK => ?_) AllReadyH.nil)
      rw [if_pos (by rfl)]
      go_simp
      refine hK.out _ _ (⟨(Kp.al x2 _).cell s9.1, (Kp.al x2 _).cell s9.2⟩ : (fun w' => w'.cell? ⟨p, 0, none⟩ = some (.pointer (some ⟨R, 0, none⟩)) ∧ w'.cell? ⟨p, 1, none⟩ = some (.pointer (some ⟨D, 0, none⟩))) (x2.alloc (.cells #[.pointer (some ⟨R2, 0, none⟩), .pointer (some ⟨D2, 0, none⟩)] 77))) (fun HSX => ?_)
      clear hK K
      refine wpAnyH_done (by kernel_rfl) ?_ _
      exact hQ W0 x1 x1 x2 _ R2 D2 x2.heap.size k0 hg1 hp1 (Kp.refl _) hg2 hp2 (Nat.le_trans (Nat.le_trans k0.size hg1.size) hg2.size) (.inl (Nat.le_refl _)) (Kp.al x2 _).any (heap_alloc_new x2 _)
    · rw [if_pos (by rfl)]
      go_simp
      refine hK.out _ _ (⟨(Kp.al x1 _).cell HSX.1, (Kp.al x1 _).cell HSX.2⟩ : (fun w' => w'.cell? ⟨p, 0, none⟩ = some (.pointer (some ⟨R, 0, none⟩)) ∧ w'.cell? ⟨p, 1, none⟩ = some (.pointer (some ⟨D, 0, none⟩))) (x1.alloc (.cells #[.pointer none, .pointer none] 77))) (fun HSX => ?_)
      clear hK K
      refine wpAnyH_ready (rs := [5]) (by kernel_rfl) (by simp) ?_
      refine (AllReadyH.cons (o := { dst := some 86, op := Op.call { callee := Callee.value (Operand.func 38), args := #[Operand.tmp 85], argTypes := #[74] }, type := 74, pos := "law.go:466", after := #[{ on := 4, ground := Ground.data }, { on := 2, ground := Ground.chain }], guard := none }) rfl (fun K hK => ?_) AllReadyH.nil)
      rw [if_pos (by rfl)]
      go_simp
      go_at_call 38
      refine (hc2 W0 x1 R2 (x1.alloc (.cells #[.pointer none, .pointer none] 77)) k0 hg1 hp1 (Kp.al x1 _)).mono ?_
      rintro e x2 ⟨D2, rfl, hg2, hp2⟩
      go_simp
      have HS2 : (fun w' => w'.cell? ⟨p, 0, none⟩ = some (.pointer (some ⟨R, 0, none⟩)) ∧ w'.cell? ⟨p, 1, none⟩ = some (.pointer (some ⟨D, 0, none⟩))) x2 := ⟨hg2.cell' hpD HSX.1, hg2.cell' hpD HSX.2⟩
      refine hK.out _ _ HS2 (fun HSX => ?_)
      clear hK K HS2
      have s9 := HSX
      refine wpAnyH_take (i := 6) (oi := { dst := some 87, op := Op.build 77 #[(0, Operand.tmp 83), (1, Operand.tmp 86)], type := 77, pos := "law.go:466", after := #[{ on := 2, ground := Ground.data }, { on := 5, ground := Ground.data }], guard := none }) (v := .agg #[.pointer (some ⟨R2, 0, none⟩), .pointer (some ⟨D2, 0, none⟩)]) rfl (by kernel_rfl) (by kernel_rfl) (by kernel_rfl) (fun _ _ _ h => hPan _ _ _ _ _ h) (Or.inl ⟨by rfl, ?_⟩) HSX ?_
      · intro wx d0
        obtain ⟨s1, s2⟩ := d0
        go_simp
      simp only [Act.put, List.setIfInBounds_toArray, List.set_cons_zero, List.set_cons_succ]
      have hq : x2.heap[x1.heap.size]? = some (.cells #[.pointer none, .pointer none] 77 (0, 0)) := hg2.heap (heap_alloc_new x1 _) (fun e => by have := k0.size; have := hg1.size; omega)
      have hps : p < x1.heap.size := by have := k0.size; have := hg1.size; omega
      refine wpAnyH_ready (rs := [8]) (by kernel_rfl) (by simp) ?_
      refine (AllReadyH.cons (o := { dst := none, op := Op.store 77 (Operand.tmp 15) (Operand.tmp 87), type := 0, pos := "law.go:466", after := #[{ on := 7, ground := Ground.data }, { on := 6, ground := Ground.data }, { on := 5, ground := Ground.chain }, { on := 0, ground := Ground.phase }, { on := 1, ground := Ground.phase }, { on := 2, ground := Ground.phase }, { on := 3, ground := Ground.phase }, { on := 4, ground := Ground.phase }, { on := 5, ground := Ground.phase }, { on := 6, ground := Ground.phase }, { on := 7, ground := Ground.phase }], guard := none }) rfl (fun K hK => ?_) AllReadyH.nil)
      rw [if_pos (by rfl)]
      have x0 : x2.cell? ⟨x1.heap.size, 0, none⟩ = some (.pointer none) := by rw [(cells_at hq _).1]; rfl
      have x9 : x2.cell? ⟨x1.heap.size, 1, none⟩ = some (.pointer none) := by rw [(cells_at hq _).1]; rfl
      have y0 : x2.frozen? ⟨x1.heap.size, 0, none⟩ = false := (cells_at hq _).2
      have y1 : x2.frozen? ⟨x1.heap.size, 1, none⟩ = false := (cells_at hq _).2
      go_simp
      have c9 : Chg x2 ((x2.setCell ⟨x1.heap.size, 0, none⟩ (.pointer (some ⟨R2, 0, none⟩))).setCell ⟨x1.heap.size, 1, none⟩ (.pointer (some ⟨D2, 0, none⟩))) (fun k => k = x1.heap.size) := Chg.setCell (S := fun k => k = x1.heap.size) (Chg.setCell (S := fun k => k = x1.heap.size) (Chg.refl x2 _) (.inl rfl) _) (.inl rfl) _
      have h9 : ((x2.setCell ⟨x1.heap.size, 0, none⟩ (.pointer (some ⟨R2, 0, none⟩))).setCell ⟨x1.heap.size, 1, none⟩ (.pointer (some ⟨D2, 0, none⟩))).heap[x1.heap.size]? = some (.cells #[.pointer (some ⟨R2, 0, none⟩), .pointer (some ⟨D2, 0, none⟩)] 77 (0, 0)) := by
        rw [heap_setCell_same _ x1.heap.size 1 _ 77 _ (heap_setCell_same x2 x1.heap.size 0 _ 77 _ hq)]
        rfl
      refine hK.out _ _ (⟨c9.cell' (fun e => by omega) s9.1, c9.cell' (fun e => by omega) s9.2⟩ : (fun w' => w'.cell? ⟨p, 0, none⟩ = some (.pointer (some ⟨R, 0, none⟩)) ∧ w'.cell? ⟨p, 1, none⟩ = some (.pointer (some ⟨D, 0, none⟩))) ((x2.setCell ⟨x1.heap.size, 0, none⟩ (.pointer (some ⟨R2, 0, none⟩))).setCell ⟨x1.heap.size, 1, none⟩ (.pointer (some ⟨D2, 0, none⟩)))) (fun HSX => ?_)
      clear hK K
      refine wpAnyH_done (by kernel_rfl) ?_ _
      exact hQ W0 x1 (x1.alloc (.cells #[.pointer none, .pointer none] 77)) x2 _ R2 D2 x1.heap.size k0 hg1 hp1 (Kp.al x1 _) hg2 hp2 (Nat.le_trans k0.size hg1.size) (.inr hq) c9 h9
  · rw [if_pos (by rfl)]
    go_simp
    refine hK.out _ _ (⟨(Kp.al W0 _).cell HSX.1, (Kp.al W0 _).cell HSX.2⟩ : (fun w' => w'.cell? ⟨p, 0, none⟩ = some (.pointer (some ⟨R, 0, none⟩)) ∧ w'.cell? ⟨p, 1, none⟩ = some (.pointer (some ⟨D, 0, none⟩))) (W0.alloc (.cells #[.pointer none, .pointer none] 77))) (fun HSX => ?_)
    clear hK K
    have kz : Kp W (W0.alloc (.cells #[.pointer none, .pointer none] 77)) := k0.trans (Kp.al W0 _)
    refine wpAnyH_ready (rs := [2]) (by kernel_rfl) (by simp) ?_
    refine (AllReadyH.cons (o := { dst := some 83, op := Op.call { callee := Callee.value (Operand.func 23), args := #[Operand.tmp 82], argTypes := #[34] }, type := 34, pos := "law.go:466", after := #[{ on := 1, ground := Ground.data }], guard := none }) rfl (fun K hK => ?_) AllReadyH.nil)
    rw [if_pos (by rfl)]
    go_simp
    go_at_call 23
    refine (hc1 (W0.alloc (.cells #[.pointer none, .pointer none] 77)) kz).mono ?_
    rintro e x1 ⟨R2, rfl, hg1, hp1⟩
    go_simp
    have HS1 : (fun w' => w'.cell? ⟨p, 0, none⟩ = some (.pointer (some ⟨R, 0, none⟩)) ∧ w'.cell? ⟨p, 1, none⟩ = some (.pointer (some ⟨D, 0, none⟩))) x1 := ⟨hg1.cell' hpR HSX.1, hg1.cell' hpR HSX.2⟩
    refine hK.out _ _ HS1 (fun HSX => ?_)
    clear hK K HS1
    refine wpAnyH_ready (rs := [5]) (by kernel_rfl) (by simp) ?_
    refine (AllReadyH.cons (o := { dst := some 86, op := Op.call { callee := Callee.value (Operand.func 38), args := #[Operand.tmp 85], argTypes := #[74] }, type := 74, pos := "law.go:466", after := #[{ on := 4, ground := Ground.data }, { on := 2, ground := Ground.chain }], guard := none }) rfl (fun K hK => ?_) AllReadyH.nil)
    rw [if_pos (by rfl)]
    go_simp
    go_at_call 38
    refine (hc2 (W0.alloc (.cells #[.pointer none, .pointer none] 77)) x1 R2 x1 kz hg1 hp1 (Kp.refl _)).mono ?_
    rintro e x2 ⟨D2, rfl, hg2, hp2⟩
    go_simp
    have HS2 : (fun w' => w'.cell? ⟨p, 0, none⟩ = some (.pointer (some ⟨R, 0, none⟩)) ∧ w'.cell? ⟨p, 1, none⟩ = some (.pointer (some ⟨D, 0, none⟩))) x2 := ⟨hg2.cell' hpD HSX.1, hg2.cell' hpD HSX.2⟩
    refine hK.out _ _ HS2 (fun HSX => ?_)
    clear hK K HS2
    have s9 := HSX
    refine wpAnyH_take (i := 6) (oi := { dst := some 87, op := Op.build 77 #[(0, Operand.tmp 83), (1, Operand.tmp 86)], type := 77, pos := "law.go:466", after := #[{ on := 2, ground := Ground.data }, { on := 5, ground := Ground.data }], guard := none }) (v := .agg #[.pointer (some ⟨R2, 0, none⟩), .pointer (some ⟨D2, 0, none⟩)]) rfl (by kernel_rfl) (by kernel_rfl) (by kernel_rfl) (fun _ _ _ h => hPan _ _ _ _ _ h) (Or.inl ⟨by rfl, ?_⟩) HSX ?_
    · intro wx d0
      obtain ⟨s1, s2⟩ := d0
      go_simp
    simp only [Act.put, List.setIfInBounds_toArray, List.set_cons_zero, List.set_cons_succ]
    have hq : x2.heap[W0.heap.size]? = some (.cells #[.pointer none, .pointer none] 77 (0, 0)) := hg2.heap (hg1.heap (heap_alloc_new W0 _) (fun e => by have := k0.size; omega)) (fun e => by have := k0.size; omega)
    have hps : p < W0.heap.size := by have := k0.size; omega
    refine wpAnyH_ready (rs := [8]) (by kernel_rfl) (by simp) ?_
    refine (AllReadyH.cons (o := { dst := none, op := Op.store 77 (Operand.tmp 15) (Operand.tmp 87), type := 0, pos := "law.go:466", after := #[{ on := 7, ground := Ground.data }, { on := 6, ground := Ground.data }, { on := 5, ground := Ground.chain }, { on := 0, ground := Ground.phase }, { on := 1, ground := Ground.phase }, { on := 2, ground := Ground.phase }, { on := 3, ground := Ground.phase }, { on := 4, ground := Ground.phase }, { on := 5, ground := Ground.phase }, { on := 6, ground := Ground.phase }, { on := 7, ground := Ground.phase }], guard := none }) rfl (fun K hK => ?_) AllReadyH.nil)
    rw [if_pos (by rfl)]
    have x0 : x2.cell? ⟨W0.heap.size, 0, none⟩ = some (.pointer none) := by rw [(cells_at hq _).1]; rfl
    have x9 : x2.cell? ⟨W0.heap.size, 1, none⟩ = some (.pointer none) := by rw [(cells_at hq _).1]; rfl
    have y0 : x2.frozen? ⟨W0.heap.size, 0, none⟩ = false := (cells_at hq _).2
    have y1 : x2.frozen? ⟨W0.heap.size, 1, none⟩ = false := (cells_at hq _).2
    go_simp
    have c9 : Chg x2 ((x2.setCell ⟨W0.heap.size, 0, none⟩ (.pointer (some ⟨R2, 0, none⟩))).setCell ⟨W0.heap.size, 1, none⟩ (.pointer (some ⟨D2, 0, none⟩))) (fun k => k = W0.heap.size) := Chg.setCell (S := fun k => k = W0.heap.size) (Chg.setCell (S := fun k => k = W0.heap.size) (Chg.refl x2 _) (.inl rfl) _) (.inl rfl) _
    have h9 : ((x2.setCell ⟨W0.heap.size, 0, none⟩ (.pointer (some ⟨R2, 0, none⟩))).setCell ⟨W0.heap.size, 1, none⟩ (.pointer (some ⟨D2, 0, none⟩))).heap[W0.heap.size]? = some (.cells #[.pointer (some ⟨R2, 0, none⟩), .pointer (some ⟨D2, 0, none⟩)] 77 (0, 0)) := by
      rw [heap_setCell_same _ W0.heap.size 1 _ 77 _ (heap_setCell_same x2 W0.heap.size 0 _ 77 _ hq)]
      rfl
    refine hK.out _ _ (⟨c9.cell' (fun e => by omega) s9.1, c9.cell' (fun e => by omega) s9.2⟩ : (fun w' => w'.cell? ⟨p, 0, none⟩ = some (.pointer (some ⟨R, 0, none⟩)) ∧ w'.cell? ⟨p, 1, none⟩ = some (.pointer (some ⟨D, 0, none⟩))) ((x2.setCell ⟨W0.heap.size, 0, none⟩ (.pointer (some ⟨R2, 0, none⟩))).setCell ⟨W0.heap.size, 1, none⟩ (.pointer (some ⟨D2, 0, none⟩)))) (fun HSX => ?_)
    clear hK K
    refine wpAnyH_done (by kernel_rfl) ?_ _
    exact hQ (W0.alloc (.cells #[.pointer none, .pointer none] 77)) x1 x1 x2 _ R2 D2 W0.heap.size kz hg1 hp1 (Kp.refl _) hg2 hp2 k0.size (.inr hq) c9 h9
end Go.Proofs.Ytfcpkcbiinbmiaa
