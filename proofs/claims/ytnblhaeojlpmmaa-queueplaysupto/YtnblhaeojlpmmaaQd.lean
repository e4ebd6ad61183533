import Derived.Test.YtnblhaeojlpmmaaQc
namespace Go.Proofs.Ytnblhaeojlpmmaa
open Go.ChangeShapes Go.WideShapes Go.ChangeAt Go.RowKit
set_option linter.unusedVariables false
def ops33_4 : Array Oper := #[{ dst := some 41, op := Op.move (Operand.tmp 0), type := 25, pos := "state.go:27", after := #[], guard := none },
  { dst := some 42, op := Op.move (Operand.tmp 0), type := 25, pos := "state.go:27", after := #[{ on := 10, ground := Ground.gcOnly Departure.lateStores }], guard := none },
  { dst := some 43, op := Op.fieldAddr 64 (Operand.tmp 3) 1, type := 0, pos := "state.go:27", after := #[], guard := none },
  { dst := some 44, op := Op.load 62 (Operand.tmp 43), type := 62, pos := "state.go:27", after := #[{ on := 2, ground := Ground.data }], guard := none },
  { dst := some 45, op := Op.call { callee := Callee.value (Operand.func 51), args := #[Operand.tmp 44], argTypes := #[62] }, type := 62, pos := "state.go:27", after := #[{ on := 3, ground := Ground.data }], guard := none },
  { dst := some 46, op := Op.fieldAddr 64 (Operand.tmp 3) 2, type := 0, pos := "state.go:27", after := #[], guard := none },
  { dst := some 47, op := Op.load 62 (Operand.tmp 46), type := 62, pos := "state.go:27", after := #[{ on := 5, ground := Ground.data }], guard := none },
  { dst := some 48, op := Op.call { callee := Callee.value (Operand.func 51), args := #[Operand.tmp 47], argTypes := #[62] }, type := 62, pos := "state.go:27", after := #[{ on := 6, ground := Ground.data }, { on := 4, ground := Ground.chain }], guard := none },
  { dst := some 49, op := Op.nilCheck (Operand.tmp 41), type := 0, pos := "state.go:27", after := #[{ on := 0, ground := Ground.data }, { on := 0, ground := Ground.phase }, { on := 1, ground := Ground.textOnly Departure.lateStores }, { on := 2, ground := Ground.phase }, { on := 3, ground := Ground.phase }, { on := 4, ground := Ground.phase }, { on := 5, ground := Ground.textOnly Departure.lateStores }, { on := 6, ground := Ground.textOnly Departure.lateStores }, { on := 7, ground := Ground.phase }], guard := none },
  { dst := some 50, op := Op.fieldAddr 71 (Operand.tmp 49) 2, type := 0, pos := "state.go:27", after := #[{ on := 8, ground := Ground.data }, { on := 0, ground := Ground.phase }, { on := 1, ground := Ground.textOnly Departure.lateStores }, { on := 2, ground := Ground.phase }, { on := 3, ground := Ground.phase }, { on := 4, ground := Ground.phase }, { on := 5, ground := Ground.textOnly Departure.lateStores }, { on := 6, ground := Ground.textOnly Departure.lateStores }, { on := 7, ground := Ground.phase }], guard := none },
  { dst := none, op := Op.store 62 (Operand.tmp 50) (Operand.tmp 45), type := 0, pos := "state.go:27", after := #[{ on := 9, ground := Ground.data }, { on := 4, ground := Ground.data }, { on := 7, ground := Ground.chain }, { on := 0, ground := Ground.phase }, { on := 1, ground := Ground.textOnly Departure.lateStores }, { on := 2, ground := Ground.phase }, { on := 3, ground := Ground.phase }, { on := 4, ground := Ground.phase }, { on := 5, ground := Ground.textOnly Departure.lateStores }, { on := 6, ground := Ground.textOnly Departure.lateStores }, { on := 7, ground := Ground.phase }], guard := none },
  { dst := some 51, op := Op.nilCheck (Operand.tmp 42), type := 0, pos := "state.go:27", after := #[{ on := 1, ground := Ground.data }, { on := 0, ground := Ground.phase }, { on := 1, ground := Ground.phase }, { on := 2, ground := Ground.phase }, { on := 3, ground := Ground.phase }, { on := 4, ground := Ground.phase }, { on := 5, ground := Ground.phase }, { on := 6, ground := Ground.phase }, { on := 7, ground := Ground.phase }, { on := 8, ground := Ground.phase }, { on := 9, ground := Ground.phase }, { on := 10, ground := Ground.phase }], guard := none },
  { dst := some 52, op := Op.fieldAddr 71 (Operand.tmp 51) 3, type := 0, pos := "state.go:27", after := #[{ on := 11, ground := Ground.data }, { on := 0, ground := Ground.phase }, { on := 1, ground := Ground.phase }, { on := 2, ground := Ground.phase }, { on := 3, ground := Ground.phase }, { on := 4, ground := Ground.phase }, { on := 5, ground := Ground.phase }, { on := 6, ground := Ground.phase }, { on := 7, ground := Ground.phase }, { on := 8, ground := Ground.phase }, { on := 9, ground := Ground.phase }, { on := 10, ground := Ground.phase }], guard := none },
  { dst := none, op := Op.store 62 (Operand.tmp 52) (Operand.tmp 48), type := 0, pos := "state.go:27", after := #[{ on := 12, ground := Ground.data }, { on := 7, ground := Ground.data }, { on := 10, ground := Ground.chain }, { on := 0, ground := Ground.phase }, { on := 1, ground := Ground.phase }, { on := 2, ground := Ground.phase }, { on := 3, ground := Ground.phase }, { on := 4, ground := Ground.phase }, { on := 5, ground := Ground.phase }, { on := 6, ground := Ground.phase }, { on := 7, ground := Ground.phase }, { on := 8, ground := Ground.phase }, { on := 9, ground := Ground.phase }, { on := 10, ground := Ground.phase }], guard := none }]
set_option maxHeartbeats 4000000 in
set_option maxRecDepth 100000 in
theorem reg33_4 (W : World) (B N qn qc sn sc : Nat) (qa sa : Option Addr) (hS : (fun w' => w'.cell? ⟨N, 5, none⟩ = some (.slice qa qn qc) ∧ w'.cell? ⟨N, 6, none⟩ = some (.slice sa sn sc)) W)
    (RR : Option Addr → Nat → Nat → Option Addr → Nat → Nat → World → Prop)
    (h1 : Calls Try.prog 51 #[.slice qa qn qc] W.drew fun e w1 => ∃ la ln lc, e = .returned (.slice la ln lc) ∧ (fun w' => w'.cell? ⟨N, 5, none⟩ = some (.slice qa qn qc) ∧ w'.cell? ⟨N, 6, none⟩ = some (.slice sa sn sc)) w1 ∧ Calls Try.prog 51 #[.slice sa sn sc] w1 fun e w2 => ∃ ma mn mc, e = .returned (.slice ma mn mc) ∧ (fun w' => w'.cell? ⟨N, 5, none⟩ = some (.slice qa qn qc) ∧ w'.cell? ⟨N, 6, none⟩ = some (.slice sa sn sc)) w2 ∧ (∃ z, w2.cell? ⟨B, 9, none⟩ = some z) ∧ w2.frozen? ⟨B, 9, none⟩ = false ∧ (fun w' => w'.cell? ⟨N, 5, none⟩ = some (.slice qa qn qc) ∧ w'.cell? ⟨N, 6, none⟩ = some (.slice sa sn sc)) (w2.setCell ⟨B, 9, none⟩ (.slice la ln lc)) ∧ (∃ z, (w2.setCell ⟨B, 9, none⟩ (.slice la ln lc)).cell? ⟨B, 10, none⟩ = some z) ∧ (w2.setCell ⟨B, 9, none⟩ (.slice la ln lc)).frozen? ⟨B, 10, none⟩ = false ∧ (fun w' => w'.cell? ⟨N, 5, none⟩ = some (.slice qa qn qc) ∧ w'.cell? ⟨N, 6, none⟩ = some (.slice sa sn sc)) ((w2.setCell ⟨B, 9, none⟩ (.slice la ln lc)).setCell ⟨B, 10, none⟩ (.slice ma mn mc)) ∧ RR la ln lc ma mn mc w2)
    (Q : Exit → Act → World → Prop) (hPan : ∀ c (a : Act) w (d : Option Tmp) v, Q (.panic c) (a.put d v) w → Q (.panic c) a w) {u1 u2 u4 u5 u6 u7 u8 u9 u10 u11 u12 u13 u14 u15 u16 u17 u18 u19 u20 u21 u22 u23 u24 u25 u26 u27 u28 u29 u30 u31 u32 u33 u34 u35 u36 u37 u38 u39 u40 u41 u42 u43 u44 u45 u46 u47 u48 u49 u50 u51 u52 : Value}
    (hQ : ∀ la ln lc ma mn mc w2, RR la ln lc ma mn mc w2 → Q .normal ⟨#[.pointer (some ⟨B, 0, none⟩), u1,u2, .pointer (some ⟨N, 0, none⟩), u4,u5,u6,u7,u8,u9,u10,u11,u12,u13,u14,u15,u16,u17,u18,u19,u20,u21,u22,u23,u24,u25,u26,u27,u28,u29,u30,u31,u32,u33,u34,u35,u36,u37,u38,u39,u40, .pointer (some ⟨B, 0, none⟩), .pointer (some ⟨B, 0, none⟩), .pointer (some ⟨N, 5, none⟩), .slice qa qn qc, .slice la ln lc, .pointer (some ⟨N, 6, none⟩), .slice sa sn sc, .slice ma mn mc, .pointer (some ⟨B, 0, none⟩), .pointer (some ⟨B, 9, none⟩), .pointer (some ⟨B, 0, none⟩), .pointer (some ⟨B, 10, none⟩)], []⟩ ((w2.setCell ⟨B, 9, none⟩ (.slice la ln lc)).setCell ⟨B, 10, none⟩ (.slice ma mn mc))) :
    Code.wp Try.prog (Code.region 4 ops33_4 true) Q ⟨#[.pointer (some ⟨B, 0, none⟩), u1,u2, .pointer (some ⟨N, 0, none⟩), u4,u5,u6,u7,u8,u9,u10,u11,u12,u13,u14,u15,u16,u17,u18,u19,u20,u21,u22,u23,u24,u25,u26,u27,u28,u29,u30,u31,u32,u33,u34,u35,u36,u37,u38,u39,u40,u41,u42,u43,u44,u45,u46,u47,u48,u49,u50,u51,u52], []⟩ W := by
  have k0 : Kp W W.drew := (Chg.refl _ _).drew
  refine wp_region_held_drew (S := fun w' => w'.cell? ⟨N, 5, none⟩ = some (.slice qa qn qc) ∧ w'.cell? ⟨N, 6, none⟩ = some (.slice sa sn sc)) hmx ⟨k0.cell hS.1, k0.cell hS.2⟩ (fun HSX => ?_)
  clear k0 hS
  obtain ⟨W0, hW0⟩ : ∃ W0,W0 = W.drew := ⟨_, rfl⟩
  rw [← hW0] at HSX h1 ⊢
  clear hW0
  refine wpAnyH_take (i := 0) (oi := { dst := some 41, op := Op.move (Operand.tmp 0), type := 25, pos := "state.go:27", after := #[], guard := none }) (v := .pointer (some ⟨B, 0, none⟩)) rfl (by kernel_rfl) (by kernel_rfl) (by kernel_rfl) (fun _ _ _ h => hPan _ _ _ _ _ h) (Or.inl ⟨by rfl, ?_⟩) HSX ?_
  · intro wx d0
    obtain ⟨s1, s2⟩ := d0
    go_simp
  simp only [Act.put, List.setIfInBounds_toArray, List.set_cons_zero, List.set_cons_succ]
  refine wpAnyH_take (i := 1) (oi := { dst := some 42, op := Op.move (Operand.tmp 0), type := 25, pos := "state.go:27", after := #[{ on := 10, ground := Ground.gcOnly Departure.lateStores }], guard := none }) (v := .pointer (some ⟨B, 0, none⟩)) rfl (by kernel_rfl) (by kernel_rfl) (by kernel_rfl) (fun _ _ _ h => hPan _ _ _ _ _ h) (Or.inl ⟨by rfl, ?_⟩) HSX ?_
  · intro wx d0
    obtain ⟨s1, s2⟩ := d0
    go_simp
  simp only [Act.put, List.setIfInBounds_toArray, List.set_cons_zero, List.set_cons_succ]
  refine wpAnyH_take (i := 2) (oi := { dst := some 43, op := Op.fieldAddr 64 (Operand.tmp 3) 1, type := 0, pos := "state.go:27", after := #[], guard := none }) (v := .pointer (some ⟨N, 5, none⟩)) rfl (by kernel_rfl) (by kernel_rfl) (by kernel_rfl) (fun _ _ _ h => hPan _ _ _ _ _ h) (Or.inl ⟨by rfl, ?_⟩) HSX ?_
  · intro wx d0
    obtain ⟨s1, s2⟩ := d0
    go_simp
  simp only [Act.put, List.setIfInBounds_toArray, List.set_cons_zero, List.set_cons_succ]
  refine wpAnyH_take (i := 3) (oi := { dst := some 44, op := Op.load 62 (Operand.tmp 43), type := 62, pos := "state.go:27", after := #[{ on := 2, ground := Ground.data }], guard := none }) (v := .slice qa qn qc) rfl (by kernel_rfl) (by kernel_rfl) (by kernel_rfl) (fun _ _ _ h => hPan _ _ _ _ _ h) (Or.inl ⟨by rfl, ?_⟩) HSX ?_
  · intro wx d0
    obtain ⟨s1, s2⟩ := d0
    go_simp
  simp only [Act.put, List.setIfInBounds_toArray, List.set_cons_zero, List.set_cons_succ]
  refine wpAnyH_take (i := 5) (oi := { dst := some 46, op := Op.fieldAddr 64 (Operand.tmp 3) 2, type := 0, pos := "state.go:27", after := #[], guard := none }) (v := .pointer (some ⟨N, 6, none⟩)) rfl (by kernel_rfl) (by kernel_rfl) (by kernel_rfl) (fun _ _ _ h => hPan _ _ _ _ _ h) (Or.inl ⟨by rfl, ?_⟩) HSX ?_
  · intro wx d0
    obtain ⟨s1, s2⟩ := d0
    go_simp
  simp only [Act.put, List.setIfInBounds_toArray, List.set_cons_zero, List.set_cons_succ]
  refine wpAnyH_take (i := 6) (oi := { dst := some 47, op := Op.load 62 (Operand.tmp 46), type := 62, pos := "state.go:27", after := #[{ on := 5, ground := Ground.data }], guard := none }) (v := .slice sa sn sc) rfl (by kernel_rfl) (by kernel_rfl) (by kernel_rfl) (fun _ _ _ h => hPan _ _ _ _ _ h) (Or.inl ⟨by rfl, ?_⟩) HSX ?_
  · intro wx d0
    obtain ⟨s1, s2⟩ := d0
    go_simp
  simp only [Act.put, List.setIfInBounds_toArray, List.set_cons_zero, List.set_cons_succ]
  refine wpAnyH_ready (rs := [4]) (by kernel_rfl) (by simp) ?_
  refine AllReadyH.cons (o := { dst := some 45, op := Op.call { callee := Callee.value (Operand.func 51), args := #[Operand.tmp 44], argTypes := #[62] }, type := 62, pos := "state.go:27", after := #[{ on := 3, ground := Ground.data }], guard := none }) rfl (fun K hK => ?_) AllReadyH.nil
  rw [if_pos (by rfl)]
  go_simp
  go_at_call 51
  refine h1.mono ?_
  rintro e w1 ⟨la, ln, lc, rfl, hS1, h2⟩
  go_simp
  refine hK.out _ _ hS1 (fun HSX => ?_)
  clear hK K
  refine wpAnyH_ready (rs := [7]) (by kernel_rfl) (by simp) ?_
  refine AllReadyH.cons (o := { dst := some 48, op := Op.call { callee := Callee.value (Operand.func 51), args := #[Operand.tmp 47], argTypes := #[62] }, type := 62, pos := "state.go:27", after := #[{ on := 6, ground := Ground.data }, { on := 4, ground := Ground.chain }], guard := none }) rfl (fun K hK => ?_) AllReadyH.nil
  rw [if_pos (by rfl)]
  go_simp
  go_at_call 51
  refine h2.mono ?_
  rintro e w2 ⟨ma, mn, mc, rfl, hS2, ⟨z1, c1⟩, f1, hS3, ⟨z2, c2⟩, f2, hS4, hR⟩
  go_simp
  refine hK.out _ _ hS2 (fun HSX => ?_)
  clear hK K
  refine wpAnyH_take (i := 8) (oi := { dst := some 49, op := Op.nilCheck (Operand.tmp 41), type := 0, pos := "state.go:27", after := #[{ on := 0, ground := Ground.data }, { on := 0, ground := Ground.phase }, { on := 1, ground := Ground.textOnly Departure.lateStores }, { on := 2, ground := Ground.phase }, { on := 3, ground := Ground.phase }, { on := 4, ground := Ground.phase }, { on := 5, ground := Ground.textOnly Departure.lateStores }, { on := 6, ground := Ground.textOnly Departure.lateStores }, { on := 7, ground := Ground.phase }], guard := none }) (v := .pointer (some ⟨B, 0, none⟩)) rfl (by kernel_rfl) (by kernel_rfl) (by kernel_rfl) (fun _ _ _ h => hPan _ _ _ _ _ h) (Or.inl ⟨by rfl, ?_⟩) HSX ?_
  · intro wx d0
    obtain ⟨s1, s2⟩ := d0
    go_simp
  simp only [Act.put, List.setIfInBounds_toArray, List.set_cons_zero, List.set_cons_succ]
  refine wpAnyH_take (i := 9) (oi := { dst := some 50, op := Op.fieldAddr 71 (Operand.tmp 49) 2, type := 0, pos := "state.go:27", after := #[{ on := 8, ground := Ground.data }, { on := 0, ground := Ground.phase }, { on := 1, ground := Ground.textOnly Departure.lateStores }, { on := 2, ground := Ground.phase }, { on := 3, ground := Ground.phase }, { on := 4, ground := Ground.phase }, { on := 5, ground := Ground.textOnly Departure.lateStores }, { on := 6, ground := Ground.textOnly Departure.lateStores }, { on := 7, ground := Ground.phase }], guard := none }) (v := .pointer (some ⟨B, 9, none⟩)) rfl (by kernel_rfl) (by kernel_rfl) (by kernel_rfl) (fun _ _ _ h => hPan _ _ _ _ _ h) (Or.inl ⟨by rfl, ?_⟩) HSX ?_
  · intro wx d0
    obtain ⟨s1, s2⟩ := d0
    go_simp
  simp only [Act.put, List.setIfInBounds_toArray, List.set_cons_zero, List.set_cons_succ]
  refine wpAnyH_ready (rs := [10]) (by kernel_rfl) (by simp) ?_
  refine AllReadyH.cons (o := { dst := none, op := Op.store 62 (Operand.tmp 50) (Operand.tmp 45), type := 0, pos := "state.go:27", after := #[{ on := 9, ground := Ground.data }, { on := 4, ground := Ground.data }, { on := 7, ground := Ground.chain }, { on := 0, ground := Ground.phase }, { on := 1, ground := Ground.textOnly Departure.lateStores }, { on := 2, ground := Ground.phase }, { on := 3, ground := Ground.phase }, { on := 4, ground := Ground.phase }, { on := 5, ground := Ground.textOnly Departure.lateStores }, { on := 6, ground := Ground.textOnly Departure.lateStores }, { on := 7, ground := Ground.phase }], guard := none }) rfl (fun K hK => ?_) AllReadyH.nil
  rw [if_pos (by rfl)]
  go_simp
  refine hK.out _ _ hS3 (fun HSX => ?_)
  clear hK K
  refine wpAnyH_take (i := 11) (oi := { dst := some 51, op := Op.nilCheck (Operand.tmp 42), type := 0, pos := "state.go:27", after := #[{ on := 1, ground := Ground.data }, { on := 0, ground := Ground.phase }, { on := 1, ground := Ground.phase }, { on := 2, ground := Ground.phase }, { on := 3, ground := Ground.phase }, { on := 4, ground := Ground.phase }, { on := 5, ground := Ground.phase }, { on := 6, ground := Ground.phase }, { on := 7, ground := Ground.phase }, { on := 8, ground := Ground.phase }, { on := 9, ground := Ground.phase }, { on := 10, ground := Ground.phase }], guard := none }) (v := .pointer (some ⟨B, 0, none⟩)) rfl (by kernel_rfl) (by kernel_rfl) (by kernel_rfl) (fun _ _ _ h => hPan _ _ _ _ _ h) (Or.inl ⟨by rfl, ?_⟩) HSX ?_
  · intro wx d0
    obtain ⟨s1, s2⟩ := d0
    go_simp
  simp only [Act.put, List.setIfInBounds_toArray, List.set_cons_zero, List.set_cons_succ]
  refine wpAnyH_take (i := 12) (oi := { dst := some 52, op := Op.fieldAddr 71 (Operand.tmp 51) 3, type := 0, pos := "state.go:27", after := #[{ on := 11, ground := Ground.data }, { on := 0, ground := Ground.phase }, { on := 1, ground := Ground.phase }, { on := 2, ground := Ground.phase }, { on := 3, ground := Ground.phase }, { on := 4, ground := Ground.phase }, { on := 5, ground := Ground.phase }, { on := 6, ground := Ground.phase }, { on := 7, ground := Ground.phase }, { on := 8, ground := Ground.phase }, { on := 9, ground := Ground.phase }, { on := 10, ground := Ground.phase }], guard := none }) (v := .pointer (some ⟨B, 10, none⟩)) rfl (by kernel_rfl) (by kernel_rfl) (by kernel_rfl) (fun _ _ _ h => hPan _ _ _ _ _ h) (Or.inl ⟨by rfl, ?_⟩) HSX ?_
  · intro wx d0
    obtain ⟨s1, s2⟩ := d0
    go_simp
  simp only [Act.put, List.setIfInBounds_toArray, List.set_cons_zero, List.set_cons_succ]
  refine wpAnyH_ready (rs := [13]) (by kernel_rfl) (by simp) ?_
  refine AllReadyH.cons (o := { dst := none, op := Op.store 62 (Operand.tmp 52) (Operand.tmp 48), type := 0, pos := "state.go:27", after := #[{ on := 12, ground := Ground.data }, { on := 7, ground := Ground.data }, { on := 10, ground := Ground.chain }, { on := 0, ground := Ground.phase }, { on := 1, ground := Ground.phase }, { on := 2, ground := Ground.phase }, { on := 3, ground := Ground.phase }, { on := 4, ground := Ground.phase }, { on := 5, ground := Ground.phase }, { on := 6, ground := Ground.phase }, { on := 7, ground := Ground.phase }, { on := 8, ground := Ground.phase }, { on := 9, ground := Ground.phase }, { on := 10, ground := Ground.phase }], guard := none }) rfl (fun K hK => ?_) AllReadyH.nil
  rw [if_pos (by rfl)]
  go_simp
  refine hK.out _ _ hS4 (fun HSX => ?_)
  clear hK K
  refine wpAnyH_done (by kernel_rfl) ?_ _
  exact hQ _ _ _ _ _ _ _ hR
def ops34_1 : Array Oper := #[{ dst := some 3, op := Op.move (Operand.tmp 0), type := 25, pos := "state.go:18", after := #[], guard := none },
  { dst := some 4, op := Op.call { callee := Callee.value (Operand.func 16), args := #[Operand.tmp 3], argTypes := #[25] }, type := 48, pos := "state.go:18", after := #[{ on := 0, ground := Ground.data }], guard := none },
  { dst := some 5, op := Op.move (Operand.tmp 0), type := 25, pos := "state.go:18", after := #[], guard := none },
  { dst := some 6, op := Op.nilCheck (Operand.tmp 5), type := 0, pos := "state.go:18", after := #[{ on := 2, ground := Ground.data }], guard := none },
  { dst := some 7, op := Op.fieldAddr 71 (Operand.tmp 6) 2, type := 0, pos := "state.go:18", after := #[{ on := 3, ground := Ground.data }], guard := none },
  { dst := some 8, op := Op.load 62 (Operand.tmp 7), type := 62, pos := "state.go:18", after := #[{ on := 4, ground := Ground.data }], guard := none },
  { dst := some 9, op := Op.call { callee := Callee.value (Operand.func 51), args := #[Operand.tmp 8], argTypes := #[62] }, type := 62, pos := "state.go:18", after := #[{ on := 5, ground := Ground.data }, { on := 1, ground := Ground.chain }], guard := none },
  { dst := some 10, op := Op.move (Operand.tmp 0), type := 25, pos := "state.go:18", after := #[], guard := none },
  { dst := some 11, op := Op.nilCheck (Operand.tmp 10), type := 0, pos := "state.go:18", after := #[{ on := 7, ground := Ground.data }], guard := none },
  { dst := some 12, op := Op.fieldAddr 71 (Operand.tmp 11) 3, type := 0, pos := "state.go:18", after := #[{ on := 8, ground := Ground.data }], guard := none },
  { dst := some 13, op := Op.load 62 (Operand.tmp 12), type := 62, pos := "state.go:18", after := #[{ on := 9, ground := Ground.data }], guard := none },
  { dst := some 14, op := Op.call { callee := Callee.value (Operand.func 51), args := #[Operand.tmp 13], argTypes := #[62] }, type := 62, pos := "state.go:18", after := #[{ on := 10, ground := Ground.data }, { on := 6, ground := Ground.chain }], guard := none },
  { dst := some 15, op := Op.build 64 #[(0, Operand.tmp 4), (1, Operand.tmp 9), (2, Operand.tmp 14)], type := 64, pos := "state.go:18", after := #[{ on := 1, ground := Ground.data }, { on := 6, ground := Ground.data }, { on := 11, ground := Ground.data }], guard := none },
  { dst := none, op := Op.store 64 (Operand.tmp 2) (Operand.tmp 15), type := 0, pos := "state.go:18", after := #[{ on := 12, ground := Ground.data }, { on := 11, ground := Ground.chain }, { on := 0, ground := Ground.phase }, { on := 1, ground := Ground.phase }, { on := 2, ground := Ground.phase }, { on := 3, ground := Ground.phase }, { on := 4, ground := Ground.phase }, { on := 5, ground := Ground.phase }, { on := 6, ground := Ground.phase }, { on := 7, ground := Ground.phase }, { on := 8, ground := Ground.phase }, { on := 9, ground := Ground.phase }, { on := 10, ground := Ground.phase }, { on := 11, ground := Ground.phase }, { on := 12, ground := Ground.phase }], guard := none }]
set_option maxHeartbeats 4000000 in
set_option maxRecDepth 100000 in
theorem reg34_1 (W : World) (B A qn qc sn sc : Nat) (qa sa : Option Addr) (ac rc q t lo : Int) (hS : (fun w' => w'.cell? ⟨B, 9, none⟩ = some (.slice qa qn qc) ∧ w'.cell? ⟨B, 10, none⟩ = some (.slice sa sn sc)) W)
    (RR : Option Addr → Nat → Nat → Option Addr → Nat → Nat → World → Prop)
    (h0 : Calls Try.prog 16 #[.pointer (some ⟨B, 0, none⟩)] W.drew fun e w1 => e = .returned (.agg #[.int .i64 ac, .int .i64 rc, .int .i64 q, .int .i64 t, .int .i64 lo]) ∧ (fun w' => w'.cell? ⟨B, 9, none⟩ = some (.slice qa qn qc) ∧ w'.cell? ⟨B, 10, none⟩ = some (.slice sa sn sc)) w1 ∧ Calls Try.prog 51 #[.slice qa qn qc] w1 fun e w2 => ∃ la ln lc, e = .returned (.slice la ln lc) ∧ (fun w' => w'.cell? ⟨B, 9, none⟩ = some (.slice qa qn qc) ∧ w'.cell? ⟨B, 10, none⟩ = some (.slice sa sn sc)) w2 ∧ Calls Try.prog 51 #[.slice sa sn sc] w2 fun e w3 => ∃ ma mn mc, e = .returned (.slice ma mn mc) ∧ (fun w' => w'.cell? ⟨B, 9, none⟩ = some (.slice qa qn qc) ∧ w'.cell? ⟨B, 10, none⟩ = some (.slice sa sn sc)) w3 ∧ (∃ z, w3.cell? ⟨A, 0, none⟩ = some z) ∧ (∃ z, w3.cell? ⟨A, 1, none⟩ = some z) ∧ (∃ z, w3.cell? ⟨A, 2, none⟩ = some z) ∧ (∃ z, w3.cell? ⟨A, 3, none⟩ = some z) ∧ (∃ z, w3.cell? ⟨A, 4, none⟩ = some z) ∧ (∃ z, w3.cell? ⟨A, 5, none⟩ = some z) ∧ (∃ z, w3.cell? ⟨A, 6, none⟩ = some z) ∧ w3.frozen? ⟨A, 0, none⟩ = false ∧ w3.frozen? ⟨A, 1, none⟩ = false ∧ w3.frozen? ⟨A, 2, none⟩ = false ∧ w3.frozen? ⟨A, 3, none⟩ = false ∧ w3.frozen? ⟨A, 4, none⟩ = false ∧ w3.frozen? ⟨A, 5, none⟩ = false ∧ w3.frozen? ⟨A, 6, none⟩ = false ∧ (fun w' => w'.cell? ⟨B, 9, none⟩ = some (.slice qa qn qc) ∧ w'.cell? ⟨B, 10, none⟩ = some (.slice sa sn sc)) (((((((w3.setCell ⟨A, 0, none⟩ (.int .i64 ac)).setCell ⟨A, 1, none⟩ (.int .i64 rc)).setCell ⟨A, 2, none⟩ (.int .i64 q)).setCell ⟨A, 3, none⟩ (.int .i64 t)).setCell ⟨A, 4, none⟩ (.int .i64 lo)).setCell ⟨A, 5, none⟩ (.slice la ln lc)).setCell ⟨A, 6, none⟩ (.slice ma mn mc)) ∧ RR la ln lc ma mn mc w3)
    (Q : Exit → Act → World → Prop) (hPan : ∀ c (a : Act) w (d : Option Tmp) v, Q (.panic c) (a.put d v) w → Q (.panic c) a w) {u1 u3 u4 u5 u6 u7 u8 u9 u10 u11 u12 u13 u14 u15 : Value}
    (hQ : ∀ la ln lc ma mn mc w3, RR la ln lc ma mn mc w3 → Q .normal ⟨#[.pointer (some ⟨B, 0, none⟩), u1, .pointer (some ⟨A, 0, none⟩), .pointer (some ⟨B, 0, none⟩), .agg #[.int .i64 ac, .int .i64 rc, .int .i64 q, .int .i64 t, .int .i64 lo], .pointer (some ⟨B, 0, none⟩), .pointer (some ⟨B, 0, none⟩), .pointer (some ⟨B, 9, none⟩), .slice qa qn qc, .slice la ln lc, .pointer (some ⟨B, 0, none⟩), .pointer (some ⟨B, 0, none⟩), .pointer (some ⟨B, 10, none⟩), .slice sa sn sc, .slice ma mn mc, .agg #[.int .i64 ac, .int .i64 rc, .int .i64 q, .int .i64 t, .int .i64 lo, .slice la ln lc, .slice ma mn mc]], []⟩ (((((((w3.setCell ⟨A, 0, none⟩ (.int .i64 ac)).setCell ⟨A, 1, none⟩ (.int .i64 rc)).setCell ⟨A, 2, none⟩ (.int .i64 q)).setCell ⟨A, 3, none⟩ (.int .i64 t)).setCell ⟨A, 4, none⟩ (.int .i64 lo)).setCell ⟨A, 5, none⟩ (.slice la ln lc)).setCell ⟨A, 6, none⟩ (.slice ma mn mc))) :
    Code.wp Try.prog (Code.region 1 ops34_1 true) Q ⟨#[.pointer (some ⟨B, 0, none⟩), u1, .pointer (some ⟨A, 0, none⟩), u3,u4,u5,u6,u7,u8,u9,u10,u11,u12,u13,u14,u15], []⟩ W := by
  have k0 : Kp W W.drew := (Chg.refl _ _).drew
  refine wp_region_held_drew (S := fun w' => w'.cell? ⟨B, 9, none⟩ = some (.slice qa qn qc) ∧ w'.cell? ⟨B, 10, none⟩ = some (.slice sa sn sc)) hmx ⟨k0.cell hS.1, k0.cell hS.2⟩ (fun HSX => ?_)
  clear k0 hS
  obtain ⟨W0, hW0⟩ : ∃ W0,W0 = W.drew := ⟨_, rfl⟩
  rw [← hW0] at HSX h0 ⊢
  clear hW0
  refine wpAnyH_take (i := 0) (oi := { dst := some 3, op := Op.move (Operand.tmp 0), type := 25, pos := "state.go:18", after := #[], guard := none }) (v := .pointer (some ⟨B, 0, none⟩)) rfl (by kernel_rfl) (by kernel_rfl) (by kernel_rfl) (fun _ _ _ h => hPan _ _ _ _ _ h) (Or.inl ⟨by rfl, ?_⟩) HSX ?_
  · intro wx d0
    obtain ⟨s1, s2⟩ := d0
    go_simp
  simp only [Act.put, List.setIfInBounds_toArray, List.set_cons_zero, List.set_cons_succ]
  refine wpAnyH_take (i := 2) (oi := { dst := some 5, op := Op.move (Operand.tmp 0), type := 25, pos := "state.go:18", after := #[], guard := none }) (v := .pointer (some ⟨B, 0, none⟩)) rfl (by kernel_rfl) (by kernel_rfl) (by kernel_rfl) (fun _ _ _ h => hPan _ _ _ _ _ h) (Or.inl ⟨by rfl, ?_⟩) HSX ?_
  · intro wx d0
    obtain ⟨s1, s2⟩ := d0
    go_simp
  simp only [Act.put, List.setIfInBounds_toArray, List.set_cons_zero, List.set_cons_succ]
  refine wpAnyH_take (i := 3) (oi := { dst := some 6, op := Op.nilCheck (Operand.tmp 5), type := 0, pos := "state.go:18", after := #[{ on := 2, ground := Ground.data }], guard := none }) (v := .pointer (some ⟨B, 0, none⟩)) rfl (by kernel_rfl) (by kernel_rfl) (by kernel_rfl) (fun _ _ _ h => hPan _ _ _ _ _ h) (Or.inl ⟨by rfl, ?_⟩) HSX ?_
  · intro wx d0
    obtain ⟨s1, s2⟩ := d0
    go_simp
  simp only [Act.put, List.setIfInBounds_toArray, List.set_cons_zero, List.set_cons_succ]
  refine wpAnyH_take (i := 4) (oi := { dst := some 7, op := Op.fieldAddr 71 (Operand.tmp 6) 2, type := 0, pos := "state.go:18", after := #[{ on := 3, ground := Ground.data }], guard := none }) (v := .pointer (some ⟨B, 9, none⟩)) rfl (by kernel_rfl) (by kernel_rfl) (by kernel_rfl) (fun _ _ _ h => hPan _ _ _ _ _ h) (Or.inl ⟨by rfl, ?_⟩) HSX ?_
  · intro wx d0
    obtain ⟨s1, s2⟩ := d0
    go_simp
  simp only [Act.put, List.setIfInBounds_toArray, List.set_cons_zero, List.set_cons_succ]
  refine wpAnyH_take (i := 5) (oi := { dst := some 8, op := Op.load 62 (Operand.tmp 7), type := 62, pos := "state.go:18", after := #[{ on := 4, ground := Ground.data }], guard := none }) (v := .slice qa qn qc) rfl (by kernel_rfl) (by kernel_rfl) (by kernel_rfl) (fun _ _ _ h => hPan _ _ _ _ _ h) (Or.inl ⟨by rfl, ?_⟩) HSX ?_
  · intro wx d0
    obtain ⟨s1, s2⟩ := d0
    go_simp
  simp only [Act.put, List.setIfInBounds_toArray, List.set_cons_zero, List.set_cons_succ]
  refine wpAnyH_take (i := 7) (oi := { dst := some 10, op := Op.move (Operand.tmp 0), type := 25, pos := "state.go:18", after := #[], guard := none }) (v := .pointer (some ⟨B, 0, none⟩)) rfl (by kernel_rfl) (by kernel_rfl) (by kernel_rfl) (fun _ _ _ h => hPan _ _ _ _ _ h) (Or.inl ⟨by rfl, ?_⟩) HSX ?_
  · intro wx d0
    obtain ⟨s1, s2⟩ := d0
    go_simp
  simp only [Act.put, List.setIfInBounds_toArray, List.set_cons_zero, List.set_cons_succ]
  refine wpAnyH_take (i := 8) (oi := { dst := some 11, op := Op.nilCheck (Operand.tmp 10), type := 0, pos := "state.go:18", after := #[{ on := 7, ground := Ground.data }], guard := none }) (v := .pointer (some ⟨B, 0, none⟩)) rfl (by kernel_rfl) (by kernel_rfl) (by kernel_rfl) (fun _ _ _ h => hPan _ _ _ _ _ h) (Or.inl ⟨by rfl, ?_⟩) HSX ?_
  · intro wx d0
    obtain ⟨s1, s2⟩ := d0
    go_simp
  simp only [Act.put, List.setIfInBounds_toArray, List.set_cons_zero, List.set_cons_succ]
  refine wpAnyH_take (i := 9) (oi := { dst := some 12, op := Op.fieldAddr 71 (Operand.tmp 11) 3, type := 0, pos := "state.go:18", after := #[{ on := 8, ground := Ground.data }], guard := none }) (v := .pointer (some ⟨B, 10, none⟩)) rfl (by kernel_rfl) (by kernel_rfl) (by kernel_rfl) (fun _ _ _ h => hPan _ _ _ _ _ h) (Or.inl ⟨by rfl, ?_⟩) HSX ?_
  · intro wx d0
    obtain ⟨s1, s2⟩ := d0
    go_simp
  simp only [Act.put, List.setIfInBounds_toArray, List.set_cons_zero, List.set_cons_succ]
  refine wpAnyH_take (i := 10) (oi := { dst := some 13, op := Op.load 62 (Operand.tmp 12), type := 62, pos := "state.go:18", after := #[{ on := 9, ground := Ground.data }], guard := none }) (v := .slice sa sn sc) rfl (by kernel_rfl) (by kernel_rfl) (by kernel_rfl) (fun _ _ _ h => hPan _ _ _ _ _ h) (Or.inl ⟨by rfl, ?_⟩) HSX ?_
  · intro wx d0
    obtain ⟨s1, s2⟩ := d0
    go_simp
  simp only [Act.put, List.setIfInBounds_toArray, List.set_cons_zero, List.set_cons_succ]
  refine wpAnyH_ready (rs := [1]) (by kernel_rfl) (by simp) ?_
  refine AllReadyH.cons (o := { dst := some 4, op := Op.call { callee := Callee.value (Operand.func 16), args := #[Operand.tmp 3], argTypes := #[25] }, type := 48, pos := "state.go:18", after := #[{ on := 0, ground := Ground.data }], guard := none }) rfl (fun K hK => ?_) AllReadyH.nil
  rw [if_pos (by rfl)]
  go_simp
  go_at_call 16
  refine h0.mono ?_
  rintro e w1 ⟨rfl, hS1, h1⟩
  go_simp
  refine hK.out _ _ hS1 (fun HSX => ?_)
  clear hK K
  refine wpAnyH_ready (rs := [6]) (by kernel_rfl) (by simp) ?_
  refine AllReadyH.cons (o := { dst := some 9, op := Op.call { callee := Callee.value (Operand.func 51), args := #[Operand.tmp 8], argTypes := #[62] }, type := 62, pos := "state.go:18", after := #[{ on := 5, ground := Ground.data }, { on := 1, ground := Ground.chain }], guard := none }) rfl (fun K hK => ?_) AllReadyH.nil
  rw [if_pos (by rfl)]
  go_simp
  go_at_call 51
  refine h1.mono ?_
  rintro e w2 ⟨la, ln, lc, rfl, hS2, h2⟩
  go_simp
  refine hK.out _ _ hS2 (fun HSX => ?_)
  clear hK K
  refine wpAnyH_ready (rs := [11]) (by kernel_rfl) (by simp) ?_
  refine AllReadyH.cons (o := { dst := some 14, op := Op.call { callee := Callee.value (Operand.func 51), args := #[Operand.tmp 13], argTypes := #[62] }, type := 62, pos := "state.go:18", after := #[{ on := 10, ground := Ground.data }, { on := 6, ground := Ground.chain }], guard := none }) rfl (fun K hK => ?_) AllReadyH.nil
  rw [if_pos (by rfl)]
  go_simp
  go_at_call 51
  refine h2.mono ?_
  rintro e w3 ⟨ma, mn, mc, rfl, hS3, ⟨x0, c0⟩, ⟨x1, c1⟩, ⟨x2, c2⟩, ⟨x3, c3⟩, ⟨x4, c4⟩, ⟨x5, c5⟩, ⟨x6, c6⟩, f0, f1, f2, f3, f4, f5, f6, hS4, hR⟩
  go_simp
  refine hK.out _ _ hS3 (fun HSX => ?_)
  clear hK K
  refine wpAnyH_take (i := 12) (oi := { dst := some 15, op := Op.build 64 #[(0, Operand.tmp 4), (1, Operand.tmp 9), (2, Operand.tmp 14)], type := 64, pos := "state.go:18", after := #[{ on := 1, ground := Ground.data }, { on := 6, ground := Ground.data }, { on := 11, ground := Ground.data }], guard := none }) (v := .agg #[.int .i64 ac, .int .i64 rc, .int .i64 q, .int .i64 t, .int .i64 lo, .slice la ln lc, .slice ma mn mc]) rfl (by kernel_rfl) (by kernel_rfl) (by kernel_rfl) (fun _ _ _ h => hPan _ _ _ _ _ h) (Or.inl ⟨by rfl, ?_⟩) HSX ?_
  · intro wx d0
    obtain ⟨s1, s2⟩ := d0
    go_simp
  simp only [Act.put, List.setIfInBounds_toArray, List.set_cons_zero, List.set_cons_succ]
  refine wpAnyH_ready (rs := [13]) (by kernel_rfl) (by simp) ?_
  refine AllReadyH.cons (o := { dst := none, op := Op.store 64 (Operand.tmp 2) (Operand.tmp 15), type := 0, pos := "state.go:18", after := #[{ on := 12, ground := Ground.data }, { on := 11, ground := Ground.chain }, { on := 0, ground := Ground.phase }, { on := 1, ground := Ground.phase }, { on := 2, ground := Ground.phase }, { on := 3, ground := Ground.phase }, { on := 4, ground := Ground.phase }, { on := 5, ground := Ground.phase }, { on := 6, ground := Ground.phase }, { on := 7, ground := Ground.phase }, { on := 8, ground := Ground.phase }, { on := 9, ground := Ground.phase }, { on := 10, ground := Ground.phase }, { on := 11, ground := Ground.phase }, { on := 12, ground := Ground.phase }], guard := none }) rfl (fun K hK => ?_) AllReadyH.nil
  rw [if_pos (by rfl)]
  go_simp
  refine hK.out _ _ hS4 (fun HSX => ?_)
  clear hK K
  refine wpAnyH_done (by kernel_rfl) ?_ _
  exact hQ _ _ _ _ _ _ _ hR
end Go.Proofs.Ytnblhaeojlpmmaa
