import Derived.Test.YtkggkkoblpdopaaGreatXf
namespace Go.Proofs.YtkggkkoblpdopaaGreat
open Go.ChangeShapes Go.WideShapes Go.ChangeAt Go.RowKit
set_option linter.unusedVariables false
def ops223_0 : Array Oper := #[{ dst := some 4, op := Op.move (Operand.tmp 0), type := 84, pos := "writer.go:33", after := #[], guard := none },
  { dst := some 5, op := Op.move (Operand.tmp 1), type := 244, pos := "writer.go:33", after := #[], guard := none },
  { dst := some 6, op := Op.nilCheck (Operand.tmp 5), type := 0, pos := "writer.go:33", after := #[{ on := 1, ground := Ground.data }], guard := none },
  { dst := some 7, op := Op.load 3 (Operand.tmp 6), type := 3, pos := "writer.go:33", after := #[{ on := 2, ground := Ground.data }], guard := none },
  { dst := some 8, op := Op.move (Operand.tmp 0), type := 84, pos := "writer.go:33", after := #[], guard := none },
  { dst := some 9, op := Op.nilCheck (Operand.tmp 8), type := 0, pos := "writer.go:33", after := #[{ on := 4, ground := Ground.data }], guard := none },
  { dst := some 10, op := Op.fieldAddr 89 (Operand.tmp 9) 0, type := 0, pos := "writer.go:33", after := #[{ on := 5, ground := Ground.data }], guard := none },
  { dst := some 11, op := Op.load 87 (Operand.tmp 10), type := 87, pos := "writer.go:33", after := #[{ on := 6, ground := Ground.data }], guard := none },
  { dst := some 12, op := Op.makeFunc (Fn.func 234) #[Operand.tmp 11] #[], type := 430, pos := "writer.go:33", after := #[{ on := 7, ground := Ground.data }], guard := none },
  { dst := some 13, op := Op.call { callee := Callee.value (Operand.func 233), args := #[Operand.tmp 4, Operand.tmp 7, Operand.tmp 12], argTypes := #[84, 3, 430] }, type := 0, pos := "writer.go:33", after := #[{ on := 0, ground := Ground.data }, { on := 3, ground := Ground.data }, { on := 8, ground := Ground.data }], guard := none }]
set_option maxHeartbeats 8000000 in
set_option maxRecDepth 100000 in
theorem reg223_0 (W : World) (X B b o : Nat) (n : Int)  (hS : (fun w' => w'.cell? ⟨b, o, none⟩ = some (.int .i64 n) ∧ w'.cell? ⟨X, 0, none⟩ = some (.pointer (some ⟨B, 0, none⟩))) W.drew) (P : World → Prop) (hcall : Calls Tryz.prog 233 #[.pointer (some ⟨X, 0, none⟩), .int .i64 n, .func (.func 234) #[.pointer (some ⟨B, 0, none⟩)] #[]] W.drew fun e x1 => e = .returned (.tuple #[]) ∧ (x1.cell? ⟨b, o, none⟩ = some (.int .i64 n) ∧ x1.cell? ⟨X, 0, none⟩ = some (.pointer (some ⟨B, 0, none⟩))) ∧ P  x1)
    (Q : Exit → Act → World → Prop) (hPan : ∀ c (a : Act) w (d : Option Tmp) v, Q (.panic c) (a.put d v) w → Q (.panic c) a w) {u2 u3 u4 u5 u6 u7 u8 u9 u10 u11 u12 u13 : Value}
    (hQ : ∀  w1, P  w1 → Q .normal ⟨#[.pointer (some ⟨X, 0, none⟩), .pointer (some ⟨b, o, none⟩), u2, u3, .pointer (some ⟨X, 0, none⟩), .pointer (some ⟨b, o, none⟩), .pointer (some ⟨b, o, none⟩), .int .i64 n, .pointer (some ⟨X, 0, none⟩), .pointer (some ⟨X, 0, none⟩), .pointer (some ⟨X, 0, none⟩), .pointer (some ⟨B, 0, none⟩), .func (.func 234) #[.pointer (some ⟨B, 0, none⟩)] #[], .tuple #[]], []⟩ w1) :
    Code.wp Tryz.prog (Code.region 0 ops223_0 true) Q ⟨#[.pointer (some ⟨X, 0, none⟩), .pointer (some ⟨b, o, none⟩), u2, u3, u4, u5, u6, u7, u8, u9, u10, u11, u12, u13], []⟩ W := by
  refine wp_region_held_drew (S := fun w' => w'.cell? ⟨b, o, none⟩ = some (.int .i64 n) ∧ w'.cell? ⟨X, 0, none⟩ = some (.pointer (some ⟨B, 0, none⟩))) hmx hS (fun HSX => ?_)
  clear hS
  obtain ⟨W0, hW0⟩ : ∃ W0, W0 = W.drew := ⟨_, rfl⟩
  rw [← hW0] at HSX hcall ⊢
  clear hW0
  refine wpAnyH_take (i := 0) (oi := { dst := some 4, op := Op.move (Operand.tmp 0), type := 84, pos := "writer.go:33", after := #[], guard := none }) (v := .pointer (some ⟨X, 0, none⟩)) rfl (by kernel_rfl) (by kernel_rfl) (by kernel_rfl) (fun _ _ _ h => hPan _ _ _ _ _ h) (Or.inl ⟨by rfl, ?_⟩) HSX ?_
  · intro wx d0
    obtain ⟨s1, s2⟩ := d0
    go_simp
  simp only [Act.put, List.setIfInBounds_toArray, List.set_cons_zero, List.set_cons_succ]
  refine wpAnyH_take (i := 1) (oi := { dst := some 5, op := Op.move (Operand.tmp 1), type := 244, pos := "writer.go:33", after := #[], guard := none }) (v := .pointer (some ⟨b, o, none⟩)) rfl (by kernel_rfl) (by kernel_rfl) (by kernel_rfl) (fun _ _ _ h => hPan _ _ _ _ _ h) (Or.inl ⟨by rfl, ?_⟩) HSX ?_
  · intro wx d0
    obtain ⟨s1, s2⟩ := d0
    go_simp
  simp only [Act.put, List.setIfInBounds_toArray, List.set_cons_zero, List.set_cons_succ]
  refine wpAnyH_take (i := 2) (oi := { dst := some 6, op := Op.nilCheck (Operand.tmp 5), type := 0, pos := "writer.go:33", after := #[{ on := 1, ground := Ground.data }], guard := none }) (v := .pointer (some ⟨b, o, none⟩)) rfl (by kernel_rfl) (by kernel_rfl) (by kernel_rfl) (fun _ _ _ h => hPan _ _ _ _ _ h) (Or.inl ⟨by rfl, ?_⟩) HSX ?_
  · intro wx d0
    obtain ⟨s1, s2⟩ := d0
    go_simp
  simp only [Act.put, List.setIfInBounds_toArray, List.set_cons_zero, List.set_cons_succ]
  refine wpAnyH_take (i := 3) (oi := { dst := some 7, op := Op.load 3 (Operand.tmp 6), type := 3, pos := "writer.go:33", after := #[{ on := 2, ground := Ground.data }], guard := none }) (v := .int .i64 n) rfl (by kernel_rfl) (by kernel_rfl) (by kernel_rfl) (fun _ _ _ h => hPan _ _ _ _ _ h) (Or.inl ⟨by rfl, ?_⟩) HSX ?_
  · intro wx d0
    obtain ⟨s1, s2⟩ := d0
    go_simp
  simp only [Act.put, List.setIfInBounds_toArray, List.set_cons_zero, List.set_cons_succ]
  refine wpAnyH_take (i := 4) (oi := { dst := some 8, op := Op.move (Operand.tmp 0), type := 84, pos := "writer.go:33", after := #[], guard := none }) (v := .pointer (some ⟨X, 0, none⟩)) rfl (by kernel_rfl) (by kernel_rfl) (by kernel_rfl) (fun _ _ _ h => hPan _ _ _ _ _ h) (Or.inl ⟨by rfl, ?_⟩) HSX ?_
  · intro wx d0
    obtain ⟨s1, s2⟩ := d0
    go_simp
  simp only [Act.put, List.setIfInBounds_toArray, List.set_cons_zero, List.set_cons_succ]
  refine wpAnyH_take (i := 5) (oi := { dst := some 9, op := Op.nilCheck (Operand.tmp 8), type := 0, pos := "writer.go:33", after := #[{ on := 4, ground := Ground.data }], guard := none }) (v := .pointer (some ⟨X, 0, none⟩)) rfl (by kernel_rfl) (by kernel_rfl) (by kernel_rfl) (fun _ _ _ h => hPan _ _ _ _ _ h) (Or.inl ⟨by rfl, ?_⟩) HSX ?_
  · intro wx d0
    obtain ⟨s1, s2⟩ := d0
    go_simp
  simp only [Act.put, List.setIfInBounds_toArray, List.set_cons_zero, List.set_cons_succ]
  refine wpAnyH_take (i := 6) (oi := { dst := some 10, op := Op.fieldAddr 89 (Operand.tmp 9) 0, type := 0, pos := "writer.go:33", after := #[{ on := 5, ground := Ground.data }], guard := none }) (v := .pointer (some ⟨X, 0, none⟩)) rfl (by kernel_rfl) (by kernel_rfl) (by kernel_rfl) (fun _ _ _ h => hPan _ _ _ _ _ h) (Or.inl ⟨by rfl, ?_⟩) HSX ?_
  · intro wx d0
    obtain ⟨s1, s2⟩ := d0
    go_simp
  simp only [Act.put, List.setIfInBounds_toArray, List.set_cons_zero, List.set_cons_succ]
  refine wpAnyH_take (i := 7) (oi := { dst := some 11, op := Op.load 87 (Operand.tmp 10), type := 87, pos := "writer.go:33", after := #[{ on := 6, ground := Ground.data }], guard := none }) (v := .pointer (some ⟨B, 0, none⟩)) rfl (by kernel_rfl) (by kernel_rfl) (by kernel_rfl) (fun _ _ _ h => hPan _ _ _ _ _ h) (Or.inl ⟨by rfl, ?_⟩) HSX ?_
  · intro wx d0
    obtain ⟨s1, s2⟩ := d0
    go_simp
  simp only [Act.put, List.setIfInBounds_toArray, List.set_cons_zero, List.set_cons_succ]
  refine wpAnyH_take (i := 8) (oi := { dst := some 12, op := Op.makeFunc (Fn.func 234) #[Operand.tmp 11] #[], type := 430, pos := "writer.go:33", after := #[{ on := 7, ground := Ground.data }], guard := none }) (v := .func (.func 234) #[.pointer (some ⟨B, 0, none⟩)] #[]) rfl (by kernel_rfl) (by kernel_rfl) (by kernel_rfl) (fun _ _ _ h => hPan _ _ _ _ _ h) (Or.inl ⟨by rfl, ?_⟩) HSX ?_
  · intro wx d0
    obtain ⟨s1, s2⟩ := d0
    go_simp
  simp only [Act.put, List.setIfInBounds_toArray, List.set_cons_zero, List.set_cons_succ]
  refine wpAnyH_ready (rs := [9]) (by kernel_rfl) (by simp) ?_
  refine AllReadyH.cons (o := { dst := some 13, op := Op.call { callee := Callee.value (Operand.func 233), args := #[Operand.tmp 4, Operand.tmp 7, Operand.tmp 12], argTypes := #[84, 3, 430] }, type := 0, pos := "writer.go:33", after := #[{ on := 0, ground := Ground.data }, { on := 3, ground := Ground.data }, { on := 8, ground := Ground.data }], guard := none }) rfl (fun K hK => ?_) AllReadyH.nil
  rw [if_pos (by rfl)]
  go_simp
  go_at_call 233
  refine hcall.mono ?_
  rintro e w1 ⟨rfl, HS1, hP⟩
  go_simp
  refine hK.out _ _ HS1 (fun HSX => ?_)
  clear hK K
  refine wpAnyH_done (by kernel_rfl) ?_ _
  exact hQ  _ hP
def ops227_0 : Array Oper := #[{ dst := some 4, op := Op.move (Operand.tmp 0), type := 84, pos := "writer.go:37", after := #[], guard := none },
  { dst := some 5, op := Op.move (Operand.tmp 1), type := 244, pos := "writer.go:37", after := #[], guard := none },
  { dst := some 6, op := Op.nilCheck (Operand.tmp 5), type := 0, pos := "writer.go:37", after := #[{ on := 1, ground := Ground.data }], guard := none },
  { dst := some 7, op := Op.load 3 (Operand.tmp 6), type := 3, pos := "writer.go:37", after := #[{ on := 2, ground := Ground.data }], guard := none },
  { dst := some 8, op := Op.move (Operand.tmp 0), type := 84, pos := "writer.go:37", after := #[], guard := none },
  { dst := some 9, op := Op.nilCheck (Operand.tmp 8), type := 0, pos := "writer.go:37", after := #[{ on := 4, ground := Ground.data }], guard := none },
  { dst := some 10, op := Op.fieldAddr 89 (Operand.tmp 9) 0, type := 0, pos := "writer.go:37", after := #[{ on := 5, ground := Ground.data }], guard := none },
  { dst := some 11, op := Op.load 87 (Operand.tmp 10), type := 87, pos := "writer.go:37", after := #[{ on := 6, ground := Ground.data }], guard := none },
  { dst := some 12, op := Op.makeFunc (Fn.func 236) #[Operand.tmp 11] #[], type := 432, pos := "writer.go:37", after := #[{ on := 7, ground := Ground.data }], guard := none },
  { dst := some 13, op := Op.call { callee := Callee.value (Operand.func 237), args := #[Operand.tmp 4, Operand.tmp 7, Operand.tmp 12], argTypes := #[84, 3, 432] }, type := 0, pos := "writer.go:37", after := #[{ on := 0, ground := Ground.data }, { on := 3, ground := Ground.data }, { on := 8, ground := Ground.data }], guard := none }]
set_option maxHeartbeats 8000000 in
set_option maxRecDepth 100000 in
theorem reg227_0 (W : World) (X B b o : Nat) (n : Int)  (hS : (fun w' => w'.cell? ⟨b, o, none⟩ = some (.int .i64 n) ∧ w'.cell? ⟨X, 0, none⟩ = some (.pointer (some ⟨B, 0, none⟩))) W.drew) (P : World → Prop) (hcall : Calls Tryz.prog 237 #[.pointer (some ⟨X, 0, none⟩), .int .i64 n, .func (.func 236) #[.pointer (some ⟨B, 0, none⟩)] #[]] W.drew fun e x1 => e = .returned (.tuple #[]) ∧ (x1.cell? ⟨b, o, none⟩ = some (.int .i64 n) ∧ x1.cell? ⟨X, 0, none⟩ = some (.pointer (some ⟨B, 0, none⟩))) ∧ P  x1)
    (Q : Exit → Act → World → Prop) (hPan : ∀ c (a : Act) w (d : Option Tmp) v, Q (.panic c) (a.put d v) w → Q (.panic c) a w) {u2 u3 u4 u5 u6 u7 u8 u9 u10 u11 u12 u13 : Value}
    (hQ : ∀  w1, P  w1 → Q .normal ⟨#[.pointer (some ⟨X, 0, none⟩), .pointer (some ⟨b, o, none⟩), u2, u3, .pointer (some ⟨X, 0, none⟩), .pointer (some ⟨b, o, none⟩), .pointer (some ⟨b, o, none⟩), .int .i64 n, .pointer (some ⟨X, 0, none⟩), .pointer (some ⟨X, 0, none⟩), .pointer (some ⟨X, 0, none⟩), .pointer (some ⟨B, 0, none⟩), .func (.func 236) #[.pointer (some ⟨B, 0, none⟩)] #[], .tuple #[]], []⟩ w1) :
    Code.wp Tryz.prog (Code.region 0 ops227_0 true) Q ⟨#[.pointer (some ⟨X, 0, none⟩), .pointer (some ⟨b, o, none⟩), u2, u3, u4, u5, u6, u7, u8, u9, u10, u11, u12, u13], []⟩ W := by
  refine wp_region_held_drew (S := fun w' => w'.cell? ⟨b, o, none⟩ = some (.int .i64 n) ∧ w'.cell? ⟨X, 0, none⟩ = some (.pointer (some ⟨B, 0, none⟩))) hmx hS (fun HSX => ?_)
  clear hS
  obtain ⟨W0, hW0⟩ : ∃ W0, W0 = W.drew := ⟨_, rfl⟩
  rw [← hW0] at HSX hcall ⊢
  clear hW0
  refine wpAnyH_take (i := 0) (oi := { dst := some 4, op := Op.move (Operand.tmp 0), type := 84, pos := "writer.go:37", after := #[], guard := none }) (v := .pointer (some ⟨X, 0, none⟩)) rfl (by kernel_rfl) (by kernel_rfl) (by kernel_rfl) (fun _ _ _ h => hPan _ _ _ _ _ h) (Or.inl ⟨by rfl, ?_⟩) HSX ?_
  · intro wx d0
    obtain ⟨s1, s2⟩ := d0
    go_simp
  simp only [Act.put, List.setIfInBounds_toArray, List.set_cons_zero, List.set_cons_succ]
  refine wpAnyH_take (i := 1) (oi := { dst := some 5, op := Op.move (Operand.tmp 1), type := 244, pos := "writer.go:37", after := #[], guard := none }) (v := .pointer (some ⟨b, o, none⟩)) rfl (by kernel_rfl) (by kernel_rfl) (by kernel_rfl) (fun _ _ _ h => hPan _ _ _ _ _ h) (Or.inl ⟨by rfl, ?_⟩) HSX ?_
  · intro wx d0
    obtain ⟨s1, s2⟩ := d0
    go_simp
  simp only [Act.put, List.setIfInBounds_toArray, List.set_cons_zero, List.set_cons_succ]
  refine wpAnyH_take (i := 2) (oi := { dst := some 6, op := Op.nilCheck (Operand.tmp 5), type := 0, pos := "writer.go:37", after := #[{ on := 1, ground := Ground.data }], guard := none }) (v := .pointer (some ⟨b, o, none⟩)) rfl (by kernel_rfl) (by kernel_rfl) (by kernel_rfl) (fun _ _ _ h => hPan _ _ _ _ _ h) (Or.inl ⟨by rfl, ?_⟩) HSX ?_
  · intro wx d0
    obtain ⟨s1, s2⟩ := d0
    go_simp
  simp only [Act.put, List.setIfInBounds_toArray, List.set_cons_zero, List.set_cons_succ]
  refine wpAnyH_take (i := 3) (oi := { dst := some 7, op := Op.load 3 (Operand.tmp 6), type := 3, pos := "writer.go:37", after := #[{ on := 2, ground := Ground.data }], guard := none }) (v := .int .i64 n) rfl (by kernel_rfl) (by kernel_rfl) (by kernel_rfl) (fun _ _ _ h => hPan _ _ _ _ _ h) (Or.inl ⟨by rfl, ?_⟩) HSX ?_
  · intro wx d0
    obtain ⟨s1, s2⟩ := d0
    go_simp
  simp only [Act.put, List.setIfInBounds_toArray, List.set_cons_zero, List.set_cons_succ]
  refine wpAnyH_take (i := 4) (oi := { dst := some 8, op := Op.move (Operand.tmp 0), type := 84, pos := "writer.go:37", after := #[], guard := none }) (v := .pointer (some ⟨X, 0, none⟩)) rfl (by kernel_rfl) (by kernel_rfl) (by kernel_rfl) (fun _ _ _ h => hPan _ _ _ _ _ h) (Or.inl ⟨by rfl, ?_⟩) HSX ?_
  · intro wx d0
    obtain ⟨s1, s2⟩ := d0
    go_simp
  simp only [Act.put, List.setIfInBounds_toArray, List.set_cons_zero, List.set_cons_succ]
  refine wpAnyH_take (i := 5) (oi := { dst := some 9, op := Op.nilCheck (Operand.tmp 8), type := 0, pos := "writer.go:37", after := #[{ on := 4, ground := Ground.data }], guard := none }) (v := .pointer (some ⟨X, 0, none⟩)) rfl (by kernel_rfl) (by kernel_rfl) (by kernel_rfl) (fun _ _ _ h => hPan _ _ _ _ _ h) (Or.inl ⟨by rfl, ?_⟩) HSX ?_
  · intro wx d0
    obtain ⟨s1, s2⟩ := d0
    go_simp
  simp only [Act.put, List.setIfInBounds_toArray, List.set_cons_zero, List.set_cons_succ]
  refine wpAnyH_take (i := 6) (oi := { dst := some 10, op := Op.fieldAddr 89 (Operand.tmp 9) 0, type := 0, pos := "writer.go:37", after := #[{ on := 5, ground := Ground.data }], guard := none }) (v := .pointer (some ⟨X, 0, none⟩)) rfl (by kernel_rfl) (by kernel_rfl) (by kernel_rfl) (fun _ _ _ h => hPan _ _ _ _ _ h) (Or.inl ⟨by rfl, ?_⟩) HSX ?_
  · intro wx d0
    obtain ⟨s1, s2⟩ := d0
    go_simp
  simp only [Act.put, List.setIfInBounds_toArray, List.set_cons_zero, List.set_cons_succ]
  refine wpAnyH_take (i := 7) (oi := { dst := some 11, op := Op.load 87 (Operand.tmp 10), type := 87, pos := "writer.go:37", after := #[{ on := 6, ground := Ground.data }], guard := none }) (v := .pointer (some ⟨B, 0, none⟩)) rfl (by kernel_rfl) (by kernel_rfl) (by kernel_rfl) (fun _ _ _ h => hPan _ _ _ _ _ h) (Or.inl ⟨by rfl, ?_⟩) HSX ?_
  · intro wx d0
    obtain ⟨s1, s2⟩ := d0
    go_simp
  simp only [Act.put, List.setIfInBounds_toArray, List.set_cons_zero, List.set_cons_succ]
  refine wpAnyH_take (i := 8) (oi := { dst := some 12, op := Op.makeFunc (Fn.func 236) #[Operand.tmp 11] #[], type := 432, pos := "writer.go:37", after := #[{ on := 7, ground := Ground.data }], guard := none }) (v := .func (.func 236) #[.pointer (some ⟨B, 0, none⟩)] #[]) rfl (by kernel_rfl) (by kernel_rfl) (by kernel_rfl) (fun _ _ _ h => hPan _ _ _ _ _ h) (Or.inl ⟨by rfl, ?_⟩) HSX ?_
  · intro wx d0
    obtain ⟨s1, s2⟩ := d0
    go_simp
  simp only [Act.put, List.setIfInBounds_toArray, List.set_cons_zero, List.set_cons_succ]
  refine wpAnyH_ready (rs := [9]) (by kernel_rfl) (by simp) ?_
  refine AllReadyH.cons (o := { dst := some 13, op := Op.call { callee := Callee.value (Operand.func 237), args := #[Operand.tmp 4, Operand.tmp 7, Operand.tmp 12], argTypes := #[84, 3, 432] }, type := 0, pos := "writer.go:37", after := #[{ on := 0, ground := Ground.data }, { on := 3, ground := Ground.data }, { on := 8, ground := Ground.data }], guard := none }) rfl (fun K hK => ?_) AllReadyH.nil
  rw [if_pos (by rfl)]
  go_simp
  go_at_call 237
  refine hcall.mono ?_
  rintro e w1 ⟨rfl, HS1, hP⟩
  go_simp
  refine hK.out _ _ HS1 (fun HSX => ?_)
  clear hK K
  refine wpAnyH_done (by kernel_rfl) ?_ _
  exact hQ  _ hP
def ops232_0 : Array Oper := #[{ dst := some 4, op := Op.move (Operand.tmp 0), type := 84, pos := "writer.go:35", after := #[], guard := none },
  { dst := some 5, op := Op.move (Operand.tmp 1), type := 244, pos := "writer.go:35", after := #[], guard := none },
  { dst := some 6, op := Op.nilCheck (Operand.tmp 5), type := 0, pos := "writer.go:35", after := #[{ on := 1, ground := Ground.data }], guard := none },
  { dst := some 7, op := Op.load 3 (Operand.tmp 6), type := 3, pos := "writer.go:35", after := #[{ on := 2, ground := Ground.data }], guard := none },
  { dst := some 8, op := Op.move (Operand.tmp 0), type := 84, pos := "writer.go:35", after := #[], guard := none },
  { dst := some 9, op := Op.nilCheck (Operand.tmp 8), type := 0, pos := "writer.go:35", after := #[{ on := 4, ground := Ground.data }], guard := none },
  { dst := some 10, op := Op.fieldAddr 89 (Operand.tmp 9) 0, type := 0, pos := "writer.go:35", after := #[{ on := 5, ground := Ground.data }], guard := none },
  { dst := some 11, op := Op.load 87 (Operand.tmp 10), type := 87, pos := "writer.go:35", after := #[{ on := 6, ground := Ground.data }], guard := none },
  { dst := some 12, op := Op.makeFunc (Fn.func 27) #[Operand.tmp 11] #[], type := 95, pos := "writer.go:35", after := #[{ on := 7, ground := Ground.data }], guard := none },
  { dst := some 13, op := Op.call { callee := Callee.value (Operand.func 235), args := #[Operand.tmp 4, Operand.tmp 7, Operand.tmp 12], argTypes := #[84, 3, 95] }, type := 0, pos := "writer.go:35", after := #[{ on := 0, ground := Ground.data }, { on := 3, ground := Ground.data }, { on := 8, ground := Ground.data }], guard := none }]
set_option maxHeartbeats 8000000 in
set_option maxRecDepth 100000 in
theorem reg232_0 (W : World) (X B b o : Nat) (n : Int)  (hS : (fun w' => w'.cell? ⟨b, o, none⟩ = some (.int .i64 n) ∧ w'.cell? ⟨X, 0, none⟩ = some (.pointer (some ⟨B, 0, none⟩))) W.drew) (P : World → Prop) (hcall : Calls Tryz.prog 235 #[.pointer (some ⟨X, 0, none⟩), .int .i64 n, .func (.func 27) #[.pointer (some ⟨B, 0, none⟩)] #[]] W.drew fun e x1 => e = .returned (.tuple #[]) ∧ (x1.cell? ⟨b, o, none⟩ = some (.int .i64 n) ∧ x1.cell? ⟨X, 0, none⟩ = some (.pointer (some ⟨B, 0, none⟩))) ∧ P  x1)
    (Q : Exit → Act → World → Prop) (hPan : ∀ c (a : Act) w (d : Option Tmp) v, Q (.panic c) (a.put d v) w → Q (.panic c) a w) {u2 u3 u4 u5 u6 u7 u8 u9 u10 u11 u12 u13 : Value}
    (hQ : ∀  w1, P  w1 → Q .normal ⟨#[.pointer (some ⟨X, 0, none⟩), .pointer (some ⟨b, o, none⟩), u2, u3, .pointer (some ⟨X, 0, none⟩), .pointer (some ⟨b, o, none⟩), .pointer (some ⟨b, o, none⟩), .int .i64 n, .pointer (some ⟨X, 0, none⟩), .pointer (some ⟨X, 0, none⟩), .pointer (some ⟨X, 0, none⟩), .pointer (some ⟨B, 0, none⟩), .func (.func 27) #[.pointer (some ⟨B, 0, none⟩)] #[], .tuple #[]], []⟩ w1) :
    Code.wp Tryz.prog (Code.region 0 ops232_0 true) Q ⟨#[.pointer (some ⟨X, 0, none⟩), .pointer (some ⟨b, o, none⟩), u2, u3, u4, u5, u6, u7, u8, u9, u10, u11, u12, u13], []⟩ W := by
  refine wp_region_held_drew (S := fun w' => w'.cell? ⟨b, o, none⟩ = some (.int .i64 n) ∧ w'.cell? ⟨X, 0, none⟩ = some (.pointer (some ⟨B, 0, none⟩))) hmx hS (fun HSX => ?_)
  clear hS
  obtain ⟨W0, hW0⟩ : ∃ W0, W0 = W.drew := ⟨_, rfl⟩
  rw [← hW0] at HSX hcall ⊢
  clear hW0
  refine wpAnyH_take (i := 0) (oi := { dst := some 4, op := Op.move (Operand.tmp 0), type := 84, pos := "writer.go:35", after := #[], guard := none }) (v := .pointer (some ⟨X, 0, none⟩)) rfl (by kernel_rfl) (by kernel_rfl) (by kernel_rfl) (fun _ _ _ h => hPan _ _ _ _ _ h) (Or.inl ⟨by rfl, ?_⟩) HSX ?_
  · intro wx d0
    obtain ⟨s1, s2⟩ := d0
    go_simp
  simp only [Act.put, List.setIfInBounds_toArray, List.set_cons_zero, List.set_cons_succ]
  refine wpAnyH_take (i := 1) (oi := { dst := some 5, op := Op.move (Operand.tmp 1), type := 244, pos := "writer.go:35", after := #[], guard := none }) (v := .pointer (some ⟨b, o, none⟩)) rfl (by kernel_rfl) (by kernel_rfl) (by kernel_rfl) (fun _ _ _ h => hPan _ _ _ _ _ h) (Or.inl ⟨by rfl, ?_⟩) HSX ?_
  · intro wx d0
    obtain ⟨s1, s2⟩ := d0
    go_simp
  simp only [Act.put, List.setIfInBounds_toArray, List.set_cons_zero, List.set_cons_succ]
  refine wpAnyH_take (i := 2) (oi := { dst := some 6, op := Op.nilCheck (Operand.tmp 5), type := 0, pos := "writer.go:35", after := #[{ on := 1, ground := Ground.data }], guard := none }) (v := .pointer (some ⟨b, o, none⟩)) rfl (by kernel_rfl) (by kernel_rfl) (by kernel_rfl) (fun _ _ _ h => hPan _ _ _ _ _ h) (Or.inl ⟨by rfl, ?_⟩) HSX ?_
  · intro wx d0
    obtain ⟨s1, s2⟩ := d0
    go_simp
  simp only [Act.put, List.setIfInBounds_toArray, List.set_cons_zero, List.set_cons_succ]
  refine wpAnyH_take (i := 3) (oi := { dst := some 7, op := Op.load 3 (Operand.tmp 6), type := 3, pos := "writer.go:35", after := #[{ on := 2, ground := Ground.data }], guard := none }) (v := .int .i64 n) rfl (by kernel_rfl) (by kernel_rfl) (by kernel_rfl) (fun _ _ _ h => hPan _ _ _ _ _ h) (Or.inl ⟨by rfl, ?_⟩) HSX ?_
  · intro wx d0
    obtain ⟨s1, s2⟩ := d0
    go_simp
  simp only [Act.put, List.setIfInBounds_toArray, List.set_cons_zero, List.set_cons_succ]
  refine wpAnyH_take (i := 4) (oi := { dst := some 8, op := Op.move (Operand.tmp 0), type := 84, pos := "writer.go:35", after := #[], guard := none }) (v := .pointer (some ⟨X, 0, none⟩)) rfl (by kernel_rfl) (by kernel_rfl) (by kernel_rfl) (fun _ _ _ h => hPan _ _ _ _ _ h) (Or.inl ⟨by rfl, ?_⟩) HSX ?_
  · intro wx d0
    obtain ⟨s1, s2⟩ := d0
    go_simp
  simp only [Act.put, List.setIfInBounds_toArray, List.set_cons_zero, List.set_cons_succ]
  refine wpAnyH_take (i := 5) (oi := { dst := some 9, op := Op.nilCheck (Operand.tmp 8), type := 0, pos := "writer.go:35", after := #[{ on := 4, ground := Ground.data }], guard := none }) (v := .pointer (some ⟨X, 0, none⟩)) rfl (by kernel_rfl) (by kernel_rfl) (by kernel_rfl) (fun _ _ _ h => hPan _ _ _ _ _ h) (Or.inl ⟨by rfl, ?_⟩) HSX ?_
  · intro wx d0
    obtain ⟨s1, s2⟩ := d0
    go_simp
  simp only [Act.put, List.setIfInBounds_toArray, List.set_cons_zero, List.set_cons_succ]
  refine wpAnyH_take (i := 6) (oi := { dst := some 10, op := Op.fieldAddr 89 (Operand.tmp 9) 0, type := 0, pos := "writer.go:35", after := #[{ on := 5, ground := Ground.data }], guard := none }) (v := .pointer (some ⟨X, 0, none⟩)) rfl (by kernel_rfl) (by kernel_rfl) (by kernel_rfl) (fun _ _ _ h => hPan _ _ _ _ _ h) (Or.inl ⟨by rfl, ?_⟩) HSX ?_
  · intro wx d0
    obtain ⟨s1, s2⟩ := d0
    go_simp
  simp only [Act.put, List.setIfInBounds_toArray, List.set_cons_zero, List.set_cons_succ]
  refine wpAnyH_take (i := 7) (oi := { dst := some 11, op := Op.load 87 (Operand.tmp 10), type := 87, pos := "writer.go:35", after := #[{ on := 6, ground := Ground.data }], guard := none }) (v := .pointer (some ⟨B, 0, none⟩)) rfl (by kernel_rfl) (by kernel_rfl) (by kernel_rfl) (fun _ _ _ h => hPan _ _ _ _ _ h) (Or.inl ⟨by rfl, ?_⟩) HSX ?_
  · intro wx d0
    obtain ⟨s1, s2⟩ := d0
    go_simp
  simp only [Act.put, List.setIfInBounds_toArray, List.set_cons_zero, List.set_cons_succ]
  refine wpAnyH_take (i := 8) (oi := { dst := some 12, op := Op.makeFunc (Fn.func 27) #[Operand.tmp 11] #[], type := 95, pos := "writer.go:35", after := #[{ on := 7, ground := Ground.data }], guard := none }) (v := .func (.func 27) #[.pointer (some ⟨B, 0, none⟩)] #[]) rfl (by kernel_rfl) (by kernel_rfl) (by kernel_rfl) (fun _ _ _ h => hPan _ _ _ _ _ h) (Or.inl ⟨by rfl, ?_⟩) HSX ?_
  · intro wx d0
    obtain ⟨s1, s2⟩ := d0
    go_simp
  simp only [Act.put, List.setIfInBounds_toArray, List.set_cons_zero, List.set_cons_succ]
  refine wpAnyH_ready (rs := [9]) (by kernel_rfl) (by simp) ?_
  refine AllReadyH.cons (o := { dst := some 13, op := Op.call { callee := Callee.value (Operand.func 235), args := #[Operand.tmp 4, Operand.tmp 7, Operand.tmp 12], argTypes := #[84, 3, 95] }, type := 0, pos := "writer.go:35", after := #[{ on := 0, ground := Ground.data }, { on := 3, ground := Ground.data }, { on := 8, ground := Ground.data }], guard := none }) rfl (fun K hK => ?_) AllReadyH.nil
  rw [if_pos (by rfl)]
  go_simp
  go_at_call 235
  refine hcall.mono ?_
  rintro e w1 ⟨rfl, HS1, hP⟩
  go_simp
  refine hK.out _ _ HS1 (fun HSX => ?_)
  clear hK K
  refine wpAnyH_done (by kernel_rfl) ?_ _
  exact hQ  _ hP
def ops226_0 : Array Oper := #[{ dst := some 4, op := Op.move (Operand.tmp 0), type := 84, pos := "writer.go:41", after := #[], guard := none },
  { dst := some 5, op := Op.nilCheck (Operand.tmp 4), type := 0, pos := "writer.go:41", after := #[{ on := 0, ground := Ground.data }], guard := none },
  { dst := some 6, op := Op.fieldAddr 89 (Operand.tmp 5) 0, type := 0, pos := "writer.go:41", after := #[{ on := 1, ground := Ground.data }], guard := none },
  { dst := some 7, op := Op.load 87 (Operand.tmp 6), type := 87, pos := "writer.go:41", after := #[{ on := 2, ground := Ground.data }], guard := none },
  { dst := some 8, op := Op.move (Operand.tmp 1), type := 140, pos := "writer.go:41", after := #[], guard := none },
  { dst := some 9, op := Op.nilCheck (Operand.tmp 8), type := 0, pos := "writer.go:41", after := #[{ on := 4, ground := Ground.data }], guard := none },
  { dst := some 10, op := Op.load 23 (Operand.tmp 9), type := 23, pos := "writer.go:41", after := #[{ on := 5, ground := Ground.data }], guard := none },
  { dst := some 11, op := Op.call { callee := Callee.value (Operand.func 236), args := #[Operand.tmp 7, Operand.tmp 10], argTypes := #[87, 23] }, type := 0, pos := "writer.go:41", after := #[{ on := 3, ground := Ground.data }, { on := 6, ground := Ground.data }], guard := none }]
set_option maxHeartbeats 8000000 in
set_option maxRecDepth 100000 in
theorem reg226_0 (W : World) (X B b o : Nat) (n : Int)  (hS : (fun w' => w'.cell? ⟨b, o, none⟩ = some (.int .u64 n) ∧ w'.cell? ⟨X, 0, none⟩ = some (.pointer (some ⟨B, 0, none⟩))) W.drew) (P : World → Prop) (hcall : Calls Tryz.prog 236 #[.pointer (some ⟨B, 0, none⟩), .int .u64 n] W.drew fun e x1 => e = .returned (.tuple #[]) ∧ (x1.cell? ⟨b, o, none⟩ = some (.int .u64 n) ∧ x1.cell? ⟨X, 0, none⟩ = some (.pointer (some ⟨B, 0, none⟩))) ∧ P  x1)
    (Q : Exit → Act → World → Prop) (hPan : ∀ c (a : Act) w (d : Option Tmp) v, Q (.panic c) (a.put d v) w → Q (.panic c) a w) {u2 u3 u4 u5 u6 u7 u8 u9 u10 u11 : Value}
    (hQ : ∀  w1, P  w1 → Q .normal ⟨#[.pointer (some ⟨X, 0, none⟩), .pointer (some ⟨b, o, none⟩), u2, u3, .pointer (some ⟨X, 0, none⟩), .pointer (some ⟨X, 0, none⟩), .pointer (some ⟨X, 0, none⟩), .pointer (some ⟨B, 0, none⟩), .pointer (some ⟨b, o, none⟩), .pointer (some ⟨b, o, none⟩), .int .u64 n, .tuple #[]], []⟩ w1) :
    Code.wp Tryz.prog (Code.region 0 ops226_0 true) Q ⟨#[.pointer (some ⟨X, 0, none⟩), .pointer (some ⟨b, o, none⟩), u2, u3, u4, u5, u6, u7, u8, u9, u10, u11], []⟩ W := by
  refine wp_region_held_drew (S := fun w' => w'.cell? ⟨b, o, none⟩ = some (.int .u64 n) ∧ w'.cell? ⟨X, 0, none⟩ = some (.pointer (some ⟨B, 0, none⟩))) hmx hS (fun HSX => ?_)
  clear hS
  obtain ⟨W0, hW0⟩ : ∃ W0, W0 = W.drew := ⟨_, rfl⟩
  rw [← hW0] at HSX hcall ⊢
  clear hW0
  refine wpAnyH_take (i := 0) (oi := { dst := some 4, op := Op.move (Operand.tmp 0), type := 84, pos := "writer.go:41", after := #[], guard := none }) (v := .pointer (some ⟨X, 0, none⟩)) rfl (by kernel_rfl) (by kernel_rfl) (by kernel_rfl) (fun _ _ _ h => hPan _ _ _ _ _ h) (Or.inl ⟨by rfl, ?_⟩) HSX ?_
  · intro wx d0
    obtain ⟨s1, s2⟩ := d0
    go_simp
  simp only [Act.put, List.setIfInBounds_toArray, List.set_cons_zero, List.set_cons_succ]
  refine wpAnyH_take (i := 1) (oi := { dst := some 5, op := Op.nilCheck (Operand.tmp 4), type := 0, pos := "writer.go:41", after := #[{ on := 0, ground := Ground.data }], guard := none }) (v := .pointer (some ⟨X, 0, none⟩)) rfl (by kernel_rfl) (by kernel_rfl) (by kernel_rfl) (fun _ _ _ h => hPan _ _ _ _ _ h) (Or.inl ⟨by rfl, ?_⟩) HSX ?_
  · intro wx d0
    obtain ⟨s1, s2⟩ := d0
    go_simp
  simp only [Act.put, List.setIfInBounds_toArray, List.set_cons_zero, List.set_cons_succ]
  refine wpAnyH_take (i := 2) (oi := { dst := some 6, op := Op.fieldAddr 89 (Operand.tmp 5) 0, type := 0, pos := "writer.go:41", after := #[{ on := 1, ground := Ground.data }], guard := none }) (v := .pointer (some ⟨X, 0, none⟩)) rfl (by kernel_rfl) (by kernel_rfl) (by kernel_rfl) (fun _ _ _ h => hPan _ _ _ _ _ h) (Or.inl ⟨by rfl, ?_⟩) HSX ?_
  · intro wx d0
    obtain ⟨s1, s2⟩ := d0
    go_simp
  simp only [Act.put, List.setIfInBounds_toArray, List.set_cons_zero, List.set_cons_succ]
  refine wpAnyH_take (i := 3) (oi := { dst := some 7, op := Op.load 87 (Operand.tmp 6), type := 87, pos := "writer.go:41", after := #[{ on := 2, ground := Ground.data }], guard := none }) (v := .pointer (some ⟨B, 0, none⟩)) rfl (by kernel_rfl) (by kernel_rfl) (by kernel_rfl) (fun _ _ _ h => hPan _ _ _ _ _ h) (Or.inl ⟨by rfl, ?_⟩) HSX ?_
  · intro wx d0
    obtain ⟨s1, s2⟩ := d0
    go_simp
  simp only [Act.put, List.setIfInBounds_toArray, List.set_cons_zero, List.set_cons_succ]
  refine wpAnyH_take (i := 4) (oi := { dst := some 8, op := Op.move (Operand.tmp 1), type := 140, pos := "writer.go:41", after := #[], guard := none }) (v := .pointer (some ⟨b, o, none⟩)) rfl (by kernel_rfl) (by kernel_rfl) (by kernel_rfl) (fun _ _ _ h => hPan _ _ _ _ _ h) (Or.inl ⟨by rfl, ?_⟩) HSX ?_
  · intro wx d0
    obtain ⟨s1, s2⟩ := d0
    go_simp
  simp only [Act.put, List.setIfInBounds_toArray, List.set_cons_zero, List.set_cons_succ]
  refine wpAnyH_take (i := 5) (oi := { dst := some 9, op := Op.nilCheck (Operand.tmp 8), type := 0, pos := "writer.go:41", after := #[{ on := 4, ground := Ground.data }], guard := none }) (v := .pointer (some ⟨b, o, none⟩)) rfl (by kernel_rfl) (by kernel_rfl) (by kernel_rfl) (fun _ _ _ h => hPan _ _ _ _ _ h) (Or.inl ⟨by rfl, ?_⟩) HSX ?_
  · intro wx d0
    obtain ⟨s1, s2⟩ := d0
    go_simp
  simp only [Act.put, List.setIfInBounds_toArray, List.set_cons_zero, List.set_cons_succ]
  refine wpAnyH_take (i := 6) (oi := { dst := some 10, op := Op.load 23 (Operand.tmp 9), type := 23, pos := "writer.go:41", after := #[{ on := 5, ground := Ground.data }], guard := none }) (v := .int .u64 n) rfl (by kernel_rfl) (by kernel_rfl) (by kernel_rfl) (fun _ _ _ h => hPan _ _ _ _ _ h) (Or.inl ⟨by rfl, ?_⟩) HSX ?_
  · intro wx d0
    obtain ⟨s1, s2⟩ := d0
    go_simp
  simp only [Act.put, List.setIfInBounds_toArray, List.set_cons_zero, List.set_cons_succ]
  refine wpAnyH_ready (rs := [7]) (by kernel_rfl) (by simp) ?_
  refine AllReadyH.cons (o := { dst := some 11, op := Op.call { callee := Callee.value (Operand.func 236), args := #[Operand.tmp 7, Operand.tmp 10], argTypes := #[87, 23] }, type := 0, pos := "writer.go:41", after := #[{ on := 3, ground := Ground.data }, { on := 6, ground := Ground.data }], guard := none }) rfl (fun K hK => ?_) AllReadyH.nil
  rw [if_pos (by rfl)]
  go_simp
  go_at_call 236
  refine hcall.mono ?_
  rintro e w1 ⟨rfl, HS1, hP⟩
  go_simp
  refine hK.out _ _ HS1 (fun HSX => ?_)
  clear hK K
  refine wpAnyH_done (by kernel_rfl) ?_ _
  exact hQ  _ hP
def ops230_0 : Array Oper := #[{ dst := some 4, op := Op.move (Operand.tmp 0), type := 84, pos := "writer.go:43", after := #[], guard := none },
  { dst := some 5, op := Op.nilCheck (Operand.tmp 4), type := 0, pos := "writer.go:43", after := #[{ on := 0, ground := Ground.data }], guard := none },
  { dst := some 6, op := Op.fieldAddr 89 (Operand.tmp 5) 0, type := 0, pos := "writer.go:43", after := #[{ on := 1, ground := Ground.data }], guard := none },
  { dst := some 7, op := Op.load 87 (Operand.tmp 6), type := 87, pos := "writer.go:43", after := #[{ on := 2, ground := Ground.data }], guard := none },
  { dst := some 8, op := Op.move (Operand.tmp 1), type := 248, pos := "writer.go:43", after := #[], guard := none },
  { dst := some 9, op := Op.nilCheck (Operand.tmp 8), type := 0, pos := "writer.go:43", after := #[{ on := 4, ground := Ground.data }], guard := none },
  { dst := some 10, op := Op.load 108 (Operand.tmp 9), type := 108, pos := "writer.go:43", after := #[{ on := 5, ground := Ground.data }], guard := none },
  { dst := some 11, op := Op.call { callee := Callee.value (Operand.func 234), args := #[Operand.tmp 7, Operand.tmp 10], argTypes := #[87, 5] }, type := 0, pos := "writer.go:43", after := #[{ on := 3, ground := Ground.data }, { on := 6, ground := Ground.data }], guard := none }]
set_option maxHeartbeats 8000000 in
set_option maxRecDepth 100000 in
theorem reg230_0 (W : World) (X B b o : Nat) (n : Int)  (hS : (fun w' => w'.cell? ⟨b, o, none⟩ = some (.int .u8 n) ∧ w'.cell? ⟨X, 0, none⟩ = some (.pointer (some ⟨B, 0, none⟩))) W.drew) (P : World → Prop) (hcall : Calls Tryz.prog 234 #[.pointer (some ⟨B, 0, none⟩), .int .u8 n] W.drew fun e x1 => e = .returned (.tuple #[]) ∧ (x1.cell? ⟨b, o, none⟩ = some (.int .u8 n) ∧ x1.cell? ⟨X, 0, none⟩ = some (.pointer (some ⟨B, 0, none⟩))) ∧ P  x1)
    (Q : Exit → Act → World → Prop) (hPan : ∀ c (a : Act) w (d : Option Tmp) v, Q (.panic c) (a.put d v) w → Q (.panic c) a w) {u2 u3 u4 u5 u6 u7 u8 u9 u10 u11 : Value}
    (hQ : ∀  w1, P  w1 → Q .normal ⟨#[.pointer (some ⟨X, 0, none⟩), .pointer (some ⟨b, o, none⟩), u2, u3, .pointer (some ⟨X, 0, none⟩), .pointer (some ⟨X, 0, none⟩), .pointer (some ⟨X, 0, none⟩), .pointer (some ⟨B, 0, none⟩), .pointer (some ⟨b, o, none⟩), .pointer (some ⟨b, o, none⟩), .int .u8 n, .tuple #[]], []⟩ w1) :
    Code.wp Tryz.prog (Code.region 0 ops230_0 true) Q ⟨#[.pointer (some ⟨X, 0, none⟩), .pointer (some ⟨b, o, none⟩), u2, u3, u4, u5, u6, u7, u8, u9, u10, u11], []⟩ W := by
  refine wp_region_held_drew (S := fun w' => w'.cell? ⟨b, o, none⟩ = some (.int .u8 n) ∧ w'.cell? ⟨X, 0, none⟩ = some (.pointer (some ⟨B, 0, none⟩))) hmx hS (fun HSX => ?_)
  clear hS
  obtain ⟨W0, hW0⟩ : ∃ W0, W0 = W.drew := ⟨_, rfl⟩
  rw [← hW0] at HSX hcall ⊢
  clear hW0
  refine wpAnyH_take (i := 0) (oi := { dst := some 4, op := Op.move (Operand.tmp 0), type := 84, pos := "writer.go:43", after := #[], guard := none }) (v := .pointer (some ⟨X, 0, none⟩)) rfl (by kernel_rfl) (by kernel_rfl) (by kernel_rfl) (fun _ _ _ h => hPan _ _ _ _ _ h) (Or.inl ⟨by rfl, ?_⟩) HSX ?_
  · intro wx d0
    obtain ⟨s1, s2⟩ := d0
    go_simp
  simp only [Act.put, List.setIfInBounds_toArray, List.set_cons_zero, List.set_cons_succ]
  refine wpAnyH_take (i := 1) (oi := { dst := some 5, op := Op.nilCheck (Operand.tmp 4), type := 0, pos := "writer.go:43", after := #[{ on := 0, ground := Ground.data }], guard := none }) (v := .pointer (some ⟨X, 0, none⟩)) rfl (by kernel_rfl) (by kernel_rfl) (by kernel_rfl) (fun _ _ _ h => hPan _ _ _ _ _ h) (Or.inl ⟨by rfl, ?_⟩) HSX ?_
  · intro wx d0
    obtain ⟨s1, s2⟩ := d0
    go_simp
  simp only [Act.put, List.setIfInBounds_toArray, List.set_cons_zero, List.set_cons_succ]
  refine wpAnyH_take (i := 2) (oi := { dst := some 6, op := Op.fieldAddr 89 (Operand.tmp 5) 0, type := 0, pos := "writer.go:43", after := #[{ on := 1, ground := Ground.data }], guard := none }) (v := .pointer (some ⟨X, 0, none⟩)) rfl (by kernel_rfl) (by kernel_rfl) (by kernel_rfl) (fun _ _ _ h => hPan _ _ _ _ _ h) (Or.inl ⟨by rfl, ?_⟩) HSX ?_
  · intro wx d0
    obtain ⟨s1, s2⟩ := d0
    go_simp
  simp only [Act.put, List.setIfInBounds_toArray, List.set_cons_zero, List.set_cons_succ]
  refine wpAnyH_take (i := 3) (oi := { dst := some 7, op := Op.load 87 (Operand.tmp 6), type := 87, pos := "writer.go:43", after := #[{ on := 2, ground := Ground.data }], guard := none }) (v := .pointer (some ⟨B, 0, none⟩)) rfl (by kernel_rfl) (by kernel_rfl) (by kernel_rfl) (fun _ _ _ h => hPan _ _ _ _ _ h) (Or.inl ⟨by rfl, ?_⟩) HSX ?_
  · intro wx d0
    obtain ⟨s1, s2⟩ := d0
    go_simp
  simp only [Act.put, List.setIfInBounds_toArray, List.set_cons_zero, List.set_cons_succ]
  refine wpAnyH_take (i := 4) (oi := { dst := some 8, op := Op.move (Operand.tmp 1), type := 248, pos := "writer.go:43", after := #[], guard := none }) (v := .pointer (some ⟨b, o, none⟩)) rfl (by kernel_rfl) (by kernel_rfl) (by kernel_rfl) (fun _ _ _ h => hPan _ _ _ _ _ h) (Or.inl ⟨by rfl, ?_⟩) HSX ?_
  · intro wx d0
    obtain ⟨s1, s2⟩ := d0
    go_simp
  simp only [Act.put, List.setIfInBounds_toArray, List.set_cons_zero, List.set_cons_succ]
  refine wpAnyH_take (i := 5) (oi := { dst := some 9, op := Op.nilCheck (Operand.tmp 8), type := 0, pos := "writer.go:43", after := #[{ on := 4, ground := Ground.data }], guard := none }) (v := .pointer (some ⟨b, o, none⟩)) rfl (by kernel_rfl) (by kernel_rfl) (by kernel_rfl) (fun _ _ _ h => hPan _ _ _ _ _ h) (Or.inl ⟨by rfl, ?_⟩) HSX ?_
  · intro wx d0
    obtain ⟨s1, s2⟩ := d0
    go_simp
  simp only [Act.put, List.setIfInBounds_toArray, List.set_cons_zero, List.set_cons_succ]
  refine wpAnyH_take (i := 6) (oi := { dst := some 10, op := Op.load 108 (Operand.tmp 9), type := 108, pos := "writer.go:43", after := #[{ on := 5, ground := Ground.data }], guard := none }) (v := .int .u8 n) rfl (by kernel_rfl) (by kernel_rfl) (by kernel_rfl) (fun _ _ _ h => hPan _ _ _ _ _ h) (Or.inl ⟨by rfl, ?_⟩) HSX ?_
  · intro wx d0
    obtain ⟨s1, s2⟩ := d0
    go_simp
  simp only [Act.put, List.setIfInBounds_toArray, List.set_cons_zero, List.set_cons_succ]
  refine wpAnyH_ready (rs := [7]) (by kernel_rfl) (by simp) ?_
  refine AllReadyH.cons (o := { dst := some 11, op := Op.call { callee := Callee.value (Operand.func 234), args := #[Operand.tmp 7, Operand.tmp 10], argTypes := #[87, 5] }, type := 0, pos := "writer.go:43", after := #[{ on := 3, ground := Ground.data }, { on := 6, ground := Ground.data }], guard := none }) rfl (fun K hK => ?_) AllReadyH.nil
  rw [if_pos (by rfl)]
  go_simp
  go_at_call 234
  refine hcall.mono ?_
  rintro e w1 ⟨rfl, HS1, hP⟩
  go_simp
  refine hK.out _ _ HS1 (fun HSX => ?_)
  clear hK K
  refine wpAnyH_done (by kernel_rfl) ?_ _
  exact hQ  _ hP
def ops231_0 : Array Oper := #[{ dst := some 4, op := Op.move (Operand.tmp 0), type := 84, pos := "writer.go:39", after := #[], guard := none },
  { dst := some 5, op := Op.nilCheck (Operand.tmp 4), type := 0, pos := "writer.go:39", after := #[{ on := 0, ground := Ground.data }], guard := none },
  { dst := some 6, op := Op.fieldAddr 89 (Operand.tmp 5) 0, type := 0, pos := "writer.go:39", after := #[{ on := 1, ground := Ground.data }], guard := none },
  { dst := some 7, op := Op.load 87 (Operand.tmp 6), type := 87, pos := "writer.go:39", after := #[{ on := 2, ground := Ground.data }], guard := none },
  { dst := some 8, op := Op.move (Operand.tmp 1), type := 246, pos := "writer.go:39", after := #[], guard := none },
  { dst := some 9, op := Op.nilCheck (Operand.tmp 8), type := 0, pos := "writer.go:39", after := #[{ on := 4, ground := Ground.data }], guard := none },
  { dst := some 10, op := Op.load 29 (Operand.tmp 9), type := 29, pos := "writer.go:39", after := #[{ on := 5, ground := Ground.data }], guard := none },
  { dst := some 11, op := Op.call { callee := Callee.value (Operand.func 27), args := #[Operand.tmp 7, Operand.tmp 10], argTypes := #[87, 29] }, type := 0, pos := "writer.go:39", after := #[{ on := 3, ground := Ground.data }, { on := 6, ground := Ground.data }], guard := none }]
set_option maxHeartbeats 8000000 in
set_option maxRecDepth 100000 in
theorem reg231_0 (W : World) (X B b o : Nat) (n : Int)  (hS : (fun w' => w'.cell? ⟨b, o, none⟩ = some (.int .u32 n) ∧ w'.cell? ⟨X, 0, none⟩ = some (.pointer (some ⟨B, 0, none⟩))) W.drew) (P : World → Prop) (hcall : Calls Tryz.prog 27 #[.pointer (some ⟨B, 0, none⟩), .int .u32 n] W.drew fun e x1 => e = .returned (.tuple #[]) ∧ (x1.cell? ⟨b, o, none⟩ = some (.int .u32 n) ∧ x1.cell? ⟨X, 0, none⟩ = some (.pointer (some ⟨B, 0, none⟩))) ∧ P  x1)
    (Q : Exit → Act → World → Prop) (hPan : ∀ c (a : Act) w (d : Option Tmp) v, Q (.panic c) (a.put d v) w → Q (.panic c) a w) {u2 u3 u4 u5 u6 u7 u8 u9 u10 u11 : Value}
    (hQ : ∀  w1, P  w1 → Q .normal ⟨#[.pointer (some ⟨X, 0, none⟩), .pointer (some ⟨b, o, none⟩), u2, u3, .pointer (some ⟨X, 0, none⟩), .pointer (some ⟨X, 0, none⟩), .pointer (some ⟨X, 0, none⟩), .pointer (some ⟨B, 0, none⟩), .pointer (some ⟨b, o, none⟩), .pointer (some ⟨b, o, none⟩), .int .u32 n, .tuple #[]], []⟩ w1) :
    Code.wp Tryz.prog (Code.region 0 ops231_0 true) Q ⟨#[.pointer (some ⟨X, 0, none⟩), .pointer (some ⟨b, o, none⟩), u2, u3, u4, u5, u6, u7, u8, u9, u10, u11], []⟩ W := by
  refine wp_region_held_drew (S := fun w' => w'.cell? ⟨b, o, none⟩ = some (.int .u32 n) ∧ w'.cell? ⟨X, 0, none⟩ = some (.pointer (some ⟨B, 0, none⟩))) hmx hS (fun HSX => ?_)
  clear hS
  obtain ⟨W0, hW0⟩ : ∃ W0, W0 = W.drew := ⟨_, rfl⟩
  rw [← hW0] at HSX hcall ⊢
  clear hW0
  refine wpAnyH_take (i := 0) (oi := { dst := some 4, op := Op.move (Operand.tmp 0), type := 84, pos := "writer.go:39", after := #[], guard := none }) (v := .pointer (some ⟨X, 0, none⟩)) rfl (by kernel_rfl) (by kernel_rfl) (by kernel_rfl) (fun _ _ _ h => hPan _ _ _ _ _ h) (Or.inl ⟨by rfl, ?_⟩) HSX ?_
  · intro wx d0
    obtain ⟨s1, s2⟩ := d0
    go_simp
  simp only [Act.put, List.setIfInBounds_toArray, List.set_cons_zero, List.set_cons_succ]
  refine wpAnyH_take (i := 1) (oi := { dst := some 5, op := Op.nilCheck (Operand.tmp 4), type := 0, pos := "writer.go:39", after := #[{ on := 0, ground := Ground.data }], guard := none }) (v := .pointer (some ⟨X, 0, none⟩)) rfl (by kernel_rfl) (by kernel_rfl) (by kernel_rfl) (fun _ _ _ h => hPan _ _ _ _ _ h) (Or.inl ⟨by rfl, ?_⟩) HSX ?_
  · intro wx d0
    obtain ⟨s1, s2⟩ := d0
    go_simp
  simp only [Act.put, List.setIfInBounds_toArray, List.set_cons_zero, List.set_cons_succ]
  refine wpAnyH_take (i := 2) (oi := { dst := some 6, op := Op.fieldAddr 89 (Operand.tmp 5) 0, type := 0, pos := "writer.go:39", after := #[{ on := 1, ground := Ground.data }], guard := none }) (v := .pointer (some ⟨X, 0, none⟩)) rfl (by kernel_rfl) (by kernel_rfl) (by kernel_rfl) (fun _ _ _ h => hPan _ _ _ _ _ h) (Or.inl ⟨by rfl, ?_⟩) HSX ?_
  · intro wx d0
    obtain ⟨s1, s2⟩ := d0
    go_simp
  simp only [Act.put, List.setIfInBounds_toArray, List.set_cons_zero, List.set_cons_succ]
  refine wpAnyH_take (i := 3) (oi := { dst := some 7, op := Op.load 87 (Operand.tmp 6), type := 87, pos := "writer.go:39", after := #[{ on := 2, ground := Ground.data }], guard := none }) (v := .pointer (some ⟨B, 0, none⟩)) rfl (by kernel_rfl) (by kernel_rfl) (by kernel_rfl) (fun _ _ _ h => hPan _ _ _ _ _ h) (Or.inl ⟨by rfl, ?_⟩) HSX ?_
  · intro wx d0
    obtain ⟨s1, s2⟩ := d0
    go_simp
  simp only [Act.put, List.setIfInBounds_toArray, List.set_cons_zero, List.set_cons_succ]
  refine wpAnyH_take (i := 4) (oi := { dst := some 8, op := Op.move (Operand.tmp 1), type := 246, pos := "writer.go:39", after := #[], guard := none }) (v := .pointer (some ⟨b, o, none⟩)) rfl (by kernel_rfl) (by kernel_rfl) (by kernel_rfl) (fun _ _ _ h => hPan _ _ _ _ _ h) (Or.inl ⟨by rfl, ?_⟩) HSX ?_
  · intro wx d0
    obtain ⟨s1, s2⟩ := d0
    go_simp
  simp only [Act.put, List.setIfInBounds_toArray, List.set_cons_zero, List.set_cons_succ]
  refine wpAnyH_take (i := 5) (oi := { dst := some 9, op := Op.nilCheck (Operand.tmp 8), type := 0, pos := "writer.go:39", after := #[{ on := 4, ground := Ground.data }], guard := none }) (v := .pointer (some ⟨b, o, none⟩)) rfl (by kernel_rfl) (by kernel_rfl) (by kernel_rfl) (fun _ _ _ h => hPan _ _ _ _ _ h) (Or.inl ⟨by rfl, ?_⟩) HSX ?_
  · intro wx d0
    obtain ⟨s1, s2⟩ := d0
    go_simp
  simp only [Act.put, List.setIfInBounds_toArray, List.set_cons_zero, List.set_cons_succ]
  refine wpAnyH_take (i := 6) (oi := { dst := some 10, op := Op.load 29 (Operand.tmp 9), type := 29, pos := "writer.go:39", after := #[{ on := 5, ground := Ground.data }], guard := none }) (v := .int .u32 n) rfl (by kernel_rfl) (by kernel_rfl) (by kernel_rfl) (fun _ _ _ h => hPan _ _ _ _ _ h) (Or.inl ⟨by rfl, ?_⟩) HSX ?_
  · intro wx d0
    obtain ⟨s1, s2⟩ := d0
    go_simp
  simp only [Act.put, List.setIfInBounds_toArray, List.set_cons_zero, List.set_cons_succ]
  refine wpAnyH_ready (rs := [7]) (by kernel_rfl) (by simp) ?_
  refine AllReadyH.cons (o := { dst := some 11, op := Op.call { callee := Callee.value (Operand.func 27), args := #[Operand.tmp 7, Operand.tmp 10], argTypes := #[87, 29] }, type := 0, pos := "writer.go:39", after := #[{ on := 3, ground := Ground.data }, { on := 6, ground := Ground.data }], guard := none }) rfl (fun K hK => ?_) AllReadyH.nil
  rw [if_pos (by rfl)]
  go_simp
  go_at_call 27
  refine hcall.mono ?_
  rintro e w1 ⟨rfl, HS1, hP⟩
  go_simp
  refine hK.out _ _ HS1 (fun HSX => ?_)
  clear hK K
  refine wpAnyH_done (by kernel_rfl) ?_ _
  exact hQ  _ hP
def ops224_0 : Array Oper := #[{ dst := some 4, op := Op.move (Operand.tmp 0), type := 84, pos := "writer.go:54", after := #[], guard := none },
  { dst := some 5, op := Op.move (Operand.tmp 1), type := 144, pos := "writer.go:54", after := #[], guard := none },
  { dst := some 6, op := Op.nilCheck (Operand.tmp 5), type := 0, pos := "writer.go:54", after := #[{ on := 1, ground := Ground.data }], guard := none },
  { dst := some 7, op := Op.load 22 (Operand.tmp 6), type := 22, pos := "writer.go:54", after := #[{ on := 2, ground := Ground.data }], guard := none },
  { dst := some 8, op := Op.call { callee := Callee.builtin Builtin.len, args := #[Operand.tmp 7], argTypes := #[22] }, type := 3, pos := "writer.go:54", after := #[{ on := 3, ground := Ground.data }], guard := none },
  { dst := some 9, op := Op.move (Operand.tmp 0), type := 84, pos := "writer.go:54", after := #[], guard := none },
  { dst := some 10, op := Op.nilCheck (Operand.tmp 9), type := 0, pos := "writer.go:54", after := #[{ on := 5, ground := Ground.data }], guard := none },
  { dst := some 11, op := Op.fieldAddr 89 (Operand.tmp 10) 0, type := 0, pos := "writer.go:54", after := #[{ on := 6, ground := Ground.data }], guard := none },
  { dst := some 12, op := Op.load 87 (Operand.tmp 11), type := 87, pos := "writer.go:54", after := #[{ on := 7, ground := Ground.data }], guard := none },
  { dst := some 13, op := Op.makeFunc (Fn.func 27) #[Operand.tmp 12] #[], type := 95, pos := "writer.go:54", after := #[{ on := 8, ground := Ground.data }], guard := none },
  { dst := some 14, op := Op.call { callee := Callee.value (Operand.func 235), args := #[Operand.tmp 4, Operand.tmp 8, Operand.tmp 13], argTypes := #[84, 3, 95] }, type := 0, pos := "writer.go:54", after := #[{ on := 0, ground := Ground.data }, { on := 4, ground := Ground.data }, { on := 9, ground := Ground.data }], guard := none }]
set_option maxHeartbeats 8000000 in
set_option maxRecDepth 100000 in
theorem reg224_0 (W : World) (X B b o : Nat) (la : Option Addr) (ln lc : Nat)  (hS : (fun w' => w'.cell? ⟨b, o, none⟩ = some (.slice la ln lc) ∧ w'.cell? ⟨X, 0, none⟩ = some (.pointer (some ⟨B, 0, none⟩))) W.drew) (P : World → Prop) (hcall : Calls Tryz.prog 235 #[.pointer (some ⟨X, 0, none⟩), .int .i64 (ln : Nat), .func (.func 27) #[.pointer (some ⟨B, 0, none⟩)] #[]] W.drew fun e x1 => e = .returned (.tuple #[]) ∧ (x1.cell? ⟨b, o, none⟩ = some (.slice la ln lc) ∧ x1.cell? ⟨X, 0, none⟩ = some (.pointer (some ⟨B, 0, none⟩))) ∧ P  x1)
    (Q : Exit → Act → World → Prop) (hPan : ∀ c (a : Act) w (d : Option Tmp) v, Q (.panic c) (a.put d v) w → Q (.panic c) a w) {u2 u3 u4 u5 u6 u7 u8 u9 u10 u11 u12 u13 u14 u15 u16 u17 u18 u19 u20 u21 u22 u23 u24 : Value}
    (hQ : ∀  w1, P  w1 → Q .normal ⟨#[.pointer (some ⟨X, 0, none⟩), .pointer (some ⟨b, o, none⟩), u2, u3, .pointer (some ⟨X, 0, none⟩), .pointer (some ⟨b, o, none⟩), .pointer (some ⟨b, o, none⟩), .slice la ln lc, .int .i64 (ln : Nat), .pointer (some ⟨X, 0, none⟩), .pointer (some ⟨X, 0, none⟩), .pointer (some ⟨X, 0, none⟩), .pointer (some ⟨B, 0, none⟩), .func (.func 27) #[.pointer (some ⟨B, 0, none⟩)] #[], .tuple #[], u15, u16, u17, u18, u19, u20, u21, u22, u23, u24], []⟩ w1) :
    Code.wp Tryz.prog (Code.region 0 ops224_0 true) Q ⟨#[.pointer (some ⟨X, 0, none⟩), .pointer (some ⟨b, o, none⟩), u2, u3, u4, u5, u6, u7, u8, u9, u10, u11, u12, u13, u14, u15, u16, u17, u18, u19, u20, u21, u22, u23, u24], []⟩ W := by
  refine wp_region_held_drew (S := fun w' => w'.cell? ⟨b, o, none⟩ = some (.slice la ln lc) ∧ w'.cell? ⟨X, 0, none⟩ = some (.pointer (some ⟨B, 0, none⟩))) hmx hS (fun HSX => ?_)
  clear hS
  obtain ⟨W0, hW0⟩ : ∃ W0, W0 = W.drew := ⟨_, rfl⟩
  rw [← hW0] at HSX hcall ⊢
  clear hW0
  refine wpAnyH_take (i := 0) (oi := { dst := some 4, op := Op.move (Operand.tmp 0), type := 84, pos := "writer.go:54", after := #[], guard := none }) (v := .pointer (some ⟨X, 0, none⟩)) rfl (by kernel_rfl) (by kernel_rfl) (by kernel_rfl) (fun _ _ _ h => hPan _ _ _ _ _ h) (Or.inl ⟨by rfl, ?_⟩) HSX ?_
  · intro wx d0
    obtain ⟨s1, s2⟩ := d0
    go_simp
  simp only [Act.put, List.setIfInBounds_toArray, List.set_cons_zero, List.set_cons_succ]
  refine wpAnyH_take (i := 1) (oi := { dst := some 5, op := Op.move (Operand.tmp 1), type := 144, pos := "writer.go:54", after := #[], guard := none }) (v := .pointer (some ⟨b, o, none⟩)) rfl (by kernel_rfl) (by kernel_rfl) (by kernel_rfl) (fun _ _ _ h => hPan _ _ _ _ _ h) (Or.inl ⟨by rfl, ?_⟩) HSX ?_
  · intro wx d0
    obtain ⟨s1, s2⟩ := d0
    go_simp
  simp only [Act.put, List.setIfInBounds_toArray, List.set_cons_zero, List.set_cons_succ]
  refine wpAnyH_take (i := 2) (oi := { dst := some 6, op := Op.nilCheck (Operand.tmp 5), type := 0, pos := "writer.go:54", after := #[{ on := 1, ground := Ground.data }], guard := none }) (v := .pointer (some ⟨b, o, none⟩)) rfl (by kernel_rfl) (by kernel_rfl) (by kernel_rfl) (fun _ _ _ h => hPan _ _ _ _ _ h) (Or.inl ⟨by rfl, ?_⟩) HSX ?_
  · intro wx d0
    obtain ⟨s1, s2⟩ := d0
    go_simp
  simp only [Act.put, List.setIfInBounds_toArray, List.set_cons_zero, List.set_cons_succ]
  refine wpAnyH_take (i := 3) (oi := { dst := some 7, op := Op.load 22 (Operand.tmp 6), type := 22, pos := "writer.go:54", after := #[{ on := 2, ground := Ground.data }], guard := none }) (v := .slice la ln lc) rfl (by kernel_rfl) (by kernel_rfl) (by kernel_rfl) (fun _ _ _ h => hPan _ _ _ _ _ h) (Or.inl ⟨by rfl, ?_⟩) HSX ?_
  · intro wx d0
    obtain ⟨s1, s2⟩ := d0
    go_simp
  simp only [Act.put, List.setIfInBounds_toArray, List.set_cons_zero, List.set_cons_succ]
  refine wpAnyH_take (i := 4) (oi := { dst := some 8, op := Op.call { callee := Callee.builtin Builtin.len, args := #[Operand.tmp 7], argTypes := #[22] }, type := 3, pos := "writer.go:54", after := #[{ on := 3, ground := Ground.data }], guard := none }) (v := .int .i64 (ln : Nat)) rfl (by kernel_rfl) (by kernel_rfl) (by kernel_rfl) (fun _ _ _ h => hPan _ _ _ _ _ h) (Or.inl ⟨by rfl, ?_⟩) HSX ?_
  · intro wx d0
    obtain ⟨s1, s2⟩ := d0
    go_simp
  simp only [Act.put, List.setIfInBounds_toArray, List.set_cons_zero, List.set_cons_succ]
  refine wpAnyH_take (i := 5) (oi := { dst := some 9, op := Op.move (Operand.tmp 0), type := 84, pos := "writer.go:54", after := #[], guard := none }) (v := .pointer (some ⟨X, 0, none⟩)) rfl (by kernel_rfl) (by kernel_rfl) (by kernel_rfl) (fun _ _ _ h => hPan _ _ _ _ _ h) (Or.inl ⟨by rfl, ?_⟩) HSX ?_
  · intro wx d0
    obtain ⟨s1, s2⟩ := d0
    go_simp
  simp only [Act.put, List.setIfInBounds_toArray, List.set_cons_zero, List.set_cons_succ]
  refine wpAnyH_take (i := 6) (oi := { dst := some 10, op := Op.nilCheck (Operand.tmp 9), type := 0, pos := "writer.go:54", after := #[{ on := 5, ground := Ground.data }], guard := none }) (v := .pointer (some ⟨X, 0, none⟩)) rfl (by kernel_rfl) (by kernel_rfl) (by kernel_rfl) (fun _ _ _ h => hPan _ _ _ _ _ h) (Or.inl ⟨by rfl, ?_⟩) HSX ?_
  · intro wx d0
    obtain ⟨s1, s2⟩ := d0
    go_simp
  simp only [Act.put, List.setIfInBounds_toArray, List.set_cons_zero, List.set_cons_succ]
  refine wpAnyH_take (i := 7) (oi := { dst := some 11, op := Op.fieldAddr 89 (Operand.tmp 10) 0, type := 0, pos := "writer.go:54", after := #[{ on := 6, ground := Ground.data }], guard := none }) (v := .pointer (some ⟨X, 0, none⟩)) rfl (by kernel_rfl) (by kernel_rfl) (by kernel_rfl) (fun _ _ _ h => hPan _ _ _ _ _ h) (Or.inl ⟨by rfl, ?_⟩) HSX ?_
  · intro wx d0
    obtain ⟨s1, s2⟩ := d0
    go_simp
  simp only [Act.put, List.setIfInBounds_toArray, List.set_cons_zero, List.set_cons_succ]
  refine wpAnyH_take (i := 8) (oi := { dst := some 12, op := Op.load 87 (Operand.tmp 11), type := 87, pos := "writer.go:54", after := #[{ on := 7, ground := Ground.data }], guard := none }) (v := .pointer (some ⟨B, 0, none⟩)) rfl (by kernel_rfl) (by kernel_rfl) (by kernel_rfl) (fun _ _ _ h => hPan _ _ _ _ _ h) (Or.inl ⟨by rfl, ?_⟩) HSX ?_
  · intro wx d0
    obtain ⟨s1, s2⟩ := d0
    go_simp
  simp only [Act.put, List.setIfInBounds_toArray, List.set_cons_zero, List.set_cons_succ]
  refine wpAnyH_take (i := 9) (oi := { dst := some 13, op := Op.makeFunc (Fn.func 27) #[Operand.tmp 12] #[], type := 95, pos := "writer.go:54", after := #[{ on := 8, ground := Ground.data }], guard := none }) (v := .func (.func 27) #[.pointer (some ⟨B, 0, none⟩)] #[]) rfl (by kernel_rfl) (by kernel_rfl) (by kernel_rfl) (fun _ _ _ h => hPan _ _ _ _ _ h) (Or.inl ⟨by rfl, ?_⟩) HSX ?_
  · intro wx d0
    obtain ⟨s1, s2⟩ := d0
    go_simp
  simp only [Act.put, List.setIfInBounds_toArray, List.set_cons_zero, List.set_cons_succ]
  refine wpAnyH_ready (rs := [10]) (by kernel_rfl) (by simp) ?_
  refine AllReadyH.cons (o := { dst := some 14, op := Op.call { callee := Callee.value (Operand.func 235), args := #[Operand.tmp 4, Operand.tmp 8, Operand.tmp 13], argTypes := #[84, 3, 95] }, type := 0, pos := "writer.go:54", after := #[{ on := 0, ground := Ground.data }, { on := 4, ground := Ground.data }, { on := 9, ground := Ground.data }], guard := none }) rfl (fun K hK => ?_) AllReadyH.nil
  rw [if_pos (by rfl)]
  go_simp
  go_at_call 235
  refine hcall.mono ?_
  rintro e w1 ⟨rfl, HS1, hP⟩
  go_simp
  refine hK.out _ _ HS1 (fun HSX => ?_)
  clear hK K
  refine wpAnyH_done (by kernel_rfl) ?_ _
  exact hQ  _ hP
def ops224_1 : Array Oper := #[{ dst := some 15, op := Op.move (Operand.tmp 0), type := 84, pos := "writer.go:55", after := #[], guard := none },
  { dst := some 16, op := Op.nilCheck (Operand.tmp 15), type := 0, pos := "writer.go:55", after := #[{ on := 0, ground := Ground.data }], guard := none },
  { dst := some 17, op := Op.fieldAddr 89 (Operand.tmp 16) 0, type := 0, pos := "writer.go:55", after := #[{ on := 1, ground := Ground.data }], guard := none },
  { dst := some 18, op := Op.load 87 (Operand.tmp 17), type := 87, pos := "writer.go:55", after := #[{ on := 2, ground := Ground.data }], guard := none },
  { dst := some 19, op := Op.move (Operand.tmp 1), type := 144, pos := "writer.go:55", after := #[], guard := none },
  { dst := some 20, op := Op.nilCheck (Operand.tmp 19), type := 0, pos := "writer.go:55", after := #[{ on := 4, ground := Ground.data }], guard := none },
  { dst := some 21, op := Op.load 22 (Operand.tmp 20), type := 22, pos := "writer.go:55", after := #[{ on := 5, ground := Ground.data }], guard := none },
  { dst := some 22, op := Op.call { callee := Callee.value (Operand.func 22), args := #[Operand.tmp 18, Operand.tmp 21], argTypes := #[87, 22] }, type := 0, pos := "writer.go:55", after := #[{ on := 3, ground := Ground.data }, { on := 6, ground := Ground.data }], guard := none }]
set_option maxHeartbeats 8000000 in
set_option maxRecDepth 100000 in
theorem reg224_1 (W : World) (X B b o : Nat) (la : Option Addr) (ln lc : Nat)  (hS : (fun w' => w'.cell? ⟨b, o, none⟩ = some (.slice la ln lc) ∧ w'.cell? ⟨X, 0, none⟩ = some (.pointer (some ⟨B, 0, none⟩))) W.drew) (P : World → Prop) (hcall : Calls Tryz.prog 22 #[.pointer (some ⟨B, 0, none⟩), .slice la ln lc] W.drew fun e x1 => e = .returned (.tuple #[]) ∧ (x1.cell? ⟨b, o, none⟩ = some (.slice la ln lc) ∧ x1.cell? ⟨X, 0, none⟩ = some (.pointer (some ⟨B, 0, none⟩))) ∧ P  x1)
    (Q : Exit → Act → World → Prop) (hPan : ∀ c (a : Act) w (d : Option Tmp) v, Q (.panic c) (a.put d v) w → Q (.panic c) a w) {u2 u3 u4 u5 u6 u7 u8 u9 u10 u11 u12 u13 u14 u15 u16 u17 u18 u19 u20 u21 u22 u23 u24 : Value}
    (hQ : ∀  w1, P  w1 → Q .normal ⟨#[.pointer (some ⟨X, 0, none⟩), .pointer (some ⟨b, o, none⟩), u2, u3, u4, u5, u6, u7, u8, u9, u10, u11, u12, u13, u14, .pointer (some ⟨X, 0, none⟩), .pointer (some ⟨X, 0, none⟩), .pointer (some ⟨X, 0, none⟩), .pointer (some ⟨B, 0, none⟩), .pointer (some ⟨b, o, none⟩), .pointer (some ⟨b, o, none⟩), .slice la ln lc, .tuple #[], u23, u24], []⟩ w1) :
    Code.wp Tryz.prog (Code.region 1 ops224_1 true) Q ⟨#[.pointer (some ⟨X, 0, none⟩), .pointer (some ⟨b, o, none⟩), u2, u3, u4, u5, u6, u7, u8, u9, u10, u11, u12, u13, u14, u15, u16, u17, u18, u19, u20, u21, u22, u23, u24], []⟩ W := by
  refine wp_region_held_drew (S := fun w' => w'.cell? ⟨b, o, none⟩ = some (.slice la ln lc) ∧ w'.cell? ⟨X, 0, none⟩ = some (.pointer (some ⟨B, 0, none⟩))) hmx hS (fun HSX => ?_)
  clear hS
  obtain ⟨W0, hW0⟩ : ∃ W0, W0 = W.drew := ⟨_, rfl⟩
  rw [← hW0] at HSX hcall ⊢
  clear hW0
  refine wpAnyH_take (i := 0) (oi := { dst := some 15, op := Op.move (Operand.tmp 0), type := 84, pos := "writer.go:55", after := #[], guard := none }) (v := .pointer (some ⟨X, 0, none⟩)) rfl (by kernel_rfl) (by kernel_rfl) (by kernel_rfl) (fun _ _ _ h => hPan _ _ _ _ _ h) (Or.inl ⟨by rfl, ?_⟩) HSX ?_
  · intro wx d0
    obtain ⟨s1, s2⟩ := d0
    go_simp
  simp only [Act.put, List.setIfInBounds_toArray, List.set_cons_zero, List.set_cons_succ]
  refine wpAnyH_take (i := 1) (oi := { dst := some 16, op := Op.nilCheck (Operand.tmp 15), type := 0, pos := "writer.go:55", after := #[{ on := 0, ground := Ground.data }], guard := none }) (v := .pointer (some ⟨X, 0, none⟩)) rfl (by kernel_rfl) (by kernel_rfl) (by kernel_rfl) (fun _ _ _ h => hPan _ _ _ _ _ h) (Or.inl ⟨by rfl, ?_⟩) HSX ?_
  · intro wx d0
    obtain ⟨s1, s2⟩ := d0
    go_simp
  simp only [Act.put, List.setIfInBounds_toArray, List.set_cons_zero, List.set_cons_succ]
  refine wpAnyH_take (i := 2) (oi := { dst := some 17, op := Op.fieldAddr 89 (Operand.tmp 16) 0, type := 0, pos := "writer.go:55", after := #[{ on := 1, ground := Ground.data }], guard := none }) (v := .pointer (some ⟨X, 0, none⟩)) rfl (by kernel_rfl) (by kernel_rfl) (by kernel_rfl) (fun _ _ _ h => hPan _ _ _ _ _ h) (Or.inl ⟨by rfl, ?_⟩) HSX ?_
  · intro wx d0
    obtain ⟨s1, s2⟩ := d0
    go_simp
  simp only [Act.put, List.setIfInBounds_toArray, List.set_cons_zero, List.set_cons_succ]
  refine wpAnyH_take (i := 3) (oi := { dst := some 18, op := Op.load 87 (Operand.tmp 17), type := 87, pos := "writer.go:55", after := #[{ on := 2, ground := Ground.data }], guard := none }) (v := .pointer (some ⟨B, 0, none⟩)) rfl (by kernel_rfl) (by kernel_rfl) (by kernel_rfl) (fun _ _ _ h => hPan _ _ _ _ _ h) (Or.inl ⟨by rfl, ?_⟩) HSX ?_
  · intro wx d0
    obtain ⟨s1, s2⟩ := d0
    go_simp
  simp only [Act.put, List.setIfInBounds_toArray, List.set_cons_zero, List.set_cons_succ]
  refine wpAnyH_take (i := 4) (oi := { dst := some 19, op := Op.move (Operand.tmp 1), type := 144, pos := "writer.go:55", after := #[], guard := none }) (v := .pointer (some ⟨b, o, none⟩)) rfl (by kernel_rfl) (by kernel_rfl) (by kernel_rfl) (fun _ _ _ h => hPan _ _ _ _ _ h) (Or.inl ⟨by rfl, ?_⟩) HSX ?_
  · intro wx d0
    obtain ⟨s1, s2⟩ := d0
    go_simp
  simp only [Act.put, List.setIfInBounds_toArray, List.set_cons_zero, List.set_cons_succ]
  refine wpAnyH_take (i := 5) (oi := { dst := some 20, op := Op.nilCheck (Operand.tmp 19), type := 0, pos := "writer.go:55", after := #[{ on := 4, ground := Ground.data }], guard := none }) (v := .pointer (some ⟨b, o, none⟩)) rfl (by kernel_rfl) (by kernel_rfl) (by kernel_rfl) (fun _ _ _ h => hPan _ _ _ _ _ h) (Or.inl ⟨by rfl, ?_⟩) HSX ?_
  · intro wx d0
    obtain ⟨s1, s2⟩ := d0
    go_simp
  simp only [Act.put, List.setIfInBounds_toArray, List.set_cons_zero, List.set_cons_succ]
  refine wpAnyH_take (i := 6) (oi := { dst := some 21, op := Op.load 22 (Operand.tmp 20), type := 22, pos := "writer.go:55", after := #[{ on := 5, ground := Ground.data }], guard := none }) (v := .slice la ln lc) rfl (by kernel_rfl) (by kernel_rfl) (by kernel_rfl) (fun _ _ _ h => hPan _ _ _ _ _ h) (Or.inl ⟨by rfl, ?_⟩) HSX ?_
  · intro wx d0
    obtain ⟨s1, s2⟩ := d0
    go_simp
  simp only [Act.put, List.setIfInBounds_toArray, List.set_cons_zero, List.set_cons_succ]
  refine wpAnyH_ready (rs := [7]) (by kernel_rfl) (by simp) ?_
  refine AllReadyH.cons (o := { dst := some 22, op := Op.call { callee := Callee.value (Operand.func 22), args := #[Operand.tmp 18, Operand.tmp 21], argTypes := #[87, 22] }, type := 0, pos := "writer.go:55", after := #[{ on := 3, ground := Ground.data }, { on := 6, ground := Ground.data }], guard := none }) rfl (fun K hK => ?_) AllReadyH.nil
  rw [if_pos (by rfl)]
  go_simp
  go_at_call 22
  refine hcall.mono ?_
  rintro e w1 ⟨rfl, HS1, hP⟩
  go_simp
  refine hK.out _ _ HS1 (fun HSX => ?_)
  clear hK K
  refine wpAnyH_done (by kernel_rfl) ?_ _
  exact hQ  _ hP
end Go.Proofs.YtkggkkoblpdopaaGreat
