import Derived.Test.YtkggkkoblpdopaaGreatXq
import Derived.Lib.SlBytesConst
namespace Go.Proofs.YtkggkkoblpdopaaGreat
open Go.ChangeShapes Go.WideShapes Go.ChangeAt Go.RowKit
set_option linter.unusedVariables false
def ops9_7 : Array Oper := #[{ dst := some 40, op := Op.move (Operand.tmp 4), type := 84, pos := "snapshot.go:27", after := #[], guard := none },
  { dst := some 41, op := Op.nilCheck (Operand.tmp 40), type := 0, pos := "snapshot.go:27", after := #[{ on := 0, ground := Ground.data }], guard := none },
  { dst := some 42, op := Op.fieldAddr 89 (Operand.tmp 41) 0, type := 0, pos := "snapshot.go:27", after := #[{ on := 1, ground := Ground.data }], guard := none },
  { dst := some 43, op := Op.load 87 (Operand.tmp 42), type := 87, pos := "snapshot.go:27", after := #[{ on := 2, ground := Ground.data }], guard := none },
  { dst := some 44, op := Op.move (Operand.tmp 6), type := 22, pos := "snapshot.go:27", after := #[], guard := none },
  { dst := some 45, op := Op.buildSlice 52 1 #[(0, Operand.tmp 44)], type := 52, pos := "snapshot.go:27", after := #[{ on := 4, ground := Ground.data }], guard := none },
  { dst := some 46, op := Op.call { callee := Callee.value (Operand.func 28), args := #[Operand.tmp 45], argTypes := #[52] }, type := 29, pos := "snapshot.go:27", after := #[{ on := 5, ground := Ground.data }], guard := none },
  { dst := some 47, op := Op.call { callee := Callee.value (Operand.func 27), args := #[Operand.tmp 43, Operand.tmp 46], argTypes := #[87, 29] }, type := 0, pos := "snapshot.go:27", after := #[{ on := 3, ground := Ground.data }, { on := 6, ground := Ground.data }, { on := 6, ground := Ground.chain }], guard := none }]
set_option maxHeartbeats 8000000 in
set_option maxRecDepth 100000 in
theorem reg9_7 (W : World) (X B : Nat) (a : Option Addr) (n c cr : Nat) (hS : (fun w' => w'.cell? ⟨X, 0, none⟩ = some (.pointer (some ⟨B, 0, none⟩))) W.drew) (hS1 : (fun w' => w'.cell? ⟨X, 0, none⟩ = some (.pointer (some ⟨B, 0, none⟩))) (W.drew.alloc (.cells #[.slice a n c] 22)))
    (hsum : Calls Tryz.prog 28 #[.slice (some ⟨W.heap.size, 0, none⟩) 1 1] (W.drew.alloc (.cells #[.slice a n c] 22)) fun e w' => e = .returned (.int .u32 (cr : Nat)) ∧ w' = W.drew.alloc (.cells #[.slice a n c] 22)) (P : World → Prop)
    (hcall : Calls Tryz.prog 27 #[.pointer (some ⟨B, 0, none⟩), .int .u32 (cr : Nat)] (W.drew.alloc (.cells #[.slice a n c] 22)) fun e x1 => e = .returned (.tuple #[]) ∧ x1.cell? ⟨X, 0, none⟩ = some (.pointer (some ⟨B, 0, none⟩)) ∧ P x1)
    (Q : Exit → Act → World → Prop) (hPan : ∀ c (a : Act) w (d : Option Tmp) v, Q (.panic c) (a.put d v) w → Q (.panic c) a w) {u0 u1 u2 u3 u5 u7 u8 u9 u10 u11 u12 u13 u14 u15 u16 u17 u18 u19 u20 u21 u22 u23 u24 u25 u26 u27 u28 u29 u30 u31 u32 u33 u34 u35 u36 u37 u38 u39 u40 u41 u42 u43 u44 u45 u46 u47 u48 u49 u50 u51 u52 u53 u54 u55 u56 u57 u58 u59 u60 u61 u62 u63 u64 : Value}
    (hQ : ∀ w1, P w1 → Q .normal ⟨#[u0, u1, u2, u3, .pointer (some ⟨X, 0, none⟩), u5, .slice a n c, u7, u8, u9, u10, u11, u12, u13, u14, u15, u16, u17, u18, u19, u20, u21, u22, u23, u24, u25, u26, u27, u28, u29, u30, u31, u32, u33, u34, u35, u36, u37, u38, u39, .pointer (some ⟨X, 0, none⟩), .pointer (some ⟨X, 0, none⟩), .pointer (some ⟨X, 0, none⟩), .pointer (some ⟨B, 0, none⟩), .slice a n c, .slice (some ⟨W.heap.size, 0, none⟩) 1 1, .int .u32 (cr : Nat), .tuple #[], u48, u49, u50, u51, u52, u53, u54, u55, u56, u57, u58, u59, u60, u61, u62, u63, u64], []⟩ w1) :
    Code.wp Tryz.prog (Code.region 7 ops9_7 true) Q ⟨#[u0, u1, u2, u3, .pointer (some ⟨X, 0, none⟩), u5, .slice a n c, u7, u8, u9, u10, u11, u12, u13, u14, u15, u16, u17, u18, u19, u20, u21, u22, u23, u24, u25, u26, u27, u28, u29, u30, u31, u32, u33, u34, u35, u36, u37, u38, u39, u40, u41, u42, u43, u44, u45, u46, u47, u48, u49, u50, u51, u52, u53, u54, u55, u56, u57, u58, u59, u60, u61, u62, u63, u64], []⟩ W := by
  refine wp_region_held_drew (S := fun w' => w'.cell? ⟨X, 0, none⟩ = some (.pointer (some ⟨B, 0, none⟩))) hmx hS (fun HSX => ?_)
  clear hS
  refine wpAnyH_take (i := 0) (oi := { dst := some 40, op := Op.move (Operand.tmp 4), type := 84, pos := "snapshot.go:27", after := #[], guard := none }) (v := .pointer (some ⟨X, 0, none⟩)) rfl (by kernel_rfl) (by kernel_rfl) (by kernel_rfl) (fun _ _ _ h => hPan _ _ _ _ _ h) (Or.inl ⟨by rfl, ?_⟩) HSX ?_
  · intro wx d0
    have s1 := d0
    go_simp
  simp only [Act.put, List.setIfInBounds_toArray, List.set_cons_zero, List.set_cons_succ]
  refine wpAnyH_take (i := 1) (oi := { dst := some 41, op := Op.nilCheck (Operand.tmp 40), type := 0, pos := "snapshot.go:27", after := #[{ on := 0, ground := Ground.data }], guard := none }) (v := .pointer (some ⟨X, 0, none⟩)) rfl (by kernel_rfl) (by kernel_rfl) (by kernel_rfl) (fun _ _ _ h => hPan _ _ _ _ _ h) (Or.inl ⟨by rfl, ?_⟩) HSX ?_
  · intro wx d0
    have s1 := d0
    go_simp
  simp only [Act.put, List.setIfInBounds_toArray, List.set_cons_zero, List.set_cons_succ]
  refine wpAnyH_take (i := 2) (oi := { dst := some 42, op := Op.fieldAddr 89 (Operand.tmp 41) 0, type := 0, pos := "snapshot.go:27", after := #[{ on := 1, ground := Ground.data }], guard := none }) (v := .pointer (some ⟨X, 0, none⟩)) rfl (by kernel_rfl) (by kernel_rfl) (by kernel_rfl) (fun _ _ _ h => hPan _ _ _ _ _ h) (Or.inl ⟨by rfl, ?_⟩) HSX ?_
  · intro wx d0
    have s1 := d0
    go_simp
  simp only [Act.put, List.setIfInBounds_toArray, List.set_cons_zero, List.set_cons_succ]
  refine wpAnyH_take (i := 3) (oi := { dst := some 43, op := Op.load 87 (Operand.tmp 42), type := 87, pos := "snapshot.go:27", after := #[{ on := 2, ground := Ground.data }], guard := none }) (v := .pointer (some ⟨B, 0, none⟩)) rfl (by kernel_rfl) (by kernel_rfl) (by kernel_rfl) (fun _ _ _ h => hPan _ _ _ _ _ h) (Or.inl ⟨by rfl, ?_⟩) HSX ?_
  · intro wx d0
    have s1 := d0
    go_simp
  simp only [Act.put, List.setIfInBounds_toArray, List.set_cons_zero, List.set_cons_succ]
  refine wpAnyH_take (i := 4) (oi := { dst := some 44, op := Op.move (Operand.tmp 6), type := 22, pos := "snapshot.go:27", after := #[], guard := none }) (v := .slice a n c) rfl (by kernel_rfl) (by kernel_rfl) (by kernel_rfl) (fun _ _ _ h => hPan _ _ _ _ _ h) (Or.inl ⟨by rfl, ?_⟩) HSX ?_
  · intro wx d0
    have s1 := d0
    go_simp
  simp only [Act.put, List.setIfInBounds_toArray, List.set_cons_zero, List.set_cons_succ]
  refine wpAnyH_ready (rs := [5]) (by kernel_rfl) (by simp) ?_
  refine AllReadyH.cons (o := { dst := some 45, op := Op.buildSlice 52 1 #[(0, Operand.tmp 44)], type := 52, pos := "snapshot.go:27", after := #[{ on := 4, ground := Ground.data }], guard := none }) rfl (fun K hK => ?_) AllReadyH.nil
  rw [if_pos (by rfl)]
  go_simp
  refine hK.out _ _ hS1 (fun HSX => ?_)
  clear hK K
  refine wpAnyH_ready (rs := [6]) (by kernel_rfl) (by simp) ?_
  refine AllReadyH.cons (o := { dst := some 46, op := Op.call { callee := Callee.value (Operand.func 28), args := #[Operand.tmp 45], argTypes := #[52] }, type := 29, pos := "snapshot.go:27", after := #[{ on := 5, ground := Ground.data }], guard := none }) rfl (fun K hK => ?_) AllReadyH.nil
  rw [if_pos (by rfl)]
  go_simp
  go_at_call 28
  refine hsum.mono ?_
  rintro e w1 ⟨rfl, hw1⟩
  rw [hw1]
  go_simp
  refine hK.out _ _ hS1 (fun HSX => ?_)
  clear hK K hw1
  refine wpAnyH_ready (rs := [7]) (by kernel_rfl) (by simp) ?_
  refine AllReadyH.cons (o := { dst := some 47, op := Op.call { callee := Callee.value (Operand.func 27), args := #[Operand.tmp 43, Operand.tmp 46], argTypes := #[87, 29] }, type := 0, pos := "snapshot.go:27", after := #[{ on := 3, ground := Ground.data }, { on := 6, ground := Ground.data }, { on := 6, ground := Ground.chain }], guard := none }) rfl (fun K hK => ?_) AllReadyH.nil
  rw [if_pos (by rfl)]
  go_simp
  go_at_call 27
  refine hcall.mono ?_
  rintro e w2 ⟨rfl, HS1, hP⟩
  go_simp
  refine hK.out _ _ HS1 (fun HSX => ?_)
  clear hK K
  refine wpAnyH_done (by kernel_rfl) ?_ _
  exact hQ _ hP
end Go.Proofs.YtkggkkoblpdopaaGreat
