import Derived.Test.YtkndlkcbhpfjoaaNo
import Derived.Deep.RegionHeld3
import Derived.Deep.MidRow
namespace Go.Proofs.Ytkndlkcbhpfjoaa
open Go.ChangeShapes Go.WideShapes Go.ChangeAt Go.RowKit Go.Shelf
set_option linter.unusedVariables false
theorem hmx : Try.prog.follows .mixedOrders = true := by kernel_rfl
def ops45_6 : Array Oper := #[{ dst := some 19, op := Op.move (Operand.tmp 0), type := 56, pos := "law.go:148", after := #[], guard := none },
  { dst := some 20, op := Op.nilCheck (Operand.tmp 19), type := 0, pos := "law.go:148", after := #[{ on := 0, ground := Ground.data }], guard := none },
  { dst := some 21, op := Op.fieldAddr 60 (Operand.tmp 20) 0, type := 0, pos := "law.go:148", after := #[{ on := 1, ground := Ground.data }], guard := none },
  { dst := some 22, op := Op.load 24 (Operand.tmp 21), type := 24, pos := "law.go:148", after := #[{ on := 2, ground := Ground.data }], guard := none },
  { dst := some 23, op := Op.load 38 (Operand.tmp 3), type := 38, pos := "law.go:148", after := #[], guard := none },
  { dst := some 24, op := Op.call { callee := Callee.value (Operand.func 18), args := #[Operand.tmp 22, Operand.tmp 23], argTypes := #[24, 38] }, type := 27, pos := "law.go:148", after := #[{ on := 3, ground := Ground.data }, { on := 4, ground := Ground.data }], guard := none },
  { dst := some 7, op := Op.assign (Operand.tmp 24), type := 27, pos := "law.go:148", after := #[{ on := 5, ground := Ground.data }, { on := 5, ground := Ground.chain }, { on := 0, ground := Ground.phase }, { on := 1, ground := Ground.phase }, { on := 2, ground := Ground.phase }, { on := 3, ground := Ground.phase }, { on := 4, ground := Ground.phase }, { on := 5, ground := Ground.phase }], guard := none }]
set_option maxHeartbeats 8000000 in
set_option maxRecDepth 100000 in
theorem reg45_6 (W : World) (q B b3 : Nat) (C : List Value) (hC : (Try.prog.info? 38).map (·.size) = some C.length) (Pst : Int → World → Prop) (hS : (fun w' => w'.cell? ⟨q, 0, none⟩ = some (.pointer (some ⟨B, 0, none⟩)) ∧ w'.rangeAt b3 0 C) W.drew)
    (hcall : Calls Try.prog 18 #[.pointer (some ⟨B, 0, none⟩), .agg C.toArray] W.drew fun e w1 => ∃ r, e = .returned (.int .i64 r) ∧ (fun w' => w'.cell? ⟨q, 0, none⟩ = some (.pointer (some ⟨B, 0, none⟩)) ∧ w'.rangeAt b3 0 C) w1 ∧ Pst r w1)
    (Q : Exit → Act → World → Prop) (hPan : ∀ c (a : Act) w (d : Option Tmp) v, Q (.panic c) (a.put d v) w → Q (.panic c) a w) {u1 u2 u4 u5 u6 u7 u8 u9 u10 u11 u12 u13 u14 u15 u16 u17 u18 u19 u20 u21 u22 u23 u24 u25 u26 u27 u28 u29 u30 u31 u32 u33 u34 u35 u36 u37 : Value}
    (hQ : ∀ r w1, Pst r w1 → Q .normal ⟨#[.pointer (some ⟨q, 0, none⟩), u1, u2, .pointer (some ⟨b3, 0, none⟩), u4, u5, u6, .int .i64 r, u8, u9, u10, u11, u12, u13, u14, u15, u16, u17, u18, .pointer (some ⟨q, 0, none⟩), .pointer (some ⟨q, 0, none⟩), .pointer (some ⟨q, 0, none⟩), .pointer (some ⟨B, 0, none⟩), .agg C.toArray, .int .i64 r, u25, u26, u27, u28, u29, u30, u31, u32, u33, u34, u35, u36, u37], []⟩ w1) :
    Code.wp Try.prog (Code.region 6 ops45_6 true) Q ⟨#[.pointer (some ⟨q, 0, none⟩), u1, u2, .pointer (some ⟨b3, 0, none⟩), u4, u5, u6, u7, u8, u9, u10, u11, u12, u13, u14, u15, u16, u17, u18, u19, u20, u21, u22, u23, u24, u25, u26, u27, u28, u29, u30, u31, u32, u33, u34, u35, u36, u37], []⟩ W := by
  refine wp_region_held_drew (S := fun w' => w'.cell? ⟨q, 0, none⟩ = some (.pointer (some ⟨B, 0, none⟩)) ∧ w'.rangeAt b3 0 C) hmx hS (fun HSX => ?_)
  clear hS
  obtain ⟨W0, hW0⟩ : ∃ W0, W0 = W.drew := ⟨_, rfl⟩
  rw [← hW0] at HSX hcall ⊢
  clear hW0
  refine wpAnyH_take (i := 0) (oi := { dst := some 19, op := Op.move (Operand.tmp 0), type := 56, pos := "law.go:148", after := #[], guard := none }) (v := .pointer (some ⟨q, 0, none⟩)) rfl (by kernel_rfl) (by kernel_rfl) (by kernel_rfl) (fun _ _ _ h => hPan _ _ _ _ _ h) (Or.inl ⟨by rfl, ?_⟩) HSX ?_
  · intro wx d0
    obtain ⟨s1, s2⟩ := d0
    go_simp
  simp only [Act.put, List.setIfInBounds_toArray, List.set_cons_zero, List.set_cons_succ]
  refine wpAnyH_take (i := 1) (oi := { dst := some 20, op := Op.nilCheck (Operand.tmp 19), type := 0, pos := "law.go:148", after := #[{ on := 0, ground := Ground.data }], guard := none }) (v := .pointer (some ⟨q, 0, none⟩)) rfl (by kernel_rfl) (by kernel_rfl) (by kernel_rfl) (fun _ _ _ h => hPan _ _ _ _ _ h) (Or.inl ⟨by rfl, ?_⟩) HSX ?_
  · intro wx d0
    obtain ⟨s1, s2⟩ := d0
    go_simp
  simp only [Act.put, List.setIfInBounds_toArray, List.set_cons_zero, List.set_cons_succ]
  refine wpAnyH_take (i := 2) (oi := { dst := some 21, op := Op.fieldAddr 60 (Operand.tmp 20) 0, type := 0, pos := "law.go:148", after := #[{ on := 1, ground := Ground.data }], guard := none }) (v := .pointer (some ⟨q, 0, none⟩)) rfl (by kernel_rfl) (by kernel_rfl) (by kernel_rfl) (fun _ _ _ h => hPan _ _ _ _ _ h) (Or.inl ⟨by rfl, ?_⟩) HSX ?_
  · intro wx d0
    obtain ⟨s1, s2⟩ := d0
    go_simp
  simp only [Act.put, List.setIfInBounds_toArray, List.set_cons_zero, List.set_cons_succ]
  refine wpAnyH_take (i := 3) (oi := { dst := some 22, op := Op.load 24 (Operand.tmp 21), type := 24, pos := "law.go:148", after := #[{ on := 2, ground := Ground.data }], guard := none }) (v := .pointer (some ⟨B, 0, none⟩)) rfl (by kernel_rfl) (by kernel_rfl) (by kernel_rfl) (fun _ _ _ h => hPan _ _ _ _ _ h) (Or.inl ⟨by rfl, ?_⟩) HSX ?_
  · intro wx d0
    obtain ⟨s1, s2⟩ := d0
    go_simp
  simp only [Act.put, List.setIfInBounds_toArray, List.set_cons_zero, List.set_cons_succ]
  refine wpAnyH_take (i := 4) (oi := { dst := some 23, op := Op.load 38 (Operand.tmp 3), type := 38, pos := "law.go:148", after := #[], guard := none }) (v := .agg C.toArray) rfl (by kernel_rfl) (by kernel_rfl) (by kernel_rfl) (fun _ _ _ h => hPan _ _ _ _ _ h) (yieldsIf_load_mid (by rfl) 38 (.tmp 3) rfl b3 0 rfl C _ (fun w h => h.2) Try.underlying38 rfl hC) HSX ?_
  simp only [Act.put, List.setIfInBounds_toArray, List.set_cons_zero, List.set_cons_succ]
  refine wpAnyH_ready (rs := [5]) (by kernel_rfl) (by simp) ?_
  refine AllReadyH.cons (o := { dst := some 24, op := Op.call { callee := Callee.value (Operand.func 18), args := #[Operand.tmp 22, Operand.tmp 23], argTypes := #[24, 38] }, type := 27, pos := "law.go:148", after := #[{ on := 3, ground := Ground.data }, { on := 4, ground := Ground.data }], guard := none }) rfl (fun K hK => ?_) AllReadyH.nil
  rw [if_pos (by rfl)]
  go_simp
  go_at_call 18
  refine hcall.mono ?_
  rintro e w1 ⟨r, rfl, HS1, hP⟩
  go_simp
  refine hK.out _ _ HS1 (fun HSX => ?_)
  clear hK K
  refine wpAnyH_take (i := 6) (oi := { dst := some 7, op := Op.assign (Operand.tmp 24), type := 27, pos := "law.go:148", after := #[{ on := 5, ground := Ground.data }, { on := 5, ground := Ground.chain }, { on := 0, ground := Ground.phase }, { on := 1, ground := Ground.phase }, { on := 2, ground := Ground.phase }, { on := 3, ground := Ground.phase }, { on := 4, ground := Ground.phase }, { on := 5, ground := Ground.phase }], guard := none }) (v := .int .i64 r) rfl (by kernel_rfl) (by kernel_rfl) (by kernel_rfl) (fun _ _ _ h => hPan _ _ _ _ _ h) (Or.inl ⟨by rfl, ?_⟩) HSX ?_
  · intro wx d0
    obtain ⟨s1, s2⟩ := d0
    go_simp
  simp only [Act.put, List.setIfInBounds_toArray, List.set_cons_zero, List.set_cons_succ]
  refine wpAnyH_done (by kernel_rfl) ?_ _
  exact hQ _ _ hP
end Go.Proofs.Ytkndlkcbhpfjoaa
