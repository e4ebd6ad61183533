import Derived.Test.YtghiffpolacmiabDoorUr
import Derived.Test.YtghiffpolacmiabDoorUq
import Derived.Deep.RegionHeld3
import Derived.Shelf.Abstract
namespace Go.Proofs.YtghiffpolacmiabDoor
open Go.ChangeShapes Go.WideShapes Go.ChangeAt Go.RowKit
set_option linter.unusedVariables false

def ops17_3 : Array Oper := #[{ dst := some 17, op := Op.call { callee := Callee.value (Operand.func 26), args := #[], argTypes := #[] }, type := 77, pos := "step.go:46", after := #[], guard := none },
  { dst := some 18, op := Op.move (Operand.tmp 0), type := 73, pos := "step.go:46", after := #[], guard := none },
  { dst := some 19, op := Op.nilCheck (Operand.tmp 18), type := 0, pos := "step.go:46", after := #[{ on := 1, ground := Ground.data }], guard := none },
  { dst := some 20, op := Op.fieldAddr 63 (Operand.tmp 19) 2, type := 0, pos := "step.go:46", after := #[{ on := 2, ground := Ground.data }], guard := none },
  { dst := some 21, op := Op.fieldAddr 31 (Operand.tmp 20) 0, type := 0, pos := "step.go:46", after := #[{ on := 3, ground := Ground.data }], guard := none },
  { dst := some 22, op := Op.load 29 (Operand.tmp 21), type := 29, pos := "step.go:46", after := #[{ on := 4, ground := Ground.data }], guard := none },
  { dst := some 23, op := Op.index 77 (Operand.tmp 17) (Operand.tmp 22), type := 76, pos := "step.go:46", after := #[{ on := 0, ground := Ground.data }, { on := 5, ground := Ground.data }], guard := none },
  { dst := some 24, op := Op.move (Operand.tmp 0), type := 73, pos := "step.go:46", after := #[], guard := none },
  { dst := some 25, op := Op.call { callee := Callee.value (Operand.tmp 23), args := #[Operand.tmp 24], argTypes := #[73] }, type := 0, pos := "step.go:46", after := #[{ on := 6, ground := Ground.data }, { on := 7, ground := Ground.data }, { on := 0, ground := Ground.chain }], guard := none }]
set_option maxHeartbeats 4000000 in
set_option maxRecDepth 100000 in
theorem reg17_3 (W : World) (B F : Nat) (op : Int) (D : Array Value) (hop : W.cell? ⟨B, 22, none⟩ = some (.int .i64 op))
    (hDe : ∀ w, Calls Tryd.prog 26 #[] w fun e w' => e = .returned (.agg D) ∧ Kp w w') (hix : ∀ w, (Instr.index 77 (.agg D) (.int .i64 op)).run Tryd.prog w = .ok (.func (.func F) #[] #[]) w) (hent : ∀ args w, (callFunc F args).run Tryd.prog w = .ok (.enter F args) w)
    (R : World → World → Prop) (hd : ∀ V, Kp W V → Calls Tryd.prog F #[.pointer (some ⟨B, 0, none⟩)] V fun e w' => e = .returned (.tuple #[]) ∧ R V w') (hR : ∀ V w', Kp W V → R V w' → w'.cell? ⟨B, 22, none⟩ = some (.int .i64 op))
    (Q : Exit → Act → World → Prop) (hPan : ∀ c (a : Act) w (d : Option Tmp) v, Q (.panic c) (a.put d v) w → Q (.panic c) a w) {u1 u2 u3 u4 u5 u6 u7 u8 u9 u10 u11 u12 u13 u14 u15 u16 u17 u18 u19 u20 u21 u22 u23 u24 u25 u26 u27 u28 u29 u30 u31 u32 u33 : Value}
    (hQ : ∀ V w', Kp W V → R V w' → Q .normal ⟨#[.pointer (some ⟨B, 0, none⟩), u1, u2, u3, u4, u5, u6, u7, u8, u9, u10, u11, u12, u13, u14, u15, u16, .agg D, .pointer (some ⟨B, 0, none⟩), .pointer (some ⟨B, 0, none⟩), .pointer (some ⟨B, 22, none⟩), .pointer (some ⟨B, 22, none⟩), .int .i64 op, .func (.func F) #[] #[], .pointer (some ⟨B, 0, none⟩), .tuple #[], u26, u27, u28, u29, u30, u31, u32, u33], []⟩ w') :
    Code.wp Tryd.prog (Code.region 3 ops17_3 true) Q ⟨#[.pointer (some ⟨B, 0, none⟩), u1, u2, u3, u4, u5, u6, u7, u8, u9, u10, u11, u12, u13, u14, u15, u16, u17, u18, u19, u20, u21, u22, u23, u24, u25, u26, u27, u28, u29, u30, u31, u32, u33], []⟩ W := by
  have HSK : ∀ V, Kp W V → (fun w' => w'.cell? ⟨B, 22, none⟩ = some (.int .i64 op)) V := fun V k => Kp.cell k hop
  have k0 : Kp W W.drew := (Chg.refl _ _).drew
  refine wp_region_held_drew (S := fun w' => w'.cell? ⟨B, 22, none⟩ = some (.int .i64 op)) hmx (HSK _ k0) (fun HSX => ?_)
  obtain ⟨W0, hW0⟩ : ∃ W0, W0 = W.drew := ⟨_, rfl⟩
  rw [← hW0] at HSX k0 ⊢
  clear hW0
  refine wpAnyH_take (i := 1) (oi := { dst := some 18, op := Op.move (Operand.tmp 0), type := 73, pos := "step.go:46", after := #[], guard := none }) (v := .pointer (some ⟨B, 0, none⟩)) rfl (by kernel_rfl) (by kernel_rfl) (by kernel_rfl) (fun _ _ _ h => hPan _ _ _ _ _ h) (Or.inl ⟨by rfl, ?_⟩) HSX ?_
  · intro wx d0
    go_simp
  simp only [Act.put, List.setIfInBounds_toArray, List.set_cons_zero, List.set_cons_succ]
  refine wpAnyH_take (i := 2) (oi := { dst := some 19, op := Op.nilCheck (Operand.tmp 18), type := 0, pos := "step.go:46", after := #[{ on := 1, ground := Ground.data }], guard := none }) (v := .pointer (some ⟨B, 0, none⟩)) rfl (by kernel_rfl) (by kernel_rfl) (by kernel_rfl) (fun _ _ _ h => hPan _ _ _ _ _ h) (Or.inl ⟨by rfl, ?_⟩) HSX ?_
  · intro wx d0
    go_simp
  simp only [Act.put, List.setIfInBounds_toArray, List.set_cons_zero, List.set_cons_succ]
  refine wpAnyH_take (i := 3) (oi := { dst := some 20, op := Op.fieldAddr 63 (Operand.tmp 19) 2, type := 0, pos := "step.go:46", after := #[{ on := 2, ground := Ground.data }], guard := none }) (v := .pointer (some ⟨B, 22, none⟩)) rfl (by kernel_rfl) (by kernel_rfl) (by kernel_rfl) (fun _ _ _ h => hPan _ _ _ _ _ h) (Or.inl ⟨by rfl, ?_⟩) HSX ?_
  · intro wx d0
    go_simp
  simp only [Act.put, List.setIfInBounds_toArray, List.set_cons_zero, List.set_cons_succ]
  refine wpAnyH_take (i := 4) (oi := { dst := some 21, op := Op.fieldAddr 31 (Operand.tmp 20) 0, type := 0, pos := "step.go:46", after := #[{ on := 3, ground := Ground.data }], guard := none }) (v := .pointer (some ⟨B, 22, none⟩)) rfl (by kernel_rfl) (by kernel_rfl) (by kernel_rfl) (fun _ _ _ h => hPan _ _ _ _ _ h) (Or.inl ⟨by rfl, ?_⟩) HSX ?_
  · intro wx d0
    go_simp
  simp only [Act.put, List.setIfInBounds_toArray, List.set_cons_zero, List.set_cons_succ]
  refine wpAnyH_take (i := 5) (oi := { dst := some 22, op := Op.load 29 (Operand.tmp 21), type := 29, pos := "step.go:46", after := #[{ on := 4, ground := Ground.data }], guard := none }) (v := .int .i64 op) rfl (by kernel_rfl) (by kernel_rfl) (by kernel_rfl) (fun _ _ _ h => hPan _ _ _ _ _ h) (Or.inl ⟨by rfl, ?_⟩) HSX ?_
  · intro wx d0
    go_simp
  simp only [Act.put, List.setIfInBounds_toArray, List.set_cons_zero, List.set_cons_succ]
  refine wpAnyH_take (i := 7) (oi := { dst := some 24, op := Op.move (Operand.tmp 0), type := 73, pos := "step.go:46", after := #[], guard := none }) (v := .pointer (some ⟨B, 0, none⟩)) rfl (by kernel_rfl) (by kernel_rfl) (by kernel_rfl) (fun _ _ _ h => hPan _ _ _ _ _ h) (Or.inl ⟨by rfl, ?_⟩) HSX ?_
  · intro wx d0
    go_simp
  simp only [Act.put, List.setIfInBounds_toArray, List.set_cons_zero, List.set_cons_succ]
  refine wpAnyH_ready (rs := [0]) (by kernel_rfl) (by simp) ?_
  refine AllReadyH.cons (o := { dst := some 17, op := Op.call { callee := Callee.value (Operand.func 26), args := #[], argTypes := #[] }, type := 77, pos := "step.go:46", after := #[], guard := none }) rfl (fun K hK => ?_) AllReadyH.nil
  rw [if_pos (by rfl)]
  go_simp
  go_at_call 26
  with_reducible refine (hDe _).mono ?_
  rintro e w1 ⟨rfl, j1⟩
  go_simp
  have kk1 := Kp.trans k0 j1
  refine hK.out _ _ (HSK _ kk1) (fun HSX => ?_)
  clear hK K
  refine wpAnyH_take (i := 6) (oi := { dst := some 23, op := Op.index 77 (Operand.tmp 17) (Operand.tmp 22), type := 76, pos := "step.go:46", after := #[{ on := 0, ground := Ground.data }, { on := 5, ground := Ground.data }], guard := none }) (v := .func (.func F) #[] #[]) rfl (by kernel_rfl) (by kernel_rfl) (by kernel_rfl) (fun _ _ _ h => hPan _ _ _ _ _ h) (Or.inl ⟨by rfl, ?_⟩) HSX ?_
  · intro wx d0
    go_simp
  simp only [Act.put, List.setIfInBounds_toArray, List.set_cons_zero, List.set_cons_succ]
  refine wpAnyH_ready (rs := [8]) (by kernel_rfl) (by simp) ?_
  refine AllReadyH.cons (o := { dst := some 25, op := Op.call { callee := Callee.value (Operand.tmp 23), args := #[Operand.tmp 24], argTypes := #[73] }, type := 0, pos := "step.go:46", after := #[{ on := 6, ground := Ground.data }, { on := 7, ground := Ground.data }, { on := 0, ground := Ground.chain }], guard := none }) rfl (fun K hK => ?_) AllReadyH.nil
  rw [if_pos (by rfl)]
  go_simp
  go_at_fn F
  with_reducible refine (hd _ kk1).mono ?_
  rintro e w2 ⟨rfl, j2⟩
  go_simp
  refine hK.out _ _ (hR _ _ kk1 j2) (fun HSX => ?_)
  clear hK K
  refine wpAnyH_done (by kernel_rfl) ?_ _
  exact hQ _ _ kk1 j2
set_option maxRecDepth 100000 in
set_option maxHeartbeats 4000000 in
theorem ins_yes (w : World) (B bb F : Nat) (s t t2 : St) (x y z : Bd) (h : On w B bb s x) (hF : ∀ W, On W B bb s.s0 x → Calls Tryd.prog 25 #[.pointer (some ⟨B, 0, none⟩)] W fun e w' => e = .returned (.bool true) ∧ Od W B bb x t y w')
    (hop : isO t.op = true) (hFe : dTab.getD t.op.toNat 0 = F) (hent : ∀ args w, (callFunc F args).run Tryd.prog w = .ok (.enter F args) w)
    (hd : ∀ W v, On W B bb t (y.lvTo v) → Calls Tryd.prog F #[.pointer (some ⟨B, 0, none⟩)] W fun e w' => e = .returned (.tuple #[]) ∧ Od W B bb (y.lvTo v) t2 z w') (hb2 : t2.bus = t.bus) (ho2 : t2.op = t.op) :
    Calls Tryd.prog 17 #[.pointer (some ⟨B, 0, none⟩)] w fun e w' => e = .returned (.tuple #[]) ∧ Od w B bb x t2.pcTo z w' := by
  have c16 := h.t.cell 16 (.int .u32 s.g.pc) rfl
  have c27 := h.t.cell 27 _ rfl
  have f27 := h.t.fr 27
  have c28 := h.t.cell 28 _ rfl
  have f28 := h.t.fr 28
  obtain ⟨i0, k0⟩ := h.t.s0
  have hF0 := hF _ (h.st i0 k0 rfl)
  have HK : Hid (Chg w _ (fun k => k = B)) := k0
  have hs := fun w (h : IsT w B t2) => h.set 16 (.int .u32 t2.nx) t2.pcTo rfl
  have g27 := fun w (h : IsT w B t2) => h.cell 27 (.int .u32 t2.nx) rfl
  have g22 := fun w (h : IsT w B t) => h.cell 22 (.int .i64 t.op) rfl
  have hix := fun w => ix74 w t.op hop
  have hDe := fun w => deeds_any w
  have g22b := fun w (h : IsT w B t2) => h.cell 22 (.int .i64 t2.op) rfl
  rw [ho2] at g22b
  rw [hFe] at hix
  clear hF i0 k0 h hFe hop ho2
  generalize dV = D at *
  generalize t.op = op at *
  generalize s.g.pc = pc at *
  generalize t2.nx = nx at *
  go_enter Tryd.func17, Tryd.ntmps17
  go_upto_region 3 with (go_at_call 25; refine hF0.mono ?_; rintro e w1 ⟨rfl, v1, o1, k1, l1⟩)
  refine reg17_3 w1 B F op D (g22 _ o1.t) hDe hix hent (fun V w' => Od V B bb (y.lvTo v1) t2 z w') (fun V kV => hd V v1 (o1.kp kV)) (fun V w' _ hw => by obtain ⟨v2, o2, _⟩ := hw; exact g22b _ o2.t) _ (fun _ _ _ q _ h => by cases q <;> exact h) ?_
  rintro V w2 kV ⟨v2, o2, k2, l2⟩
  have a1 := g27 _ o2.t
  have f1 := o2.t.fr 16
  have d1 := o2.t.cell 16 _ rfl
  have HS : Hid (IsT _ B _ ∧ Chg w2 _ (fun k => k = B)) := hs _ o2.t
  go_wp2_with fail
  go_end0
  refine ⟨rfl, Od.of HK.out (Od.st (s := t2) (Od.comp (s := t2) (y := y) k1 l1 ?_) HS.out.1 HS.out.2 rfl)⟩
  refine ⟨v2, o2, Chg.trans (Kp.any kV) k2 (fun _ _ e => e), ?_⟩
  rcases l2 with l | ⟨k, l, hk⟩
  · exact .inl l
  · exact .inr ⟨k, l, Nat.le_trans kV.size hk⟩
end Go.Proofs.YtghiffpolacmiabDoor
