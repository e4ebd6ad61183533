import Derived.Test.YtkggkkoblpdopaaGreatXa
namespace Go.Proofs.YtkggkkoblpdopaaGreat
open Go.ChangeShapes Go.WideShapes Go.ChangeAt Go.RowKit
set_option linter.unusedVariables false
def ops48_0 : Array Oper := #[{ dst := some 4, op := Op.move (Operand.tmp 0), type := 138, pos := "fields.go:37", after := #[], guard := none },
  { dst := some 5, op := Op.move (Operand.tmp 1), type := 147, pos := "fields.go:37", after := #[], guard := none },
  { dst := some 6, op := Op.nilCheck (Operand.tmp 5), type := 0, pos := "fields.go:37", after := #[{ on := 1, ground := Ground.data }], guard := none },
  { dst := some 7, op := Op.fieldAddr 103 (Operand.tmp 6) 0, type := 0, pos := "fields.go:37", after := #[{ on := 2, ground := Ground.data }], guard := none },
  { dst := some 8, op := Op.makeFunc (Fn.method "cloister/snapshot.word") #[Operand.tmp 4] #[], type := 245, pos := "fields.go:37", after := #[{ on := 0, ground := Ground.data }], guard := none },
  { dst := some 9, op := Op.nilCheck (Operand.tmp 8), type := 245, pos := "fields.go:37", after := #[{ on := 4, ground := Ground.data }], guard := none },
  { dst := some 10, op := Op.move (Operand.tmp 4), type := 138, pos := "fields.go:37", after := #[{ on := 0, ground := Ground.data }, { on := 4, ground := Ground.data }, { on := 5, ground := Ground.data }], guard := none },
  { dst := some 11, op := Op.call { callee := Callee.invoke (Operand.tmp 10) "cloister/snapshot.word", args := #[Operand.tmp 7], argTypes := #[246] }, type := 0, pos := "fields.go:37", after := #[{ on := 6, ground := Ground.data }, { on := 3, ground := Ground.data }], guard := none }]
set_option maxHeartbeats 8000000 in
set_option maxRecDepth 100000 in
theorem reg48_0 (W : World) (b o : Nat) (HT : TypeId) (HV : Value) (RV : Value) (F : Nat) (H : Mth HT HV "cloister/snapshot.word" F RV) (hS : (fun w' => True) W.drew) (P : World → Prop) (hcall : Calls Tryz.prog F #[RV, .pointer (some ⟨b, o, none⟩)] W.drew fun e x1 => e = .returned (.tuple #[]) ∧ (True) ∧ P  x1)
    (Q : Exit → Act → World → Prop) (hPan : ∀ c (a : Act) w (d : Option Tmp) v, Q (.panic c) (a.put d v) w → Q (.panic c) a w) {u2 u3 u4 u5 u6 u7 u8 u9 u10 u11 u12 u13 u14 u15 u16 u17 u18 u19 : Value}
    (hQ : ∀  w1, P  w1 → Q .normal ⟨#[.iface HT HV, .pointer (some ⟨b, o, none⟩), u2, u3, .iface HT HV, .pointer (some ⟨b, o, none⟩), .pointer (some ⟨b, o, none⟩), .pointer (some ⟨b, o, none⟩), .func (.method "cloister/snapshot.word") #[.iface HT HV] #[], .func (.method "cloister/snapshot.word") #[.iface HT HV] #[], .iface HT HV, .tuple #[], u12, u13, u14, u15, u16, u17, u18, u19], []⟩ w1) :
    Code.wp Tryz.prog (Code.region 0 ops48_0 true) Q ⟨#[.iface HT HV, .pointer (some ⟨b, o, none⟩), u2, u3, u4, u5, u6, u7, u8, u9, u10, u11, u12, u13, u14, u15, u16, u17, u18, u19], []⟩ W := by
  have hm := H.m
  have hn := H.n
  have hent := H.e
  clear H
  refine wp_region_held_drew (S := fun w' => True) hmx hS (fun HSX => ?_)
  clear hS
  obtain ⟨W0, hW0⟩ : ∃ W0, W0 = W.drew := ⟨_, rfl⟩
  rw [← hW0] at hcall ⊢
  clear hW0
  refine wpAnyH_take (i := 0) (oi := { dst := some 4, op := Op.move (Operand.tmp 0), type := 138, pos := "fields.go:37", after := #[], guard := none }) (v := .iface HT HV) rfl (by kernel_rfl) (by kernel_rfl) (by kernel_rfl) (fun _ _ _ h => hPan _ _ _ _ _ h) (Or.inl ⟨by rfl, ?_⟩) HSX ?_
  · intro wx d0
    skip
    go_simp
  simp only [Act.put, List.setIfInBounds_toArray, List.set_cons_zero, List.set_cons_succ]
  refine wpAnyH_take (i := 1) (oi := { dst := some 5, op := Op.move (Operand.tmp 1), type := 147, pos := "fields.go:37", after := #[], guard := none }) (v := .pointer (some ⟨b, o, none⟩)) rfl (by kernel_rfl) (by kernel_rfl) (by kernel_rfl) (fun _ _ _ h => hPan _ _ _ _ _ h) (Or.inl ⟨by rfl, ?_⟩) HSX ?_
  · intro wx d0
    skip
    go_simp
  simp only [Act.put, List.setIfInBounds_toArray, List.set_cons_zero, List.set_cons_succ]
  refine wpAnyH_take (i := 2) (oi := { dst := some 6, op := Op.nilCheck (Operand.tmp 5), type := 0, pos := "fields.go:37", after := #[{ on := 1, ground := Ground.data }], guard := none }) (v := .pointer (some ⟨b, o, none⟩)) rfl (by kernel_rfl) (by kernel_rfl) (by kernel_rfl) (fun _ _ _ h => hPan _ _ _ _ _ h) (Or.inl ⟨by rfl, ?_⟩) HSX ?_
  · intro wx d0
    skip
    go_simp
  simp only [Act.put, List.setIfInBounds_toArray, List.set_cons_zero, List.set_cons_succ]
  refine wpAnyH_take (i := 3) (oi := { dst := some 7, op := Op.fieldAddr 103 (Operand.tmp 6) 0, type := 0, pos := "fields.go:37", after := #[{ on := 2, ground := Ground.data }], guard := none }) (v := .pointer (some ⟨b, o, none⟩)) rfl (by kernel_rfl) (by kernel_rfl) (by kernel_rfl) (fun _ _ _ h => hPan _ _ _ _ _ h) (Or.inl ⟨by rfl, ?_⟩) HSX ?_
  · intro wx d0
    skip
    go_simp
  simp only [Act.put, List.setIfInBounds_toArray, List.set_cons_zero, List.set_cons_succ]
  refine wpAnyH_take (i := 4) (oi := { dst := some 8, op := Op.makeFunc (Fn.method "cloister/snapshot.word") #[Operand.tmp 4] #[], type := 245, pos := "fields.go:37", after := #[{ on := 0, ground := Ground.data }], guard := none }) (v := .func (.method "cloister/snapshot.word") #[.iface HT HV] #[]) rfl (by kernel_rfl) (by kernel_rfl) (by kernel_rfl) (fun _ _ _ h => hPan _ _ _ _ _ h) (Or.inl ⟨by rfl, ?_⟩) HSX ?_
  · intro wx d0
    skip
    go_simp
  simp only [Act.put, List.setIfInBounds_toArray, List.set_cons_zero, List.set_cons_succ]
  refine wpAnyH_take (i := 5) (oi := { dst := some 9, op := Op.nilCheck (Operand.tmp 8), type := 245, pos := "fields.go:37", after := #[{ on := 4, ground := Ground.data }], guard := none }) (v := .func (.method "cloister/snapshot.word") #[.iface HT HV] #[]) rfl (by kernel_rfl) (by kernel_rfl) (by kernel_rfl) (fun _ _ _ h => hPan _ _ _ _ _ h) (Or.inl ⟨by rfl, ?_⟩) HSX ?_
  · intro wx d0
    skip
    go_simp
  simp only [Act.put, List.setIfInBounds_toArray, List.set_cons_zero, List.set_cons_succ]
  refine wpAnyH_take (i := 6) (oi := { dst := some 10, op := Op.move (Operand.tmp 4), type := 138, pos := "fields.go:37", after := #[{ on := 0, ground := Ground.data }, { on := 4, ground := Ground.data }, { on := 5, ground := Ground.data }], guard := none }) (v := .iface HT HV) rfl (by kernel_rfl) (by kernel_rfl) (by kernel_rfl) (fun _ _ _ h => hPan _ _ _ _ _ h) (Or.inl ⟨by rfl, ?_⟩) HSX ?_
  · intro wx d0
    skip
    go_simp
  simp only [Act.put, List.setIfInBounds_toArray, List.set_cons_zero, List.set_cons_succ]
  refine wpAnyH_ready (rs := [7]) (by kernel_rfl) (by simp) ?_
  refine AllReadyH.cons (o := { dst := some 11, op := Op.call { callee := Callee.invoke (Operand.tmp 10) "cloister/snapshot.word", args := #[Operand.tmp 7], argTypes := #[246] }, type := 0, pos := "fields.go:37", after := #[{ on := 6, ground := Ground.data }, { on := 3, ground := Ground.data }], guard := none }) rfl (fun K hK => ?_) AllReadyH.nil
  rw [if_pos (by rfl)]
  go_simp
  go_at_fn F
  refine hcall.mono ?_
  rintro e w1 ⟨rfl, HS1, hP⟩
  go_simp
  refine hK.out _ _ HS1 (fun HSX => ?_)
  clear hK K
  refine wpAnyH_done (by kernel_rfl) ?_ _
  exact hQ  _ hP
def ops48_1 : Array Oper := #[{ dst := some 12, op := Op.move (Operand.tmp 0), type := 138, pos := "fields.go:38", after := #[], guard := none },
  { dst := some 13, op := Op.move (Operand.tmp 1), type := 147, pos := "fields.go:38", after := #[], guard := none },
  { dst := some 14, op := Op.nilCheck (Operand.tmp 13), type := 0, pos := "fields.go:38", after := #[{ on := 1, ground := Ground.data }], guard := none },
  { dst := some 15, op := Op.fieldAddr 103 (Operand.tmp 14) 1, type := 0, pos := "fields.go:38", after := #[{ on := 2, ground := Ground.data }], guard := none },
  { dst := some 16, op := Op.makeFunc (Fn.method "cloister/snapshot.bytes") #[Operand.tmp 12] #[], type := 143, pos := "fields.go:38", after := #[{ on := 0, ground := Ground.data }], guard := none },
  { dst := some 17, op := Op.nilCheck (Operand.tmp 16), type := 143, pos := "fields.go:38", after := #[{ on := 4, ground := Ground.data }], guard := none },
  { dst := some 18, op := Op.move (Operand.tmp 12), type := 138, pos := "fields.go:38", after := #[{ on := 0, ground := Ground.data }, { on := 4, ground := Ground.data }, { on := 5, ground := Ground.data }], guard := none },
  { dst := some 19, op := Op.call { callee := Callee.invoke (Operand.tmp 18) "cloister/snapshot.bytes", args := #[Operand.tmp 15], argTypes := #[144] }, type := 0, pos := "fields.go:38", after := #[{ on := 6, ground := Ground.data }, { on := 3, ground := Ground.data }], guard := none }]
set_option maxHeartbeats 8000000 in
set_option maxRecDepth 100000 in
theorem reg48_1 (W : World) (b o : Nat) (HT : TypeId) (HV : Value) (RV : Value) (F : Nat) (H : Mth HT HV "cloister/snapshot.bytes" F RV) (hS : (fun w' => True) W.drew) (P : World → Prop) (hcall : Calls Tryz.prog F #[RV, .pointer (some ⟨b, o + 1, none⟩)] W.drew fun e x1 => e = .returned (.tuple #[]) ∧ (True) ∧ P  x1)
    (Q : Exit → Act → World → Prop) (hPan : ∀ c (a : Act) w (d : Option Tmp) v, Q (.panic c) (a.put d v) w → Q (.panic c) a w) {u2 u3 u4 u5 u6 u7 u8 u9 u10 u11 u12 u13 u14 u15 u16 u17 u18 u19 : Value}
    (hQ : ∀  w1, P  w1 → Q .normal ⟨#[.iface HT HV, .pointer (some ⟨b, o, none⟩), u2, u3, u4, u5, u6, u7, u8, u9, u10, u11, .iface HT HV, .pointer (some ⟨b, o, none⟩), .pointer (some ⟨b, o, none⟩), .pointer (some ⟨b, o + 1, none⟩), .func (.method "cloister/snapshot.bytes") #[.iface HT HV] #[], .func (.method "cloister/snapshot.bytes") #[.iface HT HV] #[], .iface HT HV, .tuple #[]], []⟩ w1) :
    Code.wp Tryz.prog (Code.region 1 ops48_1 true) Q ⟨#[.iface HT HV, .pointer (some ⟨b, o, none⟩), u2, u3, u4, u5, u6, u7, u8, u9, u10, u11, u12, u13, u14, u15, u16, u17, u18, u19], []⟩ W := by
  have hm := H.m
  have hn := H.n
  have hent := H.e
  clear H
  refine wp_region_held_drew (S := fun w' => True) hmx hS (fun HSX => ?_)
  clear hS
  obtain ⟨W0, hW0⟩ : ∃ W0, W0 = W.drew := ⟨_, rfl⟩
  rw [← hW0] at hcall ⊢
  clear hW0
  refine wpAnyH_take (i := 0) (oi := { dst := some 12, op := Op.move (Operand.tmp 0), type := 138, pos := "fields.go:38", after := #[], guard := none }) (v := .iface HT HV) rfl (by kernel_rfl) (by kernel_rfl) (by kernel_rfl) (fun _ _ _ h => hPan _ _ _ _ _ h) (Or.inl ⟨by rfl, ?_⟩) HSX ?_
  · intro wx d0
    skip
    go_simp
  simp only [Act.put, List.setIfInBounds_toArray, List.set_cons_zero, List.set_cons_succ]
  refine wpAnyH_take (i := 1) (oi := { dst := some 13, op := Op.move (Operand.tmp 1), type := 147, pos := "fields.go:38", after := #[], guard := none }) (v := .pointer (some ⟨b, o, none⟩)) rfl (by kernel_rfl) (by kernel_rfl) (by kernel_rfl) (fun _ _ _ h => hPan _ _ _ _ _ h) (Or.inl ⟨by rfl, ?_⟩) HSX ?_
  · intro wx d0
    skip
    go_simp
  simp only [Act.put, List.setIfInBounds_toArray, List.set_cons_zero, List.set_cons_succ]
  refine wpAnyH_take (i := 2) (oi := { dst := some 14, op := Op.nilCheck (Operand.tmp 13), type := 0, pos := "fields.go:38", after := #[{ on := 1, ground := Ground.data }], guard := none }) (v := .pointer (some ⟨b, o, none⟩)) rfl (by kernel_rfl) (by kernel_rfl) (by kernel_rfl) (fun _ _ _ h => hPan _ _ _ _ _ h) (Or.inl ⟨by rfl, ?_⟩) HSX ?_
  · intro wx d0
    skip
    go_simp
  simp only [Act.put, List.setIfInBounds_toArray, List.set_cons_zero, List.set_cons_succ]
  refine wpAnyH_take (i := 3) (oi := { dst := some 15, op := Op.fieldAddr 103 (Operand.tmp 14) 1, type := 0, pos := "fields.go:38", after := #[{ on := 2, ground := Ground.data }], guard := none }) (v := .pointer (some ⟨b, o + 1, none⟩)) rfl (by kernel_rfl) (by kernel_rfl) (by kernel_rfl) (fun _ _ _ h => hPan _ _ _ _ _ h) (Or.inl ⟨by rfl, ?_⟩) HSX ?_
  · intro wx d0
    skip
    go_simp
  simp only [Act.put, List.setIfInBounds_toArray, List.set_cons_zero, List.set_cons_succ]
  refine wpAnyH_take (i := 4) (oi := { dst := some 16, op := Op.makeFunc (Fn.method "cloister/snapshot.bytes") #[Operand.tmp 12] #[], type := 143, pos := "fields.go:38", after := #[{ on := 0, ground := Ground.data }], guard := none }) (v := .func (.method "cloister/snapshot.bytes") #[.iface HT HV] #[]) rfl (by kernel_rfl) (by kernel_rfl) (by kernel_rfl) (fun _ _ _ h => hPan _ _ _ _ _ h) (Or.inl ⟨by rfl, ?_⟩) HSX ?_
  · intro wx d0
    skip
    go_simp
  simp only [Act.put, List.setIfInBounds_toArray, List.set_cons_zero, List.set_cons_succ]
  refine wpAnyH_take (i := 5) (oi := { dst := some 17, op := Op.nilCheck (Operand.tmp 16), type := 143, pos := "fields.go:38", after := #[{ on := 4, ground := Ground.data }], guard := none }) (v := .func (.method "cloister/snapshot.bytes") #[.iface HT HV] #[]) rfl (by kernel_rfl) (by kernel_rfl) (by kernel_rfl) (fun _ _ _ h => hPan _ _ _ _ _ h) (Or.inl ⟨by rfl, ?_⟩) HSX ?_
  · intro wx d0
    skip
    go_simp
  simp only [Act.put, List.setIfInBounds_toArray, List.set_cons_zero, List.set_cons_succ]
  refine wpAnyH_take (i := 6) (oi := { dst := some 18, op := Op.move (Operand.tmp 12), type := 138, pos := "fields.go:38", after := #[{ on := 0, ground := Ground.data }, { on := 4, ground := Ground.data }, { on := 5, ground := Ground.data }], guard := none }) (v := .iface HT HV) rfl (by kernel_rfl) (by kernel_rfl) (by kernel_rfl) (fun _ _ _ h => hPan _ _ _ _ _ h) (Or.inl ⟨by rfl, ?_⟩) HSX ?_
  · intro wx d0
    skip
    go_simp
  simp only [Act.put, List.setIfInBounds_toArray, List.set_cons_zero, List.set_cons_succ]
  refine wpAnyH_ready (rs := [7]) (by kernel_rfl) (by simp) ?_
  refine AllReadyH.cons (o := { dst := some 19, op := Op.call { callee := Callee.invoke (Operand.tmp 18) "cloister/snapshot.bytes", args := #[Operand.tmp 15], argTypes := #[144] }, type := 0, pos := "fields.go:38", after := #[{ on := 6, ground := Ground.data }, { on := 3, ground := Ground.data }], guard := none }) rfl (fun K hK => ?_) AllReadyH.nil
  rw [if_pos (by rfl)]
  go_simp
  go_at_fn F
  refine hcall.mono ?_
  rintro e w1 ⟨rfl, HS1, hP⟩
  go_simp
  refine hK.out _ _ HS1 (fun HSX => ?_)
  clear hK K
  refine wpAnyH_done (by kernel_rfl) ?_ _
  exact hQ  _ hP
def ops54_0 : Array Oper := #[{ dst := some 4, op := Op.move (Operand.tmp 0), type := 138, pos := "fields.go:55", after := #[], guard := none },
  { dst := some 5, op := Op.move (Operand.tmp 1), type := 157, pos := "fields.go:55", after := #[], guard := none },
  { dst := some 6, op := Op.nilCheck (Operand.tmp 5), type := 0, pos := "fields.go:55", after := #[{ on := 1, ground := Ground.data }], guard := none },
  { dst := some 7, op := Op.fieldAddr 105 (Operand.tmp 6) 0, type := 0, pos := "fields.go:55", after := #[{ on := 2, ground := Ground.data }], guard := none },
  { dst := some 8, op := Op.makeFunc (Fn.method "cloister/snapshot.word") #[Operand.tmp 4] #[], type := 245, pos := "fields.go:55", after := #[{ on := 0, ground := Ground.data }], guard := none },
  { dst := some 9, op := Op.nilCheck (Operand.tmp 8), type := 245, pos := "fields.go:55", after := #[{ on := 4, ground := Ground.data }], guard := none },
  { dst := some 10, op := Op.move (Operand.tmp 4), type := 138, pos := "fields.go:55", after := #[{ on := 0, ground := Ground.data }, { on := 4, ground := Ground.data }, { on := 5, ground := Ground.data }], guard := none },
  { dst := some 11, op := Op.call { callee := Callee.invoke (Operand.tmp 10) "cloister/snapshot.word", args := #[Operand.tmp 7], argTypes := #[246] }, type := 0, pos := "fields.go:55", after := #[{ on := 6, ground := Ground.data }, { on := 3, ground := Ground.data }], guard := none }]
set_option maxHeartbeats 8000000 in
set_option maxRecDepth 100000 in
theorem reg54_0 (W : World) (b o : Nat) (HT : TypeId) (HV : Value) (RV : Value) (F : Nat) (H : Mth HT HV "cloister/snapshot.word" F RV) (hS : (fun w' => True) W.drew) (P : World → Prop) (hcall : Calls Tryz.prog F #[RV, .pointer (some ⟨b, o, none⟩)] W.drew fun e x1 => e = .returned (.tuple #[]) ∧ (True) ∧ P  x1)
    (Q : Exit → Act → World → Prop) (hPan : ∀ c (a : Act) w (d : Option Tmp) v, Q (.panic c) (a.put d v) w → Q (.panic c) a w) {u2 u3 u4 u5 u6 u7 u8 u9 u10 u11 u12 u13 u14 u15 u16 u17 u18 u19 u20 u21 u22 u23 u24 u25 u26 u27 u28 u29 : Value}
    (hQ : ∀  w1, P  w1 → Q .normal ⟨#[.iface HT HV, .pointer (some ⟨b, o, none⟩), u2, u3, .iface HT HV, .pointer (some ⟨b, o, none⟩), .pointer (some ⟨b, o, none⟩), .pointer (some ⟨b, o, none⟩), .func (.method "cloister/snapshot.word") #[.iface HT HV] #[], .func (.method "cloister/snapshot.word") #[.iface HT HV] #[], .iface HT HV, .tuple #[], u12, u13, u14, u15, u16, u17, u18, u19, u20, u21, u22, u23, u24, u25, u26, u27, u28, u29], []⟩ w1) :
    Code.wp Tryz.prog (Code.region 0 ops54_0 true) Q ⟨#[.iface HT HV, .pointer (some ⟨b, o, none⟩), u2, u3, u4, u5, u6, u7, u8, u9, u10, u11, u12, u13, u14, u15, u16, u17, u18, u19, u20, u21, u22, u23, u24, u25, u26, u27, u28, u29], []⟩ W := by
  have hm := H.m
  have hn := H.n
  have hent := H.e
  clear H
  refine wp_region_held_drew (S := fun w' => True) hmx hS (fun HSX => ?_)
  clear hS
  obtain ⟨W0, hW0⟩ : ∃ W0, W0 = W.drew := ⟨_, rfl⟩
  rw [← hW0] at hcall ⊢
  clear hW0
  refine wpAnyH_take (i := 0) (oi := { dst := some 4, op := Op.move (Operand.tmp 0), type := 138, pos := "fields.go:55", after := #[], guard := none }) (v := .iface HT HV) rfl (by kernel_rfl) (by kernel_rfl) (by kernel_rfl) (fun _ _ _ h => hPan _ _ _ _ _ h) (Or.inl ⟨by rfl, ?_⟩) HSX ?_
  · intro wx d0
    skip
    go_simp
  simp only [Act.put, List.setIfInBounds_toArray, List.set_cons_zero, List.set_cons_succ]
  refine wpAnyH_take (i := 1) (oi := { dst := some 5, op := Op.move (Operand.tmp 1), type := 157, pos := "fields.go:55", after := #[], guard := none }) (v := .pointer (some ⟨b, o, none⟩)) rfl (by kernel_rfl) (by kernel_rfl) (by kernel_rfl) (fun _ _ _ h => hPan _ _ _ _ _ h) (Or.inl ⟨by rfl, ?_⟩) HSX ?_
  · intro wx d0
    skip
    go_simp
  simp only [Act.put, List.setIfInBounds_toArray, List.set_cons_zero, List.set_cons_succ]
  refine wpAnyH_take (i := 2) (oi := { dst := some 6, op := Op.nilCheck (Operand.tmp 5), type := 0, pos := "fields.go:55", after := #[{ on := 1, ground := Ground.data }], guard := none }) (v := .pointer (some ⟨b, o, none⟩)) rfl (by kernel_rfl) (by kernel_rfl) (by kernel_rfl) (fun _ _ _ h => hPan _ _ _ _ _ h) (Or.inl ⟨by rfl, ?_⟩) HSX ?_
  · intro wx d0
    skip
    go_simp
  simp only [Act.put, List.setIfInBounds_toArray, List.set_cons_zero, List.set_cons_succ]
  refine wpAnyH_take (i := 3) (oi := { dst := some 7, op := Op.fieldAddr 105 (Operand.tmp 6) 0, type := 0, pos := "fields.go:55", after := #[{ on := 2, ground := Ground.data }], guard := none }) (v := .pointer (some ⟨b, o, none⟩)) rfl (by kernel_rfl) (by kernel_rfl) (by kernel_rfl) (fun _ _ _ h => hPan _ _ _ _ _ h) (Or.inl ⟨by rfl, ?_⟩) HSX ?_
  · intro wx d0
    skip
    go_simp
  simp only [Act.put, List.setIfInBounds_toArray, List.set_cons_zero, List.set_cons_succ]
  refine wpAnyH_take (i := 4) (oi := { dst := some 8, op := Op.makeFunc (Fn.method "cloister/snapshot.word") #[Operand.tmp 4] #[], type := 245, pos := "fields.go:55", after := #[{ on := 0, ground := Ground.data }], guard := none }) (v := .func (.method "cloister/snapshot.word") #[.iface HT HV] #[]) rfl (by kernel_rfl) (by kernel_rfl) (by kernel_rfl) (fun _ _ _ h => hPan _ _ _ _ _ h) (Or.inl ⟨by rfl, ?_⟩) HSX ?_
  · intro wx d0
    skip
    go_simp
  simp only [Act.put, List.setIfInBounds_toArray, List.set_cons_zero, List.set_cons_succ]
  refine wpAnyH_take (i := 5) (oi := { dst := some 9, op := Op.nilCheck (Operand.tmp 8), type := 245, pos := "fields.go:55", after := #[{ on := 4, ground := Ground.data }], guard := none }) (v := .func (.method "cloister/snapshot.word") #[.iface HT HV] #[]) rfl (by kernel_rfl) (by kernel_rfl) (by kernel_rfl) (fun _ _ _ h => hPan _ _ _ _ _ h) (Or.inl ⟨by rfl, ?_⟩) HSX ?_
  · intro wx d0
    skip
    go_simp
  simp only [Act.put, List.setIfInBounds_toArray, List.set_cons_zero, List.set_cons_succ]
  refine wpAnyH_take (i := 6) (oi := { dst := some 10, op := Op.move (Operand.tmp 4), type := 138, pos := "fields.go:55", after := #[{ on := 0, ground := Ground.data }, { on := 4, ground := Ground.data }, { on := 5, ground := Ground.data }], guard := none }) (v := .iface HT HV) rfl (by kernel_rfl) (by kernel_rfl) (by kernel_rfl) (fun _ _ _ h => hPan _ _ _ _ _ h) (Or.inl ⟨by rfl, ?_⟩) HSX ?_
  · intro wx d0
    skip
    go_simp
  simp only [Act.put, List.setIfInBounds_toArray, List.set_cons_zero, List.set_cons_succ]
  refine wpAnyH_ready (rs := [7]) (by kernel_rfl) (by simp) ?_
  refine AllReadyH.cons (o := { dst := some 11, op := Op.call { callee := Callee.invoke (Operand.tmp 10) "cloister/snapshot.word", args := #[Operand.tmp 7], argTypes := #[246] }, type := 0, pos := "fields.go:55", after := #[{ on := 6, ground := Ground.data }, { on := 3, ground := Ground.data }], guard := none }) rfl (fun K hK => ?_) AllReadyH.nil
  rw [if_pos (by rfl)]
  go_simp
  go_at_fn F
  refine hcall.mono ?_
  rintro e w1 ⟨rfl, HS1, hP⟩
  go_simp
  refine hK.out _ _ HS1 (fun HSX => ?_)
  clear hK K
  refine wpAnyH_done (by kernel_rfl) ?_ _
  exact hQ  _ hP
def ops54_1 : Array Oper := #[{ dst := some 12, op := Op.move (Operand.tmp 0), type := 138, pos := "fields.go:56", after := #[], guard := none },
  { dst := some 13, op := Op.move (Operand.tmp 1), type := 157, pos := "fields.go:56", after := #[], guard := none },
  { dst := some 14, op := Op.nilCheck (Operand.tmp 13), type := 0, pos := "fields.go:56", after := #[{ on := 1, ground := Ground.data }], guard := none },
  { dst := some 15, op := Op.fieldAddr 105 (Operand.tmp 14) 1, type := 0, pos := "fields.go:56", after := #[{ on := 2, ground := Ground.data }], guard := none },
  { dst := some 16, op := Op.makeFunc (Fn.method "cloister/snapshot.word") #[Operand.tmp 12] #[], type := 245, pos := "fields.go:56", after := #[{ on := 0, ground := Ground.data }], guard := none },
  { dst := some 17, op := Op.nilCheck (Operand.tmp 16), type := 245, pos := "fields.go:56", after := #[{ on := 4, ground := Ground.data }], guard := none },
  { dst := some 18, op := Op.move (Operand.tmp 12), type := 138, pos := "fields.go:56", after := #[{ on := 0, ground := Ground.data }, { on := 4, ground := Ground.data }, { on := 5, ground := Ground.data }], guard := none },
  { dst := some 19, op := Op.call { callee := Callee.invoke (Operand.tmp 18) "cloister/snapshot.word", args := #[Operand.tmp 15], argTypes := #[246] }, type := 0, pos := "fields.go:56", after := #[{ on := 6, ground := Ground.data }, { on := 3, ground := Ground.data }], guard := none }]
set_option maxHeartbeats 8000000 in
set_option maxRecDepth 100000 in
theorem reg54_1 (W : World) (b o : Nat) (HT : TypeId) (HV : Value) (RV : Value) (F : Nat) (H : Mth HT HV "cloister/snapshot.word" F RV) (hS : (fun w' => True) W.drew) (P : World → Prop) (hcall : Calls Tryz.prog F #[RV, .pointer (some ⟨b, o + 1, none⟩)] W.drew fun e x1 => e = .returned (.tuple #[]) ∧ (True) ∧ P  x1)
    (Q : Exit → Act → World → Prop) (hPan : ∀ c (a : Act) w (d : Option Tmp) v, Q (.panic c) (a.put d v) w → Q (.panic c) a w) {u2 u3 u4 u5 u6 u7 u8 u9 u10 u11 u12 u13 u14 u15 u16 u17 u18 u19 u20 u21 u22 u23 u24 u25 u26 u27 u28 u29 : Value}
    (hQ : ∀  w1, P  w1 → Q .normal ⟨#[.iface HT HV, .pointer (some ⟨b, o, none⟩), u2, u3, u4, u5, u6, u7, u8, u9, u10, u11, .iface HT HV, .pointer (some ⟨b, o, none⟩), .pointer (some ⟨b, o, none⟩), .pointer (some ⟨b, o + 1, none⟩), .func (.method "cloister/snapshot.word") #[.iface HT HV] #[], .func (.method "cloister/snapshot.word") #[.iface HT HV] #[], .iface HT HV, .tuple #[], u20, u21, u22, u23, u24, u25, u26, u27, u28, u29], []⟩ w1) :
    Code.wp Tryz.prog (Code.region 1 ops54_1 true) Q ⟨#[.iface HT HV, .pointer (some ⟨b, o, none⟩), u2, u3, u4, u5, u6, u7, u8, u9, u10, u11, u12, u13, u14, u15, u16, u17, u18, u19, u20, u21, u22, u23, u24, u25, u26, u27, u28, u29], []⟩ W := by
  have hm := H.m
  have hn := H.n
  have hent := H.e
  clear H
  refine wp_region_held_drew (S := fun w' => True) hmx hS (fun HSX => ?_)
  clear hS
  obtain ⟨W0, hW0⟩ : ∃ W0, W0 = W.drew := ⟨_, rfl⟩
  rw [← hW0] at hcall ⊢
  clear hW0
  refine wpAnyH_take (i := 0) (oi := { dst := some 12, op := Op.move (Operand.tmp 0), type := 138, pos := "fields.go:56", after := #[], guard := none }) (v := .iface HT HV) rfl (by kernel_rfl) (by kernel_rfl) (by kernel_rfl) (fun _ _ _ h => hPan _ _ _ _ _ h) (Or.inl ⟨by rfl, ?_⟩) HSX ?_
  · intro wx d0
    skip
    go_simp
  simp only [Act.put, List.setIfInBounds_toArray, List.set_cons_zero, List.set_cons_succ]
  refine wpAnyH_take (i := 1) (oi := { dst := some 13, op := Op.move (Operand.tmp 1), type := 157, pos := "fields.go:56", after := #[], guard := none }) (v := .pointer (some ⟨b, o, none⟩)) rfl (by kernel_rfl) (by kernel_rfl) (by kernel_rfl) (fun _ _ _ h => hPan _ _ _ _ _ h) (Or.inl ⟨by rfl, ?_⟩) HSX ?_
  · intro wx d0
    skip
    go_simp
  simp only [Act.put, List.setIfInBounds_toArray, List.set_cons_zero, List.set_cons_succ]
  refine wpAnyH_take (i := 2) (oi := { dst := some 14, op := Op.nilCheck (Operand.tmp 13), type := 0, pos := "fields.go:56", after := #[{ on := 1, ground := Ground.data }], guard := none }) (v := .pointer (some ⟨b, o, none⟩)) rfl (by kernel_rfl) (by kernel_rfl) (by kernel_rfl) (fun _ _ _ h => hPan _ _ _ _ _ h) (Or.inl ⟨by rfl, ?_⟩) HSX ?_
  · intro wx d0
    skip
    go_simp
  simp only [Act.put, List.setIfInBounds_toArray, List.set_cons_zero, List.set_cons_succ]
  refine wpAnyH_take (i := 3) (oi := { dst := some 15, op := Op.fieldAddr 105 (Operand.tmp 14) 1, type := 0, pos := "fields.go:56", after := #[{ on := 2, ground := Ground.data }], guard := none }) (v := .pointer (some ⟨b, o + 1, none⟩)) rfl (by kernel_rfl) (by kernel_rfl) (by kernel_rfl) (fun _ _ _ h => hPan _ _ _ _ _ h) (Or.inl ⟨by rfl, ?_⟩) HSX ?_
  · intro wx d0
    skip
    go_simp
  simp only [Act.put, List.setIfInBounds_toArray, List.set_cons_zero, List.set_cons_succ]
  refine wpAnyH_take (i := 4) (oi := { dst := some 16, op := Op.makeFunc (Fn.method "cloister/snapshot.word") #[Operand.tmp 12] #[], type := 245, pos := "fields.go:56", after := #[{ on := 0, ground := Ground.data }], guard := none }) (v := .func (.method "cloister/snapshot.word") #[.iface HT HV] #[]) rfl (by kernel_rfl) (by kernel_rfl) (by kernel_rfl) (fun _ _ _ h => hPan _ _ _ _ _ h) (Or.inl ⟨by rfl, ?_⟩) HSX ?_
  · intro wx d0
    skip
    go_simp
  simp only [Act.put, List.setIfInBounds_toArray, List.set_cons_zero, List.set_cons_succ]
  refine wpAnyH_take (i := 5) (oi := { dst := some 17, op := Op.nilCheck (Operand.tmp 16), type := 245, pos := "fields.go:56", after := #[{ on := 4, ground := Ground.data }], guard := none }) (v := .func (.method "cloister/snapshot.word") #[.iface HT HV] #[]) rfl (by kernel_rfl) (by kernel_rfl) (by kernel_rfl) (fun _ _ _ h => hPan _ _ _ _ _ h) (Or.inl ⟨by rfl, ?_⟩) HSX ?_
  · intro wx d0
    skip
    go_simp
  simp only [Act.put, List.setIfInBounds_toArray, List.set_cons_zero, List.set_cons_succ]
  refine wpAnyH_take (i := 6) (oi := { dst := some 18, op := Op.move (Operand.tmp 12), type := 138, pos := "fields.go:56", after := #[{ on := 0, ground := Ground.data }, { on := 4, ground := Ground.data }, { on := 5, ground := Ground.data }], guard := none }) (v := .iface HT HV) rfl (by kernel_rfl) (by kernel_rfl) (by kernel_rfl) (fun _ _ _ h => hPan _ _ _ _ _ h) (Or.inl ⟨by rfl, ?_⟩) HSX ?_
  · intro wx d0
    skip
    go_simp
  simp only [Act.put, List.setIfInBounds_toArray, List.set_cons_zero, List.set_cons_succ]
  refine wpAnyH_ready (rs := [7]) (by kernel_rfl) (by simp) ?_
  refine AllReadyH.cons (o := { dst := some 19, op := Op.call { callee := Callee.invoke (Operand.tmp 18) "cloister/snapshot.word", args := #[Operand.tmp 15], argTypes := #[246] }, type := 0, pos := "fields.go:56", after := #[{ on := 6, ground := Ground.data }, { on := 3, ground := Ground.data }], guard := none }) rfl (fun K hK => ?_) AllReadyH.nil
  rw [if_pos (by rfl)]
  go_simp
  go_at_fn F
  refine hcall.mono ?_
  rintro e w1 ⟨rfl, HS1, hP⟩
  go_simp
  refine hK.out _ _ HS1 (fun HSX => ?_)
  clear hK K
  refine wpAnyH_done (by kernel_rfl) ?_ _
  exact hQ  _ hP
def ops54_2 : Array Oper := #[{ dst := some 20, op := Op.move (Operand.tmp 0), type := 138, pos := "fields.go:57", after := #[], guard := none },
  { dst := some 21, op := Op.move (Operand.tmp 1), type := 157, pos := "fields.go:57", after := #[], guard := none },
  { dst := some 22, op := Op.nilCheck (Operand.tmp 21), type := 0, pos := "fields.go:57", after := #[{ on := 1, ground := Ground.data }], guard := none },
  { dst := some 23, op := Op.fieldAddr 105 (Operand.tmp 22) 2, type := 0, pos := "fields.go:57", after := #[{ on := 2, ground := Ground.data }], guard := none },
  { dst := some 24, op := Op.makeFunc (Fn.method "cloister/snapshot.flag") #[Operand.tmp 20] #[], type := 141, pos := "fields.go:57", after := #[{ on := 0, ground := Ground.data }], guard := none },
  { dst := some 25, op := Op.nilCheck (Operand.tmp 24), type := 141, pos := "fields.go:57", after := #[{ on := 4, ground := Ground.data }], guard := none },
  { dst := some 26, op := Op.move (Operand.tmp 20), type := 138, pos := "fields.go:57", after := #[{ on := 0, ground := Ground.data }, { on := 4, ground := Ground.data }, { on := 5, ground := Ground.data }], guard := none },
  { dst := some 27, op := Op.call { callee := Callee.invoke (Operand.tmp 26) "cloister/snapshot.flag", args := #[Operand.tmp 23], argTypes := #[142] }, type := 0, pos := "fields.go:57", after := #[{ on := 6, ground := Ground.data }, { on := 3, ground := Ground.data }], guard := none }]
set_option maxHeartbeats 8000000 in
set_option maxRecDepth 100000 in
theorem reg54_2 (W : World) (b o : Nat) (HT : TypeId) (HV : Value) (RV : Value) (F : Nat) (H : Mth HT HV "cloister/snapshot.flag" F RV) (hS : (fun w' => True) W.drew) (P : World → Prop) (hcall : Calls Tryz.prog F #[RV, .pointer (some ⟨b, o + 2, none⟩)] W.drew fun e x1 => e = .returned (.tuple #[]) ∧ (True) ∧ P  x1)
    (Q : Exit → Act → World → Prop) (hPan : ∀ c (a : Act) w (d : Option Tmp) v, Q (.panic c) (a.put d v) w → Q (.panic c) a w) {u2 u3 u4 u5 u6 u7 u8 u9 u10 u11 u12 u13 u14 u15 u16 u17 u18 u19 u20 u21 u22 u23 u24 u25 u26 u27 u28 u29 : Value}
    (hQ : ∀  w1, P  w1 → Q .normal ⟨#[.iface HT HV, .pointer (some ⟨b, o, none⟩), u2, u3, u4, u5, u6, u7, u8, u9, u10, u11, u12, u13, u14, u15, u16, u17, u18, u19, .iface HT HV, .pointer (some ⟨b, o, none⟩), .pointer (some ⟨b, o, none⟩), .pointer (some ⟨b, o + 2, none⟩), .func (.method "cloister/snapshot.flag") #[.iface HT HV] #[], .func (.method "cloister/snapshot.flag") #[.iface HT HV] #[], .iface HT HV, .tuple #[], u28, u29], []⟩ w1) :
    Code.wp Tryz.prog (Code.region 2 ops54_2 true) Q ⟨#[.iface HT HV, .pointer (some ⟨b, o, none⟩), u2, u3, u4, u5, u6, u7, u8, u9, u10, u11, u12, u13, u14, u15, u16, u17, u18, u19, u20, u21, u22, u23, u24, u25, u26, u27, u28, u29], []⟩ W := by
  have hm := H.m
  have hn := H.n
  have hent := H.e
  clear H
  refine wp_region_held_drew (S := fun w' => True) hmx hS (fun HSX => ?_)
  clear hS
  obtain ⟨W0, hW0⟩ : ∃ W0, W0 = W.drew := ⟨_, rfl⟩
  rw [← hW0] at hcall ⊢
  clear hW0
  refine wpAnyH_take (i := 0) (oi := { dst := some 20, op := Op.move (Operand.tmp 0), type := 138, pos := "fields.go:57", after := #[], guard := none }) (v := .iface HT HV) rfl (by kernel_rfl) (by kernel_rfl) (by kernel_rfl) (fun _ _ _ h => hPan _ _ _ _ _ h) (Or.inl ⟨by rfl, ?_⟩) HSX ?_
  · intro wx d0
    skip
    go_simp
  simp only [Act.put, List.setIfInBounds_toArray, List.set_cons_zero, List.set_cons_succ]
  refine wpAnyH_take (i := 1) (oi := { dst := some 21, op := Op.move (Operand.tmp 1), type := 157, pos := "fields.go:57", after := #[], guard := none }) (v := .pointer (some ⟨b, o, none⟩)) rfl (by kernel_rfl) (by kernel_rfl) (by kernel_rfl) (fun _ _ _ h => hPan _ _ _ _ _ h) (Or.inl ⟨by rfl, ?_⟩) HSX ?_
  · intro wx d0
    skip
    go_simp
  simp only [Act.put, List.setIfInBounds_toArray, List.set_cons_zero, List.set_cons_succ]
  refine wpAnyH_take (i := 2) (oi := { dst := some 22, op := Op.nilCheck (Operand.tmp 21), type := 0, pos := "fields.go:57", after := #[{ on := 1, ground := Ground.data }], guard := none }) (v := .pointer (some ⟨b, o, none⟩)) rfl (by kernel_rfl) (by kernel_rfl) (by kernel_rfl) (fun _ _ _ h => hPan _ _ _ _ _ h) (Or.inl ⟨by rfl, ?_⟩) HSX ?_
  · intro wx d0
    skip
    go_simp
  simp only [Act.put, List.setIfInBounds_toArray, List.set_cons_zero, List.set_cons_succ]
  refine wpAnyH_take (i := 3) (oi := { dst := some 23, op := Op.fieldAddr 105 (Operand.tmp 22) 2, type := 0, pos := "fields.go:57", after := #[{ on := 2, ground := Ground.data }], guard := none }) (v := .pointer (some ⟨b, o + 2, none⟩)) rfl (by kernel_rfl) (by kernel_rfl) (by kernel_rfl) (fun _ _ _ h => hPan _ _ _ _ _ h) (Or.inl ⟨by rfl, ?_⟩) HSX ?_
  · intro wx d0
    skip
    go_simp
  simp only [Act.put, List.setIfInBounds_toArray, List.set_cons_zero, List.set_cons_succ]
  refine wpAnyH_take (i := 4) (oi := { dst := some 24, op := Op.makeFunc (Fn.method "cloister/snapshot.flag") #[Operand.tmp 20] #[], type := 141, pos := "fields.go:57", after := #[{ on := 0, ground := Ground.data }], guard := none }) (v := .func (.method "cloister/snapshot.flag") #[.iface HT HV] #[]) rfl (by kernel_rfl) (by kernel_rfl) (by kernel_rfl) (fun _ _ _ h => hPan _ _ _ _ _ h) (Or.inl ⟨by rfl, ?_⟩) HSX ?_
  · intro wx d0
    skip
    go_simp
  simp only [Act.put, List.setIfInBounds_toArray, List.set_cons_zero, List.set_cons_succ]
  refine wpAnyH_take (i := 5) (oi := { dst := some 25, op := Op.nilCheck (Operand.tmp 24), type := 141, pos := "fields.go:57", after := #[{ on := 4, ground := Ground.data }], guard := none }) (v := .func (.method "cloister/snapshot.flag") #[.iface HT HV] #[]) rfl (by kernel_rfl) (by kernel_rfl) (by kernel_rfl) (fun _ _ _ h => hPan _ _ _ _ _ h) (Or.inl ⟨by rfl, ?_⟩) HSX ?_
  · intro wx d0
    skip
    go_simp
  simp only [Act.put, List.setIfInBounds_toArray, List.set_cons_zero, List.set_cons_succ]
  refine wpAnyH_take (i := 6) (oi := { dst := some 26, op := Op.move (Operand.tmp 20), type := 138, pos := "fields.go:57", after := #[{ on := 0, ground := Ground.data }, { on := 4, ground := Ground.data }, { on := 5, ground := Ground.data }], guard := none }) (v := .iface HT HV) rfl (by kernel_rfl) (by kernel_rfl) (by kernel_rfl) (fun _ _ _ h => hPan _ _ _ _ _ h) (Or.inl ⟨by rfl, ?_⟩) HSX ?_
  · intro wx d0
    skip
    go_simp
  simp only [Act.put, List.setIfInBounds_toArray, List.set_cons_zero, List.set_cons_succ]
  refine wpAnyH_ready (rs := [7]) (by kernel_rfl) (by simp) ?_
  refine AllReadyH.cons (o := { dst := some 27, op := Op.call { callee := Callee.invoke (Operand.tmp 26) "cloister/snapshot.flag", args := #[Operand.tmp 23], argTypes := #[142] }, type := 0, pos := "fields.go:57", after := #[{ on := 6, ground := Ground.data }, { on := 3, ground := Ground.data }], guard := none }) rfl (fun K hK => ?_) AllReadyH.nil
  rw [if_pos (by rfl)]
  go_simp
  go_at_fn F
  refine hcall.mono ?_
  rintro e w1 ⟨rfl, HS1, hP⟩
  go_simp
  refine hK.out _ _ HS1 (fun HSX => ?_)
  clear hK K
  refine wpAnyH_done (by kernel_rfl) ?_ _
  exact hQ  _ hP
def ops57_0 : Array Oper := #[{ dst := some 4, op := Op.move (Operand.tmp 0), type := 138, pos := "fields.go:62", after := #[], guard := none },
  { dst := some 5, op := Op.move (Operand.tmp 1), type := 162, pos := "fields.go:62", after := #[], guard := none },
  { dst := some 6, op := Op.nilCheck (Operand.tmp 5), type := 0, pos := "fields.go:62", after := #[{ on := 1, ground := Ground.data }], guard := none },
  { dst := some 7, op := Op.fieldAddr 112 (Operand.tmp 6) 0, type := 0, pos := "fields.go:62", after := #[{ on := 2, ground := Ground.data }], guard := none },
  { dst := some 8, op := Op.fieldAddr 107 (Operand.tmp 7) 0, type := 0, pos := "fields.go:62", after := #[{ on := 3, ground := Ground.data }], guard := none },
  { dst := some 9, op := Op.makeFunc (Fn.method "cloister/snapshot.wordOf") #[Operand.tmp 4] #[], type := 243, pos := "fields.go:62", after := #[{ on := 0, ground := Ground.data }], guard := none },
  { dst := some 10, op := Op.nilCheck (Operand.tmp 9), type := 243, pos := "fields.go:62", after := #[{ on := 5, ground := Ground.data }], guard := none },
  { dst := some 11, op := Op.move (Operand.tmp 4), type := 138, pos := "fields.go:62", after := #[{ on := 0, ground := Ground.data }, { on := 5, ground := Ground.data }, { on := 6, ground := Ground.data }], guard := none },
  { dst := some 12, op := Op.call { callee := Callee.invoke (Operand.tmp 11) "cloister/snapshot.wordOf", args := #[Operand.tmp 8], argTypes := #[244] }, type := 0, pos := "fields.go:62", after := #[{ on := 7, ground := Ground.data }, { on := 4, ground := Ground.data }], guard := none }]
set_option maxHeartbeats 8000000 in
set_option maxRecDepth 100000 in
theorem reg57_0 (W : World) (b o : Nat) (HT : TypeId) (HV : Value) (RV : Value) (F : Nat) (H : Mth HT HV "cloister/snapshot.wordOf" F RV) (hS : (fun w' => True) W.drew) (P : World → Prop) (hcall : Calls Tryz.prog F #[RV, .pointer (some ⟨b, o, none⟩)] W.drew fun e x1 => e = .returned (.tuple #[]) ∧ (True) ∧ P  x1)
    (Q : Exit → Act → World → Prop) (hPan : ∀ c (a : Act) w (d : Option Tmp) v, Q (.panic c) (a.put d v) w → Q (.panic c) a w) {u2 u3 u4 u5 u6 u7 u8 u9 u10 u11 u12 u13 u14 u15 u16 u17 u18 u19 u20 u21 u22 u23 u24 u25 u26 u27 u28 u29 u30 u31 u32 u33 u34 u35 u36 u37 u38 u39 u40 u41 : Value}
    (hQ : ∀  w1, P  w1 → Q .normal ⟨#[.iface HT HV, .pointer (some ⟨b, o, none⟩), u2, u3, .iface HT HV, .pointer (some ⟨b, o, none⟩), .pointer (some ⟨b, o, none⟩), .pointer (some ⟨b, o, none⟩), .pointer (some ⟨b, o, none⟩), .func (.method "cloister/snapshot.wordOf") #[.iface HT HV] #[], .func (.method "cloister/snapshot.wordOf") #[.iface HT HV] #[], .iface HT HV, .tuple #[], u13, u14, u15, u16, u17, u18, u19, u20, u21, u22, u23, u24, u25, u26, u27, u28, u29, u30, u31, u32, u33, u34, u35, u36, u37, u38, u39, u40, u41], []⟩ w1) :
    Code.wp Tryz.prog (Code.region 0 ops57_0 true) Q ⟨#[.iface HT HV, .pointer (some ⟨b, o, none⟩), u2, u3, u4, u5, u6, u7, u8, u9, u10, u11, u12, u13, u14, u15, u16, u17, u18, u19, u20, u21, u22, u23, u24, u25, u26, u27, u28, u29, u30, u31, u32, u33, u34, u35, u36, u37, u38, u39, u40, u41], []⟩ W := by
  have hm := H.m
  have hn := H.n
  have hent := H.e
  clear H
  refine wp_region_held_drew (S := fun w' => True) hmx hS (fun HSX => ?_)
  clear hS
  obtain ⟨W0, hW0⟩ : ∃ W0, W0 = W.drew := ⟨_, rfl⟩
  rw [← hW0] at hcall ⊢
  clear hW0
  refine wpAnyH_take (i := 0) (oi := { dst := some 4, op := Op.move (Operand.tmp 0), type := 138, pos := "fields.go:62", after := #[], guard := none }) (v := .iface HT HV) rfl (by kernel_rfl) (by kernel_rfl) (by kernel_rfl) (fun _ _ _ h => hPan _ _ _ _ _ h) (Or.inl ⟨by rfl, ?_⟩) HSX ?_
  · intro wx d0
    skip
    go_simp
  simp only [Act.put, List.setIfInBounds_toArray, List.set_cons_zero, List.set_cons_succ]
  refine wpAnyH_take (i := 1) (oi := { dst := some 5, op := Op.move (Operand.tmp 1), type := 162, pos := "fields.go:62", after := #[], guard := none }) (v := .pointer (some ⟨b, o, none⟩)) rfl (by kernel_rfl) (by kernel_rfl) (by kernel_rfl) (fun _ _ _ h => hPan _ _ _ _ _ h) (Or.inl ⟨by rfl, ?_⟩) HSX ?_
  · intro wx d0
    skip
    go_simp
  simp only [Act.put, List.setIfInBounds_toArray, List.set_cons_zero, List.set_cons_succ]
  refine wpAnyH_take (i := 2) (oi := { dst := some 6, op := Op.nilCheck (Operand.tmp 5), type := 0, pos := "fields.go:62", after := #[{ on := 1, ground := Ground.data }], guard := none }) (v := .pointer (some ⟨b, o, none⟩)) rfl (by kernel_rfl) (by kernel_rfl) (by kernel_rfl) (fun _ _ _ h => hPan _ _ _ _ _ h) (Or.inl ⟨by rfl, ?_⟩) HSX ?_
  · intro wx d0
    skip
    go_simp
  simp only [Act.put, List.setIfInBounds_toArray, List.set_cons_zero, List.set_cons_succ]
  refine wpAnyH_take (i := 3) (oi := { dst := some 7, op := Op.fieldAddr 112 (Operand.tmp 6) 0, type := 0, pos := "fields.go:62", after := #[{ on := 2, ground := Ground.data }], guard := none }) (v := .pointer (some ⟨b, o, none⟩)) rfl (by kernel_rfl) (by kernel_rfl) (by kernel_rfl) (fun _ _ _ h => hPan _ _ _ _ _ h) (Or.inl ⟨by rfl, ?_⟩) HSX ?_
  · intro wx d0
    skip
    go_simp
  simp only [Act.put, List.setIfInBounds_toArray, List.set_cons_zero, List.set_cons_succ]
  refine wpAnyH_take (i := 4) (oi := { dst := some 8, op := Op.fieldAddr 107 (Operand.tmp 7) 0, type := 0, pos := "fields.go:62", after := #[{ on := 3, ground := Ground.data }], guard := none }) (v := .pointer (some ⟨b, o, none⟩)) rfl (by kernel_rfl) (by kernel_rfl) (by kernel_rfl) (fun _ _ _ h => hPan _ _ _ _ _ h) (Or.inl ⟨by rfl, ?_⟩) HSX ?_
  · intro wx d0
    skip
    go_simp
  simp only [Act.put, List.setIfInBounds_toArray, List.set_cons_zero, List.set_cons_succ]
  refine wpAnyH_take (i := 5) (oi := { dst := some 9, op := Op.makeFunc (Fn.method "cloister/snapshot.wordOf") #[Operand.tmp 4] #[], type := 243, pos := "fields.go:62", after := #[{ on := 0, ground := Ground.data }], guard := none }) (v := .func (.method "cloister/snapshot.wordOf") #[.iface HT HV] #[]) rfl (by kernel_rfl) (by kernel_rfl) (by kernel_rfl) (fun _ _ _ h => hPan _ _ _ _ _ h) (Or.inl ⟨by rfl, ?_⟩) HSX ?_
  · intro wx d0
    skip
    go_simp
  simp only [Act.put, List.setIfInBounds_toArray, List.set_cons_zero, List.set_cons_succ]
  refine wpAnyH_take (i := 6) (oi := { dst := some 10, op := Op.nilCheck (Operand.tmp 9), type := 243, pos := "fields.go:62", after := #[{ on := 5, ground := Ground.data }], guard := none }) (v := .func (.method "cloister/snapshot.wordOf") #[.iface HT HV] #[]) rfl (by kernel_rfl) (by kernel_rfl) (by kernel_rfl) (fun _ _ _ h => hPan _ _ _ _ _ h) (Or.inl ⟨by rfl, ?_⟩) HSX ?_
  · intro wx d0
    skip
    go_simp
  simp only [Act.put, List.setIfInBounds_toArray, List.set_cons_zero, List.set_cons_succ]
  refine wpAnyH_take (i := 7) (oi := { dst := some 11, op := Op.move (Operand.tmp 4), type := 138, pos := "fields.go:62", after := #[{ on := 0, ground := Ground.data }, { on := 5, ground := Ground.data }, { on := 6, ground := Ground.data }], guard := none }) (v := .iface HT HV) rfl (by kernel_rfl) (by kernel_rfl) (by kernel_rfl) (fun _ _ _ h => hPan _ _ _ _ _ h) (Or.inl ⟨by rfl, ?_⟩) HSX ?_
  · intro wx d0
    skip
    go_simp
  simp only [Act.put, List.setIfInBounds_toArray, List.set_cons_zero, List.set_cons_succ]
  refine wpAnyH_ready (rs := [8]) (by kernel_rfl) (by simp) ?_
  refine AllReadyH.cons (o := { dst := some 12, op := Op.call { callee := Callee.invoke (Operand.tmp 11) "cloister/snapshot.wordOf", args := #[Operand.tmp 8], argTypes := #[244] }, type := 0, pos := "fields.go:62", after := #[{ on := 7, ground := Ground.data }, { on := 4, ground := Ground.data }], guard := none }) rfl (fun K hK => ?_) AllReadyH.nil
  rw [if_pos (by rfl)]
  go_simp
  go_at_fn F
  refine hcall.mono ?_
  rintro e w1 ⟨rfl, HS1, hP⟩
  go_simp
  refine hK.out _ _ HS1 (fun HSX => ?_)
  clear hK K
  refine wpAnyH_done (by kernel_rfl) ?_ _
  exact hQ  _ hP
def ops57_1 : Array Oper := #[{ dst := some 13, op := Op.move (Operand.tmp 0), type := 138, pos := "fields.go:63", after := #[], guard := none },
  { dst := some 14, op := Op.move (Operand.tmp 1), type := 162, pos := "fields.go:63", after := #[], guard := none },
  { dst := some 15, op := Op.nilCheck (Operand.tmp 14), type := 0, pos := "fields.go:63", after := #[{ on := 1, ground := Ground.data }], guard := none },
  { dst := some 16, op := Op.fieldAddr 112 (Operand.tmp 15) 0, type := 0, pos := "fields.go:63", after := #[{ on := 2, ground := Ground.data }], guard := none },
  { dst := some 17, op := Op.fieldAddr 107 (Operand.tmp 16) 1, type := 0, pos := "fields.go:63", after := #[{ on := 3, ground := Ground.data }], guard := none },
  { dst := some 18, op := Op.makeFunc (Fn.method "cloister/snapshot.word") #[Operand.tmp 13] #[], type := 245, pos := "fields.go:63", after := #[{ on := 0, ground := Ground.data }], guard := none },
  { dst := some 19, op := Op.nilCheck (Operand.tmp 18), type := 245, pos := "fields.go:63", after := #[{ on := 5, ground := Ground.data }], guard := none },
  { dst := some 20, op := Op.move (Operand.tmp 13), type := 138, pos := "fields.go:63", after := #[{ on := 0, ground := Ground.data }, { on := 5, ground := Ground.data }, { on := 6, ground := Ground.data }], guard := none },
  { dst := some 21, op := Op.call { callee := Callee.invoke (Operand.tmp 20) "cloister/snapshot.word", args := #[Operand.tmp 17], argTypes := #[246] }, type := 0, pos := "fields.go:63", after := #[{ on := 7, ground := Ground.data }, { on := 4, ground := Ground.data }], guard := none }]
set_option maxHeartbeats 8000000 in
set_option maxRecDepth 100000 in
theorem reg57_1 (W : World) (b o : Nat) (HT : TypeId) (HV : Value) (RV : Value) (F : Nat) (H : Mth HT HV "cloister/snapshot.word" F RV) (hS : (fun w' => True) W.drew) (P : World → Prop) (hcall : Calls Tryz.prog F #[RV, .pointer (some ⟨b, o + 1, none⟩)] W.drew fun e x1 => e = .returned (.tuple #[]) ∧ (True) ∧ P  x1)
    (Q : Exit → Act → World → Prop) (hPan : ∀ c (a : Act) w (d : Option Tmp) v, Q (.panic c) (a.put d v) w → Q (.panic c) a w) {u2 u3 u4 u5 u6 u7 u8 u9 u10 u11 u12 u13 u14 u15 u16 u17 u18 u19 u20 u21 u22 u23 u24 u25 u26 u27 u28 u29 u30 u31 u32 u33 u34 u35 u36 u37 u38 u39 u40 u41 : Value}
    (hQ : ∀  w1, P  w1 → Q .normal ⟨#[.iface HT HV, .pointer (some ⟨b, o, none⟩), u2, u3, u4, u5, u6, u7, u8, u9, u10, u11, u12, .iface HT HV, .pointer (some ⟨b, o, none⟩), .pointer (some ⟨b, o, none⟩), .pointer (some ⟨b, o, none⟩), .pointer (some ⟨b, o + 1, none⟩), .func (.method "cloister/snapshot.word") #[.iface HT HV] #[], .func (.method "cloister/snapshot.word") #[.iface HT HV] #[], .iface HT HV, .tuple #[], u22, u23, u24, u25, u26, u27, u28, u29, u30, u31, u32, u33, u34, u35, u36, u37, u38, u39, u40, u41], []⟩ w1) :
    Code.wp Tryz.prog (Code.region 1 ops57_1 true) Q ⟨#[.iface HT HV, .pointer (some ⟨b, o, none⟩), u2, u3, u4, u5, u6, u7, u8, u9, u10, u11, u12, u13, u14, u15, u16, u17, u18, u19, u20, u21, u22, u23, u24, u25, u26, u27, u28, u29, u30, u31, u32, u33, u34, u35, u36, u37, u38, u39, u40, u41], []⟩ W := by
  have hm := H.m
  have hn := H.n
  have hent := H.e
  clear H
  refine wp_region_held_drew (S := fun w' => True) hmx hS (fun HSX => ?_)
  clear hS
  obtain ⟨W0, hW0⟩ : ∃ W0, W0 = W.drew := ⟨_, rfl⟩
  rw [← hW0] at hcall ⊢
  clear hW0
  refine wpAnyH_take (i := 0) (oi := { dst := some 13, op := Op.move (Operand.tmp 0), type := 138, pos := "fields.go:63", after := #[], guard := none }) (v := .iface HT HV) rfl (by kernel_rfl) (by kernel_rfl) (by kernel_rfl) (fun _ _ _ h => hPan _ _ _ _ _ h) (Or.inl ⟨by rfl, ?_⟩) HSX ?_
  · intro wx d0
    skip
    go_simp
  simp only [Act.put, List.setIfInBounds_toArray, List.set_cons_zero, List.set_cons_succ]
  refine wpAnyH_take (i := 1) (oi := { dst := some 14, op := Op.move (Operand.tmp 1), type := 162, pos := "fields.go:63", after := #[], guard := none }) (v := .pointer (some ⟨b, o, none⟩)) rfl (by kernel_rfl) (by kernel_rfl) (by kernel_rfl) (fun _ _ _ h => hPan _ _ _ _ _ h) (Or.inl ⟨by rfl, ?_⟩) HSX ?_
  · intro wx d0
    skip
    go_simp
  simp only [Act.put, List.setIfInBounds_toArray, List.set_cons_zero, List.set_cons_succ]
  refine wpAnyH_take (i := 2) (oi := { dst := some 15, op := Op.nilCheck (Operand.tmp 14), type := 0, pos := "fields.go:63", after := #[{ on := 1, ground := Ground.data }], guard := none }) (v := .pointer (some ⟨b, o, none⟩)) rfl (by kernel_rfl) (by kernel_rfl) (by kernel_rfl) (fun _ _ _ h => hPan _ _ _ _ _ h) (Or.inl ⟨by rfl, ?_⟩) HSX ?_
  · intro wx d0
    skip
    go_simp
  simp only [Act.put, List.setIfInBounds_toArray, List.set_cons_zero, List.set_cons_succ]
  refine wpAnyH_take (i := 3) (oi := { dst := some 16, op := Op.fieldAddr 112 (Operand.tmp 15) 0, type := 0, pos := "fields.go:63", after := #[{ on := 2, ground := Ground.data }], guard := none }) (v := .pointer (some ⟨b, o, none⟩)) rfl (by kernel_rfl) (by kernel_rfl) (by kernel_rfl) (fun _ _ _ h => hPan _ _ _ _ _ h) (Or.inl ⟨by rfl, ?_⟩) HSX ?_
  · intro wx d0
    skip
    go_simp
  simp only [Act.put, List.setIfInBounds_toArray, List.set_cons_zero, List.set_cons_succ]
  refine wpAnyH_take (i := 4) (oi := { dst := some 17, op := Op.fieldAddr 107 (Operand.tmp 16) 1, type := 0, pos := "fields.go:63", after := #[{ on := 3, ground := Ground.data }], guard := none }) (v := .pointer (some ⟨b, o + 1, none⟩)) rfl (by kernel_rfl) (by kernel_rfl) (by kernel_rfl) (fun _ _ _ h => hPan _ _ _ _ _ h) (Or.inl ⟨by rfl, ?_⟩) HSX ?_
  · intro wx d0
    skip
    go_simp
  simp only [Act.put, List.setIfInBounds_toArray, List.set_cons_zero, List.set_cons_succ]
  refine wpAnyH_take (i := 5) (oi := { dst := some 18, op := Op.makeFunc (Fn.method "cloister/snapshot.word") #[Operand.tmp 13] #[], type := 245, pos := "fields.go:63", after := #[{ on := 0, ground := Ground.data }], guard := none }) (v := .func (.method "cloister/snapshot.word") #[.iface HT HV] #[]) rfl (by kernel_rfl) (by kernel_rfl) (by kernel_rfl) (fun _ _ _ h => hPan _ _ _ _ _ h) (Or.inl ⟨by rfl, ?_⟩) HSX ?_
  · intro wx d0
    skip
    go_simp
  simp only [Act.put, List.setIfInBounds_toArray, List.set_cons_zero, List.set_cons_succ]
  refine wpAnyH_take (i := 6) (oi := { dst := some 19, op := Op.nilCheck (Operand.tmp 18), type := 245, pos := "fields.go:63", after := #[{ on := 5, ground := Ground.data }], guard := none }) (v := .func (.method "cloister/snapshot.word") #[.iface HT HV] #[]) rfl (by kernel_rfl) (by kernel_rfl) (by kernel_rfl) (fun _ _ _ h => hPan _ _ _ _ _ h) (Or.inl ⟨by rfl, ?_⟩) HSX ?_
  · intro wx d0
    skip
    go_simp
  simp only [Act.put, List.setIfInBounds_toArray, List.set_cons_zero, List.set_cons_succ]
  refine wpAnyH_take (i := 7) (oi := { dst := some 20, op := Op.move (Operand.tmp 13), type := 138, pos := "fields.go:63", after := #[{ on := 0, ground := Ground.data }, { on := 5, ground := Ground.data }, { on := 6, ground := Ground.data }], guard := none }) (v := .iface HT HV) rfl (by kernel_rfl) (by kernel_rfl) (by kernel_rfl) (fun _ _ _ h => hPan _ _ _ _ _ h) (Or.inl ⟨by rfl, ?_⟩) HSX ?_
  · intro wx d0
    skip
    go_simp
  simp only [Act.put, List.setIfInBounds_toArray, List.set_cons_zero, List.set_cons_succ]
  refine wpAnyH_ready (rs := [8]) (by kernel_rfl) (by simp) ?_
  refine AllReadyH.cons (o := { dst := some 21, op := Op.call { callee := Callee.invoke (Operand.tmp 20) "cloister/snapshot.word", args := #[Operand.tmp 17], argTypes := #[246] }, type := 0, pos := "fields.go:63", after := #[{ on := 7, ground := Ground.data }, { on := 4, ground := Ground.data }], guard := none }) rfl (fun K hK => ?_) AllReadyH.nil
  rw [if_pos (by rfl)]
  go_simp
  go_at_fn F
  refine hcall.mono ?_
  rintro e w1 ⟨rfl, HS1, hP⟩
  go_simp
  refine hK.out _ _ HS1 (fun HSX => ?_)
  clear hK K
  refine wpAnyH_done (by kernel_rfl) ?_ _
  exact hQ  _ hP
def ops57_2 : Array Oper := #[{ dst := some 22, op := Op.move (Operand.tmp 0), type := 138, pos := "fields.go:64", after := #[], guard := none },
  { dst := some 23, op := Op.move (Operand.tmp 1), type := 162, pos := "fields.go:64", after := #[], guard := none },
  { dst := some 24, op := Op.nilCheck (Operand.tmp 23), type := 0, pos := "fields.go:64", after := #[{ on := 1, ground := Ground.data }], guard := none },
  { dst := some 25, op := Op.fieldAddr 112 (Operand.tmp 24) 1, type := 0, pos := "fields.go:64", after := #[{ on := 2, ground := Ground.data }], guard := none },
  { dst := some 26, op := Op.fieldAddr 110 (Operand.tmp 25) 0, type := 0, pos := "fields.go:64", after := #[{ on := 3, ground := Ground.data }], guard := none },
  { dst := some 27, op := Op.makeFunc (Fn.method "cloister/snapshot.word") #[Operand.tmp 22] #[], type := 245, pos := "fields.go:64", after := #[{ on := 0, ground := Ground.data }], guard := none },
  { dst := some 28, op := Op.nilCheck (Operand.tmp 27), type := 245, pos := "fields.go:64", after := #[{ on := 5, ground := Ground.data }], guard := none },
  { dst := some 29, op := Op.move (Operand.tmp 22), type := 138, pos := "fields.go:64", after := #[{ on := 0, ground := Ground.data }, { on := 5, ground := Ground.data }, { on := 6, ground := Ground.data }], guard := none },
  { dst := some 30, op := Op.call { callee := Callee.invoke (Operand.tmp 29) "cloister/snapshot.word", args := #[Operand.tmp 26], argTypes := #[246] }, type := 0, pos := "fields.go:64", after := #[{ on := 7, ground := Ground.data }, { on := 4, ground := Ground.data }], guard := none }]
set_option maxHeartbeats 8000000 in
set_option maxRecDepth 100000 in
theorem reg57_2 (W : World) (b o : Nat) (HT : TypeId) (HV : Value) (RV : Value) (F : Nat) (H : Mth HT HV "cloister/snapshot.word" F RV) (hS : (fun w' => True) W.drew) (P : World → Prop) (hcall : Calls Tryz.prog F #[RV, .pointer (some ⟨b, o + 2, none⟩)] W.drew fun e x1 => e = .returned (.tuple #[]) ∧ (True) ∧ P  x1)
    (Q : Exit → Act → World → Prop) (hPan : ∀ c (a : Act) w (d : Option Tmp) v, Q (.panic c) (a.put d v) w → Q (.panic c) a w) {u2 u3 u4 u5 u6 u7 u8 u9 u10 u11 u12 u13 u14 u15 u16 u17 u18 u19 u20 u21 u22 u23 u24 u25 u26 u27 u28 u29 u30 u31 u32 u33 u34 u35 u36 u37 u38 u39 u40 u41 : Value}
    (hQ : ∀  w1, P  w1 → Q .normal ⟨#[.iface HT HV, .pointer (some ⟨b, o, none⟩), u2, u3, u4, u5, u6, u7, u8, u9, u10, u11, u12, u13, u14, u15, u16, u17, u18, u19, u20, u21, .iface HT HV, .pointer (some ⟨b, o, none⟩), .pointer (some ⟨b, o, none⟩), .pointer (some ⟨b, o + 2, none⟩), .pointer (some ⟨b, o + 2, none⟩), .func (.method "cloister/snapshot.word") #[.iface HT HV] #[], .func (.method "cloister/snapshot.word") #[.iface HT HV] #[], .iface HT HV, .tuple #[], u31, u32, u33, u34, u35, u36, u37, u38, u39, u40, u41], []⟩ w1) :
    Code.wp Tryz.prog (Code.region 2 ops57_2 true) Q ⟨#[.iface HT HV, .pointer (some ⟨b, o, none⟩), u2, u3, u4, u5, u6, u7, u8, u9, u10, u11, u12, u13, u14, u15, u16, u17, u18, u19, u20, u21, u22, u23, u24, u25, u26, u27, u28, u29, u30, u31, u32, u33, u34, u35, u36, u37, u38, u39, u40, u41], []⟩ W := by
  have hm := H.m
  have hn := H.n
  have hent := H.e
  clear H
  refine wp_region_held_drew (S := fun w' => True) hmx hS (fun HSX => ?_)
  clear hS
  obtain ⟨W0, hW0⟩ : ∃ W0, W0 = W.drew := ⟨_, rfl⟩
  rw [← hW0] at hcall ⊢
  clear hW0
  refine wpAnyH_take (i := 0) (oi := { dst := some 22, op := Op.move (Operand.tmp 0), type := 138, pos := "fields.go:64", after := #[], guard := none }) (v := .iface HT HV) rfl (by kernel_rfl) (by kernel_rfl) (by kernel_rfl) (fun _ _ _ h => hPan _ _ _ _ _ h) (Or.inl ⟨by rfl, ?_⟩) HSX ?_
  · intro wx d0
    skip
    go_simp
  simp only [Act.put, List.setIfInBounds_toArray, List.set_cons_zero, List.set_cons_succ]
  refine wpAnyH_take (i := 1) (oi := { dst := some 23, op := Op.move (Operand.tmp 1), type := 162, pos := "fields.go:64", after := #[], guard := none }) (v := .pointer (some ⟨b, o, none⟩)) rfl (by kernel_rfl) (by kernel_rfl) (by kernel_rfl) (fun _ _ _ h => hPan _ _ _ _ _ h) (Or.inl ⟨by rfl, ?_⟩) HSX ?_
  · intro wx d0
    skip
    go_simp
  simp only [Act.put, List.setIfInBounds_toArray, List.set_cons_zero, List.set_cons_succ]
  refine wpAnyH_take (i := 2) (oi := { dst := some 24, op := Op.nilCheck (Operand.tmp 23), type := 0, pos := "fields.go:64", after := #[{ on := 1, ground := Ground.data }], guard := none }) (v := .pointer (some ⟨b, o, none⟩)) rfl (by kernel_rfl) (by kernel_rfl) (by kernel_rfl) (fun _ _ _ h => hPan _ _ _ _ _ h) (Or.inl ⟨by rfl, ?_⟩) HSX ?_
  · intro wx d0
    skip
    go_simp
  simp only [Act.put, List.setIfInBounds_toArray, List.set_cons_zero, List.set_cons_succ]
  refine wpAnyH_take (i := 3) (oi := { dst := some 25, op := Op.fieldAddr 112 (Operand.tmp 24) 1, type := 0, pos := "fields.go:64", after := #[{ on := 2, ground := Ground.data }], guard := none }) (v := .pointer (some ⟨b, o + 2, none⟩)) rfl (by kernel_rfl) (by kernel_rfl) (by kernel_rfl) (fun _ _ _ h => hPan _ _ _ _ _ h) (Or.inl ⟨by rfl, ?_⟩) HSX ?_
  · intro wx d0
    skip
    go_simp
  simp only [Act.put, List.setIfInBounds_toArray, List.set_cons_zero, List.set_cons_succ]
  refine wpAnyH_take (i := 4) (oi := { dst := some 26, op := Op.fieldAddr 110 (Operand.tmp 25) 0, type := 0, pos := "fields.go:64", after := #[{ on := 3, ground := Ground.data }], guard := none }) (v := .pointer (some ⟨b, o + 2, none⟩)) rfl (by kernel_rfl) (by kernel_rfl) (by kernel_rfl) (fun _ _ _ h => hPan _ _ _ _ _ h) (Or.inl ⟨by rfl, ?_⟩) HSX ?_
  · intro wx d0
    skip
    go_simp
  simp only [Act.put, List.setIfInBounds_toArray, List.set_cons_zero, List.set_cons_succ]
  refine wpAnyH_take (i := 5) (oi := { dst := some 27, op := Op.makeFunc (Fn.method "cloister/snapshot.word") #[Operand.tmp 22] #[], type := 245, pos := "fields.go:64", after := #[{ on := 0, ground := Ground.data }], guard := none }) (v := .func (.method "cloister/snapshot.word") #[.iface HT HV] #[]) rfl (by kernel_rfl) (by kernel_rfl) (by kernel_rfl) (fun _ _ _ h => hPan _ _ _ _ _ h) (Or.inl ⟨by rfl, ?_⟩) HSX ?_
  · intro wx d0
    skip
    go_simp
  simp only [Act.put, List.setIfInBounds_toArray, List.set_cons_zero, List.set_cons_succ]
  refine wpAnyH_take (i := 6) (oi := { dst := some 28, op := Op.nilCheck (Operand.tmp 27), type := 245, pos := "fields.go:64", after := #[{ on := 5, ground := Ground.data }], guard := none }) (v := .func (.method "cloister/snapshot.word") #[.iface HT HV] #[]) rfl (by kernel_rfl) (by kernel_rfl) (by kernel_rfl) (fun _ _ _ h => hPan _ _ _ _ _ h) (Or.inl ⟨by rfl, ?_⟩) HSX ?_
  · intro wx d0
    skip
    go_simp
  simp only [Act.put, List.setIfInBounds_toArray, List.set_cons_zero, List.set_cons_succ]
  refine wpAnyH_take (i := 7) (oi := { dst := some 29, op := Op.move (Operand.tmp 22), type := 138, pos := "fields.go:64", after := #[{ on := 0, ground := Ground.data }, { on := 5, ground := Ground.data }, { on := 6, ground := Ground.data }], guard := none }) (v := .iface HT HV) rfl (by kernel_rfl) (by kernel_rfl) (by kernel_rfl) (fun _ _ _ h => hPan _ _ _ _ _ h) (Or.inl ⟨by rfl, ?_⟩) HSX ?_
  · intro wx d0
    skip
    go_simp
  simp only [Act.put, List.setIfInBounds_toArray, List.set_cons_zero, List.set_cons_succ]
  refine wpAnyH_ready (rs := [8]) (by kernel_rfl) (by simp) ?_
  refine AllReadyH.cons (o := { dst := some 30, op := Op.call { callee := Callee.invoke (Operand.tmp 29) "cloister/snapshot.word", args := #[Operand.tmp 26], argTypes := #[246] }, type := 0, pos := "fields.go:64", after := #[{ on := 7, ground := Ground.data }, { on := 4, ground := Ground.data }], guard := none }) rfl (fun K hK => ?_) AllReadyH.nil
  rw [if_pos (by rfl)]
  go_simp
  go_at_fn F
  refine hcall.mono ?_
  rintro e w1 ⟨rfl, HS1, hP⟩
  go_simp
  refine hK.out _ _ HS1 (fun HSX => ?_)
  clear hK K
  refine wpAnyH_done (by kernel_rfl) ?_ _
  exact hQ  _ hP
def ops57_3 : Array Oper := #[{ dst := some 31, op := Op.move (Operand.tmp 0), type := 138, pos := "fields.go:65", after := #[], guard := none },
  { dst := some 32, op := Op.move (Operand.tmp 1), type := 162, pos := "fields.go:65", after := #[], guard := none },
  { dst := some 33, op := Op.nilCheck (Operand.tmp 32), type := 0, pos := "fields.go:65", after := #[{ on := 1, ground := Ground.data }], guard := none },
  { dst := some 34, op := Op.fieldAddr 112 (Operand.tmp 33) 1, type := 0, pos := "fields.go:65", after := #[{ on := 2, ground := Ground.data }], guard := none },
  { dst := some 35, op := Op.fieldAddr 110 (Operand.tmp 34) 1, type := 0, pos := "fields.go:65", after := #[{ on := 3, ground := Ground.data }], guard := none },
  { dst := some 36, op := Op.makeFunc (Fn.method "cloister/snapshot.perm") #[Operand.tmp 31] #[], type := 247, pos := "fields.go:65", after := #[{ on := 0, ground := Ground.data }], guard := none },
  { dst := some 37, op := Op.nilCheck (Operand.tmp 36), type := 247, pos := "fields.go:65", after := #[{ on := 5, ground := Ground.data }], guard := none },
  { dst := some 38, op := Op.move (Operand.tmp 31), type := 138, pos := "fields.go:65", after := #[{ on := 0, ground := Ground.data }, { on := 5, ground := Ground.data }, { on := 6, ground := Ground.data }], guard := none },
  { dst := some 39, op := Op.call { callee := Callee.invoke (Operand.tmp 38) "cloister/snapshot.perm", args := #[Operand.tmp 35], argTypes := #[248] }, type := 0, pos := "fields.go:65", after := #[{ on := 7, ground := Ground.data }, { on := 4, ground := Ground.data }], guard := none }]
set_option maxHeartbeats 8000000 in
set_option maxRecDepth 100000 in
theorem reg57_3 (W : World) (b o : Nat) (HT : TypeId) (HV : Value) (RV : Value) (F : Nat) (H : Mth HT HV "cloister/snapshot.perm" F RV) (hS : (fun w' => True) W.drew) (P : World → Prop) (hcall : Calls Tryz.prog F #[RV, .pointer (some ⟨b, o + 2 + 1, none⟩)] W.drew fun e x1 => e = .returned (.tuple #[]) ∧ (True) ∧ P  x1)
    (Q : Exit → Act → World → Prop) (hPan : ∀ c (a : Act) w (d : Option Tmp) v, Q (.panic c) (a.put d v) w → Q (.panic c) a w) {u2 u3 u4 u5 u6 u7 u8 u9 u10 u11 u12 u13 u14 u15 u16 u17 u18 u19 u20 u21 u22 u23 u24 u25 u26 u27 u28 u29 u30 u31 u32 u33 u34 u35 u36 u37 u38 u39 u40 u41 : Value}
    (hQ : ∀  w1, P  w1 → Q .normal ⟨#[.iface HT HV, .pointer (some ⟨b, o, none⟩), u2, u3, u4, u5, u6, u7, u8, u9, u10, u11, u12, u13, u14, u15, u16, u17, u18, u19, u20, u21, u22, u23, u24, u25, u26, u27, u28, u29, u30, .iface HT HV, .pointer (some ⟨b, o, none⟩), .pointer (some ⟨b, o, none⟩), .pointer (some ⟨b, o + 2, none⟩), .pointer (some ⟨b, o + 2 + 1, none⟩), .func (.method "cloister/snapshot.perm") #[.iface HT HV] #[], .func (.method "cloister/snapshot.perm") #[.iface HT HV] #[], .iface HT HV, .tuple #[], u40, u41], []⟩ w1) :
    Code.wp Tryz.prog (Code.region 3 ops57_3 true) Q ⟨#[.iface HT HV, .pointer (some ⟨b, o, none⟩), u2, u3, u4, u5, u6, u7, u8, u9, u10, u11, u12, u13, u14, u15, u16, u17, u18, u19, u20, u21, u22, u23, u24, u25, u26, u27, u28, u29, u30, u31, u32, u33, u34, u35, u36, u37, u38, u39, u40, u41], []⟩ W := by
  have hm := H.m
  have hn := H.n
  have hent := H.e
  clear H
  refine wp_region_held_drew (S := fun w' => True) hmx hS (fun HSX => ?_)
  clear hS
  obtain ⟨W0, hW0⟩ : ∃ W0, W0 = W.drew := ⟨_, rfl⟩
  rw [← hW0] at hcall ⊢
  clear hW0
  refine wpAnyH_take (i := 0) (oi := { dst := some 31, op := Op.move (Operand.tmp 0), type := 138, pos := "fields.go:65", after := #[], guard := none }) (v := .iface HT HV) rfl (by kernel_rfl) (by kernel_rfl) (by kernel_rfl) (fun _ _ _ h => hPan _ _ _ _ _ h) (Or.inl ⟨by rfl, ?_⟩) HSX ?_
  · intro wx d0
    skip
    go_simp
  simp only [Act.put, List.setIfInBounds_toArray, List.set_cons_zero, List.set_cons_succ]
  refine wpAnyH_take (i := 1) (oi := { dst := some 32, op := Op.move (Operand.tmp 1), type := 162, pos := "fields.go:65", after := #[], guard := none }) (v := .pointer (some ⟨b, o, none⟩)) rfl (by kernel_rfl) (by kernel_rfl) (by kernel_rfl) (fun _ _ _ h => hPan _ _ _ _ _ h) (Or.inl ⟨by rfl, ?_⟩) HSX ?_
  · intro wx d0
    skip
    go_simp
  simp only [Act.put, List.setIfInBounds_toArray, List.set_cons_zero, List.set_cons_succ]
  refine wpAnyH_take (i := 2) (oi := { dst := some 33, op := Op.nilCheck (Operand.tmp 32), type := 0, pos := "fields.go:65", after := #[{ on := 1, ground := Ground.data }], guard := none }) (v := .pointer (some ⟨b, o, none⟩)) rfl (by kernel_rfl) (by kernel_rfl) (by kernel_rfl) (fun _ _ _ h => hPan _ _ _ _ _ h) (Or.inl ⟨by rfl, ?_⟩) HSX ?_
  · intro wx d0
    skip
    go_simp
  simp only [Act.put, List.setIfInBounds_toArray, List.set_cons_zero, List.set_cons_succ]
  refine wpAnyH_take (i := 3) (oi := { dst := some 34, op := Op.fieldAddr 112 (Operand.tmp 33) 1, type := 0, pos := "fields.go:65", after := #[{ on := 2, ground := Ground.data }], guard := none }) (v := .pointer (some ⟨b, o + 2, none⟩)) rfl (by kernel_rfl) (by kernel_rfl) (by kernel_rfl) (fun _ _ _ h => hPan _ _ _ _ _ h) (Or.inl ⟨by rfl, ?_⟩) HSX ?_
  · intro wx d0
    skip
    go_simp
  simp only [Act.put, List.setIfInBounds_toArray, List.set_cons_zero, List.set_cons_succ]
  refine wpAnyH_take (i := 4) (oi := { dst := some 35, op := Op.fieldAddr 110 (Operand.tmp 34) 1, type := 0, pos := "fields.go:65", after := #[{ on := 3, ground := Ground.data }], guard := none }) (v := .pointer (some ⟨b, o + 2 + 1, none⟩)) rfl (by kernel_rfl) (by kernel_rfl) (by kernel_rfl) (fun _ _ _ h => hPan _ _ _ _ _ h) (Or.inl ⟨by rfl, ?_⟩) HSX ?_
  · intro wx d0
    skip
    go_simp
  simp only [Act.put, List.setIfInBounds_toArray, List.set_cons_zero, List.set_cons_succ]
  refine wpAnyH_take (i := 5) (oi := { dst := some 36, op := Op.makeFunc (Fn.method "cloister/snapshot.perm") #[Operand.tmp 31] #[], type := 247, pos := "fields.go:65", after := #[{ on := 0, ground := Ground.data }], guard := none }) (v := .func (.method "cloister/snapshot.perm") #[.iface HT HV] #[]) rfl (by kernel_rfl) (by kernel_rfl) (by kernel_rfl) (fun _ _ _ h => hPan _ _ _ _ _ h) (Or.inl ⟨by rfl, ?_⟩) HSX ?_
  · intro wx d0
    skip
    go_simp
  simp only [Act.put, List.setIfInBounds_toArray, List.set_cons_zero, List.set_cons_succ]
  refine wpAnyH_take (i := 6) (oi := { dst := some 37, op := Op.nilCheck (Operand.tmp 36), type := 247, pos := "fields.go:65", after := #[{ on := 5, ground := Ground.data }], guard := none }) (v := .func (.method "cloister/snapshot.perm") #[.iface HT HV] #[]) rfl (by kernel_rfl) (by kernel_rfl) (by kernel_rfl) (fun _ _ _ h => hPan _ _ _ _ _ h) (Or.inl ⟨by rfl, ?_⟩) HSX ?_
  · intro wx d0
    skip
    go_simp
  simp only [Act.put, List.setIfInBounds_toArray, List.set_cons_zero, List.set_cons_succ]
  refine wpAnyH_take (i := 7) (oi := { dst := some 38, op := Op.move (Operand.tmp 31), type := 138, pos := "fields.go:65", after := #[{ on := 0, ground := Ground.data }, { on := 5, ground := Ground.data }, { on := 6, ground := Ground.data }], guard := none }) (v := .iface HT HV) rfl (by kernel_rfl) (by kernel_rfl) (by kernel_rfl) (fun _ _ _ h => hPan _ _ _ _ _ h) (Or.inl ⟨by rfl, ?_⟩) HSX ?_
  · intro wx d0
    skip
    go_simp
  simp only [Act.put, List.setIfInBounds_toArray, List.set_cons_zero, List.set_cons_succ]
  refine wpAnyH_ready (rs := [8]) (by kernel_rfl) (by simp) ?_
  refine AllReadyH.cons (o := { dst := some 39, op := Op.call { callee := Callee.invoke (Operand.tmp 38) "cloister/snapshot.perm", args := #[Operand.tmp 35], argTypes := #[248] }, type := 0, pos := "fields.go:65", after := #[{ on := 7, ground := Ground.data }, { on := 4, ground := Ground.data }], guard := none }) rfl (fun K hK => ?_) AllReadyH.nil
  rw [if_pos (by rfl)]
  go_simp
  go_at_fn F
  refine hcall.mono ?_
  rintro e w1 ⟨rfl, HS1, hP⟩
  go_simp
  refine hK.out _ _ HS1 (fun HSX => ?_)
  clear hK K
  refine wpAnyH_done (by kernel_rfl) ?_ _
  exact hQ  _ hP
def ops67_0 : Array Oper := #[{ dst := some 4, op := Op.move (Operand.tmp 0), type := 138, pos := "fields.go:96", after := #[], guard := none },
  { dst := some 5, op := Op.move (Operand.tmp 1), type := 179, pos := "fields.go:96", after := #[], guard := none },
  { dst := some 6, op := Op.nilCheck (Operand.tmp 5), type := 0, pos := "fields.go:96", after := #[{ on := 1, ground := Ground.data }], guard := none },
  { dst := some 7, op := Op.fieldAddr 117 (Operand.tmp 6) 0, type := 0, pos := "fields.go:96", after := #[{ on := 2, ground := Ground.data }], guard := none },
  { dst := some 8, op := Op.makeFunc (Fn.method "cloister/snapshot.long") #[Operand.tmp 4] #[], type := 139, pos := "fields.go:96", after := #[{ on := 0, ground := Ground.data }], guard := none },
  { dst := some 9, op := Op.nilCheck (Operand.tmp 8), type := 139, pos := "fields.go:96", after := #[{ on := 4, ground := Ground.data }], guard := none },
  { dst := some 10, op := Op.move (Operand.tmp 4), type := 138, pos := "fields.go:96", after := #[{ on := 0, ground := Ground.data }, { on := 4, ground := Ground.data }, { on := 5, ground := Ground.data }], guard := none },
  { dst := some 11, op := Op.call { callee := Callee.invoke (Operand.tmp 10) "cloister/snapshot.long", args := #[Operand.tmp 7], argTypes := #[140] }, type := 0, pos := "fields.go:96", after := #[{ on := 6, ground := Ground.data }, { on := 3, ground := Ground.data }], guard := none }]
set_option maxHeartbeats 8000000 in
set_option maxRecDepth 100000 in
theorem reg67_0 (W : World) (b o : Nat) (HT : TypeId) (HV : Value) (RV : Value) (F : Nat) (H : Mth HT HV "cloister/snapshot.long" F RV) (hS : (fun w' => True) W.drew) (P : World → Prop) (hcall : Calls Tryz.prog F #[RV, .pointer (some ⟨b, o, none⟩)] W.drew fun e x1 => e = .returned (.tuple #[]) ∧ (True) ∧ P  x1)
    (Q : Exit → Act → World → Prop) (hPan : ∀ c (a : Act) w (d : Option Tmp) v, Q (.panic c) (a.put d v) w → Q (.panic c) a w) {u2 u3 u4 u5 u6 u7 u8 u9 u10 u11 u12 u13 u14 u15 u16 u17 u18 u19 u20 u21 : Value}
    (hQ : ∀  w1, P  w1 → Q .normal ⟨#[.iface HT HV, .pointer (some ⟨b, o, none⟩), u2, u3, .iface HT HV, .pointer (some ⟨b, o, none⟩), .pointer (some ⟨b, o, none⟩), .pointer (some ⟨b, o, none⟩), .func (.method "cloister/snapshot.long") #[.iface HT HV] #[], .func (.method "cloister/snapshot.long") #[.iface HT HV] #[], .iface HT HV, .tuple #[], u12, u13, u14, u15, u16, u17, u18, u19, u20, u21], []⟩ w1) :
    Code.wp Tryz.prog (Code.region 0 ops67_0 true) Q ⟨#[.iface HT HV, .pointer (some ⟨b, o, none⟩), u2, u3, u4, u5, u6, u7, u8, u9, u10, u11, u12, u13, u14, u15, u16, u17, u18, u19, u20, u21], []⟩ W := by
  have hm := H.m
  have hn := H.n
  have hent := H.e
  clear H
  refine wp_region_held_drew (S := fun w' => True) hmx hS (fun HSX => ?_)
  clear hS
  obtain ⟨W0, hW0⟩ : ∃ W0, W0 = W.drew := ⟨_, rfl⟩
  rw [← hW0] at hcall ⊢
  clear hW0
  refine wpAnyH_take (i := 0) (oi := { dst := some 4, op := Op.move (Operand.tmp 0), type := 138, pos := "fields.go:96", after := #[], guard := none }) (v := .iface HT HV) rfl (by kernel_rfl) (by kernel_rfl) (by kernel_rfl) (fun _ _ _ h => hPan _ _ _ _ _ h) (Or.inl ⟨by rfl, ?_⟩) HSX ?_
  · intro wx d0
    skip
    go_simp
  simp only [Act.put, List.setIfInBounds_toArray, List.set_cons_zero, List.set_cons_succ]
  refine wpAnyH_take (i := 1) (oi := { dst := some 5, op := Op.move (Operand.tmp 1), type := 179, pos := "fields.go:96", after := #[], guard := none }) (v := .pointer (some ⟨b, o, none⟩)) rfl (by kernel_rfl) (by kernel_rfl) (by kernel_rfl) (fun _ _ _ h => hPan _ _ _ _ _ h) (Or.inl ⟨by rfl, ?_⟩) HSX ?_
  · intro wx d0
    skip
    go_simp
  simp only [Act.put, List.setIfInBounds_toArray, List.set_cons_zero, List.set_cons_succ]
  refine wpAnyH_take (i := 2) (oi := { dst := some 6, op := Op.nilCheck (Operand.tmp 5), type := 0, pos := "fields.go:96", after := #[{ on := 1, ground := Ground.data }], guard := none }) (v := .pointer (some ⟨b, o, none⟩)) rfl (by kernel_rfl) (by kernel_rfl) (by kernel_rfl) (fun _ _ _ h => hPan _ _ _ _ _ h) (Or.inl ⟨by rfl, ?_⟩) HSX ?_
  · intro wx d0
    skip
    go_simp
  simp only [Act.put, List.setIfInBounds_toArray, List.set_cons_zero, List.set_cons_succ]
  refine wpAnyH_take (i := 3) (oi := { dst := some 7, op := Op.fieldAddr 117 (Operand.tmp 6) 0, type := 0, pos := "fields.go:96", after := #[{ on := 2, ground := Ground.data }], guard := none }) (v := .pointer (some ⟨b, o, none⟩)) rfl (by kernel_rfl) (by kernel_rfl) (by kernel_rfl) (fun _ _ _ h => hPan _ _ _ _ _ h) (Or.inl ⟨by rfl, ?_⟩) HSX ?_
  · intro wx d0
    skip
    go_simp
  simp only [Act.put, List.setIfInBounds_toArray, List.set_cons_zero, List.set_cons_succ]
  refine wpAnyH_take (i := 4) (oi := { dst := some 8, op := Op.makeFunc (Fn.method "cloister/snapshot.long") #[Operand.tmp 4] #[], type := 139, pos := "fields.go:96", after := #[{ on := 0, ground := Ground.data }], guard := none }) (v := .func (.method "cloister/snapshot.long") #[.iface HT HV] #[]) rfl (by kernel_rfl) (by kernel_rfl) (by kernel_rfl) (fun _ _ _ h => hPan _ _ _ _ _ h) (Or.inl ⟨by rfl, ?_⟩) HSX ?_
  · intro wx d0
    skip
    go_simp
  simp only [Act.put, List.setIfInBounds_toArray, List.set_cons_zero, List.set_cons_succ]
  refine wpAnyH_take (i := 5) (oi := { dst := some 9, op := Op.nilCheck (Operand.tmp 8), type := 139, pos := "fields.go:96", after := #[{ on := 4, ground := Ground.data }], guard := none }) (v := .func (.method "cloister/snapshot.long") #[.iface HT HV] #[]) rfl (by kernel_rfl) (by kernel_rfl) (by kernel_rfl) (fun _ _ _ h => hPan _ _ _ _ _ h) (Or.inl ⟨by rfl, ?_⟩) HSX ?_
  · intro wx d0
    skip
    go_simp
  simp only [Act.put, List.setIfInBounds_toArray, List.set_cons_zero, List.set_cons_succ]
  refine wpAnyH_take (i := 6) (oi := { dst := some 10, op := Op.move (Operand.tmp 4), type := 138, pos := "fields.go:96", after := #[{ on := 0, ground := Ground.data }, { on := 4, ground := Ground.data }, { on := 5, ground := Ground.data }], guard := none }) (v := .iface HT HV) rfl (by kernel_rfl) (by kernel_rfl) (by kernel_rfl) (fun _ _ _ h => hPan _ _ _ _ _ h) (Or.inl ⟨by rfl, ?_⟩) HSX ?_
  · intro wx d0
    skip
    go_simp
  simp only [Act.put, List.setIfInBounds_toArray, List.set_cons_zero, List.set_cons_succ]
  refine wpAnyH_ready (rs := [7]) (by kernel_rfl) (by simp) ?_
  refine AllReadyH.cons (o := { dst := some 11, op := Op.call { callee := Callee.invoke (Operand.tmp 10) "cloister/snapshot.long", args := #[Operand.tmp 7], argTypes := #[140] }, type := 0, pos := "fields.go:96", after := #[{ on := 6, ground := Ground.data }, { on := 3, ground := Ground.data }], guard := none }) rfl (fun K hK => ?_) AllReadyH.nil
  rw [if_pos (by rfl)]
  go_simp
  go_at_fn F
  refine hcall.mono ?_
  rintro e w1 ⟨rfl, HS1, hP⟩
  go_simp
  refine hK.out _ _ HS1 (fun HSX => ?_)
  clear hK K
  refine wpAnyH_done (by kernel_rfl) ?_ _
  exact hQ  _ hP
def ops67_1 : Array Oper := #[{ dst := some 12, op := Op.move (Operand.tmp 0), type := 138, pos := "fields.go:97", after := #[], guard := none },
  { dst := some 13, op := Op.move (Operand.tmp 1), type := 179, pos := "fields.go:97", after := #[], guard := none },
  { dst := some 14, op := Op.nilCheck (Operand.tmp 13), type := 0, pos := "fields.go:97", after := #[{ on := 1, ground := Ground.data }], guard := none },
  { dst := some 15, op := Op.fieldAddr 117 (Operand.tmp 14) 1, type := 0, pos := "fields.go:97", after := #[{ on := 2, ground := Ground.data }], guard := none },
  { dst := some 16, op := Op.makeFunc (Fn.method "cloister/snapshot.byteOf") #[Operand.tmp 12] #[], type := 243, pos := "fields.go:97", after := #[{ on := 0, ground := Ground.data }], guard := none },
  { dst := some 17, op := Op.nilCheck (Operand.tmp 16), type := 243, pos := "fields.go:97", after := #[{ on := 4, ground := Ground.data }], guard := none },
  { dst := some 18, op := Op.move (Operand.tmp 12), type := 138, pos := "fields.go:97", after := #[{ on := 0, ground := Ground.data }, { on := 4, ground := Ground.data }, { on := 5, ground := Ground.data }], guard := none },
  { dst := some 19, op := Op.call { callee := Callee.invoke (Operand.tmp 18) "cloister/snapshot.byteOf", args := #[Operand.tmp 15], argTypes := #[244] }, type := 0, pos := "fields.go:97", after := #[{ on := 6, ground := Ground.data }, { on := 3, ground := Ground.data }], guard := none }]
set_option maxHeartbeats 8000000 in
set_option maxRecDepth 100000 in
theorem reg67_1 (W : World) (b o : Nat) (HT : TypeId) (HV : Value) (RV : Value) (F : Nat) (H : Mth HT HV "cloister/snapshot.byteOf" F RV) (hS : (fun w' => True) W.drew) (P : World → Prop) (hcall : Calls Tryz.prog F #[RV, .pointer (some ⟨b, o + 1, none⟩)] W.drew fun e x1 => e = .returned (.tuple #[]) ∧ (True) ∧ P  x1)
    (Q : Exit → Act → World → Prop) (hPan : ∀ c (a : Act) w (d : Option Tmp) v, Q (.panic c) (a.put d v) w → Q (.panic c) a w) {u2 u3 u4 u5 u6 u7 u8 u9 u10 u11 u12 u13 u14 u15 u16 u17 u18 u19 u20 u21 : Value}
    (hQ : ∀  w1, P  w1 → Q .normal ⟨#[.iface HT HV, .pointer (some ⟨b, o, none⟩), u2, u3, u4, u5, u6, u7, u8, u9, u10, u11, .iface HT HV, .pointer (some ⟨b, o, none⟩), .pointer (some ⟨b, o, none⟩), .pointer (some ⟨b, o + 1, none⟩), .func (.method "cloister/snapshot.byteOf") #[.iface HT HV] #[], .func (.method "cloister/snapshot.byteOf") #[.iface HT HV] #[], .iface HT HV, .tuple #[], u20, u21], []⟩ w1) :
    Code.wp Tryz.prog (Code.region 1 ops67_1 true) Q ⟨#[.iface HT HV, .pointer (some ⟨b, o, none⟩), u2, u3, u4, u5, u6, u7, u8, u9, u10, u11, u12, u13, u14, u15, u16, u17, u18, u19, u20, u21], []⟩ W := by
  have hm := H.m
  have hn := H.n
  have hent := H.e
  clear H
  refine wp_region_held_drew (S := fun w' => True) hmx hS (fun HSX => ?_)
  clear hS
  obtain ⟨W0, hW0⟩ : ∃ W0, W0 = W.drew := ⟨_, rfl⟩
  rw [← hW0] at hcall ⊢
  clear hW0
  refine wpAnyH_take (i := 0) (oi := { dst := some 12, op := Op.move (Operand.tmp 0), type := 138, pos := "fields.go:97", after := #[], guard := none }) (v := .iface HT HV) rfl (by kernel_rfl) (by kernel_rfl) (by kernel_rfl) (fun _ _ _ h => hPan _ _ _ _ _ h) (Or.inl ⟨by rfl, ?_⟩) HSX ?_
  · intro wx d0
    skip
    go_simp
  simp only [Act.put, List.setIfInBounds_toArray, List.set_cons_zero, List.set_cons_succ]
  refine wpAnyH_take (i := 1) (oi := { dst := some 13, op := Op.move (Operand.tmp 1), type := 179, pos := "fields.go:97", after := #[], guard := none }) (v := .pointer (some ⟨b, o, none⟩)) rfl (by kernel_rfl) (by kernel_rfl) (by kernel_rfl) (fun _ _ _ h => hPan _ _ _ _ _ h) (Or.inl ⟨by rfl, ?_⟩) HSX ?_
  · intro wx d0
    skip
    go_simp
  simp only [Act.put, List.setIfInBounds_toArray, List.set_cons_zero, List.set_cons_succ]
  refine wpAnyH_take (i := 2) (oi := { dst := some 14, op := Op.nilCheck (Operand.tmp 13), type := 0, pos := "fields.go:97", after := #[{ on := 1, ground := Ground.data }], guard := none }) (v := .pointer (some ⟨b, o, none⟩)) rfl (by kernel_rfl) (by kernel_rfl) (by kernel_rfl) (fun _ _ _ h => hPan _ _ _ _ _ h) (Or.inl ⟨by rfl, ?_⟩) HSX ?_
  · intro wx d0
    skip
    go_simp
  simp only [Act.put, List.setIfInBounds_toArray, List.set_cons_zero, List.set_cons_succ]
  refine wpAnyH_take (i := 3) (oi := { dst := some 15, op := Op.fieldAddr 117 (Operand.tmp 14) 1, type := 0, pos := "fields.go:97", after := #[{ on := 2, ground := Ground.data }], guard := none }) (v := .pointer (some ⟨b, o + 1, none⟩)) rfl (by kernel_rfl) (by kernel_rfl) (by kernel_rfl) (fun _ _ _ h => hPan _ _ _ _ _ h) (Or.inl ⟨by rfl, ?_⟩) HSX ?_
  · intro wx d0
    skip
    go_simp
  simp only [Act.put, List.setIfInBounds_toArray, List.set_cons_zero, List.set_cons_succ]
  refine wpAnyH_take (i := 4) (oi := { dst := some 16, op := Op.makeFunc (Fn.method "cloister/snapshot.byteOf") #[Operand.tmp 12] #[], type := 243, pos := "fields.go:97", after := #[{ on := 0, ground := Ground.data }], guard := none }) (v := .func (.method "cloister/snapshot.byteOf") #[.iface HT HV] #[]) rfl (by kernel_rfl) (by kernel_rfl) (by kernel_rfl) (fun _ _ _ h => hPan _ _ _ _ _ h) (Or.inl ⟨by rfl, ?_⟩) HSX ?_
  · intro wx d0
    skip
    go_simp
  simp only [Act.put, List.setIfInBounds_toArray, List.set_cons_zero, List.set_cons_succ]
  refine wpAnyH_take (i := 5) (oi := { dst := some 17, op := Op.nilCheck (Operand.tmp 16), type := 243, pos := "fields.go:97", after := #[{ on := 4, ground := Ground.data }], guard := none }) (v := .func (.method "cloister/snapshot.byteOf") #[.iface HT HV] #[]) rfl (by kernel_rfl) (by kernel_rfl) (by kernel_rfl) (fun _ _ _ h => hPan _ _ _ _ _ h) (Or.inl ⟨by rfl, ?_⟩) HSX ?_
  · intro wx d0
    skip
    go_simp
  simp only [Act.put, List.setIfInBounds_toArray, List.set_cons_zero, List.set_cons_succ]
  refine wpAnyH_take (i := 6) (oi := { dst := some 18, op := Op.move (Operand.tmp 12), type := 138, pos := "fields.go:97", after := #[{ on := 0, ground := Ground.data }, { on := 4, ground := Ground.data }, { on := 5, ground := Ground.data }], guard := none }) (v := .iface HT HV) rfl (by kernel_rfl) (by kernel_rfl) (by kernel_rfl) (fun _ _ _ h => hPan _ _ _ _ _ h) (Or.inl ⟨by rfl, ?_⟩) HSX ?_
  · intro wx d0
    skip
    go_simp
  simp only [Act.put, List.setIfInBounds_toArray, List.set_cons_zero, List.set_cons_succ]
  refine wpAnyH_ready (rs := [7]) (by kernel_rfl) (by simp) ?_
  refine AllReadyH.cons (o := { dst := some 19, op := Op.call { callee := Callee.invoke (Operand.tmp 18) "cloister/snapshot.byteOf", args := #[Operand.tmp 15], argTypes := #[244] }, type := 0, pos := "fields.go:97", after := #[{ on := 6, ground := Ground.data }, { on := 3, ground := Ground.data }], guard := none }) rfl (fun K hK => ?_) AllReadyH.nil
  rw [if_pos (by rfl)]
  go_simp
  go_at_fn F
  refine hcall.mono ?_
  rintro e w1 ⟨rfl, HS1, hP⟩
  go_simp
  refine hK.out _ _ HS1 (fun HSX => ?_)
  clear hK K
  refine wpAnyH_done (by kernel_rfl) ?_ _
  exact hQ  _ hP
def ops107_0 : Array Oper := #[{ dst := some 4, op := Op.move (Operand.tmp 0), type := 138, pos := "fields.go:102", after := #[], guard := none },
  { dst := some 5, op := Op.move (Operand.tmp 1), type := 250, pos := "fields.go:102", after := #[], guard := none },
  { dst := some 6, op := Op.nilCheck (Operand.tmp 5), type := 0, pos := "fields.go:102", after := #[{ on := 1, ground := Ground.data }], guard := none },
  { dst := some 7, op := Op.fieldAddr 64 (Operand.tmp 6) 1, type := 0, pos := "fields.go:102", after := #[{ on := 2, ground := Ground.data }], guard := none },
  { dst := some 8, op := Op.makeFunc (Fn.method "cloister/snapshot.long") #[Operand.tmp 4] #[], type := 139, pos := "fields.go:102", after := #[{ on := 0, ground := Ground.data }], guard := none },
  { dst := some 9, op := Op.nilCheck (Operand.tmp 8), type := 139, pos := "fields.go:102", after := #[{ on := 4, ground := Ground.data }], guard := none },
  { dst := some 10, op := Op.move (Operand.tmp 4), type := 138, pos := "fields.go:102", after := #[{ on := 0, ground := Ground.data }, { on := 4, ground := Ground.data }, { on := 5, ground := Ground.data }], guard := none },
  { dst := some 11, op := Op.call { callee := Callee.invoke (Operand.tmp 10) "cloister/snapshot.long", args := #[Operand.tmp 7], argTypes := #[140] }, type := 0, pos := "fields.go:102", after := #[{ on := 6, ground := Ground.data }, { on := 3, ground := Ground.data }], guard := none }]
set_option maxHeartbeats 8000000 in
set_option maxRecDepth 100000 in
theorem reg107_0 (W : World) (b o : Nat) (HT : TypeId) (HV : Value) (RV : Value) (F : Nat) (H : Mth HT HV "cloister/snapshot.long" F RV) (hS : (fun w' => True) W.drew) (P : World → Prop) (hcall : Calls Tryz.prog F #[RV, .pointer (some ⟨b, o + 1, none⟩)] W.drew fun e x1 => e = .returned (.tuple #[]) ∧ (True) ∧ P  x1)
    (Q : Exit → Act → World → Prop) (hPan : ∀ c (a : Act) w (d : Option Tmp) v, Q (.panic c) (a.put d v) w → Q (.panic c) a w) {u2 u3 u4 u5 u6 u7 u8 u9 u10 u11 u12 u13 u14 u15 u16 u17 u18 u19 : Value}
    (hQ : ∀  w1, P  w1 → Q .normal ⟨#[.iface HT HV, .pointer (some ⟨b, o, none⟩), u2, u3, .iface HT HV, .pointer (some ⟨b, o, none⟩), .pointer (some ⟨b, o, none⟩), .pointer (some ⟨b, o + 1, none⟩), .func (.method "cloister/snapshot.long") #[.iface HT HV] #[], .func (.method "cloister/snapshot.long") #[.iface HT HV] #[], .iface HT HV, .tuple #[], u12, u13, u14, u15, u16, u17, u18, u19], []⟩ w1) :
    Code.wp Tryz.prog (Code.region 0 ops107_0 true) Q ⟨#[.iface HT HV, .pointer (some ⟨b, o, none⟩), u2, u3, u4, u5, u6, u7, u8, u9, u10, u11, u12, u13, u14, u15, u16, u17, u18, u19], []⟩ W := by
  have hm := H.m
  have hn := H.n
  have hent := H.e
  clear H
  refine wp_region_held_drew (S := fun w' => True) hmx hS (fun HSX => ?_)
  clear hS
  obtain ⟨W0, hW0⟩ : ∃ W0, W0 = W.drew := ⟨_, rfl⟩
  rw [← hW0] at hcall ⊢
  clear hW0
  refine wpAnyH_take (i := 0) (oi := { dst := some 4, op := Op.move (Operand.tmp 0), type := 138, pos := "fields.go:102", after := #[], guard := none }) (v := .iface HT HV) rfl (by kernel_rfl) (by kernel_rfl) (by kernel_rfl) (fun _ _ _ h => hPan _ _ _ _ _ h) (Or.inl ⟨by rfl, ?_⟩) HSX ?_
  · intro wx d0
    skip
    go_simp
  simp only [Act.put, List.setIfInBounds_toArray, List.set_cons_zero, List.set_cons_succ]
  refine wpAnyH_take (i := 1) (oi := { dst := some 5, op := Op.move (Operand.tmp 1), type := 250, pos := "fields.go:102", after := #[], guard := none }) (v := .pointer (some ⟨b, o, none⟩)) rfl (by kernel_rfl) (by kernel_rfl) (by kernel_rfl) (fun _ _ _ h => hPan _ _ _ _ _ h) (Or.inl ⟨by rfl, ?_⟩) HSX ?_
  · intro wx d0
    skip
    go_simp
  simp only [Act.put, List.setIfInBounds_toArray, List.set_cons_zero, List.set_cons_succ]
  refine wpAnyH_take (i := 2) (oi := { dst := some 6, op := Op.nilCheck (Operand.tmp 5), type := 0, pos := "fields.go:102", after := #[{ on := 1, ground := Ground.data }], guard := none }) (v := .pointer (some ⟨b, o, none⟩)) rfl (by kernel_rfl) (by kernel_rfl) (by kernel_rfl) (fun _ _ _ h => hPan _ _ _ _ _ h) (Or.inl ⟨by rfl, ?_⟩) HSX ?_
  · intro wx d0
    skip
    go_simp
  simp only [Act.put, List.setIfInBounds_toArray, List.set_cons_zero, List.set_cons_succ]
  refine wpAnyH_take (i := 3) (oi := { dst := some 7, op := Op.fieldAddr 64 (Operand.tmp 6) 1, type := 0, pos := "fields.go:102", after := #[{ on := 2, ground := Ground.data }], guard := none }) (v := .pointer (some ⟨b, o + 1, none⟩)) rfl (by kernel_rfl) (by kernel_rfl) (by kernel_rfl) (fun _ _ _ h => hPan _ _ _ _ _ h) (Or.inl ⟨by rfl, ?_⟩) HSX ?_
  · intro wx d0
    skip
    go_simp
  simp only [Act.put, List.setIfInBounds_toArray, List.set_cons_zero, List.set_cons_succ]
  refine wpAnyH_take (i := 4) (oi := { dst := some 8, op := Op.makeFunc (Fn.method "cloister/snapshot.long") #[Operand.tmp 4] #[], type := 139, pos := "fields.go:102", after := #[{ on := 0, ground := Ground.data }], guard := none }) (v := .func (.method "cloister/snapshot.long") #[.iface HT HV] #[]) rfl (by kernel_rfl) (by kernel_rfl) (by kernel_rfl) (fun _ _ _ h => hPan _ _ _ _ _ h) (Or.inl ⟨by rfl, ?_⟩) HSX ?_
  · intro wx d0
    skip
    go_simp
  simp only [Act.put, List.setIfInBounds_toArray, List.set_cons_zero, List.set_cons_succ]
  refine wpAnyH_take (i := 5) (oi := { dst := some 9, op := Op.nilCheck (Operand.tmp 8), type := 139, pos := "fields.go:102", after := #[{ on := 4, ground := Ground.data }], guard := none }) (v := .func (.method "cloister/snapshot.long") #[.iface HT HV] #[]) rfl (by kernel_rfl) (by kernel_rfl) (by kernel_rfl) (fun _ _ _ h => hPan _ _ _ _ _ h) (Or.inl ⟨by rfl, ?_⟩) HSX ?_
  · intro wx d0
    skip
    go_simp
  simp only [Act.put, List.setIfInBounds_toArray, List.set_cons_zero, List.set_cons_succ]
  refine wpAnyH_take (i := 6) (oi := { dst := some 10, op := Op.move (Operand.tmp 4), type := 138, pos := "fields.go:102", after := #[{ on := 0, ground := Ground.data }, { on := 4, ground := Ground.data }, { on := 5, ground := Ground.data }], guard := none }) (v := .iface HT HV) rfl (by kernel_rfl) (by kernel_rfl) (by kernel_rfl) (fun _ _ _ h => hPan _ _ _ _ _ h) (Or.inl ⟨by rfl, ?_⟩) HSX ?_
  · intro wx d0
    skip
    go_simp
  simp only [Act.put, List.setIfInBounds_toArray, List.set_cons_zero, List.set_cons_succ]
  refine wpAnyH_ready (rs := [7]) (by kernel_rfl) (by simp) ?_
  refine AllReadyH.cons (o := { dst := some 11, op := Op.call { callee := Callee.invoke (Operand.tmp 10) "cloister/snapshot.long", args := #[Operand.tmp 7], argTypes := #[140] }, type := 0, pos := "fields.go:102", after := #[{ on := 6, ground := Ground.data }, { on := 3, ground := Ground.data }], guard := none }) rfl (fun K hK => ?_) AllReadyH.nil
  rw [if_pos (by rfl)]
  go_simp
  go_at_fn F
  refine hcall.mono ?_
  rintro e w1 ⟨rfl, HS1, hP⟩
  go_simp
  refine hK.out _ _ HS1 (fun HSX => ?_)
  clear hK K
  refine wpAnyH_done (by kernel_rfl) ?_ _
  exact hQ  _ hP
def ops107_1 : Array Oper := #[{ dst := some 12, op := Op.move (Operand.tmp 0), type := 138, pos := "fields.go:103", after := #[], guard := none },
  { dst := some 13, op := Op.move (Operand.tmp 1), type := 250, pos := "fields.go:103", after := #[], guard := none },
  { dst := some 14, op := Op.nilCheck (Operand.tmp 13), type := 0, pos := "fields.go:103", after := #[{ on := 1, ground := Ground.data }], guard := none },
  { dst := some 15, op := Op.fieldAddr 64 (Operand.tmp 14) 0, type := 0, pos := "fields.go:103", after := #[{ on := 2, ground := Ground.data }], guard := none },
  { dst := some 16, op := Op.makeFunc (Fn.method "cloister/snapshot.bytes") #[Operand.tmp 12] #[], type := 143, pos := "fields.go:103", after := #[{ on := 0, ground := Ground.data }], guard := none },
  { dst := some 17, op := Op.nilCheck (Operand.tmp 16), type := 143, pos := "fields.go:103", after := #[{ on := 4, ground := Ground.data }], guard := none },
  { dst := some 18, op := Op.move (Operand.tmp 12), type := 138, pos := "fields.go:103", after := #[{ on := 0, ground := Ground.data }, { on := 4, ground := Ground.data }, { on := 5, ground := Ground.data }], guard := none },
  { dst := some 19, op := Op.call { callee := Callee.invoke (Operand.tmp 18) "cloister/snapshot.bytes", args := #[Operand.tmp 15], argTypes := #[144] }, type := 0, pos := "fields.go:103", after := #[{ on := 6, ground := Ground.data }, { on := 3, ground := Ground.data }], guard := none }]
set_option maxHeartbeats 8000000 in
set_option maxRecDepth 100000 in
theorem reg107_1 (W : World) (b o : Nat) (HT : TypeId) (HV : Value) (RV : Value) (F : Nat) (H : Mth HT HV "cloister/snapshot.bytes" F RV) (hS : (fun w' => True) W.drew) (P : World → Prop) (hcall : Calls Tryz.prog F #[RV, .pointer (some ⟨b, o, none⟩)] W.drew fun e x1 => e = .returned (.tuple #[]) ∧ (True) ∧ P  x1)
    (Q : Exit → Act → World → Prop) (hPan : ∀ c (a : Act) w (d : Option Tmp) v, Q (.panic c) (a.put d v) w → Q (.panic c) a w) {u2 u3 u4 u5 u6 u7 u8 u9 u10 u11 u12 u13 u14 u15 u16 u17 u18 u19 : Value}
    (hQ : ∀  w1, P  w1 → Q .normal ⟨#[.iface HT HV, .pointer (some ⟨b, o, none⟩), u2, u3, u4, u5, u6, u7, u8, u9, u10, u11, .iface HT HV, .pointer (some ⟨b, o, none⟩), .pointer (some ⟨b, o, none⟩), .pointer (some ⟨b, o, none⟩), .func (.method "cloister/snapshot.bytes") #[.iface HT HV] #[], .func (.method "cloister/snapshot.bytes") #[.iface HT HV] #[], .iface HT HV, .tuple #[]], []⟩ w1) :
    Code.wp Tryz.prog (Code.region 1 ops107_1 true) Q ⟨#[.iface HT HV, .pointer (some ⟨b, o, none⟩), u2, u3, u4, u5, u6, u7, u8, u9, u10, u11, u12, u13, u14, u15, u16, u17, u18, u19], []⟩ W := by
  have hm := H.m
  have hn := H.n
  have hent := H.e
  clear H
  refine wp_region_held_drew (S := fun w' => True) hmx hS (fun HSX => ?_)
  clear hS
  obtain ⟨W0, hW0⟩ : ∃ W0, W0 = W.drew := ⟨_, rfl⟩
  rw [← hW0] at hcall ⊢
  clear hW0
  refine wpAnyH_take (i := 0) (oi := { dst := some 12, op := Op.move (Operand.tmp 0), type := 138, pos := "fields.go:103", after := #[], guard := none }) (v := .iface HT HV) rfl (by kernel_rfl) (by kernel_rfl) (by kernel_rfl) (fun _ _ _ h => hPan _ _ _ _ _ h) (Or.inl ⟨by rfl, ?_⟩) HSX ?_
  · intro wx d0
    skip
    go_simp
  simp only [Act.put, List.setIfInBounds_toArray, List.set_cons_zero, List.set_cons_succ]
  refine wpAnyH_take (i := 1) (oi := { dst := some 13, op := Op.move (Operand.tmp 1), type := 250, pos := "fields.go:103", after := #[], guard := none }) (v := .pointer (some ⟨b, o, none⟩)) rfl (by kernel_rfl) (by kernel_rfl) (by kernel_rfl) (fun _ _ _ h => hPan _ _ _ _ _ h) (Or.inl ⟨by rfl, ?_⟩) HSX ?_
  · intro wx d0
    skip
    go_simp
  simp only [Act.put, List.setIfInBounds_toArray, List.set_cons_zero, List.set_cons_succ]
  refine wpAnyH_take (i := 2) (oi := { dst := some 14, op := Op.nilCheck (Operand.tmp 13), type := 0, pos := "fields.go:103", after := #[{ on := 1, ground := Ground.data }], guard := none }) (v := .pointer (some ⟨b, o, none⟩)) rfl (by kernel_rfl) (by kernel_rfl) (by kernel_rfl) (fun _ _ _ h => hPan _ _ _ _ _ h) (Or.inl ⟨by rfl, ?_⟩) HSX ?_
  · intro wx d0
    skip
    go_simp
  simp only [Act.put, List.setIfInBounds_toArray, List.set_cons_zero, List.set_cons_succ]
  refine wpAnyH_take (i := 3) (oi := { dst := some 15, op := Op.fieldAddr 64 (Operand.tmp 14) 0, type := 0, pos := "fields.go:103", after := #[{ on := 2, ground := Ground.data }], guard := none }) (v := .pointer (some ⟨b, o, none⟩)) rfl (by kernel_rfl) (by kernel_rfl) (by kernel_rfl) (fun _ _ _ h => hPan _ _ _ _ _ h) (Or.inl ⟨by rfl, ?_⟩) HSX ?_
  · intro wx d0
    skip
    go_simp
  simp only [Act.put, List.setIfInBounds_toArray, List.set_cons_zero, List.set_cons_succ]
  refine wpAnyH_take (i := 4) (oi := { dst := some 16, op := Op.makeFunc (Fn.method "cloister/snapshot.bytes") #[Operand.tmp 12] #[], type := 143, pos := "fields.go:103", after := #[{ on := 0, ground := Ground.data }], guard := none }) (v := .func (.method "cloister/snapshot.bytes") #[.iface HT HV] #[]) rfl (by kernel_rfl) (by kernel_rfl) (by kernel_rfl) (fun _ _ _ h => hPan _ _ _ _ _ h) (Or.inl ⟨by rfl, ?_⟩) HSX ?_
  · intro wx d0
    skip
    go_simp
  simp only [Act.put, List.setIfInBounds_toArray, List.set_cons_zero, List.set_cons_succ]
  refine wpAnyH_take (i := 5) (oi := { dst := some 17, op := Op.nilCheck (Operand.tmp 16), type := 143, pos := "fields.go:103", after := #[{ on := 4, ground := Ground.data }], guard := none }) (v := .func (.method "cloister/snapshot.bytes") #[.iface HT HV] #[]) rfl (by kernel_rfl) (by kernel_rfl) (by kernel_rfl) (fun _ _ _ h => hPan _ _ _ _ _ h) (Or.inl ⟨by rfl, ?_⟩) HSX ?_
  · intro wx d0
    skip
    go_simp
  simp only [Act.put, List.setIfInBounds_toArray, List.set_cons_zero, List.set_cons_succ]
  refine wpAnyH_take (i := 6) (oi := { dst := some 18, op := Op.move (Operand.tmp 12), type := 138, pos := "fields.go:103", after := #[{ on := 0, ground := Ground.data }, { on := 4, ground := Ground.data }, { on := 5, ground := Ground.data }], guard := none }) (v := .iface HT HV) rfl (by kernel_rfl) (by kernel_rfl) (by kernel_rfl) (fun _ _ _ h => hPan _ _ _ _ _ h) (Or.inl ⟨by rfl, ?_⟩) HSX ?_
  · intro wx d0
    skip
    go_simp
  simp only [Act.put, List.setIfInBounds_toArray, List.set_cons_zero, List.set_cons_succ]
  refine wpAnyH_ready (rs := [7]) (by kernel_rfl) (by simp) ?_
  refine AllReadyH.cons (o := { dst := some 19, op := Op.call { callee := Callee.invoke (Operand.tmp 18) "cloister/snapshot.bytes", args := #[Operand.tmp 15], argTypes := #[144] }, type := 0, pos := "fields.go:103", after := #[{ on := 6, ground := Ground.data }, { on := 3, ground := Ground.data }], guard := none }) rfl (fun K hK => ?_) AllReadyH.nil
  rw [if_pos (by rfl)]
  go_simp
  go_at_fn F
  refine hcall.mono ?_
  rintro e w1 ⟨rfl, HS1, hP⟩
  go_simp
  refine hK.out _ _ HS1 (fun HSX => ?_)
  clear hK K
  refine wpAnyH_done (by kernel_rfl) ?_ _
  exact hQ  _ hP
end Go.Proofs.YtkggkkoblpdopaaGreat
