import Derived.Test.YtknlpjcdemijgaaGreatXa
namespace Go.Proofs.YtknlpjcdemijgaaGreat
open Go.ChangeShapes Go.WideShapes Go.ChangeAt Go.RowKit
set_option linter.unusedVariables false
def ops64_1 : Array Oper := #[⟨some 4, Op.load 138 (.tmp 2), 138, "fields.go:44", #[], none⟩,
 ⟨some 5, Op.move (.tmp 1), 113, "fields.go:44", #[], none⟩,
 ⟨some 6, Op.nilCheck (.tmp 5), 0, "fields.go:44", #[gd' 1], none⟩,
 ⟨some 7, Op.fieldAddr 89 (.tmp 6) 0, 0, "fields.go:44", #[gd' 2], none⟩,
 ⟨some 8, Op.makeFunc (Fn.method "cloister/config.name") #[Operand.tmp 4] #[], 174, "fields.go:44", #[gd' 0], none⟩,
 ⟨some 9, Op.nilCheck (.tmp 8), 174, "fields.go:44", #[gd' 4], none⟩,
 ⟨some 10, Op.move (.tmp 4), 138, "fields.go:44", #[gd' 0, gd' 4, gd' 5], none⟩,
 ⟨some 11, Op.call { callee := Callee.invoke (.tmp 10) "cloister/config.name", args := #[Operand.tmp 7], argTypes := #[175] }, 0, "fields.go:44", #[gd' 6, gd' 3], none⟩]
set_option maxHeartbeats 8000000 in
set_option maxRecDepth 100000 in
theorem reg64_1 (W : World) (HB b o : Nat) (HT : TypeId) (HV : Value) (RV : Value) (F : Nat) (H : Mth HT HV "cloister/config.name" F RV) (hS : (fun w' => w'.cell? ⟨HB, 0, none⟩ = some (.iface HT HV)) W.drew) (P : World → Prop) (hcall : Calls Tryz.prog F #[RV, .pointer (some ⟨b, o, none⟩)] W.drew fun e x1 => e = .returned (.tuple #[]) ∧ (x1.cell? ⟨HB, 0, none⟩ = some (.iface HT HV)) ∧ P  x1)
  (Q : Exit → Act → World → Prop) (hPan : ∀ c (a : Act) w (d : Option Tmp) v, Q (.panic c) (a.put d v) w → Q (.panic c) a w) {u0 u3 u4 u5 u6 u7 u8 u9 u10 u11 u12 u13 u14 u15 u16 u17 u18 u19 u20 u21 u22 u23 u24 u25 u26 u27 u28 u29 u30 u31 u32 u33 u34 u35 u36 u37 u38 u39 u40 u41 u42 u43 u44 u45 u46 u47 u48 u49 : Value}
  (hQ : ∀  w1, P  w1 → Q .normal ⟨#[u0, .pointer (some ⟨b, o, none⟩), .pointer (some ⟨HB, 0, none⟩), u3, .iface HT HV, .pointer (some ⟨b, o, none⟩), .pointer (some ⟨b, o, none⟩), .pointer (some ⟨b, o, none⟩), .func (.method "cloister/config.name") #[.iface HT HV] #[], .func (.method "cloister/config.name") #[.iface HT HV] #[], .iface HT HV, .tuple #[], u12,u13,u14,u15,u16,u17,u18,u19,u20,u21,u22,u23,u24,u25,u26,u27,u28,u29,u30,u31,u32,u33,u34,u35,u36,u37,u38,u39,u40,u41,u42,u43,u44,u45,u46,u47,u48,u49], []⟩ w1) :
  Code.wp Tryz.prog (Code.region 1 ops64_1 true) Q ⟨#[u0, .pointer (some ⟨b, o, none⟩), .pointer (some ⟨HB, 0, none⟩), u3,u4,u5,u6,u7,u8,u9,u10,u11,u12,u13,u14,u15,u16,u17,u18,u19,u20,u21,u22,u23,u24,u25,u26,u27,u28,u29,u30,u31,u32,u33,u34,u35,u36,u37,u38,u39,u40,u41,u42,u43,u44,u45,u46,u47,u48,u49], []⟩ W := by
 have hm := H.m
 have hn := H.n
 have hent := H.e
 clear H
 refine wp_region_held_drew (S := fun w' => w'.cell? ⟨HB, 0, none⟩ = some (.iface HT HV)) hmx hS (fun HSX => ?_)
 clear hS
 obtain ⟨W0, hW0⟩ : ∃ W0,W0 = W.drew := ⟨_, rfl⟩
 rw [← hW0] at HSX hcall ⊢
 clear hW0
 refine tk hPan (i := 0) (oi := ⟨some 4, Op.load 138 (.tmp 2), 138, "fields.go:44", #[], none⟩) (v := .iface HT HV) rfl (by kernel_rfl) (.inl ⟨by rfl, ?_⟩) HSX ?_
 ·intro wx d0
  have s1 := d0
  go_simp
 simp only [Act.put, sl0', sl1', sl2']
 refine tk hPan (i := 1) (oi := ⟨some 5, Op.move (.tmp 1), 113, "fields.go:44", #[], none⟩) (v := .pointer (some ⟨b, o, none⟩)) rfl (by kernel_rfl) (.inl ⟨by rfl, ?_⟩) HSX ?_
 ·intro wx d0
  have s1 := d0
  go_simp
 simp only [Act.put, sl0', sl1', sl2']
 refine tk hPan (i := 2) (oi := ⟨some 6, Op.nilCheck (.tmp 5), 0, "fields.go:44", #[gd' 1], none⟩) (v := .pointer (some ⟨b, o, none⟩)) rfl (by kernel_rfl) (.inl ⟨by rfl, ?_⟩) HSX ?_
 ·intro wx d0
  have s1 := d0
  go_simp
 simp only [Act.put, sl0', sl1', sl2']
 refine tk hPan (i := 3) (oi := ⟨some 7, Op.fieldAddr 89 (.tmp 6) 0, 0, "fields.go:44", #[gd' 2], none⟩) (v := .pointer (some ⟨b, o, none⟩)) rfl (by kernel_rfl) (.inl ⟨by rfl, ?_⟩) HSX ?_
 ·intro wx d0
  have s1 := d0
  go_simp
 simp only [Act.put, sl0', sl1', sl2']
 refine tk hPan (i := 4) (oi := ⟨some 8, Op.makeFunc (Fn.method "cloister/config.name") #[Operand.tmp 4] #[], 174, "fields.go:44", #[gd' 0], none⟩) (v := .func (.method "cloister/config.name") #[.iface HT HV] #[]) rfl (by kernel_rfl) (.inl ⟨by rfl, ?_⟩) HSX ?_
 ·intro wx d0
  have s1 := d0
  go_simp
 simp only [Act.put, sl0', sl1', sl2']
 refine tk hPan (i := 5) (oi := ⟨some 9, Op.nilCheck (.tmp 8), 174, "fields.go:44", #[gd' 4], none⟩) (v := .func (.method "cloister/config.name") #[.iface HT HV] #[]) rfl (by kernel_rfl) (.inl ⟨by rfl, ?_⟩) HSX ?_
 ·intro wx d0
  have s1 := d0
  go_simp
 simp only [Act.put, sl0', sl1', sl2']
 refine tk hPan (i := 6) (oi := ⟨some 10, Op.move (.tmp 4), 138, "fields.go:44", #[gd' 0, gd' 4, gd' 5], none⟩) (v := .iface HT HV) rfl (by kernel_rfl) (.inl ⟨by rfl, ?_⟩) HSX ?_
 ·intro wx d0
  have s1 := d0
  go_simp
 simp only [Act.put, sl0', sl1', sl2']
 refine wpAnyH_ready (rs := [7]) (by kernel_rfl) (by simp) ?_
 refine AllReadyH.cons (o := ⟨some 11, Op.call { callee := Callee.invoke (.tmp 10) "cloister/config.name", args := #[Operand.tmp 7], argTypes := #[175] }, 0, "fields.go:44", #[gd' 6, gd' 3], none⟩) rfl (fun K hK => ?_) AllReadyH.nil
 rw [if_pos (by rfl)]
 go_simp
 go_at_fn F
 refine hcall.mono ?_
 rintro e w1 ⟨rfl, HS1, hP⟩
 go_simp
 refine hK.out _ _ HS1 (fun HSX => ?_)
 clear hK K
 refine wpAnyH_done (by kernel_rfl) ?_ _
 exact hQ  _ hP
def ops64_3 : Array Oper := #[⟨some 14, Op.load 138 (.tmp 2), 138, "fields.go:46", #[], none⟩,
 ⟨some 15, Op.move (.tmp 1), 113, "fields.go:46", #[], none⟩,
 ⟨some 16, Op.nilCheck (.tmp 15), 0, "fields.go:46", #[gd' 1], none⟩,
 ⟨some 17, Op.fieldAddr 89 (.tmp 16) 1, 0, "fields.go:46", #[gd' 2], none⟩,
 ⟨some 18, Op.makeFunc (Fn.method "cloister/config.word") #[Operand.tmp 14] #[], 170, "fields.go:46", #[gd' 0], none⟩,
 ⟨some 19, Op.nilCheck (.tmp 18), 170, "fields.go:46", #[gd' 4], none⟩,
 ⟨some 20, Op.move (.tmp 14), 138, "fields.go:46", #[gd' 0, gd' 4, gd' 5], none⟩,
 ⟨some 21, Op.call { callee := Callee.invoke (.tmp 20) "cloister/config.word", args := #[Operand.tmp 17], argTypes := #[171] }, 0, "fields.go:46", #[gd' 6, gd' 3], none⟩]
set_option maxHeartbeats 8000000 in
set_option maxRecDepth 100000 in
theorem reg64_3 (W : World) (HB b o : Nat) (HT : TypeId) (HV : Value) (RV : Value) (F : Nat) (H : Mth HT HV "cloister/config.word" F RV) (hS : (fun w' => w'.cell? ⟨HB, 0, none⟩ = some (.iface HT HV)) W.drew) (P : World → Prop) (hcall : Calls Tryz.prog F #[RV, .pointer (some ⟨b, o + 1, none⟩)] W.drew fun e x1 => e = .returned (.tuple #[]) ∧ (x1.cell? ⟨HB, 0, none⟩ = some (.iface HT HV)) ∧ P  x1)
  (Q : Exit → Act → World → Prop) (hPan : ∀ c (a : Act) w (d : Option Tmp) v, Q (.panic c) (a.put d v) w → Q (.panic c) a w) {u0 u3 u4 u5 u6 u7 u8 u9 u10 u11 u12 u13 u14 u15 u16 u17 u18 u19 u20 u21 u22 u23 u24 u25 u26 u27 u28 u29 u30 u31 u32 u33 u34 u35 u36 u37 u38 u39 u40 u41 u42 u43 u44 u45 u46 u47 u48 u49 : Value}
  (hQ : ∀  w1, P  w1 → Q .normal ⟨#[u0, .pointer (some ⟨b, o, none⟩), .pointer (some ⟨HB, 0, none⟩), u3,u4,u5,u6,u7,u8,u9,u10,u11,u12,u13, .iface HT HV, .pointer (some ⟨b, o, none⟩), .pointer (some ⟨b, o, none⟩), .pointer (some ⟨b, o + 1, none⟩), .func (.method "cloister/config.word") #[.iface HT HV] #[], .func (.method "cloister/config.word") #[.iface HT HV] #[], .iface HT HV, .tuple #[], u22,u23,u24,u25,u26,u27,u28,u29,u30,u31,u32,u33,u34,u35,u36,u37,u38,u39,u40,u41,u42,u43,u44,u45,u46,u47,u48,u49], []⟩ w1) :
  Code.wp Tryz.prog (Code.region 3 ops64_3 true) Q ⟨#[u0, .pointer (some ⟨b, o, none⟩), .pointer (some ⟨HB, 0, none⟩), u3,u4,u5,u6,u7,u8,u9,u10,u11,u12,u13,u14,u15,u16,u17,u18,u19,u20,u21,u22,u23,u24,u25,u26,u27,u28,u29,u30,u31,u32,u33,u34,u35,u36,u37,u38,u39,u40,u41,u42,u43,u44,u45,u46,u47,u48,u49], []⟩ W := by
 have hm := H.m
 have hn := H.n
 have hent := H.e
 clear H
 refine wp_region_held_drew (S := fun w' => w'.cell? ⟨HB, 0, none⟩ = some (.iface HT HV)) hmx hS (fun HSX => ?_)
 clear hS
 obtain ⟨W0, hW0⟩ : ∃ W0,W0 = W.drew := ⟨_, rfl⟩
 rw [← hW0] at HSX hcall ⊢
 clear hW0
 refine tk hPan (i := 0) (oi := ⟨some 14, Op.load 138 (.tmp 2), 138, "fields.go:46", #[], none⟩) (v := .iface HT HV) rfl (by kernel_rfl) (.inl ⟨by rfl, ?_⟩) HSX ?_
 ·intro wx d0
  have s1 := d0
  go_simp
 simp only [Act.put, sl0', sl1', sl2']
 refine tk hPan (i := 1) (oi := ⟨some 15, Op.move (.tmp 1), 113, "fields.go:46", #[], none⟩) (v := .pointer (some ⟨b, o, none⟩)) rfl (by kernel_rfl) (.inl ⟨by rfl, ?_⟩) HSX ?_
 ·intro wx d0
  have s1 := d0
  go_simp
 simp only [Act.put, sl0', sl1', sl2']
 refine tk hPan (i := 2) (oi := ⟨some 16, Op.nilCheck (.tmp 15), 0, "fields.go:46", #[gd' 1], none⟩) (v := .pointer (some ⟨b, o, none⟩)) rfl (by kernel_rfl) (.inl ⟨by rfl, ?_⟩) HSX ?_
 ·intro wx d0
  have s1 := d0
  go_simp
 simp only [Act.put, sl0', sl1', sl2']
 refine tk hPan (i := 3) (oi := ⟨some 17, Op.fieldAddr 89 (.tmp 16) 1, 0, "fields.go:46", #[gd' 2], none⟩) (v := .pointer (some ⟨b, o + 1, none⟩)) rfl (by kernel_rfl) (.inl ⟨by rfl, ?_⟩) HSX ?_
 ·intro wx d0
  have s1 := d0
  go_simp
 simp only [Act.put, sl0', sl1', sl2']
 refine tk hPan (i := 4) (oi := ⟨some 18, Op.makeFunc (Fn.method "cloister/config.word") #[Operand.tmp 14] #[], 170, "fields.go:46", #[gd' 0], none⟩) (v := .func (.method "cloister/config.word") #[.iface HT HV] #[]) rfl (by kernel_rfl) (.inl ⟨by rfl, ?_⟩) HSX ?_
 ·intro wx d0
  have s1 := d0
  go_simp
 simp only [Act.put, sl0', sl1', sl2']
 refine tk hPan (i := 5) (oi := ⟨some 19, Op.nilCheck (.tmp 18), 170, "fields.go:46", #[gd' 4], none⟩) (v := .func (.method "cloister/config.word") #[.iface HT HV] #[]) rfl (by kernel_rfl) (.inl ⟨by rfl, ?_⟩) HSX ?_
 ·intro wx d0
  have s1 := d0
  go_simp
 simp only [Act.put, sl0', sl1', sl2']
 refine tk hPan (i := 6) (oi := ⟨some 20, Op.move (.tmp 14), 138, "fields.go:46", #[gd' 0, gd' 4, gd' 5], none⟩) (v := .iface HT HV) rfl (by kernel_rfl) (.inl ⟨by rfl, ?_⟩) HSX ?_
 ·intro wx d0
  have s1 := d0
  go_simp
 simp only [Act.put, sl0', sl1', sl2']
 refine wpAnyH_ready (rs := [7]) (by kernel_rfl) (by simp) ?_
 refine AllReadyH.cons (o := ⟨some 21, Op.call { callee := Callee.invoke (.tmp 20) "cloister/config.word", args := #[Operand.tmp 17], argTypes := #[171] }, 0, "fields.go:46", #[gd' 6, gd' 3], none⟩) rfl (fun K hK => ?_) AllReadyH.nil
 rw [if_pos (by rfl)]
 go_simp
 go_at_fn F
 refine hcall.mono ?_
 rintro e w1 ⟨rfl, HS1, hP⟩
 go_simp
 refine hK.out _ _ HS1 (fun HSX => ?_)
 clear hK K
 refine wpAnyH_done (by kernel_rfl) ?_ _
 exact hQ  _ hP
def ops64_4 : Array Oper := #[⟨some 22, Op.load 138 (.tmp 2), 138, "fields.go:47", #[], none⟩,
 ⟨some 23, Op.move (.tmp 1), 113, "fields.go:47", #[], none⟩,
 ⟨some 24, Op.nilCheck (.tmp 23), 0, "fields.go:47", #[gd' 1], none⟩,
 ⟨some 25, Op.fieldAddr 89 (.tmp 24) 2, 0, "fields.go:47", #[gd' 2], none⟩,
 ⟨some 26, Op.call { callee := Callee.value (Operand.func 91), args := #[Operand.tmp 22, Operand.tmp 25], argTypes := #[138, 115] }, 0, "fields.go:47", #[gd' 0, gd' 3], none⟩]
set_option maxHeartbeats 8000000 in
set_option maxRecDepth 100000 in
theorem reg64_4 (W : World) (HB b o : Nat) (HT : TypeId) (HV : Value)  (hS : (fun w' => w'.cell? ⟨HB, 0, none⟩ = some (.iface HT HV)) W.drew) (P : World → Prop) (hcall : Calls Tryz.prog 91 #[.iface HT HV, .pointer (some ⟨b, o + 2, none⟩)] W.drew fun e x1 => e = .returned (.tuple #[]) ∧ (x1.cell? ⟨HB, 0, none⟩ = some (.iface HT HV)) ∧ P  x1)
  (Q : Exit → Act → World → Prop) (hPan : ∀ c (a : Act) w (d : Option Tmp) v, Q (.panic c) (a.put d v) w → Q (.panic c) a w) {u0 u3 u4 u5 u6 u7 u8 u9 u10 u11 u12 u13 u14 u15 u16 u17 u18 u19 u20 u21 u22 u23 u24 u25 u26 u27 u28 u29 u30 u31 u32 u33 u34 u35 u36 u37 u38 u39 u40 u41 u42 u43 u44 u45 u46 u47 u48 u49 : Value}
  (hQ : ∀  w1, P  w1 → Q .normal ⟨#[u0, .pointer (some ⟨b, o, none⟩), .pointer (some ⟨HB, 0, none⟩), u3,u4,u5,u6,u7,u8,u9,u10,u11,u12,u13,u14,u15,u16,u17,u18,u19,u20,u21, .iface HT HV, .pointer (some ⟨b, o, none⟩), .pointer (some ⟨b, o, none⟩), .pointer (some ⟨b, o + 2, none⟩), .tuple #[], u27,u28,u29,u30,u31,u32,u33,u34,u35,u36,u37,u38,u39,u40,u41,u42,u43,u44,u45,u46,u47,u48,u49], []⟩ w1) :
  Code.wp Tryz.prog (Code.region 4 ops64_4 true) Q ⟨#[u0, .pointer (some ⟨b, o, none⟩), .pointer (some ⟨HB, 0, none⟩), u3,u4,u5,u6,u7,u8,u9,u10,u11,u12,u13,u14,u15,u16,u17,u18,u19,u20,u21,u22,u23,u24,u25,u26,u27,u28,u29,u30,u31,u32,u33,u34,u35,u36,u37,u38,u39,u40,u41,u42,u43,u44,u45,u46,u47,u48,u49], []⟩ W := by
 refine wp_region_held_drew (S := fun w' => w'.cell? ⟨HB, 0, none⟩ = some (.iface HT HV)) hmx hS (fun HSX => ?_)
 clear hS
 obtain ⟨W0, hW0⟩ : ∃ W0,W0 = W.drew := ⟨_, rfl⟩
 rw [← hW0] at HSX hcall ⊢
 clear hW0
 refine tk hPan (i := 0) (oi := ⟨some 22, Op.load 138 (.tmp 2), 138, "fields.go:47", #[], none⟩) (v := .iface HT HV) rfl (by kernel_rfl) (.inl ⟨by rfl, ?_⟩) HSX ?_
 ·intro wx d0
  have s1 := d0
  go_simp
 simp only [Act.put, sl0', sl1', sl2']
 refine tk hPan (i := 1) (oi := ⟨some 23, Op.move (.tmp 1), 113, "fields.go:47", #[], none⟩) (v := .pointer (some ⟨b, o, none⟩)) rfl (by kernel_rfl) (.inl ⟨by rfl, ?_⟩) HSX ?_
 ·intro wx d0
  have s1 := d0
  go_simp
 simp only [Act.put, sl0', sl1', sl2']
 refine tk hPan (i := 2) (oi := ⟨some 24, Op.nilCheck (.tmp 23), 0, "fields.go:47", #[gd' 1], none⟩) (v := .pointer (some ⟨b, o, none⟩)) rfl (by kernel_rfl) (.inl ⟨by rfl, ?_⟩) HSX ?_
 ·intro wx d0
  have s1 := d0
  go_simp
 simp only [Act.put, sl0', sl1', sl2']
 refine tk hPan (i := 3) (oi := ⟨some 25, Op.fieldAddr 89 (.tmp 24) 2, 0, "fields.go:47", #[gd' 2], none⟩) (v := .pointer (some ⟨b, o + 2, none⟩)) rfl (by kernel_rfl) (.inl ⟨by rfl, ?_⟩) HSX ?_
 ·intro wx d0
  have s1 := d0
  go_simp
 simp only [Act.put, sl0', sl1', sl2']
 refine wpAnyH_ready (rs := [4]) (by kernel_rfl) (by simp) ?_
 refine AllReadyH.cons (o := ⟨some 26, Op.call { callee := Callee.value (Operand.func 91), args := #[Operand.tmp 22, Operand.tmp 25], argTypes := #[138, 115] }, 0, "fields.go:47", #[gd' 0, gd' 3], none⟩) rfl (fun K hK => ?_) AllReadyH.nil
 rw [if_pos (by rfl)]
 go_simp
 go_at_call 91
 refine hcall.mono ?_
 rintro e w1 ⟨rfl, HS1, hP⟩
 go_simp
 refine hK.out _ _ HS1 (fun HSX => ?_)
 clear hK K
 refine wpAnyH_done (by kernel_rfl) ?_ _
 exact hQ  _ hP
def ops64_5 : Array Oper := #[⟨some 27, Op.load 138 (.tmp 2), 138, "fields.go:48", #[], none⟩,
 ⟨some 28, Op.move (.tmp 1), 113, "fields.go:48", #[], none⟩,
 ⟨some 29, Op.nilCheck (.tmp 28), 0, "fields.go:48", #[gd' 1], none⟩,
 ⟨some 30, Op.fieldAddr 89 (.tmp 29) 3, 0, "fields.go:48", #[gd' 2], none⟩,
 ⟨some 31, Op.call { callee := Callee.value (Operand.func 92), args := #[Operand.tmp 27, Operand.tmp 30], argTypes := #[138, 117] }, 0, "fields.go:48", #[gd' 0, gd' 3], none⟩]
set_option maxHeartbeats 8000000 in
set_option maxRecDepth 100000 in
theorem reg64_5 (W : World) (HB b o : Nat) (HT : TypeId) (HV : Value)  (hS : (fun w' => w'.cell? ⟨HB, 0, none⟩ = some (.iface HT HV)) W.drew) (P : World → Prop) (hcall : Calls Tryz.prog 92 #[.iface HT HV, .pointer (some ⟨b, o + 3, none⟩)] W.drew fun e x1 => e = .returned (.tuple #[]) ∧ (x1.cell? ⟨HB, 0, none⟩ = some (.iface HT HV)) ∧ P  x1)
  (Q : Exit → Act → World → Prop) (hPan : ∀ c (a : Act) w (d : Option Tmp) v, Q (.panic c) (a.put d v) w → Q (.panic c) a w) {u0 u3 u4 u5 u6 u7 u8 u9 u10 u11 u12 u13 u14 u15 u16 u17 u18 u19 u20 u21 u22 u23 u24 u25 u26 u27 u28 u29 u30 u31 u32 u33 u34 u35 u36 u37 u38 u39 u40 u41 u42 u43 u44 u45 u46 u47 u48 u49 : Value}
  (hQ : ∀  w1, P  w1 → Q .normal ⟨#[u0, .pointer (some ⟨b, o, none⟩), .pointer (some ⟨HB, 0, none⟩), u3,u4,u5,u6,u7,u8,u9,u10,u11,u12,u13,u14,u15,u16,u17,u18,u19,u20,u21,u22,u23,u24,u25,u26, .iface HT HV, .pointer (some ⟨b, o, none⟩), .pointer (some ⟨b, o, none⟩), .pointer (some ⟨b, o + 3, none⟩), .tuple #[], u32,u33,u34,u35,u36,u37,u38,u39,u40,u41,u42,u43,u44,u45,u46,u47,u48,u49], []⟩ w1) :
  Code.wp Tryz.prog (Code.region 5 ops64_5 true) Q ⟨#[u0, .pointer (some ⟨b, o, none⟩), .pointer (some ⟨HB, 0, none⟩), u3,u4,u5,u6,u7,u8,u9,u10,u11,u12,u13,u14,u15,u16,u17,u18,u19,u20,u21,u22,u23,u24,u25,u26,u27,u28,u29,u30,u31,u32,u33,u34,u35,u36,u37,u38,u39,u40,u41,u42,u43,u44,u45,u46,u47,u48,u49], []⟩ W := by
 refine wp_region_held_drew (S := fun w' => w'.cell? ⟨HB, 0, none⟩ = some (.iface HT HV)) hmx hS (fun HSX => ?_)
 clear hS
 obtain ⟨W0, hW0⟩ : ∃ W0,W0 = W.drew := ⟨_, rfl⟩
 rw [← hW0] at HSX hcall ⊢
 clear hW0
 refine tk hPan (i := 0) (oi := ⟨some 27, Op.load 138 (.tmp 2), 138, "fields.go:48", #[], none⟩) (v := .iface HT HV) rfl (by kernel_rfl) (.inl ⟨by rfl, ?_⟩) HSX ?_
 ·intro wx d0
  have s1 := d0
  go_simp
 simp only [Act.put, sl0', sl1', sl2']
 refine tk hPan (i := 1) (oi := ⟨some 28, Op.move (.tmp 1), 113, "fields.go:48", #[], none⟩) (v := .pointer (some ⟨b, o, none⟩)) rfl (by kernel_rfl) (.inl ⟨by rfl, ?_⟩) HSX ?_
 ·intro wx d0
  have s1 := d0
  go_simp
 simp only [Act.put, sl0', sl1', sl2']
 refine tk hPan (i := 2) (oi := ⟨some 29, Op.nilCheck (.tmp 28), 0, "fields.go:48", #[gd' 1], none⟩) (v := .pointer (some ⟨b, o, none⟩)) rfl (by kernel_rfl) (.inl ⟨by rfl, ?_⟩) HSX ?_
 ·intro wx d0
  have s1 := d0
  go_simp
 simp only [Act.put, sl0', sl1', sl2']
 refine tk hPan (i := 3) (oi := ⟨some 30, Op.fieldAddr 89 (.tmp 29) 3, 0, "fields.go:48", #[gd' 2], none⟩) (v := .pointer (some ⟨b, o + 3, none⟩)) rfl (by kernel_rfl) (.inl ⟨by rfl, ?_⟩) HSX ?_
 ·intro wx d0
  have s1 := d0
  go_simp
 simp only [Act.put, sl0', sl1', sl2']
 refine wpAnyH_ready (rs := [4]) (by kernel_rfl) (by simp) ?_
 refine AllReadyH.cons (o := ⟨some 31, Op.call { callee := Callee.value (Operand.func 92), args := #[Operand.tmp 27, Operand.tmp 30], argTypes := #[138, 117] }, 0, "fields.go:48", #[gd' 0, gd' 3], none⟩) rfl (fun K hK => ?_) AllReadyH.nil
 rw [if_pos (by rfl)]
 go_simp
 go_at_call 92
 refine hcall.mono ?_
 rintro e w1 ⟨rfl, HS1, hP⟩
 go_simp
 refine hK.out _ _ HS1 (fun HSX => ?_)
 clear hK K
 refine wpAnyH_done (by kernel_rfl) ?_ _
 exact hQ  _ hP
def ops64_8 : Array Oper := #[⟨some 40, Op.move (.tmp 1), 113, "fields.go:51", #[], none⟩,
 ⟨some 41, Op.nilCheck (.tmp 40), 0, "fields.go:51", #[gd' 0], none⟩,
 ⟨some 42, Op.fieldAddr 89 (.tmp 41) 3, 0, "fields.go:51", #[gd' 1], none⟩,
 ⟨some 43, Op.load 52 (.tmp 42), 52, "fields.go:51", #[gd' 2], none⟩,
 ⟨some 44, Op.load 138 (.tmp 2), 138, "fields.go:51", #[], none⟩,
 ⟨some 45, Op.nilCheck (.tmp 44), 138, "fields.go:51", #[gd' 4], none⟩,
 ⟨some 46, Op.makeFunc (Fn.method "cloister/config.byteOf") #[Operand.tmp 45] #[], 168, "fields.go:51", #[gd' 5], none⟩,
 ⟨some 47, Op.call { callee := Callee.value (Operand.func 96), args := #[Operand.tmp 43, Operand.tmp 46], argTypes := #[52, 168] }, 0, "fields.go:51", #[gd' 3, gd' 6], none⟩]
set_option maxHeartbeats 8000000 in
set_option maxRecDepth 100000 in
theorem reg64_8 (W : World) (HB b o : Nat) (HT : TypeId) (HV : Value) (la : Option Addr) (ln lc : Nat) (RV : Value) (F : Nat) (H : Mth HT HV "cloister/config.byteOf" F RV) (hS : (fun w' => w'.cell? ⟨b, o + 3, none⟩ = some (.slice la ln lc) ∧ w'.cell? ⟨HB, 0, none⟩ = some (.iface HT HV)) W.drew) (P : World → Prop) (hcall : Calls Tryz.prog 96 #[.slice la ln lc, .func (.method "cloister/config.byteOf") #[.iface HT HV] #[]] W.drew fun e x1 => e = .returned (.tuple #[]) ∧ (x1.cell? ⟨b, o + 3, none⟩ = some (.slice la ln lc) ∧ x1.cell? ⟨HB, 0, none⟩ = some (.iface HT HV)) ∧ P  x1)
  (Q : Exit → Act → World → Prop) (hPan : ∀ c (a : Act) w (d : Option Tmp) v, Q (.panic c) (a.put d v) w → Q (.panic c) a w) {u0 u3 u4 u5 u6 u7 u8 u9 u10 u11 u12 u13 u14 u15 u16 u17 u18 u19 u20 u21 u22 u23 u24 u25 u26 u27 u28 u29 u30 u31 u32 u33 u34 u35 u36 u37 u38 u39 u40 u41 u42 u43 u44 u45 u46 u47 u48 u49 : Value}
  (hQ : ∀  w1, P  w1 → Q .normal ⟨#[u0, .pointer (some ⟨b, o, none⟩), .pointer (some ⟨HB, 0, none⟩), u3,u4,u5,u6,u7,u8,u9,u10,u11,u12,u13,u14,u15,u16,u17,u18,u19,u20,u21,u22,u23,u24,u25,u26,u27,u28,u29,u30,u31,u32,u33,u34,u35,u36,u37,u38,u39, .pointer (some ⟨b, o, none⟩), .pointer (some ⟨b, o, none⟩), .pointer (some ⟨b, o + 3, none⟩), .slice la ln lc, .iface HT HV, .iface HT HV, .func (.method "cloister/config.byteOf") #[.iface HT HV] #[], .tuple #[], u48,u49], []⟩ w1) :
  Code.wp Tryz.prog (Code.region 8 ops64_8 true) Q ⟨#[u0, .pointer (some ⟨b, o, none⟩), .pointer (some ⟨HB, 0, none⟩), u3,u4,u5,u6,u7,u8,u9,u10,u11,u12,u13,u14,u15,u16,u17,u18,u19,u20,u21,u22,u23,u24,u25,u26,u27,u28,u29,u30,u31,u32,u33,u34,u35,u36,u37,u38,u39,u40,u41,u42,u43,u44,u45,u46,u47,u48,u49], []⟩ W := by
 have hm := H.m
 have hn := H.n
 have hent := H.e
 clear H
 refine wp_region_held_drew (S := fun w' => w'.cell? ⟨b, o + 3, none⟩ = some (.slice la ln lc) ∧ w'.cell? ⟨HB, 0, none⟩ = some (.iface HT HV)) hmx hS (fun HSX => ?_)
 clear hS
 obtain ⟨W0, hW0⟩ : ∃ W0,W0 = W.drew := ⟨_, rfl⟩
 rw [← hW0] at HSX hcall ⊢
 clear hW0
 refine tk hPan (i := 0) (oi := ⟨some 40, Op.move (.tmp 1), 113, "fields.go:51", #[], none⟩) (v := .pointer (some ⟨b, o, none⟩)) rfl (by kernel_rfl) (.inl ⟨by rfl, ?_⟩) HSX ?_
 ·intro wx d0
  obtain ⟨s1, s2⟩ := d0
  go_simp
 simp only [Act.put, sl0', sl1', sl2']
 refine tk hPan (i := 1) (oi := ⟨some 41, Op.nilCheck (.tmp 40), 0, "fields.go:51", #[gd' 0], none⟩) (v := .pointer (some ⟨b, o, none⟩)) rfl (by kernel_rfl) (.inl ⟨by rfl, ?_⟩) HSX ?_
 ·intro wx d0
  obtain ⟨s1, s2⟩ := d0
  go_simp
 simp only [Act.put, sl0', sl1', sl2']
 refine tk hPan (i := 2) (oi := ⟨some 42, Op.fieldAddr 89 (.tmp 41) 3, 0, "fields.go:51", #[gd' 1], none⟩) (v := .pointer (some ⟨b, o + 3, none⟩)) rfl (by kernel_rfl) (.inl ⟨by rfl, ?_⟩) HSX ?_
 ·intro wx d0
  obtain ⟨s1, s2⟩ := d0
  go_simp
 simp only [Act.put, sl0', sl1', sl2']
 refine tk hPan (i := 3) (oi := ⟨some 43, Op.load 52 (.tmp 42), 52, "fields.go:51", #[gd' 2], none⟩) (v := .slice la ln lc) rfl (by kernel_rfl) (.inl ⟨by rfl, ?_⟩) HSX ?_
 ·intro wx d0
  obtain ⟨s1, s2⟩ := d0
  go_simp
 simp only [Act.put, sl0', sl1', sl2']
 refine tk hPan (i := 4) (oi := ⟨some 44, Op.load 138 (.tmp 2), 138, "fields.go:51", #[], none⟩) (v := .iface HT HV) rfl (by kernel_rfl) (.inl ⟨by rfl, ?_⟩) HSX ?_
 ·intro wx d0
  obtain ⟨s1, s2⟩ := d0
  go_simp
 simp only [Act.put, sl0', sl1', sl2']
 refine tk hPan (i := 5) (oi := ⟨some 45, Op.nilCheck (.tmp 44), 138, "fields.go:51", #[gd' 4], none⟩) (v := .iface HT HV) rfl (by kernel_rfl) (.inl ⟨by rfl, ?_⟩) HSX ?_
 ·intro wx d0
  obtain ⟨s1, s2⟩ := d0
  go_simp
 simp only [Act.put, sl0', sl1', sl2']
 refine tk hPan (i := 6) (oi := ⟨some 46, Op.makeFunc (Fn.method "cloister/config.byteOf") #[Operand.tmp 45] #[], 168, "fields.go:51", #[gd' 5], none⟩) (v := .func (.method "cloister/config.byteOf") #[.iface HT HV] #[]) rfl (by kernel_rfl) (.inl ⟨by rfl, ?_⟩) HSX ?_
 ·intro wx d0
  obtain ⟨s1, s2⟩ := d0
  go_simp
 simp only [Act.put, sl0', sl1', sl2']
 refine wpAnyH_ready (rs := [7]) (by kernel_rfl) (by simp) ?_
 refine AllReadyH.cons (o := ⟨some 47, Op.call { callee := Callee.value (Operand.func 96), args := #[Operand.tmp 43, Operand.tmp 46], argTypes := #[52, 168] }, 0, "fields.go:51", #[gd' 3, gd' 6], none⟩) rfl (fun K hK => ?_) AllReadyH.nil
 rw [if_pos (by rfl)]
 go_simp
 go_at_call 96
 refine hcall.mono ?_
 rintro e w1 ⟨rfl, HS1, hP⟩
 go_simp
 refine hK.out _ _ HS1 (fun HSX => ?_)
 clear hK K
 refine wpAnyH_done (by kernel_rfl) ?_ _
 exact hQ  _ hP
def ops25_2 : Array Oper := #[⟨some 7, Op.load 138 (.tmp 2), 138, "fields.go:22", #[], none⟩,
 ⟨some 8, Op.move (.tmp 1), 74, "fields.go:22", #[], none⟩,
 ⟨some 9, Op.nilCheck (.tmp 8), 0, "fields.go:22", #[gd' 1], none⟩,
 ⟨some 10, Op.fieldAddr 31 (.tmp 9) 6, 0, "fields.go:22", #[gd' 2], none⟩,
 ⟨some 11, Op.call { callee := Callee.value (Operand.func 59), args := #[Operand.tmp 7, Operand.tmp 10], argTypes := #[138, 105] }, 0, "fields.go:22", #[gd' 0, gd' 3], none⟩]
set_option maxHeartbeats 8000000 in
set_option maxRecDepth 100000 in
theorem reg25_2 (W : World) (HB b o : Nat) (HT : TypeId) (HV : Value)  (hS : (fun w' => w'.cell? ⟨HB, 0, none⟩ = some (.iface HT HV)) W.drew) (P : World → Prop) (hcall : Calls Tryz.prog 59 #[.iface HT HV, .pointer (some ⟨b, o + 8, none⟩)] W.drew fun e x1 => e = .returned (.tuple #[]) ∧ (x1.cell? ⟨HB, 0, none⟩ = some (.iface HT HV)) ∧ P  x1)
  (Q : Exit → Act → World → Prop) (hPan : ∀ c (a : Act) w (d : Option Tmp) v, Q (.panic c) (a.put d v) w → Q (.panic c) a w) {u0 u3 u4 u5 u6 u7 u8 u9 u10 u11 u12 u13 u14 u15 u16 u17 u18 u19 u20 u21 u22 u23 u24 u25 u26 u27 u28 u29 u30 u31 u32 u33 u34 u35 u36 u37 u38 u39 u40 u41 u42 u43 u44 u45 u46 u47 u48 u49 u50 : Value}
  (hQ : ∀  w1, P  w1 → Q .normal ⟨#[u0, .pointer (some ⟨b, o, none⟩), .pointer (some ⟨HB, 0, none⟩), u3,u4,u5,u6, .iface HT HV, .pointer (some ⟨b, o, none⟩), .pointer (some ⟨b, o, none⟩), .pointer (some ⟨b, o + 8, none⟩), .tuple #[], u12,u13,u14,u15,u16,u17,u18,u19,u20,u21,u22,u23,u24,u25,u26,u27,u28,u29,u30,u31,u32,u33,u34,u35,u36,u37,u38,u39,u40,u41,u42,u43,u44,u45,u46,u47,u48,u49,u50], []⟩ w1) :
  Code.wp Tryz.prog (Code.region 2 ops25_2 true) Q ⟨#[u0, .pointer (some ⟨b, o, none⟩), .pointer (some ⟨HB, 0, none⟩), u3,u4,u5,u6,u7,u8,u9,u10,u11,u12,u13,u14,u15,u16,u17,u18,u19,u20,u21,u22,u23,u24,u25,u26,u27,u28,u29,u30,u31,u32,u33,u34,u35,u36,u37,u38,u39,u40,u41,u42,u43,u44,u45,u46,u47,u48,u49,u50], []⟩ W := by
 refine wp_region_held_drew (S := fun w' => w'.cell? ⟨HB, 0, none⟩ = some (.iface HT HV)) hmx hS (fun HSX => ?_)
 clear hS
 obtain ⟨W0, hW0⟩ : ∃ W0,W0 = W.drew := ⟨_, rfl⟩
 rw [← hW0] at HSX hcall ⊢
 clear hW0
 refine tk hPan (i := 0) (oi := ⟨some 7, Op.load 138 (.tmp 2), 138, "fields.go:22", #[], none⟩) (v := .iface HT HV) rfl (by kernel_rfl) (.inl ⟨by rfl, ?_⟩) HSX ?_
 ·intro wx d0
  have s1 := d0
  go_simp
 simp only [Act.put, sl0', sl1', sl2']
 refine tk hPan (i := 1) (oi := ⟨some 8, Op.move (.tmp 1), 74, "fields.go:22", #[], none⟩) (v := .pointer (some ⟨b, o, none⟩)) rfl (by kernel_rfl) (.inl ⟨by rfl, ?_⟩) HSX ?_
 ·intro wx d0
  have s1 := d0
  go_simp
 simp only [Act.put, sl0', sl1', sl2']
 refine tk hPan (i := 2) (oi := ⟨some 9, Op.nilCheck (.tmp 8), 0, "fields.go:22", #[gd' 1], none⟩) (v := .pointer (some ⟨b, o, none⟩)) rfl (by kernel_rfl) (.inl ⟨by rfl, ?_⟩) HSX ?_
 ·intro wx d0
  have s1 := d0
  go_simp
 simp only [Act.put, sl0', sl1', sl2']
 refine tk hPan (i := 3) (oi := ⟨some 10, Op.fieldAddr 31 (.tmp 9) 6, 0, "fields.go:22", #[gd' 2], none⟩) (v := .pointer (some ⟨b, o + 8, none⟩)) rfl (by kernel_rfl) (.inl ⟨by rfl, ?_⟩) HSX ?_
 ·intro wx d0
  have s1 := d0
  go_simp
 simp only [Act.put, sl0', sl1', sl2']
 refine wpAnyH_ready (rs := [4]) (by kernel_rfl) (by simp) ?_
 refine AllReadyH.cons (o := ⟨some 11, Op.call { callee := Callee.value (Operand.func 59), args := #[Operand.tmp 7, Operand.tmp 10], argTypes := #[138, 105] }, 0, "fields.go:22", #[gd' 0, gd' 3], none⟩) rfl (fun K hK => ?_) AllReadyH.nil
 rw [if_pos (by rfl)]
 go_simp
 go_at_call 59
 refine hcall.mono ?_
 rintro e w1 ⟨rfl, HS1, hP⟩
 go_simp
 refine hK.out _ _ HS1 (fun HSX => ?_)
 clear hK K
 refine wpAnyH_done (by kernel_rfl) ?_ _
 exact hQ  _ hP
def ops25_3 : Array Oper := #[⟨some 12, Op.load 138 (.tmp 2), 138, "fields.go:23", #[], none⟩,
 ⟨some 13, Op.move (.tmp 1), 74, "fields.go:23", #[], none⟩,
 ⟨some 14, Op.nilCheck (.tmp 13), 0, "fields.go:23", #[gd' 1], none⟩,
 ⟨some 15, Op.fieldAddr 31 (.tmp 14) 7, 0, "fields.go:23", #[gd' 2], none⟩,
 ⟨some 16, Op.call { callee := Callee.value (Operand.func 60), args := #[Operand.tmp 12, Operand.tmp 15], argTypes := #[138, 107] }, 0, "fields.go:23", #[gd' 0, gd' 3], none⟩]
set_option maxHeartbeats 8000000 in
set_option maxRecDepth 100000 in
theorem reg25_3 (W : World) (HB b o : Nat) (HT : TypeId) (HV : Value)  (hS : (fun w' => w'.cell? ⟨HB, 0, none⟩ = some (.iface HT HV)) W.drew) (P : World → Prop) (hcall : Calls Tryz.prog 60 #[.iface HT HV, .pointer (some ⟨b, o + 9, none⟩)] W.drew fun e x1 => e = .returned (.tuple #[]) ∧ (x1.cell? ⟨HB, 0, none⟩ = some (.iface HT HV)) ∧ P  x1)
  (Q : Exit → Act → World → Prop) (hPan : ∀ c (a : Act) w (d : Option Tmp) v, Q (.panic c) (a.put d v) w → Q (.panic c) a w) {u0 u3 u4 u5 u6 u7 u8 u9 u10 u11 u12 u13 u14 u15 u16 u17 u18 u19 u20 u21 u22 u23 u24 u25 u26 u27 u28 u29 u30 u31 u32 u33 u34 u35 u36 u37 u38 u39 u40 u41 u42 u43 u44 u45 u46 u47 u48 u49 u50 : Value}
  (hQ : ∀  w1, P  w1 → Q .normal ⟨#[u0, .pointer (some ⟨b, o, none⟩), .pointer (some ⟨HB, 0, none⟩), u3,u4,u5,u6,u7,u8,u9,u10,u11, .iface HT HV, .pointer (some ⟨b, o, none⟩), .pointer (some ⟨b, o, none⟩), .pointer (some ⟨b, o + 9, none⟩), .tuple #[], u17,u18,u19,u20,u21,u22,u23,u24,u25,u26,u27,u28,u29,u30,u31,u32,u33,u34,u35,u36,u37,u38,u39,u40,u41,u42,u43,u44,u45,u46,u47,u48,u49,u50], []⟩ w1) :
  Code.wp Tryz.prog (Code.region 3 ops25_3 true) Q ⟨#[u0, .pointer (some ⟨b, o, none⟩), .pointer (some ⟨HB, 0, none⟩), u3,u4,u5,u6,u7,u8,u9,u10,u11,u12,u13,u14,u15,u16,u17,u18,u19,u20,u21,u22,u23,u24,u25,u26,u27,u28,u29,u30,u31,u32,u33,u34,u35,u36,u37,u38,u39,u40,u41,u42,u43,u44,u45,u46,u47,u48,u49,u50], []⟩ W := by
 refine wp_region_held_drew (S := fun w' => w'.cell? ⟨HB, 0, none⟩ = some (.iface HT HV)) hmx hS (fun HSX => ?_)
 clear hS
 obtain ⟨W0, hW0⟩ : ∃ W0,W0 = W.drew := ⟨_, rfl⟩
 rw [← hW0] at HSX hcall ⊢
 clear hW0
 refine tk hPan (i := 0) (oi := ⟨some 12, Op.load 138 (.tmp 2), 138, "fields.go:23", #[], none⟩) (v := .iface HT HV) rfl (by kernel_rfl) (.inl ⟨by rfl, ?_⟩) HSX ?_
 ·intro wx d0
  have s1 := d0
  go_simp
 simp only [Act.put, sl0', sl1', sl2']
 refine tk hPan (i := 1) (oi := ⟨some 13, Op.move (.tmp 1), 74, "fields.go:23", #[], none⟩) (v := .pointer (some ⟨b, o, none⟩)) rfl (by kernel_rfl) (.inl ⟨by rfl, ?_⟩) HSX ?_
 ·intro wx d0
  have s1 := d0
  go_simp
 simp only [Act.put, sl0', sl1', sl2']
 refine tk hPan (i := 2) (oi := ⟨some 14, Op.nilCheck (.tmp 13), 0, "fields.go:23", #[gd' 1], none⟩) (v := .pointer (some ⟨b, o, none⟩)) rfl (by kernel_rfl) (.inl ⟨by rfl, ?_⟩) HSX ?_
 ·intro wx d0
  have s1 := d0
  go_simp
 simp only [Act.put, sl0', sl1', sl2']
 refine tk hPan (i := 3) (oi := ⟨some 15, Op.fieldAddr 31 (.tmp 14) 7, 0, "fields.go:23", #[gd' 2], none⟩) (v := .pointer (some ⟨b, o + 9, none⟩)) rfl (by kernel_rfl) (.inl ⟨by rfl, ?_⟩) HSX ?_
 ·intro wx d0
  have s1 := d0
  go_simp
 simp only [Act.put, sl0', sl1', sl2']
 refine wpAnyH_ready (rs := [4]) (by kernel_rfl) (by simp) ?_
 refine AllReadyH.cons (o := ⟨some 16, Op.call { callee := Callee.value (Operand.func 60), args := #[Operand.tmp 12, Operand.tmp 15], argTypes := #[138, 107] }, 0, "fields.go:23", #[gd' 0, gd' 3], none⟩) rfl (fun K hK => ?_) AllReadyH.nil
 rw [if_pos (by rfl)]
 go_simp
 go_at_call 60
 refine hcall.mono ?_
 rintro e w1 ⟨rfl, HS1, hP⟩
 go_simp
 refine hK.out _ _ HS1 (fun HSX => ?_)
 clear hK K
 refine wpAnyH_done (by kernel_rfl) ?_ _
 exact hQ  _ hP
def ops25_4 : Array Oper := #[⟨some 17, Op.load 138 (.tmp 2), 138, "fields.go:24", #[], none⟩,
 ⟨some 18, Op.move (.tmp 1), 74, "fields.go:24", #[], none⟩,
 ⟨some 19, Op.nilCheck (.tmp 18), 0, "fields.go:24", #[gd' 1], none⟩,
 ⟨some 20, Op.fieldAddr 31 (.tmp 19) 8, 0, "fields.go:24", #[gd' 2], none⟩,
 ⟨some 21, Op.call { callee := Callee.value (Operand.func 61), args := #[Operand.tmp 17, Operand.tmp 20], argTypes := #[138, 109] }, 0, "fields.go:24", #[gd' 0, gd' 3], none⟩]
set_option maxHeartbeats 8000000 in
set_option maxRecDepth 100000 in
theorem reg25_4 (W : World) (HB b o : Nat) (HT : TypeId) (HV : Value)  (hS : (fun w' => w'.cell? ⟨HB, 0, none⟩ = some (.iface HT HV)) W.drew) (P : World → Prop) (hcall : Calls Tryz.prog 61 #[.iface HT HV, .pointer (some ⟨b, o + 10, none⟩)] W.drew fun e x1 => e = .returned (.tuple #[]) ∧ (x1.cell? ⟨HB, 0, none⟩ = some (.iface HT HV)) ∧ P  x1)
  (Q : Exit → Act → World → Prop) (hPan : ∀ c (a : Act) w (d : Option Tmp) v, Q (.panic c) (a.put d v) w → Q (.panic c) a w) {u0 u3 u4 u5 u6 u7 u8 u9 u10 u11 u12 u13 u14 u15 u16 u17 u18 u19 u20 u21 u22 u23 u24 u25 u26 u27 u28 u29 u30 u31 u32 u33 u34 u35 u36 u37 u38 u39 u40 u41 u42 u43 u44 u45 u46 u47 u48 u49 u50 : Value}
  (hQ : ∀  w1, P  w1 → Q .normal ⟨#[u0, .pointer (some ⟨b, o, none⟩), .pointer (some ⟨HB, 0, none⟩), u3,u4,u5,u6,u7,u8,u9,u10,u11,u12,u13,u14,u15,u16, .iface HT HV, .pointer (some ⟨b, o, none⟩), .pointer (some ⟨b, o, none⟩), .pointer (some ⟨b, o + 10, none⟩), .tuple #[], u22,u23,u24,u25,u26,u27,u28,u29,u30,u31,u32,u33,u34,u35,u36,u37,u38,u39,u40,u41,u42,u43,u44,u45,u46,u47,u48,u49,u50], []⟩ w1) :
  Code.wp Tryz.prog (Code.region 4 ops25_4 true) Q ⟨#[u0, .pointer (some ⟨b, o, none⟩), .pointer (some ⟨HB, 0, none⟩), u3,u4,u5,u6,u7,u8,u9,u10,u11,u12,u13,u14,u15,u16,u17,u18,u19,u20,u21,u22,u23,u24,u25,u26,u27,u28,u29,u30,u31,u32,u33,u34,u35,u36,u37,u38,u39,u40,u41,u42,u43,u44,u45,u46,u47,u48,u49,u50], []⟩ W := by
 refine wp_region_held_drew (S := fun w' => w'.cell? ⟨HB, 0, none⟩ = some (.iface HT HV)) hmx hS (fun HSX => ?_)
 clear hS
 obtain ⟨W0, hW0⟩ : ∃ W0,W0 = W.drew := ⟨_, rfl⟩
 rw [← hW0] at HSX hcall ⊢
 clear hW0
 refine tk hPan (i := 0) (oi := ⟨some 17, Op.load 138 (.tmp 2), 138, "fields.go:24", #[], none⟩) (v := .iface HT HV) rfl (by kernel_rfl) (.inl ⟨by rfl, ?_⟩) HSX ?_
 ·intro wx d0
  have s1 := d0
  go_simp
 simp only [Act.put, sl0', sl1', sl2']
 refine tk hPan (i := 1) (oi := ⟨some 18, Op.move (.tmp 1), 74, "fields.go:24", #[], none⟩) (v := .pointer (some ⟨b, o, none⟩)) rfl (by kernel_rfl) (.inl ⟨by rfl, ?_⟩) HSX ?_
 ·intro wx d0
  have s1 := d0
  go_simp
 simp only [Act.put, sl0', sl1', sl2']
 refine tk hPan (i := 2) (oi := ⟨some 19, Op.nilCheck (.tmp 18), 0, "fields.go:24", #[gd' 1], none⟩) (v := .pointer (some ⟨b, o, none⟩)) rfl (by kernel_rfl) (.inl ⟨by rfl, ?_⟩) HSX ?_
 ·intro wx d0
  have s1 := d0
  go_simp
 simp only [Act.put, sl0', sl1', sl2']
 refine tk hPan (i := 3) (oi := ⟨some 20, Op.fieldAddr 31 (.tmp 19) 8, 0, "fields.go:24", #[gd' 2], none⟩) (v := .pointer (some ⟨b, o + 10, none⟩)) rfl (by kernel_rfl) (.inl ⟨by rfl, ?_⟩) HSX ?_
 ·intro wx d0
  have s1 := d0
  go_simp
 simp only [Act.put, sl0', sl1', sl2']
 refine wpAnyH_ready (rs := [4]) (by kernel_rfl) (by simp) ?_
 refine AllReadyH.cons (o := ⟨some 21, Op.call { callee := Callee.value (Operand.func 61), args := #[Operand.tmp 17, Operand.tmp 20], argTypes := #[138, 109] }, 0, "fields.go:24", #[gd' 0, gd' 3], none⟩) rfl (fun K hK => ?_) AllReadyH.nil
 rw [if_pos (by rfl)]
 go_simp
 go_at_call 61
 refine hcall.mono ?_
 rintro e w1 ⟨rfl, HS1, hP⟩
 go_simp
 refine hK.out _ _ HS1 (fun HSX => ?_)
 clear hK K
 refine wpAnyH_done (by kernel_rfl) ?_ _
 exact hQ  _ hP
def ops25_5 : Array Oper := #[⟨some 22, Op.load 138 (.tmp 2), 138, "fields.go:25", #[], none⟩,
 ⟨some 23, Op.move (.tmp 1), 74, "fields.go:25", #[], none⟩,
 ⟨some 24, Op.nilCheck (.tmp 23), 0, "fields.go:25", #[gd' 1], none⟩,
 ⟨some 25, Op.fieldAddr 31 (.tmp 24) 9, 0, "fields.go:25", #[gd' 2], none⟩,
 ⟨some 26, Op.call { callee := Callee.value (Operand.func 62), args := #[Operand.tmp 22, Operand.tmp 25], argTypes := #[138, 111] }, 0, "fields.go:25", #[gd' 0, gd' 3], none⟩]
set_option maxHeartbeats 8000000 in
set_option maxRecDepth 100000 in
theorem reg25_5 (W : World) (HB b o : Nat) (HT : TypeId) (HV : Value)  (hS : (fun w' => w'.cell? ⟨HB, 0, none⟩ = some (.iface HT HV)) W.drew) (P : World → Prop) (hcall : Calls Tryz.prog 62 #[.iface HT HV, .pointer (some ⟨b, o + 11, none⟩)] W.drew fun e x1 => e = .returned (.tuple #[]) ∧ (x1.cell? ⟨HB, 0, none⟩ = some (.iface HT HV)) ∧ P  x1)
  (Q : Exit → Act → World → Prop) (hPan : ∀ c (a : Act) w (d : Option Tmp) v, Q (.panic c) (a.put d v) w → Q (.panic c) a w) {u0 u3 u4 u5 u6 u7 u8 u9 u10 u11 u12 u13 u14 u15 u16 u17 u18 u19 u20 u21 u22 u23 u24 u25 u26 u27 u28 u29 u30 u31 u32 u33 u34 u35 u36 u37 u38 u39 u40 u41 u42 u43 u44 u45 u46 u47 u48 u49 u50 : Value}
  (hQ : ∀  w1, P  w1 → Q .normal ⟨#[u0, .pointer (some ⟨b, o, none⟩), .pointer (some ⟨HB, 0, none⟩), u3,u4,u5,u6,u7,u8,u9,u10,u11,u12,u13,u14,u15,u16,u17,u18,u19,u20,u21, .iface HT HV, .pointer (some ⟨b, o, none⟩), .pointer (some ⟨b, o, none⟩), .pointer (some ⟨b, o + 11, none⟩), .tuple #[], u27,u28,u29,u30,u31,u32,u33,u34,u35,u36,u37,u38,u39,u40,u41,u42,u43,u44,u45,u46,u47,u48,u49,u50], []⟩ w1) :
  Code.wp Tryz.prog (Code.region 5 ops25_5 true) Q ⟨#[u0, .pointer (some ⟨b, o, none⟩), .pointer (some ⟨HB, 0, none⟩), u3,u4,u5,u6,u7,u8,u9,u10,u11,u12,u13,u14,u15,u16,u17,u18,u19,u20,u21,u22,u23,u24,u25,u26,u27,u28,u29,u30,u31,u32,u33,u34,u35,u36,u37,u38,u39,u40,u41,u42,u43,u44,u45,u46,u47,u48,u49,u50], []⟩ W := by
 refine wp_region_held_drew (S := fun w' => w'.cell? ⟨HB, 0, none⟩ = some (.iface HT HV)) hmx hS (fun HSX => ?_)
 clear hS
 obtain ⟨W0, hW0⟩ : ∃ W0,W0 = W.drew := ⟨_, rfl⟩
 rw [← hW0] at HSX hcall ⊢
 clear hW0
 refine tk hPan (i := 0) (oi := ⟨some 22, Op.load 138 (.tmp 2), 138, "fields.go:25", #[], none⟩) (v := .iface HT HV) rfl (by kernel_rfl) (.inl ⟨by rfl, ?_⟩) HSX ?_
 ·intro wx d0
  have s1 := d0
  go_simp
 simp only [Act.put, sl0', sl1', sl2']
 refine tk hPan (i := 1) (oi := ⟨some 23, Op.move (.tmp 1), 74, "fields.go:25", #[], none⟩) (v := .pointer (some ⟨b, o, none⟩)) rfl (by kernel_rfl) (.inl ⟨by rfl, ?_⟩) HSX ?_
 ·intro wx d0
  have s1 := d0
  go_simp
 simp only [Act.put, sl0', sl1', sl2']
 refine tk hPan (i := 2) (oi := ⟨some 24, Op.nilCheck (.tmp 23), 0, "fields.go:25", #[gd' 1], none⟩) (v := .pointer (some ⟨b, o, none⟩)) rfl (by kernel_rfl) (.inl ⟨by rfl, ?_⟩) HSX ?_
 ·intro wx d0
  have s1 := d0
  go_simp
 simp only [Act.put, sl0', sl1', sl2']
 refine tk hPan (i := 3) (oi := ⟨some 25, Op.fieldAddr 31 (.tmp 24) 9, 0, "fields.go:25", #[gd' 2], none⟩) (v := .pointer (some ⟨b, o + 11, none⟩)) rfl (by kernel_rfl) (.inl ⟨by rfl, ?_⟩) HSX ?_
 ·intro wx d0
  have s1 := d0
  go_simp
 simp only [Act.put, sl0', sl1', sl2']
 refine wpAnyH_ready (rs := [4]) (by kernel_rfl) (by simp) ?_
 refine AllReadyH.cons (o := ⟨some 26, Op.call { callee := Callee.value (Operand.func 62), args := #[Operand.tmp 22, Operand.tmp 25], argTypes := #[138, 111] }, 0, "fields.go:25", #[gd' 0, gd' 3], none⟩) rfl (fun K hK => ?_) AllReadyH.nil
 rw [if_pos (by rfl)]
 go_simp
 go_at_call 62
 refine hcall.mono ?_
 rintro e w1 ⟨rfl, HS1, hP⟩
 go_simp
 refine hK.out _ _ HS1 (fun HSX => ?_)
 clear hK K
 refine wpAnyH_done (by kernel_rfl) ?_ _
 exact hQ  _ hP
end Go.Proofs.YtknlpjcdemijgaaGreat
