import Derived.Test.YtknlpjcdemijgaaGreatXa
namespace Go.Proofs.YtknlpjcdemijgaaGreat
open Go.ChangeShapes Go.WideShapes Go.ChangeAt Go.RowKit
set_option linter.unusedVariables false
def ops72_0 : Array Oper := #[⟨some 4, Op.move (.tmp 0), 138, "fields.go:79", #[], none⟩,
 ⟨some 5, Op.move (.tmp 1), 150, "fields.go:79", #[], none⟩,
 ⟨some 6, Op.nilCheck (.tmp 5), 0, "fields.go:79", #[gd' 1], none⟩,
 ⟨some 7, Op.fieldAddr 98 (.tmp 6) 0, 0, "fields.go:79", #[gd' 2], none⟩,
 ⟨some 8, Op.makeFunc (Fn.method "cloister/config.byteOf") #[Operand.tmp 4] #[], 168, "fields.go:79", #[gd' 0], none⟩,
 ⟨some 9, Op.nilCheck (.tmp 8), 168, "fields.go:79", #[gd' 4], none⟩,
 ⟨some 10, Op.move (.tmp 4), 138, "fields.go:79", #[gd' 0, gd' 4, gd' 5], none⟩,
 ⟨some 11, Op.call { callee := Callee.invoke (.tmp 10) "cloister/config.byteOf", args := #[Operand.tmp 7], argTypes := #[169] }, 0, "fields.go:79", #[gd' 6, gd' 3], none⟩]
set_option maxHeartbeats 8000000 in
set_option maxRecDepth 100000 in
theorem reg72_0 (W : World) (b o : Nat) (HT : TypeId) (HV : Value) (RV : Value) (F : Nat) (H : Mth HT HV "cloister/config.byteOf" F RV) (hS : (fun w' => True) W.drew) (P : World → Prop) (hcall : Calls Tryz.prog F #[RV, .pointer (some ⟨b, o, none⟩)] W.drew fun e x1 => e = .returned (.tuple #[]) ∧ (True) ∧ P  x1)
  (Q : Exit → Act → World → Prop) (hPan : ∀ c (a : Act) w (d : Option Tmp) v, Q (.panic c) (a.put d v) w → Q (.panic c) a w) {u2 u3 u4 u5 u6 u7 u8 u9 u10 u11 u12 u13 u14 u15 u16 u17 u18 u19 u20 u21 u22 u23 u24 u25 u26 u27 u28 u29 u30 u31 u32 u33 u34 u35 u36 u37 u38 u39 u40 u41 u42 u43 u44 u45 u46 u47 u48 u49 u50 u51 u52 u53 : Value}
  (hQ : ∀  w1, P  w1 → Q .normal ⟨#[.iface HT HV, .pointer (some ⟨b, o, none⟩), u2,u3, .iface HT HV, .pointer (some ⟨b, o, none⟩), .pointer (some ⟨b, o, none⟩), .pointer (some ⟨b, o, none⟩), .func (.method "cloister/config.byteOf") #[.iface HT HV] #[], .func (.method "cloister/config.byteOf") #[.iface HT HV] #[], .iface HT HV, .tuple #[], u12,u13,u14,u15,u16,u17,u18,u19,u20,u21,u22,u23,u24,u25,u26,u27,u28,u29,u30,u31,u32,u33,u34,u35,u36,u37,u38,u39,u40,u41,u42,u43,u44,u45,u46,u47,u48,u49,u50,u51,u52,u53], []⟩ w1) :
  Code.wp Tryz.prog (Code.region 0 ops72_0 true) Q ⟨#[.iface HT HV, .pointer (some ⟨b, o, none⟩), u2,u3,u4,u5,u6,u7,u8,u9,u10,u11,u12,u13,u14,u15,u16,u17,u18,u19,u20,u21,u22,u23,u24,u25,u26,u27,u28,u29,u30,u31,u32,u33,u34,u35,u36,u37,u38,u39,u40,u41,u42,u43,u44,u45,u46,u47,u48,u49,u50,u51,u52,u53], []⟩ W := by
 have hm := H.m
 have hn := H.n
 have hent := H.e
 clear H
 refine wp_region_held_drew (S := fun w' => True) hmx hS (fun HSX => ?_)
 clear hS
 obtain ⟨W0, hW0⟩ : ∃ W0,W0 = W.drew := ⟨_, rfl⟩
 rw [← hW0] at hcall ⊢
 clear hW0
 refine tk hPan (i := 0) (oi := ⟨some 4, Op.move (.tmp 0), 138, "fields.go:79", #[], none⟩) (v := .iface HT HV) rfl (by kernel_rfl) (.inl ⟨by rfl, ?_⟩) HSX ?_
 ·intro wx d0
  skip
  go_simp
 simp only [Act.put, sl0', sl1', sl2']
 refine tk hPan (i := 1) (oi := ⟨some 5, Op.move (.tmp 1), 150, "fields.go:79", #[], none⟩) (v := .pointer (some ⟨b, o, none⟩)) rfl (by kernel_rfl) (.inl ⟨by rfl, ?_⟩) HSX ?_
 ·intro wx d0
  skip
  go_simp
 simp only [Act.put, sl0', sl1', sl2']
 refine tk hPan (i := 2) (oi := ⟨some 6, Op.nilCheck (.tmp 5), 0, "fields.go:79", #[gd' 1], none⟩) (v := .pointer (some ⟨b, o, none⟩)) rfl (by kernel_rfl) (.inl ⟨by rfl, ?_⟩) HSX ?_
 ·intro wx d0
  skip
  go_simp
 simp only [Act.put, sl0', sl1', sl2']
 refine tk hPan (i := 3) (oi := ⟨some 7, Op.fieldAddr 98 (.tmp 6) 0, 0, "fields.go:79", #[gd' 2], none⟩) (v := .pointer (some ⟨b, o, none⟩)) rfl (by kernel_rfl) (.inl ⟨by rfl, ?_⟩) HSX ?_
 ·intro wx d0
  skip
  go_simp
 simp only [Act.put, sl0', sl1', sl2']
 refine tk hPan (i := 4) (oi := ⟨some 8, Op.makeFunc (Fn.method "cloister/config.byteOf") #[Operand.tmp 4] #[], 168, "fields.go:79", #[gd' 0], none⟩) (v := .func (.method "cloister/config.byteOf") #[.iface HT HV] #[]) rfl (by kernel_rfl) (.inl ⟨by rfl, ?_⟩) HSX ?_
 ·intro wx d0
  skip
  go_simp
 simp only [Act.put, sl0', sl1', sl2']
 refine tk hPan (i := 5) (oi := ⟨some 9, Op.nilCheck (.tmp 8), 168, "fields.go:79", #[gd' 4], none⟩) (v := .func (.method "cloister/config.byteOf") #[.iface HT HV] #[]) rfl (by kernel_rfl) (.inl ⟨by rfl, ?_⟩) HSX ?_
 ·intro wx d0
  skip
  go_simp
 simp only [Act.put, sl0', sl1', sl2']
 refine tk hPan (i := 6) (oi := ⟨some 10, Op.move (.tmp 4), 138, "fields.go:79", #[gd' 0, gd' 4, gd' 5], none⟩) (v := .iface HT HV) rfl (by kernel_rfl) (.inl ⟨by rfl, ?_⟩) HSX ?_
 ·intro wx d0
  skip
  go_simp
 simp only [Act.put, sl0', sl1', sl2']
 refine wpAnyH_ready (rs := [7]) (by kernel_rfl) (by simp) ?_
 refine AllReadyH.cons (o := ⟨some 11, Op.call { callee := Callee.invoke (.tmp 10) "cloister/config.byteOf", args := #[Operand.tmp 7], argTypes := #[169] }, 0, "fields.go:79", #[gd' 6, gd' 3], none⟩) rfl (fun K hK => ?_) AllReadyH.nil
 rw [if_pos (by rfl)]
 go_simp
 go_at_fn F
 refine hcall.mono ?_
 rintro e w1 ⟨rfl, HS1, hP⟩
 go_simp
 refine hK.out _ _ HS1 (fun HSX => ?_)
 clear hK K
 refine wpAnyH_done (by kernel_rfl) ?_ _
 exact hQ  _ hP
def ops72_1 : Array Oper := #[⟨some 12, Op.move (.tmp 0), 138, "fields.go:80", #[], none⟩,
 ⟨some 13, Op.move (.tmp 1), 150, "fields.go:80", #[], none⟩,
 ⟨some 14, Op.nilCheck (.tmp 13), 0, "fields.go:80", #[gd' 1], none⟩,
 ⟨some 15, Op.fieldAddr 98 (.tmp 14) 1, 0, "fields.go:80", #[gd' 2], none⟩,
 ⟨some 16, Op.makeFunc (Fn.method "cloister/config.byteOf") #[Operand.tmp 12] #[], 168, "fields.go:80", #[gd' 0], none⟩,
 ⟨some 17, Op.nilCheck (.tmp 16), 168, "fields.go:80", #[gd' 4], none⟩,
 ⟨some 18, Op.move (.tmp 12), 138, "fields.go:80", #[gd' 0, gd' 4, gd' 5], none⟩,
 ⟨some 19, Op.call { callee := Callee.invoke (.tmp 18) "cloister/config.byteOf", args := #[Operand.tmp 15], argTypes := #[169] }, 0, "fields.go:80", #[gd' 6, gd' 3], none⟩]
set_option maxHeartbeats 8000000 in
set_option maxRecDepth 100000 in
theorem reg72_1 (W : World) (b o : Nat) (HT : TypeId) (HV : Value) (RV : Value) (F : Nat) (H : Mth HT HV "cloister/config.byteOf" F RV) (hS : (fun w' => True) W.drew) (P : World → Prop) (hcall : Calls Tryz.prog F #[RV, .pointer (some ⟨b, o + 1, none⟩)] W.drew fun e x1 => e = .returned (.tuple #[]) ∧ (True) ∧ P  x1)
  (Q : Exit → Act → World → Prop) (hPan : ∀ c (a : Act) w (d : Option Tmp) v, Q (.panic c) (a.put d v) w → Q (.panic c) a w) {u2 u3 u4 u5 u6 u7 u8 u9 u10 u11 u12 u13 u14 u15 u16 u17 u18 u19 u20 u21 u22 u23 u24 u25 u26 u27 u28 u29 u30 u31 u32 u33 u34 u35 u36 u37 u38 u39 u40 u41 u42 u43 u44 u45 u46 u47 u48 u49 u50 u51 u52 u53 : Value}
  (hQ : ∀  w1, P  w1 → Q .normal ⟨#[.iface HT HV, .pointer (some ⟨b, o, none⟩), u2,u3,u4,u5,u6,u7,u8,u9,u10,u11, .iface HT HV, .pointer (some ⟨b, o, none⟩), .pointer (some ⟨b, o, none⟩), .pointer (some ⟨b, o + 1, none⟩), .func (.method "cloister/config.byteOf") #[.iface HT HV] #[], .func (.method "cloister/config.byteOf") #[.iface HT HV] #[], .iface HT HV, .tuple #[], u20,u21,u22,u23,u24,u25,u26,u27,u28,u29,u30,u31,u32,u33,u34,u35,u36,u37,u38,u39,u40,u41,u42,u43,u44,u45,u46,u47,u48,u49,u50,u51,u52,u53], []⟩ w1) :
  Code.wp Tryz.prog (Code.region 1 ops72_1 true) Q ⟨#[.iface HT HV, .pointer (some ⟨b, o, none⟩), u2,u3,u4,u5,u6,u7,u8,u9,u10,u11,u12,u13,u14,u15,u16,u17,u18,u19,u20,u21,u22,u23,u24,u25,u26,u27,u28,u29,u30,u31,u32,u33,u34,u35,u36,u37,u38,u39,u40,u41,u42,u43,u44,u45,u46,u47,u48,u49,u50,u51,u52,u53], []⟩ W := by
 have hm := H.m
 have hn := H.n
 have hent := H.e
 clear H
 refine wp_region_held_drew (S := fun w' => True) hmx hS (fun HSX => ?_)
 clear hS
 obtain ⟨W0, hW0⟩ : ∃ W0,W0 = W.drew := ⟨_, rfl⟩
 rw [← hW0] at hcall ⊢
 clear hW0
 refine tk hPan (i := 0) (oi := ⟨some 12, Op.move (.tmp 0), 138, "fields.go:80", #[], none⟩) (v := .iface HT HV) rfl (by kernel_rfl) (.inl ⟨by rfl, ?_⟩) HSX ?_
 ·intro wx d0
  skip
  go_simp
 simp only [Act.put, sl0', sl1', sl2']
 refine tk hPan (i := 1) (oi := ⟨some 13, Op.move (.tmp 1), 150, "fields.go:80", #[], none⟩) (v := .pointer (some ⟨b, o, none⟩)) rfl (by kernel_rfl) (.inl ⟨by rfl, ?_⟩) HSX ?_
 ·intro wx d0
  skip
  go_simp
 simp only [Act.put, sl0', sl1', sl2']
 refine tk hPan (i := 2) (oi := ⟨some 14, Op.nilCheck (.tmp 13), 0, "fields.go:80", #[gd' 1], none⟩) (v := .pointer (some ⟨b, o, none⟩)) rfl (by kernel_rfl) (.inl ⟨by rfl, ?_⟩) HSX ?_
 ·intro wx d0
  skip
  go_simp
 simp only [Act.put, sl0', sl1', sl2']
 refine tk hPan (i := 3) (oi := ⟨some 15, Op.fieldAddr 98 (.tmp 14) 1, 0, "fields.go:80", #[gd' 2], none⟩) (v := .pointer (some ⟨b, o + 1, none⟩)) rfl (by kernel_rfl) (.inl ⟨by rfl, ?_⟩) HSX ?_
 ·intro wx d0
  skip
  go_simp
 simp only [Act.put, sl0', sl1', sl2']
 refine tk hPan (i := 4) (oi := ⟨some 16, Op.makeFunc (Fn.method "cloister/config.byteOf") #[Operand.tmp 12] #[], 168, "fields.go:80", #[gd' 0], none⟩) (v := .func (.method "cloister/config.byteOf") #[.iface HT HV] #[]) rfl (by kernel_rfl) (.inl ⟨by rfl, ?_⟩) HSX ?_
 ·intro wx d0
  skip
  go_simp
 simp only [Act.put, sl0', sl1', sl2']
 refine tk hPan (i := 5) (oi := ⟨some 17, Op.nilCheck (.tmp 16), 168, "fields.go:80", #[gd' 4], none⟩) (v := .func (.method "cloister/config.byteOf") #[.iface HT HV] #[]) rfl (by kernel_rfl) (.inl ⟨by rfl, ?_⟩) HSX ?_
 ·intro wx d0
  skip
  go_simp
 simp only [Act.put, sl0', sl1', sl2']
 refine tk hPan (i := 6) (oi := ⟨some 18, Op.move (.tmp 12), 138, "fields.go:80", #[gd' 0, gd' 4, gd' 5], none⟩) (v := .iface HT HV) rfl (by kernel_rfl) (.inl ⟨by rfl, ?_⟩) HSX ?_
 ·intro wx d0
  skip
  go_simp
 simp only [Act.put, sl0', sl1', sl2']
 refine wpAnyH_ready (rs := [7]) (by kernel_rfl) (by simp) ?_
 refine AllReadyH.cons (o := ⟨some 19, Op.call { callee := Callee.invoke (.tmp 18) "cloister/config.byteOf", args := #[Operand.tmp 15], argTypes := #[169] }, 0, "fields.go:80", #[gd' 6, gd' 3], none⟩) rfl (fun K hK => ?_) AllReadyH.nil
 rw [if_pos (by rfl)]
 go_simp
 go_at_fn F
 refine hcall.mono ?_
 rintro e w1 ⟨rfl, HS1, hP⟩
 go_simp
 refine hK.out _ _ HS1 (fun HSX => ?_)
 clear hK K
 refine wpAnyH_done (by kernel_rfl) ?_ _
 exact hQ  _ hP
def ops72_2 : Array Oper := #[⟨some 20, Op.move (.tmp 0), 138, "fields.go:81", #[], none⟩,
 ⟨some 21, Op.move (.tmp 1), 150, "fields.go:81", #[], none⟩,
 ⟨some 22, Op.nilCheck (.tmp 21), 0, "fields.go:81", #[gd' 1], none⟩,
 ⟨some 23, Op.fieldAddr 98 (.tmp 22) 2, 0, "fields.go:81", #[gd' 2], none⟩,
 ⟨some 24, Op.makeFunc (Fn.method "cloister/config.halfOf") #[Operand.tmp 20] #[], 168, "fields.go:81", #[gd' 0], none⟩,
 ⟨some 25, Op.nilCheck (.tmp 24), 168, "fields.go:81", #[gd' 4], none⟩,
 ⟨some 26, Op.move (.tmp 20), 138, "fields.go:81", #[gd' 0, gd' 4, gd' 5], none⟩,
 ⟨some 27, Op.call { callee := Callee.invoke (.tmp 26) "cloister/config.halfOf", args := #[Operand.tmp 23], argTypes := #[169] }, 0, "fields.go:81", #[gd' 6, gd' 3], none⟩]
set_option maxHeartbeats 8000000 in
set_option maxRecDepth 100000 in
theorem reg72_2 (W : World) (b o : Nat) (HT : TypeId) (HV : Value) (RV : Value) (F : Nat) (H : Mth HT HV "cloister/config.halfOf" F RV) (hS : (fun w' => True) W.drew) (P : World → Prop) (hcall : Calls Tryz.prog F #[RV, .pointer (some ⟨b, o + 2, none⟩)] W.drew fun e x1 => e = .returned (.tuple #[]) ∧ (True) ∧ P  x1)
  (Q : Exit → Act → World → Prop) (hPan : ∀ c (a : Act) w (d : Option Tmp) v, Q (.panic c) (a.put d v) w → Q (.panic c) a w) {u2 u3 u4 u5 u6 u7 u8 u9 u10 u11 u12 u13 u14 u15 u16 u17 u18 u19 u20 u21 u22 u23 u24 u25 u26 u27 u28 u29 u30 u31 u32 u33 u34 u35 u36 u37 u38 u39 u40 u41 u42 u43 u44 u45 u46 u47 u48 u49 u50 u51 u52 u53 : Value}
  (hQ : ∀  w1, P  w1 → Q .normal ⟨#[.iface HT HV, .pointer (some ⟨b, o, none⟩), u2,u3,u4,u5,u6,u7,u8,u9,u10,u11,u12,u13,u14,u15,u16,u17,u18,u19, .iface HT HV, .pointer (some ⟨b, o, none⟩), .pointer (some ⟨b, o, none⟩), .pointer (some ⟨b, o + 2, none⟩), .func (.method "cloister/config.halfOf") #[.iface HT HV] #[], .func (.method "cloister/config.halfOf") #[.iface HT HV] #[], .iface HT HV, .tuple #[], u28,u29,u30,u31,u32,u33,u34,u35,u36,u37,u38,u39,u40,u41,u42,u43,u44,u45,u46,u47,u48,u49,u50,u51,u52,u53], []⟩ w1) :
  Code.wp Tryz.prog (Code.region 2 ops72_2 true) Q ⟨#[.iface HT HV, .pointer (some ⟨b, o, none⟩), u2,u3,u4,u5,u6,u7,u8,u9,u10,u11,u12,u13,u14,u15,u16,u17,u18,u19,u20,u21,u22,u23,u24,u25,u26,u27,u28,u29,u30,u31,u32,u33,u34,u35,u36,u37,u38,u39,u40,u41,u42,u43,u44,u45,u46,u47,u48,u49,u50,u51,u52,u53], []⟩ W := by
 have hm := H.m
 have hn := H.n
 have hent := H.e
 clear H
 refine wp_region_held_drew (S := fun w' => True) hmx hS (fun HSX => ?_)
 clear hS
 obtain ⟨W0, hW0⟩ : ∃ W0,W0 = W.drew := ⟨_, rfl⟩
 rw [← hW0] at hcall ⊢
 clear hW0
 refine tk hPan (i := 0) (oi := ⟨some 20, Op.move (.tmp 0), 138, "fields.go:81", #[], none⟩) (v := .iface HT HV) rfl (by kernel_rfl) (.inl ⟨by rfl, ?_⟩) HSX ?_
 ·intro wx d0
  skip
  go_simp
 simp only [Act.put, sl0', sl1', sl2']
 refine tk hPan (i := 1) (oi := ⟨some 21, Op.move (.tmp 1), 150, "fields.go:81", #[], none⟩) (v := .pointer (some ⟨b, o, none⟩)) rfl (by kernel_rfl) (.inl ⟨by rfl, ?_⟩) HSX ?_
 ·intro wx d0
  skip
  go_simp
 simp only [Act.put, sl0', sl1', sl2']
 refine tk hPan (i := 2) (oi := ⟨some 22, Op.nilCheck (.tmp 21), 0, "fields.go:81", #[gd' 1], none⟩) (v := .pointer (some ⟨b, o, none⟩)) rfl (by kernel_rfl) (.inl ⟨by rfl, ?_⟩) HSX ?_
 ·intro wx d0
  skip
  go_simp
 simp only [Act.put, sl0', sl1', sl2']
 refine tk hPan (i := 3) (oi := ⟨some 23, Op.fieldAddr 98 (.tmp 22) 2, 0, "fields.go:81", #[gd' 2], none⟩) (v := .pointer (some ⟨b, o + 2, none⟩)) rfl (by kernel_rfl) (.inl ⟨by rfl, ?_⟩) HSX ?_
 ·intro wx d0
  skip
  go_simp
 simp only [Act.put, sl0', sl1', sl2']
 refine tk hPan (i := 4) (oi := ⟨some 24, Op.makeFunc (Fn.method "cloister/config.halfOf") #[Operand.tmp 20] #[], 168, "fields.go:81", #[gd' 0], none⟩) (v := .func (.method "cloister/config.halfOf") #[.iface HT HV] #[]) rfl (by kernel_rfl) (.inl ⟨by rfl, ?_⟩) HSX ?_
 ·intro wx d0
  skip
  go_simp
 simp only [Act.put, sl0', sl1', sl2']
 refine tk hPan (i := 5) (oi := ⟨some 25, Op.nilCheck (.tmp 24), 168, "fields.go:81", #[gd' 4], none⟩) (v := .func (.method "cloister/config.halfOf") #[.iface HT HV] #[]) rfl (by kernel_rfl) (.inl ⟨by rfl, ?_⟩) HSX ?_
 ·intro wx d0
  skip
  go_simp
 simp only [Act.put, sl0', sl1', sl2']
 refine tk hPan (i := 6) (oi := ⟨some 26, Op.move (.tmp 20), 138, "fields.go:81", #[gd' 0, gd' 4, gd' 5], none⟩) (v := .iface HT HV) rfl (by kernel_rfl) (.inl ⟨by rfl, ?_⟩) HSX ?_
 ·intro wx d0
  skip
  go_simp
 simp only [Act.put, sl0', sl1', sl2']
 refine wpAnyH_ready (rs := [7]) (by kernel_rfl) (by simp) ?_
 refine AllReadyH.cons (o := ⟨some 27, Op.call { callee := Callee.invoke (.tmp 26) "cloister/config.halfOf", args := #[Operand.tmp 23], argTypes := #[169] }, 0, "fields.go:81", #[gd' 6, gd' 3], none⟩) rfl (fun K hK => ?_) AllReadyH.nil
 rw [if_pos (by rfl)]
 go_simp
 go_at_fn F
 refine hcall.mono ?_
 rintro e w1 ⟨rfl, HS1, hP⟩
 go_simp
 refine hK.out _ _ HS1 (fun HSX => ?_)
 clear hK K
 refine wpAnyH_done (by kernel_rfl) ?_ _
 exact hQ  _ hP
def ops72_3 : Array Oper := #[⟨some 28, Op.move (.tmp 0), 138, "fields.go:82", #[], none⟩,
 ⟨some 29, Op.move (.tmp 1), 150, "fields.go:82", #[], none⟩,
 ⟨some 30, Op.nilCheck (.tmp 29), 0, "fields.go:82", #[gd' 1], none⟩,
 ⟨some 31, Op.fieldAddr 98 (.tmp 30) 3, 0, "fields.go:82", #[gd' 2], none⟩,
 ⟨some 32, Op.makeFunc (Fn.method "cloister/config.halfOf") #[Operand.tmp 28] #[], 168, "fields.go:82", #[gd' 0], none⟩,
 ⟨some 33, Op.nilCheck (.tmp 32), 168, "fields.go:82", #[gd' 4], none⟩,
 ⟨some 34, Op.move (.tmp 28), 138, "fields.go:82", #[gd' 0, gd' 4, gd' 5], none⟩,
 ⟨some 35, Op.call { callee := Callee.invoke (.tmp 34) "cloister/config.halfOf", args := #[Operand.tmp 31], argTypes := #[169] }, 0, "fields.go:82", #[gd' 6, gd' 3], none⟩]
set_option maxHeartbeats 8000000 in
set_option maxRecDepth 100000 in
theorem reg72_3 (W : World) (b o : Nat) (HT : TypeId) (HV : Value) (RV : Value) (F : Nat) (H : Mth HT HV "cloister/config.halfOf" F RV) (hS : (fun w' => True) W.drew) (P : World → Prop) (hcall : Calls Tryz.prog F #[RV, .pointer (some ⟨b, o + 3, none⟩)] W.drew fun e x1 => e = .returned (.tuple #[]) ∧ (True) ∧ P  x1)
  (Q : Exit → Act → World → Prop) (hPan : ∀ c (a : Act) w (d : Option Tmp) v, Q (.panic c) (a.put d v) w → Q (.panic c) a w) {u2 u3 u4 u5 u6 u7 u8 u9 u10 u11 u12 u13 u14 u15 u16 u17 u18 u19 u20 u21 u22 u23 u24 u25 u26 u27 u28 u29 u30 u31 u32 u33 u34 u35 u36 u37 u38 u39 u40 u41 u42 u43 u44 u45 u46 u47 u48 u49 u50 u51 u52 u53 : Value}
  (hQ : ∀  w1, P  w1 → Q .normal ⟨#[.iface HT HV, .pointer (some ⟨b, o, none⟩), u2,u3,u4,u5,u6,u7,u8,u9,u10,u11,u12,u13,u14,u15,u16,u17,u18,u19,u20,u21,u22,u23,u24,u25,u26,u27, .iface HT HV, .pointer (some ⟨b, o, none⟩), .pointer (some ⟨b, o, none⟩), .pointer (some ⟨b, o + 3, none⟩), .func (.method "cloister/config.halfOf") #[.iface HT HV] #[], .func (.method "cloister/config.halfOf") #[.iface HT HV] #[], .iface HT HV, .tuple #[], u36,u37,u38,u39,u40,u41,u42,u43,u44,u45,u46,u47,u48,u49,u50,u51,u52,u53], []⟩ w1) :
  Code.wp Tryz.prog (Code.region 3 ops72_3 true) Q ⟨#[.iface HT HV, .pointer (some ⟨b, o, none⟩), u2,u3,u4,u5,u6,u7,u8,u9,u10,u11,u12,u13,u14,u15,u16,u17,u18,u19,u20,u21,u22,u23,u24,u25,u26,u27,u28,u29,u30,u31,u32,u33,u34,u35,u36,u37,u38,u39,u40,u41,u42,u43,u44,u45,u46,u47,u48,u49,u50,u51,u52,u53], []⟩ W := by
 have hm := H.m
 have hn := H.n
 have hent := H.e
 clear H
 refine wp_region_held_drew (S := fun w' => True) hmx hS (fun HSX => ?_)
 clear hS
 obtain ⟨W0, hW0⟩ : ∃ W0,W0 = W.drew := ⟨_, rfl⟩
 rw [← hW0] at hcall ⊢
 clear hW0
 refine tk hPan (i := 0) (oi := ⟨some 28, Op.move (.tmp 0), 138, "fields.go:82", #[], none⟩) (v := .iface HT HV) rfl (by kernel_rfl) (.inl ⟨by rfl, ?_⟩) HSX ?_
 ·intro wx d0
  skip
  go_simp
 simp only [Act.put, sl0', sl1', sl2']
 refine tk hPan (i := 1) (oi := ⟨some 29, Op.move (.tmp 1), 150, "fields.go:82", #[], none⟩) (v := .pointer (some ⟨b, o, none⟩)) rfl (by kernel_rfl) (.inl ⟨by rfl, ?_⟩) HSX ?_
 ·intro wx d0
  skip
  go_simp
 simp only [Act.put, sl0', sl1', sl2']
 refine tk hPan (i := 2) (oi := ⟨some 30, Op.nilCheck (.tmp 29), 0, "fields.go:82", #[gd' 1], none⟩) (v := .pointer (some ⟨b, o, none⟩)) rfl (by kernel_rfl) (.inl ⟨by rfl, ?_⟩) HSX ?_
 ·intro wx d0
  skip
  go_simp
 simp only [Act.put, sl0', sl1', sl2']
 refine tk hPan (i := 3) (oi := ⟨some 31, Op.fieldAddr 98 (.tmp 30) 3, 0, "fields.go:82", #[gd' 2], none⟩) (v := .pointer (some ⟨b, o + 3, none⟩)) rfl (by kernel_rfl) (.inl ⟨by rfl, ?_⟩) HSX ?_
 ·intro wx d0
  skip
  go_simp
 simp only [Act.put, sl0', sl1', sl2']
 refine tk hPan (i := 4) (oi := ⟨some 32, Op.makeFunc (Fn.method "cloister/config.halfOf") #[Operand.tmp 28] #[], 168, "fields.go:82", #[gd' 0], none⟩) (v := .func (.method "cloister/config.halfOf") #[.iface HT HV] #[]) rfl (by kernel_rfl) (.inl ⟨by rfl, ?_⟩) HSX ?_
 ·intro wx d0
  skip
  go_simp
 simp only [Act.put, sl0', sl1', sl2']
 refine tk hPan (i := 5) (oi := ⟨some 33, Op.nilCheck (.tmp 32), 168, "fields.go:82", #[gd' 4], none⟩) (v := .func (.method "cloister/config.halfOf") #[.iface HT HV] #[]) rfl (by kernel_rfl) (.inl ⟨by rfl, ?_⟩) HSX ?_
 ·intro wx d0
  skip
  go_simp
 simp only [Act.put, sl0', sl1', sl2']
 refine tk hPan (i := 6) (oi := ⟨some 34, Op.move (.tmp 28), 138, "fields.go:82", #[gd' 0, gd' 4, gd' 5], none⟩) (v := .iface HT HV) rfl (by kernel_rfl) (.inl ⟨by rfl, ?_⟩) HSX ?_
 ·intro wx d0
  skip
  go_simp
 simp only [Act.put, sl0', sl1', sl2']
 refine wpAnyH_ready (rs := [7]) (by kernel_rfl) (by simp) ?_
 refine AllReadyH.cons (o := ⟨some 35, Op.call { callee := Callee.invoke (.tmp 34) "cloister/config.halfOf", args := #[Operand.tmp 31], argTypes := #[169] }, 0, "fields.go:82", #[gd' 6, gd' 3], none⟩) rfl (fun K hK => ?_) AllReadyH.nil
 rw [if_pos (by rfl)]
 go_simp
 go_at_fn F
 refine hcall.mono ?_
 rintro e w1 ⟨rfl, HS1, hP⟩
 go_simp
 refine hK.out _ _ HS1 (fun HSX => ?_)
 clear hK K
 refine wpAnyH_done (by kernel_rfl) ?_ _
 exact hQ  _ hP
def ops72_4 : Array Oper := #[⟨some 36, Op.move (.tmp 0), 138, "fields.go:83", #[], none⟩,
 ⟨some 37, Op.move (.tmp 1), 150, "fields.go:83", #[], none⟩,
 ⟨some 38, Op.nilCheck (.tmp 37), 0, "fields.go:83", #[gd' 1], none⟩,
 ⟨some 39, Op.fieldAddr 98 (.tmp 38) 4, 0, "fields.go:83", #[gd' 2], none⟩,
 ⟨some 40, Op.makeFunc (Fn.method "cloister/config.halfOf") #[Operand.tmp 36] #[], 168, "fields.go:83", #[gd' 0], none⟩,
 ⟨some 41, Op.nilCheck (.tmp 40), 168, "fields.go:83", #[gd' 4], none⟩,
 ⟨some 42, Op.move (.tmp 36), 138, "fields.go:83", #[gd' 0, gd' 4, gd' 5], none⟩,
 ⟨some 43, Op.call { callee := Callee.invoke (.tmp 42) "cloister/config.halfOf", args := #[Operand.tmp 39], argTypes := #[169] }, 0, "fields.go:83", #[gd' 6, gd' 3], none⟩]
set_option maxHeartbeats 8000000 in
set_option maxRecDepth 100000 in
theorem reg72_4 (W : World) (b o : Nat) (HT : TypeId) (HV : Value) (RV : Value) (F : Nat) (H : Mth HT HV "cloister/config.halfOf" F RV) (hS : (fun w' => True) W.drew) (P : World → Prop) (hcall : Calls Tryz.prog F #[RV, .pointer (some ⟨b, o + 4, none⟩)] W.drew fun e x1 => e = .returned (.tuple #[]) ∧ (True) ∧ P  x1)
  (Q : Exit → Act → World → Prop) (hPan : ∀ c (a : Act) w (d : Option Tmp) v, Q (.panic c) (a.put d v) w → Q (.panic c) a w) {u2 u3 u4 u5 u6 u7 u8 u9 u10 u11 u12 u13 u14 u15 u16 u17 u18 u19 u20 u21 u22 u23 u24 u25 u26 u27 u28 u29 u30 u31 u32 u33 u34 u35 u36 u37 u38 u39 u40 u41 u42 u43 u44 u45 u46 u47 u48 u49 u50 u51 u52 u53 : Value}
  (hQ : ∀  w1, P  w1 → Q .normal ⟨#[.iface HT HV, .pointer (some ⟨b, o, none⟩), u2,u3,u4,u5,u6,u7,u8,u9,u10,u11,u12,u13,u14,u15,u16,u17,u18,u19,u20,u21,u22,u23,u24,u25,u26,u27,u28,u29,u30,u31,u32,u33,u34,u35, .iface HT HV, .pointer (some ⟨b, o, none⟩), .pointer (some ⟨b, o, none⟩), .pointer (some ⟨b, o + 4, none⟩), .func (.method "cloister/config.halfOf") #[.iface HT HV] #[], .func (.method "cloister/config.halfOf") #[.iface HT HV] #[], .iface HT HV, .tuple #[], u44,u45,u46,u47,u48,u49,u50,u51,u52,u53], []⟩ w1) :
  Code.wp Tryz.prog (Code.region 4 ops72_4 true) Q ⟨#[.iface HT HV, .pointer (some ⟨b, o, none⟩), u2,u3,u4,u5,u6,u7,u8,u9,u10,u11,u12,u13,u14,u15,u16,u17,u18,u19,u20,u21,u22,u23,u24,u25,u26,u27,u28,u29,u30,u31,u32,u33,u34,u35,u36,u37,u38,u39,u40,u41,u42,u43,u44,u45,u46,u47,u48,u49,u50,u51,u52,u53], []⟩ W := by
 have hm := H.m
 have hn := H.n
 have hent := H.e
 clear H
 refine wp_region_held_drew (S := fun w' => True) hmx hS (fun HSX => ?_)
 clear hS
 obtain ⟨W0, hW0⟩ : ∃ W0,W0 = W.drew := ⟨_, rfl⟩
 rw [← hW0] at hcall ⊢
 clear hW0
 refine tk hPan (i := 0) (oi := ⟨some 36, Op.move (.tmp 0), 138, "fields.go:83", #[], none⟩) (v := .iface HT HV) rfl (by kernel_rfl) (.inl ⟨by rfl, ?_⟩) HSX ?_
 ·intro wx d0
  skip
  go_simp
 simp only [Act.put, sl0', sl1', sl2']
 refine tk hPan (i := 1) (oi := ⟨some 37, Op.move (.tmp 1), 150, "fields.go:83", #[], none⟩) (v := .pointer (some ⟨b, o, none⟩)) rfl (by kernel_rfl) (.inl ⟨by rfl, ?_⟩) HSX ?_
 ·intro wx d0
  skip
  go_simp
 simp only [Act.put, sl0', sl1', sl2']
 refine tk hPan (i := 2) (oi := ⟨some 38, Op.nilCheck (.tmp 37), 0, "fields.go:83", #[gd' 1], none⟩) (v := .pointer (some ⟨b, o, none⟩)) rfl (by kernel_rfl) (.inl ⟨by rfl, ?_⟩) HSX ?_
 ·intro wx d0
  skip
  go_simp
 simp only [Act.put, sl0', sl1', sl2']
 refine tk hPan (i := 3) (oi := ⟨some 39, Op.fieldAddr 98 (.tmp 38) 4, 0, "fields.go:83", #[gd' 2], none⟩) (v := .pointer (some ⟨b, o + 4, none⟩)) rfl (by kernel_rfl) (.inl ⟨by rfl, ?_⟩) HSX ?_
 ·intro wx d0
  skip
  go_simp
 simp only [Act.put, sl0', sl1', sl2']
 refine tk hPan (i := 4) (oi := ⟨some 40, Op.makeFunc (Fn.method "cloister/config.halfOf") #[Operand.tmp 36] #[], 168, "fields.go:83", #[gd' 0], none⟩) (v := .func (.method "cloister/config.halfOf") #[.iface HT HV] #[]) rfl (by kernel_rfl) (.inl ⟨by rfl, ?_⟩) HSX ?_
 ·intro wx d0
  skip
  go_simp
 simp only [Act.put, sl0', sl1', sl2']
 refine tk hPan (i := 5) (oi := ⟨some 41, Op.nilCheck (.tmp 40), 168, "fields.go:83", #[gd' 4], none⟩) (v := .func (.method "cloister/config.halfOf") #[.iface HT HV] #[]) rfl (by kernel_rfl) (.inl ⟨by rfl, ?_⟩) HSX ?_
 ·intro wx d0
  skip
  go_simp
 simp only [Act.put, sl0', sl1', sl2']
 refine tk hPan (i := 6) (oi := ⟨some 42, Op.move (.tmp 36), 138, "fields.go:83", #[gd' 0, gd' 4, gd' 5], none⟩) (v := .iface HT HV) rfl (by kernel_rfl) (.inl ⟨by rfl, ?_⟩) HSX ?_
 ·intro wx d0
  skip
  go_simp
 simp only [Act.put, sl0', sl1', sl2']
 refine wpAnyH_ready (rs := [7]) (by kernel_rfl) (by simp) ?_
 refine AllReadyH.cons (o := ⟨some 43, Op.call { callee := Callee.invoke (.tmp 42) "cloister/config.halfOf", args := #[Operand.tmp 39], argTypes := #[169] }, 0, "fields.go:83", #[gd' 6, gd' 3], none⟩) rfl (fun K hK => ?_) AllReadyH.nil
 rw [if_pos (by rfl)]
 go_simp
 go_at_fn F
 refine hcall.mono ?_
 rintro e w1 ⟨rfl, HS1, hP⟩
 go_simp
 refine hK.out _ _ HS1 (fun HSX => ?_)
 clear hK K
 refine wpAnyH_done (by kernel_rfl) ?_ _
 exact hQ  _ hP
def ops72_5 : Array Oper := #[⟨some 44, Op.move (.tmp 0), 138, "fields.go:84", #[], none⟩,
 ⟨some 45, Op.move (.tmp 1), 150, "fields.go:84", #[], none⟩,
 ⟨some 46, Op.nilCheck (.tmp 45), 0, "fields.go:84", #[gd' 1], none⟩,
 ⟨some 47, Op.fieldAddr 98 (.tmp 46) 5, 0, "fields.go:84", #[gd' 2], none⟩,
 ⟨some 48, Op.makeFunc (Fn.method "cloister/config.flag") #[Operand.tmp 44] #[], 183, "fields.go:84", #[gd' 0], none⟩,
 ⟨some 49, Op.nilCheck (.tmp 48), 183, "fields.go:84", #[gd' 4], none⟩,
 ⟨some 50, Op.move (.tmp 44), 138, "fields.go:84", #[gd' 0, gd' 4, gd' 5], none⟩,
 ⟨some 51, Op.call { callee := Callee.invoke (.tmp 50) "cloister/config.flag", args := #[Operand.tmp 47], argTypes := #[184] }, 0, "fields.go:84", #[gd' 6, gd' 3], none⟩]
set_option maxHeartbeats 8000000 in
set_option maxRecDepth 100000 in
theorem reg72_5 (W : World) (b o : Nat) (HT : TypeId) (HV : Value) (RV : Value) (F : Nat) (H : Mth HT HV "cloister/config.flag" F RV) (hS : (fun w' => True) W.drew) (P : World → Prop) (hcall : Calls Tryz.prog F #[RV, .pointer (some ⟨b, o + 5, none⟩)] W.drew fun e x1 => e = .returned (.tuple #[]) ∧ (True) ∧ P  x1)
  (Q : Exit → Act → World → Prop) (hPan : ∀ c (a : Act) w (d : Option Tmp) v, Q (.panic c) (a.put d v) w → Q (.panic c) a w) {u2 u3 u4 u5 u6 u7 u8 u9 u10 u11 u12 u13 u14 u15 u16 u17 u18 u19 u20 u21 u22 u23 u24 u25 u26 u27 u28 u29 u30 u31 u32 u33 u34 u35 u36 u37 u38 u39 u40 u41 u42 u43 u44 u45 u46 u47 u48 u49 u50 u51 u52 u53 : Value}
  (hQ : ∀  w1, P  w1 → Q .normal ⟨#[.iface HT HV, .pointer (some ⟨b, o, none⟩), u2,u3,u4,u5,u6,u7,u8,u9,u10,u11,u12,u13,u14,u15,u16,u17,u18,u19,u20,u21,u22,u23,u24,u25,u26,u27,u28,u29,u30,u31,u32,u33,u34,u35,u36,u37,u38,u39,u40,u41,u42,u43, .iface HT HV, .pointer (some ⟨b, o, none⟩), .pointer (some ⟨b, o, none⟩), .pointer (some ⟨b, o + 5, none⟩), .func (.method "cloister/config.flag") #[.iface HT HV] #[], .func (.method "cloister/config.flag") #[.iface HT HV] #[], .iface HT HV, .tuple #[], u52,u53], []⟩ w1) :
  Code.wp Tryz.prog (Code.region 5 ops72_5 true) Q ⟨#[.iface HT HV, .pointer (some ⟨b, o, none⟩), u2,u3,u4,u5,u6,u7,u8,u9,u10,u11,u12,u13,u14,u15,u16,u17,u18,u19,u20,u21,u22,u23,u24,u25,u26,u27,u28,u29,u30,u31,u32,u33,u34,u35,u36,u37,u38,u39,u40,u41,u42,u43,u44,u45,u46,u47,u48,u49,u50,u51,u52,u53], []⟩ W := by
 have hm := H.m
 have hn := H.n
 have hent := H.e
 clear H
 refine wp_region_held_drew (S := fun w' => True) hmx hS (fun HSX => ?_)
 clear hS
 obtain ⟨W0, hW0⟩ : ∃ W0,W0 = W.drew := ⟨_, rfl⟩
 rw [← hW0] at hcall ⊢
 clear hW0
 refine tk hPan (i := 0) (oi := ⟨some 44, Op.move (.tmp 0), 138, "fields.go:84", #[], none⟩) (v := .iface HT HV) rfl (by kernel_rfl) (.inl ⟨by rfl, ?_⟩) HSX ?_
 ·intro wx d0
  skip
  go_simp
 simp only [Act.put, sl0', sl1', sl2']
 refine tk hPan (i := 1) (oi := ⟨some 45, Op.move (.tmp 1), 150, "fields.go:84", #[], none⟩) (v := .pointer (some ⟨b, o, none⟩)) rfl (by kernel_rfl) (.inl ⟨by rfl, ?_⟩) HSX ?_
 ·intro wx d0
  skip
  go_simp
 simp only [Act.put, sl0', sl1', sl2']
 refine tk hPan (i := 2) (oi := ⟨some 46, Op.nilCheck (.tmp 45), 0, "fields.go:84", #[gd' 1], none⟩) (v := .pointer (some ⟨b, o, none⟩)) rfl (by kernel_rfl) (.inl ⟨by rfl, ?_⟩) HSX ?_
 ·intro wx d0
  skip
  go_simp
 simp only [Act.put, sl0', sl1', sl2']
 refine tk hPan (i := 3) (oi := ⟨some 47, Op.fieldAddr 98 (.tmp 46) 5, 0, "fields.go:84", #[gd' 2], none⟩) (v := .pointer (some ⟨b, o + 5, none⟩)) rfl (by kernel_rfl) (.inl ⟨by rfl, ?_⟩) HSX ?_
 ·intro wx d0
  skip
  go_simp
 simp only [Act.put, sl0', sl1', sl2']
 refine tk hPan (i := 4) (oi := ⟨some 48, Op.makeFunc (Fn.method "cloister/config.flag") #[Operand.tmp 44] #[], 183, "fields.go:84", #[gd' 0], none⟩) (v := .func (.method "cloister/config.flag") #[.iface HT HV] #[]) rfl (by kernel_rfl) (.inl ⟨by rfl, ?_⟩) HSX ?_
 ·intro wx d0
  skip
  go_simp
 simp only [Act.put, sl0', sl1', sl2']
 refine tk hPan (i := 5) (oi := ⟨some 49, Op.nilCheck (.tmp 48), 183, "fields.go:84", #[gd' 4], none⟩) (v := .func (.method "cloister/config.flag") #[.iface HT HV] #[]) rfl (by kernel_rfl) (.inl ⟨by rfl, ?_⟩) HSX ?_
 ·intro wx d0
  skip
  go_simp
 simp only [Act.put, sl0', sl1', sl2']
 refine tk hPan (i := 6) (oi := ⟨some 50, Op.move (.tmp 44), 138, "fields.go:84", #[gd' 0, gd' 4, gd' 5], none⟩) (v := .iface HT HV) rfl (by kernel_rfl) (.inl ⟨by rfl, ?_⟩) HSX ?_
 ·intro wx d0
  skip
  go_simp
 simp only [Act.put, sl0', sl1', sl2']
 refine wpAnyH_ready (rs := [7]) (by kernel_rfl) (by simp) ?_
 refine AllReadyH.cons (o := ⟨some 51, Op.call { callee := Callee.invoke (.tmp 50) "cloister/config.flag", args := #[Operand.tmp 47], argTypes := #[184] }, 0, "fields.go:84", #[gd' 6, gd' 3], none⟩) rfl (fun K hK => ?_) AllReadyH.nil
 rw [if_pos (by rfl)]
 go_simp
 go_at_fn F
 refine hcall.mono ?_
 rintro e w1 ⟨rfl, HS1, hP⟩
 go_simp
 refine hK.out _ _ HS1 (fun HSX => ?_)
 clear hK K
 refine wpAnyH_done (by kernel_rfl) ?_ _
 exact hQ  _ hP
end Go.Proofs.YtknlpjcdemijgaaGreat
