import Derived.Test.YtkggkkoblpdopaaGreatXa
namespace Go.Proofs.YtkggkkoblpdopaaGreat
open Go.ChangeShapes Go.WideShapes Go.ChangeAt Go.RowKit
set_option linter.unusedVariables false
def ops61_0 : Array Oper := #[⟨some 4, Op.move (.tmp 0), 138, "fields.go:78", #[], none⟩,
 ⟨some 5, Op.move (.tmp 1), 169, "fields.go:78", #[], none⟩,
 ⟨some 6, Op.nilCheck (.tmp 5), 0, "fields.go:78", #[gd' 1], none⟩,
 ⟨some 7, Op.fieldAddr 114 (.tmp 6) 0, 0, "fields.go:78", #[gd' 2], none⟩,
 ⟨some 8, Op.makeFunc (Fn.method "cloister/snapshot.flag") #[Operand.tmp 4] #[], 141, "fields.go:78", #[gd' 0], none⟩,
 ⟨some 9, Op.nilCheck (.tmp 8), 141, "fields.go:78", #[gd' 4], none⟩,
 ⟨some 10, Op.move (.tmp 4), 138, "fields.go:78", #[gd' 0, gd' 4, gd' 5], none⟩,
 ⟨some 11, Op.call { callee := Callee.invoke (.tmp 10) "cloister/snapshot.flag", args := #[Operand.tmp 7], argTypes := #[142] }, 0, "fields.go:78", #[gd' 6, gd' 3], none⟩]
set_option maxHeartbeats 8000000 in
set_option maxRecDepth 100000 in
theorem reg61_0 (W : World) (b o : Nat) (HT : TypeId) (HV : Value) (RV : Value) (F : Nat) (H : Mth HT HV "cloister/snapshot.flag" F RV) (hS : (fun w' => True) W.drew) (P : World → Prop) (hcall : Calls Tryz.prog F #[RV, .pointer (some ⟨b, o, none⟩)] W.drew fun e x1 => e = .returned (.tuple #[]) ∧ (True) ∧ P  x1)
  (Q : Exit → Act → World → Prop) (hPan : ∀ c (a : Act) w (d : Option Tmp) v, Q (.panic c) (a.put d v) w → Q (.panic c) a w) {u2 u3 u4 u5 u6 u7 u8 u9 u10 u11 u12 u13 u14 u15 u16 u17 u18 u19 u20 u21 u22 u23 u24 u25 u26 u27 u28 u29 u30 u31 : Value}
  (hQ : ∀  w1, P  w1 → Q .normal ⟨#[.iface HT HV, .pointer (some ⟨b, o, none⟩), u2,u3, .iface HT HV, .pointer (some ⟨b, o, none⟩), .pointer (some ⟨b, o, none⟩), .pointer (some ⟨b, o, none⟩), .func (.method "cloister/snapshot.flag") #[.iface HT HV] #[], .func (.method "cloister/snapshot.flag") #[.iface HT HV] #[], .iface HT HV, .tuple #[], u12,u13,u14,u15,u16,u17,u18,u19,u20,u21,u22,u23,u24,u25,u26,u27,u28,u29,u30,u31], []⟩ w1) :
  Code.wp Tryz.prog (Code.region 0 ops61_0 true) Q ⟨#[.iface HT HV, .pointer (some ⟨b, o, none⟩), u2,u3,u4,u5,u6,u7,u8,u9,u10,u11,u12,u13,u14,u15,u16,u17,u18,u19,u20,u21,u22,u23,u24,u25,u26,u27,u28,u29,u30,u31], []⟩ W := by
 have hm := H.m
 have hn := H.n
 have hent := H.e
 clear H
 refine wp_region_held_drew (S := fun w' => True) hmx hS (fun HSX => ?_)
 clear hS
 obtain ⟨W0, hW0⟩ : ∃ W0,W0 = W.drew := ⟨_, rfl⟩
 rw [← hW0] at hcall ⊢
 clear hW0
 refine tk hPan (i := 0) (oi := ⟨some 4, Op.move (.tmp 0), 138, "fields.go:78", #[], none⟩) (v := .iface HT HV) rfl (by kernel_rfl) (.inl ⟨by rfl, ?_⟩) HSX ?_
 ·intro wx d0
  skip
  go_simp
 simp only [Act.put, sl0', sl1', sl2']
 refine tk hPan (i := 1) (oi := ⟨some 5, Op.move (.tmp 1), 169, "fields.go:78", #[], none⟩) (v := .pointer (some ⟨b, o, none⟩)) rfl (by kernel_rfl) (.inl ⟨by rfl, ?_⟩) HSX ?_
 ·intro wx d0
  skip
  go_simp
 simp only [Act.put, sl0', sl1', sl2']
 refine tk hPan (i := 2) (oi := ⟨some 6, Op.nilCheck (.tmp 5), 0, "fields.go:78", #[gd' 1], none⟩) (v := .pointer (some ⟨b, o, none⟩)) rfl (by kernel_rfl) (.inl ⟨by rfl, ?_⟩) HSX ?_
 ·intro wx d0
  skip
  go_simp
 simp only [Act.put, sl0', sl1', sl2']
 refine tk hPan (i := 3) (oi := ⟨some 7, Op.fieldAddr 114 (.tmp 6) 0, 0, "fields.go:78", #[gd' 2], none⟩) (v := .pointer (some ⟨b, o, none⟩)) rfl (by kernel_rfl) (.inl ⟨by rfl, ?_⟩) HSX ?_
 ·intro wx d0
  skip
  go_simp
 simp only [Act.put, sl0', sl1', sl2']
 refine tk hPan (i := 4) (oi := ⟨some 8, Op.makeFunc (Fn.method "cloister/snapshot.flag") #[Operand.tmp 4] #[], 141, "fields.go:78", #[gd' 0], none⟩) (v := .func (.method "cloister/snapshot.flag") #[.iface HT HV] #[]) rfl (by kernel_rfl) (.inl ⟨by rfl, ?_⟩) HSX ?_
 ·intro wx d0
  skip
  go_simp
 simp only [Act.put, sl0', sl1', sl2']
 refine tk hPan (i := 5) (oi := ⟨some 9, Op.nilCheck (.tmp 8), 141, "fields.go:78", #[gd' 4], none⟩) (v := .func (.method "cloister/snapshot.flag") #[.iface HT HV] #[]) rfl (by kernel_rfl) (.inl ⟨by rfl, ?_⟩) HSX ?_
 ·intro wx d0
  skip
  go_simp
 simp only [Act.put, sl0', sl1', sl2']
 refine tk hPan (i := 6) (oi := ⟨some 10, Op.move (.tmp 4), 138, "fields.go:78", #[gd' 0, gd' 4, gd' 5], none⟩) (v := .iface HT HV) rfl (by kernel_rfl) (.inl ⟨by rfl, ?_⟩) HSX ?_
 ·intro wx d0
  skip
  go_simp
 simp only [Act.put, sl0', sl1', sl2']
 refine wpAnyH_ready (rs := [7]) (by kernel_rfl) (by simp) ?_
 refine AllReadyH.cons (o := ⟨some 11, Op.call { callee := Callee.invoke (.tmp 10) "cloister/snapshot.flag", args := #[Operand.tmp 7], argTypes := #[142] }, 0, "fields.go:78", #[gd' 6, gd' 3], none⟩) rfl (fun K hK => ?_) AllReadyH.nil
 rw [if_pos (by rfl)]
 go_simp
 go_at_fn F
 refine hcall.mono ?_
 rintro e w1 ⟨rfl, HS1, hP⟩
 go_simp
 refine hK.out _ _ HS1 (fun HSX => ?_)
 clear hK K
 refine wpAnyH_done (by kernel_rfl) ?_ _
 exact hQ  _ hP
def ops61_1 : Array Oper := #[⟨some 12, Op.move (.tmp 0), 138, "fields.go:79", #[], none⟩,
 ⟨some 13, Op.move (.tmp 1), 169, "fields.go:79", #[], none⟩,
 ⟨some 14, Op.nilCheck (.tmp 13), 0, "fields.go:79", #[gd' 1], none⟩,
 ⟨some 15, Op.fieldAddr 114 (.tmp 14) 1, 0, "fields.go:79", #[gd' 2], none⟩,
 ⟨some 16, Op.makeFunc (Fn.method "cloister/snapshot.flag") #[Operand.tmp 12] #[], 141, "fields.go:79", #[gd' 0], none⟩,
 ⟨some 17, Op.nilCheck (.tmp 16), 141, "fields.go:79", #[gd' 4], none⟩,
 ⟨some 18, Op.move (.tmp 12), 138, "fields.go:79", #[gd' 0, gd' 4, gd' 5], none⟩,
 ⟨some 19, Op.call { callee := Callee.invoke (.tmp 18) "cloister/snapshot.flag", args := #[Operand.tmp 15], argTypes := #[142] }, 0, "fields.go:79", #[gd' 6, gd' 3], none⟩]
set_option maxHeartbeats 8000000 in
set_option maxRecDepth 100000 in
theorem reg61_1 (W : World) (b o : Nat) (HT : TypeId) (HV : Value) (RV : Value) (F : Nat) (H : Mth HT HV "cloister/snapshot.flag" F RV) (hS : (fun w' => True) W.drew) (P : World → Prop) (hcall : Calls Tryz.prog F #[RV, .pointer (some ⟨b, o + 1, none⟩)] W.drew fun e x1 => e = .returned (.tuple #[]) ∧ (True) ∧ P  x1)
  (Q : Exit → Act → World → Prop) (hPan : ∀ c (a : Act) w (d : Option Tmp) v, Q (.panic c) (a.put d v) w → Q (.panic c) a w) {u2 u3 u4 u5 u6 u7 u8 u9 u10 u11 u12 u13 u14 u15 u16 u17 u18 u19 u20 u21 u22 u23 u24 u25 u26 u27 u28 u29 u30 u31 : Value}
  (hQ : ∀  w1, P  w1 → Q .normal ⟨#[.iface HT HV, .pointer (some ⟨b, o, none⟩), u2,u3,u4,u5,u6,u7,u8,u9,u10,u11, .iface HT HV, .pointer (some ⟨b, o, none⟩), .pointer (some ⟨b, o, none⟩), .pointer (some ⟨b, o + 1, none⟩), .func (.method "cloister/snapshot.flag") #[.iface HT HV] #[], .func (.method "cloister/snapshot.flag") #[.iface HT HV] #[], .iface HT HV, .tuple #[], u20,u21,u22,u23,u24,u25,u26,u27,u28,u29,u30,u31], []⟩ w1) :
  Code.wp Tryz.prog (Code.region 1 ops61_1 true) Q ⟨#[.iface HT HV, .pointer (some ⟨b, o, none⟩), u2,u3,u4,u5,u6,u7,u8,u9,u10,u11,u12,u13,u14,u15,u16,u17,u18,u19,u20,u21,u22,u23,u24,u25,u26,u27,u28,u29,u30,u31], []⟩ W := by
 have hm := H.m
 have hn := H.n
 have hent := H.e
 clear H
 refine wp_region_held_drew (S := fun w' => True) hmx hS (fun HSX => ?_)
 clear hS
 obtain ⟨W0, hW0⟩ : ∃ W0,W0 = W.drew := ⟨_, rfl⟩
 rw [← hW0] at hcall ⊢
 clear hW0
 refine tk hPan (i := 0) (oi := ⟨some 12, Op.move (.tmp 0), 138, "fields.go:79", #[], none⟩) (v := .iface HT HV) rfl (by kernel_rfl) (.inl ⟨by rfl, ?_⟩) HSX ?_
 ·intro wx d0
  skip
  go_simp
 simp only [Act.put, sl0', sl1', sl2']
 refine tk hPan (i := 1) (oi := ⟨some 13, Op.move (.tmp 1), 169, "fields.go:79", #[], none⟩) (v := .pointer (some ⟨b, o, none⟩)) rfl (by kernel_rfl) (.inl ⟨by rfl, ?_⟩) HSX ?_
 ·intro wx d0
  skip
  go_simp
 simp only [Act.put, sl0', sl1', sl2']
 refine tk hPan (i := 2) (oi := ⟨some 14, Op.nilCheck (.tmp 13), 0, "fields.go:79", #[gd' 1], none⟩) (v := .pointer (some ⟨b, o, none⟩)) rfl (by kernel_rfl) (.inl ⟨by rfl, ?_⟩) HSX ?_
 ·intro wx d0
  skip
  go_simp
 simp only [Act.put, sl0', sl1', sl2']
 refine tk hPan (i := 3) (oi := ⟨some 15, Op.fieldAddr 114 (.tmp 14) 1, 0, "fields.go:79", #[gd' 2], none⟩) (v := .pointer (some ⟨b, o + 1, none⟩)) rfl (by kernel_rfl) (.inl ⟨by rfl, ?_⟩) HSX ?_
 ·intro wx d0
  skip
  go_simp
 simp only [Act.put, sl0', sl1', sl2']
 refine tk hPan (i := 4) (oi := ⟨some 16, Op.makeFunc (Fn.method "cloister/snapshot.flag") #[Operand.tmp 12] #[], 141, "fields.go:79", #[gd' 0], none⟩) (v := .func (.method "cloister/snapshot.flag") #[.iface HT HV] #[]) rfl (by kernel_rfl) (.inl ⟨by rfl, ?_⟩) HSX ?_
 ·intro wx d0
  skip
  go_simp
 simp only [Act.put, sl0', sl1', sl2']
 refine tk hPan (i := 5) (oi := ⟨some 17, Op.nilCheck (.tmp 16), 141, "fields.go:79", #[gd' 4], none⟩) (v := .func (.method "cloister/snapshot.flag") #[.iface HT HV] #[]) rfl (by kernel_rfl) (.inl ⟨by rfl, ?_⟩) HSX ?_
 ·intro wx d0
  skip
  go_simp
 simp only [Act.put, sl0', sl1', sl2']
 refine tk hPan (i := 6) (oi := ⟨some 18, Op.move (.tmp 12), 138, "fields.go:79", #[gd' 0, gd' 4, gd' 5], none⟩) (v := .iface HT HV) rfl (by kernel_rfl) (.inl ⟨by rfl, ?_⟩) HSX ?_
 ·intro wx d0
  skip
  go_simp
 simp only [Act.put, sl0', sl1', sl2']
 refine wpAnyH_ready (rs := [7]) (by kernel_rfl) (by simp) ?_
 refine AllReadyH.cons (o := ⟨some 19, Op.call { callee := Callee.invoke (.tmp 18) "cloister/snapshot.flag", args := #[Operand.tmp 15], argTypes := #[142] }, 0, "fields.go:79", #[gd' 6, gd' 3], none⟩) rfl (fun K hK => ?_) AllReadyH.nil
 rw [if_pos (by rfl)]
 go_simp
 go_at_fn F
 refine hcall.mono ?_
 rintro e w1 ⟨rfl, HS1, hP⟩
 go_simp
 refine hK.out _ _ HS1 (fun HSX => ?_)
 clear hK K
 refine wpAnyH_done (by kernel_rfl) ?_ _
 exact hQ  _ hP
def ops64_1 : Array Oper := #[⟨some 4, Op.load 138 (.tmp 2), 138, "fields.go:86", #[], none⟩,
 ⟨some 5, Op.move (.tmp 1), 174, "fields.go:86", #[], none⟩,
 ⟨some 6, Op.nilCheck (.tmp 5), 0, "fields.go:86", #[gd' 1], none⟩,
 ⟨some 7, Op.fieldAddr 69 (.tmp 6) 0, 0, "fields.go:86", #[gd' 2], none⟩,
 ⟨some 8, Op.fieldAddr 67 (.tmp 7) 0, 0, "fields.go:86", #[gd' 3], none⟩,
 ⟨some 9, Op.makeFunc (Fn.method "cloister/snapshot.longOf") #[Operand.tmp 4] #[], 243, "fields.go:86", #[gd' 0], none⟩,
 ⟨some 10, Op.nilCheck (.tmp 9), 243, "fields.go:86", #[gd' 5], none⟩,
 ⟨some 11, Op.move (.tmp 4), 138, "fields.go:86", #[gd' 0, gd' 5, gd' 6], none⟩,
 ⟨some 12, Op.call { callee := Callee.invoke (.tmp 11) "cloister/snapshot.longOf", args := #[Operand.tmp 8], argTypes := #[244] }, 0, "fields.go:86", #[gd' 7, gd' 4], none⟩]
set_option maxHeartbeats 8000000 in
set_option maxRecDepth 100000 in
theorem reg64_1 (W : World) (HB b o : Nat) (HT : TypeId) (HV : Value) (RV : Value) (F : Nat) (H : Mth HT HV "cloister/snapshot.longOf" F RV) (hS : (fun w' => w'.cell? ⟨HB, 0, none⟩ = some (.iface HT HV)) W.drew) (P : World → Prop) (hcall : Calls Tryz.prog F #[RV, .pointer (some ⟨b, o, none⟩)] W.drew fun e x1 => e = .returned (.tuple #[]) ∧ (x1.cell? ⟨HB, 0, none⟩ = some (.iface HT HV)) ∧ P  x1)
  (Q : Exit → Act → World → Prop) (hPan : ∀ c (a : Act) w (d : Option Tmp) v, Q (.panic c) (a.put d v) w → Q (.panic c) a w) {u0 u3 u4 u5 u6 u7 u8 u9 u10 u11 u12 u13 u14 u15 u16 u17 u18 u19 u20 u21 u22 u23 u24 u25 u26 u27 u28 u29 u30 u31 u32 u33 u34 u35 u36 u37 u38 u39 u40 u41 u42 u43 u44 u45 u46 u47 u48 u49 u50 u51 u52 u53 u54 u55 u56 u57 u58 u59 u60 : Value}
  (hQ : ∀  w1, P  w1 → Q .normal ⟨#[u0, .pointer (some ⟨b, o, none⟩), .pointer (some ⟨HB, 0, none⟩), u3, .iface HT HV, .pointer (some ⟨b, o, none⟩), .pointer (some ⟨b, o, none⟩), .pointer (some ⟨b, o, none⟩), .pointer (some ⟨b, o, none⟩), .func (.method "cloister/snapshot.longOf") #[.iface HT HV] #[], .func (.method "cloister/snapshot.longOf") #[.iface HT HV] #[], .iface HT HV, .tuple #[], u13,u14,u15,u16,u17,u18,u19,u20,u21,u22,u23,u24,u25,u26,u27,u28,u29,u30,u31,u32,u33,u34,u35,u36,u37,u38,u39,u40,u41,u42,u43,u44,u45,u46,u47,u48,u49,u50,u51,u52,u53,u54,u55,u56,u57,u58,u59,u60], []⟩ w1) :
  Code.wp Tryz.prog (Code.region 1 ops64_1 true) Q ⟨#[u0, .pointer (some ⟨b, o, none⟩), .pointer (some ⟨HB, 0, none⟩), u3,u4,u5,u6,u7,u8,u9,u10,u11,u12,u13,u14,u15,u16,u17,u18,u19,u20,u21,u22,u23,u24,u25,u26,u27,u28,u29,u30,u31,u32,u33,u34,u35,u36,u37,u38,u39,u40,u41,u42,u43,u44,u45,u46,u47,u48,u49,u50,u51,u52,u53,u54,u55,u56,u57,u58,u59,u60], []⟩ W := by
 have hm := H.m
 have hn := H.n
 have hent := H.e
 clear H
 refine wp_region_held_drew (S := fun w' => w'.cell? ⟨HB, 0, none⟩ = some (.iface HT HV)) hmx hS (fun HSX => ?_)
 clear hS
 obtain ⟨W0, hW0⟩ : ∃ W0,W0 = W.drew := ⟨_, rfl⟩
 rw [← hW0] at HSX hcall ⊢
 clear hW0
 refine tk hPan (i := 0) (oi := ⟨some 4, Op.load 138 (.tmp 2), 138, "fields.go:86", #[], none⟩) (v := .iface HT HV) rfl (by kernel_rfl) (.inl ⟨by rfl, ?_⟩) HSX ?_
 ·intro wx d0
  have s1 := d0
  go_simp
 simp only [Act.put, sl0', sl1', sl2']
 refine tk hPan (i := 1) (oi := ⟨some 5, Op.move (.tmp 1), 174, "fields.go:86", #[], none⟩) (v := .pointer (some ⟨b, o, none⟩)) rfl (by kernel_rfl) (.inl ⟨by rfl, ?_⟩) HSX ?_
 ·intro wx d0
  have s1 := d0
  go_simp
 simp only [Act.put, sl0', sl1', sl2']
 refine tk hPan (i := 2) (oi := ⟨some 6, Op.nilCheck (.tmp 5), 0, "fields.go:86", #[gd' 1], none⟩) (v := .pointer (some ⟨b, o, none⟩)) rfl (by kernel_rfl) (.inl ⟨by rfl, ?_⟩) HSX ?_
 ·intro wx d0
  have s1 := d0
  go_simp
 simp only [Act.put, sl0', sl1', sl2']
 refine tk hPan (i := 3) (oi := ⟨some 7, Op.fieldAddr 69 (.tmp 6) 0, 0, "fields.go:86", #[gd' 2], none⟩) (v := .pointer (some ⟨b, o, none⟩)) rfl (by kernel_rfl) (.inl ⟨by rfl, ?_⟩) HSX ?_
 ·intro wx d0
  have s1 := d0
  go_simp
 simp only [Act.put, sl0', sl1', sl2']
 refine tk hPan (i := 4) (oi := ⟨some 8, Op.fieldAddr 67 (.tmp 7) 0, 0, "fields.go:86", #[gd' 3], none⟩) (v := .pointer (some ⟨b, o, none⟩)) rfl (by kernel_rfl) (.inl ⟨by rfl, ?_⟩) HSX ?_
 ·intro wx d0
  have s1 := d0
  go_simp
 simp only [Act.put, sl0', sl1', sl2']
 refine tk hPan (i := 5) (oi := ⟨some 9, Op.makeFunc (Fn.method "cloister/snapshot.longOf") #[Operand.tmp 4] #[], 243, "fields.go:86", #[gd' 0], none⟩) (v := .func (.method "cloister/snapshot.longOf") #[.iface HT HV] #[]) rfl (by kernel_rfl) (.inl ⟨by rfl, ?_⟩) HSX ?_
 ·intro wx d0
  have s1 := d0
  go_simp
 simp only [Act.put, sl0', sl1', sl2']
 refine tk hPan (i := 6) (oi := ⟨some 10, Op.nilCheck (.tmp 9), 243, "fields.go:86", #[gd' 5], none⟩) (v := .func (.method "cloister/snapshot.longOf") #[.iface HT HV] #[]) rfl (by kernel_rfl) (.inl ⟨by rfl, ?_⟩) HSX ?_
 ·intro wx d0
  have s1 := d0
  go_simp
 simp only [Act.put, sl0', sl1', sl2']
 refine tk hPan (i := 7) (oi := ⟨some 11, Op.move (.tmp 4), 138, "fields.go:86", #[gd' 0, gd' 5, gd' 6], none⟩) (v := .iface HT HV) rfl (by kernel_rfl) (.inl ⟨by rfl, ?_⟩) HSX ?_
 ·intro wx d0
  have s1 := d0
  go_simp
 simp only [Act.put, sl0', sl1', sl2']
 refine wpAnyH_ready (rs := [8]) (by kernel_rfl) (by simp) ?_
 refine AllReadyH.cons (o := ⟨some 12, Op.call { callee := Callee.invoke (.tmp 11) "cloister/snapshot.longOf", args := #[Operand.tmp 8], argTypes := #[244] }, 0, "fields.go:86", #[gd' 7, gd' 4], none⟩) rfl (fun K hK => ?_) AllReadyH.nil
 rw [if_pos (by rfl)]
 go_simp
 go_at_fn F
 refine hcall.mono ?_
 rintro e w1 ⟨rfl, HS1, hP⟩
 go_simp
 refine hK.out _ _ HS1 (fun HSX => ?_)
 clear hK K
 refine wpAnyH_done (by kernel_rfl) ?_ _
 exact hQ  _ hP
def ops64_2 : Array Oper := #[⟨some 13, Op.load 138 (.tmp 2), 138, "fields.go:87", #[], none⟩,
 ⟨some 14, Op.move (.tmp 1), 174, "fields.go:87", #[], none⟩,
 ⟨some 15, Op.nilCheck (.tmp 14), 0, "fields.go:87", #[gd' 1], none⟩,
 ⟨some 16, Op.fieldAddr 69 (.tmp 15) 0, 0, "fields.go:87", #[gd' 2], none⟩,
 ⟨some 17, Op.fieldAddr 67 (.tmp 16) 1, 0, "fields.go:87", #[gd' 3], none⟩,
 ⟨some 18, Op.makeFunc (Fn.method "cloister/snapshot.longOf") #[Operand.tmp 13] #[], 243, "fields.go:87", #[gd' 0], none⟩,
 ⟨some 19, Op.nilCheck (.tmp 18), 243, "fields.go:87", #[gd' 5], none⟩,
 ⟨some 20, Op.move (.tmp 13), 138, "fields.go:87", #[gd' 0, gd' 5, gd' 6], none⟩,
 ⟨some 21, Op.call { callee := Callee.invoke (.tmp 20) "cloister/snapshot.longOf", args := #[Operand.tmp 17], argTypes := #[244] }, 0, "fields.go:87", #[gd' 7, gd' 4], none⟩]
set_option maxHeartbeats 8000000 in
set_option maxRecDepth 100000 in
theorem reg64_2 (W : World) (HB b o : Nat) (HT : TypeId) (HV : Value) (RV : Value) (F : Nat) (H : Mth HT HV "cloister/snapshot.longOf" F RV) (hS : (fun w' => w'.cell? ⟨HB, 0, none⟩ = some (.iface HT HV)) W.drew) (P : World → Prop) (hcall : Calls Tryz.prog F #[RV, .pointer (some ⟨b, o + 1, none⟩)] W.drew fun e x1 => e = .returned (.tuple #[]) ∧ (x1.cell? ⟨HB, 0, none⟩ = some (.iface HT HV)) ∧ P  x1)
  (Q : Exit → Act → World → Prop) (hPan : ∀ c (a : Act) w (d : Option Tmp) v, Q (.panic c) (a.put d v) w → Q (.panic c) a w) {u0 u3 u4 u5 u6 u7 u8 u9 u10 u11 u12 u13 u14 u15 u16 u17 u18 u19 u20 u21 u22 u23 u24 u25 u26 u27 u28 u29 u30 u31 u32 u33 u34 u35 u36 u37 u38 u39 u40 u41 u42 u43 u44 u45 u46 u47 u48 u49 u50 u51 u52 u53 u54 u55 u56 u57 u58 u59 u60 : Value}
  (hQ : ∀  w1, P  w1 → Q .normal ⟨#[u0, .pointer (some ⟨b, o, none⟩), .pointer (some ⟨HB, 0, none⟩), u3,u4,u5,u6,u7,u8,u9,u10,u11,u12, .iface HT HV, .pointer (some ⟨b, o, none⟩), .pointer (some ⟨b, o, none⟩), .pointer (some ⟨b, o, none⟩), .pointer (some ⟨b, o + 1, none⟩), .func (.method "cloister/snapshot.longOf") #[.iface HT HV] #[], .func (.method "cloister/snapshot.longOf") #[.iface HT HV] #[], .iface HT HV, .tuple #[], u22,u23,u24,u25,u26,u27,u28,u29,u30,u31,u32,u33,u34,u35,u36,u37,u38,u39,u40,u41,u42,u43,u44,u45,u46,u47,u48,u49,u50,u51,u52,u53,u54,u55,u56,u57,u58,u59,u60], []⟩ w1) :
  Code.wp Tryz.prog (Code.region 2 ops64_2 true) Q ⟨#[u0, .pointer (some ⟨b, o, none⟩), .pointer (some ⟨HB, 0, none⟩), u3,u4,u5,u6,u7,u8,u9,u10,u11,u12,u13,u14,u15,u16,u17,u18,u19,u20,u21,u22,u23,u24,u25,u26,u27,u28,u29,u30,u31,u32,u33,u34,u35,u36,u37,u38,u39,u40,u41,u42,u43,u44,u45,u46,u47,u48,u49,u50,u51,u52,u53,u54,u55,u56,u57,u58,u59,u60], []⟩ W := by
 have hm := H.m
 have hn := H.n
 have hent := H.e
 clear H
 refine wp_region_held_drew (S := fun w' => w'.cell? ⟨HB, 0, none⟩ = some (.iface HT HV)) hmx hS (fun HSX => ?_)
 clear hS
 obtain ⟨W0, hW0⟩ : ∃ W0,W0 = W.drew := ⟨_, rfl⟩
 rw [← hW0] at HSX hcall ⊢
 clear hW0
 refine tk hPan (i := 0) (oi := ⟨some 13, Op.load 138 (.tmp 2), 138, "fields.go:87", #[], none⟩) (v := .iface HT HV) rfl (by kernel_rfl) (.inl ⟨by rfl, ?_⟩) HSX ?_
 ·intro wx d0
  have s1 := d0
  go_simp
 simp only [Act.put, sl0', sl1', sl2']
 refine tk hPan (i := 1) (oi := ⟨some 14, Op.move (.tmp 1), 174, "fields.go:87", #[], none⟩) (v := .pointer (some ⟨b, o, none⟩)) rfl (by kernel_rfl) (.inl ⟨by rfl, ?_⟩) HSX ?_
 ·intro wx d0
  have s1 := d0
  go_simp
 simp only [Act.put, sl0', sl1', sl2']
 refine tk hPan (i := 2) (oi := ⟨some 15, Op.nilCheck (.tmp 14), 0, "fields.go:87", #[gd' 1], none⟩) (v := .pointer (some ⟨b, o, none⟩)) rfl (by kernel_rfl) (.inl ⟨by rfl, ?_⟩) HSX ?_
 ·intro wx d0
  have s1 := d0
  go_simp
 simp only [Act.put, sl0', sl1', sl2']
 refine tk hPan (i := 3) (oi := ⟨some 16, Op.fieldAddr 69 (.tmp 15) 0, 0, "fields.go:87", #[gd' 2], none⟩) (v := .pointer (some ⟨b, o, none⟩)) rfl (by kernel_rfl) (.inl ⟨by rfl, ?_⟩) HSX ?_
 ·intro wx d0
  have s1 := d0
  go_simp
 simp only [Act.put, sl0', sl1', sl2']
 refine tk hPan (i := 4) (oi := ⟨some 17, Op.fieldAddr 67 (.tmp 16) 1, 0, "fields.go:87", #[gd' 3], none⟩) (v := .pointer (some ⟨b, o + 1, none⟩)) rfl (by kernel_rfl) (.inl ⟨by rfl, ?_⟩) HSX ?_
 ·intro wx d0
  have s1 := d0
  go_simp
 simp only [Act.put, sl0', sl1', sl2']
 refine tk hPan (i := 5) (oi := ⟨some 18, Op.makeFunc (Fn.method "cloister/snapshot.longOf") #[Operand.tmp 13] #[], 243, "fields.go:87", #[gd' 0], none⟩) (v := .func (.method "cloister/snapshot.longOf") #[.iface HT HV] #[]) rfl (by kernel_rfl) (.inl ⟨by rfl, ?_⟩) HSX ?_
 ·intro wx d0
  have s1 := d0
  go_simp
 simp only [Act.put, sl0', sl1', sl2']
 refine tk hPan (i := 6) (oi := ⟨some 19, Op.nilCheck (.tmp 18), 243, "fields.go:87", #[gd' 5], none⟩) (v := .func (.method "cloister/snapshot.longOf") #[.iface HT HV] #[]) rfl (by kernel_rfl) (.inl ⟨by rfl, ?_⟩) HSX ?_
 ·intro wx d0
  have s1 := d0
  go_simp
 simp only [Act.put, sl0', sl1', sl2']
 refine tk hPan (i := 7) (oi := ⟨some 20, Op.move (.tmp 13), 138, "fields.go:87", #[gd' 0, gd' 5, gd' 6], none⟩) (v := .iface HT HV) rfl (by kernel_rfl) (.inl ⟨by rfl, ?_⟩) HSX ?_
 ·intro wx d0
  have s1 := d0
  go_simp
 simp only [Act.put, sl0', sl1', sl2']
 refine wpAnyH_ready (rs := [8]) (by kernel_rfl) (by simp) ?_
 refine AllReadyH.cons (o := ⟨some 21, Op.call { callee := Callee.invoke (.tmp 20) "cloister/snapshot.longOf", args := #[Operand.tmp 17], argTypes := #[244] }, 0, "fields.go:87", #[gd' 7, gd' 4], none⟩) rfl (fun K hK => ?_) AllReadyH.nil
 rw [if_pos (by rfl)]
 go_simp
 go_at_fn F
 refine hcall.mono ?_
 rintro e w1 ⟨rfl, HS1, hP⟩
 go_simp
 refine hK.out _ _ HS1 (fun HSX => ?_)
 clear hK K
 refine wpAnyH_done (by kernel_rfl) ?_ _
 exact hQ  _ hP
def ops64_3 : Array Oper := #[⟨some 22, Op.load 138 (.tmp 2), 138, "fields.go:88", #[], none⟩,
 ⟨some 23, Op.move (.tmp 1), 174, "fields.go:88", #[], none⟩,
 ⟨some 24, Op.nilCheck (.tmp 23), 0, "fields.go:88", #[gd' 1], none⟩,
 ⟨some 25, Op.fieldAddr 69 (.tmp 24) 0, 0, "fields.go:88", #[gd' 2], none⟩,
 ⟨some 26, Op.fieldAddr 67 (.tmp 25) 2, 0, "fields.go:88", #[gd' 3], none⟩,
 ⟨some 27, Op.makeFunc (Fn.method "cloister/snapshot.longOf") #[Operand.tmp 22] #[], 243, "fields.go:88", #[gd' 0], none⟩,
 ⟨some 28, Op.nilCheck (.tmp 27), 243, "fields.go:88", #[gd' 5], none⟩,
 ⟨some 29, Op.move (.tmp 22), 138, "fields.go:88", #[gd' 0, gd' 5, gd' 6], none⟩,
 ⟨some 30, Op.call { callee := Callee.invoke (.tmp 29) "cloister/snapshot.longOf", args := #[Operand.tmp 26], argTypes := #[244] }, 0, "fields.go:88", #[gd' 7, gd' 4], none⟩]
set_option maxHeartbeats 8000000 in
set_option maxRecDepth 100000 in
theorem reg64_3 (W : World) (HB b o : Nat) (HT : TypeId) (HV : Value) (RV : Value) (F : Nat) (H : Mth HT HV "cloister/snapshot.longOf" F RV) (hS : (fun w' => w'.cell? ⟨HB, 0, none⟩ = some (.iface HT HV)) W.drew) (P : World → Prop) (hcall : Calls Tryz.prog F #[RV, .pointer (some ⟨b, o + 2, none⟩)] W.drew fun e x1 => e = .returned (.tuple #[]) ∧ (x1.cell? ⟨HB, 0, none⟩ = some (.iface HT HV)) ∧ P  x1)
  (Q : Exit → Act → World → Prop) (hPan : ∀ c (a : Act) w (d : Option Tmp) v, Q (.panic c) (a.put d v) w → Q (.panic c) a w) {u0 u3 u4 u5 u6 u7 u8 u9 u10 u11 u12 u13 u14 u15 u16 u17 u18 u19 u20 u21 u22 u23 u24 u25 u26 u27 u28 u29 u30 u31 u32 u33 u34 u35 u36 u37 u38 u39 u40 u41 u42 u43 u44 u45 u46 u47 u48 u49 u50 u51 u52 u53 u54 u55 u56 u57 u58 u59 u60 : Value}
  (hQ : ∀  w1, P  w1 → Q .normal ⟨#[u0, .pointer (some ⟨b, o, none⟩), .pointer (some ⟨HB, 0, none⟩), u3,u4,u5,u6,u7,u8,u9,u10,u11,u12,u13,u14,u15,u16,u17,u18,u19,u20,u21, .iface HT HV, .pointer (some ⟨b, o, none⟩), .pointer (some ⟨b, o, none⟩), .pointer (some ⟨b, o, none⟩), .pointer (some ⟨b, o + 2, none⟩), .func (.method "cloister/snapshot.longOf") #[.iface HT HV] #[], .func (.method "cloister/snapshot.longOf") #[.iface HT HV] #[], .iface HT HV, .tuple #[], u31,u32,u33,u34,u35,u36,u37,u38,u39,u40,u41,u42,u43,u44,u45,u46,u47,u48,u49,u50,u51,u52,u53,u54,u55,u56,u57,u58,u59,u60], []⟩ w1) :
  Code.wp Tryz.prog (Code.region 3 ops64_3 true) Q ⟨#[u0, .pointer (some ⟨b, o, none⟩), .pointer (some ⟨HB, 0, none⟩), u3,u4,u5,u6,u7,u8,u9,u10,u11,u12,u13,u14,u15,u16,u17,u18,u19,u20,u21,u22,u23,u24,u25,u26,u27,u28,u29,u30,u31,u32,u33,u34,u35,u36,u37,u38,u39,u40,u41,u42,u43,u44,u45,u46,u47,u48,u49,u50,u51,u52,u53,u54,u55,u56,u57,u58,u59,u60], []⟩ W := by
 have hm := H.m
 have hn := H.n
 have hent := H.e
 clear H
 refine wp_region_held_drew (S := fun w' => w'.cell? ⟨HB, 0, none⟩ = some (.iface HT HV)) hmx hS (fun HSX => ?_)
 clear hS
 obtain ⟨W0, hW0⟩ : ∃ W0,W0 = W.drew := ⟨_, rfl⟩
 rw [← hW0] at HSX hcall ⊢
 clear hW0
 refine tk hPan (i := 0) (oi := ⟨some 22, Op.load 138 (.tmp 2), 138, "fields.go:88", #[], none⟩) (v := .iface HT HV) rfl (by kernel_rfl) (.inl ⟨by rfl, ?_⟩) HSX ?_
 ·intro wx d0
  have s1 := d0
  go_simp
 simp only [Act.put, sl0', sl1', sl2']
 refine tk hPan (i := 1) (oi := ⟨some 23, Op.move (.tmp 1), 174, "fields.go:88", #[], none⟩) (v := .pointer (some ⟨b, o, none⟩)) rfl (by kernel_rfl) (.inl ⟨by rfl, ?_⟩) HSX ?_
 ·intro wx d0
  have s1 := d0
  go_simp
 simp only [Act.put, sl0', sl1', sl2']
 refine tk hPan (i := 2) (oi := ⟨some 24, Op.nilCheck (.tmp 23), 0, "fields.go:88", #[gd' 1], none⟩) (v := .pointer (some ⟨b, o, none⟩)) rfl (by kernel_rfl) (.inl ⟨by rfl, ?_⟩) HSX ?_
 ·intro wx d0
  have s1 := d0
  go_simp
 simp only [Act.put, sl0', sl1', sl2']
 refine tk hPan (i := 3) (oi := ⟨some 25, Op.fieldAddr 69 (.tmp 24) 0, 0, "fields.go:88", #[gd' 2], none⟩) (v := .pointer (some ⟨b, o, none⟩)) rfl (by kernel_rfl) (.inl ⟨by rfl, ?_⟩) HSX ?_
 ·intro wx d0
  have s1 := d0
  go_simp
 simp only [Act.put, sl0', sl1', sl2']
 refine tk hPan (i := 4) (oi := ⟨some 26, Op.fieldAddr 67 (.tmp 25) 2, 0, "fields.go:88", #[gd' 3], none⟩) (v := .pointer (some ⟨b, o + 2, none⟩)) rfl (by kernel_rfl) (.inl ⟨by rfl, ?_⟩) HSX ?_
 ·intro wx d0
  have s1 := d0
  go_simp
 simp only [Act.put, sl0', sl1', sl2']
 refine tk hPan (i := 5) (oi := ⟨some 27, Op.makeFunc (Fn.method "cloister/snapshot.longOf") #[Operand.tmp 22] #[], 243, "fields.go:88", #[gd' 0], none⟩) (v := .func (.method "cloister/snapshot.longOf") #[.iface HT HV] #[]) rfl (by kernel_rfl) (.inl ⟨by rfl, ?_⟩) HSX ?_
 ·intro wx d0
  have s1 := d0
  go_simp
 simp only [Act.put, sl0', sl1', sl2']
 refine tk hPan (i := 6) (oi := ⟨some 28, Op.nilCheck (.tmp 27), 243, "fields.go:88", #[gd' 5], none⟩) (v := .func (.method "cloister/snapshot.longOf") #[.iface HT HV] #[]) rfl (by kernel_rfl) (.inl ⟨by rfl, ?_⟩) HSX ?_
 ·intro wx d0
  have s1 := d0
  go_simp
 simp only [Act.put, sl0', sl1', sl2']
 refine tk hPan (i := 7) (oi := ⟨some 29, Op.move (.tmp 22), 138, "fields.go:88", #[gd' 0, gd' 5, gd' 6], none⟩) (v := .iface HT HV) rfl (by kernel_rfl) (.inl ⟨by rfl, ?_⟩) HSX ?_
 ·intro wx d0
  have s1 := d0
  go_simp
 simp only [Act.put, sl0', sl1', sl2']
 refine wpAnyH_ready (rs := [8]) (by kernel_rfl) (by simp) ?_
 refine AllReadyH.cons (o := ⟨some 30, Op.call { callee := Callee.invoke (.tmp 29) "cloister/snapshot.longOf", args := #[Operand.tmp 26], argTypes := #[244] }, 0, "fields.go:88", #[gd' 7, gd' 4], none⟩) rfl (fun K hK => ?_) AllReadyH.nil
 rw [if_pos (by rfl)]
 go_simp
 go_at_fn F
 refine hcall.mono ?_
 rintro e w1 ⟨rfl, HS1, hP⟩
 go_simp
 refine hK.out _ _ HS1 (fun HSX => ?_)
 clear hK K
 refine wpAnyH_done (by kernel_rfl) ?_ _
 exact hQ  _ hP
def ops64_4 : Array Oper := #[⟨some 31, Op.load 138 (.tmp 2), 138, "fields.go:89", #[], none⟩,
 ⟨some 32, Op.move (.tmp 1), 174, "fields.go:89", #[], none⟩,
 ⟨some 33, Op.nilCheck (.tmp 32), 0, "fields.go:89", #[gd' 1], none⟩,
 ⟨some 34, Op.fieldAddr 69 (.tmp 33) 0, 0, "fields.go:89", #[gd' 2], none⟩,
 ⟨some 35, Op.fieldAddr 67 (.tmp 34) 3, 0, "fields.go:89", #[gd' 3], none⟩,
 ⟨some 36, Op.makeFunc (Fn.method "cloister/snapshot.longOf") #[Operand.tmp 31] #[], 243, "fields.go:89", #[gd' 0], none⟩,
 ⟨some 37, Op.nilCheck (.tmp 36), 243, "fields.go:89", #[gd' 5], none⟩,
 ⟨some 38, Op.move (.tmp 31), 138, "fields.go:89", #[gd' 0, gd' 5, gd' 6], none⟩,
 ⟨some 39, Op.call { callee := Callee.invoke (.tmp 38) "cloister/snapshot.longOf", args := #[Operand.tmp 35], argTypes := #[244] }, 0, "fields.go:89", #[gd' 7, gd' 4], none⟩]
set_option maxHeartbeats 8000000 in
set_option maxRecDepth 100000 in
theorem reg64_4 (W : World) (HB b o : Nat) (HT : TypeId) (HV : Value) (RV : Value) (F : Nat) (H : Mth HT HV "cloister/snapshot.longOf" F RV) (hS : (fun w' => w'.cell? ⟨HB, 0, none⟩ = some (.iface HT HV)) W.drew) (P : World → Prop) (hcall : Calls Tryz.prog F #[RV, .pointer (some ⟨b, o + 3, none⟩)] W.drew fun e x1 => e = .returned (.tuple #[]) ∧ (x1.cell? ⟨HB, 0, none⟩ = some (.iface HT HV)) ∧ P  x1)
  (Q : Exit → Act → World → Prop) (hPan : ∀ c (a : Act) w (d : Option Tmp) v, Q (.panic c) (a.put d v) w → Q (.panic c) a w) {u0 u3 u4 u5 u6 u7 u8 u9 u10 u11 u12 u13 u14 u15 u16 u17 u18 u19 u20 u21 u22 u23 u24 u25 u26 u27 u28 u29 u30 u31 u32 u33 u34 u35 u36 u37 u38 u39 u40 u41 u42 u43 u44 u45 u46 u47 u48 u49 u50 u51 u52 u53 u54 u55 u56 u57 u58 u59 u60 : Value}
  (hQ : ∀  w1, P  w1 → Q .normal ⟨#[u0, .pointer (some ⟨b, o, none⟩), .pointer (some ⟨HB, 0, none⟩), u3,u4,u5,u6,u7,u8,u9,u10,u11,u12,u13,u14,u15,u16,u17,u18,u19,u20,u21,u22,u23,u24,u25,u26,u27,u28,u29,u30, .iface HT HV, .pointer (some ⟨b, o, none⟩), .pointer (some ⟨b, o, none⟩), .pointer (some ⟨b, o, none⟩), .pointer (some ⟨b, o + 3, none⟩), .func (.method "cloister/snapshot.longOf") #[.iface HT HV] #[], .func (.method "cloister/snapshot.longOf") #[.iface HT HV] #[], .iface HT HV, .tuple #[], u40,u41,u42,u43,u44,u45,u46,u47,u48,u49,u50,u51,u52,u53,u54,u55,u56,u57,u58,u59,u60], []⟩ w1) :
  Code.wp Tryz.prog (Code.region 4 ops64_4 true) Q ⟨#[u0, .pointer (some ⟨b, o, none⟩), .pointer (some ⟨HB, 0, none⟩), u3,u4,u5,u6,u7,u8,u9,u10,u11,u12,u13,u14,u15,u16,u17,u18,u19,u20,u21,u22,u23,u24,u25,u26,u27,u28,u29,u30,u31,u32,u33,u34,u35,u36,u37,u38,u39,u40,u41,u42,u43,u44,u45,u46,u47,u48,u49,u50,u51,u52,u53,u54,u55,u56,u57,u58,u59,u60], []⟩ W := by
 have hm := H.m
 have hn := H.n
 have hent := H.e
 clear H
 refine wp_region_held_drew (S := fun w' => w'.cell? ⟨HB, 0, none⟩ = some (.iface HT HV)) hmx hS (fun HSX => ?_)
 clear hS
 obtain ⟨W0, hW0⟩ : ∃ W0,W0 = W.drew := ⟨_, rfl⟩
 rw [← hW0] at HSX hcall ⊢
 clear hW0
 refine tk hPan (i := 0) (oi := ⟨some 31, Op.load 138 (.tmp 2), 138, "fields.go:89", #[], none⟩) (v := .iface HT HV) rfl (by kernel_rfl) (.inl ⟨by rfl, ?_⟩) HSX ?_
 ·intro wx d0
  have s1 := d0
  go_simp
 simp only [Act.put, sl0', sl1', sl2']
 refine tk hPan (i := 1) (oi := ⟨some 32, Op.move (.tmp 1), 174, "fields.go:89", #[], none⟩) (v := .pointer (some ⟨b, o, none⟩)) rfl (by kernel_rfl) (.inl ⟨by rfl, ?_⟩) HSX ?_
 ·intro wx d0
  have s1 := d0
  go_simp
 simp only [Act.put, sl0', sl1', sl2']
 refine tk hPan (i := 2) (oi := ⟨some 33, Op.nilCheck (.tmp 32), 0, "fields.go:89", #[gd' 1], none⟩) (v := .pointer (some ⟨b, o, none⟩)) rfl (by kernel_rfl) (.inl ⟨by rfl, ?_⟩) HSX ?_
 ·intro wx d0
  have s1 := d0
  go_simp
 simp only [Act.put, sl0', sl1', sl2']
 refine tk hPan (i := 3) (oi := ⟨some 34, Op.fieldAddr 69 (.tmp 33) 0, 0, "fields.go:89", #[gd' 2], none⟩) (v := .pointer (some ⟨b, o, none⟩)) rfl (by kernel_rfl) (.inl ⟨by rfl, ?_⟩) HSX ?_
 ·intro wx d0
  have s1 := d0
  go_simp
 simp only [Act.put, sl0', sl1', sl2']
 refine tk hPan (i := 4) (oi := ⟨some 35, Op.fieldAddr 67 (.tmp 34) 3, 0, "fields.go:89", #[gd' 3], none⟩) (v := .pointer (some ⟨b, o + 3, none⟩)) rfl (by kernel_rfl) (.inl ⟨by rfl, ?_⟩) HSX ?_
 ·intro wx d0
  have s1 := d0
  go_simp
 simp only [Act.put, sl0', sl1', sl2']
 refine tk hPan (i := 5) (oi := ⟨some 36, Op.makeFunc (Fn.method "cloister/snapshot.longOf") #[Operand.tmp 31] #[], 243, "fields.go:89", #[gd' 0], none⟩) (v := .func (.method "cloister/snapshot.longOf") #[.iface HT HV] #[]) rfl (by kernel_rfl) (.inl ⟨by rfl, ?_⟩) HSX ?_
 ·intro wx d0
  have s1 := d0
  go_simp
 simp only [Act.put, sl0', sl1', sl2']
 refine tk hPan (i := 6) (oi := ⟨some 37, Op.nilCheck (.tmp 36), 243, "fields.go:89", #[gd' 5], none⟩) (v := .func (.method "cloister/snapshot.longOf") #[.iface HT HV] #[]) rfl (by kernel_rfl) (.inl ⟨by rfl, ?_⟩) HSX ?_
 ·intro wx d0
  have s1 := d0
  go_simp
 simp only [Act.put, sl0', sl1', sl2']
 refine tk hPan (i := 7) (oi := ⟨some 38, Op.move (.tmp 31), 138, "fields.go:89", #[gd' 0, gd' 5, gd' 6], none⟩) (v := .iface HT HV) rfl (by kernel_rfl) (.inl ⟨by rfl, ?_⟩) HSX ?_
 ·intro wx d0
  have s1 := d0
  go_simp
 simp only [Act.put, sl0', sl1', sl2']
 refine wpAnyH_ready (rs := [8]) (by kernel_rfl) (by simp) ?_
 refine AllReadyH.cons (o := ⟨some 39, Op.call { callee := Callee.invoke (.tmp 38) "cloister/snapshot.longOf", args := #[Operand.tmp 35], argTypes := #[244] }, 0, "fields.go:89", #[gd' 7, gd' 4], none⟩) rfl (fun K hK => ?_) AllReadyH.nil
 rw [if_pos (by rfl)]
 go_simp
 go_at_fn F
 refine hcall.mono ?_
 rintro e w1 ⟨rfl, HS1, hP⟩
 go_simp
 refine hK.out _ _ HS1 (fun HSX => ?_)
 clear hK K
 refine wpAnyH_done (by kernel_rfl) ?_ _
 exact hQ  _ hP
def ops64_5 : Array Oper := #[⟨some 40, Op.load 138 (.tmp 2), 138, "fields.go:90", #[], none⟩,
 ⟨some 41, Op.move (.tmp 1), 174, "fields.go:90", #[], none⟩,
 ⟨some 42, Op.nilCheck (.tmp 41), 0, "fields.go:90", #[gd' 1], none⟩,
 ⟨some 43, Op.fieldAddr 69 (.tmp 42) 0, 0, "fields.go:90", #[gd' 2], none⟩,
 ⟨some 44, Op.fieldAddr 67 (.tmp 43) 4, 0, "fields.go:90", #[gd' 3], none⟩,
 ⟨some 45, Op.makeFunc (Fn.method "cloister/snapshot.longOf") #[Operand.tmp 40] #[], 243, "fields.go:90", #[gd' 0], none⟩,
 ⟨some 46, Op.nilCheck (.tmp 45), 243, "fields.go:90", #[gd' 5], none⟩,
 ⟨some 47, Op.move (.tmp 40), 138, "fields.go:90", #[gd' 0, gd' 5, gd' 6], none⟩,
 ⟨some 48, Op.call { callee := Callee.invoke (.tmp 47) "cloister/snapshot.longOf", args := #[Operand.tmp 44], argTypes := #[244] }, 0, "fields.go:90", #[gd' 7, gd' 4], none⟩]
set_option maxHeartbeats 8000000 in
set_option maxRecDepth 100000 in
theorem reg64_5 (W : World) (HB b o : Nat) (HT : TypeId) (HV : Value) (RV : Value) (F : Nat) (H : Mth HT HV "cloister/snapshot.longOf" F RV) (hS : (fun w' => w'.cell? ⟨HB, 0, none⟩ = some (.iface HT HV)) W.drew) (P : World → Prop) (hcall : Calls Tryz.prog F #[RV, .pointer (some ⟨b, o + 4, none⟩)] W.drew fun e x1 => e = .returned (.tuple #[]) ∧ (x1.cell? ⟨HB, 0, none⟩ = some (.iface HT HV)) ∧ P  x1)
  (Q : Exit → Act → World → Prop) (hPan : ∀ c (a : Act) w (d : Option Tmp) v, Q (.panic c) (a.put d v) w → Q (.panic c) a w) {u0 u3 u4 u5 u6 u7 u8 u9 u10 u11 u12 u13 u14 u15 u16 u17 u18 u19 u20 u21 u22 u23 u24 u25 u26 u27 u28 u29 u30 u31 u32 u33 u34 u35 u36 u37 u38 u39 u40 u41 u42 u43 u44 u45 u46 u47 u48 u49 u50 u51 u52 u53 u54 u55 u56 u57 u58 u59 u60 : Value}
  (hQ : ∀  w1, P  w1 → Q .normal ⟨#[u0, .pointer (some ⟨b, o, none⟩), .pointer (some ⟨HB, 0, none⟩), u3,u4,u5,u6,u7,u8,u9,u10,u11,u12,u13,u14,u15,u16,u17,u18,u19,u20,u21,u22,u23,u24,u25,u26,u27,u28,u29,u30,u31,u32,u33,u34,u35,u36,u37,u38,u39, .iface HT HV, .pointer (some ⟨b, o, none⟩), .pointer (some ⟨b, o, none⟩), .pointer (some ⟨b, o, none⟩), .pointer (some ⟨b, o + 4, none⟩), .func (.method "cloister/snapshot.longOf") #[.iface HT HV] #[], .func (.method "cloister/snapshot.longOf") #[.iface HT HV] #[], .iface HT HV, .tuple #[], u49,u50,u51,u52,u53,u54,u55,u56,u57,u58,u59,u60], []⟩ w1) :
  Code.wp Tryz.prog (Code.region 5 ops64_5 true) Q ⟨#[u0, .pointer (some ⟨b, o, none⟩), .pointer (some ⟨HB, 0, none⟩), u3,u4,u5,u6,u7,u8,u9,u10,u11,u12,u13,u14,u15,u16,u17,u18,u19,u20,u21,u22,u23,u24,u25,u26,u27,u28,u29,u30,u31,u32,u33,u34,u35,u36,u37,u38,u39,u40,u41,u42,u43,u44,u45,u46,u47,u48,u49,u50,u51,u52,u53,u54,u55,u56,u57,u58,u59,u60], []⟩ W := by
 have hm := H.m
 have hn := H.n
 have hent := H.e
 clear H
 refine wp_region_held_drew (S := fun w' => w'.cell? ⟨HB, 0, none⟩ = some (.iface HT HV)) hmx hS (fun HSX => ?_)
 clear hS
 obtain ⟨W0, hW0⟩ : ∃ W0,W0 = W.drew := ⟨_, rfl⟩
 rw [← hW0] at HSX hcall ⊢
 clear hW0
 refine tk hPan (i := 0) (oi := ⟨some 40, Op.load 138 (.tmp 2), 138, "fields.go:90", #[], none⟩) (v := .iface HT HV) rfl (by kernel_rfl) (.inl ⟨by rfl, ?_⟩) HSX ?_
 ·intro wx d0
  have s1 := d0
  go_simp
 simp only [Act.put, sl0', sl1', sl2']
 refine tk hPan (i := 1) (oi := ⟨some 41, Op.move (.tmp 1), 174, "fields.go:90", #[], none⟩) (v := .pointer (some ⟨b, o, none⟩)) rfl (by kernel_rfl) (.inl ⟨by rfl, ?_⟩) HSX ?_
 ·intro wx d0
  have s1 := d0
  go_simp
 simp only [Act.put, sl0', sl1', sl2']
 refine tk hPan (i := 2) (oi := ⟨some 42, Op.nilCheck (.tmp 41), 0, "fields.go:90", #[gd' 1], none⟩) (v := .pointer (some ⟨b, o, none⟩)) rfl (by kernel_rfl) (.inl ⟨by rfl, ?_⟩) HSX ?_
 ·intro wx d0
  have s1 := d0
  go_simp
 simp only [Act.put, sl0', sl1', sl2']
 refine tk hPan (i := 3) (oi := ⟨some 43, Op.fieldAddr 69 (.tmp 42) 0, 0, "fields.go:90", #[gd' 2], none⟩) (v := .pointer (some ⟨b, o, none⟩)) rfl (by kernel_rfl) (.inl ⟨by rfl, ?_⟩) HSX ?_
 ·intro wx d0
  have s1 := d0
  go_simp
 simp only [Act.put, sl0', sl1', sl2']
 refine tk hPan (i := 4) (oi := ⟨some 44, Op.fieldAddr 67 (.tmp 43) 4, 0, "fields.go:90", #[gd' 3], none⟩) (v := .pointer (some ⟨b, o + 4, none⟩)) rfl (by kernel_rfl) (.inl ⟨by rfl, ?_⟩) HSX ?_
 ·intro wx d0
  have s1 := d0
  go_simp
 simp only [Act.put, sl0', sl1', sl2']
 refine tk hPan (i := 5) (oi := ⟨some 45, Op.makeFunc (Fn.method "cloister/snapshot.longOf") #[Operand.tmp 40] #[], 243, "fields.go:90", #[gd' 0], none⟩) (v := .func (.method "cloister/snapshot.longOf") #[.iface HT HV] #[]) rfl (by kernel_rfl) (.inl ⟨by rfl, ?_⟩) HSX ?_
 ·intro wx d0
  have s1 := d0
  go_simp
 simp only [Act.put, sl0', sl1', sl2']
 refine tk hPan (i := 6) (oi := ⟨some 46, Op.nilCheck (.tmp 45), 243, "fields.go:90", #[gd' 5], none⟩) (v := .func (.method "cloister/snapshot.longOf") #[.iface HT HV] #[]) rfl (by kernel_rfl) (.inl ⟨by rfl, ?_⟩) HSX ?_
 ·intro wx d0
  have s1 := d0
  go_simp
 simp only [Act.put, sl0', sl1', sl2']
 refine tk hPan (i := 7) (oi := ⟨some 47, Op.move (.tmp 40), 138, "fields.go:90", #[gd' 0, gd' 5, gd' 6], none⟩) (v := .iface HT HV) rfl (by kernel_rfl) (.inl ⟨by rfl, ?_⟩) HSX ?_
 ·intro wx d0
  have s1 := d0
  go_simp
 simp only [Act.put, sl0', sl1', sl2']
 refine wpAnyH_ready (rs := [8]) (by kernel_rfl) (by simp) ?_
 refine AllReadyH.cons (o := ⟨some 48, Op.call { callee := Callee.invoke (.tmp 47) "cloister/snapshot.longOf", args := #[Operand.tmp 44], argTypes := #[244] }, 0, "fields.go:90", #[gd' 7, gd' 4], none⟩) rfl (fun K hK => ?_) AllReadyH.nil
 rw [if_pos (by rfl)]
 go_simp
 go_at_fn F
 refine hcall.mono ?_
 rintro e w1 ⟨rfl, HS1, hP⟩
 go_simp
 refine hK.out _ _ HS1 (fun HSX => ?_)
 clear hK K
 refine wpAnyH_done (by kernel_rfl) ?_ _
 exact hQ  _ hP
def ops64_6 : Array Oper := #[⟨some 49, Op.load 138 (.tmp 2), 138, "fields.go:91", #[], none⟩,
 ⟨some 50, Op.move (.tmp 1), 174, "fields.go:91", #[], none⟩,
 ⟨some 51, Op.nilCheck (.tmp 50), 0, "fields.go:91", #[gd' 1], none⟩,
 ⟨some 52, Op.fieldAddr 69 (.tmp 51) 1, 0, "fields.go:91", #[gd' 2], none⟩,
 ⟨some 53, Op.makeFunc (Fn.func 109) #[] #[Operand.tmp 2], 253, "fields.go:91", #[], none⟩,
 ⟨some 54, Op.call { callee := Callee.value (Operand.func 108), args := #[Operand.tmp 49, Operand.tmp 52, Operand.tmp 53], argTypes := #[138, 252, 253] }, 0, "fields.go:91", #[gd' 0, gd' 3, gd' 4], none⟩]
set_option maxHeartbeats 8000000 in
set_option maxRecDepth 100000 in
theorem reg64_6 (W : World) (HB b o : Nat) (HT : TypeId) (HV : Value)  (hS : (fun w' => w'.cell? ⟨HB, 0, none⟩ = some (.iface HT HV)) W.drew) (P : World → Prop) (hcall : Calls Tryz.prog 108 #[.iface HT HV, .pointer (some ⟨b, o + 5, none⟩), .func (.func 109) #[] #[.pointer (some ⟨HB, 0, none⟩)]] W.drew fun e x1 => e = .returned (.tuple #[]) ∧ (x1.cell? ⟨HB, 0, none⟩ = some (.iface HT HV)) ∧ P  x1)
  (Q : Exit → Act → World → Prop) (hPan : ∀ c (a : Act) w (d : Option Tmp) v, Q (.panic c) (a.put d v) w → Q (.panic c) a w) {u0 u3 u4 u5 u6 u7 u8 u9 u10 u11 u12 u13 u14 u15 u16 u17 u18 u19 u20 u21 u22 u23 u24 u25 u26 u27 u28 u29 u30 u31 u32 u33 u34 u35 u36 u37 u38 u39 u40 u41 u42 u43 u44 u45 u46 u47 u48 u49 u50 u51 u52 u53 u54 u55 u56 u57 u58 u59 u60 : Value}
  (hQ : ∀  w1, P  w1 → Q .normal ⟨#[u0, .pointer (some ⟨b, o, none⟩), .pointer (some ⟨HB, 0, none⟩), u3,u4,u5,u6,u7,u8,u9,u10,u11,u12,u13,u14,u15,u16,u17,u18,u19,u20,u21,u22,u23,u24,u25,u26,u27,u28,u29,u30,u31,u32,u33,u34,u35,u36,u37,u38,u39,u40,u41,u42,u43,u44,u45,u46,u47,u48, .iface HT HV, .pointer (some ⟨b, o, none⟩), .pointer (some ⟨b, o, none⟩), .pointer (some ⟨b, o + 5, none⟩), .func (.func 109) #[] #[.pointer (some ⟨HB, 0, none⟩)], .tuple #[], u55,u56,u57,u58,u59,u60], []⟩ w1) :
  Code.wp Tryz.prog (Code.region 6 ops64_6 true) Q ⟨#[u0, .pointer (some ⟨b, o, none⟩), .pointer (some ⟨HB, 0, none⟩), u3,u4,u5,u6,u7,u8,u9,u10,u11,u12,u13,u14,u15,u16,u17,u18,u19,u20,u21,u22,u23,u24,u25,u26,u27,u28,u29,u30,u31,u32,u33,u34,u35,u36,u37,u38,u39,u40,u41,u42,u43,u44,u45,u46,u47,u48,u49,u50,u51,u52,u53,u54,u55,u56,u57,u58,u59,u60], []⟩ W := by
 refine wp_region_held_drew (S := fun w' => w'.cell? ⟨HB, 0, none⟩ = some (.iface HT HV)) hmx hS (fun HSX => ?_)
 clear hS
 obtain ⟨W0, hW0⟩ : ∃ W0,W0 = W.drew := ⟨_, rfl⟩
 rw [← hW0] at HSX hcall ⊢
 clear hW0
 refine tk hPan (i := 0) (oi := ⟨some 49, Op.load 138 (.tmp 2), 138, "fields.go:91", #[], none⟩) (v := .iface HT HV) rfl (by kernel_rfl) (.inl ⟨by rfl, ?_⟩) HSX ?_
 ·intro wx d0
  have s1 := d0
  go_simp
 simp only [Act.put, sl0', sl1', sl2']
 refine tk hPan (i := 1) (oi := ⟨some 50, Op.move (.tmp 1), 174, "fields.go:91", #[], none⟩) (v := .pointer (some ⟨b, o, none⟩)) rfl (by kernel_rfl) (.inl ⟨by rfl, ?_⟩) HSX ?_
 ·intro wx d0
  have s1 := d0
  go_simp
 simp only [Act.put, sl0', sl1', sl2']
 refine tk hPan (i := 2) (oi := ⟨some 51, Op.nilCheck (.tmp 50), 0, "fields.go:91", #[gd' 1], none⟩) (v := .pointer (some ⟨b, o, none⟩)) rfl (by kernel_rfl) (.inl ⟨by rfl, ?_⟩) HSX ?_
 ·intro wx d0
  have s1 := d0
  go_simp
 simp only [Act.put, sl0', sl1', sl2']
 refine tk hPan (i := 3) (oi := ⟨some 52, Op.fieldAddr 69 (.tmp 51) 1, 0, "fields.go:91", #[gd' 2], none⟩) (v := .pointer (some ⟨b, o + 5, none⟩)) rfl (by kernel_rfl) (.inl ⟨by rfl, ?_⟩) HSX ?_
 ·intro wx d0
  have s1 := d0
  go_simp
 simp only [Act.put, sl0', sl1', sl2']
 refine tk hPan (i := 4) (oi := ⟨some 53, Op.makeFunc (Fn.func 109) #[] #[Operand.tmp 2], 253, "fields.go:91", #[], none⟩) (v := .func (.func 109) #[] #[.pointer (some ⟨HB, 0, none⟩)]) rfl (by kernel_rfl) (.inl ⟨by rfl, ?_⟩) HSX ?_
 ·intro wx d0
  have s1 := d0
  go_simp
 simp only [Act.put, sl0', sl1', sl2']
 refine wpAnyH_ready (rs := [5]) (by kernel_rfl) (by simp) ?_
 refine AllReadyH.cons (o := ⟨some 54, Op.call { callee := Callee.value (Operand.func 108), args := #[Operand.tmp 49, Operand.tmp 52, Operand.tmp 53], argTypes := #[138, 252, 253] }, 0, "fields.go:91", #[gd' 0, gd' 3, gd' 4], none⟩) rfl (fun K hK => ?_) AllReadyH.nil
 rw [if_pos (by rfl)]
 go_simp
 go_at_call 108
 refine hcall.mono ?_
 rintro e w1 ⟨rfl, HS1, hP⟩
 go_simp
 refine hK.out _ _ HS1 (fun HSX => ?_)
 clear hK K
 refine wpAnyH_done (by kernel_rfl) ?_ _
 exact hQ  _ hP
def ops64_7 : Array Oper := #[⟨some 55, Op.load 138 (.tmp 2), 138, "fields.go:92", #[], none⟩,
 ⟨some 56, Op.move (.tmp 1), 174, "fields.go:92", #[], none⟩,
 ⟨some 57, Op.nilCheck (.tmp 56), 0, "fields.go:92", #[gd' 1], none⟩,
 ⟨some 58, Op.fieldAddr 69 (.tmp 57) 2, 0, "fields.go:92", #[gd' 2], none⟩,
 ⟨some 59, Op.makeFunc (Fn.func 110) #[] #[Operand.tmp 2], 253, "fields.go:92", #[], none⟩,
 ⟨some 60, Op.call { callee := Callee.value (Operand.func 108), args := #[Operand.tmp 55, Operand.tmp 58, Operand.tmp 59], argTypes := #[138, 252, 253] }, 0, "fields.go:92", #[gd' 0, gd' 3, gd' 4], none⟩]
set_option maxHeartbeats 8000000 in
set_option maxRecDepth 100000 in
theorem reg64_7 (W : World) (HB b o : Nat) (HT : TypeId) (HV : Value)  (hS : (fun w' => w'.cell? ⟨HB, 0, none⟩ = some (.iface HT HV)) W.drew) (P : World → Prop) (hcall : Calls Tryz.prog 108 #[.iface HT HV, .pointer (some ⟨b, o + 6, none⟩), .func (.func 110) #[] #[.pointer (some ⟨HB, 0, none⟩)]] W.drew fun e x1 => e = .returned (.tuple #[]) ∧ (x1.cell? ⟨HB, 0, none⟩ = some (.iface HT HV)) ∧ P  x1)
  (Q : Exit → Act → World → Prop) (hPan : ∀ c (a : Act) w (d : Option Tmp) v, Q (.panic c) (a.put d v) w → Q (.panic c) a w) {u0 u3 u4 u5 u6 u7 u8 u9 u10 u11 u12 u13 u14 u15 u16 u17 u18 u19 u20 u21 u22 u23 u24 u25 u26 u27 u28 u29 u30 u31 u32 u33 u34 u35 u36 u37 u38 u39 u40 u41 u42 u43 u44 u45 u46 u47 u48 u49 u50 u51 u52 u53 u54 u55 u56 u57 u58 u59 u60 : Value}
  (hQ : ∀  w1, P  w1 → Q .normal ⟨#[u0, .pointer (some ⟨b, o, none⟩), .pointer (some ⟨HB, 0, none⟩), u3,u4,u5,u6,u7,u8,u9,u10,u11,u12,u13,u14,u15,u16,u17,u18,u19,u20,u21,u22,u23,u24,u25,u26,u27,u28,u29,u30,u31,u32,u33,u34,u35,u36,u37,u38,u39,u40,u41,u42,u43,u44,u45,u46,u47,u48,u49,u50,u51,u52,u53,u54, .iface HT HV, .pointer (some ⟨b, o, none⟩), .pointer (some ⟨b, o, none⟩), .pointer (some ⟨b, o + 6, none⟩), .func (.func 110) #[] #[.pointer (some ⟨HB, 0, none⟩)], .tuple #[]], []⟩ w1) :
  Code.wp Tryz.prog (Code.region 7 ops64_7 true) Q ⟨#[u0, .pointer (some ⟨b, o, none⟩), .pointer (some ⟨HB, 0, none⟩), u3,u4,u5,u6,u7,u8,u9,u10,u11,u12,u13,u14,u15,u16,u17,u18,u19,u20,u21,u22,u23,u24,u25,u26,u27,u28,u29,u30,u31,u32,u33,u34,u35,u36,u37,u38,u39,u40,u41,u42,u43,u44,u45,u46,u47,u48,u49,u50,u51,u52,u53,u54,u55,u56,u57,u58,u59,u60], []⟩ W := by
 refine wp_region_held_drew (S := fun w' => w'.cell? ⟨HB, 0, none⟩ = some (.iface HT HV)) hmx hS (fun HSX => ?_)
 clear hS
 obtain ⟨W0, hW0⟩ : ∃ W0,W0 = W.drew := ⟨_, rfl⟩
 rw [← hW0] at HSX hcall ⊢
 clear hW0
 refine tk hPan (i := 0) (oi := ⟨some 55, Op.load 138 (.tmp 2), 138, "fields.go:92", #[], none⟩) (v := .iface HT HV) rfl (by kernel_rfl) (.inl ⟨by rfl, ?_⟩) HSX ?_
 ·intro wx d0
  have s1 := d0
  go_simp
 simp only [Act.put, sl0', sl1', sl2']
 refine tk hPan (i := 1) (oi := ⟨some 56, Op.move (.tmp 1), 174, "fields.go:92", #[], none⟩) (v := .pointer (some ⟨b, o, none⟩)) rfl (by kernel_rfl) (.inl ⟨by rfl, ?_⟩) HSX ?_
 ·intro wx d0
  have s1 := d0
  go_simp
 simp only [Act.put, sl0', sl1', sl2']
 refine tk hPan (i := 2) (oi := ⟨some 57, Op.nilCheck (.tmp 56), 0, "fields.go:92", #[gd' 1], none⟩) (v := .pointer (some ⟨b, o, none⟩)) rfl (by kernel_rfl) (.inl ⟨by rfl, ?_⟩) HSX ?_
 ·intro wx d0
  have s1 := d0
  go_simp
 simp only [Act.put, sl0', sl1', sl2']
 refine tk hPan (i := 3) (oi := ⟨some 58, Op.fieldAddr 69 (.tmp 57) 2, 0, "fields.go:92", #[gd' 2], none⟩) (v := .pointer (some ⟨b, o + 6, none⟩)) rfl (by kernel_rfl) (.inl ⟨by rfl, ?_⟩) HSX ?_
 ·intro wx d0
  have s1 := d0
  go_simp
 simp only [Act.put, sl0', sl1', sl2']
 refine tk hPan (i := 4) (oi := ⟨some 59, Op.makeFunc (Fn.func 110) #[] #[Operand.tmp 2], 253, "fields.go:92", #[], none⟩) (v := .func (.func 110) #[] #[.pointer (some ⟨HB, 0, none⟩)]) rfl (by kernel_rfl) (.inl ⟨by rfl, ?_⟩) HSX ?_
 ·intro wx d0
  have s1 := d0
  go_simp
 simp only [Act.put, sl0', sl1', sl2']
 refine wpAnyH_ready (rs := [5]) (by kernel_rfl) (by simp) ?_
 refine AllReadyH.cons (o := ⟨some 60, Op.call { callee := Callee.value (Operand.func 108), args := #[Operand.tmp 55, Operand.tmp 58, Operand.tmp 59], argTypes := #[138, 252, 253] }, 0, "fields.go:92", #[gd' 0, gd' 3, gd' 4], none⟩) rfl (fun K hK => ?_) AllReadyH.nil
 rw [if_pos (by rfl)]
 go_simp
 go_at_call 108
 refine hcall.mono ?_
 rintro e w1 ⟨rfl, HS1, hP⟩
 go_simp
 refine hK.out _ _ HS1 (fun HSX => ?_)
 clear hK K
 refine wpAnyH_done (by kernel_rfl) ?_ _
 exact hQ  _ hP
end Go.Proofs.YtkggkkoblpdopaaGreat
