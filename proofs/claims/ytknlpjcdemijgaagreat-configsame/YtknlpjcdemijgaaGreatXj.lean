import Derived.Test.YtknlpjcdemijgaaGreatXh
import Derived.Lib.ConvBytes
namespace Go.Proofs.YtknlpjcdemijgaaGreat
open Go.ChangeShapes Go.WideShapes Go.ChangeAt Go.RowKit
set_option linter.unusedVariables false
def ops121_0 : Array Oper := #[⟨some 4, Op.move (.tmp 0), 66, "writer.go:59", #[], none⟩,
 ⟨some 5, Op.move (.tmp 1), 175, "writer.go:59", #[], none⟩,
 ⟨some 6, Op.nilCheck (.tmp 5), 0, "writer.go:59", #[gd' 1], none⟩,
 ⟨some 7, Op.load 9 (.tmp 6), 9, "writer.go:59", #[gd' 2], none⟩,
 ⟨some 8, Op.call { callee := Callee.builtin Builtin.len, args := #[Operand.tmp 7], argTypes := #[9] }, 3, "writer.go:59", #[gd' 3], none⟩,
 ⟨some 9, Op.move (.tmp 0), 66, "writer.go:59", #[], none⟩,
 ⟨some 10, Op.nilCheck (.tmp 9), 0, "writer.go:59", #[gd' 5], none⟩,
 ⟨some 11, Op.fieldAddr 71 (.tmp 10) 0, 0, "writer.go:59", #[gd' 6], none⟩,
 ⟨some 12, Op.load 69 (.tmp 11), 69, "writer.go:59", #[gd' 7], none⟩,
 ⟨some 13, Op.makeFunc (Fn.func 127) #[Operand.tmp 12] #[], 209, "writer.go:59", #[gd' 8], none⟩,
 ⟨some 14, Op.call { callee := Callee.value (Operand.func 126), args := #[Operand.tmp 4, Operand.tmp 8, Operand.tmp 13], argTypes := #[66, 3, 209] }, 0, "writer.go:59", #[gd' 0, gd' 4, gd' 9], none⟩]
set_option maxHeartbeats 8000000 in
set_option maxRecDepth 100000 in
theorem reg121_0 (W : World) (X B b o : Nat) (n : ByteArray) (hS : (fun w' => w'.cell? ⟨b, o, none⟩ = some (.string n) ∧ w'.cell? ⟨X, 0, none⟩ = some (.pointer (some ⟨B, 0, none⟩))) W.drew) (P : World → Prop) (hcall : Calls Tryz.prog 126 #[.pointer (some ⟨X, 0, none⟩), .int .i64 (n.size : Nat), .func (.func 127) #[.pointer (some ⟨B, 0, none⟩)] #[]] W.drew fun e x1 => e = .returned (.tuple #[]) ∧ (x1.cell? ⟨b, o, none⟩ = some (.string n) ∧ x1.cell? ⟨X, 0, none⟩ = some (.pointer (some ⟨B, 0, none⟩))) ∧ P  x1)
  (Q : Exit → Act → World → Prop) (hPan : ∀ c (a : Act) w (d : Option Tmp) v, Q (.panic c) (a.put d v) w → Q (.panic c) a w) {u2 u3 u4 u5 u6 u7 u8 u9 u10 u11 u12 u13 u14 u15 u16 u17 u18 u19 u20 u21 u22 u23 : Value}
  (hQ : ∀  w1, P  w1 → Q .normal ⟨#[.pointer (some ⟨X, 0, none⟩), .pointer (some ⟨b, o, none⟩), u2,u3, .pointer (some ⟨X, 0, none⟩), .pointer (some ⟨b, o, none⟩), .pointer (some ⟨b, o, none⟩), .string n, .int .i64 (n.size : Nat), .pointer (some ⟨X, 0, none⟩), .pointer (some ⟨X, 0, none⟩), .pointer (some ⟨X, 0, none⟩), .pointer (some ⟨B, 0, none⟩), .func (.func 127) #[.pointer (some ⟨B, 0, none⟩)] #[], .tuple #[], u15,u16,u17,u18,u19,u20,u21,u22,u23], []⟩ w1) :
  Code.wp Tryz.prog (Code.region 0 ops121_0 true) Q ⟨#[.pointer (some ⟨X, 0, none⟩), .pointer (some ⟨b, o, none⟩), u2,u3,u4,u5,u6,u7,u8,u9,u10,u11,u12,u13,u14,u15,u16,u17,u18,u19,u20,u21,u22,u23], []⟩ W := by
 refine wp_region_held_drew (S := fun w' => w'.cell? ⟨b, o, none⟩ = some (.string n) ∧ w'.cell? ⟨X, 0, none⟩ = some (.pointer (some ⟨B, 0, none⟩))) hmx hS (fun HSX => ?_)
 clear hS
 obtain ⟨W0, hW0⟩ : ∃ W0,W0 = W.drew := ⟨_, rfl⟩
 rw [← hW0] at HSX hcall ⊢
 clear hW0
 refine tk hPan (i := 0) (oi := ⟨some 4, Op.move (.tmp 0), 66, "writer.go:59", #[], none⟩) (v := .pointer (some ⟨X, 0, none⟩)) rfl (by kernel_rfl) (.inl ⟨by rfl, ?_⟩) HSX ?_
 ·intro wx d0
  obtain ⟨s1, s2⟩ := d0
  go_simp
 simp only [Act.put, sl0', sl1', sl2']
 refine tk hPan (i := 1) (oi := ⟨some 5, Op.move (.tmp 1), 175, "writer.go:59", #[], none⟩) (v := .pointer (some ⟨b, o, none⟩)) rfl (by kernel_rfl) (.inl ⟨by rfl, ?_⟩) HSX ?_
 ·intro wx d0
  obtain ⟨s1, s2⟩ := d0
  go_simp
 simp only [Act.put, sl0', sl1', sl2']
 refine tk hPan (i := 2) (oi := ⟨some 6, Op.nilCheck (.tmp 5), 0, "writer.go:59", #[gd' 1], none⟩) (v := .pointer (some ⟨b, o, none⟩)) rfl (by kernel_rfl) (.inl ⟨by rfl, ?_⟩) HSX ?_
 ·intro wx d0
  obtain ⟨s1, s2⟩ := d0
  go_simp
 simp only [Act.put, sl0', sl1', sl2']
 refine tk hPan (i := 3) (oi := ⟨some 7, Op.load 9 (.tmp 6), 9, "writer.go:59", #[gd' 2], none⟩) (v := .string n) rfl (by kernel_rfl) (.inl ⟨by rfl, ?_⟩) HSX ?_
 ·intro wx d0
  obtain ⟨s1, s2⟩ := d0
  go_simp
 simp only [Act.put, sl0', sl1', sl2']
 refine tk hPan (i := 4) (oi := ⟨some 8, Op.call { callee := Callee.builtin Builtin.len, args := #[Operand.tmp 7], argTypes := #[9] }, 3, "writer.go:59", #[gd' 3], none⟩) (v := .int .i64 (n.size : Nat)) rfl (by kernel_rfl) (.inl ⟨by rfl, ?_⟩) HSX ?_
 ·intro wx d0
  obtain ⟨s1, s2⟩ := d0
  go_simp
 simp only [Act.put, sl0', sl1', sl2']
 refine tk hPan (i := 5) (oi := ⟨some 9, Op.move (.tmp 0), 66, "writer.go:59", #[], none⟩) (v := .pointer (some ⟨X, 0, none⟩)) rfl (by kernel_rfl) (.inl ⟨by rfl, ?_⟩) HSX ?_
 ·intro wx d0
  obtain ⟨s1, s2⟩ := d0
  go_simp
 simp only [Act.put, sl0', sl1', sl2']
 refine tk hPan (i := 6) (oi := ⟨some 10, Op.nilCheck (.tmp 9), 0, "writer.go:59", #[gd' 5], none⟩) (v := .pointer (some ⟨X, 0, none⟩)) rfl (by kernel_rfl) (.inl ⟨by rfl, ?_⟩) HSX ?_
 ·intro wx d0
  obtain ⟨s1, s2⟩ := d0
  go_simp
 simp only [Act.put, sl0', sl1', sl2']
 refine tk hPan (i := 7) (oi := ⟨some 11, Op.fieldAddr 71 (.tmp 10) 0, 0, "writer.go:59", #[gd' 6], none⟩) (v := .pointer (some ⟨X, 0, none⟩)) rfl (by kernel_rfl) (.inl ⟨by rfl, ?_⟩) HSX ?_
 ·intro wx d0
  obtain ⟨s1, s2⟩ := d0
  go_simp
 simp only [Act.put, sl0', sl1', sl2']
 refine tk hPan (i := 8) (oi := ⟨some 12, Op.load 69 (.tmp 11), 69, "writer.go:59", #[gd' 7], none⟩) (v := .pointer (some ⟨B, 0, none⟩)) rfl (by kernel_rfl) (.inl ⟨by rfl, ?_⟩) HSX ?_
 ·intro wx d0
  obtain ⟨s1, s2⟩ := d0
  go_simp
 simp only [Act.put, sl0', sl1', sl2']
 refine tk hPan (i := 9) (oi := ⟨some 13, Op.makeFunc (Fn.func 127) #[Operand.tmp 12] #[], 209, "writer.go:59", #[gd' 8], none⟩) (v := .func (.func 127) #[.pointer (some ⟨B, 0, none⟩)] #[]) rfl (by kernel_rfl) (.inl ⟨by rfl, ?_⟩) HSX ?_
 ·intro wx d0
  obtain ⟨s1, s2⟩ := d0
  go_simp
 simp only [Act.put, sl0', sl1', sl2']
 refine wpAnyH_ready (rs := [10]) (by kernel_rfl) (by simp) ?_
 refine AllReadyH.cons (o := ⟨some 14, Op.call { callee := Callee.value (Operand.func 126), args := #[Operand.tmp 4, Operand.tmp 8, Operand.tmp 13], argTypes := #[66, 3, 209] }, 0, "writer.go:59", #[gd' 0, gd' 4, gd' 9], none⟩) rfl (fun K hK => ?_) AllReadyH.nil
 rw [if_pos (by rfl)]
 go_simp
 go_at_call 126
 refine hcall.mono ?_
 rintro e w1 ⟨rfl, HS1, hP⟩
 go_simp
 refine hK.out _ _ HS1 (fun HSX => ?_)
 clear hK K
 refine wpAnyH_done (by kernel_rfl) ?_ _
 exact hQ  _ hP
def ops121_1 : Array Oper := #[⟨some 15, Op.move (.tmp 0), 66, "writer.go:60", #[], none⟩,
 ⟨some 16, Op.nilCheck (.tmp 15), 0, "writer.go:60", #[gd' 0], none⟩,
 ⟨some 17, Op.fieldAddr 71 (.tmp 16) 0, 0, "writer.go:60", #[gd' 1], none⟩,
 ⟨some 18, Op.load 69 (.tmp 17), 69, "writer.go:60", #[gd' 2], none⟩,
 ⟨some 19, Op.move (.tmp 1), 175, "writer.go:60", #[], none⟩,
 ⟨some 20, Op.nilCheck (.tmp 19), 0, "writer.go:60", #[gd' 4], none⟩,
 ⟨some 21, Op.load 9 (.tmp 20), 9, "writer.go:60", #[gd' 5], none⟩,
 ⟨some 22, Op.convert 9 33 (.tmp 21), 33, "writer.go:60", #[gd' 6], none⟩,
 ⟨some 23, Op.call { callee := Callee.value (Operand.func 23), args := #[Operand.tmp 18, Operand.tmp 22], argTypes := #[69, 33] }, 0, "writer.go:60", #[gd' 3, gd' 7], none⟩]
set_option maxHeartbeats 8000000 in
set_option maxRecDepth 100000 in
theorem reg121_1 (W : World) (X B b o : Nat) (n : ByteArray) (cvV : Value) (W1 : World) (hcv : (convert 9 33 (.string n)).run Tryz.prog W.drew = .ok cvV W1) (hS1 : W1.cell? ⟨b, o, none⟩ = some (.string n) ∧ W1.cell? ⟨X, 0, none⟩ = some (.pointer (some ⟨B, 0, none⟩))) (hS : (fun w' => w'.cell? ⟨b, o, none⟩ = some (.string n) ∧ w'.cell? ⟨X, 0, none⟩ = some (.pointer (some ⟨B, 0, none⟩))) W.drew) (P : World → Prop) (hcall : Calls Tryz.prog 23 #[.pointer (some ⟨B, 0, none⟩), cvV] W1 fun e x1 => e = .returned (.tuple #[]) ∧ (x1.cell? ⟨b, o, none⟩ = some (.string n) ∧ x1.cell? ⟨X, 0, none⟩ = some (.pointer (some ⟨B, 0, none⟩))) ∧ P  x1)
  (Q : Exit → Act → World → Prop) (hPan : ∀ c (a : Act) w (d : Option Tmp) v, Q (.panic c) (a.put d v) w → Q (.panic c) a w) {u2 u3 u4 u5 u6 u7 u8 u9 u10 u11 u12 u13 u14 u15 u16 u17 u18 u19 u20 u21 u22 u23 : Value}
  (hQ : ∀  w1, P  w1 → Q .normal ⟨#[.pointer (some ⟨X, 0, none⟩), .pointer (some ⟨b, o, none⟩), u2,u3,u4,u5,u6,u7,u8,u9,u10,u11,u12,u13,u14, .pointer (some ⟨X, 0, none⟩), .pointer (some ⟨X, 0, none⟩), .pointer (some ⟨X, 0, none⟩), .pointer (some ⟨B, 0, none⟩), .pointer (some ⟨b, o, none⟩), .pointer (some ⟨b, o, none⟩), .string n, cvV, .tuple #[]], []⟩ w1) :
  Code.wp Tryz.prog (Code.region 1 ops121_1 true) Q ⟨#[.pointer (some ⟨X, 0, none⟩), .pointer (some ⟨b, o, none⟩), u2,u3,u4,u5,u6,u7,u8,u9,u10,u11,u12,u13,u14,u15,u16,u17,u18,u19,u20,u21,u22,u23], []⟩ W := by
 refine wp_region_held_drew (S := fun w' => w'.cell? ⟨b, o, none⟩ = some (.string n) ∧ w'.cell? ⟨X, 0, none⟩ = some (.pointer (some ⟨B, 0, none⟩))) hmx hS (fun HSX => ?_)
 clear hS
 obtain ⟨W0, hW0⟩ : ∃ W0,W0 = W.drew := ⟨_, rfl⟩
 rw [← hW0] at HSX hcv ⊢
 clear hW0
 refine tk hPan (i := 0) (oi := ⟨some 15, Op.move (.tmp 0), 66, "writer.go:60", #[], none⟩) (v := .pointer (some ⟨X, 0, none⟩)) rfl (by kernel_rfl) (.inl ⟨by rfl, ?_⟩) HSX ?_
 ·intro wx d0
  obtain ⟨s1, s2⟩ := d0
  go_simp
 simp only [Act.put, sl0', sl1', sl2']
 refine tk hPan (i := 1) (oi := ⟨some 16, Op.nilCheck (.tmp 15), 0, "writer.go:60", #[gd' 0], none⟩) (v := .pointer (some ⟨X, 0, none⟩)) rfl (by kernel_rfl) (.inl ⟨by rfl, ?_⟩) HSX ?_
 ·intro wx d0
  obtain ⟨s1, s2⟩ := d0
  go_simp
 simp only [Act.put, sl0', sl1', sl2']
 refine tk hPan (i := 2) (oi := ⟨some 17, Op.fieldAddr 71 (.tmp 16) 0, 0, "writer.go:60", #[gd' 1], none⟩) (v := .pointer (some ⟨X, 0, none⟩)) rfl (by kernel_rfl) (.inl ⟨by rfl, ?_⟩) HSX ?_
 ·intro wx d0
  obtain ⟨s1, s2⟩ := d0
  go_simp
 simp only [Act.put, sl0', sl1', sl2']
 refine tk hPan (i := 3) (oi := ⟨some 18, Op.load 69 (.tmp 17), 69, "writer.go:60", #[gd' 2], none⟩) (v := .pointer (some ⟨B, 0, none⟩)) rfl (by kernel_rfl) (.inl ⟨by rfl, ?_⟩) HSX ?_
 ·intro wx d0
  obtain ⟨s1, s2⟩ := d0
  go_simp
 simp only [Act.put, sl0', sl1', sl2']
 refine tk hPan (i := 4) (oi := ⟨some 19, Op.move (.tmp 1), 175, "writer.go:60", #[], none⟩) (v := .pointer (some ⟨b, o, none⟩)) rfl (by kernel_rfl) (.inl ⟨by rfl, ?_⟩) HSX ?_
 ·intro wx d0
  obtain ⟨s1, s2⟩ := d0
  go_simp
 simp only [Act.put, sl0', sl1', sl2']
 refine tk hPan (i := 5) (oi := ⟨some 20, Op.nilCheck (.tmp 19), 0, "writer.go:60", #[gd' 4], none⟩) (v := .pointer (some ⟨b, o, none⟩)) rfl (by kernel_rfl) (.inl ⟨by rfl, ?_⟩) HSX ?_
 ·intro wx d0
  obtain ⟨s1, s2⟩ := d0
  go_simp
 simp only [Act.put, sl0', sl1', sl2']
 refine tk hPan (i := 6) (oi := ⟨some 21, Op.load 9 (.tmp 20), 9, "writer.go:60", #[gd' 5], none⟩) (v := .string n) rfl (by kernel_rfl) (.inl ⟨by rfl, ?_⟩) HSX ?_
 ·intro wx d0
  obtain ⟨s1, s2⟩ := d0
  go_simp
 simp only [Act.put, sl0', sl1', sl2']
 refine wpAnyH_ready (rs := [7]) (by kernel_rfl) (by simp) ?_
 refine AllReadyH.cons (o := ⟨some 22, Op.convert 9 33 (.tmp 21), 33, "writer.go:60", #[gd' 6], none⟩) rfl (fun K hK => ?_) AllReadyH.nil
 rw [if_pos (by rfl)]
 go_simp
 refine hK.out _ _ hS1 (fun HSX => ?_)
 clear hK K
 refine wpAnyH_ready (rs := [8]) (by kernel_rfl) (by simp) ?_
 refine AllReadyH.cons (o := ⟨some 23, Op.call { callee := Callee.value (Operand.func 23), args := #[Operand.tmp 18, Operand.tmp 22], argTypes := #[69, 33] }, 0, "writer.go:60", #[gd' 3, gd' 7], none⟩) rfl (fun K hK => ?_) AllReadyH.nil
 rw [if_pos (by rfl)]
 go_simp
 go_at_call 23
 refine hcall.mono ?_
 rintro e w1 ⟨rfl, HS1, hP⟩
 go_simp
 refine hK.out _ _ HS1 (fun HSX => ?_)
 clear hK K
 refine wpAnyH_done (by kernel_rfl) ?_ _
 exact hQ  _ hP
theorem conv_sb (w : World) (s : ByteArray) (hs : s.size ≤ 140737488355328) : ∃ G c w1, (convert 9 33 (.string s)).run Tryz.prog w = .ok (.slice (some ⟨G, 0, none⟩) s.size c) w1 ∧ Kp w w1 ∧ Bs w1 (some ⟨G, 0, none⟩) s.size (sBs s) ∧ w.heap.size ≤ G ∧ s.size ≤ c := by
 refine ⟨w.heap.size, _, _, Lib.run_convert_string_bytes (P := Tryz.prog) w 9 33 5 s Tryz.underlying9 Tryz.underlying33 Tryz.underlying5, ⟨rfl, rfl, rfl, by rw [Lib.bytesWorld_size]; omega, fun k hk _ => Lib.bytesWorld_at_old w 5 s k hk⟩, ⟨sBs_len s, hs, sBs_range s, .inr ⟨w.heap.size, 0, rfl, fun i hi => ?_⟩⟩, Nat.le_refl _, grownCap_ge w s.size 0 5⟩
 rw [Nat.zero_add, Lib.bytesWorld_cell w 5 s i hi]
 congr 2
 simp [sBs, List.getD, hi]
end Go.Proofs.YtknlpjcdemijgaaGreat
namespace Go.Proofs.YtknlpjcdemijgaaGreat
open Go.ChangeShapes Go.WideShapes Go.ChangeAt Go.RowKit
set_option linter.unusedVariables false
section
variable {w w' : World} {X B M : Nat} {v : Value} {x x' : WX}
theorem XE.cells (h : XE w w' X B M v x') {b o : Nat} {u : Value} (hb : ¬ Xf X B M v b) (hc : w.cell? ⟨b, o, none⟩ = some u) : w'.cell? ⟨b, o, none⟩ = some u ∧ w'.cell? ⟨X, 0, none⟩ = some (.pointer (some ⟨B, 0, none⟩)) := by
 obtain ⟨v1, i1, c1, l1⟩ := h
 exact ⟨Chg.cell' c1 hb hc, i1.cells.1⟩
set_option maxRecDepth 10000 in
theorem wbyteOf (h : IsX w X B M v x) (b o : Nat) (n : Int) (hc : w.cell? ⟨b, o, none⟩ = some (.int .i64 n)) (hb : ¬ Xf X B M v b) (h1 : -9223372036854775808 ≤ n) (h2 : n ≤ 9223372036854775807) :
  Calls Tryz.prog 117 #[hW X, .pointer (some ⟨b, o, none⟩)] w fun r w' => r = .returned (.tuple #[]) ∧ XE w w' X B M v (x.num 1 n) := by
 have hk := h.kp (Kp.drew w)
 have hlt := fun k (e : Xf X B M v k) => h.lt e
 have A1 := (fit8 hk n h1 h2).mono (R' := fun e x1 => e = .returned (.tuple #[]) ∧ (x1.cell? ⟨b, o, none⟩ = some (.int .i64 n) ∧ x1.cell? ⟨X, 0, none⟩ = some (.pointer (some ⟨B, 0, none⟩))) ∧ XE w.drew x1 X B M v (x.num 1 n)) (fun r w' ⟨e, q⟩ => ⟨e, q.cells hb hc, q⟩)
 have A2 := hk.cells.1
 clear h hk
 go_enter Tryz.func117, Tryz.ntmps117
 go_upto_region 0 with fail
 refine reg117_0 w X B b o n ⟨hc, A2⟩ _ A1 _ (fun _ _ _ q _ h => by cases q <;> exact h) ?_
 clear A1 A2
 rintro w1 hx
 have HX : Hid (XE w w1 X B M v (x.num 1 n)) := hx.pre (Kp.drew w) hlt
 clear hx hlt hc
 go_wp2
 exact ⟨rfl, _, results_none rfl _ _ _, rfl, HX.out⟩
set_option maxRecDepth 10000 in
theorem whalfOf (h : IsX w X B M v x) (b o : Nat) (n : Int) (hc : w.cell? ⟨b, o, none⟩ = some (.int .i64 n)) (hb : ¬ Xf X B M v b) (h1 : -9223372036854775808 ≤ n) (h2 : n ≤ 9223372036854775807) :
  Calls Tryz.prog 119 #[hW X, .pointer (some ⟨b, o, none⟩)] w fun r w' => r = .returned (.tuple #[]) ∧ XE w w' X B M v (x.num 2 n) := by
 have hk := h.kp (Kp.drew w)
 have hlt := fun k (e : Xf X B M v k) => h.lt e
 have A1 := (fit16 hk n h1 h2).mono (R' := fun e x1 => e = .returned (.tuple #[]) ∧ (x1.cell? ⟨b, o, none⟩ = some (.int .i64 n) ∧ x1.cell? ⟨X, 0, none⟩ = some (.pointer (some ⟨B, 0, none⟩))) ∧ XE w.drew x1 X B M v (x.num 2 n)) (fun r w' ⟨e, q⟩ => ⟨e, q.cells hb hc, q⟩)
 have A2 := hk.cells.1
 clear h hk
 go_enter Tryz.func119, Tryz.ntmps119
 go_upto_region 0 with fail
 refine reg119_0 w X B b o n ⟨hc, A2⟩ _ A1 _ (fun _ _ _ q _ h => by cases q <;> exact h) ?_
 clear A1 A2
 rintro w1 hx
 have HX : Hid (XE w w1 X B M v (x.num 2 n)) := hx.pre (Kp.drew w) hlt
 clear hx hlt hc
 go_wp2
 exact ⟨rfl, _, results_none rfl _ _ _, rfl, HX.out⟩
set_option maxRecDepth 10000 in
theorem wwordOf (h : IsX w X B M v x) (b o : Nat) (n : Int) (hc : w.cell? ⟨b, o, none⟩ = some (.int .i64 n)) (hb : ¬ Xf X B M v b) (h1 : -9223372036854775808 ≤ n) (h2 : n ≤ 9223372036854775807) :
  Calls Tryz.prog 125 #[hW X, .pointer (some ⟨b, o, none⟩)] w fun r w' => r = .returned (.tuple #[]) ∧ XE w w' X B M v (x.num 4 n) := by
 have hk := h.kp (Kp.drew w)
 have hlt := fun k (e : Xf X B M v k) => h.lt e
 have A1 := (fit32 hk n h1 h2).mono (R' := fun e x1 => e = .returned (.tuple #[]) ∧ (x1.cell? ⟨b, o, none⟩ = some (.int .i64 n) ∧ x1.cell? ⟨X, 0, none⟩ = some (.pointer (some ⟨B, 0, none⟩))) ∧ XE w.drew x1 X B M v (x.num 4 n)) (fun r w' ⟨e, q⟩ => ⟨e, q.cells hb hc, q⟩)
 have A2 := hk.cells.1
 clear h hk
 go_enter Tryz.func125, Tryz.ntmps125
 go_upto_region 0 with fail
 refine reg125_0 w X B b o n ⟨hc, A2⟩ _ A1 _ (fun _ _ _ q _ h => by cases q <;> exact h) ?_
 clear A1 A2
 rintro w1 hx
 have HX : Hid (XE w w1 X B M v (x.num 4 n)) := hx.pre (Kp.drew w) hlt
 clear hx hlt hc
 go_wp2
 exact ⟨rfl, _, results_none rfl _ _ _, rfl, HX.out⟩
set_option maxRecDepth 10000 in
theorem wlong (h : IsX w X B M v x) (b o : Nat) (n : Int) (hc : w.cell? ⟨b, o, none⟩ = some (.int .u64 n)) (hb : ¬ Xf X B M v b) (h1 : 0 ≤ n) (h2 : n < 18446744073709551616) :
  Calls Tryz.prog 120 #[hW X, .pointer (some ⟨b, o, none⟩)] w fun r w' => r = .returned (.tuple #[]) ∧ XE w w' X B M v (x.raw (le n.toNat 8)) := by
 have hk := h.kp (Kp.drew w)
 have hlt := fun k (e : Xf X B M v k) => h.lt e
 obtain ⟨m, rfl⟩ : ∃ m : Nat, n = m := ⟨n.toNat, by omega⟩
 have A1 := (hk.wrote (fun j p => pm64 p m (by omega))).mono (R' := fun e x1 => e = .returned (.tuple #[]) ∧ (x1.cell? ⟨b, o, none⟩ = some (.int .u64 (m : Int)) ∧ x1.cell? ⟨X, 0, none⟩ = some (.pointer (some ⟨B, 0, none⟩))) ∧ XE w.drew x1 X B M v (x.raw (le (m : Int).toNat 8))) (fun r w' ⟨e, q⟩ => ⟨e, q.cells hb hc, q⟩)
 have A2 := hk.cells.1
 clear h hk
 go_enter Tryz.func120, Tryz.ntmps120
 go_upto_region 0 with fail
 refine reg120_0 w X B b o m ⟨hc, A2⟩ _ A1 _ (fun _ _ _ q _ h => by cases q <;> exact h) ?_
 clear A1 A2
 rintro w1 hx
 have HX : Hid (XE w w1 X B M v (x.raw (le (m : Int).toNat 8))) := hx.pre (Kp.drew w) hlt
 clear hx hlt hc
 go_wp2
 exact ⟨rfl, _, results_none rfl _ _ _, rfl, HX.out⟩
set_option maxRecDepth 10000 in
theorem wperm (h : IsX w X B M v x) (b o : Nat) (n : Int) (hc : w.cell? ⟨b, o, none⟩ = some (.int .u8 n)) (hb : ¬ Xf X B M v b) (h1 : 0 ≤ n) (h2 : n < 256) :
  Calls Tryz.prog 123 #[hW X, .pointer (some ⟨b, o, none⟩)] w fun r w' => r = .returned (.tuple #[]) ∧ XE w w' X B M v (x.raw (le n.toNat 1)) := by
 have hk := h.kp (Kp.drew w)
 have hlt := fun k (e : Xf X B M v k) => h.lt e
 obtain ⟨m, rfl⟩ : ∃ m : Nat, n = m := ⟨n.toNat, by omega⟩
 have A1 := (hk.wrote (fun j p => pm8 p m (by omega))).mono (R' := fun e x1 => e = .returned (.tuple #[]) ∧ (x1.cell? ⟨b, o, none⟩ = some (.int .u8 (m : Int)) ∧ x1.cell? ⟨X, 0, none⟩ = some (.pointer (some ⟨B, 0, none⟩))) ∧ XE w.drew x1 X B M v (x.raw (le (m : Int).toNat 1))) (fun r w' ⟨e, q⟩ => ⟨e, q.cells hb hc, q⟩)
 have A2 := hk.cells.1
 clear h hk
 go_enter Tryz.func123, Tryz.ntmps123
 go_upto_region 0 with fail
 refine reg123_0 w X B b o m ⟨hc, A2⟩ _ A1 _ (fun _ _ _ q _ h => by cases q <;> exact h) ?_
 clear A1 A2
 rintro w1 hx
 have HX : Hid (XE w w1 X B M v (x.raw (le (m : Int).toNat 1))) := hx.pre (Kp.drew w) hlt
 clear hx hlt hc
 go_wp2
 exact ⟨rfl, _, results_none rfl _ _ _, rfl, HX.out⟩
set_option maxRecDepth 10000 in
theorem wword (h : IsX w X B M v x) (b o : Nat) (n : Int) (hc : w.cell? ⟨b, o, none⟩ = some (.int .u32 n)) (hb : ¬ Xf X B M v b) (h1 : 0 ≤ n) (h2 : n < 4294967296) :
  Calls Tryz.prog 124 #[hW X, .pointer (some ⟨b, o, none⟩)] w fun r w' => r = .returned (.tuple #[]) ∧ XE w w' X B M v (x.raw (le n.toNat 4)) := by
 have hk := h.kp (Kp.drew w)
 have hlt := fun k (e : Xf X B M v k) => h.lt e
 obtain ⟨m, rfl⟩ : ∃ m : Nat, n = m := ⟨n.toNat, by omega⟩
 have A1 := (hk.wrote (fun j p => pm32 p m (by omega))).mono (R' := fun e x1 => e = .returned (.tuple #[]) ∧ (x1.cell? ⟨b, o, none⟩ = some (.int .u32 (m : Int)) ∧ x1.cell? ⟨X, 0, none⟩ = some (.pointer (some ⟨B, 0, none⟩))) ∧ XE w.drew x1 X B M v (x.raw (le (m : Int).toNat 4))) (fun r w' ⟨e, q⟩ => ⟨e, q.cells hb hc, q⟩)
 have A2 := hk.cells.1
 clear h hk
 go_enter Tryz.func124, Tryz.ntmps124
 go_upto_region 0 with fail
 refine reg124_0 w X B b o m ⟨hc, A2⟩ _ A1 _ (fun _ _ _ q _ h => by cases q <;> exact h) ?_
 clear A1 A2
 rintro w1 hx
 have HX : Hid (XE w w1 X B M v (x.raw (le (m : Int).toNat 4))) := hx.pre (Kp.drew w) hlt
 clear hx hlt hc
 go_wp2
 exact ⟨rfl, _, results_none rfl _ _ _, rfl, HX.out⟩
set_option maxRecDepth 10000 in
theorem wflag (h : IsX w X B M v x) (b o : Nat) (n : Bool) (hc : w.cell? ⟨b, o, none⟩ = some (.bool n)) :
  Calls Tryz.prog 118 #[hW X, .pointer (some ⟨b, o, none⟩)] w fun r w' => r = .returned (.tuple #[]) ∧ XE w w' X B M v (x.raw (le (if n then 1 else 0) 1)) := by
 have A2 := h.cells.1
 cases n with
 | true =>
  have A1 := h.wrote (fun j p => pm8 p 1 (by omega))
  clear h
  go_enter Tryz.func118, Tryz.ntmps118
  go_wp2_with fail
  go_at_call 127
  refine A1.mono ?_
  clear A1
  rintro e w1 ⟨rfl, hx⟩
  have HX : Hid (XE w w1 X B M v (x.raw (le 1 1))) := hx
  clear hx
  go_wp2
  exact ⟨rfl, _, results_none rfl _ _ _, rfl, HX.out⟩
 | false =>
  have A1 := h.wrote (fun j p => pm8 p 0 (by omega))
  clear h
  go_enter Tryz.func118, Tryz.ntmps118
  go_wp2_with fail
  go_at_call 127
  refine A1.mono ?_
  clear A1
  rintro e w1 ⟨rfl, hx⟩
  have HX : Hid (XE w w1 X B M v (x.raw (le 0 1))) := hx
  clear hx
  go_wp2
  exact ⟨rfl, _, results_none rfl _ _ _, rfl, HX.out⟩
set_option maxRecDepth 10000 in
theorem wpad (h : IsX w X B M v x) :
  Calls Tryz.prog 122 #[hW X] w fun r w' => r = .returned (.tuple #[]) ∧ XE w w' X B M v x.pad := by
 have A2 := h.cells.1
 have A1 := h.wrote (fun j p => pPad p 4)
 clear h
 go_enter Tryz.func122, Tryz.ntmps122
 go_wp2_with fail
 go_at_call 131
 refine A1.mono ?_
 clear A1
 rintro e w1 ⟨rfl, hx⟩
 have HX : Hid (XE w w1 X B M v x.pad) := hx
 clear hx
 go_wp2
 exact ⟨rfl, _, results_none rfl _ _ _, rfl, HX.out⟩
def WX.name (x : WX) (s : ByteArray) : WX := (x.num 1 (s.size : Nat)).raw (sBs s)
set_option maxRecDepth 10000 in
theorem wname (h : IsX w X B M v x) (b o : Nat) (n : ByteArray) (hc : w.cell? ⟨b, o, none⟩ = some (.string n)) (hb : ¬ Xf X B M v b) (h1 : n.size ≤ 140737488355328) :
  Calls Tryz.prog 121 #[hW X, .pointer (some ⟨b, o, none⟩)] w fun r w' => r = .returned (.tuple #[]) ∧ XE w w' X B M v (x.name n) := by
 have hk := h.kp (Kp.drew w)
 have hlt := fun k (e : Xf X B M v k) => h.lt e
 have hbl := lt_of_cell hc
 have A1 := (fit8 hk (n.size : Nat) (by omega) (by omega)).mono (R' := fun e x1 => e = .returned (.tuple #[]) ∧ (x1.cell? ⟨b, o, none⟩ = some (.string n) ∧ x1.cell? ⟨X, 0, none⟩ = some (.pointer (some ⟨B, 0, none⟩))) ∧ XE w.drew x1 X B M v (x.num 1 (n.size : Nat))) (fun r w' ⟨e, q⟩ => ⟨e, q.cells hb hc, q⟩)
 have A2 := hk.cells.1
 clear h hk
 go_enter Tryz.func121, Tryz.ntmps121
 go_upto_region 0 with fail
 refine reg121_0 w X B b o n ⟨hc, A2⟩ _ A1 _ (fun _ _ _ q _ h => by cases q <;> exact h) ?_
 clear A1 A2
 rintro w1 hx
 have hx2 : XE w w1 X B M v (x.num 1 (n.size : Nat)) := hx.pre (Kp.drew w) hlt
 have hc1 := (hx.cells hb hc).1
 clear hx
 obtain ⟨v1, i1, c1, l1⟩ := hx2
 have hb1 : ¬ Xf X B M v1 b := fun e => hb (l1.xf hbl e)
 obtain ⟨G, cc, wd, hcv, kd, hB, _, _⟩ := conv_sb w1.drew n h1
 have id := (i1.kp (Kp.drew w1)).kp kd
 have hcd := kd.cell (Kp.cell (Kp.drew w1) hc1)
 have A1 := (id.wrote (fun j p => pRaw p _ _ cc _ hB)).mono (R' := fun e x1 => e = .returned (.tuple #[]) ∧ (x1.cell? ⟨b, o, none⟩ = some (.string n) ∧ x1.cell? ⟨X, 0, none⟩ = some (.pointer (some ⟨B, 0, none⟩))) ∧ XE wd x1 X B M v1 (x.name n)) (fun r w' ⟨e, q⟩ => ⟨e, q.cells hb1 hcd, q⟩)
 have A2 := id.cells.1
 have A3 := i1.cells.1
 have HI : Hid (IsX w1 X B M v1 (x.num 1 (n.size : Nat)) ∧ Chg w w1 (Xf X B M v) ∧ Loc w v v1 ∧ Kp w1 wd) := ⟨i1, c1, l1, Kp.trans (Kp.drew w1) kd⟩
 clear i1 c1 l1 kd id hB
 go_upto_region 1 with fail
 refine reg121_1 w1 X B b o n _ wd hcv ⟨hcd, A2⟩ ⟨hc1, A3⟩ _ A1 _ (fun _ _ _ q _ h => by cases q <;> exact h) ?_
 clear A1 A2 A3 hcv hcd
 rintro w2 hx
 obtain ⟨i1, c1, l1, k1⟩ := HI.out
 have hq : XE w1 w2 X B M v1 (x.name n) := hx.pre k1 (fun k e => i1.lt e)
 have HX : Hid (XE w w2 X B M v (x.name n)) := by
  obtain ⟨v2, i2, c2, l2⟩ := hq
  exact ⟨v2, i2, c1.trans c2 (fun b hb e => l1.xf hb e), l1.trans l2 c1.size⟩
 clear hx hq i1 c1 l1 k1 HI
 go_wp2
 exact ⟨rfl, _, results_none rfl _ _ _, rfl, HX.out⟩
end
end Go.Proofs.YtknlpjcdemijgaaGreat
