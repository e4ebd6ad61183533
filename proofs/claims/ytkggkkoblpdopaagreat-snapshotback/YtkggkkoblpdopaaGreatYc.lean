import Derived.Test.YtkggkkoblpdopaaGreatXu
namespace Go.Proofs.YtkggkkoblpdopaaGreat
open Go.ChangeShapes Go.WideShapes Go.ChangeAt Go.RowKit
set_option linter.unusedVariables false
structure R1 (w : World) (R : Nat) (a : Option Addr) (cap : Nat) (s : RS) (b : Nat) (cs : Array Value) (ty : TypeId) : Prop where
 rs : IsRS w R a cap s
 bl : w.heap[b]? = some (.cells cs ty (0, 0))
 ne : R ≠ b
 ab : ∀ x off, a = some ⟨x, off, none⟩ → 0 < s.bs.length → x ≠ b
def RX (w w' : World) (R : Nat) (a : Option Addr) (cap : Nat) (s : RS) (b : Nat) (cs : Array Value) (ty : TypeId) : Prop := R1 w' R a cap s b cs ty ∧ Chg w w' (fun k => k = R ∨ k = b)
section
variable {w w' w'' : World} {R : Nat} {a : Option Addr} {cap : Nat} {s s' : RS} {b : Nat} {cs cs' : Array Value} {ty : TypeId}
theorem RX.trans (h : Chg w w' (fun k => k = R ∨ k = b)) (k : RX w' w'' R a cap s b cs ty) : RX w w'' R a cap s b cs ty := ⟨k.1, h.trans k.2 (fun _ _ e => e)⟩
theorem R1.kp (h : R1 w R a cap s b cs ty) (k : Kp w w') : R1 w' R a cap s b cs ty := ⟨h.rs.other k (fun e => e) (fun _ _ _ _ e => e), k.heap h.bl, h.ne, h.ab⟩
theorem R1.read (h : R1 w R a cap s b cs ty) (i : IsRS w' R a cap s') (c : Chg w w' (fun k => k = R)) (hb : s'.bs = s.bs) : R1 w' R a cap s' b cs ty := ⟨i, c.heap h.bl (fun e => h.ne e.symm), h.ne, by rw [hb]; exact h.ab⟩
theorem R1.put (h : R1 w R a cap s b cs ty) (o : Nat) (u : Value) : R1 (w.setCell ⟨b, o, none⟩ u) R a cap s b (cs.setIfInBounds o u) ty ∧ Chg w (w.setCell ⟨b, o, none⟩ u) (fun k => k = b) := by
 have c := (Chg.refl w (fun k => k = b)).setCell (p := ⟨b, o, none⟩) (.inl rfl) u
 exact ⟨⟨h.rs.other c h.ne h.ab, heap_setCell_same w b o _ _ _ h.bl, h.ne, h.ab⟩, c⟩
theorem R1.cell (h : R1 w R a cap s b cs ty) (o : Nat) (ho : o < cs.size) : ∃ u, w.cell? ⟨b, o, none⟩ = some u := ⟨cs[o], by rw [(cells_at h.bl o).1]; exact Array.getElem?_eq_getElem ho⟩
theorem R1.fr (h : R1 w R a cap s b cs ty) (o : Nat) : w.frozen? ⟨b, o, none⟩ = false := (cells_at h.bl o).2
theorem IsRS.rng (h : IsRS w R a cap s) : ∀ x ∈ s.bs, 0 ≤ x ∧ x ≤ 255 := h.bytes.2.2.1
theorem RS.pad_bs (s : RS) (n : Int) : (s.pad n).bs = s.bs := by
 unfold RS.pad; split
 ·unfold RS.padded
  split
  ·exact RS.take_bs _ _
  ·exact RS.take_bs _ _
 ·rfl
set_option maxRecDepth 10000 in
theorem rbyteOf (h : R1 w R a cap s b cs ty) (o : Nat) (ho : o < cs.size) :
  Calls Tryz.prog 247 #[hR R, .pointer (some ⟨b, o, none⟩)] w fun r w' => r = .returned (.tuple #[]) ∧ RX w w' R a cap (s.take 1).2 b (cs.setIfInBounds o (.int .i64 (s.num 1 : Nat))) ty := by
 have hlt : s.num 1 < 256 := RS.num_lt s 1 h.rs.rng
 have k0 := Kp.al w (.cells #[.pointer (some ⟨R, 0, none⟩)] 101)
 have A1 := m8_any _ R a cap s (h.kp k0).rs
 have HR : Hid (R1 w R a cap s b cs ty ∧ Kp w (w.alloc (.cells #[.pointer (some ⟨R, 0, none⟩)] 101))) := ⟨h, k0⟩
 clear h k0
 generalize s.num 1 = n at *
 have z1 : IntKind.i64.wrap (n : Int) = n := by simp [IntKind.wrap, IntKind.bits, IntKind.signed]; omega
 go_enter Tryz.func247, Tryz.ntmps247
 go_wp2_with fail
 go_at_call 256
 refine A1.mono ?_
 clear A1
 rintro e w1 ⟨rfl, i1, c1⟩
 have r1 := (HR.out.1.kp HR.out.2).read i1 c1 (RS.take_bs s 1)
 obtain ⟨u, hu⟩ := r1.cell o ho
 have hf := r1.fr o
 obtain ⟨r2, c2⟩ := r1.put o (.int .i64 (n : Int))
 have HX : Hid (RX w (w1.setCell ⟨b, o, none⟩ (.int .i64 (n : Int))) R a cap (s.take 1).2 b (cs.setIfInBounds o (.int .i64 (n : Int))) ty) := ⟨r2, Chg.trans (Chg.trans HR.out.2.any (c1.mono (fun _ _ e => .inl e)) (fun _ _ e => e)) c2 (fun _ _ e => .inr e)⟩
 clear r1 r2 c2 i1 c1 HR
 go_wp2
 exact ⟨rfl, _, results_none rfl _ _ _, rfl, HX.out⟩
set_option maxRecDepth 10000 in
set_option maxRecDepth 10000 in
theorem rwordOf (h : R1 w R a cap s b cs ty) (o : Nat) (ho : o < cs.size) :
  Calls Tryz.prog 255 #[hR R, .pointer (some ⟨b, o, none⟩)] w fun r w' => r = .returned (.tuple #[]) ∧ RX w w' R a cap (s.take 4).2 b (cs.setIfInBounds o (.int .i64 (s.num 4 : Nat))) ty := by
 have hlt : s.num 4 < 4294967296 := RS.num_lt s 4 h.rs.rng
 have k0 := Kp.al w (.cells #[.pointer (some ⟨R, 0, none⟩)] 101)
 have A1 := m32_any _ R a cap s (h.kp k0).rs
 have HR : Hid (R1 w R a cap s b cs ty ∧ Kp w (w.alloc (.cells #[.pointer (some ⟨R, 0, none⟩)] 101))) := ⟨h, k0⟩
 clear h k0
 generalize s.num 4 = n at *
 have z1 : IntKind.i64.wrap (n : Int) = n := by simp [IntKind.wrap, IntKind.bits, IntKind.signed]; omega
 go_enter Tryz.func255, Tryz.ntmps255
 go_wp2_with fail
 go_at_call 78
 refine A1.mono ?_
 clear A1
 rintro e w1 ⟨rfl, i1, c1⟩
 have r1 := (HR.out.1.kp HR.out.2).read i1 c1 (RS.take_bs s 4)
 obtain ⟨u, hu⟩ := r1.cell o ho
 have hf := r1.fr o
 obtain ⟨r2, c2⟩ := r1.put o (.int .i64 (n : Int))
 have HX : Hid (RX w (w1.setCell ⟨b, o, none⟩ (.int .i64 (n : Int))) R a cap (s.take 4).2 b (cs.setIfInBounds o (.int .i64 (n : Int))) ty) := ⟨r2, Chg.trans (Chg.trans HR.out.2.any (c1.mono (fun _ _ e => .inl e)) (fun _ _ e => e)) c2 (fun _ _ e => .inr e)⟩
 clear r1 r2 c2 i1 c1 HR
 go_wp2
 exact ⟨rfl, _, results_none rfl _ _ _, rfl, HX.out⟩
set_option maxRecDepth 10000 in
theorem rword (h : R1 w R a cap s b cs ty) (o : Nat) (ho : o < cs.size) :
  Calls Tryz.prog 254 #[hR R, .pointer (some ⟨b, o, none⟩)] w fun r w' => r = .returned (.tuple #[]) ∧ RX w w' R a cap (s.take 4).2 b (cs.setIfInBounds o (.int .u32 (s.num 4 : Nat))) ty := by
 have hlt : s.num 4 < 4294967296 := RS.num_lt s 4 h.rs.rng
 have k0 := Kp.al w (.cells #[.pointer (some ⟨R, 0, none⟩)] 101)
 have A1 := m32_any _ R a cap s (h.kp k0).rs
 have HR : Hid (R1 w R a cap s b cs ty ∧ Kp w (w.alloc (.cells #[.pointer (some ⟨R, 0, none⟩)] 101))) := ⟨h, k0⟩
 clear h k0
 generalize s.num 4 = n at *
 go_enter Tryz.func254, Tryz.ntmps254
 go_wp2_with fail
 go_at_call 78
 refine A1.mono ?_
 clear A1
 rintro e w1 ⟨rfl, i1, c1⟩
 have r1 := (HR.out.1.kp HR.out.2).read i1 c1 (RS.take_bs s 4)
 obtain ⟨u, hu⟩ := r1.cell o ho
 have hf := r1.fr o
 obtain ⟨r2, c2⟩ := r1.put o (.int .u32 (n : Int))
 have HX : Hid (RX w (w1.setCell ⟨b, o, none⟩ (.int .u32 (n : Int))) R a cap (s.take 4).2 b (cs.setIfInBounds o (.int .u32 (n : Int))) ty) := ⟨r2, Chg.trans (Chg.trans HR.out.2.any (c1.mono (fun _ _ e => .inl e)) (fun _ _ e => e)) c2 (fun _ _ e => .inr e)⟩
 clear r1 r2 c2 i1 c1 HR
 go_wp2
 exact ⟨rfl, _, results_none rfl _ _ _, rfl, HX.out⟩
set_option maxRecDepth 10000 in
theorem rlong (h : R1 w R a cap s b cs ty) (o : Nat) (ho : o < cs.size) :
  Calls Tryz.prog 250 #[hR R, .pointer (some ⟨b, o, none⟩)] w fun r w' => r = .returned (.tuple #[]) ∧ RX w w' R a cap (s.take 8).2 b (cs.setIfInBounds o (.int .u64 (s.num 8 : Nat))) ty := by
 have hlt : s.num 8 < 18446744073709551616 := RS.num_lt s 8 h.rs.rng
 have k0 := Kp.al w (.cells #[.pointer (some ⟨R, 0, none⟩)] 101)
 have A1 := m64_any _ R a cap s (h.kp k0).rs
 have HR : Hid (R1 w R a cap s b cs ty ∧ Kp w (w.alloc (.cells #[.pointer (some ⟨R, 0, none⟩)] 101))) := ⟨h, k0⟩
 clear h k0
 generalize s.num 8 = n at *
 go_enter Tryz.func250, Tryz.ntmps250
 go_wp2_with fail
 go_at_call 257
 refine A1.mono ?_
 clear A1
 rintro e w1 ⟨rfl, i1, c1⟩
 have r1 := (HR.out.1.kp HR.out.2).read i1 c1 (RS.take_bs s 8)
 obtain ⟨u, hu⟩ := r1.cell o ho
 have hf := r1.fr o
 obtain ⟨r2, c2⟩ := r1.put o (.int .u64 (n : Int))
 have HX : Hid (RX w (w1.setCell ⟨b, o, none⟩ (.int .u64 (n : Int))) R a cap (s.take 8).2 b (cs.setIfInBounds o (.int .u64 (n : Int))) ty) := ⟨r2, Chg.trans (Chg.trans HR.out.2.any (c1.mono (fun _ _ e => .inl e)) (fun _ _ e => e)) c2 (fun _ _ e => .inr e)⟩
 clear r1 r2 c2 i1 c1 HR
 go_wp2
 exact ⟨rfl, _, results_none rfl _ _ _, rfl, HX.out⟩
set_option maxRecDepth 10000 in
theorem rperm (h : R1 w R a cap s b cs ty) (o : Nat) (ho : o < cs.size) :
  Calls Tryz.prog 253 #[hR R, .pointer (some ⟨b, o, none⟩)] w fun r w' => r = .returned (.tuple #[]) ∧ RX w w' R a cap (s.take 1).2 b (cs.setIfInBounds o (.int .u8 (s.num 1 : Nat))) ty := by
 have hlt : s.num 1 < 256 := RS.num_lt s 1 h.rs.rng
 have k0 := Kp.al w (.cells #[.pointer (some ⟨R, 0, none⟩)] 101)
 have A1 := m8_any _ R a cap s (h.kp k0).rs
 have HR : Hid (R1 w R a cap s b cs ty ∧ Kp w (w.alloc (.cells #[.pointer (some ⟨R, 0, none⟩)] 101))) := ⟨h, k0⟩
 clear h k0
 generalize s.num 1 = n at *
 have z1 : IntKind.u8.wrap (n : Int) = n := by simp [IntKind.wrap, IntKind.bits, IntKind.signed]; omega
 go_enter Tryz.func253, Tryz.ntmps253
 go_wp2_with fail
 go_at_call 256
 refine A1.mono ?_
 clear A1
 rintro e w1 ⟨rfl, i1, c1⟩
 have r1 := (HR.out.1.kp HR.out.2).read i1 c1 (RS.take_bs s 1)
 obtain ⟨u, hu⟩ := r1.cell o ho
 have hf := r1.fr o
 obtain ⟨r2, c2⟩ := r1.put o (.int .u8 (n : Int))
 have HX : Hid (RX w (w1.setCell ⟨b, o, none⟩ (.int .u8 (n : Int))) R a cap (s.take 1).2 b (cs.setIfInBounds o (.int .u8 (n : Int))) ty) := ⟨r2, Chg.trans (Chg.trans HR.out.2.any (c1.mono (fun _ _ e => .inl e)) (fun _ _ e => e)) c2 (fun _ _ e => .inr e)⟩
 clear r1 r2 c2 i1 c1 HR
 go_wp2
 exact ⟨rfl, _, results_none rfl _ _ _, rfl, HX.out⟩
set_option maxRecDepth 10000 in
theorem rpad (h : R1 w R a cap s b cs ty) :
  Calls Tryz.prog 252 #[hR R] w fun r w' => r = .returned (.tuple #[]) ∧ RX w w' R a cap (s.pad 4) b cs ty := by
 have k0 := Kp.al w (.cells #[.pointer (some ⟨R, 0, none⟩)] 101)
 have A1 := rpad_any _ R a cap s 4 (h.kp k0).rs
 have HR : Hid (R1 w R a cap s b cs ty ∧ Kp w (w.alloc (.cells #[.pointer (some ⟨R, 0, none⟩)] 101))) := ⟨h, k0⟩
 clear h k0
 go_enter Tryz.func252, Tryz.ntmps252
 go_wp2_with fail
 go_at_call 258
 refine A1.mono ?_
 clear A1
 rintro e w1 ⟨rfl, i1, c1⟩
 have HX : Hid (RX w w1 R a cap (s.pad 4) b cs ty) := ⟨(HR.out.1.kp HR.out.2).read i1 c1 (RS.pad_bs s 4), Chg.trans HR.out.2.any (c1.mono (fun _ _ e => .inl e)) (fun _ _ e => e)⟩
 clear i1 c1 HR
 go_wp2
 exact ⟨rfl, _, results_none rfl _ _ _, rfl, HX.out⟩
def RS.flag (s : RS) : RS := if 1 < s.num 1 then (s.take 1).2.fail 230 (s.take 1).2.at_ else (s.take 1).2
theorem RS.flag_bs (s : RS) : s.flag.bs = s.bs := by
 unfold RS.flag; split
 ·exact RS.take_bs _ _
 ·exact RS.take_bs _ _
set_option maxRecDepth 10000 in
theorem rflag (h : R1 w R a cap s b cs ty) (o : Nat) (ho : o < cs.size) :
  Calls Tryz.prog 249 #[hR R, .pointer (some ⟨b, o, none⟩)] w fun r w' => r = .returned (.tuple #[]) ∧ RX w w' R a cap s.flag b (cs.setIfInBounds o (.bool (decide (s.num 1 = 1)))) ty := by
 have hlt : s.num 1 < 256 := RS.num_lt s 1 h.rs.rng
 have k0 := Kp.al w (.cells #[.pointer (some ⟨R, 0, none⟩)] 101)
 have hK := (cells_at (heap_alloc_new w (.cells #[.pointer (some ⟨R, 0, none⟩)] 101)) 0).1
 have A1 := m8_any _ R a cap s (h.kp k0).rs
 have hRl := hp_lt h.rs.box
 have HR : Hid (R1 w R a cap s b cs ty ∧ Kp w (w.alloc (.cells #[.pointer (some ⟨R, 0, none⟩)] 101))) := ⟨h, k0⟩
 have hfl : s.flag = if 1 < s.num 1 then (s.take 1).2.fail 230 (s.take 1).2.at_ else (s.take 1).2 := rfl
 clear h k0
 generalize s.num 1 = n at *
 go_enter Tryz.func249, Tryz.ntmps249
 go_wp2_with fail
 go_at_call 256
 refine A1.mono ?_
 clear A1
 rintro e w1 ⟨rfl, i1, c1⟩
 have hk1 := Chg.cell' c1 (b := w.heap.size) (o := 0) (by omega) hK
 have r1 := (HR.out.1.kp HR.out.2).read i1 c1 (RS.take_bs s 1)
 by_cases hn : 1 < n
 ·rw [if_pos hn] at hfl
  have hnz : (n : Int) > 1 := by omega
  have hn1 : ¬ n = 1 := by omega
  have hn2 : ((n : Int) == 1) = false := by simp; omega
  have A1 := rfail_any w1 R a cap (s.take 1).2 230 i1
  have H1 : Hid (R1 w1 R a cap (s.take 1).2 b cs ty ∧ Chg w w1 (fun k => k = R ∨ k = b)) := ⟨r1, Chg.trans HR.out.2.any (c1.mono (fun _ _ e => .inl e)) (fun _ _ e => e)⟩
  clear r1 i1 c1 HR hK
  go_wp2_with fail
  go_at_call 81
  refine A1.mono ?_
  clear A1 hk1
  rintro e w2 ⟨rfl, i2, c2⟩
  have r2 := H1.out.1.read i2 c2 rfl
  obtain ⟨u, hu⟩ := r2.cell o ho
  have hf := r2.fr o
  obtain ⟨r3, c3⟩ := r2.put o (.bool false)
  have HX : Hid (RX w (w2.setCell ⟨b, o, none⟩ (.bool false)) R a cap s.flag b (cs.setIfInBounds o (.bool (decide (n = 1)))) ty) := by
   rw [hfl, decide_eq_false hn1]; exact ⟨r3, Chg.trans (Chg.trans H1.out.2 c2 (fun _ _ e => .inl e)) c3 (fun _ _ e => .inr e)⟩
  clear r2 r3 c3 i2 c2 H1 hfl
  go_wp2
  exact ⟨rfl, _, results_none rfl _ _ _, rfl, HX.out⟩
 ·rw [if_neg hn] at hfl
  have hnz : ¬ (n : Int) > 1 := by omega
  have hn2 : ((n : Int) == 1) = decide (n = 1) := by
   by_cases e : n = 1
   ·subst e; rfl
   ·rw [decide_eq_false e]; simp; omega
  obtain ⟨d, hd⟩ : ∃ d, d = decide (n = 1) := ⟨_, rfl⟩
  rw [← hd] at hn2
  obtain ⟨u, hu⟩ := r1.cell o ho
  have hf := r1.fr o
  obtain ⟨r3, c3⟩ := r1.put o (.bool d)
  have HX : Hid (RX w (w1.setCell ⟨b, o, none⟩ (.bool d)) R a cap s.flag b (cs.setIfInBounds o (.bool (decide (n = 1)))) ty) := by
   rw [hfl, ← hd]; exact ⟨r3, Chg.trans (Chg.trans HR.out.2.any (c1.mono (fun _ _ e => .inl e)) (fun _ _ e => e)) c3 (fun _ _ e => .inr e)⟩
  clear r1 r3 c3 i1 c1 HR hk1 hK hfl hd
  go_wp2
  exact ⟨rfl, _, results_none rfl _ _ _, rfl, HX.out⟩
end
end Go.Proofs.YtkggkkoblpdopaaGreat
namespace Go.Proofs.YtkggkkoblpdopaaGreat
open Go.ChangeShapes Go.WideShapes Go.ChangeAt Go.RowKit
set_option linter.unusedVariables false
def ops248_1 : Array Oper := #[⟨some 4, Op.move (.tmp 1), 144, "reader.go:43", #[], none⟩,
 ⟨some 5, Op.fieldAddr 101 (.tmp 2) 0, 0, "reader.go:43", #[], none⟩,
 ⟨some 6, Op.load 97 (.tmp 5), 97, "reader.go:43", #[gd' 1], none⟩,
 ⟨some 7, Op.fieldAddr 101 (.tmp 2) 0, 0, "reader.go:43", #[], none⟩,
 ⟨some 8, Op.load 97 (.tmp 7), 97, "reader.go:43", #[gd' 3], none⟩,
 ⟨some 9, Op.call { callee := Callee.value (Operand.func 78), args := #[Operand.tmp 8], argTypes := #[97] }, 29, "reader.go:43", #[gd' 4], none⟩,
 ⟨some 10, Op.convert 29 3 (.tmp 9), 3, "reader.go:43", #[gd' 5], none⟩,
 ⟨some 11, Op.call { callee := Callee.value (Operand.func 75), args := #[Operand.tmp 6, Operand.tmp 10], argTypes := #[97, 3] }, 22, "reader.go:43", #[gd' 2, gd' 6, gc' 5], none⟩,
 ⟨some 12, Op.nilCheck (.tmp 4), 0, "reader.go:43", #[gd' 0, gp' 0, gp' 1, gp' 2, gp' 3, gp' 4, gp' 5, gp' 6, gp' 7], none⟩,
 ⟨none, Op.store 22 (.tmp 12) (.tmp 11), 0, "reader.go:43", #[gd' 8, gd' 7, gc' 7, gp' 0, gp' 1, gp' 2, gp' 3, gp' 4, gp' 5, gp' 6, gp' 7], none⟩]
set_option maxHeartbeats 8000000 in
set_option maxRecDepth 100000 in
theorem reg248_1 (W : World) (KB R b o : Nat) (hS : (fun w' => w'.cell? ⟨KB, 0, none⟩ = some (.pointer (some ⟨R, 0, none⟩))) W.drew) (P : Value → World → Prop)
  (hcall : Calls Tryz.prog 78 #[.pointer (some ⟨R, 0, none⟩)] W.drew fun e x1 => ∃ n : Nat, e = .returned (.int .u32 (n : Nat)) ∧ IntKind.i64.wrap (n : Int) = n ∧ x1.cell? ⟨KB, 0, none⟩ = some (.pointer (some ⟨R, 0, none⟩)) ∧ Calls Tryz.prog 75 #[.pointer (some ⟨R, 0, none⟩), .int .i64 (n : Nat)] x1 fun e x2 => ∃ (va : Option Addr) (vn vc : Nat), e = .returned (.slice va vn vc) ∧ x2.cell? ⟨KB, 0, none⟩ = some (.pointer (some ⟨R, 0, none⟩)) ∧ (∃ u, x2.cell? ⟨b, o, none⟩ = some u) ∧ x2.frozen? ⟨b, o, none⟩ = false ∧ ((x2.setCell ⟨b, o, none⟩ (.slice va vn vc)).cell? ⟨KB, 0, none⟩ = some (.pointer (some ⟨R, 0, none⟩))) ∧ P (.slice va vn vc) (x2.setCell ⟨b, o, none⟩ (.slice va vn vc)))
  (Q : Exit → Act → World → Prop) (hPan : ∀ c (a : Act) w (d : Option Tmp) v, Q (.panic c) (a.put d v) w → Q (.panic c) a w) {u0 u3 u4 u5 u6 u7 u8 u9 u10 u11 u12 u13 u14 : Value}
  (hQ : ∀ (n : Nat) (va : Option Addr) (vn vc : Nat) w1, P (.slice va vn vc) w1 → Q .normal ⟨#[u0, .pointer (some ⟨b, o, none⟩), .pointer (some ⟨KB, 0, none⟩), u3, .pointer (some ⟨b, o, none⟩), .pointer (some ⟨KB, 0, none⟩), .pointer (some ⟨R, 0, none⟩), .pointer (some ⟨KB, 0, none⟩), .pointer (some ⟨R, 0, none⟩), .int .u32 (n : Nat), .int .i64 (n : Nat), .slice va vn vc, .pointer (some ⟨b, o, none⟩), u13,u14], []⟩ w1) :
  Code.wp Tryz.prog (Code.region 1 ops248_1 true) Q ⟨#[u0, .pointer (some ⟨b, o, none⟩), .pointer (some ⟨KB, 0, none⟩), u3,u4,u5,u6,u7,u8,u9,u10,u11,u12,u13,u14], []⟩ W := by
 refine wp_region_held_drew (S := fun w' => w'.cell? ⟨KB, 0, none⟩ = some (.pointer (some ⟨R, 0, none⟩))) hmx hS (fun HSX => ?_)
 clear hS
 obtain ⟨W0, hW0⟩ : ∃ W0,W0 = W.drew := ⟨_, rfl⟩
 rw [← hW0] at HSX hcall ⊢
 clear hW0
 refine tk hPan (i := 0) (oi := ⟨some 4, Op.move (.tmp 1), 144, "reader.go:43", #[], none⟩) (v := .pointer (some ⟨b, o, none⟩)) rfl (by kernel_rfl) (.inl ⟨by rfl, ?_⟩) HSX ?_
 ·intro wx d0
  have s1 := d0
  go_simp
 simp only [Act.put, sl0', sl1', sl2']
 refine tk hPan (i := 1) (oi := ⟨some 5, Op.fieldAddr 101 (.tmp 2) 0, 0, "reader.go:43", #[], none⟩) (v := .pointer (some ⟨KB, 0, none⟩)) rfl (by kernel_rfl) (.inl ⟨by rfl, ?_⟩) HSX ?_
 ·intro wx d0
  have s1 := d0
  go_simp
 simp only [Act.put, sl0', sl1', sl2']
 refine tk hPan (i := 2) (oi := ⟨some 6, Op.load 97 (.tmp 5), 97, "reader.go:43", #[gd' 1], none⟩) (v := .pointer (some ⟨R, 0, none⟩)) rfl (by kernel_rfl) (.inl ⟨by rfl, ?_⟩) HSX ?_
 ·intro wx d0
  have s1 := d0
  go_simp
 simp only [Act.put, sl0', sl1', sl2']
 refine tk hPan (i := 3) (oi := ⟨some 7, Op.fieldAddr 101 (.tmp 2) 0, 0, "reader.go:43", #[], none⟩) (v := .pointer (some ⟨KB, 0, none⟩)) rfl (by kernel_rfl) (.inl ⟨by rfl, ?_⟩) HSX ?_
 ·intro wx d0
  have s1 := d0
  go_simp
 simp only [Act.put, sl0', sl1', sl2']
 refine tk hPan (i := 4) (oi := ⟨some 8, Op.load 97 (.tmp 7), 97, "reader.go:43", #[gd' 3], none⟩) (v := .pointer (some ⟨R, 0, none⟩)) rfl (by kernel_rfl) (.inl ⟨by rfl, ?_⟩) HSX ?_
 ·intro wx d0
  have s1 := d0
  go_simp
 simp only [Act.put, sl0', sl1', sl2']
 refine wpAnyH_ready (rs := [5]) (by kernel_rfl) (by simp) ?_
 refine AllReadyH.cons (o := ⟨some 9, Op.call { callee := Callee.value (Operand.func 78), args := #[Operand.tmp 8], argTypes := #[97] }, 29, "reader.go:43", #[gd' 4], none⟩) rfl (fun K hK => ?_) AllReadyH.nil
 rw [if_pos (by rfl)]
 go_simp
 go_at_call 78
 refine hcall.mono ?_
 rintro e w1 ⟨n, rfl, z1, HS1, hc2⟩
 go_simp
 refine hK.out _ _ HS1 (fun HSX => ?_)
 clear hK K
 refine tk hPan (i := 6) (oi := ⟨some 10, Op.convert 29 3 (.tmp 9), 3, "reader.go:43", #[gd' 5], none⟩) (v := .int .i64 (n : Nat)) rfl (by kernel_rfl) (.inl ⟨by rfl, ?_⟩) HSX ?_
 ·intro wx d0
  have s1 := d0
  go_simp
 simp only [Act.put, sl0', sl1', sl2']
 refine wpAnyH_ready (rs := [7]) (by kernel_rfl) (by simp) ?_
 refine AllReadyH.cons (o := ⟨some 11, Op.call { callee := Callee.value (Operand.func 75), args := #[Operand.tmp 6, Operand.tmp 10], argTypes := #[97, 3] }, 22, "reader.go:43", #[gd' 2, gd' 6, gc' 5], none⟩) rfl (fun K hK => ?_) AllReadyH.nil
 rw [if_pos (by rfl)]
 go_simp
 go_at_call 75
 refine hc2.mono ?_
 rintro e w2 ⟨va, vn, vc, rfl, HS2, ⟨uu, hu⟩, hf, HS3, hP⟩
 go_simp
 refine hK.out _ _ HS2 (fun HSX => ?_)
 clear hK K
 refine tk hPan (i := 8) (oi := ⟨some 12, Op.nilCheck (.tmp 4), 0, "reader.go:43", #[gd' 0, gp' 0, gp' 1, gp' 2, gp' 3, gp' 4, gp' 5, gp' 6, gp' 7], none⟩) (v := .pointer (some ⟨b, o, none⟩)) rfl (by kernel_rfl) (.inl ⟨by rfl, ?_⟩) HSX ?_
 ·intro wx d0
  have s1 := d0
  go_simp
 simp only [Act.put, sl0', sl1', sl2']
 refine wpAnyH_ready (rs := [9]) (by kernel_rfl) (by simp) ?_
 refine AllReadyH.cons (o := ⟨none, Op.store 22 (.tmp 12) (.tmp 11), 0, "reader.go:43", #[gd' 8, gd' 7, gc' 7, gp' 0, gp' 1, gp' 2, gp' 3, gp' 4, gp' 5, gp' 6, gp' 7], none⟩) rfl (fun K hK => ?_) AllReadyH.nil
 rw [if_pos (by rfl)]
 go_simp
 refine hK.out _ _ HS3 (fun HSX => ?_)
 clear hK K
 refine wpAnyH_done (by kernel_rfl) ?_ _
 exact hQ n va vn vc _ hP
theorem own_sl {w : World} {e sz n : Nat} {v : Value} {cs : List Value} (h : w.ownsRow 0 e sz v n cs) : ∃ a c, v = .slice a n c := by
 rcases h.2 with ⟨h1, h2⟩ | ⟨g, cap, cur, h1, _⟩
 ·exact ⟨none, 0, by rw [h1, h2]⟩
 ·exact ⟨_, _, h1⟩
section
variable {w w' w'' : World} {R : Nat} {a : Option Addr} {cap : Nat} {s s' : RS} {b : Nat} {cs cs' : Array Value} {ty : TypeId}
def RS.bytes (s : RS) : List Int × RS := (((s.take 4).2.take (s.num 4)).1, (((s.take 4).2.take (s.num 4)).2).pad 4)
theorem RS.bytes_bs (s : RS) : s.bytes.2.bs = s.bs := by
 unfold RS.bytes
 exact (RS.pad_bs _ _).trans ((RS.take_bs _ _).trans (RS.take_bs _ _))
set_option maxRecDepth 10000 in
theorem rbytes (h : R1 w R a cap s b cs ty) (o : Nat) (ho : o < cs.size) :
  Calls Tryz.prog 248 #[hR R, .pointer (some ⟨b, o, none⟩)] w fun r w' => r = .returned (.tuple #[]) ∧ ∃ v, RX w w' R a cap s.bytes.2 b (cs.setIfInBounds o v) ty ∧ OwnB w' v s.bytes.1 ∧ Fresh w.heap.size v := by
 have hlt : s.num 4 < 4294967296 := RS.num_lt s 4 h.rs.rng
 have k0 := Kp.al w (.cells #[.pointer (some ⟨R, 0, none⟩)] 101)
 have hK := (cells_at (heap_alloc_new w (.cells #[.pointer (some ⟨R, 0, none⟩)] 101)) 0).1
 have hRl := hp_lt h.rs.box
 have hbl := hp_lt h.bl
 have kd := Kp.trans k0 (Kp.drew (w.alloc (.cells #[.pointer (some ⟨R, 0, none⟩)] 101)))
 have hr0 := h.kp kd
 have hKd := Kp.cell (Kp.drew (w.alloc (.cells #[.pointer (some ⟨R, 0, none⟩)] 101))) hK
 have A1 : Calls Tryz.prog 78 #[.pointer (some ⟨R, 0, none⟩)] (w.alloc (.cells #[.pointer (some ⟨R, 0, none⟩)] 101)).drew fun e x1 => ∃ n : Nat, e = .returned (.int .u32 (n : Nat)) ∧ IntKind.i64.wrap (n : Int) = n ∧ x1.cell? ⟨w.heap.size, 0, none⟩ = some (.pointer (some ⟨R, 0, none⟩)) ∧ Calls Tryz.prog 75 #[.pointer (some ⟨R, 0, none⟩), .int .i64 (n : Nat)] x1 fun e x2 => ∃ (va : Option Addr) (vn vc : Nat), e = .returned (.slice va vn vc) ∧ x2.cell? ⟨w.heap.size, 0, none⟩ = some (.pointer (some ⟨R, 0, none⟩)) ∧ (∃ u, x2.cell? ⟨b, o, none⟩ = some u) ∧ x2.frozen? ⟨b, o, none⟩ = false ∧ ((x2.setCell ⟨b, o, none⟩ (.slice va vn vc)).cell? ⟨w.heap.size, 0, none⟩ = some (.pointer (some ⟨R, 0, none⟩))) ∧ (RX w (x2.setCell ⟨b, o, none⟩ (.slice va vn vc)) R a cap ((s.take 4).2.take (s.num 4)).2 b (cs.setIfInBounds o (.slice va vn vc)) ty ∧ OwnB (x2.setCell ⟨b, o, none⟩ (.slice va vn vc)) (.slice va vn vc) s.bytes.1 ∧ Fresh w.heap.size (.slice va vn vc) ∧ (x2.setCell ⟨b, o, none⟩ (.slice va vn vc)).cell? ⟨w.heap.size, 0, none⟩ = some (.pointer (some ⟨R, 0, none⟩))) := by
  refine (m32_any _ R a cap s hr0.rs).mono ?_
  rintro e w1 ⟨rfl, i1, c1⟩
  have r1 := hr0.read i1 c1 (RS.take_bs s 4)
  have hk1 := Chg.cell' c1 (b := w.heap.size) (o := 0) (by omega) hKd
  refine ⟨s.num 4, rfl, by simp [IntKind.wrap, IntKind.bits, IntKind.signed]; omega, hk1, ?_⟩
  refine (raw_any w1 R a cap (s.take 4).2 (s.num 4 : Nat) (by omega) i1).mono ?_
  rintro e w2 ⟨v, rfl, ho2, hf2, i2, c2⟩
  have e1 : (s.take 4).2.raw ((s.num 4 : Nat) : Int) = (s.take 4).2.take (s.num 4) := by
   unfold RS.raw; rw [if_neg (by omega), Int.toNat_natCast]
  rw [e1] at ho2 i2
  have r2 := r1.read i2 c2 (RS.take_bs _ _)
  have hk2 := Chg.cell' c2 (b := w.heap.size) (o := 0) (by omega) hk1
  obtain ⟨va, vc, rfl⟩ := own_sl ho2.1
  obtain ⟨r3, c3⟩ := r2.put o (.slice va ((s.take 4).2.take (s.num 4)).1.length vc)
  have hs1 := c1.size
  have hsk := kd.size
  have hfr : Fresh w.heap.size (.slice va ((s.take 4).2.take (s.num 4)).1.length vc) := fun k hk => by have := hf2 k hk; omega
  have hk3 := Chg.cell' c3 (b := w.heap.size) (o := 0) (by omega) hk2
  refine ⟨va, _, vc, rfl, hk2, r2.cell o ho, r2.fr o, hk3, ⟨r3, ?_⟩, ho2.chg c3 (fun k hk e => by have := hfr k hk; omega), hfr, hk3⟩
  exact Chg.trans (Chg.trans (Chg.trans kd.any (c1.mono (fun _ _ e => .inl e)) (fun _ _ e => e)) c2 (fun _ _ e => .inl e)) c3 (fun _ _ e => .inr e)
 clear hr0 kd k0 h hK
 go_enter Tryz.func248, Tryz.ntmps248
 go_upto_region 1 with fail
 refine reg248_1 _ w.heap.size R b o hKd (fun v x => RX w x R a cap ((s.take 4).2.take (s.num 4)).2 b (cs.setIfInBounds o v) ty ∧ OwnB x v s.bytes.1 ∧ Fresh w.heap.size v ∧ x.cell? ⟨w.heap.size, 0, none⟩ = some (.pointer (some ⟨R, 0, none⟩))) A1 _ (fun _ _ _ q _ h => by cases q <;> exact h) ?_
 clear A1 hKd
 rintro n va vn vc w1 ⟨hx, hown, hfr, hk⟩
 have A1 := rpad hx.1
 have HX : Hid (RX w w1 R a cap ((s.take 4).2.take (s.num 4)).2 b (cs.setIfInBounds o (.slice va vn vc)) ty ∧ OwnB w1 (.slice va vn vc) s.bytes.1 ∧ Fresh w.heap.size (.slice va vn vc)) := ⟨hx, hown, hfr⟩
 clear hx hown hfr
 go_wp2_with fail
 go_at_call 252
 refine A1.mono ?_
 clear A1 hk
 rintro e w2 ⟨rfl, q2⟩
 have HY : Hid (∃ v, RX w w2 R a cap s.bytes.2 b (cs.setIfInBounds o v) ty ∧ OwnB w2 v s.bytes.1 ∧ Fresh w.heap.size v) := by
  refine ⟨_, ⟨q2.1, Chg.trans HX.out.1.2 q2.2 (fun _ _ e => e)⟩, HX.out.2.1.chg q2.2 (fun k hk e => ?_), HX.out.2.2⟩
  have := HX.out.2.2 k hk
  omega
 clear HX q2
 go_wp2
 exact ⟨rfl, _, results_none rfl _ _ _, rfl, HY.out⟩
end
end Go.Proofs.YtkggkkoblpdopaaGreat
namespace Go.Proofs.YtkggkkoblpdopaaGreat
open Go.ChangeShapes Go.WideShapes Go.ChangeAt Go.RowKit
set_option linter.unusedVariables false
section
variable {w wi w' : World} {R : Nat} {a : Option Addr} {cap : Nat} {s s' : RS} {b : Nat} {cs cs' : Array Value} {ty : TypeId}
theorem RX.refl (h : R1 w R a cap s b cs ty) : RX w w R a cap s b cs ty := ⟨h, Chg.refl _ _⟩
theorem RX.next (hE : RX w wi R a cap s b cs ty) {F : Nat} {args : Array Value} (C : R1 wi.drew R a cap s b cs ty → Calls Tryz.prog F args wi.drew fun r w' => r = .returned (.tuple #[]) ∧ RX wi.drew w' R a cap s' b cs' ty) :
  Calls Tryz.prog F args wi.drew fun e x1 => e = .returned (.tuple #[]) ∧ True ∧ RX w x1 R a cap s' b cs' ty := by
 refine (C (hE.1.kp (Kp.drew wi))).mono ?_
 rintro r w' ⟨rfl, q⟩
 exact ⟨rfl, trivial, q.1, Chg.trans hE.2 (Chg.trans (Kp.drew wi).any q.2 (fun _ _ e => e)) (fun _ _ e => e)⟩
theorem RX.step (hE : RX w wi R a cap s b cs ty) {F : Nat} {args : Array Value} (C : R1 wi R a cap s b cs ty → Calls Tryz.prog F args wi fun r w' => r = .returned (.tuple #[]) ∧ RX wi w' R a cap s' b cs' ty) :
  Calls Tryz.prog F args wi fun e x1 => e = .returned (.tuple #[]) ∧ RX w x1 R a cap s' b cs' ty := by
 refine (C hE.1).mono ?_
 rintro r w' ⟨rfl, q⟩
 exact ⟨rfl, q.1, Chg.trans hE.2 q.2 (fun _ _ e => e)⟩
end
set_option maxRecDepth 10000 in
theorem rrow0_46 {w : World} {R : Nat} {a : Option Addr} {cap : Nat} {s : RS} {b : Nat} {cs : Array Value} {ty : TypeId} (h : R1 w R a cap s b cs ty) (o : Nat) (hcs : cs[o]? = some (.slice none 0 0)) (h0 : s.num 4 = 0) (fv : Value) :
  Calls Tryz.prog 46 #[.iface 101 (hR R), .pointer (some ⟨b, o, none⟩), fv] w fun r w' => r = .returned (.tuple #[]) ∧ RX w w' R a cap (s.take 4).2 b cs ty := by
 have hbl := hp_lt h.bl
 have hRl := hp_lt h.rs.box
 have hal := h.rs.bytes
 have cL : w.cell? ⟨b, o, none⟩ = some (.slice none 0 0) := by rw [(cells_at h.bl o).1]; exact hcs
 obtain ⟨w1, hw1⟩ : ∃ w1, w1 = w.alloc (.cells #[.int .i64 0] 3) := ⟨_, rfl⟩
 have k1 : Kp w w1 := by rw [hw1]; exact Kp.al _ _
 have hx : w1.heap[w.heap.size]? = some (.cells #[.int .i64 0] 3 (0, 0)) := by rw [hw1]; exact heap_alloc_new w _
 have r1 : R1 w1 R a cap s w.heap.size #[.int .i64 0] 3 := by
  refine ⟨(h.kp k1).rs, hx, by omega, fun x off e hl hxx => ?_⟩
  obtain ⟨q1, q2, q3, q4⟩ := hal
  rcases q4 with q4 | ⟨bb, oo, q4, q5⟩
  ·omega
  ·rw [e] at q4; cases q4
   have := lt_of_cell (q5 0 hl)
   omega
 have A1 := rwordOf r1 0 (by simp)
 rw [h0] at A1
 have HR : Hid (R1 w R a cap s b cs ty ∧ Kp w w1 ∧ w.heap.size < w1.heap.size) := ⟨h, k1, hp_lt hx⟩
 clear h k1 r1 hx hal
 have hm := (mr_wordOf R).m
 go_enter Tryz.func46, Tryz.ntmps46
 go_wp2_with fail
 rw [← hw1]
 clear hw1
 go_at_call 255
 refine A1.mono ?_
 clear A1 hm cL
 rintro e w2 ⟨rfl, q⟩
 have c2 : w2.cell? ⟨w.heap.size, 0, none⟩ = some (.int .i64 0) := by rw [(cells_at q.1.bl 0).1]; rfl
 have HX : Hid (RX w w2 R a cap (s.take 4).2 b cs ty) := by
  obtain ⟨hr, k1, hs⟩ := HR.out
  have c : Chg w w2 (fun k => k = R) := Chg.trans (Chg.trans k1.any q.2 (S := fun k => k = R ∨ k = w.heap.size) (fun _ _ e => e)) (Chg.refl w2 (fun _ => False)) (fun _ _ e => e.elim) |>.mono (fun k hk e => e.resolve_right (by omega))
  have r2 := hr.read (s' := (s.take 4).2) q.1.rs c (RS.take_bs s 4)
  exact ⟨r2, c.mono (fun _ _ e => .inl e)⟩
 clear HR q
 go_wp2_with fail
 refine wp_loop_rounds 1 ?_
 rw [rounds_succ]
 go_wp2
 exact ⟨rfl, _, results_none rfl _ _ _, rfl, HX.out⟩
set_option maxRecDepth 10000 in
theorem rrow0_49 {w : World} {R : Nat} {a : Option Addr} {cap : Nat} {s : RS} {b : Nat} {cs : Array Value} {ty : TypeId} (h : R1 w R a cap s b cs ty) (o : Nat) (hcs : cs[o]? = some (.slice none 0 0)) (h0 : s.num 4 = 0) (fv : Value) :
  Calls Tryz.prog 49 #[.iface 101 (hR R), .pointer (some ⟨b, o, none⟩), fv] w fun r w' => r = .returned (.tuple #[]) ∧ RX w w' R a cap (s.take 4).2 b cs ty := by
 have hbl := hp_lt h.bl
 have hRl := hp_lt h.rs.box
 have hal := h.rs.bytes
 have cL : w.cell? ⟨b, o, none⟩ = some (.slice none 0 0) := by rw [(cells_at h.bl o).1]; exact hcs
 obtain ⟨w1, hw1⟩ : ∃ w1, w1 = w.alloc (.cells #[.int .i64 0] 3) := ⟨_, rfl⟩
 have k1 : Kp w w1 := by rw [hw1]; exact Kp.al _ _
 have hx : w1.heap[w.heap.size]? = some (.cells #[.int .i64 0] 3 (0, 0)) := by rw [hw1]; exact heap_alloc_new w _
 have r1 : R1 w1 R a cap s w.heap.size #[.int .i64 0] 3 := by
  refine ⟨(h.kp k1).rs, hx, by omega, fun x off e hl hxx => ?_⟩
  obtain ⟨q1, q2, q3, q4⟩ := hal
  rcases q4 with q4 | ⟨bb, oo, q4, q5⟩
  ·omega
  ·rw [e] at q4; cases q4
   have := lt_of_cell (q5 0 hl)
   omega
 have A1 := rwordOf r1 0 (by simp)
 rw [h0] at A1
 have HR : Hid (R1 w R a cap s b cs ty ∧ Kp w w1 ∧ w.heap.size < w1.heap.size) := ⟨h, k1, hp_lt hx⟩
 clear h k1 r1 hx hal
 have hm := (mr_wordOf R).m
 go_enter Tryz.func49, Tryz.ntmps49
 go_wp2_with fail
 rw [← hw1]
 clear hw1
 go_at_call 255
 refine A1.mono ?_
 clear A1 hm cL
 rintro e w2 ⟨rfl, q⟩
 have c2 : w2.cell? ⟨w.heap.size, 0, none⟩ = some (.int .i64 0) := by rw [(cells_at q.1.bl 0).1]; rfl
 have HX : Hid (RX w w2 R a cap (s.take 4).2 b cs ty) := by
  obtain ⟨hr, k1, hs⟩ := HR.out
  have c : Chg w w2 (fun k => k = R) := Chg.trans (Chg.trans k1.any q.2 (S := fun k => k = R ∨ k = w.heap.size) (fun _ _ e => e)) (Chg.refl w2 (fun _ => False)) (fun _ _ e => e.elim) |>.mono (fun k hk e => e.resolve_right (by omega))
  have r2 := hr.read (s' := (s.take 4).2) q.1.rs c (RS.take_bs s 4)
  exact ⟨r2, c.mono (fun _ _ e => .inl e)⟩
 clear HR q
 go_wp2_with fail
 refine wp_loop_rounds 1 ?_
 rw [rounds_succ]
 go_wp2
 exact ⟨rfl, _, results_none rfl _ _ _, rfl, HX.out⟩
set_option maxRecDepth 10000 in
theorem rrow0_52 {w : World} {R : Nat} {a : Option Addr} {cap : Nat} {s : RS} {b : Nat} {cs : Array Value} {ty : TypeId} (h : R1 w R a cap s b cs ty) (o : Nat) (hcs : cs[o]? = some (.slice none 0 0)) (h0 : s.num 4 = 0) (fv : Value) :
  Calls Tryz.prog 52 #[.iface 101 (hR R), .pointer (some ⟨b, o, none⟩), fv] w fun r w' => r = .returned (.tuple #[]) ∧ RX w w' R a cap (s.take 4).2 b cs ty := by
 have hbl := hp_lt h.bl
 have hRl := hp_lt h.rs.box
 have hal := h.rs.bytes
 have cL : w.cell? ⟨b, o, none⟩ = some (.slice none 0 0) := by rw [(cells_at h.bl o).1]; exact hcs
 obtain ⟨w1, hw1⟩ : ∃ w1, w1 = w.alloc (.cells #[.int .i64 0] 3) := ⟨_, rfl⟩
 have k1 : Kp w w1 := by rw [hw1]; exact Kp.al _ _
 have hx : w1.heap[w.heap.size]? = some (.cells #[.int .i64 0] 3 (0, 0)) := by rw [hw1]; exact heap_alloc_new w _
 have r1 : R1 w1 R a cap s w.heap.size #[.int .i64 0] 3 := by
  refine ⟨(h.kp k1).rs, hx, by omega, fun x off e hl hxx => ?_⟩
  obtain ⟨q1, q2, q3, q4⟩ := hal
  rcases q4 with q4 | ⟨bb, oo, q4, q5⟩
  ·omega
  ·rw [e] at q4; cases q4
   have := lt_of_cell (q5 0 hl)
   omega
 have A1 := rwordOf r1 0 (by simp)
 rw [h0] at A1
 have HR : Hid (R1 w R a cap s b cs ty ∧ Kp w w1 ∧ w.heap.size < w1.heap.size) := ⟨h, k1, hp_lt hx⟩
 clear h k1 r1 hx hal
 have hm := (mr_wordOf R).m
 go_enter Tryz.func52, Tryz.ntmps52
 go_wp2_with fail
 rw [← hw1]
 clear hw1
 go_at_call 255
 refine A1.mono ?_
 clear A1 hm cL
 rintro e w2 ⟨rfl, q⟩
 have c2 : w2.cell? ⟨w.heap.size, 0, none⟩ = some (.int .i64 0) := by rw [(cells_at q.1.bl 0).1]; rfl
 have HX : Hid (RX w w2 R a cap (s.take 4).2 b cs ty) := by
  obtain ⟨hr, k1, hs⟩ := HR.out
  have c : Chg w w2 (fun k => k = R) := Chg.trans (Chg.trans k1.any q.2 (S := fun k => k = R ∨ k = w.heap.size) (fun _ _ e => e)) (Chg.refl w2 (fun _ => False)) (fun _ _ e => e.elim) |>.mono (fun k hk e => e.resolve_right (by omega))
  have r2 := hr.read (s' := (s.take 4).2) q.1.rs c (RS.take_bs s 4)
  exact ⟨r2, c.mono (fun _ _ e => .inl e)⟩
 clear HR q
 go_wp2_with fail
 refine wp_loop_rounds 1 ?_
 rw [rounds_succ]
 go_wp2
 exact ⟨rfl, _, results_none rfl _ _ _, rfl, HX.out⟩
set_option maxRecDepth 10000 in
theorem rrow0_55 {w : World} {R : Nat} {a : Option Addr} {cap : Nat} {s : RS} {b : Nat} {cs : Array Value} {ty : TypeId} (h : R1 w R a cap s b cs ty) (o : Nat) (hcs : cs[o]? = some (.slice none 0 0)) (h0 : s.num 4 = 0) (fv : Value) :
  Calls Tryz.prog 55 #[.iface 101 (hR R), .pointer (some ⟨b, o, none⟩), fv] w fun r w' => r = .returned (.tuple #[]) ∧ RX w w' R a cap (s.take 4).2 b cs ty := by
 have hbl := hp_lt h.bl
 have hRl := hp_lt h.rs.box
 have hal := h.rs.bytes
 have cL : w.cell? ⟨b, o, none⟩ = some (.slice none 0 0) := by rw [(cells_at h.bl o).1]; exact hcs
 obtain ⟨w1, hw1⟩ : ∃ w1, w1 = w.alloc (.cells #[.int .i64 0] 3) := ⟨_, rfl⟩
 have k1 : Kp w w1 := by rw [hw1]; exact Kp.al _ _
 have hx : w1.heap[w.heap.size]? = some (.cells #[.int .i64 0] 3 (0, 0)) := by rw [hw1]; exact heap_alloc_new w _
 have r1 : R1 w1 R a cap s w.heap.size #[.int .i64 0] 3 := by
  refine ⟨(h.kp k1).rs, hx, by omega, fun x off e hl hxx => ?_⟩
  obtain ⟨q1, q2, q3, q4⟩ := hal
  rcases q4 with q4 | ⟨bb, oo, q4, q5⟩
  ·omega
  ·rw [e] at q4; cases q4
   have := lt_of_cell (q5 0 hl)
   omega
 have A1 := rwordOf r1 0 (by simp)
 rw [h0] at A1
 have HR : Hid (R1 w R a cap s b cs ty ∧ Kp w w1 ∧ w.heap.size < w1.heap.size) := ⟨h, k1, hp_lt hx⟩
 clear h k1 r1 hx hal
 have hm := (mr_wordOf R).m
 go_enter Tryz.func55, Tryz.ntmps55
 go_wp2_with fail
 rw [← hw1]
 clear hw1
 go_at_call 255
 refine A1.mono ?_
 clear A1 hm cL
 rintro e w2 ⟨rfl, q⟩
 have c2 : w2.cell? ⟨w.heap.size, 0, none⟩ = some (.int .i64 0) := by rw [(cells_at q.1.bl 0).1]; rfl
 have HX : Hid (RX w w2 R a cap (s.take 4).2 b cs ty) := by
  obtain ⟨hr, k1, hs⟩ := HR.out
  have c : Chg w w2 (fun k => k = R) := Chg.trans (Chg.trans k1.any q.2 (S := fun k => k = R ∨ k = w.heap.size) (fun _ _ e => e)) (Chg.refl w2 (fun _ => False)) (fun _ _ e => e.elim) |>.mono (fun k hk e => e.resolve_right (by omega))
  have r2 := hr.read (s' := (s.take 4).2) q.1.rs c (RS.take_bs s 4)
  exact ⟨r2, c.mono (fun _ _ e => .inl e)⟩
 clear HR q
 go_wp2_with fail
 refine wp_loop_rounds 1 ?_
 rw [rounds_succ]
 go_wp2
 exact ⟨rfl, _, results_none rfl _ _ _, rfl, HX.out⟩
set_option maxRecDepth 10000 in
theorem rrow0_59 {w : World} {R : Nat} {a : Option Addr} {cap : Nat} {s : RS} {b : Nat} {cs : Array Value} {ty : TypeId} (h : R1 w R a cap s b cs ty) (o : Nat) (hcs : cs[o]? = some (.slice none 0 0)) (h0 : s.num 4 = 0) (fv : Value) :
  Calls Tryz.prog 59 #[.iface 101 (hR R), .pointer (some ⟨b, o, none⟩), fv] w fun r w' => r = .returned (.tuple #[]) ∧ RX w w' R a cap (s.take 4).2 b cs ty := by
 have hbl := hp_lt h.bl
 have hRl := hp_lt h.rs.box
 have hal := h.rs.bytes
 have cL : w.cell? ⟨b, o, none⟩ = some (.slice none 0 0) := by rw [(cells_at h.bl o).1]; exact hcs
 obtain ⟨w1, hw1⟩ : ∃ w1, w1 = w.alloc (.cells #[.int .i64 0] 3) := ⟨_, rfl⟩
 have k1 : Kp w w1 := by rw [hw1]; exact Kp.al _ _
 have hx : w1.heap[w.heap.size]? = some (.cells #[.int .i64 0] 3 (0, 0)) := by rw [hw1]; exact heap_alloc_new w _
 have r1 : R1 w1 R a cap s w.heap.size #[.int .i64 0] 3 := by
  refine ⟨(h.kp k1).rs, hx, by omega, fun x off e hl hxx => ?_⟩
  obtain ⟨q1, q2, q3, q4⟩ := hal
  rcases q4 with q4 | ⟨bb, oo, q4, q5⟩
  ·omega
  ·rw [e] at q4; cases q4
   have := lt_of_cell (q5 0 hl)
   omega
 have A1 := rwordOf r1 0 (by simp)
 rw [h0] at A1
 have HR : Hid (R1 w R a cap s b cs ty ∧ Kp w w1 ∧ w.heap.size < w1.heap.size) := ⟨h, k1, hp_lt hx⟩
 clear h k1 r1 hx hal
 have hm := (mr_wordOf R).m
 go_enter Tryz.func59, Tryz.ntmps59
 go_wp2_with fail
 rw [← hw1]
 clear hw1
 go_at_call 255
 refine A1.mono ?_
 clear A1 hm cL
 rintro e w2 ⟨rfl, q⟩
 have c2 : w2.cell? ⟨w.heap.size, 0, none⟩ = some (.int .i64 0) := by rw [(cells_at q.1.bl 0).1]; rfl
 have HX : Hid (RX w w2 R a cap (s.take 4).2 b cs ty) := by
  obtain ⟨hr, k1, hs⟩ := HR.out
  have c : Chg w w2 (fun k => k = R) := Chg.trans (Chg.trans k1.any q.2 (S := fun k => k = R ∨ k = w.heap.size) (fun _ _ e => e)) (Chg.refl w2 (fun _ => False)) (fun _ _ e => e.elim) |>.mono (fun k hk e => e.resolve_right (by omega))
  have r2 := hr.read (s' := (s.take 4).2) q.1.rs c (RS.take_bs s 4)
  exact ⟨r2, c.mono (fun _ _ e => .inl e)⟩
 clear HR q
 go_wp2_with fail
 refine wp_loop_rounds 1 ?_
 rw [rounds_succ]
 go_wp2
 exact ⟨rfl, _, results_none rfl _ _ _, rfl, HX.out⟩
set_option maxRecDepth 10000 in
theorem rrow0_62 {w : World} {R : Nat} {a : Option Addr} {cap : Nat} {s : RS} {b : Nat} {cs : Array Value} {ty : TypeId} (h : R1 w R a cap s b cs ty) (o : Nat) (hcs : cs[o]? = some (.slice none 0 0)) (h0 : s.num 4 = 0) (fv : Value) :
  Calls Tryz.prog 62 #[.iface 101 (hR R), .pointer (some ⟨b, o, none⟩), fv] w fun r w' => r = .returned (.tuple #[]) ∧ RX w w' R a cap (s.take 4).2 b cs ty := by
 have hbl := hp_lt h.bl
 have hRl := hp_lt h.rs.box
 have hal := h.rs.bytes
 have cL : w.cell? ⟨b, o, none⟩ = some (.slice none 0 0) := by rw [(cells_at h.bl o).1]; exact hcs
 obtain ⟨w1, hw1⟩ : ∃ w1, w1 = w.alloc (.cells #[.int .i64 0] 3) := ⟨_, rfl⟩
 have k1 : Kp w w1 := by rw [hw1]; exact Kp.al _ _
 have hx : w1.heap[w.heap.size]? = some (.cells #[.int .i64 0] 3 (0, 0)) := by rw [hw1]; exact heap_alloc_new w _
 have r1 : R1 w1 R a cap s w.heap.size #[.int .i64 0] 3 := by
  refine ⟨(h.kp k1).rs, hx, by omega, fun x off e hl hxx => ?_⟩
  obtain ⟨q1, q2, q3, q4⟩ := hal
  rcases q4 with q4 | ⟨bb, oo, q4, q5⟩
  ·omega
  ·rw [e] at q4; cases q4
   have := lt_of_cell (q5 0 hl)
   omega
 have A1 := rwordOf r1 0 (by simp)
 rw [h0] at A1
 have HR : Hid (R1 w R a cap s b cs ty ∧ Kp w w1 ∧ w.heap.size < w1.heap.size) := ⟨h, k1, hp_lt hx⟩
 clear h k1 r1 hx hal
 have hm := (mr_wordOf R).m
 go_enter Tryz.func62, Tryz.ntmps62
 go_wp2_with fail
 rw [← hw1]
 clear hw1
 go_at_call 255
 refine A1.mono ?_
 clear A1 hm cL
 rintro e w2 ⟨rfl, q⟩
 have c2 : w2.cell? ⟨w.heap.size, 0, none⟩ = some (.int .i64 0) := by rw [(cells_at q.1.bl 0).1]; rfl
 have HX : Hid (RX w w2 R a cap (s.take 4).2 b cs ty) := by
  obtain ⟨hr, k1, hs⟩ := HR.out
  have c : Chg w w2 (fun k => k = R) := Chg.trans (Chg.trans k1.any q.2 (S := fun k => k = R ∨ k = w.heap.size) (fun _ _ e => e)) (Chg.refl w2 (fun _ => False)) (fun _ _ e => e.elim) |>.mono (fun k hk e => e.resolve_right (by omega))
  have r2 := hr.read (s' := (s.take 4).2) q.1.rs c (RS.take_bs s 4)
  exact ⟨r2, c.mono (fun _ _ e => .inl e)⟩
 clear HR q
 go_wp2_with fail
 refine wp_loop_rounds 1 ?_
 rw [rounds_succ]
 go_wp2
 exact ⟨rfl, _, results_none rfl _ _ _, rfl, HX.out⟩
set_option maxRecDepth 10000 in
theorem rrow0_65 {w : World} {R : Nat} {a : Option Addr} {cap : Nat} {s : RS} {b : Nat} {cs : Array Value} {ty : TypeId} (h : R1 w R a cap s b cs ty) (o : Nat) (hcs : cs[o]? = some (.slice none 0 0)) (h0 : s.num 4 = 0) (fv : Value) :
  Calls Tryz.prog 65 #[.iface 101 (hR R), .pointer (some ⟨b, o, none⟩), fv] w fun r w' => r = .returned (.tuple #[]) ∧ RX w w' R a cap (s.take 4).2 b cs ty := by
 have hbl := hp_lt h.bl
 have hRl := hp_lt h.rs.box
 have hal := h.rs.bytes
 have cL : w.cell? ⟨b, o, none⟩ = some (.slice none 0 0) := by rw [(cells_at h.bl o).1]; exact hcs
 obtain ⟨w1, hw1⟩ : ∃ w1, w1 = w.alloc (.cells #[.int .i64 0] 3) := ⟨_, rfl⟩
 have k1 : Kp w w1 := by rw [hw1]; exact Kp.al _ _
 have hx : w1.heap[w.heap.size]? = some (.cells #[.int .i64 0] 3 (0, 0)) := by rw [hw1]; exact heap_alloc_new w _
 have r1 : R1 w1 R a cap s w.heap.size #[.int .i64 0] 3 := by
  refine ⟨(h.kp k1).rs, hx, by omega, fun x off e hl hxx => ?_⟩
  obtain ⟨q1, q2, q3, q4⟩ := hal
  rcases q4 with q4 | ⟨bb, oo, q4, q5⟩
  ·omega
  ·rw [e] at q4; cases q4
   have := lt_of_cell (q5 0 hl)
   omega
 have A1 := rwordOf r1 0 (by simp)
 rw [h0] at A1
 have HR : Hid (R1 w R a cap s b cs ty ∧ Kp w w1 ∧ w.heap.size < w1.heap.size) := ⟨h, k1, hp_lt hx⟩
 clear h k1 r1 hx hal
 have hm := (mr_wordOf R).m
 go_enter Tryz.func65, Tryz.ntmps65
 go_wp2_with fail
 rw [← hw1]
 clear hw1
 go_at_call 255
 refine A1.mono ?_
 clear A1 hm cL
 rintro e w2 ⟨rfl, q⟩
 have c2 : w2.cell? ⟨w.heap.size, 0, none⟩ = some (.int .i64 0) := by rw [(cells_at q.1.bl 0).1]; rfl
 have HX : Hid (RX w w2 R a cap (s.take 4).2 b cs ty) := by
  obtain ⟨hr, k1, hs⟩ := HR.out
  have c : Chg w w2 (fun k => k = R) := Chg.trans (Chg.trans k1.any q.2 (S := fun k => k = R ∨ k = w.heap.size) (fun _ _ e => e)) (Chg.refl w2 (fun _ => False)) (fun _ _ e => e.elim) |>.mono (fun k hk e => e.resolve_right (by omega))
  have r2 := hr.read (s' := (s.take 4).2) q.1.rs c (RS.take_bs s 4)
  exact ⟨r2, c.mono (fun _ _ e => .inl e)⟩
 clear HR q
 go_wp2_with fail
 refine wp_loop_rounds 1 ?_
 rw [rounds_succ]
 go_wp2
 exact ⟨rfl, _, results_none rfl _ _ _, rfl, HX.out⟩
end Go.Proofs.YtkggkkoblpdopaaGreat
