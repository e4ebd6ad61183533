import Derived.Test.YtknlpjcdemijgaaGreatXu
namespace Go.Proofs.YtknlpjcdemijgaaGreat
open Go.ChangeShapes Go.WideShapes Go.ChangeAt Go.RowKit
set_option linter.unusedVariables false
structure R1 (w : World) (R : Nat) (a : Option Addr) (cap : Nat) (s : RS) (b : Nat) (cs : Array Value) (ty : TypeId) : Prop where
 rs : IsRS w R a cap s
 bl : w.heap[b]? = some (.cells cs ty (0, 0))
 ne : R ≠ b
 ab : ∀ x off, a = some ⟨x, off, none⟩ → 0 < s.bs.length → x ≠ b
def RX (w w' : World) (R : Nat) (a : Option Addr) (cap : Nat) (s : RS) (b : Nat) (cs : Array Value) (ty : TypeId) : Prop := R1 w' R a cap s b cs ty ∧ Chg w w' (fun k => k = R ∨ k = b)
section
variable {w w' w'' : World} {R : Nat} {a : Option Addr} {cap : Nat} {s s' : RS} {b : Nat} {cs cs' : Array Value} {ty : TypeId}
theorem RX.trans (h : Chg w w' (fun k => k = R ∨ k = b)) (k : RX w' w'' R a cap s b cs ty) : RX w w'' R a cap s b cs ty := ⟨k.1, h.trans k.2 (fun _ _ e => e)⟩
theorem R1.kp (h : R1 w R a cap s b cs ty) (k : Kp w w') : R1 w' R a cap s b cs ty := ⟨h.rs.other k (fun e => e) (fun _ _ _ _ e => e), k.heap h.bl, h.ne, h.ab⟩
theorem R1.read (h : R1 w R a cap s b cs ty) (i : IsRS w' R a cap s') (c : Chg w w' (fun k => k = R)) (hb : s'.bs = s.bs) : R1 w' R a cap s' b cs ty := ⟨i, c.heap h.bl (fun e => h.ne e.symm), h.ne, by rw [hb]; exact h.ab⟩
theorem R1.put (h : R1 w R a cap s b cs ty) (o : Nat) (u : Value) : R1 (w.setCell ⟨b, o, none⟩ u) R a cap s b (cs.setIfInBounds o u) ty ∧ Chg w (w.setCell ⟨b, o, none⟩ u) (fun k => k = b) := by
 have c := (Chg.refl w (fun k => k = b)).setCell (p := ⟨b, o, none⟩) (.inl rfl) u
 exact ⟨⟨h.rs.other c h.ne h.ab, heap_setCell_same w b o _ _ _ h.bl, h.ne, h.ab⟩, c⟩
theorem R1.cell (h : R1 w R a cap s b cs ty) (o : Nat) (ho : o < cs.size) : ∃ u, w.cell? ⟨b, o, none⟩ = some u := ⟨cs[o], by rw [(cells_at h.bl o).1]; exact Array.getElem?_eq_getElem ho⟩
theorem R1.fr (h : R1 w R a cap s b cs ty) (o : Nat) : w.frozen? ⟨b, o, none⟩ = false := (cells_at h.bl o).2
theorem IsRS.rng (h : IsRS w R a cap s) : ∀ x ∈ s.bs, 0 ≤ x ∧ x ≤ 255 := h.bytes.2.2.1
theorem RS.pad_bs (s : RS) (n : Int) : (s.pad n).bs = s.bs := by
 unfold RS.pad; split
 ·unfold RS.padded
  split
  ·exact RS.take_bs _ _
  ·exact RS.take_bs _ _
 ·rfl
set_option maxRecDepth 10000 in
theorem rbyteOf (h : R1 w R a cap s b cs ty) (o : Nat) (ho : o < cs.size) :
  Calls Tryz.prog 144 #[hR R, .pointer (some ⟨b, o, none⟩)] w fun r w' => r = .returned (.tuple #[]) ∧ RX w w' R a cap (s.take 1).2 b (cs.setIfInBounds o (.int .i64 (s.num 1 : Nat))) ty := by
 have hlt : s.num 1 < 256 := RS.num_lt s 1 h.rs.rng
 have k0 := Kp.al w (.cells #[.pointer (some ⟨R, 0, none⟩)] 83)
 have A1 := m8_any _ R a cap s (h.kp k0).rs
 have HR : Hid (R1 w R a cap s b cs ty ∧ Kp w (w.alloc (.cells #[.pointer (some ⟨R, 0, none⟩)] 83))) := ⟨h, k0⟩
 clear h k0
 generalize s.num 1 = n at *
 have z1 : IntKind.i64.wrap (n : Int) = n := by simp [IntKind.wrap, IntKind.bits, IntKind.signed]; omega
 go_enter Tryz.func144, Tryz.ntmps144
 go_wp2_with fail
 go_at_call 153
 refine A1.mono ?_
 clear A1
 rintro e w1 ⟨rfl, i1, c1⟩
 have r1 := (HR.out.1.kp HR.out.2).read i1 c1 (RS.take_bs s 1)
 obtain ⟨u, hu⟩ := r1.cell o ho
 have hf := r1.fr o
 obtain ⟨r2, c2⟩ := r1.put o (.int .i64 (n : Int))
 have HX : Hid (RX w (w1.setCell ⟨b, o, none⟩ (.int .i64 (n : Int))) R a cap (s.take 1).2 b (cs.setIfInBounds o (.int .i64 (n : Int))) ty) := ⟨r2, Chg.trans (Chg.trans HR.out.2.any (c1.mono (fun _ _ e => .inl e)) (fun _ _ e => e)) c2 (fun _ _ e => .inr e)⟩
 clear r1 r2 c2 i1 c1 HR
 go_wp2
 exact ⟨rfl, _, results_none rfl _ _ _, rfl, HX.out⟩
set_option maxRecDepth 10000 in
theorem rhalfOf (h : R1 w R a cap s b cs ty) (o : Nat) (ho : o < cs.size) :
  Calls Tryz.prog 146 #[hR R, .pointer (some ⟨b, o, none⟩)] w fun r w' => r = .returned (.tuple #[]) ∧ RX w w' R a cap (s.take 2).2 b (cs.setIfInBounds o (.int .i64 (s.num 2 : Nat))) ty := by
 have hlt : s.num 2 < 65536 := RS.num_lt s 2 h.rs.rng
 have k0 := Kp.al w (.cells #[.pointer (some ⟨R, 0, none⟩)] 83)
 have A1 := m16_any _ R a cap s (h.kp k0).rs
 have HR : Hid (R1 w R a cap s b cs ty ∧ Kp w (w.alloc (.cells #[.pointer (some ⟨R, 0, none⟩)] 83))) := ⟨h, k0⟩
 clear h k0
 generalize s.num 2 = n at *
 have z1 : IntKind.i64.wrap (n : Int) = n := by simp [IntKind.wrap, IntKind.bits, IntKind.signed]; omega
 go_enter Tryz.func146, Tryz.ntmps146
 go_wp2_with fail
 go_at_call 154
 refine A1.mono ?_
 clear A1
 rintro e w1 ⟨rfl, i1, c1⟩
 have r1 := (HR.out.1.kp HR.out.2).read i1 c1 (RS.take_bs s 2)
 obtain ⟨u, hu⟩ := r1.cell o ho
 have hf := r1.fr o
 obtain ⟨r2, c2⟩ := r1.put o (.int .i64 (n : Int))
 have HX : Hid (RX w (w1.setCell ⟨b, o, none⟩ (.int .i64 (n : Int))) R a cap (s.take 2).2 b (cs.setIfInBounds o (.int .i64 (n : Int))) ty) := ⟨r2, Chg.trans (Chg.trans HR.out.2.any (c1.mono (fun _ _ e => .inl e)) (fun _ _ e => e)) c2 (fun _ _ e => .inr e)⟩
 clear r1 r2 c2 i1 c1 HR
 go_wp2
 exact ⟨rfl, _, results_none rfl _ _ _, rfl, HX.out⟩
set_option maxRecDepth 10000 in
theorem rwordOf (h : R1 w R a cap s b cs ty) (o : Nat) (ho : o < cs.size) :
  Calls Tryz.prog 152 #[hR R, .pointer (some ⟨b, o, none⟩)] w fun r w' => r = .returned (.tuple #[]) ∧ RX w w' R a cap (s.take 4).2 b (cs.setIfInBounds o (.int .i64 (s.num 4 : Nat))) ty := by
 have hlt : s.num 4 < 4294967296 := RS.num_lt s 4 h.rs.rng
 have k0 := Kp.al w (.cells #[.pointer (some ⟨R, 0, none⟩)] 83)
 have A1 := m32_any _ R a cap s (h.kp k0).rs
 have HR : Hid (R1 w R a cap s b cs ty ∧ Kp w (w.alloc (.cells #[.pointer (some ⟨R, 0, none⟩)] 83))) := ⟨h, k0⟩
 clear h k0
 generalize s.num 4 = n at *
 have z1 : IntKind.i64.wrap (n : Int) = n := by simp [IntKind.wrap, IntKind.bits, IntKind.signed]; omega
 go_enter Tryz.func152, Tryz.ntmps152
 go_wp2_with fail
 go_at_call 83
 refine A1.mono ?_
 clear A1
 rintro e w1 ⟨rfl, i1, c1⟩
 have r1 := (HR.out.1.kp HR.out.2).read i1 c1 (RS.take_bs s 4)
 obtain ⟨u, hu⟩ := r1.cell o ho
 have hf := r1.fr o
 obtain ⟨r2, c2⟩ := r1.put o (.int .i64 (n : Int))
 have HX : Hid (RX w (w1.setCell ⟨b, o, none⟩ (.int .i64 (n : Int))) R a cap (s.take 4).2 b (cs.setIfInBounds o (.int .i64 (n : Int))) ty) := ⟨r2, Chg.trans (Chg.trans HR.out.2.any (c1.mono (fun _ _ e => .inl e)) (fun _ _ e => e)) c2 (fun _ _ e => .inr e)⟩
 clear r1 r2 c2 i1 c1 HR
 go_wp2
 exact ⟨rfl, _, results_none rfl _ _ _, rfl, HX.out⟩
set_option maxRecDepth 10000 in
theorem rword (h : R1 w R a cap s b cs ty) (o : Nat) (ho : o < cs.size) :
  Calls Tryz.prog 151 #[hR R, .pointer (some ⟨b, o, none⟩)] w fun r w' => r = .returned (.tuple #[]) ∧ RX w w' R a cap (s.take 4).2 b (cs.setIfInBounds o (.int .u32 (s.num 4 : Nat))) ty := by
 have hlt : s.num 4 < 4294967296 := RS.num_lt s 4 h.rs.rng
 have k0 := Kp.al w (.cells #[.pointer (some ⟨R, 0, none⟩)] 83)
 have A1 := m32_any _ R a cap s (h.kp k0).rs
 have HR : Hid (R1 w R a cap s b cs ty ∧ Kp w (w.alloc (.cells #[.pointer (some ⟨R, 0, none⟩)] 83))) := ⟨h, k0⟩
 clear h k0
 generalize s.num 4 = n at *
 go_enter Tryz.func151, Tryz.ntmps151
 go_wp2_with fail
 go_at_call 83
 refine A1.mono ?_
 clear A1
 rintro e w1 ⟨rfl, i1, c1⟩
 have r1 := (HR.out.1.kp HR.out.2).read i1 c1 (RS.take_bs s 4)
 obtain ⟨u, hu⟩ := r1.cell o ho
 have hf := r1.fr o
 obtain ⟨r2, c2⟩ := r1.put o (.int .u32 (n : Int))
 have HX : Hid (RX w (w1.setCell ⟨b, o, none⟩ (.int .u32 (n : Int))) R a cap (s.take 4).2 b (cs.setIfInBounds o (.int .u32 (n : Int))) ty) := ⟨r2, Chg.trans (Chg.trans HR.out.2.any (c1.mono (fun _ _ e => .inl e)) (fun _ _ e => e)) c2 (fun _ _ e => .inr e)⟩
 clear r1 r2 c2 i1 c1 HR
 go_wp2
 exact ⟨rfl, _, results_none rfl _ _ _, rfl, HX.out⟩
set_option maxRecDepth 10000 in
theorem rlong (h : R1 w R a cap s b cs ty) (o : Nat) (ho : o < cs.size) :
  Calls Tryz.prog 147 #[hR R, .pointer (some ⟨b, o, none⟩)] w fun r w' => r = .returned (.tuple #[]) ∧ RX w w' R a cap (s.take 8).2 b (cs.setIfInBounds o (.int .u64 (s.num 8 : Nat))) ty := by
 have hlt : s.num 8 < 18446744073709551616 := RS.num_lt s 8 h.rs.rng
 have k0 := Kp.al w (.cells #[.pointer (some ⟨R, 0, none⟩)] 83)
 have A1 := m64_any _ R a cap s (h.kp k0).rs
 have HR : Hid (R1 w R a cap s b cs ty ∧ Kp w (w.alloc (.cells #[.pointer (some ⟨R, 0, none⟩)] 83))) := ⟨h, k0⟩
 clear h k0
 generalize s.num 8 = n at *
 go_enter Tryz.func147, Tryz.ntmps147
 go_wp2_with fail
 go_at_call 155
 refine A1.mono ?_
 clear A1
 rintro e w1 ⟨rfl, i1, c1⟩
 have r1 := (HR.out.1.kp HR.out.2).read i1 c1 (RS.take_bs s 8)
 obtain ⟨u, hu⟩ := r1.cell o ho
 have hf := r1.fr o
 obtain ⟨r2, c2⟩ := r1.put o (.int .u64 (n : Int))
 have HX : Hid (RX w (w1.setCell ⟨b, o, none⟩ (.int .u64 (n : Int))) R a cap (s.take 8).2 b (cs.setIfInBounds o (.int .u64 (n : Int))) ty) := ⟨r2, Chg.trans (Chg.trans HR.out.2.any (c1.mono (fun _ _ e => .inl e)) (fun _ _ e => e)) c2 (fun _ _ e => .inr e)⟩
 clear r1 r2 c2 i1 c1 HR
 go_wp2
 exact ⟨rfl, _, results_none rfl _ _ _, rfl, HX.out⟩
set_option maxRecDepth 10000 in
theorem rperm (h : R1 w R a cap s b cs ty) (o : Nat) (ho : o < cs.size) :
  Calls Tryz.prog 150 #[hR R, .pointer (some ⟨b, o, none⟩)] w fun r w' => r = .returned (.tuple #[]) ∧ RX w w' R a cap (s.take 1).2 b (cs.setIfInBounds o (.int .u8 (s.num 1 : Nat))) ty := by
 have hlt : s.num 1 < 256 := RS.num_lt s 1 h.rs.rng
 have k0 := Kp.al w (.cells #[.pointer (some ⟨R, 0, none⟩)] 83)
 have A1 := m8_any _ R a cap s (h.kp k0).rs
 have HR : Hid (R1 w R a cap s b cs ty ∧ Kp w (w.alloc (.cells #[.pointer (some ⟨R, 0, none⟩)] 83))) := ⟨h, k0⟩
 clear h k0
 generalize s.num 1 = n at *
 have z1 : IntKind.u8.wrap (n : Int) = n := by simp [IntKind.wrap, IntKind.bits, IntKind.signed]; omega
 go_enter Tryz.func150, Tryz.ntmps150
 go_wp2_with fail
 go_at_call 153
 refine A1.mono ?_
 clear A1
 rintro e w1 ⟨rfl, i1, c1⟩
 have r1 := (HR.out.1.kp HR.out.2).read i1 c1 (RS.take_bs s 1)
 obtain ⟨u, hu⟩ := r1.cell o ho
 have hf := r1.fr o
 obtain ⟨r2, c2⟩ := r1.put o (.int .u8 (n : Int))
 have HX : Hid (RX w (w1.setCell ⟨b, o, none⟩ (.int .u8 (n : Int))) R a cap (s.take 1).2 b (cs.setIfInBounds o (.int .u8 (n : Int))) ty) := ⟨r2, Chg.trans (Chg.trans HR.out.2.any (c1.mono (fun _ _ e => .inl e)) (fun _ _ e => e)) c2 (fun _ _ e => .inr e)⟩
 clear r1 r2 c2 i1 c1 HR
 go_wp2
 exact ⟨rfl, _, results_none rfl _ _ _, rfl, HX.out⟩
set_option maxRecDepth 10000 in
theorem rpad (h : R1 w R a cap s b cs ty) :
  Calls Tryz.prog 149 #[hR R] w fun r w' => r = .returned (.tuple #[]) ∧ RX w w' R a cap (s.pad 4) b cs ty := by
 have k0 := Kp.al w (.cells #[.pointer (some ⟨R, 0, none⟩)] 83)
 have A1 := rpad_any _ R a cap s 4 (h.kp k0).rs
 have HR : Hid (R1 w R a cap s b cs ty ∧ Kp w (w.alloc (.cells #[.pointer (some ⟨R, 0, none⟩)] 83))) := ⟨h, k0⟩
 clear h k0
 go_enter Tryz.func149, Tryz.ntmps149
 go_wp2_with fail
 go_at_call 156
 refine A1.mono ?_
 clear A1
 rintro e w1 ⟨rfl, i1, c1⟩
 have HX : Hid (RX w w1 R a cap (s.pad 4) b cs ty) := ⟨(HR.out.1.kp HR.out.2).read i1 c1 (RS.pad_bs s 4), Chg.trans HR.out.2.any (c1.mono (fun _ _ e => .inl e)) (fun _ _ e => e)⟩
 clear i1 c1 HR
 go_wp2
 exact ⟨rfl, _, results_none rfl _ _ _, rfl, HX.out⟩
def RS.flag (s : RS) : RS := if 1 < s.num 1 then (s.take 1).2.fail 133 (s.take 1).2.at_ else (s.take 1).2
theorem RS.flag_bs (s : RS) : s.flag.bs = s.bs := by
 unfold RS.flag; split
 ·exact RS.take_bs _ _
 ·exact RS.take_bs _ _
set_option maxRecDepth 10000 in
theorem rflag (h : R1 w R a cap s b cs ty) (o : Nat) (ho : o < cs.size) :
  Calls Tryz.prog 145 #[hR R, .pointer (some ⟨b, o, none⟩)] w fun r w' => r = .returned (.tuple #[]) ∧ RX w w' R a cap s.flag b (cs.setIfInBounds o (.bool (decide (s.num 1 = 1)))) ty := by
 have hlt : s.num 1 < 256 := RS.num_lt s 1 h.rs.rng
 have k0 := Kp.al w (.cells #[.pointer (some ⟨R, 0, none⟩)] 83)
 have hK := (cells_at (heap_alloc_new w (.cells #[.pointer (some ⟨R, 0, none⟩)] 83)) 0).1
 have A1 := m8_any _ R a cap s (h.kp k0).rs
 have hRl := hp_lt h.rs.box
 have HR : Hid (R1 w R a cap s b cs ty ∧ Kp w (w.alloc (.cells #[.pointer (some ⟨R, 0, none⟩)] 83))) := ⟨h, k0⟩
 have hfl : s.flag = if 1 < s.num 1 then (s.take 1).2.fail 133 (s.take 1).2.at_ else (s.take 1).2 := rfl
 clear h k0
 generalize s.num 1 = n at *
 go_enter Tryz.func145, Tryz.ntmps145
 go_wp2_with fail
 go_at_call 153
 refine A1.mono ?_
 clear A1
 rintro e w1 ⟨rfl, i1, c1⟩
 have hk1 := Chg.cell' c1 (b := w.heap.size) (o := 0) (by omega) hK
 have r1 := (HR.out.1.kp HR.out.2).read i1 c1 (RS.take_bs s 1)
 by_cases hn : 1 < n
 ·rw [if_pos hn] at hfl
  have hnz : (n : Int) > 1 := by omega
  have hn1 : ¬ n = 1 := by omega
  have hn2 : ((n : Int) == 1) = false := by simp; omega
  have A1 := rfail_any w1 R a cap (s.take 1).2 133 i1
  have H1 : Hid (R1 w1 R a cap (s.take 1).2 b cs ty ∧ Chg w w1 (fun k => k = R ∨ k = b)) := ⟨r1, Chg.trans HR.out.2.any (c1.mono (fun _ _ e => .inl e)) (fun _ _ e => e)⟩
  clear r1 i1 c1 HR hK
  go_wp2_with fail
  go_at_call 86
  refine A1.mono ?_
  clear A1 hk1
  rintro e w2 ⟨rfl, i2, c2⟩
  have r2 := H1.out.1.read i2 c2 rfl
  obtain ⟨u, hu⟩ := r2.cell o ho
  have hf := r2.fr o
  obtain ⟨r3, c3⟩ := r2.put o (.bool false)
  have HX : Hid (RX w (w2.setCell ⟨b, o, none⟩ (.bool false)) R a cap s.flag b (cs.setIfInBounds o (.bool (decide (n = 1)))) ty) := by
   rw [hfl, decide_eq_false hn1]; exact ⟨r3, Chg.trans (Chg.trans H1.out.2 c2 (fun _ _ e => .inl e)) c3 (fun _ _ e => .inr e)⟩
  clear r2 r3 c3 i2 c2 H1 hfl
  go_wp2
  exact ⟨rfl, _, results_none rfl _ _ _, rfl, HX.out⟩
 ·rw [if_neg hn] at hfl
  have hnz : ¬ (n : Int) > 1 := by omega
  have hn2 : ((n : Int) == 1) = decide (n = 1) := by
   by_cases e : n = 1
   ·subst e; rfl
   ·rw [decide_eq_false e]; simp; omega
  obtain ⟨d, hd⟩ : ∃ d, d = decide (n = 1) := ⟨_, rfl⟩
  rw [← hd] at hn2
  obtain ⟨u, hu⟩ := r1.cell o ho
  have hf := r1.fr o
  obtain ⟨r3, c3⟩ := r1.put o (.bool d)
  have HX : Hid (RX w (w1.setCell ⟨b, o, none⟩ (.bool d)) R a cap s.flag b (cs.setIfInBounds o (.bool (decide (n = 1)))) ty) := by
   rw [hfl, ← hd]; exact ⟨r3, Chg.trans (Chg.trans HR.out.2.any (c1.mono (fun _ _ e => .inl e)) (fun _ _ e => e)) c3 (fun _ _ e => .inr e)⟩
  clear r1 r3 c3 i1 c1 HR hk1 hK hfl hd
  go_wp2
  exact ⟨rfl, _, results_none rfl _ _ _, rfl, HX.out⟩
end
end Go.Proofs.YtknlpjcdemijgaaGreat
namespace Go.Proofs.YtknlpjcdemijgaaGreat
open Go.ChangeShapes Go.WideShapes Go.ChangeAt Go.RowKit
set_option linter.unusedVariables false
def ops148_1 : Array Oper := #[⟨some 4, Op.move (.tmp 1), 175, "reader.go:34", #[], none⟩,
 ⟨some 5, Op.fieldAddr 83 (.tmp 2) 0, 0, "reader.go:34", #[], none⟩,
 ⟨some 6, Op.load 79 (.tmp 5), 79, "reader.go:34", #[gd' 1], none⟩,
 ⟨some 7, Op.fieldAddr 83 (.tmp 2) 0, 0, "reader.go:34", #[], none⟩,
 ⟨some 8, Op.load 79 (.tmp 7), 79, "reader.go:34", #[gd' 3], none⟩,
 ⟨some 9, Op.call { callee := Callee.value (Operand.func 153), args := #[Operand.tmp 8], argTypes := #[79] }, 5, "reader.go:34", #[gd' 4], none⟩,
 ⟨some 10, Op.convert 5 3 (.tmp 9), 3, "reader.go:34", #[gd' 5], none⟩,
 ⟨some 11, Op.call { callee := Callee.value (Operand.func 80), args := #[Operand.tmp 6, Operand.tmp 10], argTypes := #[79, 3] }, 33, "reader.go:34", #[gd' 2, gd' 6, gc' 5], none⟩,
 ⟨some 12, Op.convert 33 9 (.tmp 11), 9, "reader.go:34", #[gd' 7], none⟩,
 ⟨some 13, Op.nilCheck (.tmp 4), 0, "reader.go:34", #[gd' 0, gp' 0, gp' 1, gp' 2, gp' 3, gp' 4, gp' 5, gp' 6, gp' 7, gp' 8], none⟩,
 ⟨none, Op.store 9 (.tmp 13) (.tmp 12), 0, "reader.go:34", #[gd' 9, gd' 8, gc' 7, gp' 0, gp' 1, gp' 2, gp' 3, gp' 4, gp' 5, gp' 6, gp' 7, gp' 8], none⟩]
set_option maxHeartbeats 8000000 in
set_option maxRecDepth 100000 in
theorem reg148_1 (W : World) (KB R b o : Nat) (hS : (fun w' => w'.cell? ⟨KB, 0, none⟩ = some (.pointer (some ⟨R, 0, none⟩))) W.drew) (P : World → Prop)
  (hcall : Calls Tryz.prog 153 #[.pointer (some ⟨R, 0, none⟩)] W.drew fun e x1 => ∃ n : Nat, e = .returned (.int .u8 (n : Nat)) ∧ IntKind.i64.wrap (n : Int) = n ∧ x1.cell? ⟨KB, 0, none⟩ = some (.pointer (some ⟨R, 0, none⟩)) ∧ Calls Tryz.prog 80 #[.pointer (some ⟨R, 0, none⟩), .int .i64 (n : Nat)] x1 fun e x2 => ∃ (v : Value) (str : ByteArray), e = .returned v ∧ x2.cell? ⟨KB, 0, none⟩ = some (.pointer (some ⟨R, 0, none⟩)) ∧ (convert 33 9 v).run Tryz.prog x2 = .ok (.string str) x2 ∧ (∃ u, x2.cell? ⟨b, o, none⟩ = some u) ∧ x2.frozen? ⟨b, o, none⟩ = false ∧ ((x2.setCell ⟨b, o, none⟩ (.string str)).cell? ⟨KB, 0, none⟩ = some (.pointer (some ⟨R, 0, none⟩))) ∧ P (x2.setCell ⟨b, o, none⟩ (.string str)))
  (Q : Exit → Act → World → Prop) (hPan : ∀ c (a : Act) w (d : Option Tmp) v, Q (.panic c) (a.put d v) w → Q (.panic c) a w) {u0 u3 u4 u5 u6 u7 u8 u9 u10 u11 u12 u13 : Value}
  (hQ : ∀ (n : Nat) (vv : Value) (str : ByteArray) w1, P w1 → Q .normal ⟨#[u0, .pointer (some ⟨b, o, none⟩), .pointer (some ⟨KB, 0, none⟩), u3, .pointer (some ⟨b, o, none⟩), .pointer (some ⟨KB, 0, none⟩), .pointer (some ⟨R, 0, none⟩), .pointer (some ⟨KB, 0, none⟩), .pointer (some ⟨R, 0, none⟩), .int .u8 (n : Nat), .int .i64 (n : Nat), vv, .string str, .pointer (some ⟨b, o, none⟩)], []⟩ w1) :
  Code.wp Tryz.prog (Code.region 1 ops148_1 true) Q ⟨#[u0, .pointer (some ⟨b, o, none⟩), .pointer (some ⟨KB, 0, none⟩), u3,u4,u5,u6,u7,u8,u9,u10,u11,u12,u13], []⟩ W := by
 refine wp_region_held_drew (S := fun w' => w'.cell? ⟨KB, 0, none⟩ = some (.pointer (some ⟨R, 0, none⟩))) hmx hS (fun HSX => ?_)
 clear hS
 obtain ⟨W0, hW0⟩ : ∃ W0,W0 = W.drew := ⟨_, rfl⟩
 rw [← hW0] at HSX hcall ⊢
 clear hW0
 refine tk hPan (i := 0) (oi := ⟨some 4, Op.move (.tmp 1), 175, "reader.go:34", #[], none⟩) (v := .pointer (some ⟨b, o, none⟩)) rfl (by kernel_rfl) (.inl ⟨by rfl, ?_⟩) HSX ?_
 ·intro wx d0
  have s1 := d0
  go_simp
 simp only [Act.put, sl0', sl1', sl2']
 refine tk hPan (i := 1) (oi := ⟨some 5, Op.fieldAddr 83 (.tmp 2) 0, 0, "reader.go:34", #[], none⟩) (v := .pointer (some ⟨KB, 0, none⟩)) rfl (by kernel_rfl) (.inl ⟨by rfl, ?_⟩) HSX ?_
 ·intro wx d0
  have s1 := d0
  go_simp
 simp only [Act.put, sl0', sl1', sl2']
 refine tk hPan (i := 2) (oi := ⟨some 6, Op.load 79 (.tmp 5), 79, "reader.go:34", #[gd' 1], none⟩) (v := .pointer (some ⟨R, 0, none⟩)) rfl (by kernel_rfl) (.inl ⟨by rfl, ?_⟩) HSX ?_
 ·intro wx d0
  have s1 := d0
  go_simp
 simp only [Act.put, sl0', sl1', sl2']
 refine tk hPan (i := 3) (oi := ⟨some 7, Op.fieldAddr 83 (.tmp 2) 0, 0, "reader.go:34", #[], none⟩) (v := .pointer (some ⟨KB, 0, none⟩)) rfl (by kernel_rfl) (.inl ⟨by rfl, ?_⟩) HSX ?_
 ·intro wx d0
  have s1 := d0
  go_simp
 simp only [Act.put, sl0', sl1', sl2']
 refine tk hPan (i := 4) (oi := ⟨some 8, Op.load 79 (.tmp 7), 79, "reader.go:34", #[gd' 3], none⟩) (v := .pointer (some ⟨R, 0, none⟩)) rfl (by kernel_rfl) (.inl ⟨by rfl, ?_⟩) HSX ?_
 ·intro wx d0
  have s1 := d0
  go_simp
 simp only [Act.put, sl0', sl1', sl2']
 refine wpAnyH_ready (rs := [5]) (by kernel_rfl) (by simp) ?_
 refine AllReadyH.cons (o := ⟨some 9, Op.call { callee := Callee.value (Operand.func 153), args := #[Operand.tmp 8], argTypes := #[79] }, 5, "reader.go:34", #[gd' 4], none⟩) rfl (fun K hK => ?_) AllReadyH.nil
 rw [if_pos (by rfl)]
 go_simp
 go_at_call 153
 refine hcall.mono ?_
 rintro e w1 ⟨n, rfl, z1, HS1, hc2⟩
 go_simp
 refine hK.out _ _ HS1 (fun HSX => ?_)
 clear hK K
 refine tk hPan (i := 6) (oi := ⟨some 10, Op.convert 5 3 (.tmp 9), 3, "reader.go:34", #[gd' 5], none⟩) (v := .int .i64 (n : Nat)) rfl (by kernel_rfl) (.inl ⟨by rfl, ?_⟩) HSX ?_
 ·intro wx d0
  have s1 := d0
  go_simp
 simp only [Act.put, sl0', sl1', sl2']
 refine wpAnyH_ready (rs := [7]) (by kernel_rfl) (by simp) ?_
 refine AllReadyH.cons (o := ⟨some 11, Op.call { callee := Callee.value (Operand.func 80), args := #[Operand.tmp 6, Operand.tmp 10], argTypes := #[79, 3] }, 33, "reader.go:34", #[gd' 2, gd' 6, gc' 5], none⟩) rfl (fun K hK => ?_) AllReadyH.nil
 rw [if_pos (by rfl)]
 go_simp
 go_at_call 80
 refine hc2.mono ?_
 rintro e w2 ⟨vv, str, rfl, HS2, hcv, ⟨uu, hu⟩, hf, HS3, hP⟩
 go_simp
 refine hK.out _ _ HS2 (fun HSX => ?_)
 clear hK K
 refine wpAnyH_ready (rs := [8]) (by kernel_rfl) (by simp) ?_
 refine AllReadyH.cons (o := ⟨some 12, Op.convert 33 9 (.tmp 11), 9, "reader.go:34", #[gd' 7], none⟩) rfl (fun K hK => ?_) AllReadyH.nil
 rw [if_pos (by rfl)]
 go_simp
 refine hK.out _ _ HS2 (fun HSX => ?_)
 clear hK K
 refine tk hPan (i := 9) (oi := ⟨some 13, Op.nilCheck (.tmp 4), 0, "reader.go:34", #[gd' 0, gp' 0, gp' 1, gp' 2, gp' 3, gp' 4, gp' 5, gp' 6, gp' 7, gp' 8], none⟩) (v := .pointer (some ⟨b, o, none⟩)) rfl (by kernel_rfl) (.inl ⟨by rfl, ?_⟩) HSX ?_
 ·intro wx d0
  have s1 := d0
  go_simp
 simp only [Act.put, sl0', sl1', sl2']
 refine wpAnyH_ready (rs := [10]) (by kernel_rfl) (by simp) ?_
 refine AllReadyH.cons (o := ⟨none, Op.store 9 (.tmp 13) (.tmp 12), 0, "reader.go:34", #[gd' 9, gd' 8, gc' 7, gp' 0, gp' 1, gp' 2, gp' 3, gp' 4, gp' 5, gp' 6, gp' 7, gp' 8], none⟩) rfl (fun K hK => ?_) AllReadyH.nil
 rw [if_pos (by rfl)]
 go_simp
 refine hK.out _ _ HS3 (fun HSX => ?_)
 clear hK K
 refine wpAnyH_done (by kernel_rfl) ?_ _
 exact hQ n vv str _ hP
section
variable {w w' w'' : World} {R : Nat} {a : Option Addr} {cap : Nat} {s s' : RS} {b : Nat} {cs cs' : Array Value} {ty : TypeId}
def RS.name (s : RS) : ByteArray × RS := (strOf ((s.take 1).2.take (s.num 1)).1, ((s.take 1).2.take (s.num 1)).2)
theorem RS.name_bs (s : RS) : s.name.2.bs = s.bs := by
 unfold RS.name
 exact (RS.take_bs _ _).trans (RS.take_bs _ _)
set_option maxRecDepth 10000 in
theorem rname (h : R1 w R a cap s b cs ty) (o : Nat) (ho : o < cs.size) :
  Calls Tryz.prog 148 #[hR R, .pointer (some ⟨b, o, none⟩)] w fun r w' => r = .returned (.tuple #[]) ∧ RX w w' R a cap s.name.2 b (cs.setIfInBounds o (.string s.name.1)) ty := by
 have hlt : s.num 1 < 256 := RS.num_lt s 1 h.rs.rng
 have k0 := Kp.al w (.cells #[.pointer (some ⟨R, 0, none⟩)] 83)
 have hK := (cells_at (heap_alloc_new w (.cells #[.pointer (some ⟨R, 0, none⟩)] 83)) 0).1
 have hRl := hp_lt h.rs.box
 have hbl := hp_lt h.bl
 have kd := Kp.trans k0 (Kp.drew (w.alloc (.cells #[.pointer (some ⟨R, 0, none⟩)] 83)))
 have hr0 := h.kp kd
 have hKd := Kp.cell (Kp.drew (w.alloc (.cells #[.pointer (some ⟨R, 0, none⟩)] 83))) hK
 have A1 : Calls Tryz.prog 153 #[.pointer (some ⟨R, 0, none⟩)] (w.alloc (.cells #[.pointer (some ⟨R, 0, none⟩)] 83)).drew fun e x1 => ∃ n : Nat, e = .returned (.int .u8 (n : Nat)) ∧ IntKind.i64.wrap (n : Int) = n ∧ x1.cell? ⟨w.heap.size, 0, none⟩ = some (.pointer (some ⟨R, 0, none⟩)) ∧ Calls Tryz.prog 80 #[.pointer (some ⟨R, 0, none⟩), .int .i64 (n : Nat)] x1 fun e x2 => ∃ (v : Value) (str : ByteArray), e = .returned v ∧ x2.cell? ⟨w.heap.size, 0, none⟩ = some (.pointer (some ⟨R, 0, none⟩)) ∧ (convert 33 9 v).run Tryz.prog x2 = .ok (.string str) x2 ∧ (∃ u, x2.cell? ⟨b, o, none⟩ = some u) ∧ x2.frozen? ⟨b, o, none⟩ = false ∧ ((x2.setCell ⟨b, o, none⟩ (.string str)).cell? ⟨w.heap.size, 0, none⟩ = some (.pointer (some ⟨R, 0, none⟩))) ∧ RX w (x2.setCell ⟨b, o, none⟩ (.string str)) R a cap s.name.2 b (cs.setIfInBounds o (.string s.name.1)) ty := by
  refine (m8_any _ R a cap s hr0.rs).mono ?_
  rintro e w1 ⟨rfl, i1, c1⟩
  have r1 := hr0.read i1 c1 (RS.take_bs s 1)
  have hk1 := Chg.cell' c1 (b := w.heap.size) (o := 0) (by omega) hKd
  refine ⟨s.num 1, rfl, by simp [IntKind.wrap, IntKind.bits, IntKind.signed]; omega, hk1, ?_⟩
  refine (raw_any w1 R a cap (s.take 1).2 (s.num 1 : Nat) (by omega) i1).mono ?_
  rintro e w2 ⟨v, rfl, ho2, hf2, i2, c2⟩
  have e1 : (s.take 1).2.raw ((s.num 1 : Nat) : Int) = (s.take 1).2.take (s.num 1) := by
   unfold RS.raw; rw [if_neg (by omega), Int.toNat_natCast]
  rw [e1] at ho2 i2
  have r2 := r1.read i2 c2 (RS.take_bs _ _)
  have hk2 := Chg.cell' c2 (b := w.heap.size) (o := 0) (by omega) hk1
  have hlen : ((s.take 1).2.take (s.num 1)).1.length ≤ 140737488355328 := by have := RS.take_len (s.take 1).2 (s.num 1); omega
  obtain ⟨ao, ao2, rfl, hB⟩ := ho2.bs hlen
  obtain ⟨r3, c3⟩ := r2.put o (.string s.name.1)
  refine ⟨_, s.name.1, rfl, hk2, conv_str w2 ao _ ao2 _ hB, r2.cell o ho, r2.fr o, Chg.cell' c3 (by omega) hk2, r3, ?_⟩
  exact Chg.trans (Chg.trans (Chg.trans kd.any (c1.mono (fun _ _ e => .inl e)) (fun _ _ e => e)) c2 (fun _ _ e => .inl e)) c3 (fun _ _ e => .inr e)
 clear hr0 kd k0 h hK
 go_enter Tryz.func148, Tryz.ntmps148
 go_upto_region 1 with fail
 refine reg148_1 _ w.heap.size R b o hKd (fun x => RX w x R a cap s.name.2 b (cs.setIfInBounds o (.string s.name.1)) ty) A1 _ (fun _ _ _ q _ h => by cases q <;> exact h) ?_
 clear A1 hKd
 rintro n vv str w1 hx
 have HX : Hid (RX w w1 R a cap s.name.2 b (cs.setIfInBounds o (.string s.name.1)) ty) := hx
 clear hx
 go_wp2
 exact ⟨rfl, _, results_none rfl _ _ _, rfl, HX.out⟩
end
end Go.Proofs.YtknlpjcdemijgaaGreat
