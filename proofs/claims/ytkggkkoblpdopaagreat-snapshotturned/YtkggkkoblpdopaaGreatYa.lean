import Derived.Test.YtkggkkoblpdopaaGreatXu
namespace Go.Proofs.YtkggkkoblpdopaaGreat
open Go.ChangeShapes Go.WideShapes Go.ChangeAt Go.RowKit
set_option linter.unusedVariables false
/-- A reader, and a block that it fills. -/
structure R1 (w : World) (R : Nat) (a : Option Addr) (cap : Nat) (s : RS) (b : Nat) (cs : Array Value) (ty : TypeId) : Prop where
  rs : IsRS w R a cap s
  bl : w.heap[b]? = some (.cells cs ty (0, 0))
  ne : R ≠ b
  ab : ∀ x off, a = some ⟨x, off, none⟩ → 0 < s.bs.length → x ≠ b
/-- What a call of it leaves. -/
def RX (w w' : World) (R : Nat) (a : Option Addr) (cap : Nat) (s : RS) (b : Nat) (cs : Array Value) (ty : TypeId) : Prop := R1 w' R a cap s b cs ty ∧ Chg w w' (fun k => k = R ∨ k = b)
section
variable {w w' w'' : World} {R : Nat} {a : Option Addr} {cap : Nat} {s s' : RS} {b : Nat} {cs cs' : Array Value} {ty : TypeId}
theorem RX.trans (h : Chg w w' (fun k => k = R ∨ k = b)) (k : RX w' w'' R a cap s b cs ty) : RX w w'' R a cap s b cs ty := ⟨k.1, h.trans k.2 (fun _ _ e => e)⟩
theorem R1.kp (h : R1 w R a cap s b cs ty) (k : Kp w w') : R1 w' R a cap s b cs ty := ⟨h.rs.other k (fun e => e) (fun _ _ _ _ e => e), k.heap h.bl, h.ne, h.ab⟩
theorem R1.read (h : R1 w R a cap s b cs ty) (i : IsRS w' R a cap s') (c : Chg w w' (fun k => k = R)) (hb : s'.bs = s.bs) : R1 w' R a cap s' b cs ty := ⟨i, c.heap h.bl (fun e => h.ne e.symm), h.ne, by rw [hb]; exact h.ab⟩
theorem R1.put (h : R1 w R a cap s b cs ty) (o : Nat) (u : Value) : R1 (w.setCell ⟨b, o, none⟩ u) R a cap s b (cs.setIfInBounds o u) ty ∧ Chg w (w.setCell ⟨b, o, none⟩ u) (fun k => k = b) := by
  have c := (Chg.refl w (fun k => k = b)).setCell (p := ⟨b, o, none⟩) (.inl rfl) u
  exact ⟨⟨h.rs.other c h.ne h.ab, heap_setCell_same w b o _ _ _ h.bl, h.ne, h.ab⟩, c⟩
theorem R1.cell (h : R1 w R a cap s b cs ty) (o : Nat) (ho : o < cs.size) : ∃ u, w.cell? ⟨b, o, none⟩ = some u := ⟨cs[o], by rw [(cells_at h.bl o).1]; exact Array.getElem?_eq_getElem ho⟩
theorem R1.fr (h : R1 w R a cap s b cs ty) (o : Nat) : w.frozen? ⟨b, o, none⟩ = false := (cells_at h.bl o).2
theorem IsRS.rng (h : IsRS w R a cap s) : ∀ x ∈ s.bs, 0 ≤ x ∧ x ≤ 255 := h.bytes.2.2.1
theorem RS.raw_bs (s : RS) (n : Int) : (s.raw n).2.bs = s.bs := by
  unfold RS.raw; split
  · rfl
  · exact RS.take_bs _ _
theorem RS.pad_bs (s : RS) (n : Int) : (s.pad n).bs = s.bs := by
  unfold RS.pad; split
  · unfold RS.padded
    split
    · exact RS.take_bs _ _
    · exact RS.take_bs _ _
  · rfl
set_option maxRecDepth 10000 in
theorem rbyteOf (h : R1 w R a cap s b cs ty) (o : Nat) (ho : o < cs.size) :
    Calls Tryz.prog 247 #[hR R, .pointer (some ⟨b, o, none⟩)] w fun r w' => r = .returned (.tuple #[]) ∧ RX w w' R a cap (s.take 1).2 b (cs.setIfInBounds o (.int .i64 (s.num 1 : Nat))) ty := by
  have hlt : s.num 1 < 256 := RS.num_lt s 1 h.rs.rng
  have k0 := Kp.al w (.cells #[.pointer (some ⟨R, 0, none⟩)] 101)
  have A1 := m8_any _ R a cap s (h.kp k0).rs
  have HR : Hid (R1 w R a cap s b cs ty ∧ Kp w (w.alloc (.cells #[.pointer (some ⟨R, 0, none⟩)] 101))) := ⟨h, k0⟩
  clear h k0
  generalize s.num 1 = n at *
  have z1 : IntKind.i64.wrap (n : Int) = n := by simp [IntKind.wrap, IntKind.bits, IntKind.signed]; omega
  go_enter Tryz.func247, Tryz.ntmps247
  go_wp2_with fail
  go_at_call 256
  refine A1.mono ?_
  clear A1
  rintro e w1 ⟨rfl, i1, c1⟩
  have r1 := (HR.out.1.kp HR.out.2).read i1 c1 (RS.take_bs s 1)
  obtain ⟨u, hu⟩ := r1.cell o ho
  have hf := r1.fr o
  obtain ⟨r2, c2⟩ := r1.put o (.int .i64 (n : Int))
  have HX : Hid (RX w (w1.setCell ⟨b, o, none⟩ (.int .i64 (n : Int))) R a cap (s.take 1).2 b (cs.setIfInBounds o (.int .i64 (n : Int))) ty) := ⟨r2, Chg.trans (Chg.trans HR.out.2.any (c1.mono (fun _ _ e => .inl e)) (fun _ _ e => e)) c2 (fun _ _ e => .inr e)⟩
  clear r1 r2 c2 i1 c1 HR
  go_wp2
  exact ⟨rfl, _, results_none rfl _ _ _, rfl, HX.out⟩
set_option maxRecDepth 10000 in
set_option maxRecDepth 10000 in
theorem rwordOf (h : R1 w R a cap s b cs ty) (o : Nat) (ho : o < cs.size) :
    Calls Tryz.prog 255 #[hR R, .pointer (some ⟨b, o, none⟩)] w fun r w' => r = .returned (.tuple #[]) ∧ RX w w' R a cap (s.take 4).2 b (cs.setIfInBounds o (.int .i64 (s.num 4 : Nat))) ty := by
  have hlt : s.num 4 < 4294967296 := RS.num_lt s 4 h.rs.rng
  have k0 := Kp.al w (.cells #[.pointer (some ⟨R, 0, none⟩)] 101)
  have A1 := m32_any _ R a cap s (h.kp k0).rs
  have HR : Hid (R1 w R a cap s b cs ty ∧ Kp w (w.alloc (.cells #[.pointer (some ⟨R, 0, none⟩)] 101))) := ⟨h, k0⟩
  clear h k0
  generalize s.num 4 = n at *
  have z1 : IntKind.i64.wrap (n : Int) = n := by simp [IntKind.wrap, IntKind.bits, IntKind.signed]; omega
  go_enter Tryz.func255, Tryz.ntmps255
  go_wp2_with fail
  go_at_call 78
  refine A1.mono ?_
  clear A1
  rintro e w1 ⟨rfl, i1, c1⟩
  have r1 := (HR.out.1.kp HR.out.2).read i1 c1 (RS.take_bs s 4)
  obtain ⟨u, hu⟩ := r1.cell o ho
  have hf := r1.fr o
  obtain ⟨r2, c2⟩ := r1.put o (.int .i64 (n : Int))
  have HX : Hid (RX w (w1.setCell ⟨b, o, none⟩ (.int .i64 (n : Int))) R a cap (s.take 4).2 b (cs.setIfInBounds o (.int .i64 (n : Int))) ty) := ⟨r2, Chg.trans (Chg.trans HR.out.2.any (c1.mono (fun _ _ e => .inl e)) (fun _ _ e => e)) c2 (fun _ _ e => .inr e)⟩
  clear r1 r2 c2 i1 c1 HR
  go_wp2
  exact ⟨rfl, _, results_none rfl _ _ _, rfl, HX.out⟩
set_option maxRecDepth 10000 in
theorem rword (h : R1 w R a cap s b cs ty) (o : Nat) (ho : o < cs.size) :
    Calls Tryz.prog 254 #[hR R, .pointer (some ⟨b, o, none⟩)] w fun r w' => r = .returned (.tuple #[]) ∧ RX w w' R a cap (s.take 4).2 b (cs.setIfInBounds o (.int .u32 (s.num 4 : Nat))) ty := by
  have hlt : s.num 4 < 4294967296 := RS.num_lt s 4 h.rs.rng
  have k0 := Kp.al w (.cells #[.pointer (some ⟨R, 0, none⟩)] 101)
  have A1 := m32_any _ R a cap s (h.kp k0).rs
  have HR : Hid (R1 w R a cap s b cs ty ∧ Kp w (w.alloc (.cells #[.pointer (some ⟨R, 0, none⟩)] 101))) := ⟨h, k0⟩
  clear h k0
  generalize s.num 4 = n at *
  go_enter Tryz.func254, Tryz.ntmps254
  go_wp2_with fail
  go_at_call 78
  refine A1.mono ?_
  clear A1
  rintro e w1 ⟨rfl, i1, c1⟩
  have r1 := (HR.out.1.kp HR.out.2).read i1 c1 (RS.take_bs s 4)
  obtain ⟨u, hu⟩ := r1.cell o ho
  have hf := r1.fr o
  obtain ⟨r2, c2⟩ := r1.put o (.int .u32 (n : Int))
  have HX : Hid (RX w (w1.setCell ⟨b, o, none⟩ (.int .u32 (n : Int))) R a cap (s.take 4).2 b (cs.setIfInBounds o (.int .u32 (n : Int))) ty) := ⟨r2, Chg.trans (Chg.trans HR.out.2.any (c1.mono (fun _ _ e => .inl e)) (fun _ _ e => e)) c2 (fun _ _ e => .inr e)⟩
  clear r1 r2 c2 i1 c1 HR
  go_wp2
  exact ⟨rfl, _, results_none rfl _ _ _, rfl, HX.out⟩
set_option maxRecDepth 10000 in
theorem rlong (h : R1 w R a cap s b cs ty) (o : Nat) (ho : o < cs.size) :
    Calls Tryz.prog 250 #[hR R, .pointer (some ⟨b, o, none⟩)] w fun r w' => r = .returned (.tuple #[]) ∧ RX w w' R a cap (s.take 8).2 b (cs.setIfInBounds o (.int .u64 (s.num 8 : Nat))) ty := by
  have hlt : s.num 8 < 18446744073709551616 := RS.num_lt s 8 h.rs.rng
  have k0 := Kp.al w (.cells #[.pointer (some ⟨R, 0, none⟩)] 101)
  have A1 := m64_any _ R a cap s (h.kp k0).rs
  have HR : Hid (R1 w R a cap s b cs ty ∧ Kp w (w.alloc (.cells #[.pointer (some ⟨R, 0, none⟩)] 101))) := ⟨h, k0⟩
  clear h k0
  generalize s.num 8 = n at *
  go_enter Tryz.func250, Tryz.ntmps250
  go_wp2_with fail
  go_at_call 257
  refine A1.mono ?_
  clear A1
  rintro e w1 ⟨rfl, i1, c1⟩
  have r1 := (HR.out.1.kp HR.out.2).read i1 c1 (RS.take_bs s 8)
  obtain ⟨u, hu⟩ := r1.cell o ho
  have hf := r1.fr o
  obtain ⟨r2, c2⟩ := r1.put o (.int .u64 (n : Int))
  have HX : Hid (RX w (w1.setCell ⟨b, o, none⟩ (.int .u64 (n : Int))) R a cap (s.take 8).2 b (cs.setIfInBounds o (.int .u64 (n : Int))) ty) := ⟨r2, Chg.trans (Chg.trans HR.out.2.any (c1.mono (fun _ _ e => .inl e)) (fun _ _ e => e)) c2 (fun _ _ e => .inr e)⟩
  clear r1 r2 c2 i1 c1 HR
  go_wp2
  exact ⟨rfl, _, results_none rfl _ _ _, rfl, HX.out⟩
set_option maxRecDepth 10000 in
theorem rperm (h : R1 w R a cap s b cs ty) (o : Nat) (ho : o < cs.size) :
    Calls Tryz.prog 253 #[hR R, .pointer (some ⟨b, o, none⟩)] w fun r w' => r = .returned (.tuple #[]) ∧ RX w w' R a cap (s.take 1).2 b (cs.setIfInBounds o (.int .u8 (s.num 1 : Nat))) ty := by
  have hlt : s.num 1 < 256 := RS.num_lt s 1 h.rs.rng
  have k0 := Kp.al w (.cells #[.pointer (some ⟨R, 0, none⟩)] 101)
  have A1 := m8_any _ R a cap s (h.kp k0).rs
  have HR : Hid (R1 w R a cap s b cs ty ∧ Kp w (w.alloc (.cells #[.pointer (some ⟨R, 0, none⟩)] 101))) := ⟨h, k0⟩
  clear h k0
  generalize s.num 1 = n at *
  have z1 : IntKind.u8.wrap (n : Int) = n := by simp [IntKind.wrap, IntKind.bits, IntKind.signed]; omega
  go_enter Tryz.func253, Tryz.ntmps253
  go_wp2_with fail
  go_at_call 256
  refine A1.mono ?_
  clear A1
  rintro e w1 ⟨rfl, i1, c1⟩
  have r1 := (HR.out.1.kp HR.out.2).read i1 c1 (RS.take_bs s 1)
  obtain ⟨u, hu⟩ := r1.cell o ho
  have hf := r1.fr o
  obtain ⟨r2, c2⟩ := r1.put o (.int .u8 (n : Int))
  have HX : Hid (RX w (w1.setCell ⟨b, o, none⟩ (.int .u8 (n : Int))) R a cap (s.take 1).2 b (cs.setIfInBounds o (.int .u8 (n : Int))) ty) := ⟨r2, Chg.trans (Chg.trans HR.out.2.any (c1.mono (fun _ _ e => .inl e)) (fun _ _ e => e)) c2 (fun _ _ e => .inr e)⟩
  clear r1 r2 c2 i1 c1 HR
  go_wp2
  exact ⟨rfl, _, results_none rfl _ _ _, rfl, HX.out⟩
set_option maxRecDepth 10000 in
theorem rpad (h : R1 w R a cap s b cs ty) :
    Calls Tryz.prog 252 #[hR R] w fun r w' => r = .returned (.tuple #[]) ∧ RX w w' R a cap (s.pad 4) b cs ty := by
  have k0 := Kp.al w (.cells #[.pointer (some ⟨R, 0, none⟩)] 101)
  have A1 := rpad_any _ R a cap s 4 (h.kp k0).rs
  have HR : Hid (R1 w R a cap s b cs ty ∧ Kp w (w.alloc (.cells #[.pointer (some ⟨R, 0, none⟩)] 101))) := ⟨h, k0⟩
  clear h k0
  go_enter Tryz.func252, Tryz.ntmps252
  go_wp2_with fail
  go_at_call 258
  refine A1.mono ?_
  clear A1
  rintro e w1 ⟨rfl, i1, c1⟩
  have HX : Hid (RX w w1 R a cap (s.pad 4) b cs ty) := ⟨(HR.out.1.kp HR.out.2).read i1 c1 (RS.pad_bs s 4), Chg.trans HR.out.2.any (c1.mono (fun _ _ e => .inl e)) (fun _ _ e => e)⟩
  clear i1 c1 HR
  go_wp2
  exact ⟨rfl, _, results_none rfl _ _ _, rfl, HX.out⟩
/-- A flag. -/
def RS.flag (s : RS) : RS := if 1 < s.num 1 then (s.take 1).2.fail 230 (s.take 1).2.at_ else (s.take 1).2
theorem RS.flag_bs (s : RS) : s.flag.bs = s.bs := by
  unfold RS.flag; split
  · exact RS.take_bs _ _
  · exact RS.take_bs _ _
set_option maxRecDepth 10000 in
theorem rflag (h : R1 w R a cap s b cs ty) (o : Nat) (ho : o < cs.size) :
    Calls Tryz.prog 249 #[hR R, .pointer (some ⟨b, o, none⟩)] w fun r w' => r = .returned (.tuple #[]) ∧ RX w w' R a cap s.flag b (cs.setIfInBounds o (.bool (decide (s.num 1 = 1)))) ty := by
  have hlt : s.num 1 < 256 := RS.num_lt s 1 h.rs.rng
  have k0 := Kp.al w (.cells #[.pointer (some ⟨R, 0, none⟩)] 101)
  have hK := (cells_at (heap_alloc_new w (.cells #[.pointer (some ⟨R, 0, none⟩)] 101)) 0).1
  have A1 := m8_any _ R a cap s (h.kp k0).rs
  have hRl := hp_lt h.rs.box
  have HR : Hid (R1 w R a cap s b cs ty ∧ Kp w (w.alloc (.cells #[.pointer (some ⟨R, 0, none⟩)] 101))) := ⟨h, k0⟩
  have hfl : s.flag = if 1 < s.num 1 then (s.take 1).2.fail 230 (s.take 1).2.at_ else (s.take 1).2 := rfl
  clear h k0
  generalize s.num 1 = n at *
  go_enter Tryz.func249, Tryz.ntmps249
  go_wp2_with fail
  go_at_call 256
  refine A1.mono ?_
  clear A1
  rintro e w1 ⟨rfl, i1, c1⟩
  have hk1 := Chg.cell' c1 (b := w.heap.size) (o := 0) (by omega) hK
  have r1 := (HR.out.1.kp HR.out.2).read i1 c1 (RS.take_bs s 1)
  by_cases hn : 1 < n
  · rw [if_pos hn] at hfl
    have hnz : (n : Int) > 1 := by omega
    have hn1 : ¬ n = 1 := by omega
    have hn2 : ((n : Int) == 1) = false := by simp; omega
    have A1 := rfail_any w1 R a cap (s.take 1).2 230 i1
    have H1 : Hid (R1 w1 R a cap (s.take 1).2 b cs ty ∧ Chg w w1 (fun k => k = R ∨ k = b)) := ⟨r1, Chg.trans HR.out.2.any (c1.mono (fun _ _ e => .inl e)) (fun _ _ e => e)⟩
    clear r1 i1 c1 HR hK
    go_wp2_with fail
    go_at_call 81
    refine A1.mono ?_
    clear A1 hk1
    rintro e w2 ⟨rfl, i2, c2⟩
    have r2 := H1.out.1.read i2 c2 rfl
    obtain ⟨u, hu⟩ := r2.cell o ho
    have hf := r2.fr o
    obtain ⟨r3, c3⟩ := r2.put o (.bool false)
    have HX : Hid (RX w (w2.setCell ⟨b, o, none⟩ (.bool false)) R a cap s.flag b (cs.setIfInBounds o (.bool (decide (n = 1)))) ty) := by
      rw [hfl, decide_eq_false hn1]; exact ⟨r3, Chg.trans (Chg.trans H1.out.2 c2 (fun _ _ e => .inl e)) c3 (fun _ _ e => .inr e)⟩
    clear r2 r3 c3 i2 c2 H1 hfl
    go_wp2
    exact ⟨rfl, _, results_none rfl _ _ _, rfl, HX.out⟩
  · rw [if_neg hn] at hfl
    have hnz : ¬ (n : Int) > 1 := by omega
    have hn2 : ((n : Int) == 1) = decide (n = 1) := by
      by_cases e : n = 1
      · subst e; rfl
      · rw [decide_eq_false e]; simp; omega
    obtain ⟨d, hd⟩ : ∃ d, d = decide (n = 1) := ⟨_, rfl⟩
    rw [← hd] at hn2
    obtain ⟨u, hu⟩ := r1.cell o ho
    have hf := r1.fr o
    obtain ⟨r3, c3⟩ := r1.put o (.bool d)
    have HX : Hid (RX w (w1.setCell ⟨b, o, none⟩ (.bool d)) R a cap s.flag b (cs.setIfInBounds o (.bool (decide (n = 1)))) ty) := by
      rw [hfl, ← hd]; exact ⟨r3, Chg.trans (Chg.trans HR.out.2.any (c1.mono (fun _ _ e => .inl e)) (fun _ _ e => e)) c3 (fun _ _ e => .inr e)⟩
    clear r1 r3 c3 i1 c1 HR hk1 hK hfl hd
    go_wp2
    exact ⟨rfl, _, results_none rfl _ _ _, rfl, HX.out⟩
end
end Go.Proofs.YtkggkkoblpdopaaGreat
