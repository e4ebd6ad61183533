import Derived.Test.YtkggkkoblpdopaaGreatYa
namespace Go.Proofs.YtkggkkoblpdopaaGreat
open Go.ChangeShapes Go.WideShapes Go.ChangeAt Go.RowKit
set_option linter.unusedVariables false
def ops248_1 : Array Oper := #[{ dst := some 4, op := Op.move (Operand.tmp 1), type := 144, pos := "reader.go:43", after := #[], guard := none },
  { dst := some 5, op := Op.fieldAddr 101 (Operand.tmp 2) 0, type := 0, pos := "reader.go:43", after := #[], guard := none },
  { dst := some 6, op := Op.load 97 (Operand.tmp 5), type := 97, pos := "reader.go:43", after := #[{ on := 1, ground := Ground.data }], guard := none },
  { dst := some 7, op := Op.fieldAddr 101 (Operand.tmp 2) 0, type := 0, pos := "reader.go:43", after := #[], guard := none },
  { dst := some 8, op := Op.load 97 (Operand.tmp 7), type := 97, pos := "reader.go:43", after := #[{ on := 3, ground := Ground.data }], guard := none },
  { dst := some 9, op := Op.call { callee := Callee.value (Operand.func 78), args := #[Operand.tmp 8], argTypes := #[97] }, type := 29, pos := "reader.go:43", after := #[{ on := 4, ground := Ground.data }], guard := none },
  { dst := some 10, op := Op.convert 29 3 (Operand.tmp 9), type := 3, pos := "reader.go:43", after := #[{ on := 5, ground := Ground.data }], guard := none },
  { dst := some 11, op := Op.call { callee := Callee.value (Operand.func 75), args := #[Operand.tmp 6, Operand.tmp 10], argTypes := #[97, 3] }, type := 22, pos := "reader.go:43", after := #[{ on := 2, ground := Ground.data }, { on := 6, ground := Ground.data }, { on := 5, ground := Ground.chain }], guard := none },
  { dst := some 12, op := Op.nilCheck (Operand.tmp 4), type := 0, pos := "reader.go:43", after := #[{ on := 0, ground := Ground.data }, { on := 0, ground := Ground.phase }, { on := 1, ground := Ground.phase }, { on := 2, ground := Ground.phase }, { on := 3, ground := Ground.phase }, { on := 4, ground := Ground.phase }, { on := 5, ground := Ground.phase }, { on := 6, ground := Ground.phase }, { on := 7, ground := Ground.phase }], guard := none },
  { dst := none, op := Op.store 22 (Operand.tmp 12) (Operand.tmp 11), type := 0, pos := "reader.go:43", after := #[{ on := 8, ground := Ground.data }, { on := 7, ground := Ground.data }, { on := 7, ground := Ground.chain }, { on := 0, ground := Ground.phase }, { on := 1, ground := Ground.phase }, { on := 2, ground := Ground.phase }, { on := 3, ground := Ground.phase }, { on := 4, ground := Ground.phase }, { on := 5, ground := Ground.phase }, { on := 6, ground := Ground.phase }, { on := 7, ground := Ground.phase }], guard := none }]
set_option maxHeartbeats 8000000 in
set_option maxRecDepth 100000 in
theorem reg248_1 (W : World) (KB R b o : Nat) (hS : (fun w' => w'.cell? ⟨KB, 0, none⟩ = some (.pointer (some ⟨R, 0, none⟩))) W.drew) (P : Value → World → Prop)
    (hcall : Calls Tryz.prog 78 #[.pointer (some ⟨R, 0, none⟩)] W.drew fun e x1 => ∃ n : Nat, e = .returned (.int .u32 (n : Nat)) ∧ IntKind.i64.wrap (n : Int) = n ∧ x1.cell? ⟨KB, 0, none⟩ = some (.pointer (some ⟨R, 0, none⟩)) ∧ Calls Tryz.prog 75 #[.pointer (some ⟨R, 0, none⟩), .int .i64 (n : Nat)] x1 fun e x2 => ∃ (va : Option Addr) (vn vc : Nat), e = .returned (.slice va vn vc) ∧ x2.cell? ⟨KB, 0, none⟩ = some (.pointer (some ⟨R, 0, none⟩)) ∧ (∃ u, x2.cell? ⟨b, o, none⟩ = some u) ∧ x2.frozen? ⟨b, o, none⟩ = false ∧ ((x2.setCell ⟨b, o, none⟩ (.slice va vn vc)).cell? ⟨KB, 0, none⟩ = some (.pointer (some ⟨R, 0, none⟩))) ∧ P (.slice va vn vc) (x2.setCell ⟨b, o, none⟩ (.slice va vn vc)))
    (Q : Exit → Act → World → Prop) (hPan : ∀ c (a : Act) w (d : Option Tmp) v, Q (.panic c) (a.put d v) w → Q (.panic c) a w) {u0 u3 u4 u5 u6 u7 u8 u9 u10 u11 u12 u13 u14 : Value}
    (hQ : ∀ (n : Nat) (va : Option Addr) (vn vc : Nat) w1, P (.slice va vn vc) w1 → Q .normal ⟨#[u0, .pointer (some ⟨b, o, none⟩), .pointer (some ⟨KB, 0, none⟩), u3, .pointer (some ⟨b, o, none⟩), .pointer (some ⟨KB, 0, none⟩), .pointer (some ⟨R, 0, none⟩), .pointer (some ⟨KB, 0, none⟩), .pointer (some ⟨R, 0, none⟩), .int .u32 (n : Nat), .int .i64 (n : Nat), .slice va vn vc, .pointer (some ⟨b, o, none⟩), u13, u14], []⟩ w1) :
    Code.wp Tryz.prog (Code.region 1 ops248_1 true) Q ⟨#[u0, .pointer (some ⟨b, o, none⟩), .pointer (some ⟨KB, 0, none⟩), u3, u4, u5, u6, u7, u8, u9, u10, u11, u12, u13, u14], []⟩ W := by
  refine wp_region_held_drew (S := fun w' => w'.cell? ⟨KB, 0, none⟩ = some (.pointer (some ⟨R, 0, none⟩))) hmx hS (fun HSX => ?_)
  clear hS
  obtain ⟨W0, hW0⟩ : ∃ W0, W0 = W.drew := ⟨_, rfl⟩
  rw [← hW0] at HSX hcall ⊢
  clear hW0
  refine wpAnyH_take (i := 0) (oi := { dst := some 4, op := Op.move (Operand.tmp 1), type := 144, pos := "reader.go:43", after := #[], guard := none }) (v := .pointer (some ⟨b, o, none⟩)) rfl (by kernel_rfl) (by kernel_rfl) (by kernel_rfl) (fun _ _ _ h => hPan _ _ _ _ _ h) (Or.inl ⟨by rfl, ?_⟩) HSX ?_
  · intro wx d0
    have s1 := d0
    go_simp
  simp only [Act.put, List.setIfInBounds_toArray, List.set_cons_zero, List.set_cons_succ]
  refine wpAnyH_take (i := 1) (oi := { dst := some 5, op := Op.fieldAddr 101 (Operand.tmp 2) 0, type := 0, pos := "reader.go:43", after := #[], guard := none }) (v := .pointer (some ⟨KB, 0, none⟩)) rfl (by kernel_rfl) (by kernel_rfl) (by kernel_rfl) (fun _ _ _ h => hPan _ _ _ _ _ h) (Or.inl ⟨by rfl, ?_⟩) HSX ?_
  · intro wx d0
    have s1 := d0
    go_simp
  simp only [Act.put, List.setIfInBounds_toArray, List.set_cons_zero, List.set_cons_succ]
  refine wpAnyH_take (i := 2) (oi := { dst := some 6, op := Op.load 97 (Operand.tmp 5), type := 97, pos := "reader.go:43", after := #[{ on := 1, ground := Ground.data }], guard := none }) (v := .pointer (some ⟨R, 0, none⟩)) rfl (by kernel_rfl) (by kernel_rfl) (by kernel_rfl) (fun _ _ _ h => hPan _ _ _ _ _ h) (Or.inl ⟨by rfl, ?_⟩) HSX ?_
  · intro wx d0
    have s1 := d0
    go_simp
  simp only [Act.put, List.setIfInBounds_toArray, List.set_cons_zero, List.set_cons_succ]
  refine wpAnyH_take (i := 3) (oi := { dst := some 7, op := Op.fieldAddr 101 (Operand.tmp 2) 0, type := 0, pos := "reader.go:43", after := #[], guard := none }) (v := .pointer (some ⟨KB, 0, none⟩)) rfl (by kernel_rfl) (by kernel_rfl) (by kernel_rfl) (fun _ _ _ h => hPan _ _ _ _ _ h) (Or.inl ⟨by rfl, ?_⟩) HSX ?_
  · intro wx d0
    have s1 := d0
    go_simp
  simp only [Act.put, List.setIfInBounds_toArray, List.set_cons_zero, List.set_cons_succ]
  refine wpAnyH_take (i := 4) (oi := { dst := some 8, op := Op.load 97 (Operand.tmp 7), type := 97, pos := "reader.go:43", after := #[{ on := 3, ground := Ground.data }], guard := none }) (v := .pointer (some ⟨R, 0, none⟩)) rfl (by kernel_rfl) (by kernel_rfl) (by kernel_rfl) (fun _ _ _ h => hPan _ _ _ _ _ h) (Or.inl ⟨by rfl, ?_⟩) HSX ?_
  · intro wx d0
    have s1 := d0
    go_simp
  simp only [Act.put, List.setIfInBounds_toArray, List.set_cons_zero, List.set_cons_succ]
  refine wpAnyH_ready (rs := [5]) (by kernel_rfl) (by simp) ?_
  refine AllReadyH.cons (o := { dst := some 9, op := Op.call { callee := Callee.value (Operand.func 78), args := #[Operand.tmp 8], argTypes := #[97] }, type := 29, pos := "reader.go:43", after := #[{ on := 4, ground := Ground.data }], guard := none }) rfl (fun K hK => ?_) AllReadyH.nil
  rw [if_pos (by rfl)]
  go_simp
  go_at_call 78
  refine hcall.mono ?_
  rintro e w1 ⟨n, rfl, z1, HS1, hc2⟩
  go_simp
  refine hK.out _ _ HS1 (fun HSX => ?_)
  clear hK K
  refine wpAnyH_take (i := 6) (oi := { dst := some 10, op := Op.convert 29 3 (Operand.tmp 9), type := 3, pos := "reader.go:43", after := #[{ on := 5, ground := Ground.data }], guard := none }) (v := .int .i64 (n : Nat)) rfl (by kernel_rfl) (by kernel_rfl) (by kernel_rfl) (fun _ _ _ h => hPan _ _ _ _ _ h) (Or.inl ⟨by rfl, ?_⟩) HSX ?_
  · intro wx d0
    have s1 := d0
    go_simp
  simp only [Act.put, List.setIfInBounds_toArray, List.set_cons_zero, List.set_cons_succ]
  refine wpAnyH_ready (rs := [7]) (by kernel_rfl) (by simp) ?_
  refine AllReadyH.cons (o := { dst := some 11, op := Op.call { callee := Callee.value (Operand.func 75), args := #[Operand.tmp 6, Operand.tmp 10], argTypes := #[97, 3] }, type := 22, pos := "reader.go:43", after := #[{ on := 2, ground := Ground.data }, { on := 6, ground := Ground.data }, { on := 5, ground := Ground.chain }], guard := none }) rfl (fun K hK => ?_) AllReadyH.nil
  rw [if_pos (by rfl)]
  go_simp
  go_at_call 75
  refine hc2.mono ?_
  rintro e w2 ⟨va, vn, vc, rfl, HS2, ⟨uu, hu⟩, hf, HS3, hP⟩
  go_simp
  refine hK.out _ _ HS2 (fun HSX => ?_)
  clear hK K
  refine wpAnyH_take (i := 8) (oi := { dst := some 12, op := Op.nilCheck (Operand.tmp 4), type := 0, pos := "reader.go:43", after := #[{ on := 0, ground := Ground.data }, { on := 0, ground := Ground.phase }, { on := 1, ground := Ground.phase }, { on := 2, ground := Ground.phase }, { on := 3, ground := Ground.phase }, { on := 4, ground := Ground.phase }, { on := 5, ground := Ground.phase }, { on := 6, ground := Ground.phase }, { on := 7, ground := Ground.phase }], guard := none }) (v := .pointer (some ⟨b, o, none⟩)) rfl (by kernel_rfl) (by kernel_rfl) (by kernel_rfl) (fun _ _ _ h => hPan _ _ _ _ _ h) (Or.inl ⟨by rfl, ?_⟩) HSX ?_
  · intro wx d0
    have s1 := d0
    go_simp
  simp only [Act.put, List.setIfInBounds_toArray, List.set_cons_zero, List.set_cons_succ]
  refine wpAnyH_ready (rs := [9]) (by kernel_rfl) (by simp) ?_
  refine AllReadyH.cons (o := { dst := none, op := Op.store 22 (Operand.tmp 12) (Operand.tmp 11), type := 0, pos := "reader.go:43", after := #[{ on := 8, ground := Ground.data }, { on := 7, ground := Ground.data }, { on := 7, ground := Ground.chain }, { on := 0, ground := Ground.phase }, { on := 1, ground := Ground.phase }, { on := 2, ground := Ground.phase }, { on := 3, ground := Ground.phase }, { on := 4, ground := Ground.phase }, { on := 5, ground := Ground.phase }, { on := 6, ground := Ground.phase }, { on := 7, ground := Ground.phase }], guard := none }) rfl (fun K hK => ?_) AllReadyH.nil
  rw [if_pos (by rfl)]
  go_simp
  refine hK.out _ _ HS3 (fun HSX => ?_)
  clear hK K
  refine wpAnyH_done (by kernel_rfl) ?_ _
  exact hQ n va vn vc _ hP
theorem own_sl {w : World} {e sz n : Nat} {v : Value} {cs : List Value} (h : w.ownsRow 0 e sz v n cs) : ∃ a c, v = .slice a n c := by
  rcases h.2 with ⟨h1, h2⟩ | ⟨g, cap, cur, h1, _⟩
  · exact ⟨none, 0, by rw [h1, h2]⟩
  · exact ⟨_, _, h1⟩
section
variable {w w' w'' : World} {R : Nat} {a : Option Addr} {cap : Nat} {s s' : RS} {b : Nat} {cs cs' : Array Value} {ty : TypeId}
/-- Bytes, and how many they are ahead of them. -/
def RS.bytes (s : RS) : List Int × RS := (((s.take 4).2.take (s.num 4)).1, (((s.take 4).2.take (s.num 4)).2).pad 4)
theorem RS.bytes_bs (s : RS) : s.bytes.2.bs = s.bs := by
  unfold RS.bytes
  exact (RS.pad_bs _ _).trans ((RS.take_bs _ _).trans (RS.take_bs _ _))
set_option maxRecDepth 10000 in
theorem rbytes (h : R1 w R a cap s b cs ty) (o : Nat) (ho : o < cs.size) :
    Calls Tryz.prog 248 #[hR R, .pointer (some ⟨b, o, none⟩)] w fun r w' => r = .returned (.tuple #[]) ∧ ∃ v, RX w w' R a cap s.bytes.2 b (cs.setIfInBounds o v) ty ∧ OwnB w' v s.bytes.1 ∧ Fresh w.heap.size v := by
  have hlt : s.num 4 < 4294967296 := RS.num_lt s 4 h.rs.rng
  have k0 := Kp.al w (.cells #[.pointer (some ⟨R, 0, none⟩)] 101)
  have hK := (cells_at (heap_alloc_new w (.cells #[.pointer (some ⟨R, 0, none⟩)] 101)) 0).1
  have hRl := hp_lt h.rs.box
  have hbl := hp_lt h.bl
  have kd := Kp.trans k0 (Kp.drew (w.alloc (.cells #[.pointer (some ⟨R, 0, none⟩)] 101)))
  have hr0 := h.kp kd
  have hKd := Kp.cell (Kp.drew (w.alloc (.cells #[.pointer (some ⟨R, 0, none⟩)] 101))) hK
  have A1 : Calls Tryz.prog 78 #[.pointer (some ⟨R, 0, none⟩)] (w.alloc (.cells #[.pointer (some ⟨R, 0, none⟩)] 101)).drew fun e x1 => ∃ n : Nat, e = .returned (.int .u32 (n : Nat)) ∧ IntKind.i64.wrap (n : Int) = n ∧ x1.cell? ⟨w.heap.size, 0, none⟩ = some (.pointer (some ⟨R, 0, none⟩)) ∧ Calls Tryz.prog 75 #[.pointer (some ⟨R, 0, none⟩), .int .i64 (n : Nat)] x1 fun e x2 => ∃ (va : Option Addr) (vn vc : Nat), e = .returned (.slice va vn vc) ∧ x2.cell? ⟨w.heap.size, 0, none⟩ = some (.pointer (some ⟨R, 0, none⟩)) ∧ (∃ u, x2.cell? ⟨b, o, none⟩ = some u) ∧ x2.frozen? ⟨b, o, none⟩ = false ∧ ((x2.setCell ⟨b, o, none⟩ (.slice va vn vc)).cell? ⟨w.heap.size, 0, none⟩ = some (.pointer (some ⟨R, 0, none⟩))) ∧ (RX w (x2.setCell ⟨b, o, none⟩ (.slice va vn vc)) R a cap ((s.take 4).2.take (s.num 4)).2 b (cs.setIfInBounds o (.slice va vn vc)) ty ∧ OwnB (x2.setCell ⟨b, o, none⟩ (.slice va vn vc)) (.slice va vn vc) s.bytes.1 ∧ Fresh w.heap.size (.slice va vn vc) ∧ (x2.setCell ⟨b, o, none⟩ (.slice va vn vc)).cell? ⟨w.heap.size, 0, none⟩ = some (.pointer (some ⟨R, 0, none⟩))) := by
    refine (m32_any _ R a cap s hr0.rs).mono ?_
    rintro e w1 ⟨rfl, i1, c1⟩
    have r1 := hr0.read i1 c1 (RS.take_bs s 4)
    have hk1 := Chg.cell' c1 (b := w.heap.size) (o := 0) (by omega) hKd
    refine ⟨s.num 4, rfl, by simp [IntKind.wrap, IntKind.bits, IntKind.signed]; omega, hk1, ?_⟩
    refine (raw_any w1 R a cap (s.take 4).2 (s.num 4 : Nat) (by omega) i1).mono ?_
    rintro e w2 ⟨v, rfl, ho2, hf2, i2, c2⟩
    have e1 : (s.take 4).2.raw ((s.num 4 : Nat) : Int) = (s.take 4).2.take (s.num 4) := by
      unfold RS.raw; rw [if_neg (by omega), Int.toNat_natCast]
    rw [e1] at ho2 i2
    have r2 := r1.read i2 c2 (RS.take_bs _ _)
    have hk2 := Chg.cell' c2 (b := w.heap.size) (o := 0) (by omega) hk1
    obtain ⟨va, vc, rfl⟩ := own_sl ho2.1
    obtain ⟨r3, c3⟩ := r2.put o (.slice va ((s.take 4).2.take (s.num 4)).1.length vc)
    have hs1 := c1.size
    have hsk := kd.size
    have hfr : Fresh w.heap.size (.slice va ((s.take 4).2.take (s.num 4)).1.length vc) := fun k hk => by have := hf2 k hk; omega
    have hk3 := Chg.cell' c3 (b := w.heap.size) (o := 0) (by omega) hk2
    refine ⟨va, _, vc, rfl, hk2, r2.cell o ho, r2.fr o, hk3, ⟨r3, ?_⟩, ho2.chg c3 (fun k hk e => by have := hfr k hk; omega), hfr, hk3⟩
    exact Chg.trans (Chg.trans (Chg.trans kd.any (c1.mono (fun _ _ e => .inl e)) (fun _ _ e => e)) c2 (fun _ _ e => .inl e)) c3 (fun _ _ e => .inr e)
  clear hr0 kd k0 h hK
  go_enter Tryz.func248, Tryz.ntmps248
  go_upto_region 1 with fail
  refine reg248_1 _ w.heap.size R b o hKd (fun v x => RX w x R a cap ((s.take 4).2.take (s.num 4)).2 b (cs.setIfInBounds o v) ty ∧ OwnB x v s.bytes.1 ∧ Fresh w.heap.size v ∧ x.cell? ⟨w.heap.size, 0, none⟩ = some (.pointer (some ⟨R, 0, none⟩))) A1 _ (fun _ _ _ q _ h => by cases q <;> exact h) ?_
  clear A1 hKd
  rintro n va vn vc w1 ⟨hx, hown, hfr, hk⟩
  have A1 := rpad hx.1
  have HX : Hid (RX w w1 R a cap ((s.take 4).2.take (s.num 4)).2 b (cs.setIfInBounds o (.slice va vn vc)) ty ∧ OwnB w1 (.slice va vn vc) s.bytes.1 ∧ Fresh w.heap.size (.slice va vn vc)) := ⟨hx, hown, hfr⟩
  clear hx hown hfr
  go_wp2_with fail
  go_at_call 252
  refine A1.mono ?_
  clear A1 hk
  rintro e w2 ⟨rfl, q2⟩
  have HY : Hid (∃ v, RX w w2 R a cap s.bytes.2 b (cs.setIfInBounds o v) ty ∧ OwnB w2 v s.bytes.1 ∧ Fresh w.heap.size v) := by
    refine ⟨_, ⟨q2.1, Chg.trans HX.out.1.2 q2.2 (fun _ _ e => e)⟩, HX.out.2.1.chg q2.2 (fun k hk e => ?_), HX.out.2.2⟩
    have := HX.out.2.2 k hk
    omega
  clear HX q2
  go_wp2
  exact ⟨rfl, _, results_none rfl _ _ _, rfl, HY.out⟩
end
end Go.Proofs.YtkggkkoblpdopaaGreat
