import Derived.Test.YtghiffpolacmiabGreatDoorRe
import Derived.Deep.RegionHeld3
import Derived.Shelf.Abstract
namespace Go.Proofs.YtghiffpolacmiabGreatDoor
open Go.ChangeShapes Go.WideShapes Go.ChangeAt Go.RowKit
set_option linter.unusedVariables false

set_option maxRecDepth 100000 in
set_option maxHeartbeats 4000000 in
theorem rstore_bad_28 (w : World) (M : Nat) (g : Rg) (x : Bd) (m : Mi) (h : Ro w M g x m) (hop : m.op = 28) (X Y : Nat) (hX : m.x = X) (hY : m.y = Y) (hX16 : X < 16) (hY16 : Y < 16) (hx : x.le 9999) (vy : Int) (hvy : g.R Y = vy) (hv : 0 ≤ vy ∧ vy < 4294967296) (a : Int) (ha : (g.R X + m.n % 4294967296) % 4294967296 = a) (f c : Int) (hf : nxt x.fa x.jf = f) (hc : nxt x.cy x.ic = c) (hf0 : f ≠ 0) :
    Calls Tryz.prog 20 #[.pointer (some ⟨M, 0, none⟩)] w (Rz w M x g (x.sto a 1 (vy % 256)) (m.res { m.r with cyc := wrap64 (m.r.cyc + c), kind := 3, flt := f, addr := a })) := by
  obtain ⟨e5, he5⟩ : ∃ e5, e5 = vy % 256 := ⟨_, rfl⟩
  have HQ : Hid (e5 = vy % 256) := he5
  have he6 : vy.tmod 256 = e5 := by rw [Int.tmod_eq_emod_of_nonneg hv.1]; exact he5.symm
  have he7 : vy % 256 = e5 := he5.symm
  have c0 := h.mi.cell 0 _ rfl
  have c1 := h.mi.cell 1 _ rfl
  have c2 := h.mi.cell 2 _ rfl
  have c3 := h.mi.cell 3 _ rfl
  have c4 := h.mi.cell 4 _ rfl
  have c6 := h.mi.cell 6 _ rfl
  have cX := h.r.cell X _ (rgc_R g X hX16)
  have cY := h.r.cell Y _ (rgc_R g Y hY16)
  rw [hop] at c2
  rw [hX] at c3
  rw [hY] at c4
  rw [hvy] at cY
  have hYz : (Y : Int) < 16 := by omega
  have hXz : (X : Int) < 16 := by omega
  have hL := fun W (r : Ro W M g x m) => store_any W m.bb x r.b (hx.more (by omega)) a 1 e5
  have HR : Hid (Ro w M g x m ∧ x.le 9999) := ⟨h, hx⟩
  have HO : Hid (m.op = 28 ∧ m.x = X) := ⟨hop, hX⟩
  have ln : m.bb < w.heap.size ∧ M < w.heap.size ∧ m.G < w.heap.size := ⟨hp_lt h.b.box, hp_lt h.mi, hp_lt h.r⟩
  rw [hf, hc] at hL
  generalize g.R X = gx at *
  clear h hx hop hX hY hf hc hvy he5
  go_enter Tryz.func20, Tryz.ntmps20
  go_upto_region 1 with (fail)
  obtain ⟨w0, hw0⟩ : ∃ w0, w0 = w.alloc (.cells #[.int .i64 1, .int .i64 2, .int .i64 4] 3) := ⟨_, rfl⟩
  have k0 : Kp w w0 := by rw [hw0]; exact (Chg.refl w _).alloc _
  rw [← hw0]
  clear hw0
  have d0 := Kp.cell k0 c0
  have d1 := Kp.cell k0 c1
  have d3 := Kp.cell k0 c3
  have d4 := Kp.cell k0 c4
  have d6 := Kp.cell k0 c6
  have dX := Kp.cell k0 cX
  have dY := Kp.cell k0 cY
  have HK : Hid (Kp w w0) := k0
  clear c0 c1 c2 c3 c4 c6 cX cY k0
  go_quiet (fail)
  go_upto_region 2 with (fail)
  go_quiet (fail)
  go_upto_region 6 with (go_at_call 32; simp only [ha]; refine (hL _ (HR.out.1.kp (HK.out.drewN _))).mono ?_; rintro e w1 ⟨rfl, hbo⟩)
  obtain ⟨v1, R1, C1, L1⟩ := Ro.bus (HR.out.1.kp (HK.out.drewN _)) hbo (fun k => Iff.rfl)
  clear hbo hL d0 d1 d3 d4 d6 dX dY
  have d8 := R1.mi.cell 8 (.int .i64 m.r.cyc) rfl
  have f8 := R1.mi.fr 8
  obtain ⟨R2, C2⟩ := R1.mset 8 (.int .i64 (wrap64 (m.r.cyc + c))) (m.res { m.r with cyc := wrap64 (m.r.cyc + c) }) rfl rfl rfl
  obtain ⟨w3, hw3⟩ : ∃ w3, w3 = (w1.setCell ⟨M, 8, none⟩ (.int .i64 (wrap64 (m.r.cyc + c)))) := ⟨_, rfl⟩
  rw [← hw3] at R2 C2
  have H3 : Hid (Ro w3 M g ((x.sto a 1 e5).lvTo v1) (m.res { m.r with cyc := wrap64 (m.r.cyc + c) }) ∧ Chg w w3 (fun k => k = m.G ∨ k = M ∨ x.own m.bb k)) := ⟨R2, Chg.trans (Chg.trans (Kp.any (HK.out.drewN _)) C1 (fun i _ e => .inr (.inr e))) C2 (fun i _ e => .inr (.inl e))⟩
  have HL : Hid (v1.ownBlock = x.lv.ownBlock ∨ ∃ k, v1.ownBlock = some k ∧ w.heap.size ≤ k) := by
    rcases L1 with l | ⟨k, l, hk⟩
    · exact .inl l
    · exact .inr ⟨k, l, Nat.le_trans (HK.out.drewN _).size hk⟩
  clear R1 C1 L1 R2 C2 HR HK ln
  have bf : (f == 0) = false := by simpa using hf0
  go_upto_region 7 with (fail)
  rw [← hw3]
  clear hw3 d8 f8
  have d7 := H3.out.1.mi.cell 7 _ rfl
  have f7 := H3.out.1.mi.fr 7
  obtain ⟨R4, C4⟩ := H3.out.1.mset 7 (.int .i64 3) (m.res { m.r with cyc := wrap64 (m.r.cyc + c), kind := 3 }) rfl rfl rfl
  have d10 := R4.mi.cell 10 _ rfl
  have f10 := R4.mi.fr 10
  obtain ⟨R5, C5⟩ := R4.mset 10 (.int .i64 f) (m.res { m.r with cyc := wrap64 (m.r.cyc + c), kind := 3, flt := f }) rfl rfl rfl
  have d11 := R5.mi.cell 11 _ rfl
  have f11 := R5.mi.fr 11
  obtain ⟨R6, C6⟩ := R5.mset 11 (.int .u32 a) (m.res { m.r with cyc := wrap64 (m.r.cyc + c), kind := 3, flt := f, addr := a }) rfl rfl rfl
  have HE : Hid (Rv w M x g (x.sto a 1 e5) (m.res { m.r with cyc := wrap64 (m.r.cyc + c), kind := 3, flt := f, addr := a }) _) := ⟨v1, R6, Chg.trans H3.out.2 (Chg.trans (Chg.trans C4 C5 (fun _ _ e => e)) C6 (fun _ _ e => e)) (fun i _ e => .inr (.inl e)), HL.out⟩
  clear R4 C4 R5 C5 R6 C6
  go_wp2_with fail
  refine bodyPost_ret (results_none rfl _ _ _) rfl ?_
  have hq := HQ.out
  subst hq
  exact ⟨rfl, HE.out⟩
set_option maxRecDepth 100000 in
set_option maxHeartbeats 4000000 in
theorem rstore_ok_28 (w : World) (M : Nat) (g : Rg) (x : Bd) (m : Mi) (h : Ro w M g x m) (hop : m.op = 28) (X Y : Nat) (hX : m.x = X) (hY : m.y = Y) (hX16 : X < 16) (hY16 : Y < 16) (hx : x.le 9999) (vy : Int) (hvy : g.R Y = vy) (hv : 0 ≤ vy ∧ vy < 4294967296) (a : Int) (ha : (g.R X + m.n % 4294967296) % 4294967296 = a) (f c : Int) (hf : nxt x.fa x.jf = f) (hc : nxt x.cy x.ic = c) (hf0 : f = 0) :
    Calls Tryz.prog 20 #[.pointer (some ⟨M, 0, none⟩)] w (Rz w M x g.on4 (x.sto a 1 (vy % 256)) (m.res { m.r with cyc := wrap64 (m.r.cyc + c) })) := by
  obtain ⟨e5, he5⟩ : ∃ e5, e5 = vy % 256 := ⟨_, rfl⟩
  have HQ : Hid (e5 = vy % 256) := he5
  have he6 : vy.tmod 256 = e5 := by rw [Int.tmod_eq_emod_of_nonneg hv.1]; exact he5.symm
  have he7 : vy % 256 = e5 := he5.symm
  have c0 := h.mi.cell 0 _ rfl
  have c1 := h.mi.cell 1 _ rfl
  have c2 := h.mi.cell 2 _ rfl
  have c3 := h.mi.cell 3 _ rfl
  have c4 := h.mi.cell 4 _ rfl
  have c6 := h.mi.cell 6 _ rfl
  have cX := h.r.cell X _ (rgc_R g X hX16)
  have cY := h.r.cell Y _ (rgc_R g Y hY16)
  rw [hop] at c2
  rw [hX] at c3
  rw [hY] at c4
  rw [hvy] at cY
  have hYz : (Y : Int) < 16 := by omega
  have hXz : (X : Int) < 16 := by omega
  have hL := fun W (r : Ro W M g x m) => store_any W m.bb x r.b (hx.more (by omega)) a 1 e5
  have HR : Hid (Ro w M g x m ∧ x.le 9999) := ⟨h, hx⟩
  have HO : Hid (m.op = 28 ∧ m.x = X) := ⟨hop, hX⟩
  have ln : m.bb < w.heap.size ∧ M < w.heap.size ∧ m.G < w.heap.size := ⟨hp_lt h.b.box, hp_lt h.mi, hp_lt h.r⟩
  rw [hf, hc] at hL
  generalize g.R X = gx at *
  clear h hx hop hX hY hf hc hvy he5
  go_enter Tryz.func20, Tryz.ntmps20
  go_upto_region 1 with (fail)
  obtain ⟨w0, hw0⟩ : ∃ w0, w0 = w.alloc (.cells #[.int .i64 1, .int .i64 2, .int .i64 4] 3) := ⟨_, rfl⟩
  have k0 : Kp w w0 := by rw [hw0]; exact (Chg.refl w _).alloc _
  rw [← hw0]
  clear hw0
  have d0 := Kp.cell k0 c0
  have d1 := Kp.cell k0 c1
  have d3 := Kp.cell k0 c3
  have d4 := Kp.cell k0 c4
  have d6 := Kp.cell k0 c6
  have dX := Kp.cell k0 cX
  have dY := Kp.cell k0 cY
  have HK : Hid (Kp w w0) := k0
  clear c0 c1 c2 c3 c4 c6 cX cY k0
  go_quiet (fail)
  go_upto_region 2 with (fail)
  go_quiet (fail)
  go_upto_region 6 with (go_at_call 32; simp only [ha]; refine (hL _ (HR.out.1.kp (HK.out.drewN _))).mono ?_; rintro e w1 ⟨rfl, hbo⟩)
  obtain ⟨v1, R1, C1, L1⟩ := Ro.bus (HR.out.1.kp (HK.out.drewN _)) hbo (fun k => Iff.rfl)
  clear hbo hL d0 d1 d3 d4 d6 dX dY
  have d8 := R1.mi.cell 8 (.int .i64 m.r.cyc) rfl
  have f8 := R1.mi.fr 8
  obtain ⟨R2, C2⟩ := R1.mset 8 (.int .i64 (wrap64 (m.r.cyc + c))) (m.res { m.r with cyc := wrap64 (m.r.cyc + c) }) rfl rfl rfl
  obtain ⟨w3, hw3⟩ : ∃ w3, w3 = (w1.setCell ⟨M, 8, none⟩ (.int .i64 (wrap64 (m.r.cyc + c)))) := ⟨_, rfl⟩
  rw [← hw3] at R2 C2
  have H3 : Hid (Ro w3 M g ((x.sto a 1 e5).lvTo v1) (m.res { m.r with cyc := wrap64 (m.r.cyc + c) }) ∧ Chg w w3 (fun k => k = m.G ∨ k = M ∨ x.own m.bb k)) := ⟨R2, Chg.trans (Chg.trans (Kp.any (HK.out.drewN _)) C1 (fun i _ e => .inr (.inr e))) C2 (fun i _ e => .inr (.inl e))⟩
  have HL : Hid (v1.ownBlock = x.lv.ownBlock ∨ ∃ k, v1.ownBlock = some k ∧ w.heap.size ≤ k) := by
    rcases L1 with l | ⟨k, l, hk⟩
    · exact .inl l
    · exact .inr ⟨k, l, Nat.le_trans (HK.out.drewN _).size hk⟩
  clear R1 C1 L1 R2 C2 HR HK ln
  subst hf0
  go_upto_region 7 with (fail)
  rw [← hw3]
  clear hw3 d8 f8
  go_upto_region 11 with (fail)
  have p0 := H3.out.1.mi.cell 0 _ rfl
  have p16 := H3.out.1.r.cell 16 (.int .u32 g.pc) rfl
  have q16 := H3.out.1.r.fr 16
  obtain ⟨i7, c7⟩ := H3.out.1.r.set 16 (.int .u32 ((g.pc + 4) % 4294967296)) g.on4 rfl
  have HE : Hid (Rv w M x g.on4 (x.sto a 1 e5) (m.res { m.r with cyc := wrap64 (m.r.cyc + c) }) _) := ⟨v1, H3.out.1.rset i7 c7, Chg.trans H3.out.2 c7 (fun i _ e => .inl e), HL.out⟩
  clear i7 c7 H3 HL
  go_region
  go_wp2_with fail
  go_end0
  have hq := HQ.out
  subst hq
  exact ⟨rfl, HE.out.drew⟩
set_option maxRecDepth 100000 in
set_option maxHeartbeats 4000000 in
theorem rstore_bad_29 (w : World) (M : Nat) (g : Rg) (x : Bd) (m : Mi) (h : Ro w M g x m) (hop : m.op = 29) (X Y : Nat) (hX : m.x = X) (hY : m.y = Y) (hX16 : X < 16) (hY16 : Y < 16) (hx : x.le 9999) (vy : Int) (hvy : g.R Y = vy) (hv : 0 ≤ vy ∧ vy < 4294967296) (a : Int) (ha : (g.R X + m.n % 4294967296) % 4294967296 = a) (f c : Int) (hf : nxt x.fa x.jf = f) (hc : nxt x.cy x.ic = c) (hf0 : f ≠ 0) :
    Calls Tryz.prog 20 #[.pointer (some ⟨M, 0, none⟩)] w (Rz w M x g (x.sto a 2 (IntKind.u32.wrap (IntKind.u16.wrap vy))) (m.res { m.r with cyc := wrap64 (m.r.cyc + c), kind := 3, flt := f, addr := a })) := by
  obtain ⟨e5, he5⟩ : ∃ e5, e5 = IntKind.u32.wrap (IntKind.u16.wrap vy) := ⟨_, rfl⟩
  have HQ : Hid (e5 = IntKind.u32.wrap (IntKind.u16.wrap vy)) := he5
  have he6 : vy.tmod 65536 = e5 := by
    rw [Int.tmod_eq_emod_of_nonneg hv.1, he5]; simp [IntKind.wrap, IntKind.bits, IntKind.signed] <;> omega
  have he7 : vy % 65536 = e5 := by rw [← he6, Int.tmod_eq_emod_of_nonneg hv.1]
  have c0 := h.mi.cell 0 _ rfl
  have c1 := h.mi.cell 1 _ rfl
  have c2 := h.mi.cell 2 _ rfl
  have c3 := h.mi.cell 3 _ rfl
  have c4 := h.mi.cell 4 _ rfl
  have c6 := h.mi.cell 6 _ rfl
  have cX := h.r.cell X _ (rgc_R g X hX16)
  have cY := h.r.cell Y _ (rgc_R g Y hY16)
  rw [hop] at c2
  rw [hX] at c3
  rw [hY] at c4
  rw [hvy] at cY
  have hYz : (Y : Int) < 16 := by omega
  have hXz : (X : Int) < 16 := by omega
  have hL := fun W (r : Ro W M g x m) => store_any W m.bb x r.b (hx.more (by omega)) a 2 e5
  have HR : Hid (Ro w M g x m ∧ x.le 9999) := ⟨h, hx⟩
  have HO : Hid (m.op = 29 ∧ m.x = X) := ⟨hop, hX⟩
  have ln : m.bb < w.heap.size ∧ M < w.heap.size ∧ m.G < w.heap.size := ⟨hp_lt h.b.box, hp_lt h.mi, hp_lt h.r⟩
  rw [hf, hc] at hL
  generalize g.R X = gx at *
  clear h hx hop hX hY hf hc hvy he5
  go_enter Tryz.func20, Tryz.ntmps20
  go_upto_region 1 with (fail)
  obtain ⟨w0, hw0⟩ : ∃ w0, w0 = w.alloc (.cells #[.int .i64 1, .int .i64 2, .int .i64 4] 3) := ⟨_, rfl⟩
  have k0 : Kp w w0 := by rw [hw0]; exact (Chg.refl w _).alloc _
  rw [← hw0]
  clear hw0
  have d0 := Kp.cell k0 c0
  have d1 := Kp.cell k0 c1
  have d3 := Kp.cell k0 c3
  have d4 := Kp.cell k0 c4
  have d6 := Kp.cell k0 c6
  have dX := Kp.cell k0 cX
  have dY := Kp.cell k0 cY
  have HK : Hid (Kp w w0) := k0
  clear c0 c1 c2 c3 c4 c6 cX cY k0
  go_quiet (fail)
  go_upto_region 2 with (fail)
  go_quiet (fail)
  go_upto_region 6 with (go_at_call 32; simp only [ha]; refine (hL _ (HR.out.1.kp (HK.out.drewN _))).mono ?_; rintro e w1 ⟨rfl, hbo⟩)
  obtain ⟨v1, R1, C1, L1⟩ := Ro.bus (HR.out.1.kp (HK.out.drewN _)) hbo (fun k => Iff.rfl)
  clear hbo hL d0 d1 d3 d4 d6 dX dY
  have d8 := R1.mi.cell 8 (.int .i64 m.r.cyc) rfl
  have f8 := R1.mi.fr 8
  obtain ⟨R2, C2⟩ := R1.mset 8 (.int .i64 (wrap64 (m.r.cyc + c))) (m.res { m.r with cyc := wrap64 (m.r.cyc + c) }) rfl rfl rfl
  obtain ⟨w3, hw3⟩ : ∃ w3, w3 = (w1.setCell ⟨M, 8, none⟩ (.int .i64 (wrap64 (m.r.cyc + c)))) := ⟨_, rfl⟩
  rw [← hw3] at R2 C2
  have H3 : Hid (Ro w3 M g ((x.sto a 2 e5).lvTo v1) (m.res { m.r with cyc := wrap64 (m.r.cyc + c) }) ∧ Chg w w3 (fun k => k = m.G ∨ k = M ∨ x.own m.bb k)) := ⟨R2, Chg.trans (Chg.trans (Kp.any (HK.out.drewN _)) C1 (fun i _ e => .inr (.inr e))) C2 (fun i _ e => .inr (.inl e))⟩
  have HL : Hid (v1.ownBlock = x.lv.ownBlock ∨ ∃ k, v1.ownBlock = some k ∧ w.heap.size ≤ k) := by
    rcases L1 with l | ⟨k, l, hk⟩
    · exact .inl l
    · exact .inr ⟨k, l, Nat.le_trans (HK.out.drewN _).size hk⟩
  clear R1 C1 L1 R2 C2 HR HK ln
  have bf : (f == 0) = false := by simpa using hf0
  go_upto_region 7 with (fail)
  rw [← hw3]
  clear hw3 d8 f8
  have d7 := H3.out.1.mi.cell 7 _ rfl
  have f7 := H3.out.1.mi.fr 7
  obtain ⟨R4, C4⟩ := H3.out.1.mset 7 (.int .i64 3) (m.res { m.r with cyc := wrap64 (m.r.cyc + c), kind := 3 }) rfl rfl rfl
  have d10 := R4.mi.cell 10 _ rfl
  have f10 := R4.mi.fr 10
  obtain ⟨R5, C5⟩ := R4.mset 10 (.int .i64 f) (m.res { m.r with cyc := wrap64 (m.r.cyc + c), kind := 3, flt := f }) rfl rfl rfl
  have d11 := R5.mi.cell 11 _ rfl
  have f11 := R5.mi.fr 11
  obtain ⟨R6, C6⟩ := R5.mset 11 (.int .u32 a) (m.res { m.r with cyc := wrap64 (m.r.cyc + c), kind := 3, flt := f, addr := a }) rfl rfl rfl
  have HE : Hid (Rv w M x g (x.sto a 2 e5) (m.res { m.r with cyc := wrap64 (m.r.cyc + c), kind := 3, flt := f, addr := a }) _) := ⟨v1, R6, Chg.trans H3.out.2 (Chg.trans (Chg.trans C4 C5 (fun _ _ e => e)) C6 (fun _ _ e => e)) (fun i _ e => .inr (.inl e)), HL.out⟩
  clear R4 C4 R5 C5 R6 C6
  go_wp2_with fail
  refine bodyPost_ret (results_none rfl _ _ _) rfl ?_
  have hq := HQ.out
  subst hq
  exact ⟨rfl, HE.out⟩
set_option maxRecDepth 100000 in
set_option maxHeartbeats 4000000 in
theorem rstore_ok_29 (w : World) (M : Nat) (g : Rg) (x : Bd) (m : Mi) (h : Ro w M g x m) (hop : m.op = 29) (X Y : Nat) (hX : m.x = X) (hY : m.y = Y) (hX16 : X < 16) (hY16 : Y < 16) (hx : x.le 9999) (vy : Int) (hvy : g.R Y = vy) (hv : 0 ≤ vy ∧ vy < 4294967296) (a : Int) (ha : (g.R X + m.n % 4294967296) % 4294967296 = a) (f c : Int) (hf : nxt x.fa x.jf = f) (hc : nxt x.cy x.ic = c) (hf0 : f = 0) :
    Calls Tryz.prog 20 #[.pointer (some ⟨M, 0, none⟩)] w (Rz w M x g.on4 (x.sto a 2 (IntKind.u32.wrap (IntKind.u16.wrap vy))) (m.res { m.r with cyc := wrap64 (m.r.cyc + c) })) := by
  obtain ⟨e5, he5⟩ : ∃ e5, e5 = IntKind.u32.wrap (IntKind.u16.wrap vy) := ⟨_, rfl⟩
  have HQ : Hid (e5 = IntKind.u32.wrap (IntKind.u16.wrap vy)) := he5
  have he6 : vy.tmod 65536 = e5 := by
    rw [Int.tmod_eq_emod_of_nonneg hv.1, he5]; simp [IntKind.wrap, IntKind.bits, IntKind.signed] <;> omega
  have he7 : vy % 65536 = e5 := by rw [← he6, Int.tmod_eq_emod_of_nonneg hv.1]
  have c0 := h.mi.cell 0 _ rfl
  have c1 := h.mi.cell 1 _ rfl
  have c2 := h.mi.cell 2 _ rfl
  have c3 := h.mi.cell 3 _ rfl
  have c4 := h.mi.cell 4 _ rfl
  have c6 := h.mi.cell 6 _ rfl
  have cX := h.r.cell X _ (rgc_R g X hX16)
  have cY := h.r.cell Y _ (rgc_R g Y hY16)
  rw [hop] at c2
  rw [hX] at c3
  rw [hY] at c4
  rw [hvy] at cY
  have hYz : (Y : Int) < 16 := by omega
  have hXz : (X : Int) < 16 := by omega
  have hL := fun W (r : Ro W M g x m) => store_any W m.bb x r.b (hx.more (by omega)) a 2 e5
  have HR : Hid (Ro w M g x m ∧ x.le 9999) := ⟨h, hx⟩
  have HO : Hid (m.op = 29 ∧ m.x = X) := ⟨hop, hX⟩
  have ln : m.bb < w.heap.size ∧ M < w.heap.size ∧ m.G < w.heap.size := ⟨hp_lt h.b.box, hp_lt h.mi, hp_lt h.r⟩
  rw [hf, hc] at hL
  generalize g.R X = gx at *
  clear h hx hop hX hY hf hc hvy he5
  go_enter Tryz.func20, Tryz.ntmps20
  go_upto_region 1 with (fail)
  obtain ⟨w0, hw0⟩ : ∃ w0, w0 = w.alloc (.cells #[.int .i64 1, .int .i64 2, .int .i64 4] 3) := ⟨_, rfl⟩
  have k0 : Kp w w0 := by rw [hw0]; exact (Chg.refl w _).alloc _
  rw [← hw0]
  clear hw0
  have d0 := Kp.cell k0 c0
  have d1 := Kp.cell k0 c1
  have d3 := Kp.cell k0 c3
  have d4 := Kp.cell k0 c4
  have d6 := Kp.cell k0 c6
  have dX := Kp.cell k0 cX
  have dY := Kp.cell k0 cY
  have HK : Hid (Kp w w0) := k0
  clear c0 c1 c2 c3 c4 c6 cX cY k0
  go_quiet (fail)
  go_upto_region 2 with (fail)
  go_quiet (fail)
  go_upto_region 6 with (go_at_call 32; simp only [ha]; refine (hL _ (HR.out.1.kp (HK.out.drewN _))).mono ?_; rintro e w1 ⟨rfl, hbo⟩)
  obtain ⟨v1, R1, C1, L1⟩ := Ro.bus (HR.out.1.kp (HK.out.drewN _)) hbo (fun k => Iff.rfl)
  clear hbo hL d0 d1 d3 d4 d6 dX dY
  have d8 := R1.mi.cell 8 (.int .i64 m.r.cyc) rfl
  have f8 := R1.mi.fr 8
  obtain ⟨R2, C2⟩ := R1.mset 8 (.int .i64 (wrap64 (m.r.cyc + c))) (m.res { m.r with cyc := wrap64 (m.r.cyc + c) }) rfl rfl rfl
  obtain ⟨w3, hw3⟩ : ∃ w3, w3 = (w1.setCell ⟨M, 8, none⟩ (.int .i64 (wrap64 (m.r.cyc + c)))) := ⟨_, rfl⟩
  rw [← hw3] at R2 C2
  have H3 : Hid (Ro w3 M g ((x.sto a 2 e5).lvTo v1) (m.res { m.r with cyc := wrap64 (m.r.cyc + c) }) ∧ Chg w w3 (fun k => k = m.G ∨ k = M ∨ x.own m.bb k)) := ⟨R2, Chg.trans (Chg.trans (Kp.any (HK.out.drewN _)) C1 (fun i _ e => .inr (.inr e))) C2 (fun i _ e => .inr (.inl e))⟩
  have HL : Hid (v1.ownBlock = x.lv.ownBlock ∨ ∃ k, v1.ownBlock = some k ∧ w.heap.size ≤ k) := by
    rcases L1 with l | ⟨k, l, hk⟩
    · exact .inl l
    · exact .inr ⟨k, l, Nat.le_trans (HK.out.drewN _).size hk⟩
  clear R1 C1 L1 R2 C2 HR HK ln
  subst hf0
  go_upto_region 7 with (fail)
  rw [← hw3]
  clear hw3 d8 f8
  go_upto_region 11 with (fail)
  have p0 := H3.out.1.mi.cell 0 _ rfl
  have p16 := H3.out.1.r.cell 16 (.int .u32 g.pc) rfl
  have q16 := H3.out.1.r.fr 16
  obtain ⟨i7, c7⟩ := H3.out.1.r.set 16 (.int .u32 ((g.pc + 4) % 4294967296)) g.on4 rfl
  have HE : Hid (Rv w M x g.on4 (x.sto a 2 e5) (m.res { m.r with cyc := wrap64 (m.r.cyc + c) }) _) := ⟨v1, H3.out.1.rset i7 c7, Chg.trans H3.out.2 c7 (fun i _ e => .inl e), HL.out⟩
  clear i7 c7 H3 HL
  go_region
  go_wp2_with fail
  go_end0
  have hq := HQ.out
  subst hq
  exact ⟨rfl, HE.out.drew⟩
set_option maxRecDepth 100000 in
set_option maxHeartbeats 4000000 in
theorem rstore_bad_30 (w : World) (M : Nat) (g : Rg) (x : Bd) (m : Mi) (h : Ro w M g x m) (hop : m.op = 30) (X Y : Nat) (hX : m.x = X) (hY : m.y = Y) (hX16 : X < 16) (hY16 : Y < 16) (hx : x.le 9999) (vy : Int) (hvy : g.R Y = vy) (hv : 0 ≤ vy ∧ vy < 4294967296) (a : Int) (ha : (g.R X + m.n % 4294967296) % 4294967296 = a) (f c : Int) (hf : nxt x.fa x.jf = f) (hc : nxt x.cy x.ic = c) (hf0 : f ≠ 0) :
    Calls Tryz.prog 20 #[.pointer (some ⟨M, 0, none⟩)] w (Rz w M x g (x.sto a 4 (vy)) (m.res { m.r with cyc := wrap64 (m.r.cyc + c), kind := 3, flt := f, addr := a })) := by
  obtain ⟨e5, he5⟩ : ∃ e5, e5 = vy := ⟨_, rfl⟩
  have HQ : Hid (e5 = vy) := he5
  have he6 : vy = e5 := he5.symm
  have c0 := h.mi.cell 0 _ rfl
  have c1 := h.mi.cell 1 _ rfl
  have c2 := h.mi.cell 2 _ rfl
  have c3 := h.mi.cell 3 _ rfl
  have c4 := h.mi.cell 4 _ rfl
  have c6 := h.mi.cell 6 _ rfl
  have cX := h.r.cell X _ (rgc_R g X hX16)
  have cY := h.r.cell Y _ (rgc_R g Y hY16)
  rw [hop] at c2
  rw [hX] at c3
  rw [hY] at c4
  rw [hvy] at cY
  have hYz : (Y : Int) < 16 := by omega
  have hXz : (X : Int) < 16 := by omega
  have hL := fun W (r : Ro W M g x m) => store_any W m.bb x r.b (hx.more (by omega)) a 4 e5
  have HR : Hid (Ro w M g x m ∧ x.le 9999) := ⟨h, hx⟩
  have HO : Hid (m.op = 30 ∧ m.x = X) := ⟨hop, hX⟩
  have ln : m.bb < w.heap.size ∧ M < w.heap.size ∧ m.G < w.heap.size := ⟨hp_lt h.b.box, hp_lt h.mi, hp_lt h.r⟩
  rw [hf, hc] at hL
  generalize g.R X = gx at *
  clear h hx hop hX hY hf hc hvy he5
  go_enter Tryz.func20, Tryz.ntmps20
  go_upto_region 1 with (fail)
  obtain ⟨w0, hw0⟩ : ∃ w0, w0 = w.alloc (.cells #[.int .i64 1, .int .i64 2, .int .i64 4] 3) := ⟨_, rfl⟩
  have k0 : Kp w w0 := by rw [hw0]; exact (Chg.refl w _).alloc _
  rw [← hw0]
  clear hw0
  have d0 := Kp.cell k0 c0
  have d1 := Kp.cell k0 c1
  have d3 := Kp.cell k0 c3
  have d4 := Kp.cell k0 c4
  have d6 := Kp.cell k0 c6
  have dX := Kp.cell k0 cX
  have dY := Kp.cell k0 cY
  have HK : Hid (Kp w w0) := k0
  clear c0 c1 c2 c3 c4 c6 cX cY k0
  go_quiet (fail)
  go_upto_region 2 with (fail)
  go_quiet (fail)
  go_upto_region 6 with (go_at_call 32; simp only [ha]; refine (hL _ (HR.out.1.kp (HK.out.drewN _))).mono ?_; rintro e w1 ⟨rfl, hbo⟩)
  obtain ⟨v1, R1, C1, L1⟩ := Ro.bus (HR.out.1.kp (HK.out.drewN _)) hbo (fun k => Iff.rfl)
  clear hbo hL d0 d1 d3 d4 d6 dX dY
  have d8 := R1.mi.cell 8 (.int .i64 m.r.cyc) rfl
  have f8 := R1.mi.fr 8
  obtain ⟨R2, C2⟩ := R1.mset 8 (.int .i64 (wrap64 (m.r.cyc + c))) (m.res { m.r with cyc := wrap64 (m.r.cyc + c) }) rfl rfl rfl
  obtain ⟨w3, hw3⟩ : ∃ w3, w3 = (w1.setCell ⟨M, 8, none⟩ (.int .i64 (wrap64 (m.r.cyc + c)))) := ⟨_, rfl⟩
  rw [← hw3] at R2 C2
  have H3 : Hid (Ro w3 M g ((x.sto a 4 e5).lvTo v1) (m.res { m.r with cyc := wrap64 (m.r.cyc + c) }) ∧ Chg w w3 (fun k => k = m.G ∨ k = M ∨ x.own m.bb k)) := ⟨R2, Chg.trans (Chg.trans (Kp.any (HK.out.drewN _)) C1 (fun i _ e => .inr (.inr e))) C2 (fun i _ e => .inr (.inl e))⟩
  have HL : Hid (v1.ownBlock = x.lv.ownBlock ∨ ∃ k, v1.ownBlock = some k ∧ w.heap.size ≤ k) := by
    rcases L1 with l | ⟨k, l, hk⟩
    · exact .inl l
    · exact .inr ⟨k, l, Nat.le_trans (HK.out.drewN _).size hk⟩
  clear R1 C1 L1 R2 C2 HR HK ln
  have bf : (f == 0) = false := by simpa using hf0
  go_upto_region 7 with (fail)
  rw [← hw3]
  clear hw3 d8 f8
  have d7 := H3.out.1.mi.cell 7 _ rfl
  have f7 := H3.out.1.mi.fr 7
  obtain ⟨R4, C4⟩ := H3.out.1.mset 7 (.int .i64 3) (m.res { m.r with cyc := wrap64 (m.r.cyc + c), kind := 3 }) rfl rfl rfl
  have d10 := R4.mi.cell 10 _ rfl
  have f10 := R4.mi.fr 10
  obtain ⟨R5, C5⟩ := R4.mset 10 (.int .i64 f) (m.res { m.r with cyc := wrap64 (m.r.cyc + c), kind := 3, flt := f }) rfl rfl rfl
  have d11 := R5.mi.cell 11 _ rfl
  have f11 := R5.mi.fr 11
  obtain ⟨R6, C6⟩ := R5.mset 11 (.int .u32 a) (m.res { m.r with cyc := wrap64 (m.r.cyc + c), kind := 3, flt := f, addr := a }) rfl rfl rfl
  have HE : Hid (Rv w M x g (x.sto a 4 e5) (m.res { m.r with cyc := wrap64 (m.r.cyc + c), kind := 3, flt := f, addr := a }) _) := ⟨v1, R6, Chg.trans H3.out.2 (Chg.trans (Chg.trans C4 C5 (fun _ _ e => e)) C6 (fun _ _ e => e)) (fun i _ e => .inr (.inl e)), HL.out⟩
  clear R4 C4 R5 C5 R6 C6
  go_wp2_with fail
  refine bodyPost_ret (results_none rfl _ _ _) rfl ?_
  have hq := HQ.out
  subst hq
  exact ⟨rfl, HE.out⟩
set_option maxRecDepth 100000 in
set_option maxHeartbeats 4000000 in
theorem rstore_ok_30 (w : World) (M : Nat) (g : Rg) (x : Bd) (m : Mi) (h : Ro w M g x m) (hop : m.op = 30) (X Y : Nat) (hX : m.x = X) (hY : m.y = Y) (hX16 : X < 16) (hY16 : Y < 16) (hx : x.le 9999) (vy : Int) (hvy : g.R Y = vy) (hv : 0 ≤ vy ∧ vy < 4294967296) (a : Int) (ha : (g.R X + m.n % 4294967296) % 4294967296 = a) (f c : Int) (hf : nxt x.fa x.jf = f) (hc : nxt x.cy x.ic = c) (hf0 : f = 0) :
    Calls Tryz.prog 20 #[.pointer (some ⟨M, 0, none⟩)] w (Rz w M x g.on4 (x.sto a 4 (vy)) (m.res { m.r with cyc := wrap64 (m.r.cyc + c) })) := by
  obtain ⟨e5, he5⟩ : ∃ e5, e5 = vy := ⟨_, rfl⟩
  have HQ : Hid (e5 = vy) := he5
  have he6 : vy = e5 := he5.symm
  have c0 := h.mi.cell 0 _ rfl
  have c1 := h.mi.cell 1 _ rfl
  have c2 := h.mi.cell 2 _ rfl
  have c3 := h.mi.cell 3 _ rfl
  have c4 := h.mi.cell 4 _ rfl
  have c6 := h.mi.cell 6 _ rfl
  have cX := h.r.cell X _ (rgc_R g X hX16)
  have cY := h.r.cell Y _ (rgc_R g Y hY16)
  rw [hop] at c2
  rw [hX] at c3
  rw [hY] at c4
  rw [hvy] at cY
  have hYz : (Y : Int) < 16 := by omega
  have hXz : (X : Int) < 16 := by omega
  have hL := fun W (r : Ro W M g x m) => store_any W m.bb x r.b (hx.more (by omega)) a 4 e5
  have HR : Hid (Ro w M g x m ∧ x.le 9999) := ⟨h, hx⟩
  have HO : Hid (m.op = 30 ∧ m.x = X) := ⟨hop, hX⟩
  have ln : m.bb < w.heap.size ∧ M < w.heap.size ∧ m.G < w.heap.size := ⟨hp_lt h.b.box, hp_lt h.mi, hp_lt h.r⟩
  rw [hf, hc] at hL
  generalize g.R X = gx at *
  clear h hx hop hX hY hf hc hvy he5
  go_enter Tryz.func20, Tryz.ntmps20
  go_upto_region 1 with (fail)
  obtain ⟨w0, hw0⟩ : ∃ w0, w0 = w.alloc (.cells #[.int .i64 1, .int .i64 2, .int .i64 4] 3) := ⟨_, rfl⟩
  have k0 : Kp w w0 := by rw [hw0]; exact (Chg.refl w _).alloc _
  rw [← hw0]
  clear hw0
  have d0 := Kp.cell k0 c0
  have d1 := Kp.cell k0 c1
  have d3 := Kp.cell k0 c3
  have d4 := Kp.cell k0 c4
  have d6 := Kp.cell k0 c6
  have dX := Kp.cell k0 cX
  have dY := Kp.cell k0 cY
  have HK : Hid (Kp w w0) := k0
  clear c0 c1 c2 c3 c4 c6 cX cY k0
  go_quiet (fail)
  go_upto_region 2 with (fail)
  go_quiet (fail)
  go_upto_region 6 with (go_at_call 32; simp only [ha]; refine (hL _ (HR.out.1.kp (HK.out.drewN _))).mono ?_; rintro e w1 ⟨rfl, hbo⟩)
  obtain ⟨v1, R1, C1, L1⟩ := Ro.bus (HR.out.1.kp (HK.out.drewN _)) hbo (fun k => Iff.rfl)
  clear hbo hL d0 d1 d3 d4 d6 dX dY
  have d8 := R1.mi.cell 8 (.int .i64 m.r.cyc) rfl
  have f8 := R1.mi.fr 8
  obtain ⟨R2, C2⟩ := R1.mset 8 (.int .i64 (wrap64 (m.r.cyc + c))) (m.res { m.r with cyc := wrap64 (m.r.cyc + c) }) rfl rfl rfl
  obtain ⟨w3, hw3⟩ : ∃ w3, w3 = (w1.setCell ⟨M, 8, none⟩ (.int .i64 (wrap64 (m.r.cyc + c)))) := ⟨_, rfl⟩
  rw [← hw3] at R2 C2
  have H3 : Hid (Ro w3 M g ((x.sto a 4 e5).lvTo v1) (m.res { m.r with cyc := wrap64 (m.r.cyc + c) }) ∧ Chg w w3 (fun k => k = m.G ∨ k = M ∨ x.own m.bb k)) := ⟨R2, Chg.trans (Chg.trans (Kp.any (HK.out.drewN _)) C1 (fun i _ e => .inr (.inr e))) C2 (fun i _ e => .inr (.inl e))⟩
  have HL : Hid (v1.ownBlock = x.lv.ownBlock ∨ ∃ k, v1.ownBlock = some k ∧ w.heap.size ≤ k) := by
    rcases L1 with l | ⟨k, l, hk⟩
    · exact .inl l
    · exact .inr ⟨k, l, Nat.le_trans (HK.out.drewN _).size hk⟩
  clear R1 C1 L1 R2 C2 HR HK ln
  subst hf0
  go_upto_region 7 with (fail)
  rw [← hw3]
  clear hw3 d8 f8
  go_upto_region 11 with (fail)
  have p0 := H3.out.1.mi.cell 0 _ rfl
  have p16 := H3.out.1.r.cell 16 (.int .u32 g.pc) rfl
  have q16 := H3.out.1.r.fr 16
  obtain ⟨i7, c7⟩ := H3.out.1.r.set 16 (.int .u32 ((g.pc + 4) % 4294967296)) g.on4 rfl
  have HE : Hid (Rv w M x g.on4 (x.sto a 4 e5) (m.res { m.r with cyc := wrap64 (m.r.cyc + c) }) _) := ⟨v1, H3.out.1.rset i7 c7, Chg.trans H3.out.2 c7 (fun i _ e => .inl e), HL.out⟩
  clear i7 c7 H3 HL
  go_region
  go_wp2_with fail
  go_end0
  have hq := HQ.out
  subst hq
  exact ⟨rfl, HE.out.drew⟩
end Go.Proofs.YtghiffpolacmiabGreatDoor
namespace Go.Proofs.YtghiffpolacmiabGreatDoor
open Go.ChangeShapes Go.WideShapes Go.ChangeAt Go.RowKit
set_option linter.unusedVariables false

theorem Mi.res_G (m : Mi) (r : Rs) : (m.res r).G = m.G := rfl
theorem Mi.res_bb (m : Mi) (r : Rs) : (m.res r).bb = m.bb := rfl
set_option maxRecDepth 100000 in
set_option maxHeartbeats 4000000 in
theorem rest_hcall (w : World) (M : Nat) (g : Rg) (x : Bd) (m : Mi) (h : Ro w M g x m) (hop : m.op = 39)  :
    Calls Tryz.prog 22 #[.pointer (some ⟨M, 0, none⟩)] w (Rz w M x (g.on4) x (m.res { m.r with kind := 2, num := m.n % 4294967296 })) := by
  have c0 := h.mi.cell 0 _ rfl
  have c2 := h.mi.cell 2 _ rfl
  have c6 := h.mi.cell 6 _ rfl
  have p16 := h.r.cell 16 _ rfl
  have p18 := h.r.cell 18 _ rfl
  have p20 := h.r.cell 20 _ rfl
  rw [hop] at c2
  have d0 := h.mi.cell 7 _ rfl
  have f0 := h.mi.fr 7
  obtain ⟨R0, C0⟩ := h.mset 7 (.int .i64 2) (m.res { m.r with kind := 2 }) rfl rfl rfl
  have d1 := R0.mi.cell 9 _ rfl
  have f1 := R0.mi.fr 9
  obtain ⟨R1, C1⟩ := R0.mset 9 (.int .u32 (m.n % 4294967296)) (m.res { m.r with kind := 2, num := m.n % 4294967296 }) rfl rfl rfl
  have d2 := R1.r.cell 16 _ rfl
  have f2 := R1.r.fr 16
  obtain ⟨i2, C2⟩ := R1.r.set 16 (.int .u32 ((g.pc + 4) % 4294967296)) (g.on4) rfl
  have R2 := R1.rset i2 C2
  have ne1 : ¬ M = m.G := h.ne
  have ne2 : ¬ m.G = M := fun e => h.ne e.symm
  have HE : Hid (Rv w M x (g.on4) x (m.res { m.r with kind := 2, num := m.n % 4294967296 }) _) := ⟨x.lv, R2, (Chg.trans (Chg.trans (Chg.trans (Chg.refl _ _) C0 (fun i _ e => .inr (.inl e))) C1 (fun i _ e => .inr (.inl e))) C2 (fun i _ e => .inl e)), .inl rfl⟩
  clear h R0 C0 R1 C1 R2 C2 i2
  try simp only [Mi.res_G] at d0 f0 d1 f1 d2 f2 HE
  have HO : Hid (m.op = m.op) := rfl
  clear hop
  go_enter Tryz.func22, Tryz.ntmps22
  go_wp2_with fail
  go_end0
  exact ⟨rfl, HE.out⟩
set_option maxRecDepth 100000 in
set_option maxHeartbeats 4000000 in
theorem rest_wait (w : World) (M : Nat) (g : Rg) (x : Bd) (m : Mi) (h : Ro w M g x m) (hop : m.op = 41)  :
    Calls Tryz.prog 22 #[.pointer (some ⟨M, 0, none⟩)] w (Rz w M x (g.on4) x (m.res { m.r with kind := 5 })) := by
  have c0 := h.mi.cell 0 _ rfl
  have c2 := h.mi.cell 2 _ rfl
  have c6 := h.mi.cell 6 _ rfl
  have p16 := h.r.cell 16 _ rfl
  have p18 := h.r.cell 18 _ rfl
  have p20 := h.r.cell 20 _ rfl
  rw [hop] at c2
  have d0 := h.mi.cell 7 _ rfl
  have f0 := h.mi.fr 7
  obtain ⟨R0, C0⟩ := h.mset 7 (.int .i64 5) (m.res { m.r with kind := 5 }) rfl rfl rfl
  have d1 := R0.r.cell 16 _ rfl
  have f1 := R0.r.fr 16
  obtain ⟨i1, C1⟩ := R0.r.set 16 (.int .u32 ((g.pc + 4) % 4294967296)) (g.on4) rfl
  have R1 := R0.rset i1 C1
  have ne1 : ¬ M = m.G := h.ne
  have ne2 : ¬ m.G = M := fun e => h.ne e.symm
  have HE : Hid (Rv w M x (g.on4) x (m.res { m.r with kind := 5 }) _) := ⟨x.lv, R1, (Chg.trans (Chg.trans (Chg.refl _ _) C0 (fun i _ e => .inr (.inl e))) C1 (fun i _ e => .inl e)), .inl rfl⟩
  clear h R0 C0 R1 C1 i1
  try simp only [Mi.res_G] at d0 f0 d1 f1 HE
  have HO : Hid (m.op = m.op) := rfl
  clear hop
  go_enter Tryz.func22, Tryz.ntmps22
  go_wp2_with fail
  go_end0
  exact ⟨rfl, HE.out⟩
set_option maxRecDepth 100000 in
set_option maxHeartbeats 4000000 in
theorem rest_ion (w : World) (M : Nat) (g : Rg) (x : Bd) (m : Mi) (h : Ro w M g x m) (hop : m.op = 42)  :
    Calls Tryz.prog 22 #[.pointer (some ⟨M, 0, none⟩)] w (Rz w M x (({ g with on := true } : Rg).on4) x m) := by
  have c0 := h.mi.cell 0 _ rfl
  have c2 := h.mi.cell 2 _ rfl
  have c6 := h.mi.cell 6 _ rfl
  have p16 := h.r.cell 16 _ rfl
  have p18 := h.r.cell 18 _ rfl
  have p20 := h.r.cell 20 _ rfl
  rw [hop] at c2
  have d0 := h.r.cell 19 _ rfl
  have f0 := h.r.fr 19
  obtain ⟨i0, C0⟩ := h.r.set 19 (.bool true) ({ g with on := true }) rfl
  have R0 := h.rset i0 C0
  have d1 := R0.r.cell 16 _ rfl
  have f1 := R0.r.fr 16
  obtain ⟨i1, C1⟩ := R0.r.set 16 (.int .u32 ((g.pc + 4) % 4294967296)) (({ g with on := true } : Rg).on4) rfl
  have R1 := R0.rset i1 C1
  have ne1 : ¬ M = m.G := h.ne
  have ne2 : ¬ m.G = M := fun e => h.ne e.symm
  have HE : Hid (Rv w M x (({ g with on := true } : Rg).on4) x m _) := ⟨x.lv, R1, (Chg.trans (Chg.trans (Chg.refl _ _) C0 (fun i _ e => .inl e)) C1 (fun i _ e => .inl e)), .inl rfl⟩
  clear h R0 C0 R1 C1 i0 i1

  have HO : Hid (m.op = m.op) := rfl
  clear hop
  go_enter Tryz.func22, Tryz.ntmps22
  go_wp2_with fail
  go_end0
  exact ⟨rfl, HE.out⟩
set_option maxRecDepth 100000 in
set_option maxHeartbeats 4000000 in
theorem rest_ioff (w : World) (M : Nat) (g : Rg) (x : Bd) (m : Mi) (h : Ro w M g x m) (hop : m.op = 43)  :
    Calls Tryz.prog 22 #[.pointer (some ⟨M, 0, none⟩)] w (Rz w M x (({ g with on := false } : Rg).on4) x m) := by
  have c0 := h.mi.cell 0 _ rfl
  have c2 := h.mi.cell 2 _ rfl
  have c6 := h.mi.cell 6 _ rfl
  have p16 := h.r.cell 16 _ rfl
  have p18 := h.r.cell 18 _ rfl
  have p20 := h.r.cell 20 _ rfl
  rw [hop] at c2
  have d0 := h.r.cell 19 _ rfl
  have f0 := h.r.fr 19
  obtain ⟨i0, C0⟩ := h.r.set 19 (.bool false) ({ g with on := false }) rfl
  have R0 := h.rset i0 C0
  have d1 := R0.r.cell 16 _ rfl
  have f1 := R0.r.fr 16
  obtain ⟨i1, C1⟩ := R0.r.set 16 (.int .u32 ((g.pc + 4) % 4294967296)) (({ g with on := false } : Rg).on4) rfl
  have R1 := R0.rset i1 C1
  have ne1 : ¬ M = m.G := h.ne
  have ne2 : ¬ m.G = M := fun e => h.ne e.symm
  have HE : Hid (Rv w M x (({ g with on := false } : Rg).on4) x m _) := ⟨x.lv, R1, (Chg.trans (Chg.trans (Chg.refl _ _) C0 (fun i _ e => .inl e)) C1 (fun i _ e => .inl e)), .inl rfl⟩
  clear h R0 C0 R1 C1 i0 i1

  have HO : Hid (m.op = m.op) := rfl
  clear hop
  go_enter Tryz.func22, Tryz.ntmps22
  go_wp2_with fail
  go_end0
  exact ⟨rfl, HE.out⟩
set_option maxRecDepth 100000 in
set_option maxHeartbeats 4000000 in
theorem rest_nop (w : World) (M : Nat) (g : Rg) (x : Bd) (m : Mi) (h : Ro w M g x m) (hop : m.op = 47)  :
    Calls Tryz.prog 22 #[.pointer (some ⟨M, 0, none⟩)] w (Rz w M x (g.on4) x m) := by
  have c0 := h.mi.cell 0 _ rfl
  have c2 := h.mi.cell 2 _ rfl
  have c6 := h.mi.cell 6 _ rfl
  have p16 := h.r.cell 16 _ rfl
  have p18 := h.r.cell 18 _ rfl
  have p20 := h.r.cell 20 _ rfl
  rw [hop] at c2
  have d0 := h.r.cell 16 _ rfl
  have f0 := h.r.fr 16
  obtain ⟨i0, C0⟩ := h.r.set 16 (.int .u32 ((g.pc + 4) % 4294967296)) (g.on4) rfl
  have R0 := h.rset i0 C0
  have ne1 : ¬ M = m.G := h.ne
  have ne2 : ¬ m.G = M := fun e => h.ne e.symm
  have HE : Hid (Rv w M x (g.on4) x m _) := ⟨x.lv, R0, (Chg.trans (Chg.refl _ _) C0 (fun i _ e => .inl e)), .inl rfl⟩
  clear h R0 C0 i0
  try simp only [Mi.res_G] at d0 f0 HE
  have HO : Hid (m.op = m.op) := rfl
  clear hop
  go_enter Tryz.func22, Tryz.ntmps22
  go_wp2_with fail
  go_end0
  exact ⟨rfl, HE.out⟩
set_option maxRecDepth 100000 in
set_option maxHeartbeats 4000000 in
theorem rest_halt (w : World) (M : Nat) (g : Rg) (x : Bd) (m : Mi) (h : Ro w M g x m) (hop : m.op = 46)  :
    Calls Tryz.prog 22 #[.pointer (some ⟨M, 0, none⟩)] w (Rz w M x (g) x (m.res { m.r with kind := 4 })) := by
  have c0 := h.mi.cell 0 _ rfl
  have c2 := h.mi.cell 2 _ rfl
  have c6 := h.mi.cell 6 _ rfl
  have p16 := h.r.cell 16 _ rfl
  have p18 := h.r.cell 18 _ rfl
  have p20 := h.r.cell 20 _ rfl
  rw [hop] at c2
  have d0 := h.mi.cell 7 _ rfl
  have f0 := h.mi.fr 7
  obtain ⟨R0, C0⟩ := h.mset 7 (.int .i64 4) (m.res { m.r with kind := 4 }) rfl rfl rfl
  have ne1 : ¬ M = m.G := h.ne
  have ne2 : ¬ m.G = M := fun e => h.ne e.symm
  have HE : Hid (Rv w M x (g) x (m.res { m.r with kind := 4 }) _) := ⟨x.lv, R0, (Chg.trans (Chg.refl _ _) C0 (fun i _ e => .inr (.inl e))), .inl rfl⟩
  clear h R0 C0 

  have HO : Hid (m.op = m.op) := rfl
  clear hop
  go_enter Tryz.func22, Tryz.ntmps22
  go_wp2_with fail
  refine bodyPost_ret (results_none rfl _ _ _) rfl ?_
  exact ⟨rfl, HE.out⟩
set_option maxRecDepth 100000 in
set_option maxHeartbeats 4000000 in
theorem rest_back (w : World) (M : Nat) (g : Rg) (x : Bd) (m : Mi) (h : Ro w M g x m) (hop : m.op = 44) (hh : g.hd = true) :
    Calls Tryz.prog 22 #[.pointer (some ⟨M, 0, none⟩)] w (Rz w M x ({ g with hd := false, pc := g.back }) x m) := by
  have c0 := h.mi.cell 0 _ rfl
  have c2 := h.mi.cell 2 _ rfl
  have c6 := h.mi.cell 6 _ rfl
  have p16 := h.r.cell 16 _ rfl
  have p18 := h.r.cell 18 _ rfl
  have p20 := h.r.cell 20 _ rfl
  rw [hop] at c2
  rw [hh] at p20
  have d0 := h.r.cell 20 _ rfl
  have f0 := h.r.fr 20
  obtain ⟨i0, C0⟩ := h.r.set 20 (.bool false) ({ g with hd := false }) rfl
  have R0 := h.rset i0 C0
  have d1 := R0.r.cell 16 _ rfl
  have f1 := R0.r.fr 16
  obtain ⟨i1, C1⟩ := R0.r.set 16 (.int .u32 g.back) ({ g with hd := false, pc := g.back }) rfl
  have R1 := R0.rset i1 C1
  have ne1 : ¬ M = m.G := h.ne
  have ne2 : ¬ m.G = M := fun e => h.ne e.symm
  have HE : Hid (Rv w M x ({ g with hd := false, pc := g.back }) x m _) := ⟨x.lv, R1, (Chg.trans (Chg.trans (Chg.refl _ _) C0 (fun i _ e => .inl e)) C1 (fun i _ e => .inl e)), .inl rfl⟩
  clear h R0 C0 R1 C1 i0 i1

  have HO : Hid (m.op = m.op) := rfl
  clear hop
  go_enter Tryz.func22, Tryz.ntmps22
  go_wp2_with fail
  go_end0
  exact ⟨rfl, HE.out⟩
set_option maxRecDepth 100000 in
set_option maxHeartbeats 4000000 in
theorem rest_noback (w : World) (M : Nat) (g : Rg) (x : Bd) (m : Mi) (h : Ro w M g x m) (hop : m.op = 44) (hh : g.hd = false) :
    Calls Tryz.prog 22 #[.pointer (some ⟨M, 0, none⟩)] w (Rz w M x (g) x (m.res { m.r with kind := 3, flt := 6, addr := g.pc })) := by
  have c0 := h.mi.cell 0 _ rfl
  have c2 := h.mi.cell 2 _ rfl
  have c6 := h.mi.cell 6 _ rfl
  have p16 := h.r.cell 16 _ rfl
  have p18 := h.r.cell 18 _ rfl
  have p20 := h.r.cell 20 _ rfl
  rw [hop] at c2
  rw [hh] at p20
  have d0 := h.mi.cell 7 _ rfl
  have f0 := h.mi.fr 7
  obtain ⟨R0, C0⟩ := h.mset 7 (.int .i64 3) (m.res { m.r with kind := 3 }) rfl rfl rfl
  have d1 := R0.mi.cell 10 _ rfl
  have f1 := R0.mi.fr 10
  obtain ⟨R1, C1⟩ := R0.mset 10 (.int .i64 6) (m.res { m.r with kind := 3, flt := 6 }) rfl rfl rfl
  have d2 := R1.mi.cell 11 _ rfl
  have f2 := R1.mi.fr 11
  obtain ⟨R2, C2⟩ := R1.mset 11 (.int .u32 g.pc) (m.res { m.r with kind := 3, flt := 6, addr := g.pc }) rfl rfl rfl
  have ne1 : ¬ M = m.G := h.ne
  have ne2 : ¬ m.G = M := fun e => h.ne e.symm
  have HE : Hid (Rv w M x (g) x (m.res { m.r with kind := 3, flt := 6, addr := g.pc }) _) := ⟨x.lv, R2, (Chg.trans (Chg.trans (Chg.trans (Chg.refl _ _) C0 (fun i _ e => .inr (.inl e))) C1 (fun i _ e => .inr (.inl e))) C2 (fun i _ e => .inr (.inl e))), .inl rfl⟩
  clear h R0 C0 R1 C1 R2 C2 

  have HO : Hid (m.op = m.op) := rfl
  clear hop
  go_enter Tryz.func22, Tryz.ntmps22
  go_wp2_with fail
  refine bodyPost_ret (results_none rfl _ _ _) rfl ?_
  exact ⟨rfl, HE.out⟩
end Go.Proofs.YtghiffpolacmiabGreatDoor
namespace Go.Proofs.YtghiffpolacmiabGreatDoor
open Go.ChangeShapes Go.WideShapes Go.ChangeAt Go.RowKit
set_option linter.unusedVariables false

def Rg.pcTo (g : Rg) (t : Int) : Rg := { g with pc := t }
theorem Rg.on4_eq (g : Rg) : g.on4 = g.pcTo ((g.pc + 4) % 4294967296) := rfl
theorem rgc_dset16 (g : Rg) (X : Nat) (v t : Int) : (rgc (g.dset X v)).set 16 (.int .u32 t) = rgc ((g.dset X v).pcTo t) := by unfold Rg.dset; split <;> rfl
theorem dset_pc (g : Rg) (X : Nat) (v : Int) : (g.dset X v).pc = g.pc := by unfold Rg.dset; split <;> rfl
/-- The last of a step: its place is written. -/
theorem Ro.pcs {w w1 : World} {M : Nat} {g : Rg} {x y : Bd} {m mm : Mi} (v' : Value) (h : Ro w1 M g (y.lvTo v') mm) (hc : Chg w w1 (fun k => k = mm.G ∨ k = M ∨ x.own mm.bb k)) (hL : v'.ownBlock = x.lv.ownBlock ∨ ∃ k, v'.ownBlock = some k ∧ w.heap.size ≤ k) (t : Int) (ht : (rgc g).set 16 (.int .u32 t) = rgc (g.pcTo t)) :
    Rv w M x (g.pcTo t) y mm (w1.setCell ⟨mm.G, 16, none⟩ (.int .u32 t)) := by
  obtain ⟨i7, c7⟩ := h.r.set 16 (.int .u32 t) (g.pcTo t) ht
  exact ⟨v', h.rset i7 c7, Chg.trans hc c7 (fun i _ e => .inl e), hL⟩

set_option maxRecDepth 100000 in
set_option maxHeartbeats 4000000 in
theorem rest_vec (w : World) (M : Nat) (g : Rg) (x : Bd) (m : Mi) (h : Ro w M g x m) (hop : m.op = 45) (X : Nat) (hX : m.x = X) (hX16 : X < 16) :
    Calls Tryz.prog 22 #[.pointer (some ⟨M, 0, none⟩)] w (Rz w M x ({ g with vec := g.R X }.pcTo ((g.pc + 4) % 4294967296)) x m) := by
  have c0 := h.mi.cell 0 _ rfl
  have c2 := h.mi.cell 2 _ rfl
  have c3 := h.mi.cell 3 _ rfl
  have p16 := h.r.cell 16 _ rfl
  have p17 := h.r.cell 17 _ rfl
  have q17 := h.r.fr 17
  have cX := h.r.cell X _ (rgc_R g X hX16)
  rw [hop] at c2
  rw [hX] at c3
  have hXz : (X : Int) < 16 := by omega
  obtain ⟨i0, C0⟩ := h.r.set 17 (.int .u32 (g.R X)) { g with vec := g.R X } rfl
  have R0 := h.rset i0 C0
  have HE : Hid (Rv w M x ({ g with vec := g.R X }.pcTo ((g.pc + 4) % 4294967296)) x m (((w.setCell ⟨m.G, 17, none⟩ (.int .u32 (g.R X))).drew).setCell ⟨m.G, 16, none⟩ (.int .u32 ((g.pc + 4) % 4294967296)))) :=
    Ro.pcs (m := m) x.lv (R0.kp ((Kp.refl _).drew)) ((Chg.mono C0 (fun i _ e => .inl e)).drew) (.inl rfl) _ rfl
  have q16 := h.r.fr 16
  clear h hop hX i0 C0 R0
  generalize g.R X = gx at *
  go_enter Tryz.func22, Tryz.ntmps22
  go_upto_region 31 with (fail)
  go_region
  go_wp2_with fail
  go_end0
  exact ⟨rfl, HE.out⟩

set_option maxRecDepth 100000 in
set_option maxHeartbeats 4000000 in
theorem rest_jal (w : World) (M : Nat) (g : Rg) (x : Bd) (m : Mi) (h : Ro w M g x m) (hop : m.op = 37) (X : Nat) (hX : m.x = X) (hX16 : X < 16) (t : Int) (ht : (g.pc + 4 * (m.n % 4294967296)) % 4294967296 = t) :
    Calls Tryz.prog 22 #[.pointer (some ⟨M, 0, none⟩)] w (Rz w M x ((g.dset X ((g.pc + 4) % 4294967296)).pcTo t) x m) := by
  have c0 := h.mi.cell 0 _ rfl
  have c2 := h.mi.cell 2 _ rfl
  have c3 := h.mi.cell 3 _ rfl
  have p16 := h.r.cell 16 _ rfl
  rw [hop] at c2
  rw [hX] at c3
  have hXz : (X : Int) < 16 := by omega
  have hS := rset_any w M g m h.mi h.r X hX16 ((g.pc + 4) % 4294967296)
  have HR : Hid (Ro w M g x m) := h
  clear h hop hX
  go_enter Tryz.func22, Tryz.ntmps22
  go_upto_region 5 with (go_at_call 16; refine hS.mono ?_; rintro e w1 ⟨rfl, r1, k1⟩)
  have R1 := HR.out.rset r1 k1
  have d0 := R1.mi.cell 0 _ rfl
  have d6 := R1.mi.cell 6 _ rfl
  have d16 : w1.cell? ⟨m.G, 16, none⟩ = some (.int .u32 g.pc) := by rw [R1.r.cell 16 (.int .u32 (g.dset X ((g.pc + 4) % 4294967296)).pc) (by rfl), dset_pc]
  have e16 := R1.r.fr 16
  have HE : Hid (∀ n, Rv w M x ((g.dset X ((g.pc + 4) % 4294967296)).pcTo t) x m ((w1.drewN n).setCell ⟨m.G, 16, none⟩ (.int .u32 t))) := fun n =>
    Ro.pcs (m := m) x.lv (R1.kp ((Kp.refl _).drewN n)) ((Chg.mono k1 (fun i _ e => .inl e)).drewN n) (.inl rfl) _ (rgc_dset16 _ _ _ _)
  clear R1 r1 k1 hS HR c0 c2 c3 p16
  go_quiet (fail)
  go_upto_region 34 with (fail)
  go_wp2_with fail
  go_end0
  exact ⟨rfl, HE.out _⟩
set_option maxRecDepth 100000 in
set_option maxHeartbeats 4000000 in
theorem rest_jalr (w : World) (M : Nat) (g : Rg) (x : Bd) (m : Mi) (h : Ro w M g x m) (hop : m.op = 38) (X Y : Nat) (hX : m.x = X) (hX16 : X < 16) (hY : m.y = Y) (hY16 : Y < 16) (t : Int) (ht : (g.R Y + m.n % 4294967296) % 4294967296 = t) :
    Calls Tryz.prog 22 #[.pointer (some ⟨M, 0, none⟩)] w (Rz w M x ((g.dset X ((g.pc + 4) % 4294967296)).pcTo t) x m) := by
  have c0 := h.mi.cell 0 _ rfl
  have c2 := h.mi.cell 2 _ rfl
  have c3 := h.mi.cell 3 _ rfl
  have c4 := h.mi.cell 4 _ rfl
  have c6 := h.mi.cell 6 _ rfl
  have p16 := h.r.cell 16 _ rfl
  have cY := h.r.cell Y _ (rgc_R g Y hY16)
  rw [hop] at c2
  rw [hX] at c3
  rw [hY] at c4
  have hXz : (X : Int) < 16 := by omega
  have hYz : (Y : Int) < 16 := by omega
  have hS := fun n => rset_any (w.drewN n) M g m (h.kp ((Kp.refl _).drewN n)).mi (h.kp ((Kp.refl _).drewN n)).r X hX16 ((g.pc + 4) % 4294967296)
  have HR : Hid (∀ n, Ro (w.drewN n) M g x m) := fun n => h.kp ((Kp.refl _).drewN n)
  clear h hop hX hY
  generalize g.R Y = gy at *
  go_enter Tryz.func22, Tryz.ntmps22
  go_upto_region 7 with (fail)
  go_quiet (fail)
  go_upto_region 9 with (go_at_call 16; refine (hS _).mono ?_; rintro e w1 ⟨rfl, r1, k1⟩)
  have R1 := (HR.out _).rset r1 k1
  have d0 := R1.mi.cell 0 _ rfl
  have d16 := R1.r.cell 16 (.int .u32 (g.dset X ((g.pc + 4) % 4294967296)).pc) (by rfl)
  have e16 := R1.r.fr 16
  have HE : Hid (Rv w M x ((g.dset X ((g.pc + 4) % 4294967296)).pcTo t) x m (w1.setCell ⟨m.G, 16, none⟩ (.int .u32 t))) := 
    Ro.pcs (m := m) x.lv R1 (Chg.trans (Kp.any ((Kp.refl _).drewN _)) k1 (fun i _ e => .inl e)) (.inl rfl) _ (rgc_dset16 _ _ _ _)
  clear R1 r1 k1 hS HR c0 c2 c3 p16
  go_upto_region 34 with (fail)
  go_wp2_with fail
  go_end0
  exact ⟨rfl, HE.out⟩

end Go.Proofs.YtghiffpolacmiabGreatDoor
namespace Go.Proofs.YtghiffpolacmiabGreatDoor
open Go.ChangeShapes Go.WideShapes Go.ChangeAt Go.RowKit
set_option linter.unusedVariables false

def ops22_16 : Array Oper := #[{ dst := some 100, op := Op.move (Operand.tmp 0), type := 60, pos := "ref.go:327", after := #[], guard := none },
  { dst := some 101, op := Op.move (Operand.tmp 0), type := 60, pos := "ref.go:327", after := #[], guard := none },
  { dst := some 102, op := Op.nilCheck (Operand.tmp 101), type := 0, pos := "ref.go:327", after := #[{ on := 1, ground := Ground.data }], guard := none },
  { dst := some 103, op := Op.fieldAddr 65 (Operand.tmp 102) 2, type := 0, pos := "ref.go:327", after := #[{ on := 2, ground := Ground.data }], guard := none },
  { dst := some 104, op := Op.fieldAddr 62 (Operand.tmp 103) 1, type := 0, pos := "ref.go:327", after := #[{ on := 3, ground := Ground.data }], guard := none },
  { dst := some 105, op := Op.load 3 (Operand.tmp 104), type := 3, pos := "ref.go:327", after := #[{ on := 4, ground := Ground.data }], guard := none },
  { dst := some 106, op := Op.move (Operand.tmp 0), type := 60, pos := "ref.go:327", after := #[], guard := none },
  { dst := some 107, op := Op.nilCheck (Operand.tmp 106), type := 0, pos := "ref.go:327", after := #[{ on := 6, ground := Ground.data }], guard := none },
  { dst := some 108, op := Op.fieldAddr 65 (Operand.tmp 107) 3, type := 0, pos := "ref.go:327", after := #[{ on := 7, ground := Ground.data }], guard := none },
  { dst := some 109, op := Op.fieldAddr 40 (Operand.tmp 108) 9, type := 0, pos := "ref.go:327", after := #[{ on := 8, ground := Ground.data }], guard := none },
  { dst := some 110, op := Op.load 29 (Operand.tmp 109), type := 29, pos := "ref.go:327", after := #[{ on := 9, ground := Ground.data }], guard := none },
  { dst := some 111, op := Op.binOp BinOp.rem 29 (Operand.tmp 110) (Operand.const (Value.int IntKind.u64 4294967296)) 29, type := 29, pos := "ref.go:327", after := #[{ on := 10, ground := Ground.data }], guard := none },
  { dst := some 112, op := Op.convert 29 22 (Operand.tmp 111), type := 22, pos := "ref.go:327", after := #[{ on := 11, ground := Ground.data }], guard := none },
  { dst := some 113, op := Op.call { callee := Callee.value (Operand.func 16), args := #[Operand.tmp 100, Operand.tmp 105, Operand.tmp 112], argTypes := #[60, 3, 22] }, type := 0, pos := "ref.go:327", after := #[{ on := 0, ground := Ground.data }, { on := 5, ground := Ground.data }, { on := 12, ground := Ground.data }], guard := none }]
set_option maxHeartbeats 4000000 in
set_option maxRecDepth 100000 in
theorem reg22_16 (W : World) (M X : Nat) (T t : Int) (h3 : W.cell? ⟨M, 3, none⟩ = some (.int .i64 (X : Nat))) (h16 : W.cell? ⟨M, 16, none⟩ = some (.int .u64 T)) (ht : T.tmod 4294967296 = t) (ht1 : T % 4294967296 = t) (bt : 0 ≤ t ∧ t < 4294967296) (bT : 0 ≤ T ∧ T < 18446744073709551616)
    (Rl : World → World → Prop) (hd : ∀ V, Kp W V → Calls Tryz.prog 16 #[.pointer (some ⟨M, 0, none⟩), .int .i64 (X : Nat), .int .u32 t] V fun e w' => e = .returned (.tuple #[]) ∧ Rl V w') (hR : ∀ V w', Kp W V → Rl V w' → (fun w' => w'.cell? ⟨M, 3, none⟩ = some (.int .i64 (X : Nat)) ∧ w'.cell? ⟨M, 16, none⟩ = some (.int .u64 T)) w')
    (Q : Exit → Act → World → Prop) (hPan : ∀ c (a : Act) w (d : Option Tmp) v, Q (.panic c) (a.put d v) w → Q (.panic c) a w) {u1 u2 u3 u4 u5 u6 u7 u8 u9 u10 u11 u12 u13 u14 u15 u16 u17 u18 u19 u20 u21 u22 u23 u24 u25 u26 u27 u28 u29 u30 u31 u32 u33 u34 u35 u36 u37 u38 u39 u40 u41 u42 u43 u44 u45 u46 u47 u48 u49 u50 u51 u52 u53 u54 u55 u56 u57 u58 u59 u60 u61 u62 u63 u64 u65 u66 u67 u68 u69 u70 u71 u72 u73 u74 u75 u76 u77 u78 u79 u80 u81 u82 u83 u84 u85 u86 u87 u88 u89 u90 u91 u92 u93 u94 u95 u96 u97 u98 u99 u100 u101 u102 u103 u104 u105 u106 u107 u108 u109 u110 u111 u112 u113 u114 u115 u116 u117 u118 u119 u120 u121 u122 u123 u124 u125 u126 u127 u128 u129 u130 u131 u132 u133 u134 u135 u136 u137 u138 u139 u140 u141 u142 u143 u144 u145 u146 u147 u148 u149 u150 u151 u152 u153 u154 u155 u156 u157 u158 u159 u160 u161 u162 u163 u164 u165 u166 u167 u168 u169 u170 u171 u172 u173 u174 u175 u176 u177 u178 u179 u180 u181 u182 u183 u184 : Value}
    (hQ : ∀ V w', Kp W V → Rl V w' → Q .normal ⟨#[.pointer (some ⟨M, 0, none⟩), u1, u2, u3, u4, u5, u6, u7, u8, u9, u10, u11, u12, u13, u14, u15, u16, u17, u18, u19, u20, u21, u22, u23, u24, u25, u26, u27, u28, u29, u30, u31, u32, u33, u34, u35, u36, u37, u38, u39, u40, u41, u42, u43, u44, u45, u46, u47, u48, u49, u50, u51, u52, u53, u54, u55, u56, u57, u58, u59, u60, u61, u62, u63, u64, u65, u66, u67, u68, u69, u70, u71, u72, u73, u74, u75, u76, u77, u78, u79, u80, u81, u82, u83, u84, u85, u86, u87, u88, u89, u90, u91, u92, u93, u94, u95, u96, u97, u98, u99, .pointer (some ⟨M, 0, none⟩), .pointer (some ⟨M, 0, none⟩), .pointer (some ⟨M, 0, none⟩), .pointer (some ⟨M, 2, none⟩), .pointer (some ⟨M, 3, none⟩), .int .i64 (X : Nat), .pointer (some ⟨M, 0, none⟩), .pointer (some ⟨M, 0, none⟩), .pointer (some ⟨M, 7, none⟩), .pointer (some ⟨M, 16, none⟩), .int .u64 T, .int .u64 t, .int .u32 t, .tuple #[], u114, u115, u116, u117, u118, u119, u120, u121, u122, u123, u124, u125, u126, u127, u128, u129, u130, u131, u132, u133, u134, u135, u136, u137, u138, u139, u140, u141, u142, u143, u144, u145, u146, u147, u148, u149, u150, u151, u152, u153, u154, u155, u156, u157, u158, u159, u160, u161, u162, u163, u164, u165, u166, u167, u168, u169, u170, u171, u172, u173, u174, u175, u176, u177, u178, u179, u180, u181, u182, u183, u184], []⟩ w') :
    Code.wp Tryz.prog (Code.region 16 ops22_16 true) Q ⟨#[.pointer (some ⟨M, 0, none⟩), u1, u2, u3, u4, u5, u6, u7, u8, u9, u10, u11, u12, u13, u14, u15, u16, u17, u18, u19, u20, u21, u22, u23, u24, u25, u26, u27, u28, u29, u30, u31, u32, u33, u34, u35, u36, u37, u38, u39, u40, u41, u42, u43, u44, u45, u46, u47, u48, u49, u50, u51, u52, u53, u54, u55, u56, u57, u58, u59, u60, u61, u62, u63, u64, u65, u66, u67, u68, u69, u70, u71, u72, u73, u74, u75, u76, u77, u78, u79, u80, u81, u82, u83, u84, u85, u86, u87, u88, u89, u90, u91, u92, u93, u94, u95, u96, u97, u98, u99, u100, u101, u102, u103, u104, u105, u106, u107, u108, u109, u110, u111, u112, u113, u114, u115, u116, u117, u118, u119, u120, u121, u122, u123, u124, u125, u126, u127, u128, u129, u130, u131, u132, u133, u134, u135, u136, u137, u138, u139, u140, u141, u142, u143, u144, u145, u146, u147, u148, u149, u150, u151, u152, u153, u154, u155, u156, u157, u158, u159, u160, u161, u162, u163, u164, u165, u166, u167, u168, u169, u170, u171, u172, u173, u174, u175, u176, u177, u178, u179, u180, u181, u182, u183, u184], []⟩ W := by
  have bt2 : t % 4294967296 = t := by omega
  have bw : IntKind.u32.wrap t = t := by simp [IntKind.wrap, IntKind.bits, IntKind.signed]; omega
  have HSK : ∀ V, Kp W V → (fun w' => w'.cell? ⟨M, 3, none⟩ = some (.int .i64 (X : Nat)) ∧ w'.cell? ⟨M, 16, none⟩ = some (.int .u64 T)) V := fun V k => ⟨Kp.cell k h3, Kp.cell k h16⟩
  have k0 : Kp W W.drew := (Chg.refl _ _).drew
  refine wp_region_held_drew (S := fun w' => w'.cell? ⟨M, 3, none⟩ = some (.int .i64 (X : Nat)) ∧ w'.cell? ⟨M, 16, none⟩ = some (.int .u64 T)) hmx (HSK _ k0) (fun HSX => ?_)
  obtain ⟨W0, hW0⟩ : ∃ W0, W0 = W.drew := ⟨_, rfl⟩
  rw [← hW0] at HSX k0 ⊢
  clear hW0
  refine wpAnyH_take (i := 0) (oi := { dst := some 100, op := Op.move (Operand.tmp 0), type := 60, pos := "ref.go:327", after := #[], guard := none }) (v := .pointer (some ⟨M, 0, none⟩)) rfl (by kernel_rfl) (by kernel_rfl) (by kernel_rfl) (fun _ _ _ h => hPan _ _ _ _ _ h) (Or.inl ⟨by rfl, ?_⟩) HSX ?_
  · intro wx d0
    go_simp
  simp only [Act.put, List.setIfInBounds_toArray, List.set_cons_zero, List.set_cons_succ]
  refine wpAnyH_take (i := 1) (oi := { dst := some 101, op := Op.move (Operand.tmp 0), type := 60, pos := "ref.go:327", after := #[], guard := none }) (v := .pointer (some ⟨M, 0, none⟩)) rfl (by kernel_rfl) (by kernel_rfl) (by kernel_rfl) (fun _ _ _ h => hPan _ _ _ _ _ h) (Or.inl ⟨by rfl, ?_⟩) HSX ?_
  · intro wx d0
    go_simp
  simp only [Act.put, List.setIfInBounds_toArray, List.set_cons_zero, List.set_cons_succ]
  refine wpAnyH_take (i := 2) (oi := { dst := some 102, op := Op.nilCheck (Operand.tmp 101), type := 0, pos := "ref.go:327", after := #[{ on := 1, ground := Ground.data }], guard := none }) (v := .pointer (some ⟨M, 0, none⟩)) rfl (by kernel_rfl) (by kernel_rfl) (by kernel_rfl) (fun _ _ _ h => hPan _ _ _ _ _ h) (Or.inl ⟨by rfl, ?_⟩) HSX ?_
  · intro wx d0
    go_simp
  simp only [Act.put, List.setIfInBounds_toArray, List.set_cons_zero, List.set_cons_succ]
  refine wpAnyH_take (i := 3) (oi := { dst := some 103, op := Op.fieldAddr 65 (Operand.tmp 102) 2, type := 0, pos := "ref.go:327", after := #[{ on := 2, ground := Ground.data }], guard := none }) (v := .pointer (some ⟨M, 2, none⟩)) rfl (by kernel_rfl) (by kernel_rfl) (by kernel_rfl) (fun _ _ _ h => hPan _ _ _ _ _ h) (Or.inl ⟨by rfl, ?_⟩) HSX ?_
  · intro wx d0
    go_simp
  simp only [Act.put, List.setIfInBounds_toArray, List.set_cons_zero, List.set_cons_succ]
  refine wpAnyH_take (i := 4) (oi := { dst := some 104, op := Op.fieldAddr 62 (Operand.tmp 103) 1, type := 0, pos := "ref.go:327", after := #[{ on := 3, ground := Ground.data }], guard := none }) (v := .pointer (some ⟨M, 3, none⟩)) rfl (by kernel_rfl) (by kernel_rfl) (by kernel_rfl) (fun _ _ _ h => hPan _ _ _ _ _ h) (Or.inl ⟨by rfl, ?_⟩) HSX ?_
  · intro wx d0
    go_simp
  simp only [Act.put, List.setIfInBounds_toArray, List.set_cons_zero, List.set_cons_succ]
  refine wpAnyH_take (i := 5) (oi := { dst := some 105, op := Op.load 3 (Operand.tmp 104), type := 3, pos := "ref.go:327", after := #[{ on := 4, ground := Ground.data }], guard := none }) (v := .int .i64 (X : Nat)) rfl (by kernel_rfl) (by kernel_rfl) (by kernel_rfl) (fun _ _ _ h => hPan _ _ _ _ _ h) (Or.inl ⟨by rfl, ?_⟩) HSX ?_
  · intro wx d0
    obtain ⟨d1, d2⟩ := d0; go_simp
  simp only [Act.put, List.setIfInBounds_toArray, List.set_cons_zero, List.set_cons_succ]
  refine wpAnyH_take (i := 6) (oi := { dst := some 106, op := Op.move (Operand.tmp 0), type := 60, pos := "ref.go:327", after := #[], guard := none }) (v := .pointer (some ⟨M, 0, none⟩)) rfl (by kernel_rfl) (by kernel_rfl) (by kernel_rfl) (fun _ _ _ h => hPan _ _ _ _ _ h) (Or.inl ⟨by rfl, ?_⟩) HSX ?_
  · intro wx d0
    go_simp
  simp only [Act.put, List.setIfInBounds_toArray, List.set_cons_zero, List.set_cons_succ]
  refine wpAnyH_take (i := 7) (oi := { dst := some 107, op := Op.nilCheck (Operand.tmp 106), type := 0, pos := "ref.go:327", after := #[{ on := 6, ground := Ground.data }], guard := none }) (v := .pointer (some ⟨M, 0, none⟩)) rfl (by kernel_rfl) (by kernel_rfl) (by kernel_rfl) (fun _ _ _ h => hPan _ _ _ _ _ h) (Or.inl ⟨by rfl, ?_⟩) HSX ?_
  · intro wx d0
    go_simp
  simp only [Act.put, List.setIfInBounds_toArray, List.set_cons_zero, List.set_cons_succ]
  refine wpAnyH_take (i := 8) (oi := { dst := some 108, op := Op.fieldAddr 65 (Operand.tmp 107) 3, type := 0, pos := "ref.go:327", after := #[{ on := 7, ground := Ground.data }], guard := none }) (v := .pointer (some ⟨M, 7, none⟩)) rfl (by kernel_rfl) (by kernel_rfl) (by kernel_rfl) (fun _ _ _ h => hPan _ _ _ _ _ h) (Or.inl ⟨by rfl, ?_⟩) HSX ?_
  · intro wx d0
    go_simp
  simp only [Act.put, List.setIfInBounds_toArray, List.set_cons_zero, List.set_cons_succ]
  refine wpAnyH_take (i := 9) (oi := { dst := some 109, op := Op.fieldAddr 40 (Operand.tmp 108) 9, type := 0, pos := "ref.go:327", after := #[{ on := 8, ground := Ground.data }], guard := none }) (v := .pointer (some ⟨M, 16, none⟩)) rfl (by kernel_rfl) (by kernel_rfl) (by kernel_rfl) (fun _ _ _ h => hPan _ _ _ _ _ h) (Or.inl ⟨by rfl, ?_⟩) HSX ?_
  · intro wx d0
    go_simp
  simp only [Act.put, List.setIfInBounds_toArray, List.set_cons_zero, List.set_cons_succ]
  refine wpAnyH_take (i := 10) (oi := { dst := some 110, op := Op.load 29 (Operand.tmp 109), type := 29, pos := "ref.go:327", after := #[{ on := 9, ground := Ground.data }], guard := none }) (v := .int .u64 T) rfl (by kernel_rfl) (by kernel_rfl) (by kernel_rfl) (fun _ _ _ h => hPan _ _ _ _ _ h) (Or.inl ⟨by rfl, ?_⟩) HSX ?_
  · intro wx d0
    obtain ⟨d1, d2⟩ := d0; go_simp
  simp only [Act.put, List.setIfInBounds_toArray, List.set_cons_zero, List.set_cons_succ]
  refine wpAnyH_take (i := 11) (oi := { dst := some 111, op := Op.binOp BinOp.rem 29 (Operand.tmp 110) (Operand.const (Value.int IntKind.u64 4294967296)) 29, type := 29, pos := "ref.go:327", after := #[{ on := 10, ground := Ground.data }], guard := none }) (v := .int .u64 t) rfl (by kernel_rfl) (by kernel_rfl) (by kernel_rfl) (fun _ _ _ h => hPan _ _ _ _ _ h) (Or.inl ⟨by rfl, ?_⟩) HSX ?_
  · intro wx d0
    go_simp
  simp only [Act.put, List.setIfInBounds_toArray, List.set_cons_zero, List.set_cons_succ]
  refine wpAnyH_take (i := 12) (oi := { dst := some 112, op := Op.convert 29 22 (Operand.tmp 111), type := 22, pos := "ref.go:327", after := #[{ on := 11, ground := Ground.data }], guard := none }) (v := .int .u32 t) rfl (by kernel_rfl) (by kernel_rfl) (by kernel_rfl) (fun _ _ _ h => hPan _ _ _ _ _ h) (Or.inl ⟨by rfl, ?_⟩) HSX ?_
  · intro wx d0
    go_simp
  simp only [Act.put, List.setIfInBounds_toArray, List.set_cons_zero, List.set_cons_succ]
  refine wpAnyH_ready (rs := [13]) (by kernel_rfl) (by simp) ?_
  refine AllReadyH.cons (o := { dst := some 113, op := Op.call { callee := Callee.value (Operand.func 16), args := #[Operand.tmp 100, Operand.tmp 105, Operand.tmp 112], argTypes := #[60, 3, 22] }, type := 0, pos := "ref.go:327", after := #[{ on := 0, ground := Ground.data }, { on := 5, ground := Ground.data }, { on := 12, ground := Ground.data }], guard := none }) rfl (fun K hK => ?_) AllReadyH.nil
  rw [if_pos (by rfl)]
  go_simp
  go_at_call 16
  with_reducible refine (hd _ k0).mono ?_
  rintro e w2 ⟨rfl, j2⟩
  go_simp
  refine hK.out _ _ (hR _ _ k0 j2) (fun HSX => ?_)
  clear hK K
  refine wpAnyH_done (by kernel_rfl) ?_ _
  exact hQ _ _ k0 j2

set_option maxRecDepth 100000 in
set_option maxHeartbeats 4000000 in
theorem rest_time (w : World) (M : Nat) (g : Rg) (x : Bd) (m : Mi) (h : Ro w M g x m) (hop : m.op = 40) (X : Nat) (hX : m.x = X) (hX16 : X < 16) (hx : x.le 9999) (T : Int) (hT : x.tm = T) (hT0 : 0 ≤ T ∧ T < 18446744073709551616) (t : Int) (ht : T % 4294967296 = t) :
    Calls Tryz.prog 22 #[.pointer (some ⟨M, 0, none⟩)] w (Rz w M x ((g.dset X t).pcTo ((g.pc + 4) % 4294967296)) x.clo (m.res { m.r with rd := true, clk := T })) := by
  have ht' : T.tmod 4294967296 = t := by rw [Int.tmod_eq_emod_of_nonneg hT0.1]; exact ht
  have bt : 0 ≤ t ∧ t < 4294967296 := by omega
  have c0 := h.mi.cell 0 _ rfl
  have c2 := h.mi.cell 2 _ rfl
  have p16 := h.r.cell 16 _ rfl
  have d15 := h.mi.cell 15 _ rfl
  have f15 := h.mi.fr 15
  obtain ⟨R0, C0⟩ := h.mset 15 (.bool true) (m.res { m.r with rd := true }) rfl rfl rfl
  have d1 := R0.mi.cell 1 _ rfl
  have d0 := R0.mi.cell 0 _ rfl
  have hC := clock_any _ m.bb x R0.b (hx.more (by omega)) (by rw [hT]; exact hT0)
  rw [hT] at hC
  rw [hop] at c2
  have hXz : (X : Int) < 16 := by omega
  have HR : Hid (Ro (w.setCell ⟨M, 15, none⟩ (.bool true)) M g x (m.res { m.r with rd := true }) ∧ Chg w (w.setCell ⟨M, 15, none⟩ (.bool true)) (fun k => k = M)) := ⟨R0, C0⟩
  have HO : Hid (m.x = X) := hX
  clear h hop hX R0 C0
  go_enter Tryz.func22, Tryz.ntmps22
  go_upto_region 15 with (fail)
  go_upto_region 16 with (go_at_call 33; refine hC.mono ?_; rintro e w1 ⟨rfl, hbo⟩; obtain ⟨v1, R1, C1, L1⟩ := Ro.bus HR.out.1 hbo (fun k => Iff.rfl); have d16 := R1.mi.cell 16 _ rfl; have f16 := R1.mi.fr 16)
  obtain ⟨R2, C2⟩ := R1.mset 16 (.int .u64 T) (m.res { m.r with rd := true, clk := T }) rfl rfl rfl
  obtain ⟨w3, hw3⟩ : ∃ w3, w3 = (w1.setCell ⟨M, 16, none⟩ (.int .u64 T)) := ⟨_, rfl⟩
  rw [← hw3] at R2 C2
  rw [← hw3]
  clear hw3 d16 f16
  have e3 := R2.mi.cell 3 (.int .i64 (X : Nat)) (by show some (Value.int .i64 m.x) = _; rw [HO.out])
  have e16 := R2.mi.cell 16 (.int .u64 T) rfl
  have C3 : Chg w w3 (fun k => k = m.G ∨ k = M ∨ x.own m.bb k) := Chg.trans (Chg.trans (Chg.mono HR.out.2 (fun i _ e => .inr (.inl e))) C1 (fun i _ e => .inr (.inr e))) C2 (fun i _ e => .inr (.inl e))
  have L3 : v1.ownBlock = x.lv.ownBlock ∨ ∃ k, v1.ownBlock = some k ∧ w.heap.size ≤ k := by
    rcases L1 with l | ⟨k, l, hk⟩
    · exact .inl l
    · exact .inr ⟨k, l, Nat.le_trans HR.out.2.size hk⟩
  have H3 : Hid (Ro w3 M g (x.clo.lvTo v1) (m.res { m.r with rd := true, clk := T }) ∧ Chg w w3 (fun k => k = m.G ∨ k = M ∨ x.own m.bb k) ∧ (v1.ownBlock = x.lv.ownBlock ∨ ∃ k, v1.ownBlock = some k ∧ w.heap.size ≤ k)) := ⟨R2, C3, L3⟩
  have hS := fun V (kV : Kp w3 V) => rset_any V M g _ (R2.kp kV).mi (R2.kp kV).r X hX16 t
  have HK : ∀ V w', Kp w3 V → Chg V w' (fun k => k = m.G) → w'.cell? ⟨M, 3, none⟩ = some (.int .i64 (X : Nat)) ∧ w'.cell? ⟨M, 16, none⟩ = some (.int .u64 T) := fun V w' kV hc => by
    have i := (R2.kp kV).mi.chg hc R2.ne
    exact ⟨i.cell 3 (.int .i64 (X : Nat)) (by show some (Value.int .i64 m.x) = _; rw [HO.out]), i.cell 16 (.int .u64 T) rfl⟩
  clear R1 C1 L1 R2 C2 C3 L3 hbo hC HR d0 d1 d15 f15 c0 c2 p16 hT
  refine reg22_16 w3 M X T t e3 e16 ht' ht bt hT0 (fun V w' => IsRg w' m.G (g.dset X t) ∧ Chg V w' (fun k => k = m.G)) (fun V kV => hS V kV) (fun V w' kV hw => HK _ _ kV hw.2) _ (fun _ _ _ q _ h => by cases q <;> exact h) ?_
  rintro V w4 kV ⟨r4, k4⟩
  have R4 := (H3.out.1.kp kV).rset r4 k4
  have HE : Hid (Rv w M x ((g.dset X t).pcTo ((g.pc + 4) % 4294967296)) x.clo (m.res { m.r with rd := true, clk := T }) (w4.setCell ⟨m.G, 16, none⟩ (.int .u32 ((g.pc + 4) % 4294967296)))) :=
    Ro.pcs (m := m) v1 R4 (Chg.trans (Chg.trans H3.out.2.1 kV (fun i _ e => e.elim)) k4 (fun i _ e => .inl e)) H3.out.2.2 _ (rgc_dset16 _ _ _ _)
  have d16 := R4.r.cell 16 (.int .u32 (g.dset X t).pc) (by rfl)
  have q16 := R4.r.fr 16
  simp only [Mi.res_G] at d16 q16
  clear R4 r4 k4 kV HK hS e3 e16
  go_wp2_with fail
  go_end0
  exact ⟨rfl, HE.out⟩
end Go.Proofs.YtghiffpolacmiabGreatDoor
