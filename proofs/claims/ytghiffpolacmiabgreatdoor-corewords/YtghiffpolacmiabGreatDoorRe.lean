import Derived.Test.YtghiffpolacmiabGreatDoorUy
import Derived.Test.YtghiffpolacmiabGreatDoorRb
namespace Go.Proofs.YtghiffpolacmiabGreatDoor
open Go.ChangeShapes Go.WideShapes Go.ChangeAt Go.RowKit
set_option linter.unusedVariables false

/-- The document's step under way. -/
structure Mi where
  G : Nat
  bb : Nat
  op : Int
  x : Int
  y : Int
  z : Int
  n : Int
  r : Rs
def mic (m : Mi) : List Value := [.pointer (some ⟨m.G, 0, none⟩), .pointer (some ⟨m.bb, 0, none⟩), .int .i64 m.op, .int .i64 m.x, .int .i64 m.y, .int .i64 m.z, .int .i64 m.n] ++ rsc m.r
def IsMi (w : World) (M : Nat) (m : Mi) : Prop := w.heap[M]? = some (.cells (mic m).toArray 65 (0, 0))
theorem IsMi.cell {w : World} {B : Nat} {g : Mi} (h : IsMi w B g) (i : Nat) (v : Value) (hv : (mic g)[i]? = some v) : w.cell? ⟨B, i, none⟩ = some v := by
  rw [(cells_at h i).1, List.getElem?_toArray, hv]
theorem IsMi.fr {w : World} {B : Nat} {g : Mi} (h : IsMi w B g) (i : Nat) : w.frozen? ⟨B, i, none⟩ = false := (cells_at h i).2
theorem IsMi.chg {S : Nat → Prop} {w w' : World} {B : Nat} {s : Mi} (h : IsMi w B s) (hc : Chg w w' S) (hn : ¬ S B) : IsMi w' B s := hc.heap h hn
theorem IsMi.set {w : World} {B : Nat} {s : Mi} (h : IsMi w B s) (i : Nat) (v : Value) (t : Mi) (ht : (mic s).set i v = mic t) : IsMi (w.setCell ⟨B, i, none⟩ v) B t ∧ Chg w (w.setCell ⟨B, i, none⟩ v) (fun k => k = B) := by
  have := heap_setCell_same w B i _ 65 v h
  refine ⟨?_, Chg.setCell (S := fun k => k = B) (Chg.refl w _) (.inl rfl) v⟩
  unfold IsMi
  rw [this, ← ht]
  congr 2
  simp
/-- Registers, a bus and a step of the document's, apart. -/
structure Ro (w : World) (M : Nat) (g : Rg) (x : Bd) (m : Mi) : Prop where
  r : IsRg w m.G g
  b : IsB w m.bb x
  mi : IsMi w M m
  ne : M ≠ m.G
  nm : ∀ k, (x.own m.bb k ∨ x.row k) → k ≠ M
  ng : ∀ k, (x.own m.bb k ∨ x.row k) → k ≠ m.G
def Rg.dset (g : Rg) (d : Nat) (v : Int) : Rg := if d = 0 then g else g.put d v
theorem rset_any (w : World) (M : Nat) (g : Rg) (m : Mi) (hm : IsMi w M m) (hr : IsRg w m.G g) (d : Nat) (hd : d < 16) (v : Int) :
    Calls Tryz.prog 16 #[.pointer (some ⟨M, 0, none⟩), .int .i64 (d : Nat), .int .u32 v] w fun e w' => e = .returned (.tuple #[]) ∧ IsRg w' m.G (g.dset d v) ∧ Chg w w' (fun k => k = m.G) := by
  unfold Rg.dset
  by_cases h0 : d = 0
  · subst h0
    rw [if_pos rfl]
    have HX : Hid (IsRg w m.G g) := hr
    clear hr hm
    go_enter Tryz.func16, Tryz.ntmps16
    go_wp2_with fail
    go_end0
    exact ⟨rfl, HX.out, Chg.refl _ _⟩
  · rw [if_neg h0]
    have hb : ((d : Int) == 0) = false := by simpa using (show ¬ (d : Int) = 0 by omega)
    have hdz : (d : Int) < 16 := by omega
    have c0 := hm.cell 0 _ rfl
    have cd := hr.cell d _ (rgc_R g d hd)
    have fd := hr.fr d
    obtain ⟨i1, k1⟩ := hr.set d (.int .u32 v) _ (rgc_put g d hd v)
    have HX : Hid (IsRg _ m.G (g.put d v) ∧ Chg w _ (fun k => k = m.G)) := ⟨i1, k1⟩
    clear i1 k1 hr hm
    go_enter Tryz.func16, Tryz.ntmps16
    go_wp2_with fail
    go_end0
    exact ⟨rfl, HX.out⟩
end Go.Proofs.YtghiffpolacmiabGreatDoor
namespace Go.Proofs.YtghiffpolacmiabGreatDoor
open Go.ChangeShapes Go.WideShapes Go.ChangeAt Go.RowKit
set_option linter.unusedVariables false

/-- What a call of the document's step leaves. -/
def Rv (w : World) (M : Nat) (x : Bd) (g : Rg) (y : Bd) (m : Mi) (w' : World) : Prop :=
  ∃ v', Ro w' M g (y.lvTo v') m ∧ Chg w w' (fun k => k = m.G ∨ k = M ∨ x.own m.bb k) ∧ (v'.ownBlock = x.lv.ownBlock ∨ ∃ k, v'.ownBlock = some k ∧ w.heap.size ≤ k)
theorem Ro.kp {w w' : World} {M : Nat} {g : Rg} {x : Bd} {m : Mi} (h : Ro w M g x m) (k : Kp w w') : Ro w' M g x m := ⟨h.r.kp k, h.b.kp k, h.mi.chg k (fun h => h), h.ne, h.nm, h.ng⟩
/-- The bus was called. -/
theorem Ro.bus {w w' : World} {M : Nat} {g : Rg} {x y : Bd} {m : Mi} (h : Ro w M g x m) (hb : Bo w m.bb x y w') (hrow : ∀ k, y.row k ↔ x.row k) : ∃ v', Ro w' M g (y.lvTo v') m ∧ Chg w w' (x.own m.bb) ∧ (v'.ownBlock = x.lv.ownBlock ∨ ∃ k, v'.ownBlock = some k ∧ w.heap.size ≤ k) := by
  obtain ⟨v', i, c, l⟩ := hb
  have hM := hp_lt h.mi
  have hG := hp_lt h.r
  have ho : ∀ k, (y.lvTo v').own m.bb k ∨ (y.lvTo v').row k → (x.own m.bb k ∨ x.row k) ∨ w.heap.size ≤ k := fun k hk => by
    rcases hk with (e | e) | e
    · exact .inl (.inl (.inl e))
    · have e2 : v'.ownBlock = some k := e
      rcases l with l | ⟨j, l, hj⟩
      · exact .inl (.inl (.inr (by rw [← l]; exact e2)))
      · rw [l] at e2; cases e2; exact .inr hj
    · exact .inl (.inr ((hrow k).1 e))
  refine ⟨v', ⟨h.r.chg c (fun e => h.ng _ (.inl e) rfl), i, h.mi.chg c (fun e => h.nm _ (.inl e) rfl), h.ne, fun k hk => ?_, fun k hk => ?_⟩, c, l⟩
  · rcases ho k hk with e | e
    · exact h.nm k e
    · omega
  · rcases ho k hk with e | e
    · exact h.ng k e
    · omega
/-- A number of the step is written. -/
theorem Ro.mset {w : World} {M : Nat} {g : Rg} {x : Bd} {m : Mi} (h : Ro w M g x m) (i : Nat) (v : Value) (t : Mi) (ht : (mic m).set i v = mic t) (hG : t.G = m.G) (hB : t.bb = m.bb) : Ro (w.setCell ⟨M, i, none⟩ v) M g x t ∧ Chg w (w.setCell ⟨M, i, none⟩ v) (fun k => k = M) := by
  obtain ⟨a, c⟩ := h.mi.set i v t ht
  refine ⟨⟨by rw [hG]; exact h.r.chg c (fun e => h.ne e.symm), by rw [hB]; exact h.b.chg c (fun k _ hk => h.nm k hk), a, by rw [hG]; exact h.ne, by rw [hB]; exact h.nm, by rw [hB, hG]; exact h.ng⟩, c⟩
/-- Registers are written. -/
theorem Ro.rset {w w' : World} {M : Nat} {g g' : Rg} {x : Bd} {m : Mi} (h : Ro w M g x m) (hr : IsRg w' m.G g') (c : Chg w w' (fun k => k = m.G)) : Ro w' M g' x m :=
  ⟨hr, h.b.chg c (fun k _ hk => h.ng k hk), h.mi.chg c h.ne, h.ne, h.nm, h.ng⟩
def Rz (w : World) (M : Nat) (x : Bd) (g : Rg) (y : Bd) (m : Mi) (e : Ending) (w' : World) : Prop := e = .returned (.tuple #[]) ∧ Rv w M x g y m w'
def Mi.res (m : Mi) (r : Rs) : Mi := { m with r := r }
def Rg.on4 (g : Rg) : Rg := { g with pc := (g.pc + 4) % 4294967296 }
theorem Rv.drew {w w' : World} {M : Nat} {x y : Bd} {g : Rg} {m : Mi} (h : Rv w M x g y m w') : Rv w M x g y m w'.drew := by
  obtain ⟨v', r, c, l⟩ := h
  exact ⟨v', r.kp ((Kp.refl _).drew), c.drew, l⟩
set_option maxRecDepth 100000 in
set_option maxHeartbeats 4000000 in
theorem rload_bad_23 (w : World) (M : Nat) (g : Rg) (x : Bd) (m : Mi) (h : Ro w M g x m) (hop : m.op = 23) (X Y : Nat) (hX : m.x = X) (hY : m.y = Y) (hX16 : X < 16) (hY16 : Y < 16) (hx : x.le 9999) (hv : 0 ≤ nxt x.vs x.iv ∧ nxt x.vs x.iv < 4294967296) (a : Int) (ha : (g.R Y + m.n % 4294967296) % 4294967296 = a) (f c : Int) (hf : nxt x.fa x.jf = f) (hc : nxt x.cy x.ic = c) (hf0 : f ≠ 0) :
    Calls Tryz.prog 19 #[.pointer (some ⟨M, 0, none⟩)] w (Rz w M x g (x.lod a 1) (m.res { m.r with cyc := wrap64 (m.r.cyc + c), addr := a, kind := 3, flt := f })) := by
  have c0 := h.mi.cell 0 _ rfl
  have c1 := h.mi.cell 1 _ rfl
  have c2 := h.mi.cell 2 _ rfl
  have c4 := h.mi.cell 4 _ rfl
  have c6 := h.mi.cell 6 _ rfl
  have cY := h.r.cell Y _ (rgc_R g Y hY16)
  rw [hop] at c2
  rw [hY] at c4
  have hYz : (Y : Int) < 16 := by omega
  have hL := fun W (r : Ro W M g x m) => load_any W m.bb x r.b (hx.more (by omega)) a 1
  have HR : Hid (Ro w M g x m ∧ x.le 9999) := ⟨h, hx⟩
  have HO : Hid (m.op = 23 ∧ m.x = X) := ⟨hop, hX⟩
  have hXz : (X : Int) < 16 := by omega
  have ln : m.bb < w.heap.size ∧ M < w.heap.size ∧ m.G < w.heap.size := ⟨hp_lt h.b.box, hp_lt h.mi, hp_lt h.r⟩
  rw [hf, hc] at hL
  generalize g.R Y = gy at *
  have ha' : (gy + m.n % 4294967296) % 4294967296 = a := ha
  clear h hx hop hX hY hf hc ha
  go_enter Tryz.func19, Tryz.ntmps19
  go_upto_region 1 with (fail)
  obtain ⟨w0, hw0⟩ : ∃ w0, w0 = w.alloc (.cells #[.int .i64 1, .int .i64 1, .int .i64 2, .int .i64 2, .int .i64 4] 3) := ⟨_, rfl⟩
  have k0 : Kp w w0 := by rw [hw0]; exact (Chg.refl w _).alloc _
  rw [← hw0]
  clear hw0
  have d0 := Kp.cell k0 c0
  have d1 := Kp.cell k0 c1
  have d4 := Kp.cell k0 c4
  have d6 := Kp.cell k0 c6
  have dY := Kp.cell k0 cY
  have HK : Hid (Kp w w0) := k0
  clear c0 c1 c2 c4 c6 cY k0
  go_quiet (fail)
  go_upto_region 3 with (go_at_call 31; refine (hL _ (HR.out.1.kp (HK.out.drewN _))).mono ?_; rintro e w1 ⟨rfl, hbo⟩)
  obtain ⟨v1, R1, C1, L1⟩ := Ro.bus (HR.out.1.kp (HK.out.drewN _)) hbo (fun k => Iff.rfl)
  clear hbo hL d0 d1 d4 d6 dY ha'
  have d8 := R1.mi.cell 8 (.int .i64 m.r.cyc) rfl
  have f8 := R1.mi.fr 8
  obtain ⟨R2, C2⟩ := R1.mset 8 (.int .i64 (wrap64 (m.r.cyc + c))) (m.res { m.r with cyc := wrap64 (m.r.cyc + c) }) rfl rfl rfl
  have d11 := R2.mi.cell 11 (.int .u32 m.r.addr) rfl
  have f11 := R2.mi.fr 11
  obtain ⟨R3, C3⟩ := R2.mset 11 (.int .u32 a) (m.res { m.r with cyc := wrap64 (m.r.cyc + c), addr := a }) rfl rfl rfl
  obtain ⟨w3, hw3⟩ : ∃ w3, w3 = (w1.setCell ⟨M, 8, none⟩ (.int .i64 (wrap64 (m.r.cyc + c)))).setCell ⟨M, 11, none⟩ (.int .u32 a) := ⟨_, rfl⟩
  rw [← hw3] at R3 C3
  have H3 : Hid (Ro w3 M g ((x.lod a 1).lvTo v1) (m.res { m.r with cyc := wrap64 (m.r.cyc + c), addr := a }) ∧ Chg w w3 (fun k => k = m.G ∨ k = M ∨ x.own m.bb k)) := ⟨R3, Chg.trans (Chg.trans (Kp.any (HK.out.drewN _)) C1 (fun i _ e => .inr (.inr e))) (Chg.trans C2 C3 (fun _ _ e => e)) (fun i _ e => .inr (.inl e))⟩
  have HL : Hid (v1.ownBlock = x.lv.ownBlock ∨ ∃ k, v1.ownBlock = some k ∧ w.heap.size ≤ k) := by
    rcases L1 with l | ⟨k, l, hk⟩
    · exact .inl l
    · exact .inr ⟨k, l, Nat.le_trans (HK.out.drewN _).size hk⟩
  clear R1 C1 L1 R2 C2 R3 C3 HR HK ln
  have bf : (f == 0) = false := by simpa using hf0
  go_upto_region 5 with (fail)
  rw [← hw3]
  clear hw3 d8 f8 d11 f11
  have d7 := H3.out.1.mi.cell 7 _ rfl
  have f7 := H3.out.1.mi.fr 7
  obtain ⟨R4, C4⟩ := H3.out.1.mset 7 (.int .i64 3) (m.res { m.r with cyc := wrap64 (m.r.cyc + c), addr := a, kind := 3 }) rfl rfl rfl
  have d10 := R4.mi.cell 10 _ rfl
  have f10 := R4.mi.fr 10
  obtain ⟨R5, C5⟩ := R4.mset 10 (.int .i64 f) (m.res { m.r with cyc := wrap64 (m.r.cyc + c), addr := a, kind := 3, flt := f }) rfl rfl rfl
  have HE : Hid (Rv w M x g (x.lod a 1) (m.res { m.r with cyc := wrap64 (m.r.cyc + c), addr := a, kind := 3, flt := f }) _) := ⟨v1, R5, Chg.trans H3.out.2 (Chg.trans C4 C5 (fun _ _ e => e)) (fun i _ e => .inr (.inl e)), HL.out⟩
  clear R4 C4 R5 C5
  go_wp2_with fail
  refine bodyPost_ret (results_none rfl _ _ _) rfl ?_
  exact ⟨rfl, HE.out⟩
set_option maxRecDepth 100000 in
set_option maxHeartbeats 4000000 in
theorem rload_ok_23 (w : World) (M : Nat) (g : Rg) (x : Bd) (m : Mi) (h : Ro w M g x m) (hop : m.op = 23) (X Y : Nat) (hX : m.x = X) (hY : m.y = Y) (hX16 : X < 16) (hY16 : Y < 16) (hx : x.le 9999) (hv : 0 ≤ nxt x.vs x.iv ∧ nxt x.vs x.iv < 4294967296) (a : Int) (ha : (g.R Y + m.n % 4294967296) % 4294967296 = a) (f c : Int) (hf : nxt x.fa x.jf = f) (hc : nxt x.cy x.ic = c) (hf0 : f = 0) :
    Calls Tryz.prog 19 #[.pointer (some ⟨M, 0, none⟩)] w (Rz w M x (g.dset X (wi_lb (nxt x.vs x.iv))).on4 (x.lod a 1) (m.res { m.r with cyc := wrap64 (m.r.cyc + c), addr := a, lod := true, val := wi_lb (nxt x.vs x.iv) })) := by
  have c0 := h.mi.cell 0 _ rfl
  have c1 := h.mi.cell 1 _ rfl
  have c2 := h.mi.cell 2 _ rfl
  have c4 := h.mi.cell 4 _ rfl
  have c6 := h.mi.cell 6 _ rfl
  have cY := h.r.cell Y _ (rgc_R g Y hY16)
  rw [hop] at c2
  rw [hY] at c4
  have hYz : (Y : Int) < 16 := by omega
  have hL := fun W (r : Ro W M g x m) => load_any W m.bb x r.b (hx.more (by omega)) a 1
  have HR : Hid (Ro w M g x m ∧ x.le 9999) := ⟨h, hx⟩
  have HO : Hid (m.op = 23 ∧ m.x = X) := ⟨hop, hX⟩
  have hXz : (X : Int) < 16 := by omega
  have ln : m.bb < w.heap.size ∧ M < w.heap.size ∧ m.G < w.heap.size := ⟨hp_lt h.b.box, hp_lt h.mi, hp_lt h.r⟩
  rw [hf, hc] at hL
  generalize g.R Y = gy at *
  have ha' : (gy + m.n % 4294967296) % 4294967296 = a := ha
  clear h hx hop hX hY hf hc ha
  go_enter Tryz.func19, Tryz.ntmps19
  go_upto_region 1 with (fail)
  obtain ⟨w0, hw0⟩ : ∃ w0, w0 = w.alloc (.cells #[.int .i64 1, .int .i64 1, .int .i64 2, .int .i64 2, .int .i64 4] 3) := ⟨_, rfl⟩
  have k0 : Kp w w0 := by rw [hw0]; exact (Chg.refl w _).alloc _
  rw [← hw0]
  clear hw0
  have d0 := Kp.cell k0 c0
  have d1 := Kp.cell k0 c1
  have d4 := Kp.cell k0 c4
  have d6 := Kp.cell k0 c6
  have dY := Kp.cell k0 cY
  have HK : Hid (Kp w w0) := k0
  clear c0 c1 c2 c4 c6 cY k0
  go_quiet (fail)
  go_upto_region 3 with (go_at_call 31; refine (hL _ (HR.out.1.kp (HK.out.drewN _))).mono ?_; rintro e w1 ⟨rfl, hbo⟩)
  obtain ⟨v1, R1, C1, L1⟩ := Ro.bus (HR.out.1.kp (HK.out.drewN _)) hbo (fun k => Iff.rfl)
  clear hbo hL d0 d1 d4 d6 dY ha'
  have d8 := R1.mi.cell 8 (.int .i64 m.r.cyc) rfl
  have f8 := R1.mi.fr 8
  obtain ⟨R2, C2⟩ := R1.mset 8 (.int .i64 (wrap64 (m.r.cyc + c))) (m.res { m.r with cyc := wrap64 (m.r.cyc + c) }) rfl rfl rfl
  have d11 := R2.mi.cell 11 (.int .u32 m.r.addr) rfl
  have f11 := R2.mi.fr 11
  obtain ⟨R3, C3⟩ := R2.mset 11 (.int .u32 a) (m.res { m.r with cyc := wrap64 (m.r.cyc + c), addr := a }) rfl rfl rfl
  obtain ⟨w3, hw3⟩ : ∃ w3, w3 = (w1.setCell ⟨M, 8, none⟩ (.int .i64 (wrap64 (m.r.cyc + c)))).setCell ⟨M, 11, none⟩ (.int .u32 a) := ⟨_, rfl⟩
  rw [← hw3] at R3 C3
  have H3 : Hid (Ro w3 M g ((x.lod a 1).lvTo v1) (m.res { m.r with cyc := wrap64 (m.r.cyc + c), addr := a }) ∧ Chg w w3 (fun k => k = m.G ∨ k = M ∨ x.own m.bb k)) := ⟨R3, Chg.trans (Chg.trans (Kp.any (HK.out.drewN _)) C1 (fun i _ e => .inr (.inr e))) (Chg.trans C2 C3 (fun _ _ e => e)) (fun i _ e => .inr (.inl e))⟩
  have HL : Hid (v1.ownBlock = x.lv.ownBlock ∨ ∃ k, v1.ownBlock = some k ∧ w.heap.size ≤ k) := by
    rcases L1 with l | ⟨k, l, hk⟩
    · exact .inl l
    · exact .inr ⟨k, l, Nat.le_trans (HK.out.drewN _).size hk⟩
  clear R1 C1 L1 R2 C2 R3 C3 HR HK ln
  subst hf0
  generalize nxt x.vs x.iv = vv at *
  go_upto_region 5 with (fail)
  rw [← hw3]
  clear hw3 d8 f8 d11 f11
  obtain ⟨e5, he5⟩ : ∃ e5, e5 = wi_lb vv := ⟨_, rfl⟩
  have HQ : Hid (e5 = wi_lb vv) := he5
  obtain ⟨b5, hb5⟩ : ∃ b5, b5 = vv % 256 := ⟨_, rfl⟩
  have bb5 : 0 ≤ b5 ∧ b5 < 256 := by omega
  have he6 : vv.tmod 256 = b5 := by rw [Int.tmod_eq_emod_of_nonneg hv.1, hb5]
  have hSg := fun w => signed_8 w b5 bb5
  obtain ⟨s5, hs5⟩ : ∃ s5, s5 = (if 128 ≤ b5 then b5 - 256 else b5) := ⟨_, rfl⟩
  rw [← hs5] at hSg
  have he5' : s5 % 4294967296 = e5 := by
    rw [he5, hs5, hb5]; unfold wi_lb; simp [IntKind.wrap, IntKind.bits, IntKind.signed] <;> (try (split <;> omega))
  have hbs : -128 ≤ s5 ∧ s5 ≤ 127 := by rw [hs5]; split <;> omega
  clear he5 hs5 hb5
  have d2 := H3.out.1.mi.cell 2 (.int .i64 23) (by show some (Value.int .i64 m.op) = _; rw [HO.out.1])
  go_upto_region 13 with (go_at_call 28; refine (hSg _).mono ?_; rintro e w4 ⟨rfl, k4⟩)
  have H4 : Hid (Ro w4 M g ((x.lod a 1).lvTo v1) (m.res { m.r with cyc := wrap64 (m.r.cyc + c), addr := a }) ∧ Chg w w4 (fun k => k = m.G ∨ k = M ∨ x.own m.bb k)) := ⟨H3.out.1.kp k4, Chg.trans H3.out.2 k4 (fun _ _ e => e.elim)⟩
  clear H3 d2 k4 hSg
  have H3 := H4
  clear H4
  have d13 := H3.out.1.mi.cell 13 _ rfl
  have f13 := H3.out.1.mi.fr 13
  have d2 := H3.out.1.mi.cell 2 (.int .i64 23) (by show some (Value.int .i64 m.op) = _; rw [HO.out.1])
  obtain ⟨R4, C4⟩ := H3.out.1.mset 13 (.bool true) (m.res { m.r with cyc := wrap64 (m.r.cyc + c), addr := a, lod := true }) rfl rfl rfl
  have d14 := R4.mi.cell 14 _ rfl
  have f14 := R4.mi.fr 14
  obtain ⟨R5, C5⟩ := R4.mset 14 (.int .u32 e5) (m.res { m.r with cyc := wrap64 (m.r.cyc + c), addr := a, lod := true, val := e5 }) rfl rfl rfl
  have d3 := R5.mi.cell 3 (.int .i64 (X : Nat)) (by show some (Value.int .i64 m.x) = _; rw [HO.out.2])
  have hS := rset_any _ M g _ R5.mi R5.r X hX16 e5
  have H5 : Hid (Ro ((w4.setCell ⟨M, 13, none⟩ (.bool true)).setCell ⟨M, 14, none⟩ (.int .u32 e5)) M g ((x.lod a 1).lvTo v1) (m.res { m.r with cyc := wrap64 (m.r.cyc + c), addr := a, lod := true, val := e5 }) ∧ Chg w ((w4.setCell ⟨M, 13, none⟩ (.bool true)).setCell ⟨M, 14, none⟩ (.int .u32 e5)) (fun k => k = m.G ∨ k = M ∨ x.own m.bb k)) := ⟨R5, Chg.trans H3.out.2 (Chg.trans C4 C5 (fun _ _ e => e)) (fun i _ e => .inr (.inl e))⟩
  clear R4 C4 R5 C5
  go_upto_region 16 with (go_at_call 16; refine hS.mono ?_; rintro e w6 ⟨rfl, r6, c6⟩)
  have R6 := H5.out.1.rset r6 c6
  have C6 := Chg.trans H5.out.2 c6 (fun i _ e => .inl e)
  have p0 := R6.mi.cell 0 _ rfl
  have p16 := R6.r.cell 16 (.int .u32 g.pc) (by unfold Rg.dset; split <;> rfl)
  have q16 := R6.r.fr 16
  obtain ⟨i7, c7⟩ := R6.r.set 16 (.int .u32 ((g.pc + 4) % 4294967296)) (g.dset X e5).on4 (by unfold Rg.dset; split <;> rfl)
  have HE : Hid (Rv w M x (g.dset X e5).on4 (x.lod a 1) (m.res { m.r with cyc := wrap64 (m.r.cyc + c), addr := a, lod := true, val := e5 }) _) := ⟨v1, R6.rset i7 c7, Chg.trans C6 c7 (fun i _ e => .inl e), HL.out⟩
  clear R6 C6 i7 c7 r6 c6 hS H3 H5 d2 d3 d13 f13 d14 f14 HO HL
  go_region
  go_wp2_with fail
  go_end0
  have hq := HQ.out
  subst hq
  exact ⟨rfl, HE.out.drew⟩
set_option maxRecDepth 100000 in
set_option maxHeartbeats 4000000 in
theorem rload_bad_24 (w : World) (M : Nat) (g : Rg) (x : Bd) (m : Mi) (h : Ro w M g x m) (hop : m.op = 24) (X Y : Nat) (hX : m.x = X) (hY : m.y = Y) (hX16 : X < 16) (hY16 : Y < 16) (hx : x.le 9999) (hv : 0 ≤ nxt x.vs x.iv ∧ nxt x.vs x.iv < 4294967296) (a : Int) (ha : (g.R Y + m.n % 4294967296) % 4294967296 = a) (f c : Int) (hf : nxt x.fa x.jf = f) (hc : nxt x.cy x.ic = c) (hf0 : f ≠ 0) :
    Calls Tryz.prog 19 #[.pointer (some ⟨M, 0, none⟩)] w (Rz w M x g (x.lod a 1) (m.res { m.r with cyc := wrap64 (m.r.cyc + c), addr := a, kind := 3, flt := f })) := by
  have c0 := h.mi.cell 0 _ rfl
  have c1 := h.mi.cell 1 _ rfl
  have c2 := h.mi.cell 2 _ rfl
  have c4 := h.mi.cell 4 _ rfl
  have c6 := h.mi.cell 6 _ rfl
  have cY := h.r.cell Y _ (rgc_R g Y hY16)
  rw [hop] at c2
  rw [hY] at c4
  have hYz : (Y : Int) < 16 := by omega
  have hL := fun W (r : Ro W M g x m) => load_any W m.bb x r.b (hx.more (by omega)) a 1
  have HR : Hid (Ro w M g x m ∧ x.le 9999) := ⟨h, hx⟩
  have HO : Hid (m.op = 24 ∧ m.x = X) := ⟨hop, hX⟩
  have hXz : (X : Int) < 16 := by omega
  have ln : m.bb < w.heap.size ∧ M < w.heap.size ∧ m.G < w.heap.size := ⟨hp_lt h.b.box, hp_lt h.mi, hp_lt h.r⟩
  rw [hf, hc] at hL
  generalize g.R Y = gy at *
  have ha' : (gy + m.n % 4294967296) % 4294967296 = a := ha
  clear h hx hop hX hY hf hc ha
  go_enter Tryz.func19, Tryz.ntmps19
  go_upto_region 1 with (fail)
  obtain ⟨w0, hw0⟩ : ∃ w0, w0 = w.alloc (.cells #[.int .i64 1, .int .i64 1, .int .i64 2, .int .i64 2, .int .i64 4] 3) := ⟨_, rfl⟩
  have k0 : Kp w w0 := by rw [hw0]; exact (Chg.refl w _).alloc _
  rw [← hw0]
  clear hw0
  have d0 := Kp.cell k0 c0
  have d1 := Kp.cell k0 c1
  have d4 := Kp.cell k0 c4
  have d6 := Kp.cell k0 c6
  have dY := Kp.cell k0 cY
  have HK : Hid (Kp w w0) := k0
  clear c0 c1 c2 c4 c6 cY k0
  go_quiet (fail)
  go_upto_region 3 with (go_at_call 31; refine (hL _ (HR.out.1.kp (HK.out.drewN _))).mono ?_; rintro e w1 ⟨rfl, hbo⟩)
  obtain ⟨v1, R1, C1, L1⟩ := Ro.bus (HR.out.1.kp (HK.out.drewN _)) hbo (fun k => Iff.rfl)
  clear hbo hL d0 d1 d4 d6 dY ha'
  have d8 := R1.mi.cell 8 (.int .i64 m.r.cyc) rfl
  have f8 := R1.mi.fr 8
  obtain ⟨R2, C2⟩ := R1.mset 8 (.int .i64 (wrap64 (m.r.cyc + c))) (m.res { m.r with cyc := wrap64 (m.r.cyc + c) }) rfl rfl rfl
  have d11 := R2.mi.cell 11 (.int .u32 m.r.addr) rfl
  have f11 := R2.mi.fr 11
  obtain ⟨R3, C3⟩ := R2.mset 11 (.int .u32 a) (m.res { m.r with cyc := wrap64 (m.r.cyc + c), addr := a }) rfl rfl rfl
  obtain ⟨w3, hw3⟩ : ∃ w3, w3 = (w1.setCell ⟨M, 8, none⟩ (.int .i64 (wrap64 (m.r.cyc + c)))).setCell ⟨M, 11, none⟩ (.int .u32 a) := ⟨_, rfl⟩
  rw [← hw3] at R3 C3
  have H3 : Hid (Ro w3 M g ((x.lod a 1).lvTo v1) (m.res { m.r with cyc := wrap64 (m.r.cyc + c), addr := a }) ∧ Chg w w3 (fun k => k = m.G ∨ k = M ∨ x.own m.bb k)) := ⟨R3, Chg.trans (Chg.trans (Kp.any (HK.out.drewN _)) C1 (fun i _ e => .inr (.inr e))) (Chg.trans C2 C3 (fun _ _ e => e)) (fun i _ e => .inr (.inl e))⟩
  have HL : Hid (v1.ownBlock = x.lv.ownBlock ∨ ∃ k, v1.ownBlock = some k ∧ w.heap.size ≤ k) := by
    rcases L1 with l | ⟨k, l, hk⟩
    · exact .inl l
    · exact .inr ⟨k, l, Nat.le_trans (HK.out.drewN _).size hk⟩
  clear R1 C1 L1 R2 C2 R3 C3 HR HK ln
  have bf : (f == 0) = false := by simpa using hf0
  go_upto_region 5 with (fail)
  rw [← hw3]
  clear hw3 d8 f8 d11 f11
  have d7 := H3.out.1.mi.cell 7 _ rfl
  have f7 := H3.out.1.mi.fr 7
  obtain ⟨R4, C4⟩ := H3.out.1.mset 7 (.int .i64 3) (m.res { m.r with cyc := wrap64 (m.r.cyc + c), addr := a, kind := 3 }) rfl rfl rfl
  have d10 := R4.mi.cell 10 _ rfl
  have f10 := R4.mi.fr 10
  obtain ⟨R5, C5⟩ := R4.mset 10 (.int .i64 f) (m.res { m.r with cyc := wrap64 (m.r.cyc + c), addr := a, kind := 3, flt := f }) rfl rfl rfl
  have HE : Hid (Rv w M x g (x.lod a 1) (m.res { m.r with cyc := wrap64 (m.r.cyc + c), addr := a, kind := 3, flt := f }) _) := ⟨v1, R5, Chg.trans H3.out.2 (Chg.trans C4 C5 (fun _ _ e => e)) (fun i _ e => .inr (.inl e)), HL.out⟩
  clear R4 C4 R5 C5
  go_wp2_with fail
  refine bodyPost_ret (results_none rfl _ _ _) rfl ?_
  exact ⟨rfl, HE.out⟩
set_option maxRecDepth 100000 in
set_option maxHeartbeats 4000000 in
theorem rload_ok_24 (w : World) (M : Nat) (g : Rg) (x : Bd) (m : Mi) (h : Ro w M g x m) (hop : m.op = 24) (X Y : Nat) (hX : m.x = X) (hY : m.y = Y) (hX16 : X < 16) (hY16 : Y < 16) (hx : x.le 9999) (hv : 0 ≤ nxt x.vs x.iv ∧ nxt x.vs x.iv < 4294967296) (a : Int) (ha : (g.R Y + m.n % 4294967296) % 4294967296 = a) (f c : Int) (hf : nxt x.fa x.jf = f) (hc : nxt x.cy x.ic = c) (hf0 : f = 0) :
    Calls Tryz.prog 19 #[.pointer (some ⟨M, 0, none⟩)] w (Rz w M x (g.dset X (wi_lbu (nxt x.vs x.iv))).on4 (x.lod a 1) (m.res { m.r with cyc := wrap64 (m.r.cyc + c), addr := a, lod := true, val := wi_lbu (nxt x.vs x.iv) })) := by
  have c0 := h.mi.cell 0 _ rfl
  have c1 := h.mi.cell 1 _ rfl
  have c2 := h.mi.cell 2 _ rfl
  have c4 := h.mi.cell 4 _ rfl
  have c6 := h.mi.cell 6 _ rfl
  have cY := h.r.cell Y _ (rgc_R g Y hY16)
  rw [hop] at c2
  rw [hY] at c4
  have hYz : (Y : Int) < 16 := by omega
  have hL := fun W (r : Ro W M g x m) => load_any W m.bb x r.b (hx.more (by omega)) a 1
  have HR : Hid (Ro w M g x m ∧ x.le 9999) := ⟨h, hx⟩
  have HO : Hid (m.op = 24 ∧ m.x = X) := ⟨hop, hX⟩
  have hXz : (X : Int) < 16 := by omega
  have ln : m.bb < w.heap.size ∧ M < w.heap.size ∧ m.G < w.heap.size := ⟨hp_lt h.b.box, hp_lt h.mi, hp_lt h.r⟩
  rw [hf, hc] at hL
  generalize g.R Y = gy at *
  have ha' : (gy + m.n % 4294967296) % 4294967296 = a := ha
  clear h hx hop hX hY hf hc ha
  go_enter Tryz.func19, Tryz.ntmps19
  go_upto_region 1 with (fail)
  obtain ⟨w0, hw0⟩ : ∃ w0, w0 = w.alloc (.cells #[.int .i64 1, .int .i64 1, .int .i64 2, .int .i64 2, .int .i64 4] 3) := ⟨_, rfl⟩
  have k0 : Kp w w0 := by rw [hw0]; exact (Chg.refl w _).alloc _
  rw [← hw0]
  clear hw0
  have d0 := Kp.cell k0 c0
  have d1 := Kp.cell k0 c1
  have d4 := Kp.cell k0 c4
  have d6 := Kp.cell k0 c6
  have dY := Kp.cell k0 cY
  have HK : Hid (Kp w w0) := k0
  clear c0 c1 c2 c4 c6 cY k0
  go_quiet (fail)
  go_upto_region 3 with (go_at_call 31; refine (hL _ (HR.out.1.kp (HK.out.drewN _))).mono ?_; rintro e w1 ⟨rfl, hbo⟩)
  obtain ⟨v1, R1, C1, L1⟩ := Ro.bus (HR.out.1.kp (HK.out.drewN _)) hbo (fun k => Iff.rfl)
  clear hbo hL d0 d1 d4 d6 dY ha'
  have d8 := R1.mi.cell 8 (.int .i64 m.r.cyc) rfl
  have f8 := R1.mi.fr 8
  obtain ⟨R2, C2⟩ := R1.mset 8 (.int .i64 (wrap64 (m.r.cyc + c))) (m.res { m.r with cyc := wrap64 (m.r.cyc + c) }) rfl rfl rfl
  have d11 := R2.mi.cell 11 (.int .u32 m.r.addr) rfl
  have f11 := R2.mi.fr 11
  obtain ⟨R3, C3⟩ := R2.mset 11 (.int .u32 a) (m.res { m.r with cyc := wrap64 (m.r.cyc + c), addr := a }) rfl rfl rfl
  obtain ⟨w3, hw3⟩ : ∃ w3, w3 = (w1.setCell ⟨M, 8, none⟩ (.int .i64 (wrap64 (m.r.cyc + c)))).setCell ⟨M, 11, none⟩ (.int .u32 a) := ⟨_, rfl⟩
  rw [← hw3] at R3 C3
  have H3 : Hid (Ro w3 M g ((x.lod a 1).lvTo v1) (m.res { m.r with cyc := wrap64 (m.r.cyc + c), addr := a }) ∧ Chg w w3 (fun k => k = m.G ∨ k = M ∨ x.own m.bb k)) := ⟨R3, Chg.trans (Chg.trans (Kp.any (HK.out.drewN _)) C1 (fun i _ e => .inr (.inr e))) (Chg.trans C2 C3 (fun _ _ e => e)) (fun i _ e => .inr (.inl e))⟩
  have HL : Hid (v1.ownBlock = x.lv.ownBlock ∨ ∃ k, v1.ownBlock = some k ∧ w.heap.size ≤ k) := by
    rcases L1 with l | ⟨k, l, hk⟩
    · exact .inl l
    · exact .inr ⟨k, l, Nat.le_trans (HK.out.drewN _).size hk⟩
  clear R1 C1 L1 R2 C2 R3 C3 HR HK ln
  subst hf0
  generalize nxt x.vs x.iv = vv at *
  go_upto_region 5 with (fail)
  rw [← hw3]
  clear hw3 d8 f8 d11 f11
  obtain ⟨e5, he5⟩ : ∃ e5, e5 = wi_lbu vv := ⟨_, rfl⟩
  have HQ : Hid (e5 = wi_lbu vv) := he5
  have he5' : vv % 256 = e5 := he5.symm
  have he6 : vv.tmod 256 = e5 := by rw [Int.tmod_eq_emod_of_nonneg hv.1]; exact he5'
  have hb5 : 0 ≤ e5 ∧ e5 < 256 := by omega
  clear he5
  have d13 := H3.out.1.mi.cell 13 _ rfl
  have f13 := H3.out.1.mi.fr 13
  have d2 := H3.out.1.mi.cell 2 (.int .i64 24) (by show some (Value.int .i64 m.op) = _; rw [HO.out.1])
  obtain ⟨R4, C4⟩ := H3.out.1.mset 13 (.bool true) (m.res { m.r with cyc := wrap64 (m.r.cyc + c), addr := a, lod := true }) rfl rfl rfl
  have d14 := R4.mi.cell 14 _ rfl
  have f14 := R4.mi.fr 14
  obtain ⟨R5, C5⟩ := R4.mset 14 (.int .u32 e5) (m.res { m.r with cyc := wrap64 (m.r.cyc + c), addr := a, lod := true, val := e5 }) rfl rfl rfl
  have d3 := R5.mi.cell 3 (.int .i64 (X : Nat)) (by show some (Value.int .i64 m.x) = _; rw [HO.out.2])
  have hS := rset_any _ M g _ R5.mi R5.r X hX16 e5
  have H5 : Hid (Ro ((w3.setCell ⟨M, 13, none⟩ (.bool true)).setCell ⟨M, 14, none⟩ (.int .u32 e5)) M g ((x.lod a 1).lvTo v1) (m.res { m.r with cyc := wrap64 (m.r.cyc + c), addr := a, lod := true, val := e5 }) ∧ Chg w ((w3.setCell ⟨M, 13, none⟩ (.bool true)).setCell ⟨M, 14, none⟩ (.int .u32 e5)) (fun k => k = m.G ∨ k = M ∨ x.own m.bb k)) := ⟨R5, Chg.trans H3.out.2 (Chg.trans C4 C5 (fun _ _ e => e)) (fun i _ e => .inr (.inl e))⟩
  clear R4 C4 R5 C5
  go_upto_region 16 with (go_at_call 16; refine hS.mono ?_; rintro e w6 ⟨rfl, r6, c6⟩)
  have R6 := H5.out.1.rset r6 c6
  have C6 := Chg.trans H5.out.2 c6 (fun i _ e => .inl e)
  have p0 := R6.mi.cell 0 _ rfl
  have p16 := R6.r.cell 16 (.int .u32 g.pc) (by unfold Rg.dset; split <;> rfl)
  have q16 := R6.r.fr 16
  obtain ⟨i7, c7⟩ := R6.r.set 16 (.int .u32 ((g.pc + 4) % 4294967296)) (g.dset X e5).on4 (by unfold Rg.dset; split <;> rfl)
  have HE : Hid (Rv w M x (g.dset X e5).on4 (x.lod a 1) (m.res { m.r with cyc := wrap64 (m.r.cyc + c), addr := a, lod := true, val := e5 }) _) := ⟨v1, R6.rset i7 c7, Chg.trans C6 c7 (fun i _ e => .inl e), HL.out⟩
  clear R6 C6 i7 c7 r6 c6 hS H3 H5 d2 d3 d13 f13 d14 f14 HO HL
  go_region
  go_wp2_with fail
  go_end0
  have hq := HQ.out
  subst hq
  exact ⟨rfl, HE.out.drew⟩
set_option maxRecDepth 100000 in
set_option maxHeartbeats 4000000 in
theorem rload_bad_25 (w : World) (M : Nat) (g : Rg) (x : Bd) (m : Mi) (h : Ro w M g x m) (hop : m.op = 25) (X Y : Nat) (hX : m.x = X) (hY : m.y = Y) (hX16 : X < 16) (hY16 : Y < 16) (hx : x.le 9999) (hv : 0 ≤ nxt x.vs x.iv ∧ nxt x.vs x.iv < 4294967296) (a : Int) (ha : (g.R Y + m.n % 4294967296) % 4294967296 = a) (f c : Int) (hf : nxt x.fa x.jf = f) (hc : nxt x.cy x.ic = c) (hf0 : f ≠ 0) :
    Calls Tryz.prog 19 #[.pointer (some ⟨M, 0, none⟩)] w (Rz w M x g (x.lod a 2) (m.res { m.r with cyc := wrap64 (m.r.cyc + c), addr := a, kind := 3, flt := f })) := by
  have c0 := h.mi.cell 0 _ rfl
  have c1 := h.mi.cell 1 _ rfl
  have c2 := h.mi.cell 2 _ rfl
  have c4 := h.mi.cell 4 _ rfl
  have c6 := h.mi.cell 6 _ rfl
  have cY := h.r.cell Y _ (rgc_R g Y hY16)
  rw [hop] at c2
  rw [hY] at c4
  have hYz : (Y : Int) < 16 := by omega
  have hL := fun W (r : Ro W M g x m) => load_any W m.bb x r.b (hx.more (by omega)) a 2
  have HR : Hid (Ro w M g x m ∧ x.le 9999) := ⟨h, hx⟩
  have HO : Hid (m.op = 25 ∧ m.x = X) := ⟨hop, hX⟩
  have hXz : (X : Int) < 16 := by omega
  have ln : m.bb < w.heap.size ∧ M < w.heap.size ∧ m.G < w.heap.size := ⟨hp_lt h.b.box, hp_lt h.mi, hp_lt h.r⟩
  rw [hf, hc] at hL
  generalize g.R Y = gy at *
  have ha' : (gy + m.n % 4294967296) % 4294967296 = a := ha
  clear h hx hop hX hY hf hc ha
  go_enter Tryz.func19, Tryz.ntmps19
  go_upto_region 1 with (fail)
  obtain ⟨w0, hw0⟩ : ∃ w0, w0 = w.alloc (.cells #[.int .i64 1, .int .i64 1, .int .i64 2, .int .i64 2, .int .i64 4] 3) := ⟨_, rfl⟩
  have k0 : Kp w w0 := by rw [hw0]; exact (Chg.refl w _).alloc _
  rw [← hw0]
  clear hw0
  have d0 := Kp.cell k0 c0
  have d1 := Kp.cell k0 c1
  have d4 := Kp.cell k0 c4
  have d6 := Kp.cell k0 c6
  have dY := Kp.cell k0 cY
  have HK : Hid (Kp w w0) := k0
  clear c0 c1 c2 c4 c6 cY k0
  go_quiet (fail)
  go_upto_region 3 with (go_at_call 31; refine (hL _ (HR.out.1.kp (HK.out.drewN _))).mono ?_; rintro e w1 ⟨rfl, hbo⟩)
  obtain ⟨v1, R1, C1, L1⟩ := Ro.bus (HR.out.1.kp (HK.out.drewN _)) hbo (fun k => Iff.rfl)
  clear hbo hL d0 d1 d4 d6 dY ha'
  have d8 := R1.mi.cell 8 (.int .i64 m.r.cyc) rfl
  have f8 := R1.mi.fr 8
  obtain ⟨R2, C2⟩ := R1.mset 8 (.int .i64 (wrap64 (m.r.cyc + c))) (m.res { m.r with cyc := wrap64 (m.r.cyc + c) }) rfl rfl rfl
  have d11 := R2.mi.cell 11 (.int .u32 m.r.addr) rfl
  have f11 := R2.mi.fr 11
  obtain ⟨R3, C3⟩ := R2.mset 11 (.int .u32 a) (m.res { m.r with cyc := wrap64 (m.r.cyc + c), addr := a }) rfl rfl rfl
  obtain ⟨w3, hw3⟩ : ∃ w3, w3 = (w1.setCell ⟨M, 8, none⟩ (.int .i64 (wrap64 (m.r.cyc + c)))).setCell ⟨M, 11, none⟩ (.int .u32 a) := ⟨_, rfl⟩
  rw [← hw3] at R3 C3
  have H3 : Hid (Ro w3 M g ((x.lod a 2).lvTo v1) (m.res { m.r with cyc := wrap64 (m.r.cyc + c), addr := a }) ∧ Chg w w3 (fun k => k = m.G ∨ k = M ∨ x.own m.bb k)) := ⟨R3, Chg.trans (Chg.trans (Kp.any (HK.out.drewN _)) C1 (fun i _ e => .inr (.inr e))) (Chg.trans C2 C3 (fun _ _ e => e)) (fun i _ e => .inr (.inl e))⟩
  have HL : Hid (v1.ownBlock = x.lv.ownBlock ∨ ∃ k, v1.ownBlock = some k ∧ w.heap.size ≤ k) := by
    rcases L1 with l | ⟨k, l, hk⟩
    · exact .inl l
    · exact .inr ⟨k, l, Nat.le_trans (HK.out.drewN _).size hk⟩
  clear R1 C1 L1 R2 C2 R3 C3 HR HK ln
  have bf : (f == 0) = false := by simpa using hf0
  go_upto_region 5 with (fail)
  rw [← hw3]
  clear hw3 d8 f8 d11 f11
  have d7 := H3.out.1.mi.cell 7 _ rfl
  have f7 := H3.out.1.mi.fr 7
  obtain ⟨R4, C4⟩ := H3.out.1.mset 7 (.int .i64 3) (m.res { m.r with cyc := wrap64 (m.r.cyc + c), addr := a, kind := 3 }) rfl rfl rfl
  have d10 := R4.mi.cell 10 _ rfl
  have f10 := R4.mi.fr 10
  obtain ⟨R5, C5⟩ := R4.mset 10 (.int .i64 f) (m.res { m.r with cyc := wrap64 (m.r.cyc + c), addr := a, kind := 3, flt := f }) rfl rfl rfl
  have HE : Hid (Rv w M x g (x.lod a 2) (m.res { m.r with cyc := wrap64 (m.r.cyc + c), addr := a, kind := 3, flt := f }) _) := ⟨v1, R5, Chg.trans H3.out.2 (Chg.trans C4 C5 (fun _ _ e => e)) (fun i _ e => .inr (.inl e)), HL.out⟩
  clear R4 C4 R5 C5
  go_wp2_with fail
  refine bodyPost_ret (results_none rfl _ _ _) rfl ?_
  exact ⟨rfl, HE.out⟩
set_option maxRecDepth 100000 in
set_option maxHeartbeats 4000000 in
theorem rload_ok_25 (w : World) (M : Nat) (g : Rg) (x : Bd) (m : Mi) (h : Ro w M g x m) (hop : m.op = 25) (X Y : Nat) (hX : m.x = X) (hY : m.y = Y) (hX16 : X < 16) (hY16 : Y < 16) (hx : x.le 9999) (hv : 0 ≤ nxt x.vs x.iv ∧ nxt x.vs x.iv < 4294967296) (a : Int) (ha : (g.R Y + m.n % 4294967296) % 4294967296 = a) (f c : Int) (hf : nxt x.fa x.jf = f) (hc : nxt x.cy x.ic = c) (hf0 : f = 0) :
    Calls Tryz.prog 19 #[.pointer (some ⟨M, 0, none⟩)] w (Rz w M x (g.dset X (wi_lh (nxt x.vs x.iv))).on4 (x.lod a 2) (m.res { m.r with cyc := wrap64 (m.r.cyc + c), addr := a, lod := true, val := wi_lh (nxt x.vs x.iv) })) := by
  have c0 := h.mi.cell 0 _ rfl
  have c1 := h.mi.cell 1 _ rfl
  have c2 := h.mi.cell 2 _ rfl
  have c4 := h.mi.cell 4 _ rfl
  have c6 := h.mi.cell 6 _ rfl
  have cY := h.r.cell Y _ (rgc_R g Y hY16)
  rw [hop] at c2
  rw [hY] at c4
  have hYz : (Y : Int) < 16 := by omega
  have hL := fun W (r : Ro W M g x m) => load_any W m.bb x r.b (hx.more (by omega)) a 2
  have HR : Hid (Ro w M g x m ∧ x.le 9999) := ⟨h, hx⟩
  have HO : Hid (m.op = 25 ∧ m.x = X) := ⟨hop, hX⟩
  have hXz : (X : Int) < 16 := by omega
  have ln : m.bb < w.heap.size ∧ M < w.heap.size ∧ m.G < w.heap.size := ⟨hp_lt h.b.box, hp_lt h.mi, hp_lt h.r⟩
  rw [hf, hc] at hL
  generalize g.R Y = gy at *
  have ha' : (gy + m.n % 4294967296) % 4294967296 = a := ha
  clear h hx hop hX hY hf hc ha
  go_enter Tryz.func19, Tryz.ntmps19
  go_upto_region 1 with (fail)
  obtain ⟨w0, hw0⟩ : ∃ w0, w0 = w.alloc (.cells #[.int .i64 1, .int .i64 1, .int .i64 2, .int .i64 2, .int .i64 4] 3) := ⟨_, rfl⟩
  have k0 : Kp w w0 := by rw [hw0]; exact (Chg.refl w _).alloc _
  rw [← hw0]
  clear hw0
  have d0 := Kp.cell k0 c0
  have d1 := Kp.cell k0 c1
  have d4 := Kp.cell k0 c4
  have d6 := Kp.cell k0 c6
  have dY := Kp.cell k0 cY
  have HK : Hid (Kp w w0) := k0
  clear c0 c1 c2 c4 c6 cY k0
  go_quiet (fail)
  go_upto_region 3 with (go_at_call 31; refine (hL _ (HR.out.1.kp (HK.out.drewN _))).mono ?_; rintro e w1 ⟨rfl, hbo⟩)
  obtain ⟨v1, R1, C1, L1⟩ := Ro.bus (HR.out.1.kp (HK.out.drewN _)) hbo (fun k => Iff.rfl)
  clear hbo hL d0 d1 d4 d6 dY ha'
  have d8 := R1.mi.cell 8 (.int .i64 m.r.cyc) rfl
  have f8 := R1.mi.fr 8
  obtain ⟨R2, C2⟩ := R1.mset 8 (.int .i64 (wrap64 (m.r.cyc + c))) (m.res { m.r with cyc := wrap64 (m.r.cyc + c) }) rfl rfl rfl
  have d11 := R2.mi.cell 11 (.int .u32 m.r.addr) rfl
  have f11 := R2.mi.fr 11
  obtain ⟨R3, C3⟩ := R2.mset 11 (.int .u32 a) (m.res { m.r with cyc := wrap64 (m.r.cyc + c), addr := a }) rfl rfl rfl
  obtain ⟨w3, hw3⟩ : ∃ w3, w3 = (w1.setCell ⟨M, 8, none⟩ (.int .i64 (wrap64 (m.r.cyc + c)))).setCell ⟨M, 11, none⟩ (.int .u32 a) := ⟨_, rfl⟩
  rw [← hw3] at R3 C3
  have H3 : Hid (Ro w3 M g ((x.lod a 2).lvTo v1) (m.res { m.r with cyc := wrap64 (m.r.cyc + c), addr := a }) ∧ Chg w w3 (fun k => k = m.G ∨ k = M ∨ x.own m.bb k)) := ⟨R3, Chg.trans (Chg.trans (Kp.any (HK.out.drewN _)) C1 (fun i _ e => .inr (.inr e))) (Chg.trans C2 C3 (fun _ _ e => e)) (fun i _ e => .inr (.inl e))⟩
  have HL : Hid (v1.ownBlock = x.lv.ownBlock ∨ ∃ k, v1.ownBlock = some k ∧ w.heap.size ≤ k) := by
    rcases L1 with l | ⟨k, l, hk⟩
    · exact .inl l
    · exact .inr ⟨k, l, Nat.le_trans (HK.out.drewN _).size hk⟩
  clear R1 C1 L1 R2 C2 R3 C3 HR HK ln
  subst hf0
  generalize nxt x.vs x.iv = vv at *
  go_upto_region 5 with (fail)
  rw [← hw3]
  clear hw3 d8 f8 d11 f11
  obtain ⟨e5, he5⟩ : ∃ e5, e5 = wi_lh vv := ⟨_, rfl⟩
  have HQ : Hid (e5 = wi_lh vv) := he5
  obtain ⟨b5, hb5⟩ : ∃ b5, b5 = vv % 65536 := ⟨_, rfl⟩
  have bb5 : 0 ≤ b5 ∧ b5 < 65536 := by omega
  have he6 : vv.tmod 65536 = b5 := by rw [Int.tmod_eq_emod_of_nonneg hv.1, hb5]
  have hSg := fun w => signed_16 w b5 bb5
  obtain ⟨s5, hs5⟩ : ∃ s5, s5 = (if 32768 ≤ b5 then b5 - 65536 else b5) := ⟨_, rfl⟩
  rw [← hs5] at hSg
  have he5' : s5 % 4294967296 = e5 := by
    rw [he5, hs5, hb5]; unfold wi_lh; simp [IntKind.wrap, IntKind.bits, IntKind.signed] <;> (try (split <;> omega))
  have hbs : -32768 ≤ s5 ∧ s5 ≤ 32767 := by rw [hs5]; split <;> omega
  clear he5 hs5 hb5
  have d2 := H3.out.1.mi.cell 2 (.int .i64 25) (by show some (Value.int .i64 m.op) = _; rw [HO.out.1])
  go_upto_region 13 with (go_at_call 28; refine (hSg _).mono ?_; rintro e w4 ⟨rfl, k4⟩)
  have H4 : Hid (Ro w4 M g ((x.lod a 2).lvTo v1) (m.res { m.r with cyc := wrap64 (m.r.cyc + c), addr := a }) ∧ Chg w w4 (fun k => k = m.G ∨ k = M ∨ x.own m.bb k)) := ⟨H3.out.1.kp k4, Chg.trans H3.out.2 k4 (fun _ _ e => e.elim)⟩
  clear H3 d2 k4 hSg
  have H3 := H4
  clear H4
  have d13 := H3.out.1.mi.cell 13 _ rfl
  have f13 := H3.out.1.mi.fr 13
  have d2 := H3.out.1.mi.cell 2 (.int .i64 25) (by show some (Value.int .i64 m.op) = _; rw [HO.out.1])
  obtain ⟨R4, C4⟩ := H3.out.1.mset 13 (.bool true) (m.res { m.r with cyc := wrap64 (m.r.cyc + c), addr := a, lod := true }) rfl rfl rfl
  have d14 := R4.mi.cell 14 _ rfl
  have f14 := R4.mi.fr 14
  obtain ⟨R5, C5⟩ := R4.mset 14 (.int .u32 e5) (m.res { m.r with cyc := wrap64 (m.r.cyc + c), addr := a, lod := true, val := e5 }) rfl rfl rfl
  have d3 := R5.mi.cell 3 (.int .i64 (X : Nat)) (by show some (Value.int .i64 m.x) = _; rw [HO.out.2])
  have hS := rset_any _ M g _ R5.mi R5.r X hX16 e5
  have H5 : Hid (Ro ((w4.setCell ⟨M, 13, none⟩ (.bool true)).setCell ⟨M, 14, none⟩ (.int .u32 e5)) M g ((x.lod a 2).lvTo v1) (m.res { m.r with cyc := wrap64 (m.r.cyc + c), addr := a, lod := true, val := e5 }) ∧ Chg w ((w4.setCell ⟨M, 13, none⟩ (.bool true)).setCell ⟨M, 14, none⟩ (.int .u32 e5)) (fun k => k = m.G ∨ k = M ∨ x.own m.bb k)) := ⟨R5, Chg.trans H3.out.2 (Chg.trans C4 C5 (fun _ _ e => e)) (fun i _ e => .inr (.inl e))⟩
  clear R4 C4 R5 C5
  go_upto_region 16 with (go_at_call 16; refine hS.mono ?_; rintro e w6 ⟨rfl, r6, c6⟩)
  have R6 := H5.out.1.rset r6 c6
  have C6 := Chg.trans H5.out.2 c6 (fun i _ e => .inl e)
  have p0 := R6.mi.cell 0 _ rfl
  have p16 := R6.r.cell 16 (.int .u32 g.pc) (by unfold Rg.dset; split <;> rfl)
  have q16 := R6.r.fr 16
  obtain ⟨i7, c7⟩ := R6.r.set 16 (.int .u32 ((g.pc + 4) % 4294967296)) (g.dset X e5).on4 (by unfold Rg.dset; split <;> rfl)
  have HE : Hid (Rv w M x (g.dset X e5).on4 (x.lod a 2) (m.res { m.r with cyc := wrap64 (m.r.cyc + c), addr := a, lod := true, val := e5 }) _) := ⟨v1, R6.rset i7 c7, Chg.trans C6 c7 (fun i _ e => .inl e), HL.out⟩
  clear R6 C6 i7 c7 r6 c6 hS H3 H5 d2 d3 d13 f13 d14 f14 HO HL
  go_region
  go_wp2_with fail
  go_end0
  have hq := HQ.out
  subst hq
  exact ⟨rfl, HE.out.drew⟩
set_option maxRecDepth 100000 in
set_option maxHeartbeats 4000000 in
theorem rload_bad_26 (w : World) (M : Nat) (g : Rg) (x : Bd) (m : Mi) (h : Ro w M g x m) (hop : m.op = 26) (X Y : Nat) (hX : m.x = X) (hY : m.y = Y) (hX16 : X < 16) (hY16 : Y < 16) (hx : x.le 9999) (hv : 0 ≤ nxt x.vs x.iv ∧ nxt x.vs x.iv < 4294967296) (a : Int) (ha : (g.R Y + m.n % 4294967296) % 4294967296 = a) (f c : Int) (hf : nxt x.fa x.jf = f) (hc : nxt x.cy x.ic = c) (hf0 : f ≠ 0) :
    Calls Tryz.prog 19 #[.pointer (some ⟨M, 0, none⟩)] w (Rz w M x g (x.lod a 2) (m.res { m.r with cyc := wrap64 (m.r.cyc + c), addr := a, kind := 3, flt := f })) := by
  have c0 := h.mi.cell 0 _ rfl
  have c1 := h.mi.cell 1 _ rfl
  have c2 := h.mi.cell 2 _ rfl
  have c4 := h.mi.cell 4 _ rfl
  have c6 := h.mi.cell 6 _ rfl
  have cY := h.r.cell Y _ (rgc_R g Y hY16)
  rw [hop] at c2
  rw [hY] at c4
  have hYz : (Y : Int) < 16 := by omega
  have hL := fun W (r : Ro W M g x m) => load_any W m.bb x r.b (hx.more (by omega)) a 2
  have HR : Hid (Ro w M g x m ∧ x.le 9999) := ⟨h, hx⟩
  have HO : Hid (m.op = 26 ∧ m.x = X) := ⟨hop, hX⟩
  have hXz : (X : Int) < 16 := by omega
  have ln : m.bb < w.heap.size ∧ M < w.heap.size ∧ m.G < w.heap.size := ⟨hp_lt h.b.box, hp_lt h.mi, hp_lt h.r⟩
  rw [hf, hc] at hL
  generalize g.R Y = gy at *
  have ha' : (gy + m.n % 4294967296) % 4294967296 = a := ha
  clear h hx hop hX hY hf hc ha
  go_enter Tryz.func19, Tryz.ntmps19
  go_upto_region 1 with (fail)
  obtain ⟨w0, hw0⟩ : ∃ w0, w0 = w.alloc (.cells #[.int .i64 1, .int .i64 1, .int .i64 2, .int .i64 2, .int .i64 4] 3) := ⟨_, rfl⟩
  have k0 : Kp w w0 := by rw [hw0]; exact (Chg.refl w _).alloc _
  rw [← hw0]
  clear hw0
  have d0 := Kp.cell k0 c0
  have d1 := Kp.cell k0 c1
  have d4 := Kp.cell k0 c4
  have d6 := Kp.cell k0 c6
  have dY := Kp.cell k0 cY
  have HK : Hid (Kp w w0) := k0
  clear c0 c1 c2 c4 c6 cY k0
  go_quiet (fail)
  go_upto_region 3 with (go_at_call 31; refine (hL _ (HR.out.1.kp (HK.out.drewN _))).mono ?_; rintro e w1 ⟨rfl, hbo⟩)
  obtain ⟨v1, R1, C1, L1⟩ := Ro.bus (HR.out.1.kp (HK.out.drewN _)) hbo (fun k => Iff.rfl)
  clear hbo hL d0 d1 d4 d6 dY ha'
  have d8 := R1.mi.cell 8 (.int .i64 m.r.cyc) rfl
  have f8 := R1.mi.fr 8
  obtain ⟨R2, C2⟩ := R1.mset 8 (.int .i64 (wrap64 (m.r.cyc + c))) (m.res { m.r with cyc := wrap64 (m.r.cyc + c) }) rfl rfl rfl
  have d11 := R2.mi.cell 11 (.int .u32 m.r.addr) rfl
  have f11 := R2.mi.fr 11
  obtain ⟨R3, C3⟩ := R2.mset 11 (.int .u32 a) (m.res { m.r with cyc := wrap64 (m.r.cyc + c), addr := a }) rfl rfl rfl
  obtain ⟨w3, hw3⟩ : ∃ w3, w3 = (w1.setCell ⟨M, 8, none⟩ (.int .i64 (wrap64 (m.r.cyc + c)))).setCell ⟨M, 11, none⟩ (.int .u32 a) := ⟨_, rfl⟩
  rw [← hw3] at R3 C3
  have H3 : Hid (Ro w3 M g ((x.lod a 2).lvTo v1) (m.res { m.r with cyc := wrap64 (m.r.cyc + c), addr := a }) ∧ Chg w w3 (fun k => k = m.G ∨ k = M ∨ x.own m.bb k)) := ⟨R3, Chg.trans (Chg.trans (Kp.any (HK.out.drewN _)) C1 (fun i _ e => .inr (.inr e))) (Chg.trans C2 C3 (fun _ _ e => e)) (fun i _ e => .inr (.inl e))⟩
  have HL : Hid (v1.ownBlock = x.lv.ownBlock ∨ ∃ k, v1.ownBlock = some k ∧ w.heap.size ≤ k) := by
    rcases L1 with l | ⟨k, l, hk⟩
    · exact .inl l
    · exact .inr ⟨k, l, Nat.le_trans (HK.out.drewN _).size hk⟩
  clear R1 C1 L1 R2 C2 R3 C3 HR HK ln
  have bf : (f == 0) = false := by simpa using hf0
  go_upto_region 5 with (fail)
  rw [← hw3]
  clear hw3 d8 f8 d11 f11
  have d7 := H3.out.1.mi.cell 7 _ rfl
  have f7 := H3.out.1.mi.fr 7
  obtain ⟨R4, C4⟩ := H3.out.1.mset 7 (.int .i64 3) (m.res { m.r with cyc := wrap64 (m.r.cyc + c), addr := a, kind := 3 }) rfl rfl rfl
  have d10 := R4.mi.cell 10 _ rfl
  have f10 := R4.mi.fr 10
  obtain ⟨R5, C5⟩ := R4.mset 10 (.int .i64 f) (m.res { m.r with cyc := wrap64 (m.r.cyc + c), addr := a, kind := 3, flt := f }) rfl rfl rfl
  have HE : Hid (Rv w M x g (x.lod a 2) (m.res { m.r with cyc := wrap64 (m.r.cyc + c), addr := a, kind := 3, flt := f }) _) := ⟨v1, R5, Chg.trans H3.out.2 (Chg.trans C4 C5 (fun _ _ e => e)) (fun i _ e => .inr (.inl e)), HL.out⟩
  clear R4 C4 R5 C5
  go_wp2_with fail
  refine bodyPost_ret (results_none rfl _ _ _) rfl ?_
  exact ⟨rfl, HE.out⟩
set_option maxRecDepth 100000 in
set_option maxHeartbeats 4000000 in
theorem rload_ok_26 (w : World) (M : Nat) (g : Rg) (x : Bd) (m : Mi) (h : Ro w M g x m) (hop : m.op = 26) (X Y : Nat) (hX : m.x = X) (hY : m.y = Y) (hX16 : X < 16) (hY16 : Y < 16) (hx : x.le 9999) (hv : 0 ≤ nxt x.vs x.iv ∧ nxt x.vs x.iv < 4294967296) (a : Int) (ha : (g.R Y + m.n % 4294967296) % 4294967296 = a) (f c : Int) (hf : nxt x.fa x.jf = f) (hc : nxt x.cy x.ic = c) (hf0 : f = 0) :
    Calls Tryz.prog 19 #[.pointer (some ⟨M, 0, none⟩)] w (Rz w M x (g.dset X (wi_lhu (nxt x.vs x.iv))).on4 (x.lod a 2) (m.res { m.r with cyc := wrap64 (m.r.cyc + c), addr := a, lod := true, val := wi_lhu (nxt x.vs x.iv) })) := by
  have c0 := h.mi.cell 0 _ rfl
  have c1 := h.mi.cell 1 _ rfl
  have c2 := h.mi.cell 2 _ rfl
  have c4 := h.mi.cell 4 _ rfl
  have c6 := h.mi.cell 6 _ rfl
  have cY := h.r.cell Y _ (rgc_R g Y hY16)
  rw [hop] at c2
  rw [hY] at c4
  have hYz : (Y : Int) < 16 := by omega
  have hL := fun W (r : Ro W M g x m) => load_any W m.bb x r.b (hx.more (by omega)) a 2
  have HR : Hid (Ro w M g x m ∧ x.le 9999) := ⟨h, hx⟩
  have HO : Hid (m.op = 26 ∧ m.x = X) := ⟨hop, hX⟩
  have hXz : (X : Int) < 16 := by omega
  have ln : m.bb < w.heap.size ∧ M < w.heap.size ∧ m.G < w.heap.size := ⟨hp_lt h.b.box, hp_lt h.mi, hp_lt h.r⟩
  rw [hf, hc] at hL
  generalize g.R Y = gy at *
  have ha' : (gy + m.n % 4294967296) % 4294967296 = a := ha
  clear h hx hop hX hY hf hc ha
  go_enter Tryz.func19, Tryz.ntmps19
  go_upto_region 1 with (fail)
  obtain ⟨w0, hw0⟩ : ∃ w0, w0 = w.alloc (.cells #[.int .i64 1, .int .i64 1, .int .i64 2, .int .i64 2, .int .i64 4] 3) := ⟨_, rfl⟩
  have k0 : Kp w w0 := by rw [hw0]; exact (Chg.refl w _).alloc _
  rw [← hw0]
  clear hw0
  have d0 := Kp.cell k0 c0
  have d1 := Kp.cell k0 c1
  have d4 := Kp.cell k0 c4
  have d6 := Kp.cell k0 c6
  have dY := Kp.cell k0 cY
  have HK : Hid (Kp w w0) := k0
  clear c0 c1 c2 c4 c6 cY k0
  go_quiet (fail)
  go_upto_region 3 with (go_at_call 31; refine (hL _ (HR.out.1.kp (HK.out.drewN _))).mono ?_; rintro e w1 ⟨rfl, hbo⟩)
  obtain ⟨v1, R1, C1, L1⟩ := Ro.bus (HR.out.1.kp (HK.out.drewN _)) hbo (fun k => Iff.rfl)
  clear hbo hL d0 d1 d4 d6 dY ha'
  have d8 := R1.mi.cell 8 (.int .i64 m.r.cyc) rfl
  have f8 := R1.mi.fr 8
  obtain ⟨R2, C2⟩ := R1.mset 8 (.int .i64 (wrap64 (m.r.cyc + c))) (m.res { m.r with cyc := wrap64 (m.r.cyc + c) }) rfl rfl rfl
  have d11 := R2.mi.cell 11 (.int .u32 m.r.addr) rfl
  have f11 := R2.mi.fr 11
  obtain ⟨R3, C3⟩ := R2.mset 11 (.int .u32 a) (m.res { m.r with cyc := wrap64 (m.r.cyc + c), addr := a }) rfl rfl rfl
  obtain ⟨w3, hw3⟩ : ∃ w3, w3 = (w1.setCell ⟨M, 8, none⟩ (.int .i64 (wrap64 (m.r.cyc + c)))).setCell ⟨M, 11, none⟩ (.int .u32 a) := ⟨_, rfl⟩
  rw [← hw3] at R3 C3
  have H3 : Hid (Ro w3 M g ((x.lod a 2).lvTo v1) (m.res { m.r with cyc := wrap64 (m.r.cyc + c), addr := a }) ∧ Chg w w3 (fun k => k = m.G ∨ k = M ∨ x.own m.bb k)) := ⟨R3, Chg.trans (Chg.trans (Kp.any (HK.out.drewN _)) C1 (fun i _ e => .inr (.inr e))) (Chg.trans C2 C3 (fun _ _ e => e)) (fun i _ e => .inr (.inl e))⟩
  have HL : Hid (v1.ownBlock = x.lv.ownBlock ∨ ∃ k, v1.ownBlock = some k ∧ w.heap.size ≤ k) := by
    rcases L1 with l | ⟨k, l, hk⟩
    · exact .inl l
    · exact .inr ⟨k, l, Nat.le_trans (HK.out.drewN _).size hk⟩
  clear R1 C1 L1 R2 C2 R3 C3 HR HK ln
  subst hf0
  generalize nxt x.vs x.iv = vv at *
  go_upto_region 5 with (fail)
  rw [← hw3]
  clear hw3 d8 f8 d11 f11
  obtain ⟨e5, he5⟩ : ∃ e5, e5 = wi_lhu vv := ⟨_, rfl⟩
  have HQ : Hid (e5 = wi_lhu vv) := he5
  have he5' : vv % 65536 = e5 := by rw [he5]; unfold wi_lhu; simp [IntKind.wrap, IntKind.bits, IntKind.signed]; omega
  have he6 : vv.tmod 65536 = e5 := by rw [Int.tmod_eq_emod_of_nonneg hv.1]; exact he5'
  have hb5 : 0 ≤ e5 ∧ e5 < 65536 := by omega
  clear he5
  have d13 := H3.out.1.mi.cell 13 _ rfl
  have f13 := H3.out.1.mi.fr 13
  have d2 := H3.out.1.mi.cell 2 (.int .i64 26) (by show some (Value.int .i64 m.op) = _; rw [HO.out.1])
  obtain ⟨R4, C4⟩ := H3.out.1.mset 13 (.bool true) (m.res { m.r with cyc := wrap64 (m.r.cyc + c), addr := a, lod := true }) rfl rfl rfl
  have d14 := R4.mi.cell 14 _ rfl
  have f14 := R4.mi.fr 14
  obtain ⟨R5, C5⟩ := R4.mset 14 (.int .u32 e5) (m.res { m.r with cyc := wrap64 (m.r.cyc + c), addr := a, lod := true, val := e5 }) rfl rfl rfl
  have d3 := R5.mi.cell 3 (.int .i64 (X : Nat)) (by show some (Value.int .i64 m.x) = _; rw [HO.out.2])
  have hS := rset_any _ M g _ R5.mi R5.r X hX16 e5
  have H5 : Hid (Ro ((w3.setCell ⟨M, 13, none⟩ (.bool true)).setCell ⟨M, 14, none⟩ (.int .u32 e5)) M g ((x.lod a 2).lvTo v1) (m.res { m.r with cyc := wrap64 (m.r.cyc + c), addr := a, lod := true, val := e5 }) ∧ Chg w ((w3.setCell ⟨M, 13, none⟩ (.bool true)).setCell ⟨M, 14, none⟩ (.int .u32 e5)) (fun k => k = m.G ∨ k = M ∨ x.own m.bb k)) := ⟨R5, Chg.trans H3.out.2 (Chg.trans C4 C5 (fun _ _ e => e)) (fun i _ e => .inr (.inl e))⟩
  clear R4 C4 R5 C5
  go_upto_region 16 with (go_at_call 16; refine hS.mono ?_; rintro e w6 ⟨rfl, r6, c6⟩)
  have R6 := H5.out.1.rset r6 c6
  have C6 := Chg.trans H5.out.2 c6 (fun i _ e => .inl e)
  have p0 := R6.mi.cell 0 _ rfl
  have p16 := R6.r.cell 16 (.int .u32 g.pc) (by unfold Rg.dset; split <;> rfl)
  have q16 := R6.r.fr 16
  obtain ⟨i7, c7⟩ := R6.r.set 16 (.int .u32 ((g.pc + 4) % 4294967296)) (g.dset X e5).on4 (by unfold Rg.dset; split <;> rfl)
  have HE : Hid (Rv w M x (g.dset X e5).on4 (x.lod a 2) (m.res { m.r with cyc := wrap64 (m.r.cyc + c), addr := a, lod := true, val := e5 }) _) := ⟨v1, R6.rset i7 c7, Chg.trans C6 c7 (fun i _ e => .inl e), HL.out⟩
  clear R6 C6 i7 c7 r6 c6 hS H3 H5 d2 d3 d13 f13 d14 f14 HO HL
  go_region
  go_wp2_with fail
  go_end0
  have hq := HQ.out
  subst hq
  exact ⟨rfl, HE.out.drew⟩
set_option maxRecDepth 100000 in
set_option maxHeartbeats 4000000 in
theorem rload_bad_27 (w : World) (M : Nat) (g : Rg) (x : Bd) (m : Mi) (h : Ro w M g x m) (hop : m.op = 27) (X Y : Nat) (hX : m.x = X) (hY : m.y = Y) (hX16 : X < 16) (hY16 : Y < 16) (hx : x.le 9999) (hv : 0 ≤ nxt x.vs x.iv ∧ nxt x.vs x.iv < 4294967296) (a : Int) (ha : (g.R Y + m.n % 4294967296) % 4294967296 = a) (f c : Int) (hf : nxt x.fa x.jf = f) (hc : nxt x.cy x.ic = c) (hf0 : f ≠ 0) :
    Calls Tryz.prog 19 #[.pointer (some ⟨M, 0, none⟩)] w (Rz w M x g (x.lod a 4) (m.res { m.r with cyc := wrap64 (m.r.cyc + c), addr := a, kind := 3, flt := f })) := by
  have c0 := h.mi.cell 0 _ rfl
  have c1 := h.mi.cell 1 _ rfl
  have c2 := h.mi.cell 2 _ rfl
  have c4 := h.mi.cell 4 _ rfl
  have c6 := h.mi.cell 6 _ rfl
  have cY := h.r.cell Y _ (rgc_R g Y hY16)
  rw [hop] at c2
  rw [hY] at c4
  have hYz : (Y : Int) < 16 := by omega
  have hL := fun W (r : Ro W M g x m) => load_any W m.bb x r.b (hx.more (by omega)) a 4
  have HR : Hid (Ro w M g x m ∧ x.le 9999) := ⟨h, hx⟩
  have HO : Hid (m.op = 27 ∧ m.x = X) := ⟨hop, hX⟩
  have hXz : (X : Int) < 16 := by omega
  have ln : m.bb < w.heap.size ∧ M < w.heap.size ∧ m.G < w.heap.size := ⟨hp_lt h.b.box, hp_lt h.mi, hp_lt h.r⟩
  rw [hf, hc] at hL
  generalize g.R Y = gy at *
  have ha' : (gy + m.n % 4294967296) % 4294967296 = a := ha
  clear h hx hop hX hY hf hc ha
  go_enter Tryz.func19, Tryz.ntmps19
  go_upto_region 1 with (fail)
  obtain ⟨w0, hw0⟩ : ∃ w0, w0 = w.alloc (.cells #[.int .i64 1, .int .i64 1, .int .i64 2, .int .i64 2, .int .i64 4] 3) := ⟨_, rfl⟩
  have k0 : Kp w w0 := by rw [hw0]; exact (Chg.refl w _).alloc _
  rw [← hw0]
  clear hw0
  have d0 := Kp.cell k0 c0
  have d1 := Kp.cell k0 c1
  have d4 := Kp.cell k0 c4
  have d6 := Kp.cell k0 c6
  have dY := Kp.cell k0 cY
  have HK : Hid (Kp w w0) := k0
  clear c0 c1 c2 c4 c6 cY k0
  go_quiet (fail)
  go_upto_region 3 with (go_at_call 31; refine (hL _ (HR.out.1.kp (HK.out.drewN _))).mono ?_; rintro e w1 ⟨rfl, hbo⟩)
  obtain ⟨v1, R1, C1, L1⟩ := Ro.bus (HR.out.1.kp (HK.out.drewN _)) hbo (fun k => Iff.rfl)
  clear hbo hL d0 d1 d4 d6 dY ha'
  have d8 := R1.mi.cell 8 (.int .i64 m.r.cyc) rfl
  have f8 := R1.mi.fr 8
  obtain ⟨R2, C2⟩ := R1.mset 8 (.int .i64 (wrap64 (m.r.cyc + c))) (m.res { m.r with cyc := wrap64 (m.r.cyc + c) }) rfl rfl rfl
  have d11 := R2.mi.cell 11 (.int .u32 m.r.addr) rfl
  have f11 := R2.mi.fr 11
  obtain ⟨R3, C3⟩ := R2.mset 11 (.int .u32 a) (m.res { m.r with cyc := wrap64 (m.r.cyc + c), addr := a }) rfl rfl rfl
  obtain ⟨w3, hw3⟩ : ∃ w3, w3 = (w1.setCell ⟨M, 8, none⟩ (.int .i64 (wrap64 (m.r.cyc + c)))).setCell ⟨M, 11, none⟩ (.int .u32 a) := ⟨_, rfl⟩
  rw [← hw3] at R3 C3
  have H3 : Hid (Ro w3 M g ((x.lod a 4).lvTo v1) (m.res { m.r with cyc := wrap64 (m.r.cyc + c), addr := a }) ∧ Chg w w3 (fun k => k = m.G ∨ k = M ∨ x.own m.bb k)) := ⟨R3, Chg.trans (Chg.trans (Kp.any (HK.out.drewN _)) C1 (fun i _ e => .inr (.inr e))) (Chg.trans C2 C3 (fun _ _ e => e)) (fun i _ e => .inr (.inl e))⟩
  have HL : Hid (v1.ownBlock = x.lv.ownBlock ∨ ∃ k, v1.ownBlock = some k ∧ w.heap.size ≤ k) := by
    rcases L1 with l | ⟨k, l, hk⟩
    · exact .inl l
    · exact .inr ⟨k, l, Nat.le_trans (HK.out.drewN _).size hk⟩
  clear R1 C1 L1 R2 C2 R3 C3 HR HK ln
  have bf : (f == 0) = false := by simpa using hf0
  go_upto_region 5 with (fail)
  rw [← hw3]
  clear hw3 d8 f8 d11 f11
  have d7 := H3.out.1.mi.cell 7 _ rfl
  have f7 := H3.out.1.mi.fr 7
  obtain ⟨R4, C4⟩ := H3.out.1.mset 7 (.int .i64 3) (m.res { m.r with cyc := wrap64 (m.r.cyc + c), addr := a, kind := 3 }) rfl rfl rfl
  have d10 := R4.mi.cell 10 _ rfl
  have f10 := R4.mi.fr 10
  obtain ⟨R5, C5⟩ := R4.mset 10 (.int .i64 f) (m.res { m.r with cyc := wrap64 (m.r.cyc + c), addr := a, kind := 3, flt := f }) rfl rfl rfl
  have HE : Hid (Rv w M x g (x.lod a 4) (m.res { m.r with cyc := wrap64 (m.r.cyc + c), addr := a, kind := 3, flt := f }) _) := ⟨v1, R5, Chg.trans H3.out.2 (Chg.trans C4 C5 (fun _ _ e => e)) (fun i _ e => .inr (.inl e)), HL.out⟩
  clear R4 C4 R5 C5
  go_wp2_with fail
  refine bodyPost_ret (results_none rfl _ _ _) rfl ?_
  exact ⟨rfl, HE.out⟩
set_option maxRecDepth 100000 in
set_option maxHeartbeats 4000000 in
theorem rload_ok_27 (w : World) (M : Nat) (g : Rg) (x : Bd) (m : Mi) (h : Ro w M g x m) (hop : m.op = 27) (X Y : Nat) (hX : m.x = X) (hY : m.y = Y) (hX16 : X < 16) (hY16 : Y < 16) (hx : x.le 9999) (hv : 0 ≤ nxt x.vs x.iv ∧ nxt x.vs x.iv < 4294967296) (a : Int) (ha : (g.R Y + m.n % 4294967296) % 4294967296 = a) (f c : Int) (hf : nxt x.fa x.jf = f) (hc : nxt x.cy x.ic = c) (hf0 : f = 0) :
    Calls Tryz.prog 19 #[.pointer (some ⟨M, 0, none⟩)] w (Rz w M x (g.dset X (wi_lw (nxt x.vs x.iv))).on4 (x.lod a 4) (m.res { m.r with cyc := wrap64 (m.r.cyc + c), addr := a, lod := true, val := wi_lw (nxt x.vs x.iv) })) := by
  have c0 := h.mi.cell 0 _ rfl
  have c1 := h.mi.cell 1 _ rfl
  have c2 := h.mi.cell 2 _ rfl
  have c4 := h.mi.cell 4 _ rfl
  have c6 := h.mi.cell 6 _ rfl
  have cY := h.r.cell Y _ (rgc_R g Y hY16)
  rw [hop] at c2
  rw [hY] at c4
  have hYz : (Y : Int) < 16 := by omega
  have hL := fun W (r : Ro W M g x m) => load_any W m.bb x r.b (hx.more (by omega)) a 4
  have HR : Hid (Ro w M g x m ∧ x.le 9999) := ⟨h, hx⟩
  have HO : Hid (m.op = 27 ∧ m.x = X) := ⟨hop, hX⟩
  have hXz : (X : Int) < 16 := by omega
  have ln : m.bb < w.heap.size ∧ M < w.heap.size ∧ m.G < w.heap.size := ⟨hp_lt h.b.box, hp_lt h.mi, hp_lt h.r⟩
  rw [hf, hc] at hL
  generalize g.R Y = gy at *
  have ha' : (gy + m.n % 4294967296) % 4294967296 = a := ha
  clear h hx hop hX hY hf hc ha
  go_enter Tryz.func19, Tryz.ntmps19
  go_upto_region 1 with (fail)
  obtain ⟨w0, hw0⟩ : ∃ w0, w0 = w.alloc (.cells #[.int .i64 1, .int .i64 1, .int .i64 2, .int .i64 2, .int .i64 4] 3) := ⟨_, rfl⟩
  have k0 : Kp w w0 := by rw [hw0]; exact (Chg.refl w _).alloc _
  rw [← hw0]
  clear hw0
  have d0 := Kp.cell k0 c0
  have d1 := Kp.cell k0 c1
  have d4 := Kp.cell k0 c4
  have d6 := Kp.cell k0 c6
  have dY := Kp.cell k0 cY
  have HK : Hid (Kp w w0) := k0
  clear c0 c1 c2 c4 c6 cY k0
  go_quiet (fail)
  go_upto_region 3 with (go_at_call 31; refine (hL _ (HR.out.1.kp (HK.out.drewN _))).mono ?_; rintro e w1 ⟨rfl, hbo⟩)
  obtain ⟨v1, R1, C1, L1⟩ := Ro.bus (HR.out.1.kp (HK.out.drewN _)) hbo (fun k => Iff.rfl)
  clear hbo hL d0 d1 d4 d6 dY ha'
  have d8 := R1.mi.cell 8 (.int .i64 m.r.cyc) rfl
  have f8 := R1.mi.fr 8
  obtain ⟨R2, C2⟩ := R1.mset 8 (.int .i64 (wrap64 (m.r.cyc + c))) (m.res { m.r with cyc := wrap64 (m.r.cyc + c) }) rfl rfl rfl
  have d11 := R2.mi.cell 11 (.int .u32 m.r.addr) rfl
  have f11 := R2.mi.fr 11
  obtain ⟨R3, C3⟩ := R2.mset 11 (.int .u32 a) (m.res { m.r with cyc := wrap64 (m.r.cyc + c), addr := a }) rfl rfl rfl
  obtain ⟨w3, hw3⟩ : ∃ w3, w3 = (w1.setCell ⟨M, 8, none⟩ (.int .i64 (wrap64 (m.r.cyc + c)))).setCell ⟨M, 11, none⟩ (.int .u32 a) := ⟨_, rfl⟩
  rw [← hw3] at R3 C3
  have H3 : Hid (Ro w3 M g ((x.lod a 4).lvTo v1) (m.res { m.r with cyc := wrap64 (m.r.cyc + c), addr := a }) ∧ Chg w w3 (fun k => k = m.G ∨ k = M ∨ x.own m.bb k)) := ⟨R3, Chg.trans (Chg.trans (Kp.any (HK.out.drewN _)) C1 (fun i _ e => .inr (.inr e))) (Chg.trans C2 C3 (fun _ _ e => e)) (fun i _ e => .inr (.inl e))⟩
  have HL : Hid (v1.ownBlock = x.lv.ownBlock ∨ ∃ k, v1.ownBlock = some k ∧ w.heap.size ≤ k) := by
    rcases L1 with l | ⟨k, l, hk⟩
    · exact .inl l
    · exact .inr ⟨k, l, Nat.le_trans (HK.out.drewN _).size hk⟩
  clear R1 C1 L1 R2 C2 R3 C3 HR HK ln
  subst hf0
  generalize nxt x.vs x.iv = vv at *
  go_upto_region 5 with (fail)
  rw [← hw3]
  clear hw3 d8 f8 d11 f11
  obtain ⟨e5, he5⟩ : ∃ e5, e5 = wi_lw vv := ⟨_, rfl⟩
  have HQ : Hid (e5 = wi_lw vv) := he5
  have he5' : vv = e5 := he5.symm
  clear he5
  have d13 := H3.out.1.mi.cell 13 _ rfl
  have f13 := H3.out.1.mi.fr 13
  have d2 := H3.out.1.mi.cell 2 (.int .i64 27) (by show some (Value.int .i64 m.op) = _; rw [HO.out.1])
  obtain ⟨R4, C4⟩ := H3.out.1.mset 13 (.bool true) (m.res { m.r with cyc := wrap64 (m.r.cyc + c), addr := a, lod := true }) rfl rfl rfl
  have d14 := R4.mi.cell 14 _ rfl
  have f14 := R4.mi.fr 14
  obtain ⟨R5, C5⟩ := R4.mset 14 (.int .u32 e5) (m.res { m.r with cyc := wrap64 (m.r.cyc + c), addr := a, lod := true, val := e5 }) rfl rfl rfl
  have d3 := R5.mi.cell 3 (.int .i64 (X : Nat)) (by show some (Value.int .i64 m.x) = _; rw [HO.out.2])
  have hS := rset_any _ M g _ R5.mi R5.r X hX16 e5
  have H5 : Hid (Ro ((w3.setCell ⟨M, 13, none⟩ (.bool true)).setCell ⟨M, 14, none⟩ (.int .u32 e5)) M g ((x.lod a 4).lvTo v1) (m.res { m.r with cyc := wrap64 (m.r.cyc + c), addr := a, lod := true, val := e5 }) ∧ Chg w ((w3.setCell ⟨M, 13, none⟩ (.bool true)).setCell ⟨M, 14, none⟩ (.int .u32 e5)) (fun k => k = m.G ∨ k = M ∨ x.own m.bb k)) := ⟨R5, Chg.trans H3.out.2 (Chg.trans C4 C5 (fun _ _ e => e)) (fun i _ e => .inr (.inl e))⟩
  clear R4 C4 R5 C5
  go_upto_region 16 with (go_at_call 16; refine hS.mono ?_; rintro e w6 ⟨rfl, r6, c6⟩)
  have R6 := H5.out.1.rset r6 c6
  have C6 := Chg.trans H5.out.2 c6 (fun i _ e => .inl e)
  have p0 := R6.mi.cell 0 _ rfl
  have p16 := R6.r.cell 16 (.int .u32 g.pc) (by unfold Rg.dset; split <;> rfl)
  have q16 := R6.r.fr 16
  obtain ⟨i7, c7⟩ := R6.r.set 16 (.int .u32 ((g.pc + 4) % 4294967296)) (g.dset X e5).on4 (by unfold Rg.dset; split <;> rfl)
  have HE : Hid (Rv w M x (g.dset X e5).on4 (x.lod a 4) (m.res { m.r with cyc := wrap64 (m.r.cyc + c), addr := a, lod := true, val := e5 }) _) := ⟨v1, R6.rset i7 c7, Chg.trans C6 c7 (fun i _ e => .inl e), HL.out⟩
  clear R6 C6 i7 c7 r6 c6 hS H3 H5 d2 d3 d13 f13 d14 f14 HO HL
  go_region
  go_wp2_with fail
  go_end0
  have hq := HQ.out
  subst hq
  exact ⟨rfl, HE.out.drew⟩
end Go.Proofs.YtghiffpolacmiabGreatDoor
