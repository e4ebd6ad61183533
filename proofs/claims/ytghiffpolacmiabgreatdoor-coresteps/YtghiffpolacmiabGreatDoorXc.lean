import Derived.Test.YtghiffpolacmiabGreatDoorWa
namespace Go.Proofs.YtghiffpolacmiabGreatDoor
open Go.ChangeShapes Go.WideShapes Go.ChangeAt Go.RowKit
set_option linter.unusedVariables false

/-- A row of one's own can be read. -/
theorem rw_of_owns {w : World} {k : IntKind} {e : TypeId} {v : Value} {l : List Int} (h : w.ownsRow 0 e 1 v l.length (l.map (Value.int k))) (hl : l.length < 4611686018427387904) : Rw w k v l := by
  rcases h.2 with ⟨h1, h2⟩ | ⟨g, cap, cur, rfl, hb, hg, hnc, hcm, hcs, htake⟩
  · obtain rfl : l = [] := List.eq_nil_of_length_eq_zero h2
    exact ⟨none, 0, h1, by simp, by simp, .inl rfl⟩
  · refine ⟨_, cap, rfl, hnc, hl, .inr ⟨g, 0, rfl, hp_lt hg, fun i x hi => ?_⟩⟩
    rw [(cells_at hg _).1, Nat.zero_add]
    have hi' : i < l.length := (List.getElem?_eq_some_iff.1 hi).1
    have := congrArg (fun t => t[i]?) htake
    simp only [List.getElem?_take, Nat.mul_one, hi', if_true, List.getElem?_map, hi, Option.map_some] at this
    rw [← Array.getElem?_toList]
    exact this
theorem cp_row (t e : TypeId) (k : IntKind) (by' : Nat) (ht : Tryz.prog.underlying t = some (.slice e)) (hi : (Tryz.prog.info? e).map (fun i => (i.zero, i.size, i.bytes)) = some (some (.int k 0), 1, by'))
    (w : World) (src : Value) (l : List Int) (h : Rw w k src l) (hb : l.length * by' ≤ 140737488355328) :
    ∃ v' wa, (Builtin.append_ #[t, t] t #[.slice none 0 0, src]).run Tryz.prog w.drew = .ok v' wa ∧ Kp w wa ∧ wa.ownsRow 0 e 1 v' l.length (l.map (Value.int k)) ∧ (∀ g, v'.ownBlock = some g → w.heap.size ≤ g) := by
  obtain ⟨a, c, rfl, h2, h3, h4⟩ := h
  obtain ⟨i0, hi0, hz, hs, hby⟩ := infoOf hi
  obtain ⟨v', wa, hr, ho, hg, hL⟩ := run_app (P := Tryz.prog) w.drew t t e i0 _ 1 by' ht hi0 hz hs hby rfl (by omega) (.slice none 0 0) 0 [] (World.ownsRow_nil _ _ _ _) a l.length c (l.map (Value.int k)) (by simp) (by
    rcases h4 with h | ⟨g, o, h, _, hx⟩
    · left; rw [h]; rfl
    · right
      refine ⟨g, o, h, fun j u hu => ?_⟩
      rw [List.getElem?_map] at hu
      cases hq : l[j]? with
      | none => rw [hq] at hu; cases hu
      | some x =>
        rw [hq] at hu
        cases hu
        exact hx j x hq) (by simp [Value.oneCell']) (by simp [maxLen]; omega) (by rw [Nat.zero_add]; exact hb)
  refine ⟨v', wa, hr, Chg.grown ((Chg.refl w _).drew) hg (fun k hk => by cases hk), by simpa using ho, fun g hg' => ?_⟩
  rcases hL with h | ⟨j, h, hj⟩
  · rw [h] at hg'; cases hg'
  · rw [h] at hg'; cases hg'; exact hj
set_option maxRecDepth 100000 in
theorem cp_step (t e : TypeId) (k : IntKind) (by' : Nat) (ht : Tryz.prog.underlying t = some (.slice e)) (hi : (Tryz.prog.info? e).map (fun i => (i.zero, i.size, i.bytes)) = some (some (.int k 0), 1, by'))
    (w : World) (src : Value) (l : List Int) (h : Rw w k src l) (hb : l.length * by' ≤ 140737488355328) (cb f : Nat) (cs : List Value) (hbx : w.heap[cb]? = some (.cells cs.toArray 36 (0, 0))) :
    ∃ v' wa g n c w', w' = wa.setCell ⟨cb, f, none⟩ v' ∧ (Builtin.append_ #[t, t] t #[.slice none 0 0, src]).run Tryz.prog w.drew = .ok v' wa ∧ Kp w wa ∧ (v' = .slice none 0 0 ∨ v' = .slice (some ⟨g, 0, none⟩) n c) ∧
      w'.heap[cb]? = some (.cells (cs.set f v').toArray 36 (0, 0)) ∧ Chg w w' (fun k => k = cb) ∧ Rw w' k v' l ∧ (∀ g, v'.ownBlock = some g → w.heap.size ≤ g ∧ g < w'.heap.size) := by
  have hlen : l.length < 4611686018427387904 := by obtain ⟨_, _, _, _, h3, _⟩ := h; exact h3
  obtain ⟨v', wa, hr, hk, ho, hL⟩ := cp_row t e k by' ht hi w src l h hb
  have hlt := hp_lt hbx
  have hbx2 := Kp.heap hk hbx
  have hc : Chg wa (wa.setCell ⟨cb, f, none⟩ v') (fun k => k = cb) := Chg.setCell (S := fun k => k = cb) (Chg.refl wa _) (.inl rfl) v'
  have hne : ∀ g, v'.ownBlock = some g → ¬ g = cb := fun g hg e => by have := hL g hg; omega
  have hgl : ∀ g, v'.ownBlock = some g → g < wa.heap.size := fun g hg => by
    rcases ho.2 with ⟨h1, _⟩ | ⟨g', cap, cur, h1, _, h3, _⟩
    · rw [h1] at hg; cases hg
    · rw [h1] at hg; cases hg; exact hp_lt h3
  have hv : ∃ g n c, v' = .slice none 0 0 ∨ v' = .slice (some ⟨g, 0, none⟩) n c := by
    rcases ho.2 with ⟨h1, _⟩ | ⟨g', cap, cur, h1, _⟩
    · exact ⟨0, 0, 0, .inl h1⟩
    · exact ⟨g', _, cap, .inr h1⟩
  obtain ⟨g, n, c, hv⟩ := hv
  refine ⟨v', wa, g, n, c, _, rfl, hr, hk, hv, ?_, Chg.trans (Kp.any hk) hc (fun i _ e => e), (rw_of_owns ho hlen).chg hc hne, fun g hg => ⟨hL g hg, Nat.lt_of_lt_of_le (hgl g hg) hc.size⟩⟩
  rw [heap_setCell_same wa cb f _ 36 v' hbx2]
  congr 2
  simp
theorem app_nil32 (w : World) : (Builtin.append_ #[34, 34] 34 #[.slice none 0 0, .slice none 0 0]).run Tryz.prog w = .ok (.slice none 0 0) w := by kernel_rfl
theorem info22' : (Tryz.prog.info? 22).map (fun i => (i.zero, i.size, i.bytes)) = some (some (.int .u32 0), 1, 4) := by kernel_rfl
theorem info3' : (Tryz.prog.info? 3).map (fun i => (i.zero, i.size, i.bytes)) = some (some (.int .i64 0), 1, 8) := by kernel_rfl
theorem build34_7 (w : World) (x : Bd) : (Instr.build 36 #[(4, .int .u64 x.tm), (5, .int .i64 x.ln), (6, .bool x.od), (8, .int .i64 (x.iw : Nat)), (9, .int .i64 (x.iv : Nat)), (10, .int .i64 (x.ic : Nat)), (11, .int .i64 (x.jf : Nat))]).run Tryz.prog w = .ok (.agg (bxc { x with wv := .slice none 0 0, vv := .slice none 0 0, cv := .slice none 0 0, fv := .slice none 0 0, lv := .slice none 0 0 }).toArray) w := by kernel_rfl
/-- Rows of a bus that may be copied. -/
def Bd.small (x : Bd) : Prop := x.ws.length * 4 ≤ 140737488355328 ∧ x.vs.length * 4 ≤ 140737488355328 ∧ x.cy.length * 8 ≤ 140737488355328 ∧ x.fa.length * 8 ≤ 140737488355328
def Bd.rows (x : Bd) (a b c d : Value) : Bd := { x with wv := a, vv := b, cv := c, fv := d }
/-- What Copied leaves: a bus like it. -/
def Cp (w : World) (x : Bd) (e : Ending) (w' : World) : Prop :=
  ∃ cb a b c d, e = .returned (.pointer (some ⟨cb, 0, none⟩)) ∧ IsB w' cb (x.rows a b c d) ∧ Kp w w' ∧ w.heap.size ≤ cb ∧ ∀ k, (x.rows a b c d).row k → w.heap.size ≤ k
end Go.Proofs.YtghiffpolacmiabGreatDoor
namespace Go.Proofs.YtghiffpolacmiabGreatDoor
open Go.ChangeShapes Go.WideShapes Go.ChangeAt Go.RowKit
set_option linter.unusedVariables false

theorem info36' : (Tryz.prog.info? 38).map (fun i => (i.zero, i.size, i.bytes)) = some (some (.int .i64 0), 1, 8) := by kernel_rfl
set_option maxRecDepth 100000 in
set_option maxHeartbeats 4000000 in
theorem copied_any (w : World) (bb : Nat) (x : Bd) (h : IsB w bb x) (hl : x.lv = .slice none 0 0) (hg : x.lg = []) (hs : x.small) :
    Calls Tryz.prog 9 #[.pointer (some ⟨bb, 0, none⟩)] w (Cp w x) := by
  obtain ⟨s1, s2, s3, s4⟩ := hs
  obtain ⟨w1, hw1⟩ : ∃ w1, w1 = w.drew.alloc (.cells (bxc { x with wv := .slice none 0 0, vv := .slice none 0 0, cv := .slice none 0 0, fv := .slice none 0 0, lv := .slice none 0 0 }).toArray 36) := ⟨_, rfl⟩
  have k1 : Kp w w1 := by rw [hw1]; exact ((Chg.refl w _).drew).alloc _
  obtain ⟨cb, hcb⟩ : ∃ cb, cb = w.heap.size := ⟨_, rfl⟩
  have b1 : w1.heap[cb]? = some (.cells (bxc { x with wv := .slice none 0 0, vv := .slice none 0 0, cv := .slice none 0 0, fv := .slice none 0 0, lv := .slice none 0 0 }).toArray 36 (0, 0)) := by rw [hw1, hcb]; exact heap_alloc_new w.drew _
  have hne : cb ≠ bb := by have := hp_lt h.box; omega
  have i1 := h.kp k1
  obtain ⟨v0, wa0, g0, n0, c0, w2, e2, r0, p0, hv0, b2, ch2, rw0, hl0⟩ := cp_step 26 22 .u32 4 Tryz.underlying26 info22' w1 x.wv x.ws i1.ws s1 cb 0 _ b1
  have nb : ∀ k, k < w1.heap.size → (x.own bb k ∨ x.row k) → ¬ k = cb := fun k _ hk e => by
    subst e
    rcases hk with (e | e) | e
    · exact hne e
    · rw [hl] at e; cases e
    · have := (h.ap _ e).2.2; omega
  have i2 := i1.chg ch2 nb
  obtain ⟨v1, wa1, g1, n1, c1, w3, e3, r1, p1, hv1, b3, ch3, rw1, hl1⟩ := cp_step 26 22 .u32 4 Tryz.underlying26 info22' w2 x.vv x.vs i2.vs s2 cb 1 _ b2
  have nb2 : ∀ k, (x.own bb k ∨ x.row k) → ¬ k = cb := fun k hk e => by
    subst e
    rcases hk with (e | e) | e
    · exact hne e
    · rw [hl] at e; cases e
    · have := (h.ap _ e).2.2; omega
  have i3 := i2.chg ch3 (fun k _ => nb2 k)
  obtain ⟨v2, wa2, g2, n2, c2, w4, e4, r2, p2, hv2, b4, ch4, rw2, hl2⟩ := cp_step 27 3 .i64 8 Tryz.underlying27 info3' w3 x.cv x.cy i3.cy s3 cb 2 _ b3
  have i4 := i3.chg ch4 (fun k _ => nb2 k)
  obtain ⟨v3, wa3, g3, n3, c3, w5, e5, r3, p3, hv3, b5, ch5, rw3, hl3⟩ := cp_step 28 38 .i64 8 Tryz.underlying28 info36' w4 x.fv x.fa i4.fa s4 cb 3 _ b4
  have i5 := i4.chg ch5 (fun k _ => nb2 k)
  obtain ⟨w6, e6⟩ : ∃ w6, w6 = w5.drew.setCell ⟨cb, 7, none⟩ (.slice none 0 0) := ⟨_, rfl⟩
  have k5 : Kp w5 w5.drew := (Chg.refl _ _).drew
  have b6 : w6.heap[cb]? = some (.cells (bxc (x.rows v0 v1 v2 v3)).toArray 36 (0, 0)) := by
    rw [e6, heap_setCell_same w5.drew cb 7 _ 36 _ (Kp.heap k5 b5)]
    congr 2
    simp only [Bd.rows, bxc, hl]
    rfl
  have ch6 : Chg w5 w6 (fun k => k = cb) := by rw [e6]; exact Chg.setCell (S := fun k => k = cb) ((Chg.refl w5 _).drew) (.inl rfl) _
  have z1 := k1.size
  have z2 := ch2.size
  have z3 := ch3.size
  have z4 := ch4.size
  have z5 := ch5.size
  have z6 := ch6.size
  have hc1 := hp_lt b1
  have HI : Hid (IsB w6 cb (x.rows v0 v1 v2 v3) ∧ Kp w w6 ∧ ∀ k, (x.rows v0 v1 v2 v3).row k → w.heap.size ≤ k) := by
    have q0 : ∀ g, v0.ownBlock = some g → ¬ g = cb := fun g hg e => by have := hl0 g hg; omega
    have q1 : ∀ g, v1.ownBlock = some g → ¬ g = cb := fun g hg e => by have := hl1 g hg; omega
    have q2 : ∀ g, v2.ownBlock = some g → ¬ g = cb := fun g hg e => by have := hl2 g hg; omega
    have q3 : ∀ g, v3.ownBlock = some g → ¬ g = cb := fun g hg e => by have := hl3 g hg; omega
    refine ⟨⟨b6, (((rw0.chg ch3 q0).chg ch4 q0).chg ch5 q0).chg ch6 q0, ((rw1.chg ch4 q1).chg ch5 q1).chg ch6 q1, (rw2.chg ch5 q2).chg ch6 q2, rw3.chg ch6 q3, ?_, fun k hk => ?_, ?_⟩, ?_, fun k hk => ?_⟩
    · show w6.ownsRow 0 71 4 x.lv x.lg.length (x.lg.flatMap Lg.cs)
      rw [hl, hg]
      exact World.ownsRow_nil _ _ _ _
    · refine ⟨?_, ?_, ?_⟩
      · rcases hk with e | e | e | e
        · exact q0 k e
        · exact q1 k e
        · exact q2 k e
        · exact q3 k e
      · show x.lv.ownBlock ≠ some k
        rw [hl]
        exact fun e => by cases e
      · rcases hk with e | e | e | e
        · have := hl0 k e; omega
        · have := hl1 k e; omega
        · have := hl2 k e; omega
        · have := hl3 k e; omega
    · show x.lv.ownBlock ≠ some cb
      rw [hl]
      exact fun e => by cases e
    · refine Chg.trans (T := fun k => k = cb) k1 (Chg.trans (T := fun k => k = cb) ch2 (Chg.trans (T := fun k => k = cb) ch3 (Chg.trans (T := fun k => k = cb) ch4 (Chg.trans (T := fun k => k = cb) ch5 ch6 (fun _ _ e => e)) (fun _ _ e => e)) (fun _ _ e => e)) (fun _ _ e => e)) (fun i hi e => by omega)
    · rcases hk with e | e | e | e
      · have := hl0 k e; omega
      · have := hl1 k e; omega
      · have := hl2 k e; omega
      · have := hl3 k e; omega
  have o4 := h.cell 4 _ rfl
  have o5 := h.cell 5 _ rfl
  have o6 := h.cell 6 _ rfl
  have o8 := h.cell 8 _ rfl
  have o9 := h.cell 9 _ rfl
  have o10 := h.cell 10 _ rfl
  have o11 := h.cell 11 _ rfl
  have a2 := i1.cell 0 x.wv rfl
  have a3 := i2.cell 1 x.vv rfl
  have a4 := i3.cell 2 x.cv rfl
  have a5 := i4.cell 3 x.fv rfl
  have a6 := i5.cell 7 x.lv rfl
  rw [hl] at a6
  have m2 : w1.cell? ⟨cb, 0, none⟩ = some (.slice none 0 0) := (cells_at b1 0).1
  have f2 := (cells_at b1 0).2
  have m3 : w2.cell? ⟨cb, 1, none⟩ = some (.slice none 0 0) := (cells_at b2 1).1
  have f3 := (cells_at b2 1).2
  have m4 : w3.cell? ⟨cb, 2, none⟩ = some (.slice none 0 0) := (cells_at b3 2).1
  have f4 := (cells_at b3 2).2
  have m5 : w4.cell? ⟨cb, 3, none⟩ = some (.slice none 0 0) := (cells_at b4 3).1
  have f5 := (cells_at b4 3).2
  have m6 : w5.cell? ⟨cb, 7, none⟩ = some (.slice none 0 0) := (cells_at b5 7).1
  have f6 := (cells_at b5 7).2
  have hb : #[.slice none 0 0, .slice none 0 0, .slice none 0 0, .slice none 0 0, .int .u64 x.tm, .int .i64 x.ln, .bool x.od, .slice none 0 0, .int .i64 (x.iw : Nat), .int .i64 (x.iv : Nat), .int .i64 (x.ic : Nat), .int .i64 (x.jf : Nat)] = (bxc { x with wv := .slice none 0 0, vv := .slice none 0 0, cv := .slice none 0 0, fv := .slice none 0 0, lv := .slice none 0 0 }).toArray := rfl
  have hcl : Hid (w.heap.size ≤ cb) := by show _ ≤ _; omega
  clear b1 b2 b3 b4 b5 b6 ch2 ch3 ch4 ch5 ch6 rw0 rw1 rw2 rw3 hl0 hl1 hl2 hl3 i1 i2 i3 i4 i5 nb nb2 s1 s2 s3 s4 z1 z2 z3 z4 z5 z6 hc1
  generalize (bxc { x with wv := .slice none 0 0, vv := .slice none 0 0, cv := .slice none 0 0, fv := .slice none 0 0, lv := .slice none 0 0 }).toArray = BX at *
  go_enter Tryz.func9, Tryz.ntmps9
  go_upto_region 1 with (fail)
  refine reg10_1 w bb x.tm x.ln _ _ _ _ x.od BX ⟨o4, o5, o6, o8, o9, o10, o11⟩ hb _ (fun _ _ _ q _ h => by cases q <;> exact h) ?_
  rw [← hw1, ← hcb]
  go_upto_region 2 with (fail)
  refine reg10_2 w1 wa0 bb cb _ v0 g0 n0 c0 hne a2 m2 f2 r0 p0 hv0 _ (fun _ _ _ q _ h => by cases q <;> exact h) ?_
  rw [← e2]
  go_upto_region 3 with (fail)
  refine reg10_3 w2 wa1 bb cb _ v1 g1 n1 c1 hne a3 m3 f3 r1 p1 hv1 _ (fun _ _ _ q _ h => by cases q <;> exact h) ?_
  rw [← e3]
  go_upto_region 4 with (fail)
  refine reg10_4 w3 wa2 bb cb _ v2 g2 n2 c2 hne a4 m4 f4 r2 p2 hv2 _ (fun _ _ _ q _ h => by cases q <;> exact h) ?_
  rw [← e4]
  go_upto_region 5 with (fail)
  refine reg10_5 w4 wa3 bb cb _ v3 g3 n3 c3 hne a5 m5 f5 r3 p3 hv3 _ (fun _ _ _ q _ h => by cases q <;> exact h) ?_
  rw [← e5]
  go_upto_region 6 with (fail)
  refine reg10_6 w5 w5.drew bb cb _ (.slice none 0 0) 0 0 0 hne a6 m6 f6 (app_nil32 _) k5 (.inl rfl) _ (fun _ _ _ q _ h => by cases q <;> exact h) ?_
  rw [← e6]
  go_wp2_with fail
  go_ret
  exact ⟨cb, v0, v1, v2, v3, rfl, HI.out.1, HI.out.2.1, hcl.out, HI.out.2.2⟩
end Go.Proofs.YtghiffpolacmiabGreatDoor
namespace Go.Proofs.YtghiffpolacmiabGreatDoor
open Go.ChangeShapes Go.WideShapes Go.ChangeAt Go.RowKit
set_option linter.unusedVariables false

set_option maxRecDepth 100000 in
set_option maxHeartbeats 4000000 in
theorem copied_gen (w : World) (bb : Nat) (x : Bd) (hbx : w.heap[bb]? = some (.cells (bxc x).toArray 36 (0, 0))) (rws : Rw w .u32 x.wv x.ws) (rvs : Rw w .u32 x.vv x.vs) (rcy : Rw w .i64 x.cv x.cy) (rfa : Rw w .i64 x.fv x.fa) (hl : x.lv = .slice none 0 0) (hg : x.lg = []) (hs : x.small) :
    Calls Tryz.prog 9 #[.pointer (some ⟨bb, 0, none⟩)] w (Cp w x) := by
  obtain ⟨s1, s2, s3, s4⟩ := hs
  obtain ⟨w1, hw1⟩ : ∃ w1, w1 = w.drew.alloc (.cells (bxc { x with wv := .slice none 0 0, vv := .slice none 0 0, cv := .slice none 0 0, fv := .slice none 0 0, lv := .slice none 0 0 }).toArray 36) := ⟨_, rfl⟩
  have k1 : Kp w w1 := by rw [hw1]; exact ((Chg.refl w _).drew).alloc _
  obtain ⟨cb, hcb⟩ : ∃ cb, cb = w.heap.size := ⟨_, rfl⟩
  have b1 : w1.heap[cb]? = some (.cells (bxc { x with wv := .slice none 0 0, vv := .slice none 0 0, cv := .slice none 0 0, fv := .slice none 0 0, lv := .slice none 0 0 }).toArray 36 (0, 0)) := by rw [hw1, hcb]; exact heap_alloc_new w.drew _
  have hne : cb ≠ bb := by have := hp_lt hbx; omega
  have i1 := Kp.heap k1 hbx
  obtain ⟨v0, wa0, g0, n0, c0, w2, e2, r0, p0, hv0, b2, ch2, rw0, hl0⟩ := cp_step 26 22 .u32 4 Tryz.underlying26 info22' w1 x.wv x.ws (rws.chg k1 (fun _ _ h => h)) s1 cb 0 _ b1
  have K2 : Kp w w2 := Chg.trans k1 ch2 (fun i hi e => by omega)
  have i2 := Kp.heap K2 hbx
  obtain ⟨v1, wa1, g1, n1, c1, w3, e3, r1, p1, hv1, b3, ch3, rw1, hl1⟩ := cp_step 26 22 .u32 4 Tryz.underlying26 info22' w2 x.vv x.vs (rvs.chg K2 (fun _ _ h => h)) s2 cb 1 _ b2
  have K3 : Kp w w3 := Chg.trans K2 ch3 (fun i hi e => by omega)
  have i3 := Kp.heap K3 hbx
  obtain ⟨v2, wa2, g2, n2, c2, w4, e4, r2, p2, hv2, b4, ch4, rw2, hl2⟩ := cp_step 27 3 .i64 8 Tryz.underlying27 info3' w3 x.cv x.cy (rcy.chg K3 (fun _ _ h => h)) s3 cb 2 _ b3
  have K4 : Kp w w4 := Chg.trans K3 ch4 (fun i hi e => by omega)
  have i4 := Kp.heap K4 hbx
  obtain ⟨v3, wa3, g3, n3, c3, w5, e5, r3, p3, hv3, b5, ch5, rw3, hl3⟩ := cp_step 28 38 .i64 8 Tryz.underlying28 info36' w4 x.fv x.fa (rfa.chg K4 (fun _ _ h => h)) s4 cb 3 _ b4
  have K5 : Kp w w5 := Chg.trans K4 ch5 (fun i hi e => by omega)
  have i5 := Kp.heap K5 hbx
  obtain ⟨w6, e6⟩ : ∃ w6, w6 = w5.drew.setCell ⟨cb, 7, none⟩ (.slice none 0 0) := ⟨_, rfl⟩
  have k5 : Kp w5 w5.drew := (Chg.refl _ _).drew
  have b6 : w6.heap[cb]? = some (.cells (bxc (x.rows v0 v1 v2 v3)).toArray 36 (0, 0)) := by
    rw [e6, heap_setCell_same w5.drew cb 7 _ 36 _ (Kp.heap k5 b5)]
    congr 2
    simp only [Bd.rows, bxc, hl]
    rfl
  have ch6 : Chg w5 w6 (fun k => k = cb) := by rw [e6]; exact Chg.setCell (S := fun k => k = cb) ((Chg.refl w5 _).drew) (.inl rfl) _
  have z1 := k1.size
  have z2 := ch2.size
  have z3 := ch3.size
  have z4 := ch4.size
  have z5 := ch5.size
  have z6 := ch6.size
  have hc1 := hp_lt b1
  have HI : Hid (IsB w6 cb (x.rows v0 v1 v2 v3) ∧ Kp w w6 ∧ ∀ k, (x.rows v0 v1 v2 v3).row k → w.heap.size ≤ k) := by
    have q0 : ∀ g, v0.ownBlock = some g → ¬ g = cb := fun g hg e => by have := hl0 g hg; omega
    have q1 : ∀ g, v1.ownBlock = some g → ¬ g = cb := fun g hg e => by have := hl1 g hg; omega
    have q2 : ∀ g, v2.ownBlock = some g → ¬ g = cb := fun g hg e => by have := hl2 g hg; omega
    have q3 : ∀ g, v3.ownBlock = some g → ¬ g = cb := fun g hg e => by have := hl3 g hg; omega
    refine ⟨⟨b6, (((rw0.chg ch3 q0).chg ch4 q0).chg ch5 q0).chg ch6 q0, ((rw1.chg ch4 q1).chg ch5 q1).chg ch6 q1, (rw2.chg ch5 q2).chg ch6 q2, rw3.chg ch6 q3, ?_, fun k hk => ?_, ?_⟩, ?_, fun k hk => ?_⟩
    · show w6.ownsRow 0 71 4 x.lv x.lg.length (x.lg.flatMap Lg.cs)
      rw [hl, hg]
      exact World.ownsRow_nil _ _ _ _
    · refine ⟨?_, ?_, ?_⟩
      · rcases hk with e | e | e | e
        · exact q0 k e
        · exact q1 k e
        · exact q2 k e
        · exact q3 k e
      · show x.lv.ownBlock ≠ some k
        rw [hl]
        exact fun e => by cases e
      · rcases hk with e | e | e | e
        · have := hl0 k e; omega
        · have := hl1 k e; omega
        · have := hl2 k e; omega
        · have := hl3 k e; omega
    · show x.lv.ownBlock ≠ some cb
      rw [hl]
      exact fun e => by cases e
    · refine Chg.trans (T := fun k => k = cb) k1 (Chg.trans (T := fun k => k = cb) ch2 (Chg.trans (T := fun k => k = cb) ch3 (Chg.trans (T := fun k => k = cb) ch4 (Chg.trans (T := fun k => k = cb) ch5 ch6 (fun _ _ e => e)) (fun _ _ e => e)) (fun _ _ e => e)) (fun _ _ e => e)) (fun i hi e => by omega)
    · rcases hk with e | e | e | e
      · have := hl0 k e; omega
      · have := hl1 k e; omega
      · have := hl2 k e; omega
      · have := hl3 k e; omega
  have o4 : w.cell? ⟨bb, 4, none⟩ = some (.int .u64 x.tm) := (cells_at hbx 4).1
  have o5 : w.cell? ⟨bb, 5, none⟩ = some (.int .i64 x.ln) := (cells_at hbx 5).1
  have o6 : w.cell? ⟨bb, 6, none⟩ = some (.bool x.od) := (cells_at hbx 6).1
  have o8 : w.cell? ⟨bb, 8, none⟩ = some (.int .i64 (x.iw : Nat)) := (cells_at hbx 8).1
  have o9 : w.cell? ⟨bb, 9, none⟩ = some (.int .i64 (x.iv : Nat)) := (cells_at hbx 9).1
  have o10 : w.cell? ⟨bb, 10, none⟩ = some (.int .i64 (x.ic : Nat)) := (cells_at hbx 10).1
  have o11 : w.cell? ⟨bb, 11, none⟩ = some (.int .i64 (x.jf : Nat)) := (cells_at hbx 11).1
  have a2 : w1.cell? ⟨bb, 0, none⟩ = some (x.wv) := (cells_at i1 0).1
  have a3 : w2.cell? ⟨bb, 1, none⟩ = some (x.vv) := (cells_at i2 1).1
  have a4 : w3.cell? ⟨bb, 2, none⟩ = some (x.cv) := (cells_at i3 2).1
  have a5 : w4.cell? ⟨bb, 3, none⟩ = some (x.fv) := (cells_at i4 3).1
  have a6 : w5.cell? ⟨bb, 7, none⟩ = some (x.lv) := (cells_at i5 7).1
  rw [hl] at a6
  have m2 : w1.cell? ⟨cb, 0, none⟩ = some (.slice none 0 0) := (cells_at b1 0).1
  have f2 := (cells_at b1 0).2
  have m3 : w2.cell? ⟨cb, 1, none⟩ = some (.slice none 0 0) := (cells_at b2 1).1
  have f3 := (cells_at b2 1).2
  have m4 : w3.cell? ⟨cb, 2, none⟩ = some (.slice none 0 0) := (cells_at b3 2).1
  have f4 := (cells_at b3 2).2
  have m5 : w4.cell? ⟨cb, 3, none⟩ = some (.slice none 0 0) := (cells_at b4 3).1
  have f5 := (cells_at b4 3).2
  have m6 : w5.cell? ⟨cb, 7, none⟩ = some (.slice none 0 0) := (cells_at b5 7).1
  have f6 := (cells_at b5 7).2
  have hb : #[.slice none 0 0, .slice none 0 0, .slice none 0 0, .slice none 0 0, .int .u64 x.tm, .int .i64 x.ln, .bool x.od, .slice none 0 0, .int .i64 (x.iw : Nat), .int .i64 (x.iv : Nat), .int .i64 (x.ic : Nat), .int .i64 (x.jf : Nat)] = (bxc { x with wv := .slice none 0 0, vv := .slice none 0 0, cv := .slice none 0 0, fv := .slice none 0 0, lv := .slice none 0 0 }).toArray := rfl
  have hcl : Hid (w.heap.size ≤ cb) := by show _ ≤ _; omega
  clear b1 b2 b3 b4 b5 b6 ch2 ch3 ch4 ch5 ch6 rw0 rw1 rw2 rw3 hl0 hl1 hl2 hl3 i1 i2 i3 i4 i5 K2 K3 K4 K5 rws rvs rcy rfa hbx s1 s2 s3 s4 z1 z2 z3 z4 z5 z6 hc1
  generalize (bxc { x with wv := .slice none 0 0, vv := .slice none 0 0, cv := .slice none 0 0, fv := .slice none 0 0, lv := .slice none 0 0 }).toArray = BX at *
  go_enter Tryz.func9, Tryz.ntmps9
  go_upto_region 1 with (fail)
  refine reg10_1 w bb x.tm x.ln _ _ _ _ x.od BX ⟨o4, o5, o6, o8, o9, o10, o11⟩ hb _ (fun _ _ _ q _ h => by cases q <;> exact h) ?_
  rw [← hw1, ← hcb]
  go_upto_region 2 with (fail)
  refine reg10_2 w1 wa0 bb cb _ v0 g0 n0 c0 hne a2 m2 f2 r0 p0 hv0 _ (fun _ _ _ q _ h => by cases q <;> exact h) ?_
  rw [← e2]
  go_upto_region 3 with (fail)
  refine reg10_3 w2 wa1 bb cb _ v1 g1 n1 c1 hne a3 m3 f3 r1 p1 hv1 _ (fun _ _ _ q _ h => by cases q <;> exact h) ?_
  rw [← e3]
  go_upto_region 4 with (fail)
  refine reg10_4 w3 wa2 bb cb _ v2 g2 n2 c2 hne a4 m4 f4 r2 p2 hv2 _ (fun _ _ _ q _ h => by cases q <;> exact h) ?_
  rw [← e4]
  go_upto_region 5 with (fail)
  refine reg10_5 w4 wa3 bb cb _ v3 g3 n3 c3 hne a5 m5 f5 r3 p3 hv3 _ (fun _ _ _ q _ h => by cases q <;> exact h) ?_
  rw [← e5]
  go_upto_region 6 with (fail)
  refine reg10_6 w5 w5.drew bb cb _ (.slice none 0 0) 0 0 0 hne a6 m6 f6 (app_nil32 _) k5 (.inl rfl) _ (fun _ _ _ q _ h => by cases q <;> exact h) ?_
  rw [← e6]
  go_wp2_with fail
  go_ret
  exact ⟨cb, v0, v1, v2, v3, rfl, HI.out.1, HI.out.2.1, hcl.out, HI.out.2.2⟩

/-- A bus out of a bench. -/
def bnB (ws vs cy fa : List Int) (tm ln : Int) (od : Bool) (a b c d : Value) : Bd := ⟨a, b, c, d, ws, vs, cy, fa, tm, ln, od, .slice none 0 0, [], 0, 0, 0, 0⟩
/-- A bench that can be read. -/
structure Bn (w : World) (wv vv cv fv : Value) (ws vs cy fa : List Int) : Prop where
  rw : Rw w .u32 wv ws
  rv : Rw w .u32 vv vs
  rc : Rw w .i64 cv cy
  rf : Rw w .i64 fv fa
  s1 : ws.length * 4 ≤ 140737488355328
  s2 : vs.length * 4 ≤ 140737488355328
  s3 : cy.length * 8 ≤ 140737488355328
  s4 : fa.length * 8 ≤ 140737488355328
theorem Bn.kp {w w' : World} {wv vv cv fv : Value} {ws vs cy fa : List Int} (h : Bn w wv vv cv fv ws vs cy fa) (k : Kp w w') : Bn w' wv vv cv fv ws vs cy fa :=
  ⟨h.rw.chg k (fun _ _ h => h), h.rv.chg k (fun _ _ h => h), h.rc.chg k (fun _ _ h => h), h.rf.chg k (fun _ _ h => h), h.s1, h.s2, h.s3, h.s4⟩
theorem Rw.slice {w : World} {k : IntKind} {v : Value} {l : List Int} (h : Rw w k v l) : ∃ a n c, v = .slice a n c := by
  obtain ⟨a, c, h, _⟩ := h
  exact ⟨a, _, c, h⟩
/-- What board leaves. -/
def Bb (w : World) (ws vs cy fa : List Int) (tm ln : Int) (od : Bool) (e : Ending) (w' : World) : Prop :=
  ∃ cb a b c d, e = .returned (.pointer (some ⟨cb, 0, none⟩)) ∧ IsB w' cb (bnB ws vs cy fa tm ln od a b c d) ∧ Kp w w' ∧ w.heap.size ≤ cb ∧ ∀ k, (bnB ws vs cy fa tm ln od a b c d).row k → w.heap.size ≤ k
set_option maxRecDepth 100000 in
theorem board_any (w : World) (wv vv cv fv : Value) (ws vs cy fa : List Int) (tm ln : Int) (od : Bool) (h : Bn w wv vv cv fv ws vs cy fa) :
    Calls Tryz.prog 6 #[.agg #[wv, vv, cv, fv, .int .u64 tm, .int .i64 ln, .bool od]] w (Bb w ws vs cy fa tm ln od) := by
  have h0 := h
  obtain ⟨a0, n0, c0, rfl⟩ := h.rw.slice
  obtain ⟨a1, n1, c1, rfl⟩ := h.rv.slice
  obtain ⟨a2, n2, c2, rfl⟩ := h.rc.slice
  obtain ⟨a3, n3, c3, rfl⟩ := h.rf.slice
  obtain ⟨w1, hw1⟩ : ∃ w1, w1 = w.alloc (.cells #[.slice a0 n0 c0, .slice a1 n1 c1, .slice a2 n2 c2, .slice a3 n3 c3, .int .u64 tm, .int .i64 ln, .bool od] 31) := ⟨_, rfl⟩
  obtain ⟨X, hX⟩ : ∃ X, X = bnB ws vs cy fa tm ln od (.slice a0 n0 c0) (.slice a1 n1 c1) (.slice a2 n2 c2) (.slice a3 n3 c3) := ⟨_, rfl⟩
  obtain ⟨w2, hw2⟩ : ∃ w2, w2 = w1.alloc (.cells (bxc X).toArray 36) := ⟨_, rfl⟩
  have k1 : Kp w w1 := by rw [hw1]; exact (Chg.refl w _).alloc _
  have k2 : Kp w1 w2 := by rw [hw2]; exact (Chg.refl w1 _).alloc _
  have z1 : w1.heap.size = w.heap.size + 1 := by rw [hw1]; simp
  have n2' : w2.heap[w1.heap.size]? = some (.cells (bxc X).toArray 36 (0, 0)) := by rw [hw2]; exact heap_alloc_new w1 _
  have hB := h0.kp (Kp.trans k1 k2)
  have hC := copied_gen w2 w1.heap.size X n2' (by rw [hX]; exact hB.rw) (by rw [hX]; exact hB.rv) (by rw [hX]; exact hB.rc) (by rw [hX]; exact hB.rf) (by rw [hX]; rfl) (by rw [hX]; rfl) (by rw [hX]; exact ⟨h.s1, h.s2, h.s3, h.s4⟩)
  have hXr : ∀ a b e h, X.rows a b e h = bnB ws vs cy fa tm ln od a b e h := fun a b e h => by rw [hX]; rfl
  have HK : Hid (Kp w w2) := Kp.trans k1 k2
  have hw2' : w2 = w1.alloc (.cells #[.slice a0 n0 c0, .slice a1 n1 c1, .slice a2 n2 c2, .slice a3 n3 c3, .int .u64 tm, .int .i64 ln, .bool od, .slice none 0 0, .int .i64 0, .int .i64 0, .int .i64 0, .int .i64 0] 36) := by rw [hw2, hX]; rfl
  clear hw2
  have nn : w1.heap[w.heap.size]? = some (.cells #[.slice a0 n0 c0, .slice a1 n1 c1, .slice a2 n2 c2, .slice a3 n3 c3, .int .u64 tm, .int .i64 ln, .bool od] 31 (0, 0)) := by rw [hw1]; exact heap_alloc_new w _
  have d0 : w1.cell? ⟨w.heap.size, 0, none⟩ = some (.slice a0 n0 c0) := (cells_at nn 0).1
  have d1 : w1.cell? ⟨w.heap.size, 1, none⟩ = some (.slice a1 n1 c1) := (cells_at nn 1).1
  have d2 : w1.cell? ⟨w.heap.size, 2, none⟩ = some (.slice a2 n2 c2) := (cells_at nn 2).1
  have d3 : w1.cell? ⟨w.heap.size, 3, none⟩ = some (.slice a3 n3 c3) := (cells_at nn 3).1
  have d4 : w1.cell? ⟨w.heap.size, 4, none⟩ = some (.int .u64 tm) := (cells_at nn 4).1
  have d5 : w1.cell? ⟨w.heap.size, 5, none⟩ = some (.int .i64 ln) := (cells_at nn 5).1
  have d6 : w1.cell? ⟨w.heap.size, 6, none⟩ = some (.bool od) := (cells_at nn 6).1
  clear hX n2' hB h0 h nn k1 k2 z1
  go_enter Tryz.func6, Tryz.ntmps6
  go_upto_region 1 with (fail)
  rw [← hw1]
  clear hw1
  go_upto_region 2 with (fail)
  rw [← hw2']
  clear hw2'
  go_wp2_with (go_at_call 9; refine hC.mono ?_; rintro e w3 ⟨cb, a, b, c, d, rfl, i3, k3, l3, r3⟩)
  go_ret
  rw [hXr] at i3 r3
  have hsz2 := HK.out.size
  exact ⟨cb, a, b, c, d, rfl, i3, Kp.trans HK.out k3, Nat.le_trans hsz2 l3, fun k hk => Nat.le_trans hsz2 (r3 k hk)⟩
end Go.Proofs.YtghiffpolacmiabGreatDoor
