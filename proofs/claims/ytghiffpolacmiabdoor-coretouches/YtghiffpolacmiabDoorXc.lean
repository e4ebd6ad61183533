import Derived.Test.YtghiffpolacmiabDoorWc
namespace Go.Proofs.YtghiffpolacmiabDoor
open Go.ChangeShapes Go.WideShapes Go.ChangeAt Go.RowKit
set_option linter.unusedVariables false

set_option maxRecDepth 100000 in
set_option maxHeartbeats 4000000 in
theorem copied_gen (w : World) (bb : Nat) (x : Bd) (hbx : w.heap[bb]? = some (.cells (bxc x).toArray 52 (0, 0))) (rws : Rw w .u32 x.wv x.ws) (rvs : Rw w .u32 x.vv x.vs) (rcy : Rw w .i64 x.cv x.cy) (rfa : Rw w .i64 x.fv x.fa) (hl : x.lv = .slice none 0 0) (hg : x.lg = []) (hs : x.small) :
    Calls Tryd.prog 15 #[.pointer (some ⟨bb, 0, none⟩)] w (Cp w x) := by
  obtain ⟨s1, s2, s3, s4⟩ := hs
  obtain ⟨w1, hw1⟩ : ∃ w1, w1 = w.drew.alloc (.cells (bxc { x with wv := .slice none 0 0, vv := .slice none 0 0, cv := .slice none 0 0, fv := .slice none 0 0, lv := .slice none 0 0 }).toArray 52) := ⟨_, rfl⟩
  have k1 : Kp w w1 := by rw [hw1]; exact ((Chg.refl w _).drew).alloc _
  obtain ⟨cb, hcb⟩ : ∃ cb, cb = w.heap.size := ⟨_, rfl⟩
  have b1 : w1.heap[cb]? = some (.cells (bxc { x with wv := .slice none 0 0, vv := .slice none 0 0, cv := .slice none 0 0, fv := .slice none 0 0, lv := .slice none 0 0 }).toArray 52 (0, 0)) := by rw [hw1, hcb]; exact heap_alloc_new w.drew _
  have hne : cb ≠ bb := by have := hp_lt hbx; omega
  have i1 := Kp.heap k1 hbx
  obtain ⟨v0, wa0, g0, n0, c0, w2, e2, r0, p0, hv0, b2, ch2, rw0, hl0⟩ := cp_step 26 22 .u32 4 Tryd.underlying26 info22' w1 x.wv x.ws (rws.chg k1 (fun _ _ h => h)) s1 cb 0 _ b1
  have K2 : Kp w w2 := Chg.trans k1 ch2 (fun i hi e => by omega)
  have i2 := Kp.heap K2 hbx
  obtain ⟨v1, wa1, g1, n1, c1, w3, e3, r1, p1, hv1, b3, ch3, rw1, hl1⟩ := cp_step 26 22 .u32 4 Tryd.underlying26 info22' w2 x.vv x.vs (rvs.chg K2 (fun _ _ h => h)) s2 cb 1 _ b2
  have K3 : Kp w w3 := Chg.trans K2 ch3 (fun i hi e => by omega)
  have i3 := Kp.heap K3 hbx
  obtain ⟨v2, wa2, g2, n2, c2, w4, e4, r2, p2, hv2, b4, ch4, rw2, hl2⟩ := cp_step 48 3 .i64 8 Tryd.underlying48 info3' w3 x.cv x.cy (rcy.chg K3 (fun _ _ h => h)) s3 cb 2 _ b3
  have K4 : Kp w w4 := Chg.trans K3 ch4 (fun i hi e => by omega)
  have i4 := Kp.heap K4 hbx
  obtain ⟨v3, wa3, g3, n3, c3, w5, e5, r3, p3, hv3, b5, ch5, rw3, hl3⟩ := cp_step 49 41 .i64 8 Tryd.underlying49 info36' w4 x.fv x.fa (rfa.chg K4 (fun _ _ h => h)) s4 cb 3 _ b4
  have K5 : Kp w w5 := Chg.trans K4 ch5 (fun i hi e => by omega)
  have i5 := Kp.heap K5 hbx
  obtain ⟨w6, e6⟩ : ∃ w6, w6 = w5.drew.setCell ⟨cb, 7, none⟩ (.slice none 0 0) := ⟨_, rfl⟩
  have k5 : Kp w5 w5.drew := (Chg.refl _ _).drew
  have b6 : w6.heap[cb]? = some (.cells (bxc (x.rows v0 v1 v2 v3)).toArray 52 (0, 0)) := by
    rw [e6, heap_setCell_same w5.drew cb 7 _ 52 _ (Kp.heap k5 b5)]
    congr 2
    simp only [Bd.rows, bxc, hl]
    rfl
  have ch6 : Chg w5 w6 (fun k => k = cb) := by rw [e6]; exact Chg.setCell (S := fun k => k = cb) ((Chg.refl w5 _).drew) (.inl rfl) _
  have z1 := k1.size
  have z2 := ch2.size
  have z3 := ch3.size
  have z4 := ch4.size
  have z5 := ch5.size
  have z6 := ch6.size
  have hc1 := hp_lt b1
  have HI : Hid (IsB w6 cb (x.rows v0 v1 v2 v3) ∧ Kp w w6 ∧ ∀ k, (x.rows v0 v1 v2 v3).row k → w.heap.size ≤ k) := by
    have q0 : ∀ g, v0.ownBlock = some g → ¬ g = cb := fun g hg e => by have := hl0 g hg; omega
    have q1 : ∀ g, v1.ownBlock = some g → ¬ g = cb := fun g hg e => by have := hl1 g hg; omega
    have q2 : ∀ g, v2.ownBlock = some g → ¬ g = cb := fun g hg e => by have := hl2 g hg; omega
    have q3 : ∀ g, v3.ownBlock = some g → ¬ g = cb := fun g hg e => by have := hl3 g hg; omega
    refine ⟨⟨b6, (((rw0.chg ch3 q0).chg ch4 q0).chg ch5 q0).chg ch6 q0, ((rw1.chg ch4 q1).chg ch5 q1).chg ch6 q1, (rw2.chg ch5 q2).chg ch6 q2, rw3.chg ch6 q3, ?_, fun k hk => ?_, ?_⟩, ?_, fun k hk => ?_⟩
    · show w6.ownsRow 0 65 4 x.lv x.lg.length (x.lg.flatMap Lg.cs)
      rw [hl, hg]
      exact World.ownsRow_nil _ _ _ _
    · refine ⟨?_, ?_, ?_⟩
      · rcases hk with e | e | e | e
        · exact q0 k e
        · exact q1 k e
        · exact q2 k e
        · exact q3 k e
      · show x.lv.ownBlock ≠ some k
        rw [hl]
        exact fun e => by cases e
      · rcases hk with e | e | e | e
        · have := hl0 k e; omega
        · have := hl1 k e; omega
        · have := hl2 k e; omega
        · have := hl3 k e; omega
    · show x.lv.ownBlock ≠ some cb
      rw [hl]
      exact fun e => by cases e
    · refine Chg.trans (T := fun k => k = cb) k1 (Chg.trans (T := fun k => k = cb) ch2 (Chg.trans (T := fun k => k = cb) ch3 (Chg.trans (T := fun k => k = cb) ch4 (Chg.trans (T := fun k => k = cb) ch5 ch6 (fun _ _ e => e)) (fun _ _ e => e)) (fun _ _ e => e)) (fun _ _ e => e)) (fun i hi e => by omega)
    · rcases hk with e | e | e | e
      · have := hl0 k e; omega
      · have := hl1 k e; omega
      · have := hl2 k e; omega
      · have := hl3 k e; omega
  have o4 : w.cell? ⟨bb, 4, none⟩ = some (.int .u64 x.tm) := (cells_at hbx 4).1
  have o5 : w.cell? ⟨bb, 5, none⟩ = some (.int .i64 x.ln) := (cells_at hbx 5).1
  have o6 : w.cell? ⟨bb, 6, none⟩ = some (.bool x.od) := (cells_at hbx 6).1
  have o8 : w.cell? ⟨bb, 8, none⟩ = some (.int .i64 (x.iw : Nat)) := (cells_at hbx 8).1
  have o9 : w.cell? ⟨bb, 9, none⟩ = some (.int .i64 (x.iv : Nat)) := (cells_at hbx 9).1
  have o10 : w.cell? ⟨bb, 10, none⟩ = some (.int .i64 (x.ic : Nat)) := (cells_at hbx 10).1
  have o11 : w.cell? ⟨bb, 11, none⟩ = some (.int .i64 (x.jf : Nat)) := (cells_at hbx 11).1
  have a2 : w1.cell? ⟨bb, 0, none⟩ = some (x.wv) := (cells_at i1 0).1
  have a3 : w2.cell? ⟨bb, 1, none⟩ = some (x.vv) := (cells_at i2 1).1
  have a4 : w3.cell? ⟨bb, 2, none⟩ = some (x.cv) := (cells_at i3 2).1
  have a5 : w4.cell? ⟨bb, 3, none⟩ = some (x.fv) := (cells_at i4 3).1
  have a6 : w5.cell? ⟨bb, 7, none⟩ = some (x.lv) := (cells_at i5 7).1
  rw [hl] at a6
  have m2 : w1.cell? ⟨cb, 0, none⟩ = some (.slice none 0 0) := (cells_at b1 0).1
  have f2 := (cells_at b1 0).2
  have m3 : w2.cell? ⟨cb, 1, none⟩ = some (.slice none 0 0) := (cells_at b2 1).1
  have f3 := (cells_at b2 1).2
  have m4 : w3.cell? ⟨cb, 2, none⟩ = some (.slice none 0 0) := (cells_at b3 2).1
  have f4 := (cells_at b3 2).2
  have m5 : w4.cell? ⟨cb, 3, none⟩ = some (.slice none 0 0) := (cells_at b4 3).1
  have f5 := (cells_at b4 3).2
  have m6 : w5.cell? ⟨cb, 7, none⟩ = some (.slice none 0 0) := (cells_at b5 7).1
  have f6 := (cells_at b5 7).2
  have hb : #[.slice none 0 0, .slice none 0 0, .slice none 0 0, .slice none 0 0, .int .u64 x.tm, .int .i64 x.ln, .bool x.od, .slice none 0 0, .int .i64 (x.iw : Nat), .int .i64 (x.iv : Nat), .int .i64 (x.ic : Nat), .int .i64 (x.jf : Nat)] = (bxc { x with wv := .slice none 0 0, vv := .slice none 0 0, cv := .slice none 0 0, fv := .slice none 0 0, lv := .slice none 0 0 }).toArray := rfl
  have hcl : Hid (w.heap.size ≤ cb) := by show _ ≤ _; omega
  clear b1 b2 b3 b4 b5 b6 ch2 ch3 ch4 ch5 ch6 rw0 rw1 rw2 rw3 hl0 hl1 hl2 hl3 i1 i2 i3 i4 i5 K2 K3 K4 K5 rws rvs rcy rfa hbx s1 s2 s3 s4 z1 z2 z3 z4 z5 z6 hc1
  generalize (bxc { x with wv := .slice none 0 0, vv := .slice none 0 0, cv := .slice none 0 0, fv := .slice none 0 0, lv := .slice none 0 0 }).toArray = BX at *
  go_enter Tryd.func15, Tryd.ntmps15
  go_upto_region 1 with (fail)
  refine reg10_1 w bb x.tm x.ln _ _ _ _ x.od BX ⟨o4, o5, o6, o8, o9, o10, o11⟩ hb _ (fun _ _ _ q _ h => by cases q <;> exact h) ?_
  rw [← hw1, ← hcb]
  go_upto_region 2 with (fail)
  refine reg10_2 w1 wa0 bb cb _ v0 g0 n0 c0 hne a2 m2 f2 r0 p0 hv0 _ (fun _ _ _ q _ h => by cases q <;> exact h) ?_
  rw [← e2]
  go_upto_region 3 with (fail)
  refine reg10_3 w2 wa1 bb cb _ v1 g1 n1 c1 hne a3 m3 f3 r1 p1 hv1 _ (fun _ _ _ q _ h => by cases q <;> exact h) ?_
  rw [← e3]
  go_upto_region 4 with (fail)
  refine reg10_4 w3 wa2 bb cb _ v2 g2 n2 c2 hne a4 m4 f4 r2 p2 hv2 _ (fun _ _ _ q _ h => by cases q <;> exact h) ?_
  rw [← e4]
  go_upto_region 5 with (fail)
  refine reg10_5 w4 wa3 bb cb _ v3 g3 n3 c3 hne a5 m5 f5 r3 p3 hv3 _ (fun _ _ _ q _ h => by cases q <;> exact h) ?_
  rw [← e5]
  go_upto_region 6 with (fail)
  refine reg10_6 w5 w5.drew bb cb _ (.slice none 0 0) 0 0 0 hne a6 m6 f6 (app_nil32 _) k5 (.inl rfl) _ (fun _ _ _ q _ h => by cases q <;> exact h) ?_
  rw [← e6]
  go_wp2_with fail
  go_ret
  exact ⟨cb, v0, v1, v2, v3, rfl, HI.out.1, HI.out.2.1, hcl.out, HI.out.2.2⟩

end Go.Proofs.YtghiffpolacmiabDoor
