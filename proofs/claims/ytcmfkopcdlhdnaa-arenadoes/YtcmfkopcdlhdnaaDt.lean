import Derived.Test.YtcmfkopcdlhdnaaDs
namespace Go.Proofs.Ytcmfkopcdlhdnaa
open Go.ChangeShapes Go.WideShapes Go.ChangeAt Go.RowKit
set_option linter.unusedVariables false

set_option maxHeartbeats 2000000 in
set_option maxRecDepth 10000 in
theorem step_make (w wr : World) (Wb B M n : Nat) (f : Nat → Option Nat) (m : Nat → Nat) (R P : Nat) (g : Nat → Option Nat) (d : Pd) (o : Option Pd) (h : Wd w wr Wb B M n f m R P g m d d.t d.s d.t d.s o) (x : Opn) (hx : x.Ok) (ho : x.old = false ∨ o = none) (hk : pk x.kind 6 = 5) :
    Calls Try.prog 21 #[.pointer (some ⟨Wb, 0, none⟩), .agg x.cells] wr fun e w' => e = .returned (.bool true) ∧ StepEnd w wr Wb B M n f R P g d o (pk x.kind 6) w' := by
  obtain ⟨kind, pages, old, at_, base, b⟩ := x
  obtain ⟨hx1, hx2, hx3, hx4, hx5⟩ := hx
  simp only at hx1 hx2 hx3 hx4 hx5 ho hk
  simp only [Opn.cells]
  obtain ⟨w1, hw1⟩ : ∃ w1, w1 = wr.alloc (.cells #[.int .i64 kind, .int .i64 pages, .bool old, .int .u32 at_, .int .u32 base, .int .u8 b] 56) := ⟨_, rfl⟩
  obtain ⟨Ob, hOb⟩ : ∃ Ob, Ob = wr.heap.size := ⟨_, rfl⟩
  have hC1 : Chg wr w1 (fun _ => False) := by rw [hw1]; exact (Chg.refl _ _).alloc _
  have hO1 : w1.heap[Ob]? = some (.cells #[.int .i64 kind, .int .i64 pages, .bool old, .int .u32 at_, .int .u32 base, .int .u8 b] 56 (0, 0)) := by rw [hw1, hOb]; exact heap_alloc_new wr _
  have h1 := h.same hC1
  have P6 : Calls Try.prog 6 #[.int .i64 kind, .int .i64 6] w1 _ := pick_any w1 kind 6 (by omega) (by omega) hx1.1 hx1.2
  obtain ⟨c0, c1, c2, c3, c4, c5⟩ := h1.cells
  have o0 : w1.cell? ⟨Ob, 0, none⟩ = some (.int .i64 kind) := by simpa using (cells_at hO1 0).1
  have o1 : w1.cell? ⟨Ob, 1, none⟩ = some (.int .i64 pages) := by simpa using (cells_at hO1 1).1
  have o2 : w1.cell? ⟨Ob, 2, none⟩ = some (.bool old) := by simpa using (cells_at hO1 2).1
  have o3 : w1.cell? ⟨Ob, 3, none⟩ = some (.int .u32 at_) := by simpa using (cells_at hO1 3).1
  have o4 : w1.cell? ⟨Ob, 4, none⟩ = some (.int .u32 base) := by simpa using (cells_at hO1 4).1
  have o5 : w1.cell? ⟨Ob, 5, none⟩ = some (.int .u8 b) := by simpa using (cells_at hO1 5).1
  have hC1' : Chg wr w1 (Sx Wb B M f R P g d) := hC1.mono (fun _ _ h => h.elim)
  have K1 : Hid (Wd w w1 Wb B M n f m R P g m d d.t d.s d.t d.s o ∧ Chg wr w1 (Sx Wb B M f R P g d) ∧ wr.heap.size ≤ w1.heap.size ∧ w1.heap[Ob]? = some (.cells #[.int .i64 kind, .int .i64 pages, .bool old, .int .u32 at_, .int .u32 base, .int .u8 b] 56 (0, 0))) := ⟨h1, hC1', hC1.size, hO1⟩
  clear h h1 hC1 hC1' hO1
  have ho : old = false ∨ (old = true ∧ o = none) := by
    cases old
    · exact .inl rfl
    · exact .inr ⟨rfl, ho.resolve_left (by simp)⟩
  rw [hk] at P6
  by_cases hbad : badA n base pages
  · rcases ho with rfl | ⟨rfl, rfl⟩
    all_goals
      go_enter Try.func21, Try.ntmps21
      go_upto_region 1 with fail
      rw [← hOb, ← hw1]
      have hOb' : Hid (Ob = wr.heap.size) := hOb
      clear hw1 hOb
      try simp only [show qA none = none from rfl] at c4
      go_wp2_with fail
      go_at_call 6
      refine P6.mono ?_
      rintro e wq ⟨rfl, hw⟩
      rw [hw]; clear hw wq
      have T1 := make_bad w w1 Wb B M n f m R P g m _ _ _ _ K1.out.1.sd K1.out.1.box base hx4 pages hx2 hbad
      go_wp2_with fail
      go_at_call 20
      refine T1.mono ?_
      rintro e wq ⟨rfl, hw⟩
      rw [hw]; clear hw wq T1
      go_wp2
      go_ret
      exact ⟨rfl, f, _, g, d, _, K1.out.1, K1.out.2.1, fun hh => absurd hk hh⟩
  · obtain ⟨p0, pg, hb1, hb2, hpp⟩ : ∃ p0 pg : Nat, base = 4096 * p0 ∧ pages = pg ∧ p0 + pg ≤ n := by
      unfold badA at hbad
      have h1 : ¬ base % 4096 ≠ 0 := fun h => hbad (.inl h)
      have h2 : ¬ pages < 0 := fun h => hbad (.inr (.inl h))
      have h3 : ¬ (n : Int) - (base / 4096 : Nat) < pages := fun h => hbad (.inr (.inr h))
      exact ⟨base / 4096, pages.toNat, by omega, by omega, by omega⟩
    have HB : Hid (base = 4096 * p0 ∧ pages = pg) := ⟨hb1, hb2⟩
    clear hb1 hb2 hbad
    rcases ho with rfl | ⟨rfl, rfl⟩
    all_goals
      go_enter Try.func21, Try.ntmps21
      go_upto_region 1 with fail
      rw [← hOb, ← hw1]
      have hOb' : Hid (Ob = wr.heap.size) := hOb
      clear hw1 hOb
      try simp only [show qA none = none from rfl] at c4
      go_wp2_with fail
      go_at_call 6
      refine P6.mono ?_
      rintro e wq ⟨rfl, hw⟩
      rw [hw]; clear hw wq
      have T1 := make_ok w w1 Wb B M n f m R P g m _ _ _ _ K1.out.1.sd K1.out.1.box p0 pg hpp
      rw [← HB.out.1, ← HB.out.2] at T1
      go_wp2_with fail
      go_at_call 20
      refine T1.mono ?_
      rintro e w2 ⟨rfl, A, A6, hA, hA6, hbx, hIA, hI6, hC2⟩
      clear T1
      have KE : Hid (∀ oo, StepEnd w wr Wb B M n f R P g d oo (pk kind 6) w2) := by
        intro oo
        obtain ⟨k1, k2, k3, k4⟩ := K1.out
        have nM : ∀ k, Mf B M f k → ¬ k = Wb := fun k hk e => k1.sd.mem.no k1.box (by decide) (e ▸ hk)
        have nR : ∀ k, Rf R P g k → ¬ k = Wb := fun k hk e => k1.sd.ref.no k1.box (by decide) (e ▸ hk)
        have nA : ∀ x B' q1 q2 q3 q4, IsA w1 x B' q1 q2 q3 q4 → ¬ x = Wb := by
          rintro x B' q1 q2 q3 q4 hx rfl
          have := hx.box; rw [k1.box] at this; simp [boxW] at this
        have n6 : ∀ x B' q1 q2 q3 q4, Is6 w1 x B' q1 q2 q3 q4 → ¬ x = Wb := by
          rintro x B' q1 q2 q3 q4 hx rfl
          have := hx.box; rw [k1.box] at this; simp [boxW] at this
        have s0 := k1.sd.chg.size
        have a1 := k1.pr.a.lt
        have a2 := k1.pr.r.lt
        have yb := k1.yb
        refine ⟨f, m, g, ⟨A, A6, p0, pg, 0, false⟩, some d, ⟨⟨k1.sd.mem.other hC2 nM, k1.sd.ref.other hC2 nR, k1.sd.ym, k1.sd.yr, k1.sd.chg.trans hC2 (fun i hi e => by omega)⟩, hbx, k1.yb, ⟨hIA, hI6, hpp, by simp only; omega, by simp only; omega⟩, ?_⟩, k2.trans hC2 (fun i _ e => .inl e), fun hh => absurd hk hh⟩
        rintro e he
        cases he
        exact ⟨k1.pr.same hC2 (nA _ _ _ _ _ _ k1.pr.a) (n6 _ _ _ _ _ _ k1.pr.r), by simp only; omega, by simp only; omega⟩
      clear hbx hIA hI6 hC2 K1
      go_wp2
      go_ret
      exact ⟨rfl, KE.out _⟩
end Go.Proofs.Ytcmfkopcdlhdnaa
