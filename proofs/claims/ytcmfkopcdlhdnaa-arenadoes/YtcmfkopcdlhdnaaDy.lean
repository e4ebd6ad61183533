import Derived.Test.YtcmfkopcdlhdnaaDx
namespace Go.Proofs.Ytcmfkopcdlhdnaa
open Go.ChangeShapes Go.WideShapes Go.ChangeAt Go.RowKit
set_option linter.unusedVariables false

/-- A script that can be read. -/
structure OpsIn (w : World) (a : Option Addr) (len : Nat) (F : Nat → Opn) : Prop where
  src : len = 0 ∨ ∃ b off, a = some ⟨b, off, none⟩ ∧ b < w.heap.size ∧ ∀ i, i < len → ∀ q, q < 6 → w.cell? ⟨b, off + i * 6 + q, none⟩ = (F i).cells[q]?
  le : len ≤ 8796093022208
  ok : ∀ i, i < len → (F i).Ok
theorem OpsIn.kept {w w' : World} {a : Option Addr} {len : Nat} {F : Nat → Opn} (h : OpsIn w a len F) (hc : Chg w w' (fun _ => False)) : OpsIn w' a len F := by
  refine ⟨h.src.imp_right ?_, h.le, h.ok⟩
  rintro ⟨b, off, rfl, hb, hh⟩
  exact ⟨b, off, rfl, Nat.lt_of_lt_of_le hb hc.size, fun i hi q hq => (hc.cell hb (fun h => h)).trans (hh i hi q hq)⟩

/-- make, whatever is asked. -/
theorem make_all (w wr : World) (Wb B M n : Nat) (f : Nat → Option Nat) (m : Nat → Nat) (R P : Nat) (g : Nat → Option Nat) (d : Pd) (o : Option Pd) (h : Wd w wr Wb B M n f m R P g m d d.t d.s d.t d.s o) (base : Nat) (hb : base < 4294967296) (pages : Int) (hp : InI pages) :
    Calls Try.prog 20 #[.pointer (some ⟨Wb, 0, none⟩), .int .u32 base, .int .i64 pages] wr fun e w' => e = .returned (.bool true) ∧ StepAll w Wb B M n R P w' := by
  by_cases hbad : badA n base pages
  · refine (make_bad w wr Wb B M n f m R P g m _ _ _ _ h.sd h.box base hb pages hp hbad).mono ?_
    rintro e w' ⟨rfl, rfl⟩
    exact ⟨rfl, f, m, g, d, o, h⟩
  · obtain ⟨p0, pg, rfl, rfl, hpp⟩ : ∃ p0 pg : Nat, base = 4096 * p0 ∧ pages = pg ∧ p0 + pg ≤ n := by
      unfold badA at hbad
      have h1 : ¬ base % 4096 ≠ 0 := fun h => hbad (.inl h)
      have h2 : ¬ pages < 0 := fun h => hbad (.inr (.inl h))
      have h3 : ¬ (n : Int) - (base / 4096 : Nat) < pages := fun h => hbad (.inr (.inr h))
      exact ⟨base / 4096, pages.toNat, by omega, by omega, by omega⟩
    refine (make_ok w wr Wb B M n f m R P g m _ _ _ _ h.sd h.box p0 pg hpp).mono ?_
    rintro e w2 ⟨rfl, A, A6, hA, hA6, hbx, hIA, hI6, hC2⟩
    have nM : ∀ k, Mf B M f k → ¬ k = Wb := fun k hk e => h.sd.mem.no h.box (by decide) (e ▸ hk)
    have nR : ∀ k, Rf R P g k → ¬ k = Wb := fun k hk e => h.sd.ref.no h.box (by decide) (e ▸ hk)
    have nA : ¬ d.A = Wb := by
      intro e
      have := h.pr.a.box; rw [e, h.box] at this; simp [boxW] at this
    have n6 : ¬ d.A6 = Wb := by
      intro e
      have := h.pr.r.box; rw [e, h.box] at this; simp [boxW] at this
    have s0 := h.sd.chg.size
    have a1 := h.pr.a.lt
    have a2 := h.pr.r.lt
    have yb := h.yb
    refine ⟨rfl, f, m, g, ⟨A, A6, p0, pg, 0, false⟩, some d, ⟨⟨h.sd.mem.other hC2 nM, h.sd.ref.other hC2 nR, h.sd.ym, h.sd.yr, h.sd.chg.trans hC2 (fun i hi e => by omega)⟩, hbx, h.yb, ⟨hIA, hI6, hpp, by simp only; omega, by simp only; omega⟩, ?_⟩⟩
    rintro e he
    cases he
    exact ⟨h.pr.same hC2 nA n6, by simp only; omega, by simp only; omega⟩

set_option maxHeartbeats 4000000 in
set_option maxRecDepth 20000 in
theorem does_walk (w : World) (a0 a2 : Int) (base : Nat) (ma : Option Addr) (len cap : Nat) (F : Nat → Opn) (hF : OpsIn w ma len F) (h0 : InI a0) (hb : base < 4294967296) (h2 : InI a2) :
    Calls Try.prog 5 #[.int .i64 a0, .int .u32 base, .int .i64 a2, .slice ma len cap] w fun e w' => e = .returned (.bool true) ∧ Below w.heap.size w w' := by
  obtain ⟨n, hn⟩ : ∃ n, n = 1 + pk a0 16 := ⟨_, rfl⟩
  have l0 := pk_lt a0 16 (by omega)
  have P0 : Calls Try.prog 6 #[.int .i64 a0, .int .i64 16] w _ := pick_any w a0 16 (by omega) (by omega) h0.1 h0.2
  have hN := new_ok w n (by omega) (by omega)
  have hn1 : 1 ≤ n := by omega
  have hn2 : n ≤ 4096 := by omega
  obtain ⟨x, hx⟩ : ∃ x, x = pk a0 16 := ⟨_, rfl⟩
  rw [← hx] at P0 hn
  have e0 : 1 + (x : Int) = n := by omega
  have HF : Hid (OpsIn w ma len F) := hF
  have hle := hF.le
  have hnum := num_any
  clear hn l0 hx hF
  go_enter Try.func5, Try.ntmps5
  go_wp2_with fail
  go_at_call 6
  refine P0.mono ?_
  rintro e wa ⟨rfl, hw⟩
  rw [hw]; clear hw wa P0
  go_wp2_with fail
  go_at_call 7
  refine hN.mono ?_
  rintro e w1 ⟨B, M, rfl, hI, hB, hM, hC⟩
  have hR := rnew_ok w1 n hn1 hn2
  have K1 : Hid (IsM w1 B M n (fun _ => none) (fun _ => 0) ∧ w.heap.size ≤ B ∧ w.heap.size ≤ M ∧ Chg w w1 (fun _ => False)) := ⟨hI, hB, hM, hC⟩
  clear hI hB hM hC hN
  go_wp2_with fail
  go_at_call 18
  refine hR.mono ?_
  rintro e w2 ⟨R, P, rfl, hI, hRb, hP, hC⟩
  have K2 : Hid (Sd w w2 B M n (fun _ => none) (fun _ => 0) R P (fun _ => none) (fun _ => 0)) := by
    obtain ⟨q1, q2, q3, q4⟩ := K1.out
    have := q4.size
    refine ⟨q1.other hC (fun _ _ h => h), hI, ?_, ?_, q4.trans hC (fun _ _ h => h)⟩
    · rintro k (rfl | rfl | ⟨p, hp⟩)
      · exact q2
      · exact q3
      · cases hp
    · rintro k (rfl | rfl | ⟨p, hp⟩)
      · omega
      · omega
      · cases hp
  clear hI hRb hP hC hR K1
  obtain ⟨w3, hw3⟩ : ∃ w3, w3 = w2.alloc (.cells #[.pointer (some ⟨B, 0, none⟩), .pointer (some ⟨R, 0, none⟩), .pointer none, .pointer none, .pointer none, .pointer none] 52) := ⟨_, rfl⟩
  obtain ⟨Wb, hWb⟩ : ∃ Wb, Wb = w2.heap.size := ⟨_, rfl⟩
  have hC3 : Chg w2 w3 (fun _ => False) := by rw [hw3]; exact (Chg.refl _ _).alloc _
  have hX3 : w3.heap[Wb]? = some (boxW B R none none none none) := by rw [hw3, hWb]; exact heap_alloc_new w2 _
  have hs3 := K2.out.same hC3
  have M3 := make_ok w w3 Wb B M n _ _ R P _ _ none none none none hs3 hX3 0 1 (by omega)
  have K3 : Hid (Sd w w3 B M n (fun _ => none) (fun _ => 0) R P (fun _ => none) (fun _ => 0) ∧ w3.heap[Wb]? = some (boxW B R none none none none) ∧ w.heap.size ≤ Wb) := ⟨hs3, hX3, by have := K2.out.chg.size; omega⟩
  clear hC3 hX3 hs3 K2
  go_upto_region 7 with (first
    | (go_at_call 19; refine (hnum _ _).mono ?_; rintro e wq ⟨rfl, hw⟩; rw [hw]; clear hw wq)
    | fail)
  rw [← hWb, ← hw3]
  clear hw3 hWb
  have M3' : Calls Try.prog 20 #[.pointer (some ⟨Wb, 0, none⟩), .int .u32 0, .int .i64 1] w3 _ := M3
  clear M3
  go_wp2_with fail
  go_at_call 20
  refine M3'.mono ?_
  rintro e w4 ⟨rfl, A, A6, hA, hA6, hbx, hIA, hI6, hC4⟩
  obtain ⟨d, hd⟩ : ∃ d : Pd, d = ⟨A, A6, 0, 1, 0, false⟩ := ⟨_, rfl⟩
  have h4 : Wd w w4 Wb B M n (fun _ => none) (fun _ => 0) R P (fun _ => none) (fun _ => 0) d d.t d.s d.t d.s none := by
    subst hd
    obtain ⟨k1, k2, k3⟩ := K3.out
    have nM : ∀ k, Mf B M (fun _ => none) k → ¬ k = Wb := fun k hk e => k1.mem.no k2 (by decide) (e ▸ hk)
    have nR : ∀ k, Rf R P (fun _ => none) k → ¬ k = Wb := fun k hk e => k1.ref.no k2 (by decide) (e ▸ hk)
    have s0 := k1.chg.size
    exact ⟨⟨k1.mem.other hC4 nM, k1.ref.other hC4 nR, k1.ym, k1.yr, k1.chg.trans hC4 (fun i hi e => by omega)⟩, hbx, k3, ⟨hIA, hI6, by simp only; omega, by simp only; omega, by simp only; omega⟩, fun _ he => by cases he⟩
  have S4 := step_base w w4 Wb B M n _ _ R P _ d none h4 ⟨4, 0, false, 5, 0, 9⟩ ⟨by simp [InI], by simp [InI], by simp, by simp, by simp⟩ (.inl rfl)
  simp only [Opn.cells] at S4
  rw [show pk 4 6 = 4 from rfl] at S4
  obtain ⟨-, -, c2, -, -, -⟩ := h4.cells
  have HD : Hid (d = ⟨A, A6, 0, 1, 0, false⟩) := hd
  clear hA hA6 hbx hIA hI6 hC4 h4 hd M3' K3
  have S4' : Calls Try.prog 21 #[.pointer (some ⟨Wb, 0, none⟩), .agg #[.int .i64 4, .int .i64 0, .bool false, .int .u32 5, .int .u32 0, .int .u8 9]] w4 _ := S4
  clear S4
  go_wp2_with fail
  go_at_call 21
  refine S4'.mono ?_
  rintro e w5 ⟨rfl, f5, m5, g5, d5, o5, h5, -, hk5⟩
  obtain ⟨k1, k2, k3, k4, k5, k6, k7⟩ := hk5 (by omega)
  have S5 := step_base w w5 Wb B M n _ _ R P _ d5 o5 h5 ⟨0, 0, false, 0, 0, 0⟩ ⟨by simp [InI], by simp [InI], by simp, by simp, by simp⟩ (.inl rfl)
  simp only [Opn.cells] at S5
  rw [show pk 0 6 = 0 from rfl] at S5
  have HD5 : Hid (d5.pages = 1 ∧ d5.t = 0 ∧ d5.s = false) := by
    rw [HD.out] at k4 k6 k7
    exact ⟨k4, k6, k7⟩
  clear c2 S4' h5 hk5 k1 k2 k3 k4 k5 k6 k7 HD
  have S5' : Calls Try.prog 21 #[.pointer (some ⟨Wb, 0, none⟩), .agg #[.int .i64 0, .int .i64 0, .bool false, .int .u32 0, .int .u32 0, .int .u8 0]] w5 _ := S5
  clear S5
  go_wp2_with fail
  go_at_call 21
  refine S5'.mono ?_
  rintro e w6 ⟨rfl, f6, m6, g6, d6, o6, h6, -, hk6⟩
  obtain ⟨-, -, -, -, -, k6, -⟩ := hk6 (by omega)
  have ht6 : d6.t = 1 := by
    rw [k6]
    obtain ⟨q1, q2, q3⟩ := HD5.out
    simp [effT, tkTo, tkNo, q1, q2, q3]
  have T6 : Calls Try.prog 22 #[.pointer (some ⟨Wb, 0, none⟩), .int .u32 0] w6 _ := told_any w w6 Wb B M n f6 m6 R P g6 m6 d6 d6.t d6.s o6 h6 0 (by omega)
  have K6 : Hid (Wd w w6 Wb B M n f6 m6 R P g6 m6 d6 d6.t d6.s d6.t d6.s o6 ∧ d6.t = 1) := ⟨h6, ht6⟩
  clear h6 hk6 k6 ht6 S5' HD5
  go_wp2_with fail
  go_at_call 22
  refine T6.mono ?_
  rintro e w7 ⟨rfl, hC7⟩
  have h7 := K6.out.1.same hC7
  obtain ⟨-, -, c2, -, -, -⟩ := h7.cells
  have T7 := taken_any w7 d6.A B d6.p0 d6.pages d6.t d6.s h7.pr.a
  rw [K6.out.2] at T7
  have S7 := same_any w w7 Wb B M n f6 m6 R P g6 d6 o6 h7
  clear h7 hC7 K6 T6
  have T7' : Calls Try.prog 10 #[.pointer (some ⟨d6.A, 0, none⟩)] w7 fun e w' => e = .returned (.int .i64 1) ∧ w' = w7 := T7
  clear T7
  go_wp2_with (first
    | (go_at_call 10; refine T7'.mono ?_; rintro e wq ⟨rfl, hw⟩; rw [hw]; clear hw wq)
    | fail)
  go_at_call 23
  refine S7.mono ?_
  rintro e w8 ⟨rfl, h8⟩
  have M8 := make_all w w8 Wb B M n f6 m6 R P g6 d6 o6 h8 base hb a2 h2
  clear h8 S7 c2 T7'
  go_wp2_with fail
  go_at_call 20
  refine M8.mono ?_
  rintro e w9 ⟨rfl, hA9⟩
  have K9 : Hid (StepAll w Wb B M n R P w9) := hA9
  clear M8 hA9
  go_wp2
  go_loopw [15, 17] (fun ok i wr => ∃ j : Nat, j ≤ len ∧ ok = .bool true ∧ i = .int .i64 j ∧ StepAll w Wb B M n R P wr) (fun _ i _ => len - (intOf i).toNat)
  case atStart => exact ⟨0, by omega, rfl, rfl, K9.out⟩
  case round =>
    clear K9
    obtain ⟨j, hj, rfl, rfl, fr, mr, gr, dr, or_, hr⟩ := hrel
    by_cases hlt : j < len
    · have hFr := HF.out.kept hr.sd.chg
      rcases hFr.src with e | ⟨bz, off, rfl, hbz, hcz⟩
      · omega
      have hok := hFr.ok j hlt
      have S := step_any w wr Wb B M n fr mr R P gr dr or_ hr (F j) hok
      have z0 := hcz j hlt 0 (by omega)
      have z1 := hcz j hlt 1 (by omega)
      have z2 := hcz j hlt 2 (by omega)
      have z3 := hcz j hlt 3 (by omega)
      have z4 := hcz j hlt 4 (by omega)
      have z5 := hcz j hlt 5 (by omega)
      obtain ⟨X, hX⟩ : ∃ X, X = F j := ⟨_, rfl⟩
      rw [← hX] at S z0 z1 z2 z3 z4 z5
      obtain ⟨kind, pages, old, at_, bs_, b⟩ := X
      simp only [Opn.cells, List.getElem?_toArray, List.getElem?_cons_zero, List.getElem?_cons_succ, Nat.add_zero] at S z0 z1 z2 z3 z4 z5
      clear hX hok hcz hFr hr
      go_wp2_with fail
      go_at_call 21
      refine S.mono ?_
      rintro e w10 ⟨rfl, hA10⟩
      have K10 : Hid (StepAll w Wb B M n R P w10) := hA10
      clear hA10 S z0 z1 z2 z3 z4 z5
      go_wp2
      go_roundw
      case rel => exact ⟨j + 1, by omega, rfl, by go_num, K10.out⟩
      case measure => simp [intOf]; omega
    · have S := same_any w wr Wb B M n fr mr R P gr dr or_ hr
      have N := anew_nil
      clear hr
      go_wp2_with fail
      go_at_call 23
      refine S.mono ?_
      rintro e w10 ⟨rfl, h10⟩
      have N' : Calls Try.prog 8 #[.pointer none, .int .u32 0, .int .i64 0] w10 _ := N w10 0 0
      have K10 : Hid (Chg w w10 (fun _ => False)) := h10.sd.chg
      clear h10 S N
      go_wp2_with (first
        | (go_at_call 8; refine N'.mono ?_; rintro e wq ⟨rfl, hw⟩; rw [hw]; clear hw wq)
        | fail)
      go_ret
      exact ⟨rfl, K10.out.below (Nat.le_refl _) (fun _ _ h => h)⟩
end Go.Proofs.Ytcmfkopcdlhdnaa
