import Derived.Test.YtadpgaaijdpbiaaLm
namespace Go.Proofs.Ytadpgaaijdpbiaa
open Go.ChangeShapes Go.WideShapes Go.ChangeAt Go.RowKit Go.Shelf
set_option linter.unusedVariables false
/-- A slot's value. -/
def slV (x : Sl4) : Value := .agg #[.int .i64 x.1.1, .int .u32 ((x.1.2 : Nat) : Int), .int .u32 ((x.2.1 : Nat) : Int), .int .u8 ((x.2.2 : Nat) : Int)]
/-- Two slots held against each other. -/
theorem neq58 (a b c d x y z u : Int) (w : World) : (binOp BinOp.neq 58 (.agg #[.int .i64 a, .int .u32 b, .int .u32 c, .int .u8 d]) (.agg #[.int .i64 x, .int .u32 y, .int .u32 z, .int .u8 u])).run Try.prog w = .ok (.bool (!decide ((a = x ∧ b = y) ∧ c = z ∧ d = u))) w := by
  rw [run_neq_struct, run_equalIn_agg w 9999 58 _ _ fields58 stood58]
  simp [Program.fieldsOf, Try.underlying58, go_sem]
  by_cases h1 : a = x <;> by_cases h2 : b = y <;> by_cases h3 : c = z <;> by_cases h4 : d = u <;> simp [h1, h2, h3, h4]
theorem slot_eq (s t : Sl4) : decide ((s.1.1 = t.1.1 ∧ ((s.1.2 : Nat) : Int) = ((t.1.2 : Nat) : Int)) ∧ ((s.2.1 : Nat) : Int) = ((t.2.1 : Nat) : Int) ∧ ((s.2.2 : Nat) : Int) = ((t.2.2 : Nat) : Int)) = decide (s = t) := by
  have : ((s.1.1 = t.1.1 ∧ ((s.1.2 : Nat) : Int) = ((t.1.2 : Nat) : Int)) ∧ ((s.2.1 : Nat) : Int) = ((t.2.1 : Nat) : Int) ∧ ((s.2.2 : Nat) : Int) = ((t.2.2 : Nat) : Int)) ↔ s = t :=
    ⟨fun h => Prod.ext (Prod.ext h.1.1 (by omega)) (Prod.ext (by omega) (by omega)), fun h => by rw [h]; exact ⟨⟨rfl, rfl⟩, rfl, rfl⟩⟩
  simp [this]
theorem neqS (s t : Sl4) (w : World) : (binOp BinOp.neq 58 (.agg #[.int .i64 s.1.1, .int .u32 ((s.1.2 : Nat) : Int), .int .u32 ((s.2.1 : Nat) : Int), .int .u8 ((s.2.2 : Nat) : Int)]) (.agg #[.int .i64 t.1.1, .int .u32 ((t.1.2 : Nat) : Int), .int .u32 ((t.2.1 : Nat) : Int), .int .u8 ((t.2.2 : Nat) : Int)])).run Try.prog w = .ok (.bool (!decide (s = t))) w := by
  rw [neq58, slot_eq]
theorem list_ne {a b : List Sl4} {j : Nat} (h : bAt a j ≠ bAt b j) : a ≠ b := fun e => h (by rw [e])
theorem list_same {a b : List Sl4} (hl : a.length = b.length) (h : ∀ j, j < a.length → bAt a j = bAt b j) : a = b := by
  apply List.ext_getElem hl
  intro j h1 h2
  rw [← bAt_get a j h1, ← bAt_get b j h2]
  exact h j h1

set_option maxHeartbeats 1000000 in
set_option maxRecDepth 10000 in
theorem sameSlots_any (w : World) (a b : Option Addr) (la lb ca cb : Nat) (l m : List Sl4) (ha : SlotsIn w a la l) (hb : SlotsIn w b lb m) (h1 : la ≤ 1000000000) (r : Bool) (hr : r = decide (l = m)) :
    Calls Try.prog 22 #[.slice a la ca, .slice b lb cb] w fun e w' => e = .returned (.bool r) ∧ Kp w w' := by
  have HA : Hid (SlotsIn w a la l ∧ SlotsIn w b lb m) := ⟨ha, hb⟩
  have HR : Hid (r = decide (l = m)) := hr
  clear hr
  by_cases hll : la = lb
  · subst hll
    clear ha hb
    go_enter Try.func22, Try.ntmps22
    go_wp2
    go_loopw [5] (fun i wr => ∃ j : Nat, j ≤ la ∧ i = .int .i64 j ∧ Hid (Kp w wr ∧ ∀ q, q < j → bAt l q = bAt m q)) (fun i _ => la - (intOf i).toNat)
    case atStart => exact ⟨0, by omega, rfl, ⟨Chg.refl _ _, fun q hq => by omega⟩⟩
    case round =>
      obtain ⟨j, hj, rfl, HN⟩ := hrel
      by_cases hlt : j < la
      · have hltz : (j : Int) < (la : Int) := by omega
        have hl1 := HA.out.1.ln
        have hl2 := HA.out.2.ln
        obtain ⟨g1, o1, e1, _, c1⟩ := (HA.out.1.kp HN.out.1).src.resolve_left (by omega)
        obtain ⟨g2, o2, e2, _, c2⟩ := (HA.out.2.kp HN.out.1).src.resolve_left (by omega)
        subst e1 e2
        obtain ⟨c10, c11, c12, c13⟩ := c1 j (by omega)
        obtain ⟨c20, c21, c22, c23⟩ := c2 j (by omega)
        rw [← bAt_get l j (by omega)] at c10 c11 c12 c13
        rw [← bAt_get m j (by omega)] at c20 c21 c22 c23
        have hq := fun W => neqS (bAt l j) (bAt m j) W
        have HD : Hid (∀ q, q < j → bAt l q = bAt m q) := HN.out.2
        have HK : Hid (Kp w wr) := HN.out.1
        obtain ⟨x, hx⟩ : ∃ x, x = bAt l j := ⟨_, rfl⟩
        obtain ⟨y, hy⟩ : ∃ y, y = bAt m j := ⟨_, rfl⟩
        have HX : Hid (x = bAt l j ∧ y = bAt m j) := ⟨hx, hy⟩
        rw [← hx, ← hy] at hq
        rw [← hx] at c10 c11 c12 c13
        rw [← hy] at c20 c21 c22 c23
        clear hx hy c1 c2 hl1 hl2 HN
        by_cases hxy : x = y
        · rw [decide_eq_true hxy] at hq
          have HE : Hid (x = y) := hxy
          clear hxy
          go_wp2_with fail
          go_quiet (fail)
          go_wp2
          refine ⟨⟨j + 1, by omega, by go_num, ⟨Chg.drewN HK.out _, fun q hq' => ?_⟩⟩, by simp [intOf]; omega⟩
          rcases Nat.lt_or_ge q j with h1 | h1
          · exact HD.out q h1
          · have : q = j := by omega
            subst this; rw [← HX.out.1, ← HX.out.2]; exact HE.out
        · rw [decide_eq_false hxy] at hq
          have HE : Hid (r = false) := by
            show r = false
            rw [HR.out]
            exact decide_eq_false (list_ne (j := j) (fun e => hxy (HX.out.1.trans (e.trans HX.out.2.symm))))
          clear hxy
          go_wp2_with fail
          go_quiet (fail)
          go_wp2
          go_ret
          exact ⟨by rw [HE.out]; rfl, Chg.drewN HK.out _⟩
      · have hltz : ¬ (j : Int) < (la : Int) := by omega
        have HE : Hid (r = true) := by
          have hl1 := HA.out.1.ln
          have hl2 := HA.out.2.ln
          show r = true
          rw [HR.out]
          exact decide_eq_true (list_same (by omega) (fun q hq => HN.out.2 q (by omega)))
        have HK : Hid (Kp w wr) := HN.out.1
        clear HN
        go_wp2
        go_ret
        exact ⟨by rw [HE.out]; rfl, HK.out⟩
  · have hne : ((la : Int) != (lb : Int)) = true := by simp; omega
    have HE : Hid (r = false) := by
      show r = false
      rw [HR.out]
      refine decide_eq_false (fun e => ?_)
      have h1 := ha.ln
      have h2 := hb.ln
      rw [e] at h1
      omega
    clear ha hb hll
    go_enter Try.func22, Try.ntmps22
    go_wp2
    go_ret
    exact ⟨by rw [HE.out]; rfl, Chg.refl _ _⟩
end Go.Proofs.Ytadpgaaijdpbiaa
