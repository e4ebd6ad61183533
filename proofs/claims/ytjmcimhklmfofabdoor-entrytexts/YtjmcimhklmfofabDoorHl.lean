import Derived.Test.YtjmcimhklmfofabDoorMd
namespace Go.Proofs.YtjmcimhklmfofabDoor
set_option linter.unusedVariables false

/-- A digit, and no capital. -/
def hl (c : UInt8) : Option Nat := if 48 ≤ c.toNat ∧ c.toNat ≤ 57 then some (c.toNat - 48) else if 97 ≤ c.toNat ∧ c.toNat ≤ 102 then some (c.toNat - 87) else none
def hls : Nat → List UInt8 → Option Nat
  | a, [] => some a
  | a, c :: l => match hl c with
    | some d => hls (16 * a + d) l
    | none => none

def hlOk (c : UInt8) : Bool := match hl c with
  | some d => hv c == some d && hx d == c && decide (d < 16)
  | none => (List.range 16).all fun d => hx d != c
theorem hlOk_t : ∀ n : Fin 256, hlOk (UInt8.ofNat n.val) = true := by decide +kernel
theorem hlOk_any (c : UInt8) : hlOk c = true := by
  have h := hlOk_t ⟨c.toNat, c.toNat_lt⟩
  simpa using h
theorem hl_some {c : UInt8} {d : Nat} (h : hl c = some d) : hv c = some d ∧ hx d = c ∧ d < 16 := by
  have := hlOk_any c
  unfold hlOk at this
  rw [h] at this
  simp at this
  exact ⟨this.1.1, this.1.2, this.2⟩
theorem hl_none {c : UInt8} (h : hl c = none) {d : Nat} (hd : d < 16) : hx d ≠ c := by
  have := hlOk_any c
  unfold hlOk at this
  rw [h] at this
  simp only [List.all_eq_true, List.mem_range] at this
  have := this d hd
  simpa using this

theorem hls3_some {x y z : UInt8} {n : Nat} (h : hls 0 [x, y, z] = some n) : rf [x, y, z] = n := by
  simp only [hls] at h
  cases hx : hl x with
  | none => rw [hx] at h; cases h
  | some a =>
    cases hy : hl y with
    | none => rw [hx, hy] at h; cases h
    | some b =>
      cases hz : hl z with
      | none => rw [hx, hy, hz] at h; cases h
      | some c =>
        rw [hx, hy, hz] at h
        simp only [Option.some.injEq] at h
        simp only [rf, hvs]
        rw [(hl_some hx).1, (hl_some hy).1, (hl_some hz).1]
        simp only [Option.getD_some]
        exact h
theorem hls3_none {x y z : UInt8} (h : hls 0 [x, y, z] = none) (f : Nat) (hf : f < 4096) : fr f ≠ [x, y, z] := by
  simp only [fr]
  intro e
  simp only [List.cons.injEq, and_true] at e
  obtain ⟨e1, e2, e3⟩ := e
  simp only [hls] at h
  cases hx : hl x with
  | none => exact hl_none hx (show f / 256 < 16 by omega) e1
  | some a =>
    cases hy : hl y with
    | none => exact hl_none hy (show f / 16 % 16 < 16 by omega) e2
    | some b =>
      cases hz : hl z with
      | none => exact hl_none hz (show f % 16 < 16 by omega) e3
      | some c => rw [hx, hy, hz] at h; cases h

/-- The last three bytes of a text of seven that is an entry's are digits. -/
theorem tail_digits {a b c d x y z : UInt8} {k : Int} {p f : Nat} (h : tx k p f = [a, b, c, d, x, y, z]) : ck k p f = 0 ∧ f < 4096 ∧ fr f = [x, y, z] := by
  have hc : ck k p f = 0 := by
    by_cases hc : ck k p f = 0
    · exact hc
    · rw [show tx k p f = [] by simp [tx, hc]] at h; cases h
  rw [show tx k p f = txv k p f by simp [tx, hc]] at h
  rcases valid_cases hc with ⟨rfl, rfl, rfl⟩ | ⟨rfl, hp, hf⟩ | ⟨rfl, rfl, hf⟩
  · simp [txv] at h
  · refine ⟨hc, hf, ?_⟩
    rw [show txv 1 p f = hd3 p ++ 32 :: fr f by simp [txv]] at h
    have := congrArg (List.drop 4) h
    exact this
  · refine ⟨hc, hf, ?_⟩
    rw [show txv 2 0 f = [116, 97, 98, 32] ++ fr f by simp [txv]] at h
    have := congrArg (List.drop 4) h
    exact this

theorem rde_none {a b c d x y z : UInt8} (h : hls 0 [x, y, z] = none) : rde [a, b, c, d, x, y, z] = 44 := by
  unfold rde
  rw [if_neg]
  intro e
  obtain ⟨_, hf, he⟩ := tail_digits e
  exact hls3_none h _ hf he
/-- A text that is shown of an entry of this frame is read as that. -/
theorem found {a b c d x y z : UInt8} {k : Int} {p n : Nat} (h : tx k p n = [a, b, c, d, x, y, z]) :
    rde [a, b, c, d, x, y, z] = 0 ∧ lkk [a, b, c, d, x, y, z] = k ∧ lkp [a, b, c, d, x, y, z] = p ∧ lkf [a, b, c, d, x, y, z] = n := by
  obtain ⟨hc, _, _⟩ := tail_digits h
  have r := rde_tx hc
  have l := lk_tx hc
  rw [h] at r l
  exact ⟨r, l⟩
theorem not_found {a b c d x y z : UInt8} {n : Nat} (hn : hls 0 [x, y, z] = some n) (h : ∀ k : Int, 1 ≤ k → k ≤ 2 → ∀ p, p < 8 → tx k p n ≠ [a, b, c, d, x, y, z]) : rde [a, b, c, d, x, y, z] = 44 := by
  unfold rde
  rw [if_neg]
  intro e
  have hf : lkf [a, b, c, d, x, y, z] = n := by
    simp only [lkf, List.length_cons, List.length_nil]
    exact hls3_some hn
  have hp := lkp_lt [a, b, c, d, x, y, z]
  rw [hf] at e
  refine h _ ?_ ?_ _ hp e
  · simp only [lkk, List.length_cons, List.length_nil]
    simp only [if_true]
    split <;> omega
  · simp only [lkk, List.length_cons, List.length_nil]
    simp only [if_true]
    split <;> omega
end Go.Proofs.YtjmcimhklmfofabDoor
