import Derived.Test.YtppcfofkneaigabLo
namespace Go.Proofs.Ytppcfofkneaigab
open Go.ChangeShapes Go.WideShapes Go.ChangeAt Go.RowKit
set_option linter.unusedVariables false

theorem atT_head (t : Nat) (d : Bool) (l : List Ln) : atT ((t, d) :: l) t = 0 := by simp [atT, List.findIdx_cons]
theorem acc_hit (sets ways line : Nat) (st : Nat → List Ln) (a : Nat) (wr : Bool) : hitA sets line (accS sets ways line st a wr) a = true ∧ drtA sets line (accS sets ways line st a wr) a = (drtA sets line st a || wr) := by
  have e : accS sets ways line st a wr (setOf sets line a) = useL (st (setOf sets line a)) (tagOf sets line a) ways wr := by simp [accS, setS]
  have h1 : hitA sets line (accS sets ways line st a wr) a = true := by
    unfold hitA
    rw [e, useL, hitL, atT_head]
    simp
  refine ⟨h1, ?_⟩
  unfold hitA at h1
  unfold drtA
  rw [drtL, h1, e, useL, atT_head]
  simp
theorem hit_back (sets ways line : Nat) (st : Nat → List Ln) (a : Nat) (h : hitA sets line st a = true) : backA sets ways line st a = false := by
  unfold hitA at h
  simp [backA, backL, h]
theorem dirty_lines (st : Nat → List Ln) : ∀ n, dirtyN st n ≤ (linesN st n).length
  | 0 => by simp [dirtyN]
  | n + 1 => by
    have h1 := dirty_lines st n
    have h2 := cntD_le (st n)
    simp only [dirtyN, linesN, List.length_append, List.length_map]; omega
theorem lines_none : ∀ n, linesN (fun _ => []) n = []
  | 0 => rfl
  | n + 1 => by simp [linesN, lines_none n]
theorem Lv.len {w : World} {base : Nat} {v : Value} {L : List (Nat × Ln)} (h : Lv w base v L) : ∃ a cap, v = .slice a L.length cap := by
  rcases h.row.2 with ⟨rfl, h0⟩ | ⟨g, cap, cur, rfl, _⟩
  · exact ⟨none, 0, by rw [h0]⟩
  · exact ⟨_, _, rfl⟩

end Go.Proofs.Ytppcfofkneaigab
