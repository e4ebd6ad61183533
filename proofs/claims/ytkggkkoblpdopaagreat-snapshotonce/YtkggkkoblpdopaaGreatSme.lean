import Derived.Test.YtkggkkoblpdopaaGreatNk
import Derived.Lib.SlBytesConst
namespace Go.Proofs.YtkggkkoblpdopaaGreat
open Go.ChangeShapes Go.WideShapes Go.ChangeAt Go.RowKit
set_option linter.unusedVariables false

def sameB (xs ys : List Int) : Bool := decide (xs = ys)

theorem getD_ne {xs ys : List Int} {k : Nat} (h : xs.getD k 0 ≠ ys.getD k 0) : xs ≠ ys := by rintro rfl; exact h rfl

set_option maxHeartbeats 800000 in
theorem same_eq (w : World) (a b : Option Addr) (la ca cb : Nat) (xs ys : List Int) (hx : Bs w a la xs) (hy : Bs w b la ys) :
    Calls Tryz.prog 11 #[.slice a la ca, .slice b la cb] w fun r w' => r = .returned (.bool (sameB xs ys)) ∧ Chg w w' (fun _ => False) := by
  have hl := hx.2.1
  have hlx := hx.1
  have hly := hy.1
  have H : Hid (Bs w a la xs ∧ Bs w b la ys ∧ xs.length = la ∧ ys.length = la) := ⟨hx, hy, hx.1, hy.1⟩
  clear hx hy hlx hly
  go_enter Tryz.func11, Tryz.ntmps11
  go_wp2
  go_loopw [5] (fun i wr => ∃ k : Nat, k ≤ la ∧ i = .int .i64 k ∧ xs.take k = ys.take k ∧ Chg w wr (fun _ => False)) (fun i _ => la - (intOf i).toNat)
  case atStart => exact ⟨0, by omega, rfl, rfl, Chg.refl _ _⟩
  case round =>
    obtain ⟨k, hk, rfl, ht, hC⟩ := hrel
    have HT : Hid (xs.take k = ys.take k ∧ Chg w wr (fun _ => False)) := ⟨ht, hC⟩
    clear ht hC
    by_cases hlt : k < la
    · obtain ⟨hx, hy, hlx, hly⟩ := H.out
      have hx2 := hx.chg HT.out.2 (by simp)
      have hy2 := hy.chg HT.out.2 (by simp)
      obtain ⟨bx, ox, e1, hcx⟩ := hx2.2.2.2.resolve_left (by omega)
      obtain ⟨by_, oy, e2, hcy⟩ := hy2.2.2.2.resolve_left (by omega)
      have cx := hcx k hlt
      have cy := hcy k hlt
      have tx : Hid (xs.take (k + 1) = xs.take k ++ [xs.getD k 0]) := take_snoc xs k (by omega)
      have ty : Hid (ys.take (k + 1) = ys.take k ++ [ys.getD k 0]) := take_snoc ys k (by omega)
      have HN : Hid (xs.getD k 0 ≠ ys.getD k 0 → xs ≠ ys) := getD_ne
      obtain ⟨p, hp⟩ : ∃ p, p = xs.getD k 0 := ⟨_, rfl⟩
      obtain ⟨q, hq⟩ : ∃ q, q = ys.getD k 0 := ⟨_, rfl⟩
      rw [← hp] at cx tx HN
      rw [← hq] at cy ty HN
      clear hx hy hx2 hy2 hcx hcy hlx hly hp hq
      subst e1 e2
      by_cases hpq : p = q
      · subst hpq
        have hpp : (p != p) = false := by simp
        go_wp2
        go_quiet (fail)
        go_wp2
        go_roundw
        case rel => exact ⟨k + 1, by omega, by go_num, by rw [tx.out, ty.out, HT.out.1], HT.out.2.drewN _⟩
        case measure => simp [intOf]; omega
      · have hpp : (p != q) = true := by simpa using hpq
        go_wp2
        go_quiet (fail)
        go_wp2
        go_ret
        exact ⟨by have := HN.out hpq; simp [sameB, this], HT.out.2.drewN _⟩
    · go_wp2
      go_ret
      refine ⟨?_, HT.out.2⟩
      obtain ⟨hx, hy, hlx, hly⟩ := H.out
      have := HT.out.1
      rw [List.take_of_length_le (by omega), List.take_of_length_le (by omega)] at this
      simp [sameB, this]
end Go.Proofs.YtkggkkoblpdopaaGreat
