import Derived.Test.YtknlpjcdemijgaaGreatZg
namespace Go.Proofs.YtknlpjcdemijgaaGreat
open Go.ChangeShapes Go.WideShapes Go.ChangeAt Go.RowKit
set_option linter.unusedVariables false

theorem eq88_len (w : World) (a b : Option Addr) (la lb ca cb : Nat) (h : ((la : Int) != (lb : Int)) = true) :
    Calls Tryz.prog 88 #[.slice a la ca, .slice b lb cb] w fun r w' => r = .returned (.bool false) ∧ w' = w := by
  go_enter Tryz.func88, Tryz.ntmps88
  go_wp2
  go_ret
  exact ⟨rfl, rfl⟩

set_option maxHeartbeats 800000 in
theorem eq88_same (w : World) (N N2 : Nat) (a b : Option Addr) (la ca cb : Nat) (xs ys : List Int) (hx : RdI w N a xs) (hy : RdI w N2 b ys) (hlx : xs.length = la) (hly : ys.length = la) :
    Calls Tryz.prog 88 #[.slice a la ca, .slice b la cb] w fun r w' => r = .returned (.bool (sameB xs ys)) ∧ Kp w w' := by
  have hl : la ≤ 140737488355328 := by have := hx.2.1; omega
  have H : Hid (RdI w N a xs ∧ RdI w N2 b ys ∧ xs.length = la ∧ ys.length = la) := ⟨hx, hy, hlx, hly⟩
  clear hx hy hlx hly
  go_enter Tryz.func88, Tryz.ntmps88
  go_wp2
  go_loopw [13] (fun i wr => ∃ k : Nat, k ≤ la ∧ i = .int .i64 k ∧ xs.take k = ys.take k ∧ Kp w wr) (fun i _ => la - (intOf i).toNat)
  case atStart => exact ⟨0, by omega, rfl, rfl, Kp.refl _⟩
  case round =>
    obtain ⟨k, hk, rfl, ht, hC⟩ := hrel
    have HT : Hid (xs.take k = ys.take k ∧ Kp w wr) := ⟨ht, hC⟩
    clear ht hC
    by_cases hlt : k < la
    · obtain ⟨hx, hy, hlx, hly⟩ := H.out
      have hx2 := hx.kp HT.out.2
      have hy2 := hy.kp HT.out.2
      obtain ⟨bx, ox, e1, _, hcx⟩ := hx2.2.2.resolve_left (by omega)
      obtain ⟨by_, oy, e2, _, hcy⟩ := hy2.2.2.resolve_left (by omega)
      have cx := hcx k (by omega)
      have cy := hcy k (by omega)
      have gx : xs[k]'(by omega) = xs.getD k 0 := by simp [List.getD, List.getElem?_eq_getElem (show k < xs.length by omega)]
      have gy : ys[k]'(by omega) = ys.getD k 0 := by simp [List.getD, List.getElem?_eq_getElem (show k < ys.length by omega)]
      rw [gx] at cx
      rw [gy] at cy
      have tx : Hid (xs.take (k + 1) = xs.take k ++ [xs.getD k 0]) := take_snoc xs k (by omega)
      have ty : Hid (ys.take (k + 1) = ys.take k ++ [ys.getD k 0]) := take_snoc ys k (by omega)
      have HN : Hid (xs.getD k 0 ≠ ys.getD k 0 → xs ≠ ys) := getD_ne
      clear gx gy
      obtain ⟨p, hp⟩ : ∃ p, p = xs.getD k 0 := ⟨_, rfl⟩
      obtain ⟨q, hq⟩ : ∃ q, q = ys.getD k 0 := ⟨_, rfl⟩
      rw [← hp] at cx tx HN
      rw [← hq] at cy ty HN
      clear hx hy hx2 hy2 hcx hcy hlx hly hp hq
      subst e1 e2
      by_cases hpq : p = q
      · subst hpq
        have hpp : (p != p) = false := by simp
        go_wp2
        go_quiet (fail)
        go_wp2
        go_roundw
        case rel => exact ⟨k + 1, by omega, by go_num, by rw [tx.out, ty.out, HT.out.1], Chg.drewN HT.out.2 _⟩
        case measure => simp [intOf]; omega
      · have hpp : (p != q) = true := by simpa using hpq
        go_wp2
        go_quiet (fail)
        go_wp2
        go_ret
        exact ⟨by have := HN.out hpq; simp [sameB, this], Chg.drewN HT.out.2 _⟩
    · go_wp2
      go_ret
      refine ⟨?_, HT.out.2⟩
      obtain ⟨hx, hy, hlx, hly⟩ := H.out
      have := HT.out.1
      rw [List.take_of_length_le (by omega), List.take_of_length_le (by omega)] at this
      simp [sameB, this]
/-- slices.Equal of numbers. -/
theorem eq88_any (w : World) (N N2 : Nat) (a b : Option Addr) (ca cb : Nat) (xs ys : List Int) (hx : RdI w N a xs) (hy : RdI w N2 b ys) :
    Calls Tryz.prog 88 #[.slice a xs.length ca, .slice b ys.length cb] w fun r w' => r = .returned (.bool (sameB xs ys)) ∧ Kp w w' := by
  by_cases h : xs.length = ys.length
  · rw [← h]
    exact eq88_same w N N2 a b xs.length ca cb xs ys hx hy rfl h.symm
  · refine (eq88_len w a b _ _ ca cb (by simp; omega)).mono ?_
    rintro r w' ⟨rfl, rfl⟩
    refine ⟨?_, Kp.refl _⟩
    have : xs ≠ ys := fun e => h (by rw [e])
    simp [sameB, this]
end Go.Proofs.YtknlpjcdemijgaaGreat
