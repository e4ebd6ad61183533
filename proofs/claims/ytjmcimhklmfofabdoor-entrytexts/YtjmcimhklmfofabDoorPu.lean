import Derived.Test.YtjmcimhklmfofabDoorCl
import Derived.Test.YtjmcimhklmfofabDoorEn
import Derived.Lib.ConvBytes
namespace Go.Proofs.YtjmcimhklmfofabDoor
open Go.ChangeShapes Go.WideShapes Go.ChangeAt Go.RowKit
set_option linter.unusedVariables false

theorem or_u8 (a b : Nat) (ha : a < 256) (hb : b < 256) : bits .or .u8 (a : Int) (b : Int) = ((a ||| b : Nat) : Int) :=
  (bits_nat .u8 8 (by decide) wraps_u8 a b (by omega) (by omega)).2
theorem lower_any (c x : Int) (hx : bits .or .u8 c 32 = x) (w : World) : Calls Tryd.prog 46 #[.int .u8 c] w fun e w' => e = .returned (.int .u8 x) ∧ w' = w := by
  subst hx
  go_enter Tryd.func46, Tryd.ntmps46
  go_wp2
  go_ret
  exact ⟨rfl, rfl⟩

/-- The bytes of a text of three, in a row of their own. -/
structure B3 (w w' : World) (a b c : UInt8) : Prop where
  kp : Kp w w'
  at0 : w'.cell? ⟨w.heap.size, 0, none⟩ = some (.int .u8 a.toNat)
  at1 : w'.cell? ⟨w.heap.size, 1, none⟩ = some (.int .u8 b.toNat)
  at2 : w'.cell? ⟨w.heap.size, 2, none⟩ = some (.int .u8 c.toNat)

theorem conv3 (a b c : UInt8) (w : World) : ∃ cap w', (convert 9 53 (.string ⟨#[a, b, c]⟩)).run Tryd.prog w = .ok (.slice (some ⟨w.heap.size, 0, none⟩) 3 cap) w' ∧ B3 w w' a b c := by
  have h := Lib.run_convert_string_bytes (P := Tryd.prog) w 9 53 5 ⟨#[a, b, c]⟩ (u := .string) Tryd.underlying9 Tryd.underlying53 Tryd.underlying5
  refine ⟨_, _, h, ?_, ?_, ?_, ?_⟩
  · exact Kp.ofBelow (Lib.bytesWorld_below ..)
  · exact Lib.bytesWorld_cell w 5 ⟨#[a, b, c]⟩ 0 (show 0 < 3 by omega)
  · exact Lib.bytesWorld_cell w 5 ⟨#[a, b, c]⟩ 1 (show 1 < 3 by omega)
  · exact Lib.bytesWorld_cell w 5 ⟨#[a, b, c]⟩ 2 (show 2 < 3 by omega)

theorem B3.at {w w' : World} {a b c : UInt8} (h : B3 w w' a b c) (j : Nat) (hj : j < 3) : w'.cell? ⟨w.heap.size, j, none⟩ = some (.int .u8 ([a, b, c].getD j 0).toNat) := by
  rcases (show j = 0 ∨ j = 1 ∨ j = 2 by omega) with rfl | rfl | rfl
  · exact h.at0
  · exact h.at1
  · exact h.at2

/-- What the parse answers: the number, or that there is none. -/
def puV : Option Nat → Value
  | some n => .tuple #[.int .u64 n, .nilIface]
  | none => .tuple #[.int .u64 0, .iface 85 (.int .i64 2)]

set_option maxHeartbeats 4000000 in
set_option maxRecDepth 100000 in
theorem parse_any (a b c : UInt8) (w : World) : Calls Tryd.prog 35 #[.string ⟨#[a, b, c]⟩, .int .i64 16, .int .i64 32] w fun e w' => e = .returned (puV (hvs 0 [a, b, c])) ∧ Kp w w' := by
  obtain ⟨cap, W1, hcv, hB⟩ := conv3 a b c w
  have hA := hB.at
  have hK := hB.kp
  clear hB
  have hmv : IntKind.u64.wrap (IntKind.u64.wrap 4294967296 - 1) = 4294967295 := by decide +kernel
  obtain ⟨l, hl⟩ : ∃ l, l = [a, b, c] := ⟨_, rfl⟩
  have hn : l.length = 3 := by rw [hl]; rfl
  rw [show hvs 0 [a, b, c] = hvs 0 l by rw [hl]]
  rw [← hl] at hA
  clear hl
  obtain ⟨r, hr⟩ : ∃ r, r = hvs 0 l := ⟨_, rfl⟩
  rw [← hr]
  go_enter Tryd.func35, Tryd.ntmps35
  go_wp2
  go_loop [12, 13, 101] (fun vu vn vi => ∃ (k acc : Nat) (x : Int), vu = .bool false ∧ vn = .int .u64 x ∧ vi = .int .i64 k ∧ k ≤ 3 ∧ Hid (x = (acc : Int) ∧ acc < 16 ^ k ∧ r = hvs acc (l.drop k)))
    (fun _ _ vi => 3 - (intOf vi).toNat)
  case atStart => exact ⟨0, 0, 0, rfl, rfl, rfl, by omega, rfl, by decide, hr⟩
  case round =>
    obtain ⟨k, acc, x, rfl, rfl, rfl, hk, hh⟩ := hrel
    obtain ⟨hx, hacc, hdec⟩ := hh.out
    clear hh hr
    have hpw : 16 ^ k ≤ 16 ^ 3 := Nat.pow_le_pow_right (by omega) hk
    have x0 : 0 ≤ x := by omega
    have x1 : x ≤ 4095 := by omega
    by_cases hk3 : k < 3
    · have hc := hA k hk3
      have hdrop : l.drop k = l[k]'(by omega) :: l.drop (k + 1) := List.drop_eq_getElem_cons (by omega)
      have hget : l.getD k 0 = l[k]'(by omega) := by simp [List.getD, List.getElem?_eq_getElem (show k < l.length by omega)]
      rw [hdrop] at hdec
      rw [hget] at hc
      generalize l[k]'(by omega) = z at hc hdec
      have z256 : z.toNat < 256 := z.toNat_lt
      clear hdrop hget hA hpw
      have hpk : 16 ^ (k + 1) = 16 ^ k * 16 := Nat.pow_succ ..
      have hk2 : 16 ^ k ≤ 256 := by
        have := Nat.pow_le_pow_right (n := 16) (by omega) (show k ≤ 2 by omega)
        omega
      by_cases hd : 48 ≤ z.toNat ∧ z.toNat ≤ 57
      · obtain ⟨d0, d1⟩ := hd
        have hz : hv z = some (z.toNat - 48) := by simp [hv, d0, d1]
        have HN : Hid (x * 16 + ((z.toNat : Int) - 48) = ((16 * acc + (z.toNat - 48) : Nat) : Int) ∧ 16 * acc + (z.toNat - 48) < 16 ^ (k + 1) ∧ r = hvs (16 * acc + (z.toNat - 48)) (l.drop (k + 1))) := by
          refine ⟨by omega, by omega, ?_⟩
          rw [hdec]
          simp only [hvs, hz]
        have x2 : x ≤ 255 := by omega
        clear hz hdec hx hacc hpk hk2
        go_wp2
        exact ⟨⟨k + 1, 16 * acc + (z.toNat - 48), x * 16 + ((z.toNat : Int) - 48), rfl, by first | rfl | (congr 1; omega), by first | rfl | (congr 1; omega), by omega, HN⟩, by simp [intOf]; omega⟩
      · by_cases h95 : z.toNat = 95
        · have hz : hv z = none := by simp only [hv]; rw [if_neg hd, h95]; decide
          have hr : r = none := by rw [hdec]; simp only [hvs, hz]
          have h95' : (z.toNat : Int) = 95 := by omega
          rw [h95'] at hc
          have hy : bits .or .u8 95 32 = 127 := by decide +kernel
          clear hz hdec hx hacc hpk hk2 hd h95 h95'
          subst hr
          go_wp2_with (go_at_call 46; refine (lower_any _ 127 hy _).mono ?_; rintro e w' ⟨rfl, rfl⟩)
          all_goals go_ret2
          all_goals exact ⟨rfl, hK⟩
        have hb95 : ((z.toNat : Int) == 95) = false := by simp; omega
        have hor : bits .or .u8 (z.toNat : Int) 32 = ((z.toNat ||| 32 : Nat) : Int) := or_u8 z.toNat 32 z256 (by omega)
        have hlt : z.toNat ||| 32 < 256 := Nat.or_lt_two_pow (n := 8) (by omega) (by omega)
        obtain ⟨y, hy0⟩ : ∃ y : Int, y = ((z.toNat ||| 32 : Nat) : Int) := ⟨_, rfl⟩
        have hy : bits .or .u8 (z.toNat : Int) 32 = y := by rw [hor, hy0]
        clear hor h95
        have y0 : 0 ≤ y := by omega
        have y1 : y < 256 := by omega
        have hnd : ¬ (48 ≤ (z.toNat : Int) ∧ (z.toNat : Int) ≤ 57) := by omega
        by_cases c1 : y < 97
        · have hz : hv z = none := by simp only [hv]; rw [if_neg hd, if_neg (by omega)]
          have hr : r = none := by rw [hdec]; simp only [hvs, hz]
          clear hz hdec hx hacc hpk hk2 hd hy0 hlt
          subst hr
          go_wp2_with (go_at_call 46; refine (lower_any _ y hy _).mono ?_; rintro e w' ⟨rfl, rfl⟩)
          all_goals go_ret2
          all_goals exact ⟨rfl, hK⟩
        by_cases c2 : 122 < y
        · have hz : hv z = none := by simp only [hv]; rw [if_neg hd, if_neg (by omega)]
          have hr : r = none := by rw [hdec]; simp only [hvs, hz]
          clear hz hdec hx hacc hpk hk2 hd hy0 hlt
          subst hr
          go_wp2_with (go_at_call 46; refine (lower_any _ y hy _).mono ?_; rintro e w' ⟨rfl, rfl⟩)
          all_goals go_ret2
          all_goals exact ⟨rfl, hK⟩
        by_cases c3 : 102 < y
        · have hz : hv z = none := by simp only [hv]; rw [if_neg hd, if_neg (by omega)]
          have hr : r = none := by rw [hdec]; simp only [hvs, hz]
          clear hz hdec hx hacc hpk hk2 hd hy0 hlt
          subst hr
          go_wp2_with (go_at_call 46; refine (lower_any _ y hy _).mono ?_; rintro e w' ⟨rfl, rfl⟩)
          all_goals go_ret2
          all_goals exact ⟨rfl, hK⟩
        · have hz : hv z = some ((z.toNat ||| 32) - 87) := by simp only [hv]; rw [if_neg hd, if_pos (by omega)]
          have HN : Hid (x * 16 + (y - 87) = ((16 * acc + ((z.toNat ||| 32) - 87) : Nat) : Int) ∧ 16 * acc + ((z.toNat ||| 32) - 87) < 16 ^ (k + 1) ∧ r = hvs (16 * acc + ((z.toNat ||| 32) - 87)) (l.drop (k + 1))) := by
            refine ⟨by omega, by omega, ?_⟩
            rw [hdec]
            simp only [hvs, hz]
          have x2 : x ≤ 255 := by omega
          clear hz hdec hx hacc hpk hk2 hd hy0 hlt
          go_wp2_with (go_at_call 46; refine (lower_any _ y hy _).mono ?_; rintro e w' ⟨rfl, rfl⟩)
          all_goals exact ⟨⟨k + 1, 16 * acc + ((z.toNat ||| 32) - 87), x * 16 + (y - 87), rfl, by first | rfl | (congr 1; omega), by first | rfl | (congr 1; omega), by omega, HN⟩, by simp [intOf]; omega⟩
    · have hkk : k = 3 := by omega
      subst hkk
      have hr : r = some acc := by rw [hdec, List.drop_eq_nil_of_le (by omega)]; rfl
      subst hx hr
      clear hdec hA hpw hk3 hacc x0 x1
      go_wp2
      go_ret2
      exact ⟨rfl, hK⟩
end Go.Proofs.YtjmcimhklmfofabDoor
