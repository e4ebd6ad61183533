import Derived.Test.YtgofjmhdgmfgfaaGreatDoorBb
import Derived.Test.YtgofjmhdgmfgfaaGreatDoorSs
import Derived.Test.YtgofjmhdgmfgfaaGreatDoorXk
import Derived.Test.YtgofjmhdgmfgfaaGreatDoorWo
namespace Go.Proofs.YtgofjmhdgmfgfaaGreatDoor
open Go.ChangeShapes Go.WideShapes Go.ChangeAt Go.RowKit
set_option linter.unusedVariables false

/-- Digits, from the last one on. -/
def e8 : Nat → Nat → List UInt8 → List UInt8
  | 0, _, s => s
  | k + 1, n, s => e8 k (n / 16) (hx (n % 16) :: s)
theorem e8_app (k : Nat) : ∀ n s, e8 k n s = e8 k n [] ++ s := by
  induction k with
  | zero => intro n s; rfl
  | succ k ih => intro n s; simp only [e8]; rw [ih _ (_ :: s), ih _ [_]]; simp
theorem repL_succ (k : Nat) : Lib.repeatL ([48] : List UInt8) (k + 1) = Lib.repeatL [48] k ++ [48] := by
  induction k with
  | zero => rfl
  | succ k ih => 
    have h : ∀ k, Lib.repeatL ([48] : List UInt8) (k + 1) = [48] ++ Lib.repeatL [48] k := fun k => rfl
    rw [h (k + 1), ih, ← List.append_assoc, ← h k, ih]
theorem e8_zero (k : Nat) : e8 k 0 [] = Lib.repeatL [48] k := by
  induction k with
  | zero => rfl
  | succ k ih => simp only [e8]; rw [e8_app, show (0 : Nat) / 16 = 0 from rfl, ih, repL_succ]; rfl
theorem e8_hexd (k : Nat) : ∀ u, u < 16 ^ (k + 1) → e8 (k + 1) u [] = Lib.repeatL [48] (k + 1 - (hexd u).length) ++ hexd u := by
  induction k with
  | zero =>
    intro u h
    have h1 : u < 16 := by simpa using h
    rw [hexd_lt h1]
    simp only [e8, Nat.mod_eq_of_lt h1]
    rfl
  | succ k ih =>
    intro u h
    by_cases h1 : u < 16
    · rw [hexd_lt h1]
      simp only [e8, Nat.mod_eq_of_lt h1, Nat.div_eq_of_lt h1]
      have h0 : e8 k (0 / 16) [hx (0 % 16)] = Lib.repeatL [48] (k + 1) := by
        rw [← e8_zero (k + 1)]; rfl
      rw [e8_app] at h0
      rw [e8_app, show ([hx (0 % 16), hx u] : List UInt8) = [hx (0 % 16)] ++ [hx u] from rfl, ← List.append_assoc, h0]
      simp
    · have h2 : u / 16 < 16 ^ (k + 1) := by
        rw [Nat.pow_succ] at h
        exact Nat.div_lt_of_lt_mul (by rw [Nat.mul_comm]; exact h)
      rw [hexd_ge h1, e8, e8_app, ih _ h2]
      simp
theorem e8_hex8 (u : Nat) (h : u < 4294967296) : [48, 120] ++ e8 8 u [] = hex8 u := by
  rw [e8_hexd 7 u (by simpa using h)]
  simp [hex8]
theorem e8_len (k : Nat) : ∀ n s, (e8 k n s).length = k + s.length := by
  induction k with
  | zero => intro n s; simp [e8]
  | succ k ih => intro n s; simp only [e8]; rw [ih]; simp; omega
set_option maxRecDepth 100000 in
theorem dig1 (V : World) (m : Nat) (h : m < 16) : (Instr.sliceAt 9 (.string ⟨#[48, 49, 50, 51, 52, 53, 54, 55, 56, 57, 97, 98, 99, 100, 101, 102]⟩) (some (.int .u32 m)) (some (.int .u32 (m + 1))) none).run Tryz.prog V = .ok (.string (sb [hx m])) V := by
  have hm : m = 0 ∨ m = 1 ∨ m = 2 ∨ m = 3 ∨ m = 4 ∨ m = 5 ∨ m = 6 ∨ m = 7 ∨ m = 8 ∨ m = 9 ∨ m = 10 ∨ m = 11 ∨ m = 12 ∨ m = 13 ∨ m = 14 ∨ m = 15 := by omega
  rcases hm with rfl | rfl | rfl | rfl | rfl | rfl | rfl | rfl | rfl | rfl | rfl | rfl | rfl | rfl | rfl | rfl <;> rfl
set_option maxRecDepth 100000 in
theorem eight_any (w : World) (u : Nat) (hu : u < 4294967296) : Calls Tryz.prog 29 #[.int .u32 u] w fun e w' => e = .returned (.string (sb (hex8 u))) ∧ w' = w := by
  have H0 : Hid (e8 8 u [] = e8 8 u []) := rfl
  have HR : Hid ([48, 120] ++ e8 8 u [] = hex8 u) := e8_hex8 u hu
  have hl := e8_len 8 u []
  generalize hex8 u = R at *
  generalize hE : e8 8 u [] = E at *
  have HE : Hid (e8 8 u [] = E) := hE
  clear hE H0
  go_enter Tryz.func29, Tryz.ntmps29
  go_wp2_with fail
  go_loopw [0, 3, 4] (fun s0 s3 s4 wr => ∃ (k n : Nat) (s : List UInt8), s0 = .int .u32 n ∧ s3 = .string (sb s) ∧ s4 = .int .i64 k ∧ k ≤ 8 ∧ n < 4294967296 ∧ Hid (e8 (8 - k) n s = E) ∧ s.length ≤ 8 ∧ wr = w) (fun _ _ s4 _ => 8 - (intOf s4).toNat)
  case atStart => exact ⟨0, u, [], rfl, rfl, rfl, by omega, hu, HE, by simp, rfl⟩
  case round =>
    obtain ⟨k, n, s, rfl, rfl, rfl, hk, hn, HM, hsl, rfl⟩ := hrel
    clear HE
    by_cases hlt : k < 8
    · have hm := HM.out
      rw [show 8 - k = (8 - (k + 1)) + 1 by omega, e8] at hm
      have HM2 : Hid (e8 (8 - (k + 1)) (n / 16) (hx (n % 16) :: s) = E) := hm
      have hlen := congrArg List.length hm
      rw [e8_len] at hlen
      have hml : n % 16 < 16 := Nat.mod_lt _ (by omega)
      have hd := fun V => dig1 V (n % 16) hml
      have hkz : (k : Int) < 8 := by omega
      have e1 : (n : Int) % 16 = ((n % 16 : Nat) : Int) := by omega
      have e1' : (n : Int).tmod 16 = ((n % 16 : Nat) : Int) := rfl
      have e2 : (n : Int) / 16 = ((n / 16 : Nat) : Int) := by omega
      have e2' : (n : Int).tdiv 16 = ((n / 16 : Nat) : Int) := rfl
      have hm1 : ((n % 16 : Nat) : Int) + 1 < 4294967296 := by omega
      have hq : n / 16 < 4294967296 := by omega
      have hap : Hid (sb [hx (n % 16)] ++ sb s = sb (hx (n % 16) :: s)) := (sb_app [hx (n % 16)] s).2
      have hz1 : ¬ 9223372036854775807 < (sb [hx (n % 16)]).size + (sb s).size := by rw [sb_size, sb_size]; simp only [List.length_cons, List.length_nil]; omega
      simp only [List.length_cons] at hlen
      clear hm HM
      generalize n % 16 = m at *
      generalize n / 16 = q at *
      go_wp2_with fail
      exact ⟨⟨k + 1, q, hx m :: s, rfl, congrArg Value.string hap.out, by go_num, by omega, hq, HM2, by simp only [List.length_cons, List.length_nil] at hl ⊢; omega, trivial⟩, by simp [intOf]; omega⟩
    · obtain rfl : k = 8 := by omega
      have hm := HM.out
      rw [show 8 - 8 = 0 from rfl, e8] at hm
      subst hm
      have hz1 : ¬ 9223372036854775807 < 2 + (sb s).size := by rw [sb_size]; omega
      have hap : Hid ((⟨#[48, 120]⟩ : ByteArray) ++ sb s = sb R) := by
        show _ = _
        rw [← HR.out]
        exact (sb_app [48, 120] s).2
      clear HM
      go_wp2_with fail
      go_ret
      exact ⟨congrArg (fun s => Ending.returned (.string s)) hap.out, rfl⟩
theorem gbd_alt (op : Int) : (decide (op = 38) || (decide (32 ≤ op) && decide (op ≤ 37))) = gbd op := by
  unfold gbd
  by_cases h1 : op = 38 <;> by_cases h2 : 32 ≤ op <;> by_cases h3 : op ≤ 37 <;> by_cases h4 : op ≤ 38 <;> simp [h1, h2, h3, h4] <;> omega
set_option maxRecDepth 100000 in
set_option maxHeartbeats 1000000 in
theorem rLine_any (w : World) (v at_ : Nat) (hv : v < 4294967296) (ha : at_ < 4294967296) :
    Calls Tryz.prog 15 #[.int .u32 v, .int .u32 at_] w fun e w' => e = .returned (.string (sb (lineM v at_))) ∧ Kp w w' := by
  have hD := rDecode_any w v hv
  have hH := fun V u (hu : u < 4294967296) => eight_any V u hu
  unfold lineM
  by_cases he : de v = 0
  · rw [if_pos he]
    rw [he] at hD
    simp only [at0, if_true, iv] at hD
    have hgb := gbd_alt (dO v)
    have hck : ck (dO v) (dD v) (dA v) (dB v) (dI v) = 0 := by
      unfold de at he
      split at he
      · cases he
      · split at he
        · cases he
        · exact he
    obtain ⟨hd, hra, hrb⟩ := ck_regs hck
    obtain ⟨n0, n1⟩ := ck_imm hck
    have hT := fun V => rText_of V (dO v) (dD v) (dA v) (dB v) (dI v) (fun V => rEncode_good V (dO v) (dD v) (dA v) (dB v) (dI v) hck (by omega) (by omega) (by omega) n0 n1)
    have hts := tx_short (dO v) (dD v) (dA v) (dB v) (dI v)
    simp only [iv] at hT
    clear hck he
    generalize tx (dO v) (dD v) (dA v) (dB v) (dI v) = t at *
    generalize dO v = op at *
    generalize dD v = d at *
    generalize dA v = a at *
    generalize dB v = b at *
    generalize dI v = n at *
    cases hgv : gbd op
    · rw [hgv] at hgb
      simp only [Bool.false_eq_true, if_false]
      have hgo : op < 32 ∨ 38 < op := by
        simp only [Bool.or_eq_false_iff, Bool.and_eq_false_iff, decide_eq_false_iff_not] at hgb
        omega
      clear hgv hgb hH hts
      generalize sb t = tb at *
      rcases hgo with hgo | hgo
      · have y1 : ¬ op = 38 := by omega
        have y2 : ¬ 32 ≤ op := by omega
        go_enter Tryz.func15, Tryz.ntmps15
        go_wp2_with (first | (go_at_call 28; refine hD.mono ?_; rintro e w1 ⟨rfl, k1⟩) | (go_at_call 30; refine (hT _).mono ?_; rintro e w3 ⟨rfl, k3⟩; obtain ⟨g0, g1, g2, g3, g4⟩ := Kp.cells5 k3 (heap_alloc_new w1 _)))
        go_ret
        exact ⟨rfl, Kp.trans (k1.alloc _) k3⟩
      · have y1 : ¬ op = 38 := by omega
        have y2 : 32 ≤ op := by omega
        have y3 : ¬ op ≤ 37 := by omega
        have y4 : (op == 38) = false := by simp; omega
        clear hgo
        go_enter Tryz.func15, Tryz.ntmps15
        go_wp2_with (first | (go_at_call 28; refine hD.mono ?_; rintro e w1 ⟨rfl, k1⟩) | (go_at_call 30; refine (hT _).mono ?_; rintro e w3 ⟨rfl, k3⟩; obtain ⟨g0, g1, g2, g3, g4⟩ := Kp.cells5 k3 (heap_alloc_new w1 _)))
        go_ret
        exact ⟨rfl, Kp.trans (k1.alloc _) k3⟩
    · rw [hgv] at hgb
      simp only [if_true]
      have hgo : op = 38 ∨ (32 ≤ op ∧ op ≤ 37) := by
        simp only [Bool.or_eq_true, Bool.and_eq_true, decide_eq_true_eq] at hgb
        exact hgb
      obtain ⟨n3, hn3⟩ : ∃ n3 : Nat, (n3 : Int) = ((at_ : Int) + 4 * n) % 4294967296 := ⟨(((at_ : Int) + 4 * n) % 4294967296).toNat, by omega⟩
      have hn3l : n3 < 4294967296 := by omega
      rw [← hn3, Int.toNat_natCast]
      have hHn := fun V => hH V n3 hn3l
      have hxl := hex8_len hn3l
      have hw1 : IntKind.u32.wrap n = n % 4294967296 := by simp [IntKind.wrap, IntKind.bits, IntKind.signed]
      have hw2 : IntKind.u32.wrap (4 * (n % 4294967296)) = (4 * (n % 4294967296)) % 4294967296 := by simp [IntKind.wrap, IntKind.bits, IntKind.signed]
      have hw3 : IntKind.u32.wrap ((at_ : Int) + (4 * (n % 4294967296)) % 4294967296) = n3 := by simp only [IntKind.wrap, IntKind.bits, IntKind.signed]; simp; omega
      have hw3' : ((at_ : Int) + (4 * (n % 4294967296)) % 4294967296) % 4294967296 = n3 := by omega
      have HAP : Hid (sb t ++ (⟨#[32, 35, 32]⟩ : ByteArray) ++ sb (hex8 n3) = sb (t ++ [32, 35, 32] ++ hex8 n3)) := by
        show _ = _
        rw [← (sb_app (t ++ [32, 35, 32]) (hex8 n3)).2, ← (sb_app t [32, 35, 32]).2]
        rfl
      have hz1 : ¬ 9223372036854775807 < (sb t).size + 3 := by rw [sb_size]; omega
      have hz2 : ¬ 9223372036854775807 < (sb t).size + 3 + (sb (hex8 n3)).size := by rw [sb_size, sb_size, hxl]; omega
      clear hgv hgb hH hts hxl hn3
      generalize sb (t ++ [32, 35, 32] ++ hex8 n3) = r at *
      generalize sb (hex8 n3) = x at *
      generalize sb t = tb at *
      generalize (4 * (n % 4294967296)) % 4294967296 = n2 at *
      generalize n % 4294967296 = n1' at *
      rcases hgo with hgo | ⟨y2, y3⟩
      · subst hgo
        go_enter Tryz.func15, Tryz.ntmps15
        go_wp2_with (first | (go_at_call 28; refine hD.mono ?_; rintro e w1 ⟨rfl, k1⟩) | (go_at_call 29; refine (hHn _).mono ?_; rintro e w4 ⟨rfl, rfl⟩) | (go_at_call 30; refine (hT _).mono ?_; rintro e w3 ⟨rfl, k3⟩; obtain ⟨g0, g1, g2, g3, g4⟩ := Kp.cells5 k3 (heap_alloc_new w1 _)))
        go_ret
        exact ⟨congrArg (fun s => Ending.returned (.string s)) HAP.out, Kp.trans (k1.alloc _) k3⟩
      · have y1 : ¬ op = 38 := by omega
        go_enter Tryz.func15, Tryz.ntmps15
        go_wp2_with (first | (go_at_call 28; refine hD.mono ?_; rintro e w1 ⟨rfl, k1⟩) | (go_at_call 29; refine (hHn _).mono ?_; rintro e w4 ⟨rfl, rfl⟩) | (go_at_call 30; refine (hT _).mono ?_; rintro e w3 ⟨rfl, k3⟩; obtain ⟨g0, g1, g2, g3, g4⟩ := Kp.cells5 k3 (heap_alloc_new w1 _)))
        go_ret
        exact ⟨congrArg (fun s => Ending.returned (.string s)) HAP.out, Kp.trans (k1.alloc _) k3⟩
  · rw [if_neg he]
    simp only [iv] at hD
    have hxl := hex8_len hv
    have hap : (⟨#[46, 119, 111, 114, 100, 32]⟩ : ByteArray) ++ sb (hex8 v) = sb ([46, 119, 111, 114, 100, 32] ++ hex8 v) := (sb_app [46, 119, 111, 114, 100, 32] _).2
    have hz1 : ¬ 9223372036854775807 < 6 + (sb (hex8 v)).size := by rw [sb_size, hxl]; omega
    have HAP : Hid ((⟨#[46, 119, 111, 114, 100, 32]⟩ : ByteArray) ++ sb (hex8 v) = sb ([46, 119, 111, 114, 100, 32] ++ hex8 v)) := hap
    have hHv := fun V => hH V v hv
    clear hap hxl hH
    generalize sb ([46, 119, 111, 114, 100, 32] ++ hex8 v) = r at *
    generalize sb (hex8 v) = x at *
    generalize de v = e0 at *
    generalize at0 e0 (dO v) = op at *
    generalize at0 e0 (dD v : Nat) = d at *
    generalize at0 e0 (dA v : Nat) = a at *
    generalize at0 e0 (dB v : Nat) = b at *
    generalize at0 e0 (dI v) = n at *
    go_enter Tryz.func15, Tryz.ntmps15
    go_wp2_with (first | (go_at_call 28; refine hD.mono ?_; rintro e w1 ⟨rfl, k1⟩) | (go_at_call 29; refine (hHv _).mono ?_; rintro e w3 ⟨rfl, rfl⟩))
    go_ret
    exact ⟨congrArg (fun s => Ending.returned (.string s)) HAP.out, k1.alloc _⟩
end Go.Proofs.YtgofjmhdgmfgfaaGreatDoor
