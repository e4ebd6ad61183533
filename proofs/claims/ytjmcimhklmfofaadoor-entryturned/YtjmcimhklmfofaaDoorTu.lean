import Derived.Test.YtjmcimhklmfofaaDoorKn
namespace Go.Proofs.YtjmcimhklmfofaaDoor
open Go.ChangeShapes Go.WideShapes Go.ChangeAt Go.RowKit
set_option linter.unusedVariables false

theorem xor_u32 (a b : Nat) (ha : a < 4294967296) (hb : b < 4294967296) : bits .xor .u32 (a : Int) (b : Int) = ((a ^^^ b : Nat) : Int) := by
  have hx : a ^^^ b < 2 ^ 32 := Nat.xor_lt_two_pow (by omega) (by omega)
  have h1 : (BitVec.ofInt 32 (a : Int)).toNat = a := by
    rw [BitVec.ofInt_natCast, BitVec.toNat_ofNat]; exact Nat.mod_eq_of_lt (by omega)
  have h2 : (BitVec.ofInt 32 (b : Int)).toNat = b := by
    rw [BitVec.ofInt_natCast, BitVec.toNat_ofNat]; exact Nat.mod_eq_of_lt (by omega)
  show IntKind.u32.wrap ((BitVec.ofInt 32 (a : Int) ^^^ BitVec.ofInt 32 (b : Int)).toNat : Int) = _
  rw [BitVec.toNat_xor, h1, h2, wraps_u32' _ (by omega) (by omega)]

/-- A bit is turned: another word. -/
theorem flip (v d : Nat) (hv : v < 4294967296) (hd : d < 32) : ∃ n : Nat, bits .xor .u32 (v : Int) (2 ^ d % 4294967296) = (n : Int) ∧ n < 4294967296 ∧ n ≠ v := by
  have hp : 2 ^ d < 4294967296 := by
    calc 2 ^ d < 2 ^ 32 := Nat.pow_lt_pow_right (by omega) hd
      _ = 4294967296 := by decide
  have e : ((2 : Int) ^ d % 4294967296) = ((2 ^ d : Nat) : Int) := by
    have h : ((2 ^ d : Nat) : Int) = (2 : Int) ^ d := by simp
    rw [← h]
    generalize (2 ^ d : Nat) = y at *
    omega
  refine ⟨v ^^^ 2 ^ d, ?_, Nat.xor_lt_two_pow (n := 32) (by omega) (by omega), ?_⟩
  · rw [e, xor_u32 v _ hv hp]
  · intro h
    have h2 := congrArg (fun x => v ^^^ x) h
    simp only [← Nat.xor_assoc, Nat.xor_self, Nat.zero_xor] at h2
    have := Nat.two_pow_pos d
    omega

/-- What the two halves of the statement come to, for the walk. -/
structure Apart (a1 a2 a3 c1 b1 b2 b3 c2 : Int) : Prop where
  no : c1 = 0 → c2 = 0 → sameE a1 a2 a3 b1 b2 b3 = false

theorem words_apart {v n : Nat} (h : n ≠ v) : Apart (at0 (de v) (dk v)) (at0 (de v) (dp v)) (at0 (de v) (df v)) (de v) (at0 (de n) (dk n)) (at0 (de n) (dp n)) (at0 (de n) (df n)) (de n) := by
  refine ⟨fun h1 h2 => ?_⟩
  obtain ⟨s1, e1⟩ := de_zero h1
  obtain ⟨s2, e2⟩ := de_zero h2
  have r1 := enc_dec s1 e1
  have r2 := enc_dec s2 e2
  rw [h1, h2]
  simp only [at0, if_true, sameE, decide_eq_false_iff_not]
  rintro ⟨x, y, z⟩
  have y' : dp v = dp n := by omega
  have z' : df v = df n := by omega
  rw [x, y', z', r2] at r1
  exact h r1
theorem texts_apart {s t : List UInt8} (h : s ≠ t) : Apart (at0 (rde s) (lkk s)) (at0 (rde s) (lkp s)) (at0 (rde s) (lkf s)) (rde s) (at0 (rde t) (lkk t)) (at0 (rde t) (lkp t)) (at0 (rde t) (lkf t)) (rde t) := by
  refine ⟨fun h1 h2 => ?_⟩
  have r1 := rde_zero h1
  have r2 := rde_zero h2
  rw [h1, h2]
  simp only [at0, if_true, sameE, decide_eq_false_iff_not]
  rintro ⟨x, y, z⟩
  have y' : lkp s = lkp t := by omega
  have z' : lkf s = lkf t := by omega
  rw [x, y', z', r2] at r1
  exact h r1.symm

theorem ret_shape (b : Int) (h1 : InI b) : ∃ d : Nat, d < 32 ∧ (b < 0 → (b + 1).tmod 32 = -(d : Int)) ∧ (¬ b < 0 → b % 32 = (d : Int)) := by
  obtain ⟨i1, i2⟩ := h1
  by_cases hb : b < 0
  · obtain ⟨c, hc⟩ : ∃ c : Nat, -(b + 1) = c := ⟨(-(b + 1)).toNat, by omega⟩
    refine ⟨c % 32, by omega, fun _ => ?_, fun h => absurd hb h⟩
    rw [show b + 1 = -(c : Int) by omega, Int.neg_tmod]
    rfl
  · obtain ⟨c, hc⟩ : ∃ c : Nat, b = c := ⟨b.toNat, by omega⟩
    exact ⟨c % 32, by omega, fun h => absurd h hb, fun _ => by omega⟩

set_option maxRecDepth 100000 in
set_option maxHeartbeats 8000000 in
theorem turned_core (w : World) (hG : Gw w) (v n d : Nat) (b : Int) (i1 : -9223372036854775808 ≤ b) (i2 : b ≤ 9223372036854775807) (s t : ByteArray)
    (hd : d < 32) (hneg : b < 0 → (b + 1).tmod 32 = -(d : Int)) (hpos : ¬ b < 0 → b % 32 = (d : Int)) (hx : bits .xor .u32 (v : Int) (2 ^ d % 4294967296) = (n : Int))
    (a1 a2 a3 c1 b1 b2 b3 c2 : Int) (hA : Apart a1 a2 a3 c1 b1 b2 b3 c2) (e1 e2 e3 c3 f1 f2 f3 c4 : Int) (hB : s ≠ t → Apart e1 e2 e3 c3 f1 f2 f3 c4)
    (dA : ∀ V, Calls Tryd.prog 10 #[.int .u32 v] V fun e w' => e = .returned (.tuple #[.agg #[.int .i64 a1, .int .u8 a2, .int .u32 a3], .int .i64 c1]) ∧ Kp V w')
    (dB : ∀ V, Calls Tryd.prog 10 #[.int .u32 n] V fun e w' => e = .returned (.tuple #[.agg #[.int .i64 b1, .int .u8 b2, .int .u32 b3], .int .i64 c2]) ∧ Kp V w')
    (rA : ∀ V, Gw V → Calls Tryd.prog 13 #[.string s] V fun e w' => e = .returned (.tuple #[.agg #[.int .i64 e1, .int .u8 e2, .int .u32 e3], .int .i64 c3]) ∧ Kp V w')
    (rB : ∀ V, Gw V → Calls Tryd.prog 13 #[.string t] V fun e w' => e = .returned (.tuple #[.agg #[.int .i64 f1, .int .u8 f2, .int .u32 f3], .int .i64 c4]) ∧ Kp V w') :
    Calls Tryd.prog 5 #[.int .u32 v, .int .i64 b, .string s, .string t] w fun e w' => e = .returned (.bool true) ∧ Kp w w' := by
  have hK := known_any w hG
  have gG : ∀ V, Kp w V → Gw V := fun V hV => hG.kp hV
  have heq := eql27
  have hnq := neq27
  have h1 : (c1 == 0) = false ∨ (c1 = 0 ∧ (c2 == 0) = false) ∨ (c1 = 0 ∧ c2 = 0 ∧ sameE a1 a2 a3 b1 b2 b3 = false) := by
    by_cases x : c1 = 0
    · by_cases y : c2 = 0
      · exact .inr (.inr ⟨x, y, hA.no x y⟩)
      · exact .inr (.inl ⟨x, by simpa using y⟩)
    · exact .inl (by simpa using x)
  have h2 : s = t ∨ ((s.toList == t.toList) = false ∧ (c3 != 0) = true) ∨ ((s.toList == t.toList) = false ∧ c3 = 0 ∧ (c4 != 0) = true) ∨ ((s.toList == t.toList) = false ∧ c3 = 0 ∧ c4 = 0 ∧ sameE e1 e2 e3 f1 f2 f3 = false) := by
    by_cases z : s = t
    · exact .inl z
    · have z2 := str_ne z
      by_cases x : c3 = 0
      · by_cases y : c4 = 0
        · exact .inr (.inr (.inr ⟨z2, x, y, (hB z).no x y⟩))
        · exact .inr (.inr (.inl ⟨z2, x, by simpa using y⟩))
      · exact .inr (.inl ⟨z2, by simpa using x⟩)
  have h3 : (b < 0 ∧ IntKind.i64.wrap (b + 1) = b + 1 ∧ (b + 1).tmod 32 = -(d : Int)) ∨ (¬ b < 0 ∧ b % 32 = (d : Int)) := by
    by_cases hb : b < 0
    · exact .inl ⟨hb, by simp [IntKind.wrap, IntKind.bits, IntKind.signed]; omega, hneg hb⟩
    · exact .inr ⟨hb, hpos hb⟩
  clear hA hB hneg hpos
  rcases h3 with ⟨hb, hw, ht⟩ | ⟨hb, ht⟩ <;> rcases h1 with h1 | ⟨rfl, h1⟩ | ⟨rfl, rfl, h1⟩ <;> rcases h2 with rfl | ⟨h2, h4⟩ | ⟨h2, rfl, h4⟩ | ⟨h2, rfl, rfl, h4⟩
  all_goals (
    go_enter Tryd.func5, Tryd.ntmps5
    go_wp2_with fail
    go_at_call 9
    refine hK.mono ?_
    rintro e w1 ⟨rfl, k1⟩
    go_wp2_with fail
    go_at_call 10
    refine (dA _).mono ?_
    rintro e w2 ⟨rfl, k2⟩
    have kk2 : Kp w w2 := Kp.trans k1 k2
    have g2 := heap_alloc_new w2 (.cells #[.int .i64 a1, .int .u8 a2, .int .u32 a3] 27)
    go_wp2_with fail
    go_at_call 10
    refine (dB _).mono ?_
    rintro e w3 ⟨rfl, k3⟩
    have kk3 : Kp w w3 := Kp.trans (kk2.alloc _) k3
    obtain ⟨x0, x1, x2, _, _, _⟩ := cells3 (al_old (.cells #[.int .i64 b1, .int .u8 b2, .int .u32 b3] 27) (Kp.heap k3 g2))
    go_wp2_with fail
    go_at_call 13
    refine (rA _ (gG _ (kk3.alloc _))).mono ?_
    rintro e w4 ⟨rfl, k4⟩
    have kk4 : Kp w w4 := Kp.trans (kk3.alloc _) k4
    have g4 := heap_alloc_new w4 (.cells #[.int .i64 e1, .int .u8 e2, .int .u32 e3] 27)
    clear x0 x1 x2
    go_wp2_with fail
    go_at_call 13
    refine (rB _ (gG _ (kk4.alloc _))).mono ?_
    rintro e w5 ⟨rfl, k5⟩
    have kk5 : Kp w w5 := Kp.trans (kk4.alloc _) k5
    obtain ⟨x0, x1, x2, _, _, _⟩ := cells3 (al_old (.cells #[.int .i64 f1, .int .u8 f2, .int .u32 f3] 27) (Kp.heap k5 g4))
    go_wp2_with fail
    go_ret
    exact ⟨rfl, kk5.alloc _⟩)

theorem turned_walk (w : World) (hG : Gw w) (v : Nat) (hv : v < 4294967296) (b : Int) (hb : InI b) (s t : ByteArray) (hs : s.size ≤ 9223372036854775807) (ht : t.size ≤ 9223372036854775807) :
    Calls Tryd.prog 5 #[.int .u32 v, .int .i64 b, .string s, .string t] w fun e w' => e = .returned (.bool true) ∧ Kp w w' := by
  obtain ⟨d, hd, hneg, hpos⟩ := ret_shape b hb
  obtain ⟨n, hx, hn, hne⟩ := flip v d hv hd
  exact turned_core w hG v n d b hb.1 hb.2 s t hd hneg hpos hx _ _ _ _ _ _ _ _ (words_apart hne) _ _ _ _ _ _ _ _ (fun h => texts_apart (fun e => h (bytes_inj e)))
    (fun V => Decode_any V v hv) (fun V => Decode_any V n hn) (fun V hV => Read_any s V hV.gl hV.es hs) (fun V hV => Read_any t V hV.gl hV.es ht)
end Go.Proofs.YtjmcimhklmfofaaDoor
