import Derived.Test.YtghiffpolacmiaaDoorWr
import Derived.Test.YtghiffpolacmiaaDoorWk00
import Derived.Test.YtghiffpolacmiaaDoorWk01
import Derived.Test.YtghiffpolacmiaaDoorWk10
import Derived.Test.YtghiffpolacmiaaDoorWk11
namespace Go.Proofs.YtghiffpolacmiaaDoor
open Go.ChangeShapes Go.WideShapes Go.ChangeAt Go.RowKit
set_option linter.unusedVariables false

theorem does_kp (w W : World) (hg : Gt w) (h2 : 2 ≤ w.heap.size) (k : Kp w W) (n : Nat) (hn : 1 ≤ n ∧ n ≤ 13) (a b v : Int) (ha : 0 ≤ a ∧ a < 4294967296) (hb : 0 ≤ b ∧ b < 4294967296) (hv : dv n a b = v) :
    Calls Tryd.prog 15 #[.int .i64 (n : Nat), .int .u32 a, .int .u32 b] W fun e w' => e = .returned (.tuple #[.int .u32 v, .bool true]) ∧ Kp w w' := by
  subst hv
  exact (does_any W (hg.keep k) (Nat.le_trans h2 k.size) n hn a b ha hb).mono fun e w' ⟨h1, h2⟩ => ⟨h1, Kp.trans k h2⟩
theorem bit_toInt (q : Bool) : 0 ≤ q.toInt ∧ q.toInt < 4294967296 := by cases q <;> decide
set_option maxRecDepth 100000 in
theorem sums_walk (w : World) (hg : Gt w) (h2 : 2 ≤ w.heap.size) (a b c : Int) (ha : 0 ≤ a ∧ a < 4294967296) (hb : 0 ≤ b ∧ b < 4294967296) (hc : 0 ≤ c ∧ c < 4294967296) :
    Calls Tryd.prog 7 #[.int .u32 a, .int .u32 b, .int .u32 c] w fun e w' => e = .returned (.bool true) ∧ Kp w w' := by
  have D := fun (W : World) (k : Kp w W) (n : Nat) (hn : 1 ≤ n ∧ n ≤ 13) (x y v : Int) (hx : 0 ≤ x ∧ x < 4294967296) (hy : 0 ≤ y ∧ y < 4294967296) (hv : dv n x y = v) => does_kp w W hg h2 k n hn x y v hx hy hv
  obtain ⟨x1, x2⟩ := xor_back a b ha hb
  obtain ⟨t1, t2, t3⟩ := two_sum a b ha hb
  obtain ⟨s1, s2⟩ := sar_facts a (c % 32).toNat ha
  have tp := top_facts a c ha hc
  have lf := less_facts a b
  have E : a * 2 ^ (c % 32).toNat % 4294967296 = a * (2 ^ (c % 32).toNat % 4294967296) % 4294967296 := by rw [Int.mul_emod a (2 ^ (c % 32).toNat % 4294967296), Int.emod_emod_of_dvd _ (Int.dvd_refl _), ← Int.mul_emod]
  have hM : ∀ z : Int, 0 ≤ z % 4294967296 ∧ z % 4294967296 < 4294967296 := fun z => by omega
  have hD10 : ∀ z : Int, 0 ≤ z → dv 10 a z = a / 2 ^ (z % 32).toNat := fun z _ => rfl
  have ht : 0 ≤ ((c + 31) % 4294967296 - 2 * (c % 32)) % 4294967296 ∧ ((c + 31) % 4294967296 - 2 * (c % 32)) % 4294967296 < 4294967296 := hM _
  have hlo := hM (wrap32 a / 2 ^ (c % 32).toNat)
  have g1 := fun W k => D W k 1 (by omega) a b ((a + b) % 4294967296) ha hb rfl
  have g2 := fun W k => D W k 2 (by omega) ((a + b) % 4294967296) b a (hM _) hb (show ((a + b) % 4294967296 - b) % 4294967296 = a by omega)
  have g7 := fun W k => D W k 13 (by omega) a b ((decide (a < b)).toInt) ha hb rfl
  have g8 := fun W k => D W k 13 (by omega) b a ((decide (b < a)).toInt) hb ha rfl
  have g9 := fun W k => D W k 8 (by omega) a b (bits .xor .u32 a b) ha hb rfl
  have g10 := fun W k => D W k 8 (by omega) (bits .xor .u32 a b) b a x2 hb x1
  have g11 := fun W k => D W k 6 (by omega) a b (bits .and .u32 a b) ha hb rfl
  have g12 := fun W k => D W k 7 (by omega) a b (bits .or .u32 a b) ha hb rfl
  have g13 := fun W k => D W k 1 (by omega) (bits .and .u32 a b) (bits .or .u32 a b) ((a + b) % 4294967296) t2 t3 t1
  have g14 := fun W k => D W k 9 (by omega) a c (a * (2 ^ (c % 32).toNat % 4294967296) % 4294967296) ha hc E
  have g15 := fun W k => D W k 10 (by omega) (a * (2 ^ (c % 32).toNat % 4294967296) % 4294967296) c (a * 2 ^ (c % 32).toNat % 4294967296 / 2 ^ (c % 32).toNat) (hM _) hc (by rw [E]; rfl)
  have g16 := fun W k => D W k 10 (by omega) a _ _ ha ht rfl
  have g17 := fun W k => D W k 11 (by omega) a c (wrap32 a / 2 ^ (c % 32).toNat % 4294967296) ha hc rfl
  have g18 := fun W k => D W k 12 (by omega) a 0 (wrap32 a / 2 ^ (c % 32).toNat % 4294967296 / 2147483648) ha (by omega) s1
  by_cases h0 : b = 0
  · subst h0
    have g3 := fun W k => D W k 4 (by omega) a 0 4294967295 ha hb rfl
    have g4 := fun W k => D W k 5 (by omega) a 0 a ha hb rfl
    have g5 := fun W k => D W k 3 (by omega) 4294967295 0 0 (by omega) hb rfl
    have g6 := fun W k => D W k 1 (by omega) 0 a ((0 + a) % 4294967296) (by omega) ha rfl
    rcases lf with lf | ⟨lf, lg⟩
    · exact sums_core01 w a 0 c ha hb hc _ _ _ _ _ _ _ _ _ _ _ _ _ lf rfl rfl rfl tp s2 rfl g1 g2 g3 g4 g5 g6 g7 g8 g9 g10 g11 g12 g13 g14 g15 g16 g17 g18
    · subst lg
      exact sums_core11 w c hc _ rfl (fun W k => D W k 1 (by omega) 0 0 0 ha ha rfl) (fun W k => D W k 2 (by omega) 0 0 0 ha ha rfl) (fun W k => D W k 4 (by omega) 0 0 4294967295 ha ha rfl) (fun W k => D W k 5 (by omega) 0 0 0 ha ha rfl) (fun W k => D W k 3 (by omega) 4294967295 0 0 (by omega) ha rfl) (fun W k => D W k 1 (by omega) 0 0 0 ha ha rfl) (fun W k => D W k 13 (by omega) 0 0 0 ha ha rfl) (fun W k => D W k 13 (by omega) 0 0 0 ha ha rfl) (fun W k => D W k 8 (by omega) 0 0 0 ha ha (by decide +kernel)) (fun W k => D W k 8 (by omega) 0 0 0 ha ha (by decide +kernel)) (fun W k => D W k 6 (by omega) 0 0 0 ha ha (by decide +kernel)) (fun W k => D W k 7 (by omega) 0 0 0 ha ha (by decide +kernel)) (fun W k => D W k 1 (by omega) 0 0 0 ha ha rfl) (fun W k => D W k 9 (by omega) 0 c 0 ha hc (by show 0 * 2 ^ (c % 32).toNat % 4294967296 = 0; rw [Int.zero_mul]; rfl)) (fun W k => D W k 10 (by omega) 0 c 0 ha hc (Int.zero_ediv _)) (fun W k => D W k 10 (by omega) 0 _ 0 ha ht (Int.zero_ediv _)) (fun W k => D W k 11 (by omega) 0 c 0 ha hc (by show wrap32 0 / 2 ^ (c % 32).toNat % 4294967296 = 0; rw [show wrap32 0 = 0 by simp only [wrap32]; rfl, Int.zero_ediv]; rfl)) (fun W k => D W k 12 (by omega) 0 0 0 ha ha (by show (decide (wrap32 0 < wrap32 0)).toInt = 0; rw [decide_eq_false (by omega)]; rfl))
  · obtain ⟨d1, d2, d3, d4⟩ := div_facts a b ha hb h0
    have g3 := fun W k => D W k 4 (by omega) a b (a / b) ha hb (if_neg h0)
    have g4 := fun W k => D W k 5 (by omega) a b (a % b) ha hb (if_neg h0)
    have g5 := fun W k => D W k 3 (by omega) (a / b) b (a / b * b % 4294967296) d3 hb rfl
    have g6 := fun W k => D W k 1 (by omega) (a / b * b % 4294967296) (a % b) a (hM _) d4 d1
    rcases lf with lf | ⟨lf, lg⟩
    · exact sums_core00 w a b c ha hb hc _ _ _ _ _ _ _ _ _ _ _ _ _ lf h0 rfl d2 tp s2 rfl g1 g2 g3 g4 g5 g6 g7 g8 g9 g10 g11 g12 g13 g14 g15 g16 g17 g18
    · exact sums_core10 w a b c ha hb hc _ _ _ _ _ _ _ _ _ _ _ _ _ lf lg h0 rfl d2 tp s2 rfl g1 g2 g3 g4 g5 g6 g7 g8 g9 g10 g11 g12 g13 g14 g15 g16 g17 g18
end Go.Proofs.YtghiffpolacmiaaDoor
