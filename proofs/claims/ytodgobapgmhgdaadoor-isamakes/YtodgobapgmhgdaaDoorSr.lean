import Derived.Test.YtodgobapgmhgdaaDoorSn
import Derived.Test.YtodgobapgmhgdaaDoorWo
import Derived.Test.YtodgobapgmhgdaaDoorOn
namespace Go.Proofs.YtodgobapgmhgdaaDoor
open Go.ChangeShapes Go.WideShapes Go.ChangeAt Go.RowKit
set_option linter.unusedVariables false

/-- A register more in a set. -/
def orz (R : Int) (x : Nat) : Int := if x = 0 then R else bits .or .u16 R ((2 ^ x : Nat) : Int)
theorem orz_ab : ∀ a b : Fin 16, orz (orz 0 a.val) b.val = bits .or .u16 (on1 a.val : Nat) (on1 b.val : Nat) := by decide +kernel
theorem orz_d : ∀ d : Fin 16, orz 0 d.val = ((on1 d.val : Nat) : Int) := by decide +kernel
theorem pow_mod : ∀ x : Fin 16, ((2 ^ x.val : Nat) : Int) % 65536 = ((2 ^ x.val : Nat) : Int) := by decide +kernel
theorem pow_one : ∀ x : Fin 16, x.val = 0 ∨ (((2 ^ x.val : Nat) : Int) == 1) = false := by decide +kernel
theorem q_of (R : Int) (x : Nat) (hx : x < 16) : (((2 ^ x : Nat) : Int) = 1 ∧ orz R x = R) ∨ ((((2 ^ x : Nat) : Int) == 1) = false ∧ bits .or .u16 R ((2 ^ x : Nat) : Int) = orz R x) := by
  by_cases h : x = 0
  · subst h; exact .inl ⟨rfl, rfl⟩
  · refine .inr ⟨?_, by rw [orz, if_neg h]⟩
    rcases pow_one ⟨x, hx⟩ with e | e
    · exact absurd e h
    · exact e
theorem hcall_nm : ∀ k : Fin 49, nmTab.getD k.val [] = [104, 99, 97, 108, 108] → k.val = 40 := by decide +kernel
set_option maxRecDepth 100000 in
set_option maxHeartbeats 4000000 in
theorem ruse_no (w : World) (op d a b n x c : Int) (hc : (c == 0) = false)
    (hE : ∀ V, Calls Tryd.prog 21 #[iv op d a b n] V fun e w' => e = .returned (.tuple #[.int .u32 x, .int .i64 c]) ∧ Kp V w') :
    Calls Tryd.prog 22 #[iv op d a b n] w fun e w' => e = .returned (.tuple #[.int .u16 0, .int .u16 0]) ∧ Kp w w' := by
  have hc' : (c != 0) = true := by simpa using hc
  go_enter Tryd.func22, Tryd.ntmps22
  go_wp2_with (go_at_call 21; refine (hE _).mono ?_; rintro e w1 ⟨rfl, k1⟩)
  go_ret2
  exact ⟨rfl, Kp.trans ((Chg.refl _ _).alloc _) k1⟩
set_option maxRecDepth 100000 in
set_option maxHeartbeats 4000000 in
theorem ruse_h (w : World) (d a b n x f im sh : Int)
    (hE : ∀ V, Calls Tryd.prog 21 #[iv 40 d a b n] V fun e w' => e = .returned (.tuple #[.int .u32 x, .int .i64 0]) ∧ Kp V w')
    (hO : ∀ V, Calls Tryd.prog 34 #[.int .i64 40] V fun e w' => e = .returned (.tuple #[.agg #[.string ⟨#[104, 99, 97, 108, 108]⟩, .int .i64 f, .int .u8 im, .int .u8 sh], .bool true]) ∧ Kp V w') :
    Calls Tryd.prog 22 #[iv 40 d a b n] w fun e w' => e = .returned (.tuple #[.int .u16 126, .int .u16 14]) ∧ Kp w w' := by
  go_enter Tryd.func22, Tryd.ntmps22
  go_wp2_with fail
  go_at_call 21
  refine (hE _).mono ?_
  rintro e w1 ⟨rfl, k1⟩
  obtain ⟨c0, c1, c2, c3, c4⟩ := Kp.cells5 k1 (heap_alloc_new w _)
  go_wp2_with (go_at_call 34; refine (hO _).mono ?_; rintro e w2 ⟨rfl, k2⟩)
  go_ret2
  exact ⟨rfl, (Kp.trans (Kp.trans ((Chg.refl _ _).alloc _) k1) k2).alloc _⟩

set_option maxHeartbeats 4000000 in
theorem rUses_of (w : World) (op : Int) (d a b : Nat) (n : Int) (hE : ∀ V, Calls Tryd.prog 21 #[iv op d a b n] V fun e w' => e = .returned (.tuple #[.int .u32 (ew op d a b n), .int .i64 (ck op d a b n)]) ∧ Kp V w') :
    Calls Tryd.prog 22 #[iv op d a b n] w fun e w' => e = .returned (.tuple #[.int .u16 (uR op d a b n), .int .u16 (uW op d a b n)]) ∧ Kp w w' := by
  have hO := fun V => of_any V op
  by_cases hc : ck op d a b n = 0
  · rw [hc] at hE
    obtain ⟨ho, _, _⟩ := ck_zero hc
    obtain ⟨hd, ha, hb⟩ := ck_regs hc
    obtain ⟨z1, z2, z3, z4⟩ := ck_none hc
    obtain ⟨o0, o1⟩ := (isO_iff op).1 ho
    rw [ho] at hO
    rw [uR, uW, if_pos hc, if_pos hc]
    by_cases h40 : op = 40
    · subst h40
      rw [if_pos rfl, if_pos rfl]
      exact ruse_h w d a b n _ _ _ _ hE hO
    · rw [if_neg h40, if_neg h40]
      have hs : ¬ sb (nm op) = ⟨#[104, 99, 97, 108, 108]⟩ := fun e => by
        have := hcall_nm ⟨op.toNat, by omega⟩ (sb_inj (b := [104, 99, 97, 108, 108]) e)
        simp only at this
        omega
      have bd : (0 : Int) ≤ (d : Int) ∧ (d : Int) < 256 := by omega
      have ba : (0 : Int) ≤ (a : Int) ∧ (a : Int) < 256 := by omega
      have bb : (0 : Int) ≤ (b : Int) ∧ (b : Int) < 256 := by omega
      have eR := orz_ab ⟨a, ha⟩ ⟨b, hb⟩
      have eW := orz_d ⟨d, hd⟩
      simp only at eR eW
      rw [← eR, ← eW]
      rcases op_pairs ho with ⟨f, t⟩ | ⟨f, t⟩ | ⟨f, t⟩ | ⟨f, t⟩ | ⟨f, t⟩ | ⟨f, t⟩ | ⟨f, t⟩ | ⟨f, t⟩ | ⟨f, t⟩ | ⟨f, t⟩ | ⟨f, t⟩ | ⟨f, t⟩ | ⟨f, t⟩
      · rw [f] at hO
        exact ruse_1 w op _ _ _ n _ (sb (nm op)) _ _ ((2 ^ d : Nat) : Int) (orz 0 d) ((2 ^ d : Nat) : Int) ((2 ^ a : Nat) : Int) (orz 0 a) ((2 ^ a : Nat) : Int) ((2 ^ b : Nat) : Int) (orz (orz 0 a) b) ((2 ^ b : Nat) : Int) bd ba bb hs (fun w => power_any w d (by omega) _ rfl) (pow_mod ⟨d, hd⟩) (fun w => power_any w a (by omega) _ rfl) (pow_mod ⟨a, ha⟩) (fun w => power_any w b (by omega) _ rfl) (pow_mod ⟨b, hb⟩) (q_of 0 d hd) (q_of 0 a ha) (q_of (orz 0 a) b hb) hE hO
      · rw [f] at hO
        obtain rfl : b = 0 := z3 (by rw [f]; rfl)
        exact ruse_2 w op _ _ _ n _ (sb (nm op)) _ _ ((2 ^ d : Nat) : Int) (orz 0 d) ((2 ^ d : Nat) : Int) ((2 ^ a : Nat) : Int) (orz 0 a) ((2 ^ a : Nat) : Int) bd ba bb hs (fun w => power_any w d (by omega) _ rfl) (pow_mod ⟨d, hd⟩) (fun w => power_any w a (by omega) _ rfl) (pow_mod ⟨a, ha⟩) (q_of 0 d hd) (q_of 0 a ha) hE hO
      · rw [f] at hO
        obtain rfl : b = 0 := z3 (by rw [f]; rfl)
        exact ruse_2 w op _ _ _ n _ (sb (nm op)) _ _ ((2 ^ d : Nat) : Int) (orz 0 d) ((2 ^ d : Nat) : Int) ((2 ^ a : Nat) : Int) (orz 0 a) ((2 ^ a : Nat) : Int) bd ba bb hs (fun w => power_any w d (by omega) _ rfl) (pow_mod ⟨d, hd⟩) (fun w => power_any w a (by omega) _ rfl) (pow_mod ⟨a, ha⟩) (q_of 0 d hd) (q_of 0 a ha) hE hO
      · rw [f] at hO
        obtain rfl : b = 0 := z3 (by rw [f]; rfl)
        exact ruse_2 w op _ _ _ n _ (sb (nm op)) _ _ ((2 ^ d : Nat) : Int) (orz 0 d) ((2 ^ d : Nat) : Int) ((2 ^ a : Nat) : Int) (orz 0 a) ((2 ^ a : Nat) : Int) bd ba bb hs (fun w => power_any w d (by omega) _ rfl) (pow_mod ⟨d, hd⟩) (fun w => power_any w a (by omega) _ rfl) (pow_mod ⟨a, ha⟩) (q_of 0 d hd) (q_of 0 a ha) hE hO
      · rw [f] at hO
        obtain rfl : b = 0 := z3 (by rw [f]; rfl)
        exact ruse_2 w op _ _ _ n _ (sb (nm op)) _ _ ((2 ^ d : Nat) : Int) (orz 0 d) ((2 ^ d : Nat) : Int) ((2 ^ a : Nat) : Int) (orz 0 a) ((2 ^ a : Nat) : Int) bd ba bb hs (fun w => power_any w d (by omega) _ rfl) (pow_mod ⟨d, hd⟩) (fun w => power_any w a (by omega) _ rfl) (pow_mod ⟨a, ha⟩) (q_of 0 d hd) (q_of 0 a ha) hE hO
      · rw [f] at hO
        obtain rfl : d = 0 := z1 (by rw [f]; rfl)
        exact ruse_3 w op _ _ _ n _ (sb (nm op)) _ _ ((2 ^ a : Nat) : Int) (orz 0 a) ((2 ^ a : Nat) : Int) ((2 ^ b : Nat) : Int) (orz (orz 0 a) b) ((2 ^ b : Nat) : Int) bd ba bb hs (fun w => power_any w a (by omega) _ rfl) (pow_mod ⟨a, ha⟩) (fun w => power_any w b (by omega) _ rfl) (pow_mod ⟨b, hb⟩) (q_of 0 a ha) (q_of (orz 0 a) b hb) hE hO
      · rw [f] at hO
        obtain rfl : d = 0 := z1 (by rw [f]; rfl)
        exact ruse_3 w op _ _ _ n _ (sb (nm op)) _ _ ((2 ^ a : Nat) : Int) (orz 0 a) ((2 ^ a : Nat) : Int) ((2 ^ b : Nat) : Int) (orz (orz 0 a) b) ((2 ^ b : Nat) : Int) bd ba bb hs (fun w => power_any w a (by omega) _ rfl) (pow_mod ⟨a, ha⟩) (fun w => power_any w b (by omega) _ rfl) (pow_mod ⟨b, hb⟩) (q_of 0 a ha) (q_of (orz 0 a) b hb) hE hO
      · rw [f] at hO
        obtain rfl : a = 0 := z2 (by rw [f]; rfl)
        obtain rfl : b = 0 := z3 (by rw [f]; rfl)
        exact ruse_4 w op _ _ _ n _ (sb (nm op)) _ _ ((2 ^ d : Nat) : Int) (orz 0 d) ((2 ^ d : Nat) : Int) bd ba bb hs (fun w => power_any w d (by omega) _ rfl) (pow_mod ⟨d, hd⟩) (q_of 0 d hd) hE hO
      · rw [f] at hO
        obtain rfl : a = 0 := z2 (by rw [f]; rfl)
        obtain rfl : b = 0 := z3 (by rw [f]; rfl)
        exact ruse_4 w op _ _ _ n _ (sb (nm op)) _ _ ((2 ^ d : Nat) : Int) (orz 0 d) ((2 ^ d : Nat) : Int) bd ba bb hs (fun w => power_any w d (by omega) _ rfl) (pow_mod ⟨d, hd⟩) (q_of 0 d hd) hE hO
      · rw [f] at hO
        obtain rfl : a = 0 := z2 (by rw [f]; rfl)
        obtain rfl : b = 0 := z3 (by rw [f]; rfl)
        exact ruse_5 w op _ _ _ n _ (sb (nm op)) _ _ ((2 ^ d : Nat) : Int) (orz 0 d) ((2 ^ d : Nat) : Int) bd ba bb hs (fun w => power_any w d (by omega) _ rfl) (pow_mod ⟨d, hd⟩) (q_of 0 d hd) hE hO
      · rw [f] at hO
        obtain rfl : d = 0 := z1 (by rw [f]; rfl)
        obtain rfl : b = 0 := z3 (by rw [f]; rfl)
        exact ruse_6 w op _ _ _ n _ (sb (nm op)) _ _ ((2 ^ a : Nat) : Int) (orz 0 a) ((2 ^ a : Nat) : Int) bd ba bb hs (fun w => power_any w a (by omega) _ rfl) (pow_mod ⟨a, ha⟩) (q_of 0 a ha) hE hO
      · rw [f] at hO
        obtain rfl : d = 0 := z1 (by rw [f]; rfl)
        obtain rfl : a = 0 := z2 (by rw [f]; rfl)
        obtain rfl : b = 0 := z3 (by rw [f]; rfl)
        exact ruse_7 w op _ _ _ n _ (sb (nm op)) _ _ bd ba bb hs hE hO
      · rw [f] at hO
        obtain rfl : d = 0 := z1 (by rw [f]; rfl)
        obtain rfl : a = 0 := z2 (by rw [f]; rfl)
        obtain rfl : b = 0 := z3 (by rw [f]; rfl)
        exact ruse_8 w op _ _ _ n _ (sb (nm op)) _ _ bd ba bb hs hE hO
  · rw [uR, uW, if_neg hc, if_neg hc]
    exact ruse_no w op d a b n _ _ (by simpa using hc) hE
end Go.Proofs.YtodgobapgmhgdaaDoor
