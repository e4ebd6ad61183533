import Derived.Test.YtgofjmhdgmfgfaaGreatDoorWo
import Derived.Test.YtgofjmhdgmfgfaaGreatDoorXf
import Derived.Test.YtgofjmhdgmfgfaaGreatDoorXg
import Derived.Test.YtgofjmhdgmfgfaaGreatDoorXi
import Derived.Test.YtgofjmhdgmfgfaaGreatDoorXj
namespace Go.Proofs.YtgofjmhdgmfgfaaGreatDoor
open Go.ChangeShapes Go.WideShapes Go.ChangeAt Go.RowKit
set_option linter.unusedVariables false

theorem ck_no {op : Int} {d a b : Nat} {n : Int} (h : isO op = false) : ck op d a b n = 100 := by rw [ck, if_pos h]
theorem ck_reg {op : Int} {d a b : Nat} {n : Int} (h : isO op = true) (h1 : rms op d a b = false) : ck op d a b n = 101 := by rw [ck, if_neg (by rw [h]; decide), if_pos h1]
theorem ck_im {op : Int} {d a b : Nat} {n : Int} (h : isO op = true) (h1 : rms op d a b = true) (h2 : im op n = false) : ck op d a b n = 102 := by rw [ck, if_neg (by rw [h]; decide), if_neg (by rw [h1]; decide), if_pos h2]

set_option maxHeartbeats 8000000 in
theorem rEncode_good (w : World) (op : Int) (d a b : Nat) (n : Int) (hck : ck op d a b n = 0) (hd : d < 256) (ha : a < 256) (hb : b < 256) (n0 : -2147483648 ≤ n) (n1 : n ≤ 2147483647) :
    Calls Tryz.prog 58 #[iv op d a b n] w fun e w' => e = .returned (.tuple #[.int .u32 (ew op d a b n), .int .i64 (ck op d a b n)]) ∧ Kp w w' := by
  have hO := fun V => of_any V op
  cases ho : isO op
  · have hc := ck_no (d := d) (a := a) (b := b) (n := n) ho
    exact absurd (hck.symm.trans hc) (by decide)
  · have him := imC_of ho
    obtain ⟨o0, o1⟩ := (isO_iff op).1 ho
    rw [ho] at hO
    have bd : (0 : Int) ≤ (d : Int) ∧ (d : Int) < 256 := by omega
    have ba : (0 : Int) ≤ (a : Int) ∧ (a : Int) < 256 := by omega
    have bb : (0 : Int) ≤ (b : Int) ∧ (b : Int) < 256 := by omega
    have bo : 0 ≤ op ∧ op < 64 := by omega
    rcases op_pairs ho with ⟨f, t⟩ | ⟨f, t⟩ | ⟨f, t⟩ | ⟨f, t⟩ | ⟨f, t⟩ | ⟨f, t⟩ | ⟨f, t⟩ | ⟨f, t⟩ | ⟨f, t⟩ | ⟨f, t⟩ | ⟨f, t⟩ | ⟨f, t⟩ | ⟨f, t⟩
    · rw [him, f, t] at hO
      have eL : lo op = 0 := by rw [lo, f, t]; rfl
      have eH : hi op = 0 := by rw [hi, f, t]; rfl
      by_cases hD : d < 16
      · by_cases hA : a < 16
        · by_cases hB : b < 16
          · have hr : rms op d a b = true := by rw [rms, f]; simp [rm, lD_1, lA_1, lB_1, hD, hA, hB]
            by_cases hn : 0 ≤ n ∧ n ≤ 0
            · have hi' : im op n = true := by rw [im, eL, eH, decide_eq_true hn.1, decide_eq_true hn.2]; rfl
              have hc := ck_of ho hr hi'
              have ht : ∀ V, Calls Tryz.prog 57 #[.int .u8 45, .int .i64 0, .int .i64 n] V fun e w' => e = .returned (.bool true) ∧ w' = V := fun V => by
                have := takes_0 V 0 n
                rw [decide_eq_true hn.1, decide_eq_true hn.2] at this
                exact this
              have hz : ew op d a b n = (((op * 67108864 + 4194304 * (d : Int)) + 262144 * (a : Int)) + 16384 * (b : Int)) + n := by rw [ew, if_pos hc, wd, wdF, f, pD_1, pA_1, pB_1, pI_1]; omega
              rw [hz, hc]
              exact renc_1p w op d a b n (sb (nm op)) 45 (shC op) (op * 67108864) ((op * 67108864 + 4194304 * (d : Int))) (((op * 67108864 + 4194304 * (d : Int)) + 262144 * (a : Int))) ((((op * 67108864 + 4194304 * (d : Int)) + 262144 * (a : Int)) + 16384 * (b : Int))) bo bd ba bb ⟨n0, n1⟩ rfl rfl rfl rfl (by omega) (by omega) (by omega) ht (by omega) _ rfl (by omega) hO
            · have hi' : im op n = false := by
                rw [im, eL, eH]
                by_cases h1 : 0 ≤ n
                · rw [decide_eq_true h1, decide_eq_false (by omega)]; rfl
                · rw [decide_eq_false h1]; rfl
              have hc := ck_im ho hr hi'
              exact absurd (hck.symm.trans hc) (by decide)
          · have hc := ck_reg (n := n) ho (show rms op d a b = false by rw [rms, f]; simp [rm, lD_1, lA_1, lB_1, hB])
            exact absurd (hck.symm.trans hc) (by decide)
        · have hc := ck_reg (n := n) ho (show rms op d a b = false by rw [rms, f]; simp [rm, lD_1, lA_1, lB_1, hA])
          exact absurd (hck.symm.trans hc) (by decide)
      · have hc := ck_reg (n := n) ho (show rms op d a b = false by rw [rms, f]; simp [rm, lD_1, lA_1, lB_1, hD])
        exact absurd (hck.symm.trans hc) (by decide)
    · rw [him, f, t] at hO
      have eL : lo op = -131072 := by rw [lo, f, t]; rfl
      have eH : hi op = 131071 := by rw [hi, f, t]; rfl
      by_cases hD : d < 16
      · by_cases hA : a < 16
        · by_cases hB : b = 0
          · have hr : rms op d a b = true := by rw [rms, f]; simp [rm, lD_2, lA_2, lB_2, hD, hA, hB]
            by_cases hn : -131072 ≤ n ∧ n ≤ 131071
            · have hi' : im op n = true := by rw [im, eL, eH, decide_eq_true hn.1, decide_eq_true hn.2]; rfl
              have hc := ck_of ho hr hi'
              have ht : ∀ V, Calls Tryz.prog 57 #[.int .u8 115, .int .i64 18, .int .i64 n] V fun e w' => e = .returned (.bool true) ∧ w' = V := fun V => by
                have := takes_s18 V n
                rw [decide_eq_true hn.1, decide_eq_true hn.2] at this
                exact this
              by_cases h0 : 0 ≤ n
              · skip
                have hz : ew op d a b n = ((op * 67108864 + 4194304 * (d : Int)) + 262144 * (a : Int)) + n := by rw [ew, if_pos hc, wd, wdF, f, pD_2, pA_2, pB_2, pI_2]; omega
                rw [hz, hc]
                exact renc_2p w op d a b n (sb (nm op)) 115 (shC op) (op * 67108864) ((op * 67108864 + 4194304 * (d : Int))) (((op * 67108864 + 4194304 * (d : Int)) + 262144 * (a : Int))) bo bd ba bb ⟨n0, n1⟩ rfl rfl rfl (by omega) (by omega) (by omega) ht h0 _ rfl (by omega) hO
              · skip
                have hz : ew op d a b n = ((op * 67108864 + 4194304 * (d : Int)) + 262144 * (a : Int)) + (n + 262144) := by rw [ew, if_pos hc, wd, wdF, f, pD_2, pA_2, pB_2, pI_2]; omega
                rw [hz, hc]
                exact renc_2m w op d a b n (sb (nm op)) 115 (shC op) (op * 67108864) ((op * 67108864 + 4194304 * (d : Int))) (((op * 67108864 + 4194304 * (d : Int)) + 262144 * (a : Int))) bo bd ba bb ⟨n0, n1⟩ rfl rfl rfl (by omega) (by omega) (by omega) ht (by omega) _ _ rfl rfl (by omega) hO
            · have hi' : im op n = false := by
                rw [im, eL, eH]
                by_cases h1 : -131072 ≤ n
                · rw [decide_eq_true h1, decide_eq_false (by omega)]; rfl
                · rw [decide_eq_false h1]; rfl
              have hc := ck_im ho hr hi'
              exact absurd (hck.symm.trans hc) (by decide)
          · have hc := ck_reg (n := n) ho (show rms op d a b = false by rw [rms, f]; simp [rm, lD_2, lA_2, lB_2, hB])
            exact absurd (hck.symm.trans hc) (by decide)
        · have hc := ck_reg (n := n) ho (show rms op d a b = false by rw [rms, f]; simp [rm, lD_2, lA_2, lB_2, hA])
          exact absurd (hck.symm.trans hc) (by decide)
      · have hc := ck_reg (n := n) ho (show rms op d a b = false by rw [rms, f]; simp [rm, lD_2, lA_2, lB_2, hD])
        exact absurd (hck.symm.trans hc) (by decide)
    · rw [him, f, t] at hO
      have eL : lo op = -131072 := by rw [lo, f, t]; rfl
      have eH : hi op = 131071 := by rw [hi, f, t]; rfl
      by_cases hD : d < 16
      · by_cases hA : a < 16
        · by_cases hB : b = 0
          · have hr : rms op d a b = true := by rw [rms, f]; simp [rm, lD_2, lA_2, lB_2, hD, hA, hB]
            by_cases hn : -131072 ≤ n ∧ n ≤ 131071
            · have hi' : im op n = true := by rw [im, eL, eH, decide_eq_true hn.1, decide_eq_true hn.2]; rfl
              have hc := ck_of ho hr hi'
              have ht : ∀ V, Calls Tryz.prog 57 #[.int .u8 115, .int .i64 18, .int .i64 n] V fun e w' => e = .returned (.bool true) ∧ w' = V := fun V => by
                have := takes_s18 V n
                rw [decide_eq_true hn.1, decide_eq_true hn.2] at this
                exact this
              by_cases h0 : 0 ≤ n
              · skip
                have hz : ew op d a b n = ((op * 67108864 + 4194304 * (d : Int)) + 262144 * (a : Int)) + n := by rw [ew, if_pos hc, wd, wdF, f, pD_2, pA_2, pB_2, pI_2]; omega
                rw [hz, hc]
                exact renc_2p w op d a b n (sb (nm op)) 115 (shC op) (op * 67108864) ((op * 67108864 + 4194304 * (d : Int))) (((op * 67108864 + 4194304 * (d : Int)) + 262144 * (a : Int))) bo bd ba bb ⟨n0, n1⟩ rfl rfl rfl (by omega) (by omega) (by omega) ht h0 _ rfl (by omega) hO
              · skip
                have hz : ew op d a b n = ((op * 67108864 + 4194304 * (d : Int)) + 262144 * (a : Int)) + (n + 262144) := by rw [ew, if_pos hc, wd, wdF, f, pD_2, pA_2, pB_2, pI_2]; omega
                rw [hz, hc]
                exact renc_2m w op d a b n (sb (nm op)) 115 (shC op) (op * 67108864) ((op * 67108864 + 4194304 * (d : Int))) (((op * 67108864 + 4194304 * (d : Int)) + 262144 * (a : Int))) bo bd ba bb ⟨n0, n1⟩ rfl rfl rfl (by omega) (by omega) (by omega) ht (by omega) _ _ rfl rfl (by omega) hO
            · have hi' : im op n = false := by
                rw [im, eL, eH]
                by_cases h1 : -131072 ≤ n
                · rw [decide_eq_true h1, decide_eq_false (by omega)]; rfl
                · rw [decide_eq_false h1]; rfl
              have hc := ck_im ho hr hi'
              exact absurd (hck.symm.trans hc) (by decide)
          · have hc := ck_reg (n := n) ho (show rms op d a b = false by rw [rms, f]; simp [rm, lD_2, lA_2, lB_2, hB])
            exact absurd (hck.symm.trans hc) (by decide)
        · have hc := ck_reg (n := n) ho (show rms op d a b = false by rw [rms, f]; simp [rm, lD_2, lA_2, lB_2, hA])
          exact absurd (hck.symm.trans hc) (by decide)
      · have hc := ck_reg (n := n) ho (show rms op d a b = false by rw [rms, f]; simp [rm, lD_2, lA_2, lB_2, hD])
        exact absurd (hck.symm.trans hc) (by decide)
    · rw [him, f, t] at hO
      have eL : lo op = 0 := by rw [lo, f, t]; rfl
      have eH : hi op = 262143 := by rw [hi, f, t]; rfl
      by_cases hD : d < 16
      · by_cases hA : a < 16
        · by_cases hB : b = 0
          · have hr : rms op d a b = true := by rw [rms, f]; simp [rm, lD_2, lA_2, lB_2, hD, hA, hB]
            by_cases hn : 0 ≤ n ∧ n ≤ 262143
            · have hi' : im op n = true := by rw [im, eL, eH, decide_eq_true hn.1, decide_eq_true hn.2]; rfl
              have hc := ck_of ho hr hi'
              have ht : ∀ V, Calls Tryz.prog 57 #[.int .u8 117, .int .i64 18, .int .i64 n] V fun e w' => e = .returned (.bool true) ∧ w' = V := fun V => by
                have := takes_u V 18 n
                rw [decide_eq_true hn.1, decide_eq_true hn.2] at this
                exact this
              have hz : ew op d a b n = ((op * 67108864 + 4194304 * (d : Int)) + 262144 * (a : Int)) + n := by rw [ew, if_pos hc, wd, wdF, f, pD_2, pA_2, pB_2, pI_2]; omega
              rw [hz, hc]
              exact renc_2p w op d a b n (sb (nm op)) 117 (shC op) (op * 67108864) ((op * 67108864 + 4194304 * (d : Int))) (((op * 67108864 + 4194304 * (d : Int)) + 262144 * (a : Int))) bo bd ba bb ⟨n0, n1⟩ rfl rfl rfl (by omega) (by omega) (by omega) ht (by omega) _ rfl (by omega) hO
            · have hi' : im op n = false := by
                rw [im, eL, eH]
                by_cases h1 : 0 ≤ n
                · rw [decide_eq_true h1, decide_eq_false (by omega)]; rfl
                · rw [decide_eq_false h1]; rfl
              have hc := ck_im ho hr hi'
              exact absurd (hck.symm.trans hc) (by decide)
          · have hc := ck_reg (n := n) ho (show rms op d a b = false by rw [rms, f]; simp [rm, lD_2, lA_2, lB_2, hB])
            exact absurd (hck.symm.trans hc) (by decide)
        · have hc := ck_reg (n := n) ho (show rms op d a b = false by rw [rms, f]; simp [rm, lD_2, lA_2, lB_2, hA])
          exact absurd (hck.symm.trans hc) (by decide)
      · have hc := ck_reg (n := n) ho (show rms op d a b = false by rw [rms, f]; simp [rm, lD_2, lA_2, lB_2, hD])
        exact absurd (hck.symm.trans hc) (by decide)
    · rw [him, f, t] at hO
      have eL : lo op = 0 := by rw [lo, f, t]; rfl
      have eH : hi op = 31 := by rw [hi, f, t]; rfl
      by_cases hD : d < 16
      · by_cases hA : a < 16
        · by_cases hB : b = 0
          · have hr : rms op d a b = true := by rw [rms, f]; simp [rm, lD_2, lA_2, lB_2, hD, hA, hB]
            by_cases hn : 0 ≤ n ∧ n ≤ 31
            · have hi' : im op n = true := by rw [im, eL, eH, decide_eq_true hn.1, decide_eq_true hn.2]; rfl
              have hc := ck_of ho hr hi'
              have ht : ∀ V, Calls Tryz.prog 57 #[.int .u8 110, .int .i64 18, .int .i64 n] V fun e w' => e = .returned (.bool true) ∧ w' = V := fun V => by
                have := takes_n V 18 n
                rw [decide_eq_true hn.1, decide_eq_true hn.2] at this
                exact this
              have hz : ew op d a b n = ((op * 67108864 + 4194304 * (d : Int)) + 262144 * (a : Int)) + n := by rw [ew, if_pos hc, wd, wdF, f, pD_2, pA_2, pB_2, pI_2]; omega
              rw [hz, hc]
              exact renc_2p w op d a b n (sb (nm op)) 110 (shC op) (op * 67108864) ((op * 67108864 + 4194304 * (d : Int))) (((op * 67108864 + 4194304 * (d : Int)) + 262144 * (a : Int))) bo bd ba bb ⟨n0, n1⟩ rfl rfl rfl (by omega) (by omega) (by omega) ht (by omega) _ rfl (by omega) hO
            · have hi' : im op n = false := by
                rw [im, eL, eH]
                by_cases h1 : 0 ≤ n
                · rw [decide_eq_true h1, decide_eq_false (by omega)]; rfl
                · rw [decide_eq_false h1]; rfl
              have hc := ck_im ho hr hi'
              exact absurd (hck.symm.trans hc) (by decide)
          · have hc := ck_reg (n := n) ho (show rms op d a b = false by rw [rms, f]; simp [rm, lD_2, lA_2, lB_2, hB])
            exact absurd (hck.symm.trans hc) (by decide)
        · have hc := ck_reg (n := n) ho (show rms op d a b = false by rw [rms, f]; simp [rm, lD_2, lA_2, lB_2, hA])
          exact absurd (hck.symm.trans hc) (by decide)
      · have hc := ck_reg (n := n) ho (show rms op d a b = false by rw [rms, f]; simp [rm, lD_2, lA_2, lB_2, hD])
        exact absurd (hck.symm.trans hc) (by decide)
    · rw [him, f, t] at hO
      have eL : lo op = -131072 := by rw [lo, f, t]; rfl
      have eH : hi op = 131071 := by rw [hi, f, t]; rfl
      by_cases hD : d = 0
      · by_cases hA : a < 16
        · by_cases hB : b < 16
          · have hr : rms op d a b = true := by rw [rms, f]; simp [rm, lD_3, lA_3, lB_3, hD, hA, hB]
            by_cases hn : -131072 ≤ n ∧ n ≤ 131071
            · have hi' : im op n = true := by rw [im, eL, eH, decide_eq_true hn.1, decide_eq_true hn.2]; rfl
              have hc := ck_of ho hr hi'
              have ht : ∀ V, Calls Tryz.prog 57 #[.int .u8 115, .int .i64 18, .int .i64 n] V fun e w' => e = .returned (.bool true) ∧ w' = V := fun V => by
                have := takes_s18 V n
                rw [decide_eq_true hn.1, decide_eq_true hn.2] at this
                exact this
              by_cases h0 : 0 ≤ n
              · skip
                have hz : ew op d a b n = ((op * 67108864 + 4194304 * (a : Int)) + 262144 * (b : Int)) + n := by rw [ew, if_pos hc, wd, wdF, f, pD_3, pA_3, pB_3, pI_3]; omega
                rw [hz, hc]
                exact renc_3p w op d a b n (sb (nm op)) 115 (shC op) (op * 67108864) ((op * 67108864 + 4194304 * (a : Int))) (((op * 67108864 + 4194304 * (a : Int)) + 262144 * (b : Int))) bo bd ba bb ⟨n0, n1⟩ rfl rfl rfl (by omega) (by omega) (by omega) ht h0 _ rfl (by omega) hO
              · skip
                have hz : ew op d a b n = ((op * 67108864 + 4194304 * (a : Int)) + 262144 * (b : Int)) + (n + 262144) := by rw [ew, if_pos hc, wd, wdF, f, pD_3, pA_3, pB_3, pI_3]; omega
                rw [hz, hc]
                exact renc_3m w op d a b n (sb (nm op)) 115 (shC op) (op * 67108864) ((op * 67108864 + 4194304 * (a : Int))) (((op * 67108864 + 4194304 * (a : Int)) + 262144 * (b : Int))) bo bd ba bb ⟨n0, n1⟩ rfl rfl rfl (by omega) (by omega) (by omega) ht (by omega) _ _ rfl rfl (by omega) hO
            · have hi' : im op n = false := by
                rw [im, eL, eH]
                by_cases h1 : -131072 ≤ n
                · rw [decide_eq_true h1, decide_eq_false (by omega)]; rfl
                · rw [decide_eq_false h1]; rfl
              have hc := ck_im ho hr hi'
              exact absurd (hck.symm.trans hc) (by decide)
          · have hc := ck_reg (n := n) ho (show rms op d a b = false by rw [rms, f]; simp [rm, lD_3, lA_3, lB_3, hB])
            exact absurd (hck.symm.trans hc) (by decide)
        · have hc := ck_reg (n := n) ho (show rms op d a b = false by rw [rms, f]; simp [rm, lD_3, lA_3, lB_3, hA])
          exact absurd (hck.symm.trans hc) (by decide)
      · have hc := ck_reg (n := n) ho (show rms op d a b = false by rw [rms, f]; simp [rm, lD_3, lA_3, lB_3, hD])
        exact absurd (hck.symm.trans hc) (by decide)
    · rw [him, f, t] at hO
      have eL : lo op = -131072 := by rw [lo, f, t]; rfl
      have eH : hi op = 131071 := by rw [hi, f, t]; rfl
      by_cases hD : d = 0
      · by_cases hA : a < 16
        · by_cases hB : b < 16
          · have hr : rms op d a b = true := by rw [rms, f]; simp [rm, lD_3, lA_3, lB_3, hD, hA, hB]
            by_cases hn : -131072 ≤ n ∧ n ≤ 131071
            · have hi' : im op n = true := by rw [im, eL, eH, decide_eq_true hn.1, decide_eq_true hn.2]; rfl
              have hc := ck_of ho hr hi'
              have ht : ∀ V, Calls Tryz.prog 57 #[.int .u8 115, .int .i64 18, .int .i64 n] V fun e w' => e = .returned (.bool true) ∧ w' = V := fun V => by
                have := takes_s18 V n
                rw [decide_eq_true hn.1, decide_eq_true hn.2] at this
                exact this
              by_cases h0 : 0 ≤ n
              · skip
                have hz : ew op d a b n = ((op * 67108864 + 4194304 * (a : Int)) + 262144 * (b : Int)) + n := by rw [ew, if_pos hc, wd, wdF, f, pD_3, pA_3, pB_3, pI_3]; omega
                rw [hz, hc]
                exact renc_3p w op d a b n (sb (nm op)) 115 (shC op) (op * 67108864) ((op * 67108864 + 4194304 * (a : Int))) (((op * 67108864 + 4194304 * (a : Int)) + 262144 * (b : Int))) bo bd ba bb ⟨n0, n1⟩ rfl rfl rfl (by omega) (by omega) (by omega) ht h0 _ rfl (by omega) hO
              · skip
                have hz : ew op d a b n = ((op * 67108864 + 4194304 * (a : Int)) + 262144 * (b : Int)) + (n + 262144) := by rw [ew, if_pos hc, wd, wdF, f, pD_3, pA_3, pB_3, pI_3]; omega
                rw [hz, hc]
                exact renc_3m w op d a b n (sb (nm op)) 115 (shC op) (op * 67108864) ((op * 67108864 + 4194304 * (a : Int))) (((op * 67108864 + 4194304 * (a : Int)) + 262144 * (b : Int))) bo bd ba bb ⟨n0, n1⟩ rfl rfl rfl (by omega) (by omega) (by omega) ht (by omega) _ _ rfl rfl (by omega) hO
            · have hi' : im op n = false := by
                rw [im, eL, eH]
                by_cases h1 : -131072 ≤ n
                · rw [decide_eq_true h1, decide_eq_false (by omega)]; rfl
                · rw [decide_eq_false h1]; rfl
              have hc := ck_im ho hr hi'
              exact absurd (hck.symm.trans hc) (by decide)
          · have hc := ck_reg (n := n) ho (show rms op d a b = false by rw [rms, f]; simp [rm, lD_3, lA_3, lB_3, hB])
            exact absurd (hck.symm.trans hc) (by decide)
        · have hc := ck_reg (n := n) ho (show rms op d a b = false by rw [rms, f]; simp [rm, lD_3, lA_3, lB_3, hA])
          exact absurd (hck.symm.trans hc) (by decide)
      · have hc := ck_reg (n := n) ho (show rms op d a b = false by rw [rms, f]; simp [rm, lD_3, lA_3, lB_3, hD])
        exact absurd (hck.symm.trans hc) (by decide)
    · rw [him, f, t] at hO
      have eL : lo op = -2097152 := by rw [lo, f, t]; rfl
      have eH : hi op = 2097151 := by rw [hi, f, t]; rfl
      by_cases hD : d < 16
      · by_cases hA : a = 0
        · by_cases hB : b = 0
          · have hr : rms op d a b = true := by rw [rms, f]; simp [rm, lD_4, lA_4, lB_4, hD, hA, hB]
            by_cases hn : -2097152 ≤ n ∧ n ≤ 2097151
            · have hi' : im op n = true := by rw [im, eL, eH, decide_eq_true hn.1, decide_eq_true hn.2]; rfl
              have hc := ck_of ho hr hi'
              have ht : ∀ V, Calls Tryz.prog 57 #[.int .u8 115, .int .i64 22, .int .i64 n] V fun e w' => e = .returned (.bool true) ∧ w' = V := fun V => by
                have := takes_s22 V n
                rw [decide_eq_true hn.1, decide_eq_true hn.2] at this
                exact this
              by_cases h0 : 0 ≤ n
              · skip
                have hz : ew op d a b n = (op * 67108864 + 4194304 * (d : Int)) + n := by rw [ew, if_pos hc, wd, wdF, f, pD_4, pA_4, pB_4, pI_4]; omega
                rw [hz, hc]
                exact renc_4p w op d a b n (sb (nm op)) 115 (shC op) (op * 67108864) ((op * 67108864 + 4194304 * (d : Int))) bo bd ba bb ⟨n0, n1⟩ rfl rfl (by omega) (by omega) (by omega) ht h0 _ rfl (by omega) hO
              · skip
                have hz : ew op d a b n = (op * 67108864 + 4194304 * (d : Int)) + (n + 4194304) := by rw [ew, if_pos hc, wd, wdF, f, pD_4, pA_4, pB_4, pI_4]; omega
                rw [hz, hc]
                exact renc_4m w op d a b n (sb (nm op)) 115 (shC op) (op * 67108864) ((op * 67108864 + 4194304 * (d : Int))) bo bd ba bb ⟨n0, n1⟩ rfl rfl (by omega) (by omega) (by omega) ht (by omega) _ _ rfl rfl (by omega) hO
            · have hi' : im op n = false := by
                rw [im, eL, eH]
                by_cases h1 : -2097152 ≤ n
                · rw [decide_eq_true h1, decide_eq_false (by omega)]; rfl
                · rw [decide_eq_false h1]; rfl
              have hc := ck_im ho hr hi'
              exact absurd (hck.symm.trans hc) (by decide)
          · have hc := ck_reg (n := n) ho (show rms op d a b = false by rw [rms, f]; simp [rm, lD_4, lA_4, lB_4, hB])
            exact absurd (hck.symm.trans hc) (by decide)
        · have hc := ck_reg (n := n) ho (show rms op d a b = false by rw [rms, f]; simp [rm, lD_4, lA_4, lB_4, hA])
          exact absurd (hck.symm.trans hc) (by decide)
      · have hc := ck_reg (n := n) ho (show rms op d a b = false by rw [rms, f]; simp [rm, lD_4, lA_4, lB_4, hD])
        exact absurd (hck.symm.trans hc) (by decide)
    · rw [him, f, t] at hO
      have eL : lo op = 0 := by rw [lo, f, t]; rfl
      have eH : hi op = 262143 := by rw [hi, f, t]; rfl
      by_cases hD : d < 16
      · by_cases hA : a = 0
        · by_cases hB : b = 0
          · have hr : rms op d a b = true := by rw [rms, f]; simp [rm, lD_4, lA_4, lB_4, hD, hA, hB]
            by_cases hn : 0 ≤ n ∧ n ≤ 262143
            · have hi' : im op n = true := by rw [im, eL, eH, decide_eq_true hn.1, decide_eq_true hn.2]; rfl
              have hc := ck_of ho hr hi'
              have ht : ∀ V, Calls Tryz.prog 57 #[.int .u8 117, .int .i64 22, .int .i64 n] V fun e w' => e = .returned (.bool true) ∧ w' = V := fun V => by
                have := takes_u V 22 n
                rw [decide_eq_true hn.1, decide_eq_true hn.2] at this
                exact this
              have hz : ew op d a b n = (op * 67108864 + 4194304 * (d : Int)) + n := by rw [ew, if_pos hc, wd, wdF, f, pD_4, pA_4, pB_4, pI_4]; omega
              rw [hz, hc]
              exact renc_4p w op d a b n (sb (nm op)) 117 (shC op) (op * 67108864) ((op * 67108864 + 4194304 * (d : Int))) bo bd ba bb ⟨n0, n1⟩ rfl rfl (by omega) (by omega) (by omega) ht (by omega) _ rfl (by omega) hO
            · have hi' : im op n = false := by
                rw [im, eL, eH]
                by_cases h1 : 0 ≤ n
                · rw [decide_eq_true h1, decide_eq_false (by omega)]; rfl
                · rw [decide_eq_false h1]; rfl
              have hc := ck_im ho hr hi'
              exact absurd (hck.symm.trans hc) (by decide)
          · have hc := ck_reg (n := n) ho (show rms op d a b = false by rw [rms, f]; simp [rm, lD_4, lA_4, lB_4, hB])
            exact absurd (hck.symm.trans hc) (by decide)
        · have hc := ck_reg (n := n) ho (show rms op d a b = false by rw [rms, f]; simp [rm, lD_4, lA_4, lB_4, hA])
          exact absurd (hck.symm.trans hc) (by decide)
      · have hc := ck_reg (n := n) ho (show rms op d a b = false by rw [rms, f]; simp [rm, lD_4, lA_4, lB_4, hD])
        exact absurd (hck.symm.trans hc) (by decide)
    · rw [him, f, t] at hO
      have eL : lo op = 0 := by rw [lo, f, t]; rfl
      have eH : hi op = 0 := by rw [hi, f, t]; rfl
      by_cases hD : d < 16
      · by_cases hA : a = 0
        · by_cases hB : b = 0
          · have hr : rms op d a b = true := by rw [rms, f]; simp [rm, lD_5, lA_5, lB_5, hD, hA, hB]
            by_cases hn : 0 ≤ n ∧ n ≤ 0
            · have hi' : im op n = true := by rw [im, eL, eH, decide_eq_true hn.1, decide_eq_true hn.2]; rfl
              have hc := ck_of ho hr hi'
              have ht : ∀ V, Calls Tryz.prog 57 #[.int .u8 45, .int .i64 0, .int .i64 n] V fun e w' => e = .returned (.bool true) ∧ w' = V := fun V => by
                have := takes_0 V 0 n
                rw [decide_eq_true hn.1, decide_eq_true hn.2] at this
                exact this
              have hz : ew op d a b n = (op * 67108864 + 4194304 * (d : Int)) + n := by rw [ew, if_pos hc, wd, wdF, f, pD_5, pA_5, pB_5, pI_5]; omega
              rw [hz, hc]
              exact renc_5p w op d a b n (sb (nm op)) 45 (shC op) (op * 67108864) ((op * 67108864 + 4194304 * (d : Int))) bo bd ba bb ⟨n0, n1⟩ rfl rfl (by omega) (by omega) (by omega) ht (by omega) _ rfl (by omega) hO
            · have hi' : im op n = false := by
                rw [im, eL, eH]
                by_cases h1 : 0 ≤ n
                · rw [decide_eq_true h1, decide_eq_false (by omega)]; rfl
                · rw [decide_eq_false h1]; rfl
              have hc := ck_im ho hr hi'
              exact absurd (hck.symm.trans hc) (by decide)
          · have hc := ck_reg (n := n) ho (show rms op d a b = false by rw [rms, f]; simp [rm, lD_5, lA_5, lB_5, hB])
            exact absurd (hck.symm.trans hc) (by decide)
        · have hc := ck_reg (n := n) ho (show rms op d a b = false by rw [rms, f]; simp [rm, lD_5, lA_5, lB_5, hA])
          exact absurd (hck.symm.trans hc) (by decide)
      · have hc := ck_reg (n := n) ho (show rms op d a b = false by rw [rms, f]; simp [rm, lD_5, lA_5, lB_5, hD])
        exact absurd (hck.symm.trans hc) (by decide)
    · rw [him, f, t] at hO
      have eL : lo op = 0 := by rw [lo, f, t]; rfl
      have eH : hi op = 0 := by rw [hi, f, t]; rfl
      by_cases hD : d = 0
      · by_cases hA : a < 16
        · by_cases hB : b = 0
          · have hr : rms op d a b = true := by rw [rms, f]; simp [rm, lD_6, lA_6, lB_6, hD, hA, hB]
            by_cases hn : 0 ≤ n ∧ n ≤ 0
            · have hi' : im op n = true := by rw [im, eL, eH, decide_eq_true hn.1, decide_eq_true hn.2]; rfl
              have hc := ck_of ho hr hi'
              have ht : ∀ V, Calls Tryz.prog 57 #[.int .u8 45, .int .i64 0, .int .i64 n] V fun e w' => e = .returned (.bool true) ∧ w' = V := fun V => by
                have := takes_0 V 0 n
                rw [decide_eq_true hn.1, decide_eq_true hn.2] at this
                exact this
              have hz : ew op d a b n = (op * 67108864 + 4194304 * (a : Int)) + n := by rw [ew, if_pos hc, wd, wdF, f, pD_6, pA_6, pB_6, pI_6]; omega
              rw [hz, hc]
              exact renc_6p w op d a b n (sb (nm op)) 45 (shC op) (op * 67108864) ((op * 67108864 + 4194304 * (a : Int))) bo bd ba bb ⟨n0, n1⟩ rfl rfl (by omega) (by omega) (by omega) ht (by omega) _ rfl (by omega) hO
            · have hi' : im op n = false := by
                rw [im, eL, eH]
                by_cases h1 : 0 ≤ n
                · rw [decide_eq_true h1, decide_eq_false (by omega)]; rfl
                · rw [decide_eq_false h1]; rfl
              have hc := ck_im ho hr hi'
              exact absurd (hck.symm.trans hc) (by decide)
          · have hc := ck_reg (n := n) ho (show rms op d a b = false by rw [rms, f]; simp [rm, lD_6, lA_6, lB_6, hB])
            exact absurd (hck.symm.trans hc) (by decide)
        · have hc := ck_reg (n := n) ho (show rms op d a b = false by rw [rms, f]; simp [rm, lD_6, lA_6, lB_6, hA])
          exact absurd (hck.symm.trans hc) (by decide)
      · have hc := ck_reg (n := n) ho (show rms op d a b = false by rw [rms, f]; simp [rm, lD_6, lA_6, lB_6, hD])
        exact absurd (hck.symm.trans hc) (by decide)
    · rw [him, f, t] at hO
      have eL : lo op = 0 := by rw [lo, f, t]; rfl
      have eH : hi op = 262143 := by rw [hi, f, t]; rfl
      by_cases hD : d = 0
      · by_cases hA : a = 0
        · by_cases hB : b = 0
          · have hr : rms op d a b = true := by rw [rms, f]; simp [rm, lD_7, lA_7, lB_7, hD, hA, hB]
            by_cases hn : 0 ≤ n ∧ n ≤ 262143
            · have hi' : im op n = true := by rw [im, eL, eH, decide_eq_true hn.1, decide_eq_true hn.2]; rfl
              have hc := ck_of ho hr hi'
              have ht : ∀ V, Calls Tryz.prog 57 #[.int .u8 117, .int .i64 26, .int .i64 n] V fun e w' => e = .returned (.bool true) ∧ w' = V := fun V => by
                have := takes_u V 26 n
                rw [decide_eq_true hn.1, decide_eq_true hn.2] at this
                exact this
              have hz : ew op d a b n = op * 67108864 + n := by rw [ew, if_pos hc, wd, wdF, f, pD_7, pA_7, pB_7, pI_7]; omega
              rw [hz, hc]
              exact renc_7p w op d a b n (sb (nm op)) 117 (shC op) (op * 67108864) bo bd ba bb ⟨n0, n1⟩ rfl (by omega) (by omega) (by omega) ht (by omega) _ rfl (by omega) hO
            · have hi' : im op n = false := by
                rw [im, eL, eH]
                by_cases h1 : 0 ≤ n
                · rw [decide_eq_true h1, decide_eq_false (by omega)]; rfl
                · rw [decide_eq_false h1]; rfl
              have hc := ck_im ho hr hi'
              exact absurd (hck.symm.trans hc) (by decide)
          · have hc := ck_reg (n := n) ho (show rms op d a b = false by rw [rms, f]; simp [rm, lD_7, lA_7, lB_7, hB])
            exact absurd (hck.symm.trans hc) (by decide)
        · have hc := ck_reg (n := n) ho (show rms op d a b = false by rw [rms, f]; simp [rm, lD_7, lA_7, lB_7, hA])
          exact absurd (hck.symm.trans hc) (by decide)
      · have hc := ck_reg (n := n) ho (show rms op d a b = false by rw [rms, f]; simp [rm, lD_7, lA_7, lB_7, hD])
        exact absurd (hck.symm.trans hc) (by decide)
    · rw [him, f, t] at hO
      have eL : lo op = 0 := by rw [lo, f, t]; rfl
      have eH : hi op = 0 := by rw [hi, f, t]; rfl
      by_cases hD : d = 0
      · by_cases hA : a = 0
        · by_cases hB : b = 0
          · have hr : rms op d a b = true := by rw [rms, f]; simp [rm, lD_8, lA_8, lB_8, hD, hA, hB]
            by_cases hn : 0 ≤ n ∧ n ≤ 0
            · have hi' : im op n = true := by rw [im, eL, eH, decide_eq_true hn.1, decide_eq_true hn.2]; rfl
              have hc := ck_of ho hr hi'
              have ht : ∀ V, Calls Tryz.prog 57 #[.int .u8 45, .int .i64 0, .int .i64 n] V fun e w' => e = .returned (.bool true) ∧ w' = V := fun V => by
                have := takes_0 V 0 n
                rw [decide_eq_true hn.1, decide_eq_true hn.2] at this
                exact this
              have hz : ew op d a b n = op * 67108864 + n := by rw [ew, if_pos hc, wd, wdF, f, pD_8, pA_8, pB_8, pI_8]; omega
              rw [hz, hc]
              exact renc_8p w op d a b n (sb (nm op)) 45 (shC op) (op * 67108864) bo bd ba bb ⟨n0, n1⟩ rfl (by omega) (by omega) (by omega) ht (by omega) _ rfl (by omega) hO
            · have hi' : im op n = false := by
                rw [im, eL, eH]
                by_cases h1 : 0 ≤ n
                · rw [decide_eq_true h1, decide_eq_false (by omega)]; rfl
                · rw [decide_eq_false h1]; rfl
              have hc := ck_im ho hr hi'
              exact absurd (hck.symm.trans hc) (by decide)
          · have hc := ck_reg (n := n) ho (show rms op d a b = false by rw [rms, f]; simp [rm, lD_8, lA_8, lB_8, hB])
            exact absurd (hck.symm.trans hc) (by decide)
        · have hc := ck_reg (n := n) ho (show rms op d a b = false by rw [rms, f]; simp [rm, lD_8, lA_8, lB_8, hA])
          exact absurd (hck.symm.trans hc) (by decide)
      · have hc := ck_reg (n := n) ho (show rms op d a b = false by rw [rms, f]; simp [rm, lD_8, lA_8, lB_8, hD])
        exact absurd (hck.symm.trans hc) (by decide)
end Go.Proofs.YtgofjmhdgmfgfaaGreatDoor
