import Derived.Test.YtgofjmhdgmfgfaaGreatDoorSq
import Derived.Test.YtgofjmhdgmfgfaaGreatDoorWo
namespace Go.Proofs.YtgofjmhdgmfgfaaGreatDoor
open Go.ChangeShapes Go.WideShapes Go.ChangeAt Go.RowKit
set_option linter.unusedVariables false

def shOf : Nat → Nat → Nat := fun f t => if t = 2 then 109 else if f = 1 then 51 else if f = 5 then 49 else if f = 6 then 49 else if f = 7 then 106 else if f = 8 then 45 else 105
theorem sh_tab : ∀ k : Fin 49, k.val = 0 ∨ shTab.getD k.val 0 = shOf (fmTab.getD k.val 0) (tkTab.getD k.val 0) := by decide +kernel
theorem shC_of {op : Int} (h : isO op = true) : shC op = shOf (fo op) (tk op) := by
  obtain ⟨o0, o1⟩ := (isO_iff op).1 h
  rcases sh_tab ⟨op.toNat, by omega⟩ with h | h
  · simp only at h; omega
  · exact h
set_option maxRecDepth 100000 in
set_option maxHeartbeats 4000000 in
theorem rtxt_no (w : World) (op d a b n x c : Int) (hc : (c == 0) = false)
    (hE : ∀ V, Calls Tryz.prog 58 #[iv op d a b n] V fun e w' => e = .returned (.tuple #[.int .u32 x, .int .i64 c]) ∧ Kp V w') :
    Calls Tryz.prog 30 #[iv op d a b n] w fun e w' => e = .returned (.string ⟨#[]⟩) ∧ Kp w w' := by
  have hc' : (c != 0) = true := by simpa using hc
  go_enter Tryz.func30, Tryz.ntmps30
  go_wp2_with (go_at_call 58; refine (hE _).mono ?_; rintro e w1 ⟨rfl, k1⟩)
  go_ret
  exact ⟨rfl, Kp.trans ((Chg.refl _ _).alloc _) k1⟩
theorem k32 : (⟨#[32]⟩ : ByteArray) = sb [32] := rfl
theorem k4432 : (⟨#[44, 32]⟩ : ByteArray) = sb [44, 32] := rfl
theorem k32114 : (⟨#[32, 114]⟩ : ByteArray) = sb [32, 114] := rfl
theorem k40114 : (⟨#[40, 114]⟩ : ByteArray) = sb [40, 114] := rfl
theorem k41 : (⟨#[41]⟩ : ByteArray) = sb [41] := rfl
theorem j1 (x : List UInt8) : opT [x] = 32 :: x := by rw [opT, if_neg (by simp), Lib.join_one]
theorem j2 (x y : List UInt8) : opT [x, y] = 32 :: (x ++ 44 :: 32 :: y) := by rw [opT, if_neg (by simp), Lib.join_cons]; simp [Lib.joinTail]
theorem j3 (x y z : List UInt8) : opT [x, y, z] = 32 :: (x ++ 44 :: 32 :: (y ++ 44 :: 32 :: z)) := by rw [opT, if_neg (by simp), Lib.join_cons]; simp [Lib.joinTail]
theorem sbl (l : List UInt8) : (⟨l.toArray⟩ : ByteArray) = sb l := rfl
theorem app_sb (a b : List UInt8) : sb a ++ sb b = sb (a ++ b) := (sb_app a b).2

set_option maxHeartbeats 4000000 in
theorem rText_of (w : World) (op : Int) (d a b : Nat) (n : Int) (hE : ∀ V, Calls Tryz.prog 58 #[iv op d a b n] V fun e w' => e = .returned (.tuple #[.int .u32 (ew op d a b n), .int .i64 (ck op d a b n)]) ∧ Kp V w') :
    Calls Tryz.prog 30 #[iv op d a b n] w fun e w' => e = .returned (.string (sb (tx op d a b n))) ∧ Kp w w' := by
  have hO := fun V => of_any V op
  by_cases hc : ck op d a b n = 0
  · rw [hc] at hE
    obtain ⟨ho, _, _⟩ := ck_zero hc
    obtain ⟨hd, ha, hb⟩ := ck_regs hc
    obtain ⟨n0, n1⟩ := ck_imm hc
    have him := imC_of ho
    have hsh := shC_of ho
    rw [ho] at hO
    have bd : (0 : Int) ≤ (d : Int) ∧ (d : Int) < 256 := by omega
    have ba : (0 : Int) ≤ (a : Int) ∧ (a : Int) < 256 := by omega
    have bb : (0 : Int) ≤ (b : Int) ∧ (b : Int) < 256 := by omega
    have hN := fun V => decimal_any V n n0 n1
    have dd := fun V => decimal_any V (d : Int) (by omega) (by omega)
    have da := fun V => decimal_any V (a : Int) (by omega) (by omega)
    have db := fun V => decimal_any V (b : Int) (by omega) (by omega)
    have sN := itoa_size n n0 n1
    have sd := itoa_size (d : Int) (by omega) (by omega)
    have sa := itoa_size (a : Int) (by omega) (by omega)
    have sbb := itoa_size (b : Int) (by omega) (by omega)
    have sS : (sb (nm op)).size ≤ 5 := by rw [sb_size]; exact nm_short op
    have lN : (Lib.itoa n).length ≤ 30 := by rw [← sb_size]; exact sN
    have ld : (Lib.itoa (d : Int)).length ≤ 30 := by rw [← sb_size]; exact sd
    have la : (Lib.itoa (a : Int)).length ≤ 30 := by rw [← sb_size]; exact sa
    have lb : (Lib.itoa (b : Int)).length ≤ 30 := by rw [← sb_size]; exact sbb
    have lS : (nm op).length ≤ 5 := nm_short op
    rw [tx, if_pos hc, ol]
    rcases op_pairs ho with ⟨f, t⟩ | ⟨f, t⟩ | ⟨f, t⟩ | ⟨f, t⟩ | ⟨f, t⟩ | ⟨f, t⟩ | ⟨f, t⟩ | ⟨f, t⟩ | ⟨f, t⟩ | ⟨f, t⟩ | ⟨f, t⟩ | ⟨f, t⟩ | ⟨f, t⟩
    · rw [him, hsh, f, t] at hO
      rw [f, t, show olF 1 0 d a b n = [rgT d, rgT a, rgT b] from rfl]
      refine rtxt_1 w op d a b n _ (sb (nm op)) 51 0 (sb (Lib.itoa n)) (sb (Lib.itoa (d : Int))) (sb (Lib.itoa (a : Int))) (sb (Lib.itoa (b : Int))) (sb (nm op ++ [32] ++ [114] ++ (Lib.itoa (d : Int)))) (sb ((nm op ++ [32] ++ [114] ++ (Lib.itoa (d : Int))) ++ [44, 32] ++ [114] ++ (Lib.itoa (a : Int)))) (sb (((nm op ++ [32] ++ [114] ++ (Lib.itoa (d : Int))) ++ [44, 32] ++ [114] ++ (Lib.itoa (a : Int))) ++ [44, 32] ++ [114] ++ (Lib.itoa (b : Int)))) _ bd ba bb ⟨n0, n1⟩ rfl hN sN sS dd sd da sa db sbb (by simp only [← app_sb]; rfl) (by rw [sb_size]; simp; omega) (by simp only [← app_sb]; rfl) (by rw [sb_size]; simp; omega) (by simp only [← app_sb]; rfl) (by rw [sb_size]; simp; omega) ?_ hE hO
      refine congrArg sb ?_
      rw [j3]; simp [rgT]
    · rw [him, hsh, f, t] at hO
      rw [f, t, show olF 2 1 d a b n = [rgT d, rgT a, Lib.itoa n] from rfl]
      refine rtxt_2 w op d a b n _ (sb (nm op)) 115 105 0 (sb (Lib.itoa n)) (sb (Lib.itoa (d : Int))) (sb (Lib.itoa (a : Int))) (sb (Lib.itoa (b : Int))) (sb (nm op ++ [32] ++ [114] ++ (Lib.itoa (d : Int)))) (sb ((nm op ++ [32] ++ [114] ++ (Lib.itoa (d : Int))) ++ [44, 32] ++ [114] ++ (Lib.itoa (a : Int)))) _ bd ba bb ⟨n0, n1⟩ rfl rfl hN sN sS dd sd da sa db sbb (by simp only [← app_sb]; rfl) (by rw [sb_size]; simp; omega) (by simp only [← app_sb]; rfl) (by rw [sb_size]; simp; omega) ?_ hE hO
      rw [k4432, app_sb, app_sb]
      refine congrArg sb ?_
      rw [j3]; simp [rgT]
    · rw [him, hsh, f, t] at hO
      rw [f, t, show olF 2 2 d a b n = [rgT d, mbT a n] from rfl]
      refine rtxt_2o w op d a b n _ (sb (nm op)) 115 0 (sb (Lib.itoa n)) (sb (Lib.itoa (d : Int))) (sb (Lib.itoa (a : Int))) (sb (Lib.itoa (b : Int))) _ bd ba bb ⟨n0, n1⟩ rfl hN sN sS dd sd da sa db sbb ?_ hE hO
      rw [k32114, k4432, k40114, k41, app_sb, app_sb, app_sb, app_sb, app_sb, app_sb, app_sb]
      refine congrArg sb ?_
      rw [j2]; simp [rgT, mbT]
    · rw [him, hsh, f, t] at hO
      rw [f, t, show olF 2 3 d a b n = [rgT d, rgT a, Lib.itoa n] from rfl]
      refine rtxt_2 w op d a b n _ (sb (nm op)) 117 105 0 (sb (Lib.itoa n)) (sb (Lib.itoa (d : Int))) (sb (Lib.itoa (a : Int))) (sb (Lib.itoa (b : Int))) (sb (nm op ++ [32] ++ [114] ++ (Lib.itoa (d : Int)))) (sb ((nm op ++ [32] ++ [114] ++ (Lib.itoa (d : Int))) ++ [44, 32] ++ [114] ++ (Lib.itoa (a : Int)))) _ bd ba bb ⟨n0, n1⟩ rfl rfl hN sN sS dd sd da sa db sbb (by simp only [← app_sb]; rfl) (by rw [sb_size]; simp; omega) (by simp only [← app_sb]; rfl) (by rw [sb_size]; simp; omega) ?_ hE hO
      rw [k4432, app_sb, app_sb]
      refine congrArg sb ?_
      rw [j3]; simp [rgT]
    · rw [him, hsh, f, t] at hO
      rw [f, t, show olF 2 4 d a b n = [rgT d, rgT a, Lib.itoa n] from rfl]
      refine rtxt_2 w op d a b n _ (sb (nm op)) 110 105 0 (sb (Lib.itoa n)) (sb (Lib.itoa (d : Int))) (sb (Lib.itoa (a : Int))) (sb (Lib.itoa (b : Int))) (sb (nm op ++ [32] ++ [114] ++ (Lib.itoa (d : Int)))) (sb ((nm op ++ [32] ++ [114] ++ (Lib.itoa (d : Int))) ++ [44, 32] ++ [114] ++ (Lib.itoa (a : Int)))) _ bd ba bb ⟨n0, n1⟩ rfl rfl hN sN sS dd sd da sa db sbb (by simp only [← app_sb]; rfl) (by rw [sb_size]; simp; omega) (by simp only [← app_sb]; rfl) (by rw [sb_size]; simp; omega) ?_ hE hO
      rw [k4432, app_sb, app_sb]
      refine congrArg sb ?_
      rw [j3]; simp [rgT]
    · rw [him, hsh, f, t] at hO
      rw [f, t, show olF 3 1 d a b n = [rgT a, rgT b, Lib.itoa n] from rfl]
      refine rtxt_3 w op d a b n _ (sb (nm op)) 115 105 0 (sb (Lib.itoa n)) (sb (Lib.itoa (d : Int))) (sb (Lib.itoa (a : Int))) (sb (Lib.itoa (b : Int))) (sb (nm op ++ [32] ++ [114] ++ (Lib.itoa (a : Int)))) (sb ((nm op ++ [32] ++ [114] ++ (Lib.itoa (a : Int))) ++ [44, 32] ++ [114] ++ (Lib.itoa (b : Int)))) _ bd ba bb ⟨n0, n1⟩ rfl rfl hN sN sS dd sd da sa db sbb (by simp only [← app_sb]; rfl) (by rw [sb_size]; simp; omega) (by simp only [← app_sb]; rfl) (by rw [sb_size]; simp; omega) ?_ hE hO
      rw [k4432, app_sb, app_sb]
      refine congrArg sb ?_
      rw [j3]; simp [rgT]
    · rw [him, hsh, f, t] at hO
      rw [f, t, show olF 3 2 d a b n = [rgT b, mbT a n] from rfl]
      refine rtxt_3o w op d a b n _ (sb (nm op)) 115 0 (sb (Lib.itoa n)) (sb (Lib.itoa (d : Int))) (sb (Lib.itoa (a : Int))) (sb (Lib.itoa (b : Int))) _ bd ba bb ⟨n0, n1⟩ rfl hN sN sS dd sd da sa db sbb ?_ hE hO
      rw [k32114, k4432, k40114, k41, app_sb, app_sb, app_sb, app_sb, app_sb, app_sb, app_sb]
      refine congrArg sb ?_
      rw [j2]; simp [rgT, mbT]
    · rw [him, hsh, f, t] at hO
      rw [f, t, show olF 4 1 d a b n = [rgT d, Lib.itoa n] from rfl]
      refine rtxt_4 w op d a b n _ (sb (nm op)) 115 105 0 (sb (Lib.itoa n)) (sb (Lib.itoa (d : Int))) (sb (Lib.itoa (a : Int))) (sb (Lib.itoa (b : Int))) (sb (nm op ++ [32] ++ [114] ++ (Lib.itoa (d : Int)))) _ bd ba bb ⟨n0, n1⟩ rfl rfl hN sN sS dd sd da sa db sbb (by simp only [← app_sb]; rfl) (by rw [sb_size]; simp; omega) ?_ hE hO
      rw [k4432, app_sb, app_sb]
      refine congrArg sb ?_
      rw [j2]; simp [rgT]
    · rw [him, hsh, f, t] at hO
      rw [f, t, show olF 4 3 d a b n = [rgT d, Lib.itoa n] from rfl]
      refine rtxt_4 w op d a b n _ (sb (nm op)) 117 105 0 (sb (Lib.itoa n)) (sb (Lib.itoa (d : Int))) (sb (Lib.itoa (a : Int))) (sb (Lib.itoa (b : Int))) (sb (nm op ++ [32] ++ [114] ++ (Lib.itoa (d : Int)))) _ bd ba bb ⟨n0, n1⟩ rfl rfl hN sN sS dd sd da sa db sbb (by simp only [← app_sb]; rfl) (by rw [sb_size]; simp; omega) ?_ hE hO
      rw [k4432, app_sb, app_sb]
      refine congrArg sb ?_
      rw [j2]; simp [rgT]
    · rw [him, hsh, f, t] at hO
      rw [f, t, show olF 5 0 d a b n = [rgT d] from rfl]
      refine rtxt_5 w op d a b n _ (sb (nm op)) 49 0 (sb (Lib.itoa n)) (sb (Lib.itoa (d : Int))) (sb (Lib.itoa (a : Int))) (sb (Lib.itoa (b : Int))) (sb (nm op ++ [32] ++ [114] ++ (Lib.itoa (d : Int)))) _ bd ba bb ⟨n0, n1⟩ rfl hN sN sS dd sd da sa db sbb (by simp only [← app_sb]; rfl) (by rw [sb_size]; simp; omega) ?_ hE hO
      refine congrArg sb ?_
      rw [j1]; simp [rgT]
    · rw [him, hsh, f, t] at hO
      rw [f, t, show olF 6 0 d a b n = [rgT a] from rfl]
      refine rtxt_6 w op d a b n _ (sb (nm op)) 49 0 (sb (Lib.itoa n)) (sb (Lib.itoa (d : Int))) (sb (Lib.itoa (a : Int))) (sb (Lib.itoa (b : Int))) (sb (nm op ++ [32] ++ [114] ++ (Lib.itoa (a : Int)))) _ bd ba bb ⟨n0, n1⟩ rfl hN sN sS dd sd da sa db sbb (by simp only [← app_sb]; rfl) (by rw [sb_size]; simp; omega) ?_ hE hO
      refine congrArg sb ?_
      rw [j1]; simp [rgT]
    · rw [him, hsh, f, t] at hO
      rw [f, t, show olF 7 3 d a b n = [Lib.itoa n] from rfl]
      refine rtxt_7 w op d a b n _ (sb (nm op)) 117 106 0 (sb (Lib.itoa n)) (sb (Lib.itoa (d : Int))) (sb (Lib.itoa (a : Int))) (sb (Lib.itoa (b : Int))) _ bd ba bb ⟨n0, n1⟩ rfl rfl hN sN sS dd sd da sa db sbb ?_ hE hO
      rw [k32, app_sb, app_sb]
      refine congrArg sb ?_
      rw [j1]; simp
    · rw [him, hsh, f, t] at hO
      rw [f, t, show olF 8 0 d a b n = [] from rfl]
      refine rtxt_8 w op d a b n _ (sb (nm op)) 45 0 (sb (Lib.itoa n)) (sb (Lib.itoa (d : Int))) (sb (Lib.itoa (a : Int))) (sb (Lib.itoa (b : Int))) _ bd ba bb ⟨n0, n1⟩ rfl hN sN sS dd sd da sa db sbb ?_ hE hO
      refine congrArg sb ?_
      rw [opT_nil, List.append_nil]
  · rw [tx, if_neg hc]
    exact rtxt_no w op d a b n _ _ (by simpa using hc) hE
end Go.Proofs.YtgofjmhdgmfgfaaGreatDoor
