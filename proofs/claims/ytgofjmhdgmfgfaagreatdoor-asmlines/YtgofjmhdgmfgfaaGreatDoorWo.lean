import Derived.Test.YtgofjmhdgmfgfaaGreatDoorRe
import Derived.Test.YtgofjmhdgmfgfaaGreatDoorRf
import Derived.Test.YtgofjmhdgmfgfaaGreatDoorRg
namespace Go.Proofs.YtgofjmhdgmfgfaaGreatDoor
open Go.ChangeShapes Go.WideShapes Go.ChangeAt Go.RowKit
set_option linter.unusedVariables false

def imOf : Nat → Nat := fun t => if t = 0 then 45 else if t = 3 then 117 else if t = 4 then 110 else 115
theorem im_tab : ∀ k : Fin 49, k.val = 0 ∨ imTab.getD k.val 0 = imOf (tkTab.getD k.val 0) := by decide +kernel
theorem imC_of {op : Int} (h : isO op = true) : imC op = imOf (tk op) := by
  obtain ⟨o0, o1⟩ := (isO_iff op).1 h
  rcases im_tab ⟨op.toNat, by omega⟩ with h | h
  · simp only at h; omega
  · exact h
theorem td (a k : Nat) : (a : Int).tdiv (k : Int) = ((a / k : Nat) : Int) := rfl
theorem tm (a k : Nat) : (a : Int).tmod (k : Int) = ((a % k : Nat) : Int) := rfl
theorem rm_dR (v l p : Nat) : rm (dR v l p) l = true := by
  unfold rm dR
  by_cases h : l = 0
  · simp [h]
  · rw [if_neg h, if_neg h]
    have := Nat.mod_lt (v / p) (show 0 < 16 by decide)
    simpa using this
theorem de_val {v : Nat} (h : isO (dO v) = true) : de v = if stray v = true then 103 else if im (dO v) (dI v) = false then 102 else 0 := by
  have hr : rms (dO v) (dD v) (dA v) (dB v) = true := by
    unfold rms dD dA dB
    rw [rm_dR, rm_dR, rm_dR]; rfl
  have hc : ck (dO v) (dD v) (dA v) (dB v) (dI v) = if im (dO v) (dI v) = false then 102 else 0 := by
    rw [ck, if_neg (by rw [h]; decide), if_neg (by rw [hr]; decide)]
  rw [de, if_neg (by rw [h]; decide), hc]
theorem at0_0 (x : Int) : at0 0 x = x := rfl

set_option maxRecDepth 100000 in
set_option maxHeartbeats 4000000 in
theorem rdec_no (w : World) (v' op : Int) (hv : 0 ≤ v' ∧ v' < 4294967296) (q : v'.tdiv 67108864 = op) (ho : 0 ≤ op ∧ op < 64)
    (hO : ∀ V, Calls Tryz.prog 55 #[.int .i64 op] V fun e w' => e = .returned (.tuple #[.agg #[.string ⟨#[]⟩, .int .i64 0, .int .u8 0, .int .u8 0], .bool false]) ∧ Kp V w') :
    Calls Tryz.prog 28 #[.int .u32 v'] w fun e w' => e = .returned (.tuple #[iv 0 0 0 0 0, .int .i64 100]) ∧ Kp w w' := by
  have p26 : ∀ w, Calls Tryz.prog 54 #[.int .i64 26] w fun e w' => e = .returned (.int .i64 67108864) ∧ w' = w := fun w => power_any w 26 (by decide) _ rfl
  obtain ⟨hv0, hv1⟩ := hv
  obtain ⟨ho0, ho1⟩ := ho
  have ho6 : wrap64 op = op := by simp only [wrap64]; omega
  go_enter Tryz.func28, Tryz.ntmps28
  go_wp2_with fail
  go_at_call 54
  refine (p26 _).mono ?_
  rintro e wa ⟨rfl, rfl⟩
  go_wp2_with fail
  go_at_call 55
  refine (hO _).mono ?_
  rintro e w2 ⟨rfl, k2⟩
  have g1 := al_old (.cells #[.string ⟨#[]⟩, .int .i64 0, .int .u8 0, .int .u8 0] 116) (Kp.heap k2 (al_old (.cells #[.int .i64 op, .int .u8 0, .int .u8 0, .int .u8 0, .int .i32 0] 48) (heap_alloc_new w (.cells #[.int .i64 0, .int .u8 0, .int .u8 0, .int .u8 0, .int .i32 0] 48))))
  have kk : Kp w (w2.alloc (.cells #[.string ⟨#[]⟩, .int .i64 0, .int .u8 0, .int .u8 0] 116)) := (Kp.trans (((Chg.refl _ _).alloc _).alloc _) k2).alloc _
  have g0 := Kp.heap k2 (al_old (.cells #[.int .i64 op, .int .u8 0, .int .u8 0, .int .u8 0, .int .i32 0] 48) (heap_alloc_new w (.cells #[.int .i64 0, .int .u8 0, .int .u8 0, .int .u8 0, .int .i32 0] 48)))
  have kk0 : Kp w w2 := Kp.trans (((Chg.refl _ _).alloc _).alloc _) k2
  obtain ⟨a0, a1, a2, a3, a4, f0, f1, f2, f3, f4⟩ := cells5 g1
  obtain ⟨b0, b1, b2, b3, b4, j0, j1, j2, j3, j4⟩ := cells5 g0
  go_wp2
  obtain ⟨V, hV⟩ : ∃ V, V = ((((((w2.alloc (.cells #[.string ⟨#[]⟩, .int .i64 0, .int .u8 0, .int .u8 0] 116)).setCell ⟨w.heap.size, 0, none⟩ (.int .i64 0)).setCell ⟨w.heap.size, 1, none⟩ (.int .u8 0)).setCell ⟨w.heap.size, 2, none⟩ (.int .u8 0)).setCell ⟨w.heap.size, 3, none⟩ (.int .u8 0)).setCell ⟨w.heap.size, 4, none⟩ (.int .i32 0)) := ⟨_, rfl⟩
  rw [← hV]
  obtain ⟨v1, v2, v3⟩ := box5 g1 _ _ _ _ _ hV
  obtain ⟨r0, r1, r2, r3, r4, _⟩ := cells5 v1
  refine bodyPost_ret (v := .tuple #[iv 0 0 0 0 0, .int .i64 100]) (by simp [results, Tryz.results28, go_sem, r0, r1, r2, r3, r4]) rfl ⟨rfl, ?_⟩
  exact Chg.trans kk v3 (fun i hi e => absurd e (Nat.ne_of_lt hi))

set_option maxHeartbeats 4000000 in
theorem rDecode_any (w : World) (v : Nat) (hv : v < 4294967296) :
    Calls Tryz.prog 28 #[.int .u32 v] w fun e w' => e = .returned (.tuple #[iv (at0 (de v) (dO v)) (at0 (de v) (dD v : Nat)) (at0 (de v) (dA v : Nat)) (at0 (de v) (dB v : Nat)) (at0 (de v) (dI v)), .int .i64 (de v)]) ∧ Kp w w' := by
  have hO := fun V => of_any V (dO v)
  have hop : 0 ≤ dO v ∧ dO v < 64 := by simp only [dO]; omega
  have hv' : (0 : Int) ≤ (v : Int) ∧ (v : Int) < 4294967296 := by omega
  cases ho : isO (dO v)
  · have hd : de v = 100 := by rw [de, if_pos ho]
    obtain ⟨e1, e2, e3⟩ := fo_no ho
    obtain ⟨e4, e5⟩ := imsh_no ho
    rw [e1, e3, e4, e5, ho] at hO
    rw [hd]
    exact rdec_no w v (dO v) hv' rfl hop hO
  · have hd := de_val ho
    have him := imC_of ho
    rw [ho] at hO
    rcases op_pairs ho with ⟨f, t⟩ | ⟨f, t⟩ | ⟨f, t⟩ | ⟨f, t⟩ | ⟨f, t⟩ | ⟨f, t⟩ | ⟨f, t⟩ | ⟨f, t⟩ | ⟨f, t⟩ | ⟨f, t⟩ | ⟨f, t⟩ | ⟨f, t⟩ | ⟨f, t⟩
    · rw [him, f, t] at hO
      have eD : dD v = (v % 67108864) / 4194304 := by rw [dD, f, dR, lD_1, pD_1, if_neg (by decide)]; omega
      have eA : dA v = ((v % 67108864) % 4194304) / 262144 := by rw [dA, f, dR, lA_1, pA_1, if_neg (by decide)]; omega
      have eB : dB v = (((v % 67108864) % 4194304) % 262144) / 16384 := by rw [dB, f, dR, lB_1, pB_1, if_neg (by decide)]; omega
      have eI := (show dI v = dF 1 0 v by rw [dI, f, t]).trans (dF_10 v)
      have eS : stray v = decide (v % 16384 ≠ 0) := by rw [stray, f, pU_1]; cases v % 16384 <;> rfl
      have eL : lo (dO v) = 0 := by rw [lo, f, t]; rfl
      have eH : hi (dO v) = 0 := by rw [hi, f, t]; rfl
      by_cases hx : 1 ≤ (((v % 67108864) % 4194304) % 262144) % 16384
      · have hd' : de v = 103 := by rw [hd, if_pos (by rw [eS, decide_eq_true_iff]; omega)]
        rw [hd']
        exact rdec_10stray w v (dO v) (sb (nm (dO v))) (shC (dO v)) ((v % 67108864 : Nat) : Int) (((v % 67108864) % 4194304 : Nat) : Int) ((((v % 67108864) % 4194304) % 262144 : Nat) : Int) (((((v % 67108864) % 4194304) % 262144) % 16384 : Nat) : Int) (((v % 67108864) / 4194304 : Nat) : Int) ((((v % 67108864) % 4194304) / 262144 : Nat) : Int) (((((v % 67108864) % 4194304) % 262144) / 16384 : Nat) : Int) hv' rfl rfl hop rfl rfl (by omega) rfl rfl (by omega) rfl rfl (by omega) (by omega) (by omega) (by omega) (by omega) (by omega) hO
      · have eY : dI v = (((((v % 67108864) % 4194304) % 262144) % 16384 : Nat) : Int) := eI.trans (by omega)
        have hd' : de v = 0 := by rw [hd, if_neg (by rw [eS, decide_eq_true_iff]; omega), if_neg (by rw [im, eL, eH, eY, decide_eq_true (by omega), decide_eq_true (by omega)]; decide)]
        rw [hd', at0_0, at0_0, at0_0, at0_0, at0_0, eD, eA, eB, eY]
        exact rdec_10ok w v (dO v) (sb (nm (dO v))) (shC (dO v)) ((v % 67108864 : Nat) : Int) (((v % 67108864) % 4194304 : Nat) : Int) ((((v % 67108864) % 4194304) % 262144 : Nat) : Int) (((((v % 67108864) % 4194304) % 262144) % 16384 : Nat) : Int) (((v % 67108864) / 4194304 : Nat) : Int) ((((v % 67108864) % 4194304) / 262144 : Nat) : Int) (((((v % 67108864) % 4194304) % 262144) / 16384 : Nat) : Int) hv' rfl rfl hop rfl rfl (by omega) rfl rfl (by omega) rfl rfl (by omega) (by omega) (by omega) (by omega) (by omega) (by omega) hO
    · rw [him, f, t] at hO
      have eD : dD v = (v % 67108864) / 4194304 := by rw [dD, f, dR, lD_2, pD_2, if_neg (by decide)]; omega
      have eA : dA v = ((v % 67108864) % 4194304) / 262144 := by rw [dA, f, dR, lA_2, pA_2, if_neg (by decide)]; omega
      have eB : dB v = 0 := by rw [dB, f, dR, lB_2, if_pos rfl]
      have eI := (show dI v = dF 2 1 v by rw [dI, f, t]).trans (dF_21 v)
      have eS : stray v = decide (v % 1 ≠ 0) := by rw [stray, f, pU_2]; cases v % 1 <;> rfl
      have eL : lo (dO v) = -131072 := by rw [lo, f, t]; rfl
      have eH : hi (dO v) = 131071 := by rw [hi, f, t]; rfl
      by_cases hx : ((v % 67108864) % 4194304) % 262144 < 131072
      · rw [if_neg (by omega)] at eI
        have eY : dI v = ((((v % 67108864) % 4194304) % 262144 : Nat) : Int) := eI.trans (by omega)
        have hd' : de v = 0 := by rw [hd, if_neg (by rw [eS, decide_eq_true_iff]; omega), if_neg (by rw [im, eL, eH, eY, decide_eq_true (by omega), decide_eq_true (by omega)]; decide)]
        rw [hd', at0_0, at0_0, at0_0, at0_0, at0_0, eD, eA, eB, eY]
        exact rdec_21lo w v (dO v) (sb (nm (dO v))) (shC (dO v)) ((v % 67108864 : Nat) : Int) (((v % 67108864) % 4194304 : Nat) : Int) ((((v % 67108864) % 4194304) % 262144 : Nat) : Int) (((v % 67108864) / 4194304 : Nat) : Int) ((((v % 67108864) % 4194304) / 262144 : Nat) : Int) hv' rfl rfl hop rfl rfl (by omega) rfl rfl (by omega) (by omega) (by omega) (by omega) (by omega) hO
      · rw [if_pos (by omega)] at eI
        have eY : dI v = ((((v % 67108864) % 4194304) % 262144 : Nat) : Int) - 262144 := eI.trans (by omega)
        have hd' : de v = 0 := by rw [hd, if_neg (by rw [eS, decide_eq_true_iff]; omega), if_neg (by rw [im, eL, eH, eY, decide_eq_true (by omega), decide_eq_true (by omega)]; decide)]
        rw [hd', at0_0, at0_0, at0_0, at0_0, at0_0, eD, eA, eB, eY]
        exact rdec_21hi w v (dO v) (sb (nm (dO v))) (shC (dO v)) ((v % 67108864 : Nat) : Int) (((v % 67108864) % 4194304 : Nat) : Int) ((((v % 67108864) % 4194304) % 262144 : Nat) : Int) (((v % 67108864) / 4194304 : Nat) : Int) ((((v % 67108864) % 4194304) / 262144 : Nat) : Int) hv' rfl rfl hop rfl rfl (by omega) rfl rfl (by omega) (by omega) (by omega) (by omega) (by omega) hO
    · rw [him, f, t] at hO
      have eD : dD v = (v % 67108864) / 4194304 := by rw [dD, f, dR, lD_2, pD_2, if_neg (by decide)]; omega
      have eA : dA v = ((v % 67108864) % 4194304) / 262144 := by rw [dA, f, dR, lA_2, pA_2, if_neg (by decide)]; omega
      have eB : dB v = 0 := by rw [dB, f, dR, lB_2, if_pos rfl]
      have eI := (show dI v = dF 2 2 v by rw [dI, f, t]).trans (dF_22 v)
      have eS : stray v = decide (v % 1 ≠ 0) := by rw [stray, f, pU_2]; cases v % 1 <;> rfl
      have eL : lo (dO v) = -131072 := by rw [lo, f, t]; rfl
      have eH : hi (dO v) = 131071 := by rw [hi, f, t]; rfl
      by_cases hx : ((v % 67108864) % 4194304) % 262144 < 131072
      · rw [if_neg (by omega)] at eI
        have eY : dI v = ((((v % 67108864) % 4194304) % 262144 : Nat) : Int) := eI.trans (by omega)
        have hd' : de v = 0 := by rw [hd, if_neg (by rw [eS, decide_eq_true_iff]; omega), if_neg (by rw [im, eL, eH, eY, decide_eq_true (by omega), decide_eq_true (by omega)]; decide)]
        rw [hd', at0_0, at0_0, at0_0, at0_0, at0_0, eD, eA, eB, eY]
        exact rdec_21lo w v (dO v) (sb (nm (dO v))) (shC (dO v)) ((v % 67108864 : Nat) : Int) (((v % 67108864) % 4194304 : Nat) : Int) ((((v % 67108864) % 4194304) % 262144 : Nat) : Int) (((v % 67108864) / 4194304 : Nat) : Int) ((((v % 67108864) % 4194304) / 262144 : Nat) : Int) hv' rfl rfl hop rfl rfl (by omega) rfl rfl (by omega) (by omega) (by omega) (by omega) (by omega) hO
      · rw [if_pos (by omega)] at eI
        have eY : dI v = ((((v % 67108864) % 4194304) % 262144 : Nat) : Int) - 262144 := eI.trans (by omega)
        have hd' : de v = 0 := by rw [hd, if_neg (by rw [eS, decide_eq_true_iff]; omega), if_neg (by rw [im, eL, eH, eY, decide_eq_true (by omega), decide_eq_true (by omega)]; decide)]
        rw [hd', at0_0, at0_0, at0_0, at0_0, at0_0, eD, eA, eB, eY]
        exact rdec_21hi w v (dO v) (sb (nm (dO v))) (shC (dO v)) ((v % 67108864 : Nat) : Int) (((v % 67108864) % 4194304 : Nat) : Int) ((((v % 67108864) % 4194304) % 262144 : Nat) : Int) (((v % 67108864) / 4194304 : Nat) : Int) ((((v % 67108864) % 4194304) / 262144 : Nat) : Int) hv' rfl rfl hop rfl rfl (by omega) rfl rfl (by omega) (by omega) (by omega) (by omega) (by omega) hO
    · rw [him, f, t] at hO
      have eD : dD v = (v % 67108864) / 4194304 := by rw [dD, f, dR, lD_2, pD_2, if_neg (by decide)]; omega
      have eA : dA v = ((v % 67108864) % 4194304) / 262144 := by rw [dA, f, dR, lA_2, pA_2, if_neg (by decide)]; omega
      have eB : dB v = 0 := by rw [dB, f, dR, lB_2, if_pos rfl]
      have eI := (show dI v = dF 2 3 v by rw [dI, f, t]).trans (dF_23 v)
      have eS : stray v = decide (v % 1 ≠ 0) := by rw [stray, f, pU_2]; cases v % 1 <;> rfl
      have eL : lo (dO v) = 0 := by rw [lo, f, t]; rfl
      have eH : hi (dO v) = 262143 := by rw [hi, f, t]; rfl
      have eY : dI v = ((((v % 67108864) % 4194304) % 262144 : Nat) : Int) := eI.trans (by omega)
      have hd' : de v = 0 := by rw [hd, if_neg (by rw [eS, decide_eq_true_iff]; omega), if_neg (by rw [im, eL, eH, eY, decide_eq_true (by omega), decide_eq_true (by omega)]; decide)]
      rw [hd', at0_0, at0_0, at0_0, at0_0, at0_0, eD, eA, eB, eY]
      exact rdec_23ok w v (dO v) (sb (nm (dO v))) (shC (dO v)) ((v % 67108864 : Nat) : Int) (((v % 67108864) % 4194304 : Nat) : Int) ((((v % 67108864) % 4194304) % 262144 : Nat) : Int) (((v % 67108864) / 4194304 : Nat) : Int) ((((v % 67108864) % 4194304) / 262144 : Nat) : Int) hv' rfl rfl hop rfl rfl (by omega) rfl rfl (by omega) (by omega) (by omega) (by omega) (by omega) hO
    · rw [him, f, t] at hO
      have eD : dD v = (v % 67108864) / 4194304 := by rw [dD, f, dR, lD_2, pD_2, if_neg (by decide)]; omega
      have eA : dA v = ((v % 67108864) % 4194304) / 262144 := by rw [dA, f, dR, lA_2, pA_2, if_neg (by decide)]; omega
      have eB : dB v = 0 := by rw [dB, f, dR, lB_2, if_pos rfl]
      have eI := (show dI v = dF 2 4 v by rw [dI, f, t]).trans (dF_24 v)
      have eS : stray v = decide (v % 1 ≠ 0) := by rw [stray, f, pU_2]; cases v % 1 <;> rfl
      have eL : lo (dO v) = 0 := by rw [lo, f, t]; rfl
      have eH : hi (dO v) = 31 := by rw [hi, f, t]; rfl
      by_cases hx : 31 < ((v % 67108864) % 4194304) % 262144
      · have hd' : de v = 102 := by rw [hd, if_neg (by rw [eS, decide_eq_true_iff]; omega), if_pos (by rw [im, eL, eH, eI, decide_eq_true (by omega), decide_eq_false (by omega)]; rfl)]
        rw [hd']
        exact rdec_24bad w v (dO v) (sb (nm (dO v))) (shC (dO v)) ((v % 67108864 : Nat) : Int) (((v % 67108864) % 4194304 : Nat) : Int) ((((v % 67108864) % 4194304) % 262144 : Nat) : Int) (((v % 67108864) / 4194304 : Nat) : Int) ((((v % 67108864) % 4194304) / 262144 : Nat) : Int) hv' rfl rfl hop rfl rfl (by omega) rfl rfl (by omega) (by omega) (by omega) (by omega) (by omega) hO
      · have eY : dI v = ((((v % 67108864) % 4194304) % 262144 : Nat) : Int) := eI.trans (by omega)
        have hd' : de v = 0 := by rw [hd, if_neg (by rw [eS, decide_eq_true_iff]; omega), if_neg (by rw [im, eL, eH, eY, decide_eq_true (by omega), decide_eq_true (by omega)]; decide)]
        rw [hd', at0_0, at0_0, at0_0, at0_0, at0_0, eD, eA, eB, eY]
        exact rdec_24ok w v (dO v) (sb (nm (dO v))) (shC (dO v)) ((v % 67108864 : Nat) : Int) (((v % 67108864) % 4194304 : Nat) : Int) ((((v % 67108864) % 4194304) % 262144 : Nat) : Int) (((v % 67108864) / 4194304 : Nat) : Int) ((((v % 67108864) % 4194304) / 262144 : Nat) : Int) hv' rfl rfl hop rfl rfl (by omega) rfl rfl (by omega) (by omega) (by omega) (by omega) (by omega) hO
    · rw [him, f, t] at hO
      have eD : dD v = 0 := by rw [dD, f, dR, lD_3, if_pos rfl]
      have eA : dA v = (v % 67108864) / 4194304 := by rw [dA, f, dR, lA_3, pA_3, if_neg (by decide)]; omega
      have eB : dB v = ((v % 67108864) % 4194304) / 262144 := by rw [dB, f, dR, lB_3, pB_3, if_neg (by decide)]; omega
      have eI := (show dI v = dF 3 1 v by rw [dI, f, t]).trans (dF_31 v)
      have eS : stray v = decide (v % 1 ≠ 0) := by rw [stray, f, pU_3]; cases v % 1 <;> rfl
      have eL : lo (dO v) = -131072 := by rw [lo, f, t]; rfl
      have eH : hi (dO v) = 131071 := by rw [hi, f, t]; rfl
      by_cases hx : ((v % 67108864) % 4194304) % 262144 < 131072
      · rw [if_neg (by omega)] at eI
        have eY : dI v = ((((v % 67108864) % 4194304) % 262144 : Nat) : Int) := eI.trans (by omega)
        have hd' : de v = 0 := by rw [hd, if_neg (by rw [eS, decide_eq_true_iff]; omega), if_neg (by rw [im, eL, eH, eY, decide_eq_true (by omega), decide_eq_true (by omega)]; decide)]
        rw [hd', at0_0, at0_0, at0_0, at0_0, at0_0, eD, eA, eB, eY]
        exact rdec_31lo w v (dO v) (sb (nm (dO v))) (shC (dO v)) ((v % 67108864 : Nat) : Int) (((v % 67108864) % 4194304 : Nat) : Int) ((((v % 67108864) % 4194304) % 262144 : Nat) : Int) (((v % 67108864) / 4194304 : Nat) : Int) ((((v % 67108864) % 4194304) / 262144 : Nat) : Int) hv' rfl rfl hop rfl rfl (by omega) rfl rfl (by omega) (by omega) (by omega) (by omega) (by omega) hO
      · rw [if_pos (by omega)] at eI
        have eY : dI v = ((((v % 67108864) % 4194304) % 262144 : Nat) : Int) - 262144 := eI.trans (by omega)
        have hd' : de v = 0 := by rw [hd, if_neg (by rw [eS, decide_eq_true_iff]; omega), if_neg (by rw [im, eL, eH, eY, decide_eq_true (by omega), decide_eq_true (by omega)]; decide)]
        rw [hd', at0_0, at0_0, at0_0, at0_0, at0_0, eD, eA, eB, eY]
        exact rdec_31hi w v (dO v) (sb (nm (dO v))) (shC (dO v)) ((v % 67108864 : Nat) : Int) (((v % 67108864) % 4194304 : Nat) : Int) ((((v % 67108864) % 4194304) % 262144 : Nat) : Int) (((v % 67108864) / 4194304 : Nat) : Int) ((((v % 67108864) % 4194304) / 262144 : Nat) : Int) hv' rfl rfl hop rfl rfl (by omega) rfl rfl (by omega) (by omega) (by omega) (by omega) (by omega) hO
    · rw [him, f, t] at hO
      have eD : dD v = 0 := by rw [dD, f, dR, lD_3, if_pos rfl]
      have eA : dA v = (v % 67108864) / 4194304 := by rw [dA, f, dR, lA_3, pA_3, if_neg (by decide)]; omega
      have eB : dB v = ((v % 67108864) % 4194304) / 262144 := by rw [dB, f, dR, lB_3, pB_3, if_neg (by decide)]; omega
      have eI := (show dI v = dF 3 2 v by rw [dI, f, t]).trans (dF_32 v)
      have eS : stray v = decide (v % 1 ≠ 0) := by rw [stray, f, pU_3]; cases v % 1 <;> rfl
      have eL : lo (dO v) = -131072 := by rw [lo, f, t]; rfl
      have eH : hi (dO v) = 131071 := by rw [hi, f, t]; rfl
      by_cases hx : ((v % 67108864) % 4194304) % 262144 < 131072
      · rw [if_neg (by omega)] at eI
        have eY : dI v = ((((v % 67108864) % 4194304) % 262144 : Nat) : Int) := eI.trans (by omega)
        have hd' : de v = 0 := by rw [hd, if_neg (by rw [eS, decide_eq_true_iff]; omega), if_neg (by rw [im, eL, eH, eY, decide_eq_true (by omega), decide_eq_true (by omega)]; decide)]
        rw [hd', at0_0, at0_0, at0_0, at0_0, at0_0, eD, eA, eB, eY]
        exact rdec_31lo w v (dO v) (sb (nm (dO v))) (shC (dO v)) ((v % 67108864 : Nat) : Int) (((v % 67108864) % 4194304 : Nat) : Int) ((((v % 67108864) % 4194304) % 262144 : Nat) : Int) (((v % 67108864) / 4194304 : Nat) : Int) ((((v % 67108864) % 4194304) / 262144 : Nat) : Int) hv' rfl rfl hop rfl rfl (by omega) rfl rfl (by omega) (by omega) (by omega) (by omega) (by omega) hO
      · rw [if_pos (by omega)] at eI
        have eY : dI v = ((((v % 67108864) % 4194304) % 262144 : Nat) : Int) - 262144 := eI.trans (by omega)
        have hd' : de v = 0 := by rw [hd, if_neg (by rw [eS, decide_eq_true_iff]; omega), if_neg (by rw [im, eL, eH, eY, decide_eq_true (by omega), decide_eq_true (by omega)]; decide)]
        rw [hd', at0_0, at0_0, at0_0, at0_0, at0_0, eD, eA, eB, eY]
        exact rdec_31hi w v (dO v) (sb (nm (dO v))) (shC (dO v)) ((v % 67108864 : Nat) : Int) (((v % 67108864) % 4194304 : Nat) : Int) ((((v % 67108864) % 4194304) % 262144 : Nat) : Int) (((v % 67108864) / 4194304 : Nat) : Int) ((((v % 67108864) % 4194304) / 262144 : Nat) : Int) hv' rfl rfl hop rfl rfl (by omega) rfl rfl (by omega) (by omega) (by omega) (by omega) (by omega) hO
    · rw [him, f, t] at hO
      have eD : dD v = (v % 67108864) / 4194304 := by rw [dD, f, dR, lD_4, pD_4, if_neg (by decide)]; omega
      have eA : dA v = 0 := by rw [dA, f, dR, lA_4, if_pos rfl]
      have eB : dB v = 0 := by rw [dB, f, dR, lB_4, if_pos rfl]
      have eI := (show dI v = dF 4 1 v by rw [dI, f, t]).trans (dF_41 v)
      have eS : stray v = decide (v % 1 ≠ 0) := by rw [stray, f, pU_4]; cases v % 1 <;> rfl
      have eL : lo (dO v) = -2097152 := by rw [lo, f, t]; rfl
      have eH : hi (dO v) = 2097151 := by rw [hi, f, t]; rfl
      by_cases hx : (v % 67108864) % 4194304 < 2097152
      · rw [if_neg (by omega)] at eI
        have eY : dI v = (((v % 67108864) % 4194304 : Nat) : Int) := eI.trans (by omega)
        have hd' : de v = 0 := by rw [hd, if_neg (by rw [eS, decide_eq_true_iff]; omega), if_neg (by rw [im, eL, eH, eY, decide_eq_true (by omega), decide_eq_true (by omega)]; decide)]
        rw [hd', at0_0, at0_0, at0_0, at0_0, at0_0, eD, eA, eB, eY]
        exact rdec_41lo w v (dO v) (sb (nm (dO v))) (shC (dO v)) ((v % 67108864 : Nat) : Int) (((v % 67108864) % 4194304 : Nat) : Int) (((v % 67108864) / 4194304 : Nat) : Int) hv' rfl rfl hop rfl rfl (by omega) (by omega) (by omega) (by omega) hO
      · rw [if_pos (by omega)] at eI
        have eY : dI v = (((v % 67108864) % 4194304 : Nat) : Int) - 4194304 := eI.trans (by omega)
        have hd' : de v = 0 := by rw [hd, if_neg (by rw [eS, decide_eq_true_iff]; omega), if_neg (by rw [im, eL, eH, eY, decide_eq_true (by omega), decide_eq_true (by omega)]; decide)]
        rw [hd', at0_0, at0_0, at0_0, at0_0, at0_0, eD, eA, eB, eY]
        exact rdec_41hi w v (dO v) (sb (nm (dO v))) (shC (dO v)) ((v % 67108864 : Nat) : Int) (((v % 67108864) % 4194304 : Nat) : Int) (((v % 67108864) / 4194304 : Nat) : Int) hv' rfl rfl hop rfl rfl (by omega) (by omega) (by omega) (by omega) hO
    · rw [him, f, t] at hO
      have eD : dD v = (v % 67108864) / 4194304 := by rw [dD, f, dR, lD_4, pD_4, if_neg (by decide)]; omega
      have eA : dA v = 0 := by rw [dA, f, dR, lA_4, if_pos rfl]
      have eB : dB v = 0 := by rw [dB, f, dR, lB_4, if_pos rfl]
      have eI := (show dI v = dF 4 3 v by rw [dI, f, t]).trans (dF_43 v)
      have eS : stray v = decide (v % 1 ≠ 0) := by rw [stray, f, pU_4]; cases v % 1 <;> rfl
      have eL : lo (dO v) = 0 := by rw [lo, f, t]; rfl
      have eH : hi (dO v) = 262143 := by rw [hi, f, t]; rfl
      by_cases hx : 262143 < (v % 67108864) % 4194304
      · have hd' : de v = 102 := by rw [hd, if_neg (by rw [eS, decide_eq_true_iff]; omega), if_pos (by rw [im, eL, eH, eI, decide_eq_true (by omega), decide_eq_false (by omega)]; rfl)]
        rw [hd']
        exact rdec_43bad w v (dO v) (sb (nm (dO v))) (shC (dO v)) ((v % 67108864 : Nat) : Int) (((v % 67108864) % 4194304 : Nat) : Int) (((v % 67108864) / 4194304 : Nat) : Int) hv' rfl rfl hop rfl rfl (by omega) (by omega) (by omega) (by omega) hO
      · have eY : dI v = (((v % 67108864) % 4194304 : Nat) : Int) := eI.trans (by omega)
        have hd' : de v = 0 := by rw [hd, if_neg (by rw [eS, decide_eq_true_iff]; omega), if_neg (by rw [im, eL, eH, eY, decide_eq_true (by omega), decide_eq_true (by omega)]; decide)]
        rw [hd', at0_0, at0_0, at0_0, at0_0, at0_0, eD, eA, eB, eY]
        exact rdec_43ok w v (dO v) (sb (nm (dO v))) (shC (dO v)) ((v % 67108864 : Nat) : Int) (((v % 67108864) % 4194304 : Nat) : Int) (((v % 67108864) / 4194304 : Nat) : Int) hv' rfl rfl hop rfl rfl (by omega) (by omega) (by omega) (by omega) hO
    · rw [him, f, t] at hO
      have eD : dD v = (v % 67108864) / 4194304 := by rw [dD, f, dR, lD_5, pD_5, if_neg (by decide)]; omega
      have eA : dA v = 0 := by rw [dA, f, dR, lA_5, if_pos rfl]
      have eB : dB v = 0 := by rw [dB, f, dR, lB_5, if_pos rfl]
      have eI := (show dI v = dF 5 0 v by rw [dI, f, t]).trans (dF_50 v)
      have eS : stray v = decide (v % 4194304 ≠ 0) := by rw [stray, f, pU_5]; cases v % 4194304 <;> rfl
      have eL : lo (dO v) = 0 := by rw [lo, f, t]; rfl
      have eH : hi (dO v) = 0 := by rw [hi, f, t]; rfl
      by_cases hx : 1 ≤ (v % 67108864) % 4194304
      · have hd' : de v = 103 := by rw [hd, if_pos (by rw [eS, decide_eq_true_iff]; omega)]
        rw [hd']
        exact rdec_50stray w v (dO v) (sb (nm (dO v))) (shC (dO v)) ((v % 67108864 : Nat) : Int) (((v % 67108864) % 4194304 : Nat) : Int) (((v % 67108864) / 4194304 : Nat) : Int) hv' rfl rfl hop rfl rfl (by omega) (by omega) (by omega) (by omega) hO
      · have eY : dI v = (((v % 67108864) % 4194304 : Nat) : Int) := eI.trans (by omega)
        have hd' : de v = 0 := by rw [hd, if_neg (by rw [eS, decide_eq_true_iff]; omega), if_neg (by rw [im, eL, eH, eY, decide_eq_true (by omega), decide_eq_true (by omega)]; decide)]
        rw [hd', at0_0, at0_0, at0_0, at0_0, at0_0, eD, eA, eB, eY]
        exact rdec_50ok w v (dO v) (sb (nm (dO v))) (shC (dO v)) ((v % 67108864 : Nat) : Int) (((v % 67108864) % 4194304 : Nat) : Int) (((v % 67108864) / 4194304 : Nat) : Int) hv' rfl rfl hop rfl rfl (by omega) (by omega) (by omega) (by omega) hO
    · rw [him, f, t] at hO
      have eD : dD v = 0 := by rw [dD, f, dR, lD_6, if_pos rfl]
      have eA : dA v = (v % 67108864) / 4194304 := by rw [dA, f, dR, lA_6, pA_6, if_neg (by decide)]; omega
      have eB : dB v = 0 := by rw [dB, f, dR, lB_6, if_pos rfl]
      have eI := (show dI v = dF 6 0 v by rw [dI, f, t]).trans (dF_60 v)
      have eS : stray v = decide (v % 4194304 ≠ 0) := by rw [stray, f, pU_6]; cases v % 4194304 <;> rfl
      have eL : lo (dO v) = 0 := by rw [lo, f, t]; rfl
      have eH : hi (dO v) = 0 := by rw [hi, f, t]; rfl
      by_cases hx : 1 ≤ (v % 67108864) % 4194304
      · have hd' : de v = 103 := by rw [hd, if_pos (by rw [eS, decide_eq_true_iff]; omega)]
        rw [hd']
        exact rdec_60stray w v (dO v) (sb (nm (dO v))) (shC (dO v)) ((v % 67108864 : Nat) : Int) (((v % 67108864) % 4194304 : Nat) : Int) (((v % 67108864) / 4194304 : Nat) : Int) hv' rfl rfl hop rfl rfl (by omega) (by omega) (by omega) (by omega) hO
      · have eY : dI v = (((v % 67108864) % 4194304 : Nat) : Int) := eI.trans (by omega)
        have hd' : de v = 0 := by rw [hd, if_neg (by rw [eS, decide_eq_true_iff]; omega), if_neg (by rw [im, eL, eH, eY, decide_eq_true (by omega), decide_eq_true (by omega)]; decide)]
        rw [hd', at0_0, at0_0, at0_0, at0_0, at0_0, eD, eA, eB, eY]
        exact rdec_60ok w v (dO v) (sb (nm (dO v))) (shC (dO v)) ((v % 67108864 : Nat) : Int) (((v % 67108864) % 4194304 : Nat) : Int) (((v % 67108864) / 4194304 : Nat) : Int) hv' rfl rfl hop rfl rfl (by omega) (by omega) (by omega) (by omega) hO
    · rw [him, f, t] at hO
      have eD : dD v = 0 := by rw [dD, f, dR, lD_7, if_pos rfl]
      have eA : dA v = 0 := by rw [dA, f, dR, lA_7, if_pos rfl]
      have eB : dB v = 0 := by rw [dB, f, dR, lB_7, if_pos rfl]
      have eI := (show dI v = dF 7 3 v by rw [dI, f, t]).trans (dF_73 v)
      have eS : stray v = decide (v % 1 ≠ 0) := by rw [stray, f, pU_7]; cases v % 1 <;> rfl
      have eL : lo (dO v) = 0 := by rw [lo, f, t]; rfl
      have eH : hi (dO v) = 262143 := by rw [hi, f, t]; rfl
      by_cases hx : 262143 < v % 67108864
      · have hd' : de v = 102 := by rw [hd, if_neg (by rw [eS, decide_eq_true_iff]; omega), if_pos (by rw [im, eL, eH, eI, decide_eq_true (by omega), decide_eq_false (by omega)]; rfl)]
        rw [hd']
        exact rdec_73bad w v (dO v) (sb (nm (dO v))) (shC (dO v)) ((v % 67108864 : Nat) : Int)  hv' rfl rfl hop  (by omega) (by omega) hO
      · have eY : dI v = ((v % 67108864 : Nat) : Int) := eI.trans (by omega)
        have hd' : de v = 0 := by rw [hd, if_neg (by rw [eS, decide_eq_true_iff]; omega), if_neg (by rw [im, eL, eH, eY, decide_eq_true (by omega), decide_eq_true (by omega)]; decide)]
        rw [hd', at0_0, at0_0, at0_0, at0_0, at0_0, eD, eA, eB, eY]
        exact rdec_73ok w v (dO v) (sb (nm (dO v))) (shC (dO v)) ((v % 67108864 : Nat) : Int)  hv' rfl rfl hop  (by omega) (by omega) hO
    · rw [him, f, t] at hO
      have eD : dD v = 0 := by rw [dD, f, dR, lD_8, if_pos rfl]
      have eA : dA v = 0 := by rw [dA, f, dR, lA_8, if_pos rfl]
      have eB : dB v = 0 := by rw [dB, f, dR, lB_8, if_pos rfl]
      have eI := (show dI v = dF 8 0 v by rw [dI, f, t]).trans (dF_80 v)
      have eS : stray v = decide (v % 67108864 ≠ 0) := by rw [stray, f, pU_8]; cases v % 67108864 <;> rfl
      have eL : lo (dO v) = 0 := by rw [lo, f, t]; rfl
      have eH : hi (dO v) = 0 := by rw [hi, f, t]; rfl
      by_cases hx : 1 ≤ v % 67108864
      · have hd' : de v = 103 := by rw [hd, if_pos (by rw [eS, decide_eq_true_iff]; omega)]
        rw [hd']
        exact rdec_80stray w v (dO v) (sb (nm (dO v))) (shC (dO v)) ((v % 67108864 : Nat) : Int)  hv' rfl rfl hop  (by omega) (by omega) hO
      · have eY : dI v = ((v % 67108864 : Nat) : Int) := eI.trans (by omega)
        have hd' : de v = 0 := by rw [hd, if_neg (by rw [eS, decide_eq_true_iff]; omega), if_neg (by rw [im, eL, eH, eY, decide_eq_true (by omega), decide_eq_true (by omega)]; decide)]
        rw [hd', at0_0, at0_0, at0_0, at0_0, at0_0, eD, eA, eB, eY]
        exact rdec_80ok w v (dO v) (sb (nm (dO v))) (shC (dO v)) ((v % 67108864 : Nat) : Int)  hv' rfl rfl hop  (by omega) (by omega) hO

end Go.Proofs.YtgofjmhdgmfgfaaGreatDoor
