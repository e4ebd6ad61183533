import Derived.Test.YtoagdcdmahpglaaDoorTk
namespace Go.Proofs.YtoagdcdmahpglaaDoor
open Go.ChangeShapes Go.WideShapes Go.ChangeAt Go.RowKit
set_option linter.unusedVariables false

set_option maxHeartbeats 4000000 in
set_option maxRecDepth 10000 in
theorem known_any (w : World) (hP : Ent.Pt w) : Calls Tryd.prog 9 #[] w fun e w' => e = .returned (.bool true) ∧ Chg w w' (fun _ => False) := by
  have hF := fresh_any w 8 2 2 (by omega) (by omega) (by omega)
  rw [show (((8 : Nat)) : Int) = 8 from rfl, show (((2 : Nat)) : Int) = 2 from rfl] at hF
  have HP : Hid (Ent.Pt w) := hP
  clear hP
  go_enter Tryd.func9, Tryd.ntmps9
  go_wp2_with fail
  go_at_call 10
  refine hF.mono ?_
  rintro e w1 ⟨B, M, A, rfl, m1, a1, b1, b2, b3, c1⟩
  clear hF
  have hN := snew_ok w1 A B M 8 2 2 0 (fun _ => none) (fun _ => 0) a1 m1 (notMf m1 a1.box (by decide) (by decide)) (by omega) (by omega)
  have K1 : Hid (w.heap.size ≤ B ∧ w.heap.size ≤ M ∧ w.heap.size ≤ A ∧ Chg w w1 (fun _ => False)) := ⟨b1, b2, b3, c1⟩
  clear m1 a1 b1 b2 b3 c1
  go_wp2_with fail
  go_at_call 11
  refine hN.mono ?_
  rintro e w2 ⟨S, rfl, s2, hS2, a2, f2, m2, c2, gr2⟩
  clear hN
  have e8 : 4096 * (2 + 0) = 8192 := rfl
  rw [e8] at s2
  have m2' : IsM w2 B M 8 f2 z8 := m2
  clear m2
  have sp2 : Sp w2 S A 8192 B M 8 2 2 1 false f2 z8 := ⟨s2, a2, m2', by omega, by omega⟩
  obtain ⟨k1, k2, k3, k4⟩ := K1.out
  have hch2 : Chg w w2 (fun _ => False) := k4.trans c2 (fun q hq e => by
    rcases e with e | e | e | ⟨p, e⟩
    · omega
    · omega
    · omega
    · cases e)
  have hf2 : ∀ j x, f2 j = some x → w.heap.size ≤ x := fun j x e => by
    rcases gr2 j x e with e | e
    · cases e
    · exact Nat.le_trans k4.size e
  -- the range
  have gR := heap_alloc_new w2 (.cells #[.int .u32 4194304, .int .u32 20480, .int .i64 1, .int .u8 1] 39)
  have cR : Chg w2 (w2.alloc (.cells #[.int .u32 4194304, .int .u32 20480, .int .i64 1, .int .u8 1] 39)) (fun _ => False) := (Chg.refl _ _).alloc _
  obtain ⟨z0, z1, z2, z3⟩ := cells4 gR
  have hRg : RgsIn (w2.alloc (.cells #[.int .u32 4194304, .int .u32 20480, .int .i64 1, .int .u8 1] 39)) (some ⟨w2.heap.size, 0, none⟩) exL := by
    refine ⟨by simp [exL], ?_, .inr ⟨w2.heap.size, 0, rfl, ?_⟩⟩
    · intro r hr
      simp [exL] at hr
      subst hr
      exact ⟨by decide, by decide, by decide, by decide⟩
    · intro i hi
      simp [exL] at hi
      subst hi
      exact ⟨z0, z1, z2, z3⟩
  have hMp := map_any _ S A 8192 B M 8 2 2 1 false f2 z8 (sp2.other cR (fun _ _ x => x)) (some ⟨w2.heap.size, 0, none⟩) 1 exL hRg (fun _ => by rw [exL_pgs]; simp) (fun k hk => okW_iff.2 ⟨by omega, by omega⟩) (fun q ⟨_, o, e⟩ hh => by
    cases e
    have := sp2.lt _ hh
    omega)
  rw [show exL.length = 1 from rfl] at hMp
  have K2 : Hid (Chg w w2 (fun _ => False) ∧ (∀ j x, f2 j = some x → w.heap.size ≤ x) ∧ w.heap.size ≤ B ∧ w.heap.size ≤ M ∧ w.heap.size ≤ A) := ⟨hch2, hf2, k1, k2, k3⟩
  clear s2 hS2 a2 c2 gr2 e8 m2' sp2 k1 k2 k3 k4 hch2 hf2 gR cR z0 z1 z2 z3 hRg
  go_wp2_with fail
  go_at_call 13
  refine hMp.mono ?_
  rintro e w4 ⟨r, X, rfl, hR, hE⟩
  clear hMp
  obtain ⟨rfl, rfl⟩ := map_ok exL_may exL_pl (by decide) hR
  obtain ⟨f4, sp4, gr4, ch4⟩ := hE
  rw [ex8_eq] at sp4
  have hw4 : Chg w w4 (fun _ => False) := (K2.out.1.alloc _).trans ch4 (fun q hq e => by
    have := K2.out
    rcases e with e | e | e | ⟨p, e⟩
    · omega
    · omega
    · omega
    · have := K2.out.2.1 p q e; omega)
  have hLd := load_ok w4 B M 8 f4 ex8 sp4.m 8196 4 (by omega) (by omega) (by omega)
  rw [ex8_root] at hLd
  have hRt := root_any w4 S A 8192 sp4.s
  have hWk := walk_any w4 (HP.out.kp hw4) B M 8 f4 ex8 sp4.m 8192 4194308 (by omega) (by omega) 1 ⟨by omega, by omega⟩
  rw [ex8_walk] at hWk
  simp only at hWk
  rw [show (((8196 : Nat)) : Int) = 8196 from rfl, show (((4 : Nat)) : Int) = 4 from rfl, show (((12305 : Nat)) : Int) = 12305 from rfl] at hLd
  rw [show (((8192 : Nat)) : Int) = 8192 from rfl] at hRt hWk
  rw [show (((4194308 : Nat)) : Int) = 4194308 from rfl, show (((20484 : Nat)) : Int) = 20484 from rfl] at hWk
  have K4 : Hid (Chg w w4 (fun _ => False)) := hw4
  clear hw4 sp4 gr4 ch4 hR
  go_wp2_with (first | (go_at_call 37; refine hLd.mono ?_; rintro e w5 ⟨rfl, hw5⟩; rw [hw5]; clear hw5 w5) | (go_at_call 17; refine hRt.mono ?_; rintro e w5 ⟨rfl, hw5⟩; rw [hw5]; clear hw5 w5))
  go_at_call 16
  refine hWk.mono ?_
  rintro e w5 ⟨sv, rfl, hSo, c5⟩
  clear hWk hLd hRt
  rcases hSo with ⟨h, _⟩ | ⟨g, rfl, hg, gS⟩
  · cases h
  have gL := heap_alloc_new w5 (.cells #[.int .u32 8196, .int .u32 12305, .int .u32 12288, .int .u32 20483] 97)
  have gS' := Ent.al_old (.cells #[.int .u32 8196, .int .u32 12305, .int .u32 12288, .int .u32 20483] 97) gS
  have q1 : SAt (w5.alloc (.cells #[.int .u32 8196, .int .u32 12305, .int .u32 12288, .int .u32 20483] 97)) g [(8196, 12305), (12288, 20483)] := by
    intro i hi
    simp at hi
    have hc := cells_at gS'
    rcases (by omega : i = 0 ∨ i = 1) with rfl | rfl
    · exact ⟨by rw [(hc 0).1]; rfl, by rw [(hc 1).1]; rfl⟩
    · exact ⟨by rw [(hc 2).1]; rfl, by rw [(hc 3).1]; rfl⟩
  have q2 : SAt (w5.alloc (.cells #[.int .u32 8196, .int .u32 12305, .int .u32 12288, .int .u32 20483] 97)) w5.heap.size [(8196, 12305), (12288, 20483)] := by
    intro i hi
    simp at hi
    have hc := cells_at gL
    rcases (by omega : i = 0 ∨ i = 1) with rfl | rfl
    · exact ⟨by rw [(hc 0).1]; rfl, by rw [(hc 1).1]; rfl⟩
    · exact ⟨by rw [(hc 2).1]; rfl, by rw [(hc 3).1]; rfl⟩
  have hSm := sameSteps_eq _ g w5.heap.size 2 2 _ q1 q2 (by simp) (by simp) (by simp)
  rw [show ([(8196, 12305), (12288, 20483)] : List (Nat × Nat)).length = 2 from rfl] at hSm ⊢
  have K5 : Hid (Chg w w5 (fun _ => False)) := K4.out.tr c5
  clear gL gS gS' q1 q2 c5 hg
  go_wp2_with fail
  go_at_call 38
  refine hSm.mono ?_
  rintro e w6 ⟨rfl, c6⟩
  have K6 : Hid (Chg w w6 (fun _ => False)) := (K5.out.alloc _).tr c6
  clear hSm c6
  go_wp2
  go_ret
  exact ⟨rfl, K6.out⟩
end Go.Proofs.YtoagdcdmahpglaaDoor
