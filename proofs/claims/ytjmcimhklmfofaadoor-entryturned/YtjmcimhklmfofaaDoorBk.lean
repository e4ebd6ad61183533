import Derived.Test.YtjmcimhklmfofaaDoorKn
namespace Go.Proofs.YtjmcimhklmfofaaDoor
open Go.ChangeShapes Go.WideShapes Go.ChangeAt Go.RowKit
set_option linter.unusedVariables false

/-- What holds of an entry that may be: its word, its text. -/
theorem valid_calls {k : Int} {p f : Nat} (h : ck k p f = 0) : ∃ q : ByteArray, q.toList.isEmpty = false ∧
    (∀ V, Calls Tryd.prog 11 #[.agg #[.int .i64 k, .int .u8 p, .int .u32 f]] V fun e w' => e = .returned (.tuple #[.int .u32 (wd k p f : Nat), .int .i64 0]) ∧ Kp V w') ∧
    (∀ V, Calls Tryd.prog 10 #[.int .u32 (wd k p f : Nat)] V fun e w' => e = .returned (.tuple #[.agg #[.int .i64 k, .int .u8 p, .int .u32 f], .int .i64 0]) ∧ Kp V w') ∧
    (∀ V, Gw V → Calls Tryd.prog 12 #[.agg #[.int .i64 k, .int .u8 p, .int .u32 f]] V fun e w' => e = .returned (.string q) ∧ Kp V w') ∧
    (∀ V, Gw V → Calls Tryd.prog 13 #[.string q] V fun e w' => e = .returned (.tuple #[.agg #[.int .i64 k, .int .u8 p, .int .u32 f], .int .i64 0]) ∧ Kp V w') := by
  have hp : p < 256 := by rcases valid_cases h with ⟨_, rfl, _⟩ | ⟨_, h, _⟩ | ⟨_, rfl, _⟩ <;> omega
  refine ⟨⟨(tx k p f).toArray⟩, ?_, ?_, ?_, ?_, ?_⟩
  · rw [ByteArray.toList_eq]
    cases e : tx k p f with
    | nil => exact absurd e (tx_ne h)
    | cons a l => rfl
  · intro V
    have := Encode_any V k p f hp
    rwa [show ew k p f = ((wd k p f : Nat) : Int) by simp [ew, h], h] at this
  · intro V
    have hl := wd_lt h
    have := Decode_any V (wd k p f) (by omega)
    obtain ⟨d1, d2, d3, d4⟩ := dec_enc h
    have hd : de (wd k p f) = 0 := de_of d1 (by rw [d2, d3, d4]; exact h)
    rw [hd, d2, d3, d4] at this
    simpa [at0] using this
  · intro V hV
    exact Show_any V hV.gl k p f hp
  · intro V hV
    have hs : (tx k p f).length ≤ 7 := by
      have e : tx k p f = txv k p f := by simp [tx, h]
      rw [e]
      rcases valid_cases h with ⟨rfl, _, _⟩ | ⟨rfl, _, _⟩ | ⟨rfl, _, _⟩ <;> simp [txv, hd3, fr]
    have := Read_any ⟨(tx k p f).toArray⟩ V hV.gl hV.es (by show (tx k p f).toArray.size ≤ _; simp; omega)
    obtain ⟨l1, l2, l3⟩ := lk_tx h
    simp only at this
    rw [rde_tx h, l1, l2, l3] at this
    simpa [EnE, at0] using this

set_option maxRecDepth 100000 in
set_option maxHeartbeats 4000000 in
theorem back_walk (w : World) (hG : Gw w) (v : Nat) (hv : v < 4294967296) : Calls Tryd.prog 3 #[.int .u32 v] w fun e w' => e = .returned (.bool true) ∧ Kp w w' := by
  have hK := known_any w hG
  have heq := eql27
  have hrf := sameE_refl
  by_cases hd : de v = 0
  · obtain ⟨h1, h2⟩ := de_zero hd
    obtain ⟨q, hq, cE, cD, cS, cR⟩ := valid_calls h2
    rw [enc_dec h1 h2] at cE cD
    generalize dk v = k at *
    generalize dp v = p at *
    generalize df v = f at *
    clear hd h1 h2
    have gG : ∀ V, Kp w V → Gw V := fun V hV => hG.kp hV
    go_enter Tryd.func3, Tryd.ntmps3
    go_wp2_with (go_at_call 9; refine hK.mono ?_; rintro e w1 ⟨rfl, k1⟩)
    go_wp2_with (go_at_call 10; refine (cD _).mono ?_; rintro e w2 ⟨rfl, k2⟩; have kk2 : Kp w w2 := Kp.trans k1 k2)
    have g2 := heap_alloc_new w2 (.cells #[.int .i64 k, .int .u8 p, .int .u32 f] 27)
    go_wp2_with (go_at_call 11; refine (cE _).mono ?_; rintro e w3 ⟨rfl, k3⟩; have kk3 : Kp w w3 := Kp.trans (kk2.alloc _) k3; have g3 := Kp.heap k3 g2; obtain ⟨c0, c1, c2, _, _, _⟩ := cells3 g3)
    go_wp2_with (go_at_call 12; refine (cS _ (gG _ kk3)).mono ?_; rintro e w4 ⟨rfl, k4⟩; have kk4 : Kp w w4 := Kp.trans kk3 k4; have g4 := Kp.heap k4 g3)
    clear c0 c1 c2
    go_wp2_with (go_at_call 13; refine (cR _ (gG _ kk4)).mono ?_; rintro e w5 ⟨rfl, k5⟩; have kk5 : Kp w w5 := Kp.trans kk4 k5; obtain ⟨c0, c1, c2, _, _, _⟩ := cells3 (al_old (.cells #[.int .i64 k, .int .u8 p, .int .u32 f] 27) (Kp.heap k5 g4)))
    go_ret
    exact ⟨rfl, kk5.alloc _⟩
  · have cD : ∀ V, Calls Tryd.prog 10 #[.int .u32 v] V fun e w' => e = .returned (.tuple #[.agg #[.int .i64 0, .int .u8 0, .int .u32 0], .int .i64 (de v)]) ∧ Kp V w' := by
      intro V
      have := Decode_any V v hv
      simpa [at0, hd] using this
    generalize de v = d at *
    have hb : (d == 0) = false := by simpa using hd
    clear hd
    go_enter Tryd.func3, Tryd.ntmps3
    go_wp2_with (go_at_call 9; refine hK.mono ?_; rintro e w1 ⟨rfl, k1⟩)
    go_wp2_with (go_at_call 10; refine (cD _).mono ?_; rintro e w2 ⟨rfl, k2⟩; have kk2 : Kp w w2 := Kp.trans k1 k2)
    go_ret
    exact ⟨rfl, kk2.alloc _⟩

set_option maxRecDepth 100000 in
set_option maxHeartbeats 4000000 in
theorem made_walk (w : World) (hG : Gw w) (k : Int) (p f : Nat) (hp : p < 256) : Calls Tryd.prog 4 #[.agg #[.int .i64 k, .int .u8 p, .int .u32 f]] w fun e w' => e = .returned (.bool true) ∧ Kp w w' := by
  have hK : ∀ V, Kp w V → Calls Tryd.prog 9 #[] V fun e w' => e = .returned (.bool true) ∧ Kp V w' := fun V hV => known_any V (hG.kp hV)
  have heq := eql27
  have hrf := sameE_refl
  have gG : ∀ V, Kp w V → Gw V := fun V hV => hG.kp hV
  by_cases hd : ck k p f = 0
  · obtain ⟨q, hq, cE, cD, cS, cR⟩ := valid_calls hd
    generalize wd k p f = v at *
    clear hd
    go_enter Tryd.func4, Tryd.ntmps4
    go_wp2_with (go_at_call 9; refine (hK _ ((Chg.refl _ _).alloc _)).mono ?_; rintro e w1 ⟨rfl, k1⟩; have kk1 : Kp w w1 := Kp.trans ((Chg.refl _ _).alloc _) k1; have g1 := Kp.heap k1 (heap_alloc_new w _); obtain ⟨c0, c1, c2, _, _, _⟩ := cells3 g1)
    go_wp2_with (go_at_call 11; refine (cE _).mono ?_; rintro e w2 ⟨rfl, k2⟩; have kk2 : Kp w w2 := Kp.trans kk1 k2; have g2 := Kp.heap k2 g1; obtain ⟨d0, d1, d2, _, _, _⟩ := cells3 g2)
    clear c0 c1 c2
    go_wp2_with (go_at_call 12; refine (cS _ (gG _ kk2)).mono ?_; rintro e w3 ⟨rfl, k3⟩; have kk3 : Kp w w3 := Kp.trans kk2 k3; have g3 := Kp.heap k3 g2)
    clear d0 d1 d2
    go_wp2_with (go_at_call 10; refine (cD _).mono ?_; rintro e w4 ⟨rfl, k4⟩; have kk4 : Kp w w4 := Kp.trans kk3 k4; have g4 := Kp.heap k4 g3)
    have n4 := heap_alloc_new w4 (.cells #[.int .i64 k, .int .u8 p, .int .u32 f] 27)
    go_wp2_with (go_at_call 13; refine (cR _ (gG _ (kk4.alloc _))).mono ?_; rintro e w5 ⟨rfl, k5⟩; have kk5 : Kp w w5 := Kp.trans (kk4.alloc _) k5; obtain ⟨c0, c1, c2, _, _, _⟩ := cells3 (al_old (.cells #[.int .i64 k, .int .u8 p, .int .u32 f] 27) (Kp.heap k5 (al_old _ g4))); obtain ⟨d0, d1, d2, _, _, _⟩ := cells3 (al_old (.cells #[.int .i64 k, .int .u8 p, .int .u32 f] 27) (Kp.heap k5 n4)))
    go_ret
    exact ⟨rfl, kk5.alloc _⟩
  · have cE : ∀ V, Calls Tryd.prog 11 #[.agg #[.int .i64 k, .int .u8 p, .int .u32 f]] V fun e w' => e = .returned (.tuple #[.int .u32 0, .int .i64 (ck k p f)]) ∧ Kp V w' := by
      intro V
      have := Encode_any V k p f hp
      rwa [show ew k p f = 0 by simp [ew, hd]] at this
    have cS : ∀ V, Gw V → Calls Tryd.prog 12 #[.agg #[.int .i64 k, .int .u8 p, .int .u32 f]] V fun e w' => e = .returned (.string ⟨#[]⟩) ∧ Kp V w' := by
      intro V hV
      have := Show_any V hV.gl k p f hp
      rwa [show tx k p f = [] by simp [tx, hd]] at this
    generalize ck k p f = d at *
    have hb : (d == 0) = false := by simpa using hd
    clear hd
    go_enter Tryd.func4, Tryd.ntmps4
    go_wp2_with (go_at_call 9; refine (hK _ ((Chg.refl _ _).alloc _)).mono ?_; rintro e w1 ⟨rfl, k1⟩; have kk1 : Kp w w1 := Kp.trans ((Chg.refl _ _).alloc _) k1; have g1 := Kp.heap k1 (heap_alloc_new w _); obtain ⟨c0, c1, c2, _, _, _⟩ := cells3 g1)
    go_wp2_with (go_at_call 11; refine (cE _).mono ?_; rintro e w2 ⟨rfl, k2⟩; have kk2 : Kp w w2 := Kp.trans kk1 k2; have g2 := Kp.heap k2 g1; obtain ⟨d0, d1, d2, _, _, _⟩ := cells3 g2)
    clear c0 c1 c2
    go_wp2_with (go_at_call 12; refine (cS _ (gG _ kk2)).mono ?_; rintro e w3 ⟨rfl, k3⟩; have kk3 : Kp w w3 := Kp.trans kk2 k3)
    go_ret
    exact ⟨rfl, kk3⟩
end Go.Proofs.YtjmcimhklmfofaaDoor
