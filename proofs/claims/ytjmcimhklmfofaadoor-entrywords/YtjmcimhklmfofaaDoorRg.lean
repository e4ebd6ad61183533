import Derived.Test.YtjmcimhklmfofaaDoorRf
namespace Go.Proofs.YtjmcimhklmfofaaDoor
open Go.ChangeShapes Go.WideShapes Go.ChangeAt Go.RowKit
set_option linter.unusedVariables false

/-- What the document's Decode answers, in its ways. -/
theorem de_low {v : Nat} (h0 : v ≠ 0) (h : v % 4096 % 2 = 0 ∨ 32 ≤ v % 4096) : de v = 43 := by
  have hs : stray v = true := by
    simp only [stray, Bool.or_eq_true, decide_eq_true_eq, Bool.and_eq_true]
    rcases h with h | h
    · exact .inr ⟨by simp; omega, by simpa using h0⟩
    · exact .inl h
  simp [de, hs]
theorem de_odd {v : Nat} (h1 : v % 4096 % 2 = 1) (h2 : v % 4096 < 32) : de v = ck (dk v) (dp v) (df v) := by
  have hs : stray v = false := by
    simp only [stray, Bool.or_eq_false_iff, decide_eq_false_iff_not, Bool.and_eq_false_iff]
    exact ⟨by omega, .inl (by simp; omega)⟩
  simp [de, hs]
theorem dk_table {v : Nat} (h1 : v % 4096 % 2 = 1) (h2 : v % 4096 < 32) (h3 : 16 ≤ v % 4096) : dk v = 2 := by
  simp only [dk]
  rw [if_neg (by omega), if_pos (by omega)]
theorem dk_page {v : Nat} (h1 : v % 4096 % 2 = 1) (h2 : v % 4096 < 16) : dk v = 1 := by
  simp only [dk]
  rw [if_neg (by omega), if_neg (by omega)]
theorem dp_low {v : Nat} : dp v = v % 4096 / 2 % 8 := by
  simp only [dp]; omega

/-- An entry is answered. -/
theorem EnE_bad {c k : Int} {p f : Nat} (h : c ≠ 0) : EnE c k p f = .tuple #[.agg #[.int .i64 0, .int .u8 0, .int .u32 0], .int .i64 c] := by simp [EnE, at0, h]
theorem EnE_ok {k : Int} {p f : Nat} : EnE 0 k p f = .tuple #[.agg #[.int .i64 k, .int .u8 p, .int .u32 f], .int .i64 0] := by simp [EnE, at0]

set_option maxRecDepth 100000 in
set_option maxHeartbeats 4000000 in
theorem refDecode_any (w : World) (v : Nat) (hv : v < 4294967296) :
    Calls Tryd.prog 14 #[.int .u32 v] w fun e w' => e = .returned (EnE (de v) (dk v) (dp v) (df v)) ∧ Kp w w' := by
  by_cases v0 : v = 0
  · subst v0
    rw [show EnE (de 0) (dk 0) (dp 0) (df 0) = .tuple #[.agg #[.int .i64 0, .int .u8 0, .int .u32 0], .int .i64 0] from rfl]
    go_enter Tryd.func14, Tryd.ntmps14
    go_wp2
    obtain ⟨r0, r1, r2, _, _, _⟩ := cells3 (heap_alloc_new w (.cells #[.int .i64 0, .int .u8 0, .int .u32 0] 27))
    refine bodyPost_ret (v := .tuple #[.agg #[.int .i64 0, .int .u8 0, .int .u32 0], .int .i64 0]) (by simp [results, Tryd.results14, go_sem]) rfl ⟨rfl, (Chg.refl _ _).alloc _⟩
  have hv0 : ((v : Int) == 0) = false := by simp; omega
  have hl : (v : Int) % 4096 = ((v % 4096 : Nat) : Int) := by omega
  have hh : (v : Int) / 4096 = ((v / 4096 : Nat) : Int) := by omega
  have hl2 : ((v % 4096 : Nat) : Int) % 2 = ((v % 4096 % 2 : Nat) : Int) := by omega
  by_cases hs : v % 4096 % 2 = 0 ∨ 32 ≤ v % 4096
  · rw [de_low v0 hs, EnE_bad (by omega)]
    generalize v % 4096 = l at *
    rcases Nat.mod_two_eq_zero_or_one l with h0 | h1
    · have hz : (l : Int) % 2 = 0 := by omega
      clear hs hl2 h0 hh
      go_enter Tryd.func14, Tryd.ntmps14
      go_wp2
      refine bodyPost_ret (v := .tuple #[.agg #[.int .i64 0, .int .u8 0, .int .u32 0], .int .i64 43]) (by simp [results, Tryd.results14, go_sem]) rfl ⟨rfl, (Chg.refl _ _).alloc _⟩
    · have h32 : 32 ≤ l := by omega
      have hz : (l : Int) % 2 = 1 := by omega
      clear hs hl2 h1 hh
      go_enter Tryd.func14, Tryd.ntmps14
      go_wp2
      refine bodyPost_ret (v := .tuple #[.agg #[.int .i64 0, .int .u8 0, .int .u32 0], .int .i64 43]) (by simp [results, Tryd.results14, go_sem]) rfl ⟨rfl, (Chg.refl _ _).alloc _⟩
  have h1 : v % 4096 % 2 = 1 := by omega
  have h2 : v % 4096 < 32 := by omega
  rw [h1] at hl2
  clear hs
  rw [de_odd h1 h2]
  have hpl : ((v % 4096 : Nat) : Int) / 2 % 8 = ((dp v : Nat) : Int) := by rw [dp_low]; omega
  have hd8 : dp v < 8 := by simp only [dp]; omega
  have hP : ∀ V, Calls Tryd.prog 26 #[.int .u8 (dp v : Nat)] V fun e w' => e = .returned (.bool (pm 1 (dp v))) ∧ w' = V := fun V => page_any V (dp v)
  have hdf : df v = v / 4096 := rfl
  by_cases h16 : 16 ≤ v % 4096
  · rw [dk_table h1 h2 h16, hdf]
    generalize dp v = p at *
    generalize v % 4096 = l at *
    generalize v / 4096 = f at *
    generalize pm 1 p = pg at *
    clear hdf
    by_cases p0 : p = 0
    · subst p0
      by_cases f0 : f ≤ 4095
      · rw [show ck 2 0 f = 0 by simp [ck, pm, fm]; omega, EnE_ok]
        go_enter Tryd.func14, Tryd.ntmps14
        go_wp2_with (go_at_call 26; refine (hP _).mono ?_; rintro e w1 ⟨rfl, rfl⟩)
        refine bodyPost_ret (v := .tuple #[.agg #[.int .i64 2, .int .u8 0, .int .u32 f], .int .i64 0]) (by simp [results, Tryd.results14, go_sem]) rfl ⟨rfl, (Chg.refl _ _).alloc _⟩
      · rw [show ck 2 0 f = 42 by simp [ck, pm, fm]; omega, EnE_bad (by omega)]
        go_enter Tryd.func14, Tryd.ntmps14
        go_wp2_with (go_at_call 26; refine (hP _).mono ?_; rintro e w1 ⟨rfl, rfl⟩)
        refine bodyPost_ret (v := .tuple #[.agg #[.int .i64 0, .int .u8 0, .int .u32 0], .int .i64 42]) (by simp [results, Tryd.results14, go_sem]) rfl ⟨rfl, (Chg.refl _ _).alloc _⟩
    · rw [show ck 2 p f = 41 by simp [ck, pm, p0], EnE_bad (by omega)]
      have hpz : ((p : Int) != 0) = true := by simp; omega
      go_enter Tryd.func14, Tryd.ntmps14
      go_wp2_with (go_at_call 26; refine (hP _).mono ?_; rintro e w1 ⟨rfl, rfl⟩)
      refine bodyPost_ret (v := .tuple #[.agg #[.int .i64 0, .int .u8 0, .int .u32 0], .int .i64 41]) (by simp [results, Tryd.results14, go_sem]) rfl ⟨rfl, (Chg.refl _ _).alloc _⟩
  · rw [dk_page h1 (by omega), hdf]
    generalize dp v = p at *
    generalize v % 4096 = l at *
    generalize v / 4096 = f at *
    clear hdf
    cases hm : pm 1 p
    · rw [hm] at hP
      rw [show ck 1 p f = 41 by simp [ck, hm], EnE_bad (by omega)]
      clear hm
      go_enter Tryd.func14, Tryd.ntmps14
      go_wp2_with (go_at_call 26; refine (hP _).mono ?_; rintro e w1 ⟨rfl, rfl⟩)
      refine bodyPost_ret (v := .tuple #[.agg #[.int .i64 0, .int .u8 0, .int .u32 0], .int .i64 41]) (by simp [results, Tryd.results14, go_sem]) rfl ⟨rfl, (Chg.refl _ _).alloc _⟩
    · rw [hm] at hP
      by_cases f0 : f ≤ 4095
      · rw [show ck 1 p f = 0 by simp [ck, hm, fm]; omega, EnE_ok]
        clear hm
        go_enter Tryd.func14, Tryd.ntmps14
        go_wp2_with (go_at_call 26; refine (hP _).mono ?_; rintro e w1 ⟨rfl, rfl⟩)
        refine bodyPost_ret (v := .tuple #[.agg #[.int .i64 1, .int .u8 p, .int .u32 f], .int .i64 0]) (by simp [results, Tryd.results14, go_sem]) rfl ⟨rfl, (Chg.refl _ _).alloc _⟩
      · rw [show ck 1 p f = 42 by simp [ck, hm, fm]; omega, EnE_bad (by omega)]
        clear hm
        go_enter Tryd.func14, Tryd.ntmps14
        go_wp2_with (go_at_call 26; refine (hP _).mono ?_; rintro e w1 ⟨rfl, rfl⟩)
        refine bodyPost_ret (v := .tuple #[.agg #[.int .i64 0, .int .u8 0, .int .u32 0], .int .i64 42]) (by simp [results, Tryd.results14, go_sem]) rfl ⟨rfl, (Chg.refl _ _).alloc _⟩
end Go.Proofs.YtjmcimhklmfofaaDoor
