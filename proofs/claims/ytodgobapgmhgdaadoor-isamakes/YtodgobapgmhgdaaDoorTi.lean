import Derived.Test.YtodgobapgmhgdaaDoorTh
namespace Go.Proofs.YtodgobapgmhgdaaDoor
open Go.ChangeShapes Go.WideShapes Go.ChangeAt Go.RowKit
set_option linter.unusedVariables false

/-- The cells of the table of ops. -/
def opL : List Value := [.string ⟨#[]⟩, .int .i64 0, .int .i64 0, .string ⟨#[97, 100, 100]⟩, .int .i64 1, .int .i64 0, .string ⟨#[115, 117, 98]⟩, .int .i64 1, .int .i64 0, .string ⟨#[109, 117, 108]⟩, .int .i64 1, .int .i64 0, .string ⟨#[100, 105, 118, 117]⟩, .int .i64 1, .int .i64 0, .string ⟨#[114, 101, 109, 117]⟩, .int .i64 1, .int .i64 0, .string ⟨#[97, 110, 100]⟩, .int .i64 1, .int .i64 0, .string ⟨#[111, 114]⟩, .int .i64 1, .int .i64 0, .string ⟨#[120, 111, 114]⟩, .int .i64 1, .int .i64 0, .string ⟨#[115, 104, 108]⟩, .int .i64 1, .int .i64 0, .string ⟨#[115, 104, 114]⟩, .int .i64 1, .int .i64 0, .string ⟨#[115, 97, 114]⟩, .int .i64 1, .int .i64 0, .string ⟨#[115, 108, 116]⟩, .int .i64 1, .int .i64 0, .string ⟨#[115, 108, 116, 117]⟩, .int .i64 1, .int .i64 0, .string ⟨#[97, 100, 100, 105]⟩, .int .i64 2, .int .i64 1, .string ⟨#[97, 110, 100, 105]⟩, .int .i64 2, .int .i64 3, .string ⟨#[111, 114, 105]⟩, .int .i64 2, .int .i64 3, .string ⟨#[120, 111, 114, 105]⟩, .int .i64 2, .int .i64 3, .string ⟨#[115, 104, 108, 105]⟩, .int .i64 2, .int .i64 4, .string ⟨#[115, 104, 114, 105]⟩, .int .i64 2, .int .i64 4, .string ⟨#[115, 97, 114, 105]⟩, .int .i64 2, .int .i64 4, .string ⟨#[115, 108, 116, 105]⟩, .int .i64 2, .int .i64 1, .string ⟨#[115, 108, 116, 117, 105]⟩, .int .i64 2, .int .i64 1, .string ⟨#[108, 117, 105]⟩, .int .i64 4, .int .i64 3, .string ⟨#[108, 98]⟩, .int .i64 2, .int .i64 2, .string ⟨#[108, 98, 117]⟩, .int .i64 2, .int .i64 2, .string ⟨#[108, 104]⟩, .int .i64 2, .int .i64 2, .string ⟨#[108, 104, 117]⟩, .int .i64 2, .int .i64 2, .string ⟨#[108, 119]⟩, .int .i64 2, .int .i64 2, .string ⟨#[115, 98]⟩, .int .i64 3, .int .i64 2, .string ⟨#[115, 104]⟩, .int .i64 3, .int .i64 2, .string ⟨#[115, 119]⟩, .int .i64 3, .int .i64 2, .string ⟨#[98, 101, 113]⟩, .int .i64 3, .int .i64 1, .string ⟨#[98, 110, 101]⟩, .int .i64 3, .int .i64 1, .string ⟨#[98, 108, 116]⟩, .int .i64 3, .int .i64 1, .string ⟨#[98, 103, 101]⟩, .int .i64 3, .int .i64 1, .string ⟨#[98, 108, 116, 117]⟩, .int .i64 3, .int .i64 1, .string ⟨#[98, 103, 101, 117]⟩, .int .i64 3, .int .i64 1, .string ⟨#[106, 97, 108]⟩, .int .i64 4, .int .i64 1, .string ⟨#[106, 97, 108, 114]⟩, .int .i64 2, .int .i64 1, .string ⟨#[104, 99, 97, 108, 108]⟩, .int .i64 7, .int .i64 3, .string ⟨#[99, 108, 111, 99, 107]⟩, .int .i64 5, .int .i64 0, .string ⟨#[119, 97, 105, 116]⟩, .int .i64 8, .int .i64 0, .string ⟨#[101, 105]⟩, .int .i64 8, .int .i64 0, .string ⟨#[100, 105]⟩, .int .i64 8, .int .i64 0, .string ⟨#[101, 114, 101, 116]⟩, .int .i64 8, .int .i64 0, .string ⟨#[118, 101, 99]⟩, .int .i64 6, .int .i64 0, .string ⟨#[104, 97, 108, 116]⟩, .int .i64 8, .int .i64 0, .string ⟨#[110, 111, 112]⟩, .int .i64 8, .int .i64 0]
theorem op_index (k : Nat) (hk : k < 49) (w : World) : (Instr.index 62 (.agg opL.toArray) (.int .i64 k)).run Tryd.prog w = .ok (.agg #[.string (sb (nmTab.getD k [])), .int .i64 (fmTab.getD k 0 : Nat), .int .i64 (tkTab.getD k 0 : Nat)]) w := by
  match k, hk with
  | 0, _ => show _ = _; kernel_rfl
  | 1, _ => show _ = _; kernel_rfl
  | 2, _ => show _ = _; kernel_rfl
  | 3, _ => show _ = _; kernel_rfl
  | 4, _ => show _ = _; kernel_rfl
  | 5, _ => show _ = _; kernel_rfl
  | 6, _ => show _ = _; kernel_rfl
  | 7, _ => show _ = _; kernel_rfl
  | 8, _ => show _ = _; kernel_rfl
  | 9, _ => show _ = _; kernel_rfl
  | 10, _ => show _ = _; kernel_rfl
  | 11, _ => show _ = _; kernel_rfl
  | 12, _ => show _ = _; kernel_rfl
  | 13, _ => show _ = _; kernel_rfl
  | 14, _ => show _ = _; kernel_rfl
  | 15, _ => show _ = _; kernel_rfl
  | 16, _ => show _ = _; kernel_rfl
  | 17, _ => show _ = _; kernel_rfl
  | 18, _ => show _ = _; kernel_rfl
  | 19, _ => show _ = _; kernel_rfl
  | 20, _ => show _ = _; kernel_rfl
  | 21, _ => show _ = _; kernel_rfl
  | 22, _ => show _ = _; kernel_rfl
  | 23, _ => show _ = _; kernel_rfl
  | 24, _ => show _ = _; kernel_rfl
  | 25, _ => show _ = _; kernel_rfl
  | 26, _ => show _ = _; kernel_rfl
  | 27, _ => show _ = _; kernel_rfl
  | 28, _ => show _ = _; kernel_rfl
  | 29, _ => show _ = _; kernel_rfl
  | 30, _ => show _ = _; kernel_rfl
  | 31, _ => show _ = _; kernel_rfl
  | 32, _ => show _ = _; kernel_rfl
  | 33, _ => show _ = _; kernel_rfl
  | 34, _ => show _ = _; kernel_rfl
  | 35, _ => show _ = _; kernel_rfl
  | 36, _ => show _ = _; kernel_rfl
  | 37, _ => show _ = _; kernel_rfl
  | 38, _ => show _ = _; kernel_rfl
  | 39, _ => show _ = _; kernel_rfl
  | 40, _ => show _ = _; kernel_rfl
  | 41, _ => show _ = _; kernel_rfl
  | 42, _ => show _ = _; kernel_rfl
  | 43, _ => show _ = _; kernel_rfl
  | 44, _ => show _ = _; kernel_rfl
  | 45, _ => show _ = _; kernel_rfl
  | 46, _ => show _ = _; kernel_rfl
  | 47, _ => show _ = _; kernel_rfl
  | 48, _ => show _ = _; kernel_rfl
  | k + 49, h => omega
theorem opL_at (k : Nat) (hk : k < 49) : opL[k * 3]? = some (.string (sb (nmTab.getD k []))) ∧ opL[k * 3 + 1]? = some (.int .i64 (fmTab.getD k 0 : Nat)) ∧ opL[k * 3 + 2]? = some (.int .i64 (tkTab.getD k 0 : Nat)) := by
  match k, hk with
  | 0, _ => exact ⟨rfl, rfl, rfl⟩
  | 1, _ => exact ⟨rfl, rfl, rfl⟩
  | 2, _ => exact ⟨rfl, rfl, rfl⟩
  | 3, _ => exact ⟨rfl, rfl, rfl⟩
  | 4, _ => exact ⟨rfl, rfl, rfl⟩
  | 5, _ => exact ⟨rfl, rfl, rfl⟩
  | 6, _ => exact ⟨rfl, rfl, rfl⟩
  | 7, _ => exact ⟨rfl, rfl, rfl⟩
  | 8, _ => exact ⟨rfl, rfl, rfl⟩
  | 9, _ => exact ⟨rfl, rfl, rfl⟩
  | 10, _ => exact ⟨rfl, rfl, rfl⟩
  | 11, _ => exact ⟨rfl, rfl, rfl⟩
  | 12, _ => exact ⟨rfl, rfl, rfl⟩
  | 13, _ => exact ⟨rfl, rfl, rfl⟩
  | 14, _ => exact ⟨rfl, rfl, rfl⟩
  | 15, _ => exact ⟨rfl, rfl, rfl⟩
  | 16, _ => exact ⟨rfl, rfl, rfl⟩
  | 17, _ => exact ⟨rfl, rfl, rfl⟩
  | 18, _ => exact ⟨rfl, rfl, rfl⟩
  | 19, _ => exact ⟨rfl, rfl, rfl⟩
  | 20, _ => exact ⟨rfl, rfl, rfl⟩
  | 21, _ => exact ⟨rfl, rfl, rfl⟩
  | 22, _ => exact ⟨rfl, rfl, rfl⟩
  | 23, _ => exact ⟨rfl, rfl, rfl⟩
  | 24, _ => exact ⟨rfl, rfl, rfl⟩
  | 25, _ => exact ⟨rfl, rfl, rfl⟩
  | 26, _ => exact ⟨rfl, rfl, rfl⟩
  | 27, _ => exact ⟨rfl, rfl, rfl⟩
  | 28, _ => exact ⟨rfl, rfl, rfl⟩
  | 29, _ => exact ⟨rfl, rfl, rfl⟩
  | 30, _ => exact ⟨rfl, rfl, rfl⟩
  | 31, _ => exact ⟨rfl, rfl, rfl⟩
  | 32, _ => exact ⟨rfl, rfl, rfl⟩
  | 33, _ => exact ⟨rfl, rfl, rfl⟩
  | 34, _ => exact ⟨rfl, rfl, rfl⟩
  | 35, _ => exact ⟨rfl, rfl, rfl⟩
  | 36, _ => exact ⟨rfl, rfl, rfl⟩
  | 37, _ => exact ⟨rfl, rfl, rfl⟩
  | 38, _ => exact ⟨rfl, rfl, rfl⟩
  | 39, _ => exact ⟨rfl, rfl, rfl⟩
  | 40, _ => exact ⟨rfl, rfl, rfl⟩
  | 41, _ => exact ⟨rfl, rfl, rfl⟩
  | 42, _ => exact ⟨rfl, rfl, rfl⟩
  | 43, _ => exact ⟨rfl, rfl, rfl⟩
  | 44, _ => exact ⟨rfl, rfl, rfl⟩
  | 45, _ => exact ⟨rfl, rfl, rfl⟩
  | 46, _ => exact ⟨rfl, rfl, rfl⟩
  | 47, _ => exact ⟨rfl, rfl, rfl⟩
  | 48, _ => exact ⟨rfl, rfl, rfl⟩
  | k + 49, h => omega
theorem opL_len : opL.length = 147 := by kernel_rfl
theorem Gt.range {w : World} (h : Gt w) : w.rangeAt 0 0 opL := fun j v hv => by
  have hj : j < 147 := by
    have := (List.getElem?_eq_some_iff.1 hv).1
    rw [opL_len] at this
    exact this
  obtain ⟨c0, c1, c2⟩ := h.ops (j / 3) (by omega)
  obtain ⟨e0, e1, e2⟩ := opL_at (j / 3) (by omega)
  rw [Nat.zero_add]
  rcases (show j = j / 3 * 3 ∨ j = j / 3 * 3 + 1 ∨ j = j / 3 * 3 + 2 by omega) with q | q | q
  · rw [q, e0] at hv; rw [q, c0]; exact hv
  · rw [q, e1] at hv; rw [q, c1]; exact hv
  · rw [q, e2] at hv; rw [q, c2]; exact hv
theorem beqS (x y : ByteArray) : (x.toList == y.toList) = true ↔ x = y := by
  rw [beq_iff_eq, ByteArray.toList_eq, ByteArray.toList_eq]
  exact ⟨fun h => ByteArray.ext (Array.toList_inj.mp h), fun h => by rw [h]⟩
theorem neqS {x y : ByteArray} (h : ¬ x = y) : (x.toList == y.toList) = false := by
  cases e : (x.toList == y.toList)
  · rfl
  · exact absurd ((beqS x y).1 e) h
/-- What Named tells. -/
def Nd (s : ByteArray) (o : Int) (y : Bool) : Prop := (y = true ∧ ∃ k : Nat, o = k ∧ 0 < k ∧ k < 49 ∧ sb (nmTab.getD k []) = s) ∨ (y = false ∧ o = 0 ∧ ∀ k, 0 < k → k < 49 → sb (nmTab.getD k []) ≠ s)
theorem size62 : (Tryd.prog.info? 62).map (·.size) = some 147 := by kernel_rfl
set_option maxRecDepth 100000 in
set_option maxHeartbeats 2000000 in
theorem Named_any (w : World) (hg : Gt w) (s : ByteArray) :
    Calls Tryd.prog 14 #[.string s] w fun e w' => (∃ o y, e = .returned (.tuple #[.int .i64 o, .bool y]) ∧ Nd s o y) ∧ Kp w w' := by
  have hr := hg.range
  have hx := op_index
  generalize hA : opL.toArray = A at *
  have hsz : (Tryd.prog.info? 62).map (·.size) = some opL.length := by rw [opL_len]; exact size62
  go_enter Tryd.func14, Tryd.ntmps14
  go_wp2_with (refine wpList_load_mid rfl 62 (.global 0) rfl 0 0 rfl opL _ hr Tryd.underlying62 rfl hsz ?_; rw [hA])
  go_loopw [8] (fun s8 wr => ∃ j : Nat, s8 = .int .i64 j ∧ j ≤ 49 ∧ Hid (Kp w wr ∧ ∀ k, 0 < k → k < j → sb (nmTab.getD k []) ≠ s)) (fun s8 _ => 49 - (intOf s8).toNat)
  case atStart => exact ⟨0, rfl, by omega, Chg.refl _ _, fun k h1 h2 => by omega⟩
  case round =>
    obtain ⟨j, rfl, hj, HI⟩ := hrel
    by_cases hlt : j < 49
    · have hjz : (j : Int) < 49 := by omega
      have hxj := hx j hlt
      have hI := fun w => isO_any w (j : Int)
      obtain ⟨nj, hnj⟩ : ∃ nj, nj = sb (nmTab.getD j []) := ⟨_, rfl⟩
      rw [← hnj] at hxj
      have HN : Hid (nj = sb (nmTab.getD j [])) := hnj
      clear hnj hx
      generalize ((fmTab.getD j 0 : Nat) : Int) = f at *
      generalize ((tkTab.getD j 0 : Nat) : Int) = t at *
      by_cases h0 : 0 < j
      · have e1 : isO (j : Int) = true := (isO_iff _).2 ⟨by omega, by omega⟩
        rw [e1] at hI
        clear e1
        by_cases hs : nj = s
        · go_wp2_with (go_at_call 28; refine (hI _).mono ?_; rintro e w1 ⟨rfl, rfl⟩)
          refine bodyPost_ret (results_tmp2 rfl _ _ _) rfl ⟨⟨(j : Int), true, rfl, .inl ⟨rfl, j, rfl, h0, hlt, ?_⟩⟩, HI.out.1.alloc _⟩
          rw [← HN.out]; exact hs
        · have hbs := neqS hs
          go_wp2_with (go_at_call 28; refine (hI _).mono ?_; rintro e w1 ⟨rfl, rfl⟩)
          refine ⟨⟨j + 1, by go_num, by omega, HI.out.1.alloc _, fun k h1 h2 => ?_⟩, by simp [intOf]; omega⟩
          rcases Nat.lt_succ_iff_lt_or_eq.1 h2 with h | rfl
          · exact HI.out.2 k h1 h
          · rw [← HN.out]; exact hs
      · obtain rfl : j = 0 := by omega
        have e1 : isO ((0 : Nat) : Int) = false := rfl
        rw [e1] at hI
        clear e1
        have hI' : ∀ w, Calls Tryd.prog 28 #[.int .i64 0] w fun e w' => e = .returned (.bool false) ∧ w' = w := hI
        have hx0 : ∀ w : World, (Instr.index 62 (.agg A) (.int .i64 0)).run Tryd.prog w = .ok (.agg #[.string nj, .int .i64 f, .int .i64 t]) w := hxj
        clear hI hxj
        go_wp2_with (go_at_call 28; refine (hI' _).mono ?_; rintro e w1 ⟨rfl, rfl⟩)
        exact ⟨⟨1, by go_num, by omega, HI.out.1.alloc _, fun k h1 h2 => by omega⟩, by simp [intOf]⟩
    · obtain rfl : j = 49 := by omega
      clear hx
      go_wp2
      refine bodyPost_ret (results_tmp2 rfl _ _ _) rfl ⟨⟨0, false, rfl, .inr ⟨rfl, rfl, HI.out.2⟩⟩, HI.out.1⟩
end Go.Proofs.YtodgobapgmhgdaaDoor
