import Derived.Test.YtodgobapgmhgdaaDoorRa
namespace Go.Proofs.YtodgobapgmhgdaaDoor
open Go.ChangeShapes Go.WideShapes Go.ChangeAt Go.RowKit
set_option linter.unusedVariables false

set_option maxRecDepth 100000 in
set_option maxHeartbeats 8000000 in
theorem of_no (w : World) (op : Int) (h : op < 1 ∨ 48 < op) : Calls Tryd.prog 34 #[.int .i64 op] w fun e w' => e = .returned (.tuple #[.agg #[.string ⟨#[]⟩, .int .i64 0, .int .u8 0, .int .u8 0], .bool false]) ∧ Kp w w' := by
  by_cases h1 : op < 1
  · go_enter Tryd.func34, Tryd.ntmps34
    go_wp2
    refine bodyPost_ret (v := .tuple #[.agg #[.string ⟨#[]⟩, .int .i64 0, .int .u8 0, .int .u8 0], .bool false]) (by simp [results, Tryd.results34, go_sem]) rfl ⟨rfl, by repeat (first | exact Chg.refl _ _ | apply Chg.drew | apply Chg.alloc)⟩
  · have h2 : 48 < op := by omega
    go_enter Tryd.func34, Tryd.ntmps34
    go_wp2
    refine bodyPost_ret (v := .tuple #[.agg #[.string ⟨#[]⟩, .int .i64 0, .int .u8 0, .int .u8 0], .bool false]) (by simp [results, Tryd.results34, go_sem]) rfl ⟨rfl, by repeat (first | exact Chg.refl _ _ | apply Chg.drew | apply Chg.alloc)⟩
def imC (op : Int) : Nat := imTab.getD op.toNat 0
def shC (op : Int) : Nat := shTab.getD op.toNat 0
theorem imsh_no {op : Int} (h : isO op = false) : imC op = 0 ∧ shC op = 0 := by
  have h' : ¬ (0 < op ∧ op < 49) := fun x => by rw [(isO_iff op).2 x] at h; cases h
  have : op.toNat = 0 ∨ 49 ≤ op.toNat := by omega
  rcases this with e | e
  · simp [imC, shC, e, imTab, shTab]
  · exact ⟨getD_none _ _ _ (by simpa [imTab] using e), getD_none _ _ _ (by simpa [shTab] using e)⟩
theorem of_any (w : World) (op : Int) : Calls Tryd.prog 34 #[.int .i64 op] w fun e w' => e = .returned (.tuple #[.agg #[.string (sb (nm op)), .int .i64 (fo op : Nat), .int .u8 (imC op : Nat), .int .u8 (shC op : Nat)], .bool (isO op)]) ∧ Kp w w' := by
  cases h : isO op
  · obtain ⟨e1, e2, e3⟩ := fo_no h
    obtain ⟨e4, e5⟩ := imsh_no h
    rw [e1, e3, e4, e5]
    have h' : ¬ (0 < op ∧ op < 49) := fun x => by rw [(isO_iff op).2 x] at h; cases h
    exact of_no w op (by omega)
  · obtain ⟨o0, o1⟩ := (isO_iff op).1 h
    exact of_yes w op (by omega) (by omega) _ _ _ _ rfl ⟨rfl, rfl, rfl⟩

set_option maxRecDepth 100000 in
theorem rForm_any (w : World) (op : Int) : Calls Tryd.prog 19 #[.int .i64 op] w fun e w' => e = .returned (.int .i64 (fo op : Nat)) ∧ Kp w w' := by
  have hO := of_any w op
  generalize sb (nm op) = s at *
  generalize fo op = f at *
  generalize imC op = i at *
  generalize shC op = h at *
  generalize isO op = y at *
  generalize (f : Int) = f' at *
  generalize (i : Int) = i' at *
  generalize (h : Int) = h' at *
  go_enter Tryd.func19, Tryd.ntmps19
  go_wp2_with (go_at_call 34; refine hO.mono ?_; rintro e w1 ⟨rfl, k1⟩)
  go_ret
  exact ⟨rfl, k1.alloc _⟩
set_option maxRecDepth 100000 in
theorem rName_any (w : World) (op : Int) : Calls Tryd.prog 20 #[.int .i64 op] w fun e w' => e = .returned (.string (sb (nm op))) ∧ Kp w w' := by
  have hO := of_any w op
  generalize sb (nm op) = s at *
  generalize fo op = f at *
  generalize imC op = i at *
  generalize shC op = h at *
  generalize isO op = y at *
  generalize (f : Int) = f' at *
  generalize (i : Int) = i' at *
  generalize (h : Int) = h' at *
  go_enter Tryd.func20, Tryd.ntmps20
  go_wp2_with (go_at_call 34; refine hO.mono ?_; rintro e w1 ⟨rfl, k1⟩)
  go_ret
  exact ⟨rfl, k1.alloc _⟩
set_option maxRecDepth 100000 in
set_option maxHeartbeats 4000000 in
theorem rNamed_any (w : World) (s : ByteArray) :
    Calls Tryd.prog 18 #[.string s] w fun e w' => (∃ o y, e = .returned (.tuple #[.int .i64 o, .bool y]) ∧ Nd s o y) ∧ Kp w w' := by
  go_enter Tryd.func18, Tryd.ntmps18
  go_wp2
  go_loopw [4] (fun s4 wr => ∃ j : Nat, s4 = .int .i64 j ∧ 1 ≤ j ∧ j ≤ 49 ∧ Hid (Kp w wr ∧ ∀ k, 0 < k → k < j → sb (nmTab.getD k []) ≠ s)) (fun s4 _ => 49 - (intOf s4).toNat)
  case atStart => exact ⟨1, rfl, by omega, by omega, Chg.refl _ _, fun k h1 h2 => by omega⟩
  case round =>
    obtain ⟨j, rfl, h0, hj, HI⟩ := hrel
    by_cases hlt : j < 49
    · have hjz : (j : Int) ≤ 48 := by omega
      have hO := of_any wr (j : Int)
      have HN : Hid (sb (nm (j : Int)) = sb (nmTab.getD j [])) := rfl
      generalize sb (nm (j : Int)) = nj at *
      generalize fo (j : Int) = f at *
      generalize imC (j : Int) = i at *
      generalize shC (j : Int) = h at *
      generalize isO (j : Int) = y at *
      generalize (f : Int) = f' at *
      generalize (i : Int) = i' at *
      generalize (h : Int) = h' at *
      by_cases hs : nj = s
      · go_wp2_with (go_at_call 34; refine hO.mono ?_; rintro e w1 ⟨rfl, k1⟩)
        refine bodyPost_ret (results_tmp2 rfl _ _ _) rfl ⟨⟨(j : Int), true, rfl, .inl ⟨rfl, j, rfl, by omega, hlt, ?_⟩⟩, (Kp.trans HI.out.1 k1).alloc _⟩
        rw [← HN.out]; exact hs
      · have hbs := neqS hs
        go_wp2_with (go_at_call 34; refine hO.mono ?_; rintro e w1 ⟨rfl, k1⟩)
        refine ⟨⟨j + 1, by go_num, by omega, by omega, (Kp.trans HI.out.1 k1).alloc _, fun k h1 h2 => ?_⟩, by simp [intOf]; omega⟩
        rcases Nat.lt_succ_iff_lt_or_eq.1 h2 with h | rfl
        · exact HI.out.2 k h1 h
        · rw [← HN.out]; exact hs
    · obtain rfl : j = 49 := by omega
      go_wp2
      refine bodyPost_ret (results_tmp2 rfl _ _ _) rfl ⟨⟨0, false, rfl, .inr ⟨rfl, rfl, HI.out.2⟩⟩, HI.out.1⟩
theorem nd_unique {s : ByteArray} {o o' : Int} {y y' : Bool} (h : Nd s o y) (h' : Nd s o' y') : o = o' ∧ y = y' := by
  rcases h with ⟨rfl, k, rfl, k0, k1, e⟩ | ⟨rfl, rfl, hn⟩
  · rw [← e] at h'
    obtain ⟨rfl, rfl⟩ := nd_of k0 k1 h'
    exact ⟨rfl, rfl⟩
  · rcases h' with ⟨rfl, k, rfl, k0, k1, e⟩ | ⟨rfl, rfl, _⟩
    · exact absurd e (hn k k0 k1)
    · exact ⟨rfl, rfl⟩

set_option maxRecDepth 100000 in
set_option maxHeartbeats 4000000 in
theorem names_walk (w : World) (hG : Gg w) (op : Int) (ho : -9223372036854775808 ≤ op ∧ op ≤ 9223372036854775807) (s : ByteArray) :
    Calls Tryd.prog 7 #[.int .i64 op, .string s] w fun e w' => e = .returned (.bool true) ∧ Kp w w' := by
  have hK := known_any w hG
  have hF := fun V (k : Kp w V) => Form_any V (hG.keep k).1 op
  have hN := fun V (k : Kp w V) => Name_any V (hG.keep k).1 op
  have hD := fun V (k : Kp w V) => Named_any V (hG.keep k).1 s
  have hE := fun V => rNamed_any V s
  have hP := fun V => rForm_any V op
  have hQ := fun V => rName_any V op
  clear ho
  generalize sb (nm op) = t at *
  generalize fo op = f at *
  generalize (f : Int) = f' at *
  go_enter Tryd.func7, Tryd.ntmps7
  go_wp2_with fail
  go_at_call 9
  refine hK.mono ?_
  rintro e w1 ⟨rfl, k1⟩
  have hF1 := hF w1 k1
  clear hK hF
  go_wp2_with fail
  go_at_call 15
  refine hF1.mono ?_
  rintro e w2 ⟨rfl, k2⟩
  have kk2 := Kp.trans k1 k2
  have hN2 := hN w2 kk2
  clear hF1 hN
  go_wp2_with fail
  go_at_call 13
  refine hN2.mono ?_
  rintro e w3 ⟨rfl, k3⟩
  have kk3 := Kp.trans kk2 k3
  have hD3 := hD w3 kk3
  clear hN2 hD
  go_wp2_with fail
  go_at_call 14
  refine hD3.mono ?_
  rintro e w4 ⟨⟨o1, y1, rfl, n1⟩, k4⟩
  have kk4 := Kp.trans kk3 k4
  clear hD3
  go_wp2_with fail
  go_at_call 18
  refine (hE w4).mono ?_
  rintro e w5 ⟨⟨o2, y2, rfl, n2⟩, k5⟩
  have kk5 := Kp.trans kk4 k5
  obtain ⟨rfl, rfl⟩ := nd_unique n1 n2
  clear hE n1 n2
  go_wp2_with (first
    | (go_at_call 19; refine (hP _).mono ?_; rintro e w6 ⟨rfl, k6⟩)
    | (go_at_call 20; refine (hQ _).mono ?_; rintro e w7 ⟨rfl, k7⟩))
  go_ret
  exact ⟨rfl, Kp.trans kk5 (Kp.trans k6 k7)⟩
end Go.Proofs.YtodgobapgmhgdaaDoor
