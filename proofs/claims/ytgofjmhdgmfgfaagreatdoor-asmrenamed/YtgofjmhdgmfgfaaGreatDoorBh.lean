import Derived.Test.YtgofjmhdgmfgfaaGreatDoorBf
import Derived.Test.YtgofjmhdgmfgfaaGreatDoorAz
namespace Go.Proofs.YtgofjmhdgmfgfaaGreatDoor
open Go.ChangeShapes Go.WideShapes Go.ChangeAt Go.RowKit
set_option linter.unusedVariables false

/-- The source of the example. -/
def knS : List UInt8 := [46, 111, 114, 103, 32, 48, 120, 49, 48, 48, 48, 10, 116, 111, 112, 58, 32, 97, 100, 100, 105, 32, 114, 49, 44, 32, 114, 49, 44, 32, 45, 49, 32, 35, 32, 111, 110, 101, 32, 108, 101, 115, 115, 10, 98, 110, 101, 32, 114, 49, 44, 32, 114, 48, 44, 32, 116, 111, 112, 10, 104, 97, 108, 116, 10]
/-- Its lines. -/
def knL : List (List UInt8) := [[46, 111, 114, 103, 32, 48, 120, 49, 48, 48, 48], [116, 111, 112, 58, 32, 97, 100, 100, 105, 32, 114, 49, 44, 32, 114, 49, 44, 32, 45, 49, 32, 35, 32, 111, 110, 101, 32, 108, 101, 115, 115], [98, 110, 101, 32, 114, 49, 44, 32, 114, 48, 44, 32, 116, 111, 112], [104, 97, 108, 116], []]
theorem knSplit : Lib.splitB (sb [10]) 0 (Lib.countB (sb knS) (sb [10])) (sb knS) = knL.map sb := by decide +kernel
def knSt : ASt := ⟨true, 4096, [⟨2, 3, 14, 1, 1, 0, 0, [], -1⟩, ⟨3, 3, 33, 0, 1, 0, 0, [116, 111, 112], 0⟩, ⟨4, 3, 47, 0, 0, 0, 0, [], 0⟩], [([116, 111, 112], 4096)]⟩
theorem knRun : runL 1 ⟨false, 0, [], []⟩ knL = some knSt := by decide +kernel
theorem knImg : imgM knSt.lb knSt.org 0 knSt.dr = some [944242687, 2219048959, 3154116608] := by decide +kernel
theorem knSrc : (srcM 4096 [944242687, 2219048959, 3154116608] [([116, 111, 112], 4096)]).length = 73 := by decide +kernel
theorem knLine : lineM 2219048959 4100 = [98, 110, 101, 32, 114, 49, 44, 32, 114, 48, 44, 32, 45, 49, 32, 35, 32, 48, 120, 48, 48, 48, 48, 49, 48, 48, 48] := by decide +kernel
theorem knLm : lmM (4096 + 4 * 3) 4096 [] [([116, 111, 112], 4096)] = true := by decide +kernel
end Go.Proofs.YtgofjmhdgmfgfaaGreatDoor
namespace Go.Proofs.YtgofjmhdgmfgfaaGreatDoor
open Go.ChangeShapes Go.WideShapes Go.ChangeAt Go.RowKit
set_option linter.unusedVariables false

theorem own_WS {w : World} {v : Value} (l : List Nat) (h : OW w v (l.map fun (n : Nat) => (n : Int))) : WS w v l := by
  rcases own_cells h with ⟨rfl, hn⟩ | ⟨g, cap, rfl, hc, hg, hx⟩
  · have : l = [] := by simpa using hn
    subst this
    exact ⟨none, 0, rfl, Nat.le_refl _, .inl rfl⟩
  · rw [List.length_map] at hc
    refine ⟨_, cap, by rw [List.length_map], hc, .inr ⟨g, 0, rfl, hg, fun i x hi => ?_⟩⟩
    rw [Nat.zero_add]
    refine hx i _ ?_
    rw [List.getElem?_map, List.getElem?_map, hi]
    rfl
theorem lbC_get (l : List (List UInt8 × Nat)) : ∀ (i : Nat) (x : List UInt8 × Nat), l[i]? = some x → (l.flatMap lbC)[i * 2]? = some (.string (sb x.1)) ∧ (l.flatMap lbC)[i * 2 + 1]? = some (.int .u32 (x.2 : Nat)) := by
  induction l with
  | nil => intro i x h; simp at h
  | cons y l ih =>
    intro i x h
    cases i with
    | zero =>
      simp only [List.getElem?_cons_zero, Option.some.injEq] at h
      subst h
      exact ⟨rfl, rfl⟩
    | succ i =>
      have := ih i x (by simpa using h)
      rw [show (i + 1) * 2 = i * 2 + 2 by omega]
      exact this
theorem own_LS {w : World} {v : Value} {l : List (List UInt8 × Nat)} (h : OLb w v l) : LS w v l := by
  rcases own_cells h with ⟨rfl, hn⟩ | ⟨g, cap, rfl, hc, hg, hx⟩
  · have : l = [] := by simpa using hn
    subst this
    exact ⟨none, 0, rfl, Nat.le_refl _, .inl rfl⟩
  · refine ⟨_, cap, rfl, hc, .inr ⟨g, 0, rfl, hg, fun i x hi => ?_⟩⟩
    rw [Nat.zero_add]
    exact ⟨hx _ _ (lbC_get l i x hi).1, hx _ _ (lbC_get l i x hi).2⟩
set_option maxRecDepth 100000 in
set_option maxHeartbeats 2000000 in
theorem known_ok (w : World) (h9 : 9 ≤ w.heap.size) (hG : Gs w) : Calls Tryz.prog 9 #[] w fun e w' => e = .returned (.bool true) ∧ Kp w w' := by
  have hA := Assemble_ok w h9 hG knS knL knSt _ knSplit (by decide) (by decide) (by decide) knRun knImg (by decide) (by decide) (by decide)
  have hA' : Calls Tryz.prog 11 #[.string (sb knS)] w fun e w' => ∃ wa wc la lc, e = .returned (.tuple #[.agg #[.int .u32 4096, .slice wa 3 wc, .slice la 1 lc], .int .i64 0, .int .i64 0]) ∧ WS w' (.slice wa 3 wc) [944242687, 2219048959, 3154116608] ∧ LS w' (.slice la 1 lc) [([116, 111, 112], 4096)] ∧ Kp w w' := by
    refine hA.mono ?_
    rintro e w' ⟨wv, lv, rfl, h1, h2, -, -, k⟩
    have e1 := own_WS [944242687, 2219048959, 3154116608] h1
    have e2 := own_LS h2
    obtain ⟨wa, wc, rfl, -⟩ := id e1
    obtain ⟨la, lc, rfl, -⟩ := id e2
    exact ⟨wa, wc, la, lc, rfl, e1, e2, k⟩
  clear hA
  have hD := fun V (k : Kp w V) wv lv (hW : WS V wv [944242687, 2219048959, 3154116608]) (hL : LS V lv [([116, 111, 112], 4096)]) => Disassemble_ok V (hG.keep k) 4096 wv lv [944242687, 2219048959, 3154116608] [([116, 111, 112], 4096)] hW hL (by decide) (by decide) (by decide) (by decide) (by decide) (by decide) knLm (by decide) (by rw [knSrc]; decide)
  have hN := fun V (k : Kp w V) => Line_any V (hG.keep k) 2219048959 4100 (by decide) (by decide)
  rw [knLine] at hN
  have hsz : (sb (srcM 4096 [944242687, 2219048959, 3154116608] [([116, 111, 112], 4096)])).size = 73 := by rw [sb_size, knSrc]
  generalize srcM 4096 [944242687, 2219048959, 3154116608] [([116, 111, 112], 4096)] = R at *
  go_enter Tryz.func9, Tryz.ntmps9
  go_upto_region 2 with (go_at_call 11; refine hA'.mono ?_; rintro e w1 ⟨wa, wc, la, lc, rfl, hW1, hL1, k1⟩)
  have kb : Kp w1 (w1.alloc (.cells #[.int .u32 4096, .slice wa 3 wc, .slice la 1 lc] 28)) := (Chg.refl _ _).alloc _
  have hq := heap_alloc_new w1 (.cells #[.int .u32 4096, .slice wa 3 wc, .slice la 1 lc] 28)
  obtain ⟨c0, c1, c2, -⟩ := cells3 hq
  have hW2 := hW1.keep kb
  have hL2 := hL1.keep kb
  have k2 := Kp.trans k1 kb
  obtain ⟨wa', wc', e1, -, hx⟩ := id hW2
  simp only [List.length_cons, List.length_nil, Value.slice.injEq, true_and] at e1
  obtain ⟨rfl, rfl⟩ := e1
  obtain ⟨la', lc', e1, -, hy⟩ := id hL2
  simp only [List.length_cons, List.length_nil, Value.slice.injEq, true_and] at e1
  obtain ⟨rfl, rfl⟩ := e1
  obtain ⟨g, o, rfl, hg, hx⟩ := hx.resolve_left (by simp)
  obtain ⟨g2, o2, rfl, hg2, hy⟩ := hy.resolve_left (by simp)
  have x1 := hx 1 _ rfl
  have x2 := hx 2 _ rfl
  obtain ⟨y0, y1⟩ := hy 0 _ rfl
  rw [Nat.zero_mul, Nat.add_zero] at y0 y1
  clear hx hy
  have hN2 := hN _ k2
  clear hN hA' hW1 hL1
  go_upto_region 5 with (go_at_call 10; refine hN2.mono ?_; rintro e w3 ⟨rfl, k3⟩)
  have k13 := Kp.trans k2 k3
  have hq3 := Kp.heap k3 hq
  obtain ⟨d0, d1, d2, -⟩ := cells3 hq3
  have hD2 := hD _ k13 _ _ (hW2.keep k3) (hL2.keep k3)
  clear hD
  go_upto_region 6 with (go_at_call 12; refine hD2.mono ?_; rintro e w4 ⟨rfl, k4⟩)
  have hq4 := Kp.heap k4 hq3
  obtain ⟨f0, f1, f2, -⟩ := cells3 hq4
  have z2 := Kp.cell k4 (Kp.cell k3 x2)
  have u0 := Kp.cell k4 (Kp.cell k3 y0)
  have u1 := Kp.cell k4 (Kp.cell k3 y1)
  have e1 : (sb [116, 111, 112]) = (⟨#[116, 111, 112]⟩ : ByteArray) := rfl
  have e2 : sb [98, 110, 101, 32, 114, 49, 44, 32, 114, 48, 44, 32, 45, 49, 32, 35, 32, 48, 120, 48, 48, 48, 48, 49, 48, 48, 48] = (⟨#[98, 110, 101, 32, 114, 49, 44, 32, 114, 48, 44, 32, 45, 49, 32, 35, 32, 48, 120, 48, 48, 48, 48, 49, 48, 48, 48]⟩ : ByteArray) := rfl
  rw [e1] at u0
  rw [e2]
  go_wp2_with fail
  go_ret
  exact ⟨rfl, Kp.trans k13 k4⟩
end Go.Proofs.YtgofjmhdgmfgfaaGreatDoor
