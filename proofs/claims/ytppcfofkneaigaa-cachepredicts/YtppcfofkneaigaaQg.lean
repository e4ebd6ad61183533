import Derived.Test.YtppcfofkneaigaaQf
namespace Go.Proofs.Ytppcfofkneaigaa
open Go.ChangeShapes Go.WideShapes Go.ChangeAt Go.RowKit
set_option linter.unusedVariables false

theorem UsesIn.less {w : World} {a : Option Addr} {len n : Nat} {F : Nat → Nat × Bool} (h : UsesIn w a len F) (hn : n ≤ len) : UsesIn w a n F := by
  refine ⟨?_, fun i hi => h.lt i (by omega), by have := h.le; omega⟩
  rcases h.src with h0 | ⟨b, off, e, hb, hc⟩
  · exact .inl (by omega)
  · exact .inr ⟨b, off, e, hb, fun i hi => hc i (by omega)⟩
theorem Ts.notF {w : World} {base : Nat} {v : Value} {n : Nat} {f : Nat → Bool × Bool} (h : Ts w base v n f) {B sets ways line : Nat} (hI : IsF w B sets ways line) : v.ownBlock ≠ some B := by
  intro e
  have h1 := hI.at_
  rcases h.row.2 with ⟨rfl, _⟩ | ⟨g, cap, cur, rfl, _, hg, _⟩
  · cases e
  · simp [Value.ownBlock] at e; subst e; rw [h1] at hg; simp at hg

set_option maxRecDepth 10000 in
/-- The document's Predict of a shape that may not be. -/
theorem rpredict_no (w : World) (a b c : Int) (hok : okShape a b c = false) (v : Value) :
    Calls Try.prog 22 #[.agg #[.int .i64 a, .int .i64 b, .int .i64 c], v] w fun e w' => e = .returned (.tuple #[.slice none 0 0, .bool false]) ∧ Chg w w' (fun _ => False) := by
  have hM := fun w => rnew_no w a b c hok
  clear hok
  go_enter Try.func22, Try.ntmps22
  go_wp2_with fail
  go_at_call 35
  refine (hM _).mono ?_
  rintro e w1 ⟨rfl, hC1⟩
  have hC := ((Chg.refl w (fun _ => False)).alloc (.cells #[.int .i64 a, .int .i64 b, .int .i64 c] 23)).trans hC1 (fun _ _ h => h)
  have KC : Hid (Chg w w1 (fun _ => False)) := hC
  clear hC hC1 hM
  go_wp2
  go_ret2
  exact ⟨rfl, KC.out⟩

set_option maxHeartbeats 4000000 in
set_option maxRecDepth 100000 in
/-- The document's Predict. -/
theorem rpredict_yes (w : World) (sets ways line : Nat) (hS : ShOk sets ways line) (hok : okShape sets ways line = true) (a : Option Addr) (len cap : Nat) (hlc : len ≤ cap) (F : Nat → Nat × Bool) (hU : UsesIn w a len F) (hlen : len ≤ 1048576) :
    Calls Try.prog 22 #[.agg #[.int .i64 (sets : Nat), .int .i64 (ways : Nat), .int .i64 (line : Nat)], .slice a len cap] w fun e w' => ∃ v, e = .returned (.tuple #[v, .bool true]) ∧ Ts w' w.heap.size v len (tch sets ways line (fun _ => []) F) ∧ Chg w w' (fun _ => False) := by
  have hM := fun w => rnew_yes w sets ways line hS hok
  have KU : Hid (UsesIn w a len F ∧ ShOk sets ways line) := ⟨hU, hS⟩
  have hn := ptr_nil_no
  clear hU hS hok
  go_enter Try.func22, Try.ntmps22
  go_wp2_with fail
  go_at_call 35
  refine (hM _).mono ?_
  rintro e w1 ⟨B, rfl, hBn, hI1, hC1⟩
  have hC01 : Chg w w1 (fun _ => False) := ((Chg.refl w _).alloc _).trans hC1 (fun _ _ h => h)
  have K1 : Hid (IsF w1 B sets ways line ∧ Chg w w1 (fun _ => False)) := ⟨hI1, hC01⟩
  have hBw : w.heap.size ≤ B := by simp at hBn; omega
  clear hI1 hC1 hC01 hM hBn
  go_wp2
  go_loopw [7, 8] (fun s7 s8 wr => ∃ (lv : Value) (j : Nat), lv = s7 ∧ j ≤ len ∧ s8 = .int .i64 j ∧ Ts wr w.heap.size lv j (tch sets ways line (fun _ => []) F) ∧ IsF wr B sets ways line ∧ Chg w wr (fun _ => False)) (fun _ s8 _ => len - (intOf s8).toNat)
  case atStart => exact ⟨_, 0, rfl, by omega, rfl, ⟨World.ownsRow_nil _ _ _ _, fun k hk => by cases hk⟩, K1.out.1, K1.out.2⟩
  case round =>
    obtain ⟨lv, j, rfl, hj, rfl, hTs, hI, hC⟩ := hrel
    clear K1
    by_cases hlt : j < len
    · have hltz : (j : Int) < (len : Int) := by omega
      obtain ⟨b, off, rfl, _, _, _⟩ := (KU.out.1.kept hC (fun _ _ h => h)).cell j hlt
      have hlt' := last_tch (line := line) F KU.out.2.s1 KU.out.2.w1 j
      have hL := rlast_any wr.drew sets ways line KU.out.2 (some ⟨b, off, none⟩) (j + 1) cap F ((KU.out.1.kept hC.drew (fun _ _ h => h)).less (by omega)) j rfl (by omega)
      rw [hlt'] at hL
      clear hlt'
      generalize hX : tch sets ways line (fun _ => []) F j = X at hL
      obtain ⟨hit, back⟩ := X
      simp only [tchV] at hL
      have hIc : ∀ V, IsF V B sets ways line → V.cell? ⟨B, 0, none⟩ = some (.int .i64 ((sets : Nat) : Int)) ∧ V.cell? ⟨B, 1, none⟩ = some (.int .i64 ((ways : Nat) : Int)) ∧ V.cell? ⟨B, 2, none⟩ = some (.int .i64 ((line : Nat) : Int)) := fun V h => h.cells
      have KI : Hid (Ts wr w.heap.size lv j (tch sets ways line (fun _ => []) F) ∧ IsF wr B sets ways line ∧ Chg w wr (fun _ => False) ∧ tch sets ways line (fun _ => []) F j = (hit, back)) := ⟨hTs, hI, hC, hX⟩
      clear hTs hI hC hX
      go_wp2_with fail
      refine reg22_8 wr B sets ways line j len cap b off lv hit back (by omega) (by omega) (fun wa => Chg wr wa (fun _ => False)) (fun v' w' => Ts w' w.heap.size v' (j + 1) (tch sets ways line (fun _ => []) F) ∧ IsF w' B sets ways line ∧ Chg w w' (fun _ => False)) (hIc _ (KI.out.2.1.kept (Chg.refl wr (fun _ => False)).drew (fun h => h))) ?call8 ?fin8 _ ?pan8 ?_
      case pan8 => exact fun c a w d v h => by cases d <;> exact h
      case call8 =>
        refine hL.mono ?_
        rintro e w5 ⟨rfl, hC5⟩
        have hC6 : Chg wr w5 (fun _ => False) := (Chg.refl wr (fun _ => False)).drew.trans hC5 (fun _ _ h => h)
        exact ⟨rfl, hIc _ (KI.out.2.1.kept hC6 (fun h => h)), hC6⟩
      case fin8 =>
        intro wa hCa
        have hTa := KI.out.1.kept hCa (fun k h1 _ e => e)
        have hIa := KI.out.2.1.kept hCa (fun h => h)
        obtain ⟨v', w', hr, h1, h2, h3⟩ := run_appT wa lv j _ hTa.row (hit, back) (by omega)
        have hg : Chg wa w' (fun k => lv.ownBlock = some k) := ((Chg.refl wa _).alloc _).grown h2 (fun k e => .inl e)
        have hIz := hIa.kept hg (hTa.notF hIa)
        refine ⟨v', w', hr, hIc _ (hIa.kept ((Chg.refl wa (fun _ => False)).alloc _) (fun h => h)), hIc _ hIz, ⟨?_, ?_⟩, hIz, (KI.out.2.2.1.trans hCa (fun _ _ h => h)).trans hg (fun k hk e => ?_)⟩
        · simp only [tList, KI.out.2.2.2]; exact h1
        · intro k hk
          rcases h3 with e | ⟨k', e, hk'⟩
          · rw [e] at hk; exact hTa.fresh k hk
          · rw [e] at hk
            have s1 := KI.out.2.2.1.size
            have s2 := hCa.size
            simp at hk hk'; omega
        · have := hTa.fresh k e; omega
      intro z v' w' hz
      have KZ : Hid (Ts w' w.heap.size v' (j + 1) (tch sets ways line (fun _ => []) F) ∧ IsF w' B sets ways line ∧ Chg w w' (fun _ => False)) := hz
      clear hz hL hIc KI
      go_wp2
      exact ⟨⟨_, j + 1, rfl, by omega, by go_num, KZ.out⟩, by simp [intOf]; omega⟩
    · have hltz : ¬ (j : Int) < (len : Int) := by omega
      have : j = len := by omega
      subst this
      have KZ : Hid (Ts wr w.heap.size lv j (tch sets ways line (fun _ => []) F) ∧ Chg w wr (fun _ => False)) := ⟨hTs, hC⟩
      clear hTs hI hC
      go_wp2
      go_ret2
      exact ⟨_, rfl, KZ.out⟩
end Go.Proofs.Ytppcfofkneaigaa
