import Derived.Test.YtjmcimhklmfofabDoorSh
import Derived.Deep.RegionWith
namespace Go.Proofs.YtjmcimhklmfofabDoor
open Go.ChangeShapes Go.WideShapes Go.ChangeAt Go.RowKit
set_option linter.unusedVariables false

theorem Kp.ofDrew {a b : World} (h : Kp a.drew b) : Kp a b := Chg.trans (T := fun _ => False) ((Chg.refl a (fun _ => False)).drew) h (fun _ _ x => x)

set_option maxRecDepth 100000 in
set_option maxHeartbeats 4000000 in
theorem Show_any (w : World) (h : Gl w) (k : Int) (p f : Nat) (hp : p < 256) :
    Calls Tryd.prog 9 #[.agg #[.int .i64 k, .int .u8 p, .int .u32 f]] w fun e w' => e = .returned (.string ⟨(tx k p f).toArray⟩) ∧ Kp w w' := by
  have hC : ∀ w, Calls Tryd.prog 12 #[.agg #[.int .i64 k, .int .u8 p, .int .u32 f]] w fun e w' => e = .returned (.int .i64 (ck k p f)) ∧ Kp w w' := fun w => check_any w k p f hp
  by_cases hc : ck k p f = 0
  · have e : tx k p f = txv k p f := by simp [tx, hc]
    rw [hc] at hC
    rw [e]
    rcases valid_cases hc with ⟨rfl, rfl, rfl⟩ | ⟨rfl, hp1, hf⟩ | ⟨rfl, rfl, hf⟩
    · clear e hc
      rw [show (⟨(txv 0 0 0).toArray⟩ : ByteArray) = ⟨#[45]⟩ from rfl]
      go_enter Tryd.func9, Tryd.ntmps9
      go_wp2_with (go_at_call 12; refine (hC _).mono ?_; rintro e w1 ⟨rfl, k1⟩; obtain ⟨c0, c1, c2⟩ := cells_alloc3 k1)
      go_ret
      exact ⟨rfl, ((Chg.refl w (fun _ => False)).alloc _).trans k1 (fun _ _ x => x)⟩
    · have e2 : txv 1 p f = hd3 p ++ 32 :: fr f := by simp [txv]
      rw [e2]
      have hS : ∀ V, Calls Tryd.prog 16 #[.int .u8 p] V fun e w' => e = .returned (.string ⟨(hd3 p).toArray⟩) ∧ Kp V w' := fun V => showPerm_any V p hp1
      have hR : ∀ V, Kp w V → Calls Tryd.prog 17 #[.int .u32 f] V fun e w' => e = .returned (.string ⟨(fr f).toArray⟩) ∧ Kp V w' := fun V hV => showFrame_any V (h.kp hV) f hf
      clear e e2 hc
      have e3 : ∃ a b c, hd3 p = [a, b, c] := ⟨_, _, _, rfl⟩
      have e4 : ∃ a b c, fr f = [a, b, c] := ⟨_, _, _, rfl⟩
      obtain ⟨x0, x1, x2, e3⟩ := e3
      obtain ⟨y0, y1, y2, e4⟩ := e4
      rw [e3] at hS ⊢
      rw [e4] at hR ⊢
      clear e3 e4
      go_enter Tryd.func9, Tryd.ntmps9
      go_wp2_with (go_at_call 12; refine (hC _).mono ?_; rintro e w1 ⟨rfl, k1⟩; obtain ⟨c0, c1, c2⟩ := cells_alloc3 k1)
      have kk : Kp w w1 := ((Chg.refl w (fun _ => False)).alloc _).trans k1 (fun _ _ x => x)
      have hS' : ∀ V, Kp w1 V → Calls Tryd.prog 16 #[.int .u8 p] V fun e w' => e = .returned (.string ⟨#[x0, x1, x2]⟩) ∧ Kp w1 w' ∧ w'.cell? ⟨w.heap.size, 2, none⟩ = some (.int .u32 f) := fun V hV => (hS V).mono fun e w' ⟨he, hk⟩ => ⟨he, Kp.trans hV hk, Kp.cell hk (Kp.cell hV c2)⟩
      have hR' : ∀ V, Kp w1 V → Calls Tryd.prog 17 #[.int .u32 f] V fun e w' => e = .returned (.string ⟨#[y0, y1, y2]⟩) ∧ Kp w1 w' ∧ w'.cell? ⟨w.heap.size, 1, none⟩ = some (.int .u8 p) := fun V hV => (hR V (Kp.trans kk hV)).mono fun e w' ⟨he, hk⟩ => ⟨he, Kp.trans hV hk, Kp.cell hk (Kp.cell hV c1)⟩
      clear hS hR
      go_region_with (first | (go_at_call 16; refine (hS' _ (by first | exact Chg.refl _ _ | exact Chg.drew (Chg.refl _ _) | exact k4 | exact Chg.drew k4)).mono ?_; rintro e w3 ⟨rfl, k3, d3⟩) | (go_at_call 17; refine (hR' _ (by first | exact Chg.refl _ _ | exact Chg.drew (Chg.refl _ _) | exact k3 | exact Chg.drew k3)).mono ?_; rintro e w4 ⟨rfl, k4, d4⟩))
      all_goals go_wp2
      all_goals go_ret
      all_goals first | exact ⟨rfl, Kp.trans kk k3⟩ | exact ⟨rfl, Kp.trans kk k4⟩ | exact ⟨rfl, Kp.trans kk (Chg.drew k3)⟩ | exact ⟨rfl, Kp.trans kk (Chg.drew k4)⟩
    · have e2 : txv 2 0 f = [116, 97, 98, 32] ++ fr f := by simp [txv]
      rw [e2]
      have hR : ∀ V, Kp w V → Calls Tryd.prog 17 #[.int .u32 f] V fun e w' => e = .returned (.string ⟨(fr f).toArray⟩) ∧ Kp V w' := fun V hV => showFrame_any V (h.kp hV) f hf
      clear e e2 hc
      have e4 : ∃ a b c, fr f = [a, b, c] := ⟨_, _, _, rfl⟩
      obtain ⟨y0, y1, y2, e4⟩ := e4
      rw [e4] at hR ⊢
      clear e4
      go_enter Tryd.func9, Tryd.ntmps9
      go_wp2_with (go_at_call 12; refine (hC _).mono ?_; rintro e w1 ⟨rfl, k1⟩; obtain ⟨c0, c1, c2⟩ := cells_alloc3 k1; have kk : Kp w w1 := ((Chg.refl w (fun _ => False)).alloc _).trans k1 (fun _ _ x => x))
      go_wp2_with (go_at_call 17; refine (hR _ kk).mono ?_; rintro e w4 ⟨rfl, k4⟩)
      go_ret
      exact ⟨rfl, Kp.trans kk k4⟩
  · have e : tx k p f = [] := by simp [tx, hc]
    rw [e]
    generalize ck k p f = c at *
    have hb : (c == 0) = false := by simpa using hc
    clear e hc
    go_enter Tryd.func9, Tryd.ntmps9
    go_wp2_with (go_at_call 12; refine (hC _).mono ?_; rintro e w1 ⟨rfl, k1⟩)
    go_ret
    exact ⟨rfl, ((Chg.refl w (fun _ => False)).alloc _).trans k1 (fun _ _ x => x)⟩
end Go.Proofs.YtjmcimhklmfofabDoor
