import Derived.Test.YtgofjmhdgmfgfaaGreatDoorCo
import Derived.Test.YtgofjmhdgmfgfaaGreatDoorBh
namespace Go.Proofs.YtgofjmhdgmfgfaaGreatDoor
open Go.ChangeShapes Go.WideShapes Go.ChangeAt Go.RowKit
set_option linter.unusedVariables false

theorem hex8_size (v : Nat) (hv : v < 4294967296) : (hex8 v).length = 10 := by
  rw [← e8_hex8 v hv, List.length_append, e8_len]
  rfl
theorem line_short (v at_ : Nat) (hv : v < 4294967296) : (lineM v at_).length ≤ 400 := by
  unfold lineM
  have h1 := tx_short (dO v) (dD v) (dA v) (dB v) (dI v)
  have h2 := hex8_size v hv
  have h3 := hex8_size (((at_ : Int) + 4 * dI v) % 4294967296).toNat (by omega)
  split
  · split
    · simp only [List.length_append, List.length_cons, List.length_nil, h3]; omega
    · omega
  · simp only [List.length_append, List.length_cons, List.length_nil, h2]; omega
set_option maxRecDepth 100000 in
theorem word_walk (w : World) (h9 : 9 ≤ w.heap.size) (hG : Gs w) (v at_ : Nat) (hv : v < 4294967296) (ha : at_ < 4294967296) :
    Calls Tryz.prog 3 #[.int .u32 v, .int .u32 at_] w fun e w' => e = .returned (.bool true) ∧ Kp w w' := by
  have hK := known_ok w h9 hG
  have hL := fun V (k : Kp w V) => Line_any V (hG.keep k) v at_ hv ha
  obtain ⟨hnl, x, hrun, himg⟩ := line_back v at_ hv
  have hsh := line_short v at_ hv
  have hpl : ∀ t ∈ [lineM v at_], t.length < 1000000 := fun t ht => by
    obtain rfl : t = lineM v at_ := by simpa using ht
    omega
  have hA : ∀ V, Kp w V → Calls Tryz.prog 11 #[.string (sb (lineM v at_))] V fun e w' => ∃ wa wc lv, e = .returned (.tuple #[.agg #[.int .u32 0, .slice wa 1 wc, lv], .int .i64 0, .int .i64 0]) ∧ (∃ g, wa = some ⟨g, 0, none⟩ ∧ 1 ≤ wc ∧ w'.cell? ⟨g, 0, none⟩ = some (.int .u32 (v : Int))) ∧ (∃ a n c, lv = .slice a n c) ∧ Kp V w' := fun V k => by
    have h := Assemble_ok V (Nat.le_trans h9 k.size) (hG.keep k) (lineM v at_) [lineM v at_] ⟨false, 0, [x], []⟩ [(v : Int)] (split_one _ hnl) (by omega) hpl (by simp) hrun himg (by intro p hp; cases hp) (by simp) (by simp)
    refine h.mono ?_
    rintro e w' ⟨wv, lv, rfl, h1, h2, -, -, k2⟩
    have hl : ∃ a n c, lv = .slice a n c := by
      rcases h2.2 with ⟨rfl, _⟩ | ⟨g, cap, cur, rfl, _⟩
      · exact ⟨_, _, _, rfl⟩
      · exact ⟨_, _, _, rfl⟩
    rcases h1.2 with ⟨_, h0⟩ | ⟨g, cap, cur, rfl, _, hg, hnc, _, _, htake⟩
    · simp at h0
    · refine ⟨_, _, lv, rfl, ⟨g, rfl, hnc, ?_⟩, hl, k2⟩
      rw [(cells_at hg _).1, ← Array.getElem?_toList]
      have ht : (List.take (1 * 1) cur.toList)[0]? = some (.int .u32 (v : Int)) := by
        have e1 : List.take (1 * 1) cur.toList = [.int .u32 (v : Int)] := by simpa using htake
        rw [e1]; rfl
      rw [List.getElem?_take] at ht
      simpa using ht
  generalize lineM v at_ = l at *
  generalize sb l = u at *
  clear hnl hrun himg hsh hpl
  go_enter Tryz.func3, Tryz.ntmps3
  go_upto_region 4 with (first | (go_at_call 9; refine hK.mono ?_; rintro e w1 ⟨rfl, k1⟩) | (go_at_call 10; refine (hL _ k1).mono ?_; rintro e w2 ⟨rfl, k2⟩) | (go_at_call 11; refine (hA _ (Kp.trans k1 k2)).mono ?_; rintro e w3 ⟨wa, wc, lv, rfl, ⟨g, rfl, hwc, hcell⟩, ⟨la, ln, lc, rfl⟩, k3⟩))
  have hc0 := Kp.cell ((Chg.refl w3 (fun _ => False)).alloc (.cells #[.int .u32 0, .slice (some ⟨g, 0, none⟩) 1 wc, .slice la ln lc] 28)) hcell
  have HK : Hid (Kp w w3) := Kp.trans (Kp.trans k1 k2) k3
  clear hK hL hA k1 k2 k3 hcell
  go_wp2_with fail
  go_ret
  exact ⟨rfl, Chg.alloc HK.out _⟩
end Go.Proofs.YtgofjmhdgmfgfaaGreatDoor
