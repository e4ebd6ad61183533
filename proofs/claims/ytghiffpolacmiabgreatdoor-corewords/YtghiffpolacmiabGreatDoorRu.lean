import Derived.Test.YtghiffpolacmiabGreatDoorRm
import Derived.Test.YtghiffpolacmiabGreatDoorRa
import Derived.Test.YtghiffpolacmiabGreatDoorRc
namespace Go.Proofs.YtghiffpolacmiabGreatDoor
open Go.ChangeShapes Go.WideShapes Go.ChangeAt Go.RowKit
set_option linter.unusedVariables false

theorem irqd_same (x : Bd) : x.irqd.tm = x.tm ∧ x.irqd.vs = x.vs ∧ x.irqd.ws = x.ws := by
  unfold Bd.irqd
  split <;> exact ⟨rfl, rfl, rfl⟩
theorem irqd_ok {x : Bd} (h : x.ok) (hl : x.le 9989) : x.irqd.ok := by
  obtain ⟨e1, e2, e3⟩ := irqd_same x
  exact ⟨irqd_le hl, by rw [e1]; exact h.tm, by rw [e2]; exact h.vs, by rw [e3]; exact h.ws⟩
/-- A step that asks for an interrupt, and there is none. -/
theorem step_none (w : World) (G bb : Nat) (g : Rg) (x : Bd) (h : Rb w G bb g x) (hx : x.ok) (hl : x.le 9989) (hr : ∀ i, 0 ≤ g.R i ∧ g.R i < 4294967296) (ho : g.on = true) (hd : g.hd = false) (hi : x.irq = false) :
    Calls Tryz.prog 5 #[.pointer (some ⟨G, 0, none⟩), .iface 33 (.pointer (some ⟨bb, 0, none⟩))] w fun e w' => e = .returned (.agg (rsc (insS (g.st bb) x.irqd).r).toArray) ∧ Sp w G bb x (insS (g.st bb) x.irqd).g (insB (g.st bb) x.irqd) w' :=
  have hk := irqd_ok hx hl
  step_ins w G bb g x x.irqd _ (g.st bb) _ h
    (fun W B o => int_none W B bb (g.st bb) x o (hx.le.more (by omega)) ho hd hi) (fun k => irqd_row x k)
    (fun W B v o => (ins_any W B bb (g.st bb) (x.irqd.lvTo v) o ⟨hk.le, hk.tm, hk.vs, hk.ws⟩ (up_r hr 0 0 (by omega))).mono (by
      rintro e w' ⟨rfl, v2, o2, k2, l2⟩
      rw [insS_lv, insB_lv] at o2
      exact ⟨rfl, v2, o2, k2, l2⟩)) (fun k => (insB_row _ _ k).trans (irqd_row x k))
end Go.Proofs.YtghiffpolacmiabGreatDoor
namespace Go.Proofs.YtghiffpolacmiabGreatDoor
open Go.ChangeShapes Go.WideShapes Go.ChangeAt Go.RowKit
set_option linter.unusedVariables false

theorem dea_1 (v : Nat) (hv : v < 4294967296) (h : v / 67108864 = 1) : (de v = 0 ↔ (v : Int) % 16384 = 0) ∧ (de v = 0 → dI v = 0) := by
  have hO : dO v = 1 := by unfold dO; omega
  have r1 : v / 4194304 % 16 < 16 := Nat.mod_lt _ (by omega)
  have r2 : v / 262144 % 16 < 16 := Nat.mod_lt _ (by omega)
  have r3 : v / 16384 % 16 < 16 := Nat.mod_lt _ (by omega)
  unfold de dI stray dD dA dB ck rms rm im lo hi dR dF loF hiF isO
  rw [hO]
  simp only [show fo 1 = 1 from rfl, show tk 1 = 0 from rfl, show lD 1 = 22 from rfl, show lA 1 = 18 from rfl, show lB 1 = 14 from rfl, show pD 1 = 4194304 from rfl, show pA 1 = 262144 from rfl, show pB 1 = 16384 from rfl, show pI 1 = 1 from rfl, show hI 1 = 1 from rfl, show pU 1 = 16384 from rfl]
  simp [r1, r2, r3]
  try (refine ⟨⟨fun hh => ?_, fun hh => ?_⟩, fun hh => ?_⟩)
  all_goals (try (repeat' (split at hh)))
  all_goals (try (repeat' split))
  all_goals (try omega)
theorem dea_2 (v : Nat) (hv : v < 4294967296) (h : v / 67108864 = 2) : (de v = 0 ↔ (v : Int) % 16384 = 0) ∧ (de v = 0 → dI v = 0) := by
  have hO : dO v = 2 := by unfold dO; omega
  have r1 : v / 4194304 % 16 < 16 := Nat.mod_lt _ (by omega)
  have r2 : v / 262144 % 16 < 16 := Nat.mod_lt _ (by omega)
  have r3 : v / 16384 % 16 < 16 := Nat.mod_lt _ (by omega)
  unfold de dI stray dD dA dB ck rms rm im lo hi dR dF loF hiF isO
  rw [hO]
  simp only [show fo 2 = 1 from rfl, show tk 2 = 0 from rfl, show lD 1 = 22 from rfl, show lA 1 = 18 from rfl, show lB 1 = 14 from rfl, show pD 1 = 4194304 from rfl, show pA 1 = 262144 from rfl, show pB 1 = 16384 from rfl, show pI 1 = 1 from rfl, show hI 1 = 1 from rfl, show pU 1 = 16384 from rfl]
  simp [r1, r2, r3]
  try (refine ⟨⟨fun hh => ?_, fun hh => ?_⟩, fun hh => ?_⟩)
  all_goals (try (repeat' (split at hh)))
  all_goals (try (repeat' split))
  all_goals (try omega)
theorem dea_3 (v : Nat) (hv : v < 4294967296) (h : v / 67108864 = 3) : (de v = 0 ↔ (v : Int) % 16384 = 0) ∧ (de v = 0 → dI v = 0) := by
  have hO : dO v = 3 := by unfold dO; omega
  have r1 : v / 4194304 % 16 < 16 := Nat.mod_lt _ (by omega)
  have r2 : v / 262144 % 16 < 16 := Nat.mod_lt _ (by omega)
  have r3 : v / 16384 % 16 < 16 := Nat.mod_lt _ (by omega)
  unfold de dI stray dD dA dB ck rms rm im lo hi dR dF loF hiF isO
  rw [hO]
  simp only [show fo 3 = 1 from rfl, show tk 3 = 0 from rfl, show lD 1 = 22 from rfl, show lA 1 = 18 from rfl, show lB 1 = 14 from rfl, show pD 1 = 4194304 from rfl, show pA 1 = 262144 from rfl, show pB 1 = 16384 from rfl, show pI 1 = 1 from rfl, show hI 1 = 1 from rfl, show pU 1 = 16384 from rfl]
  simp [r1, r2, r3]
  try (refine ⟨⟨fun hh => ?_, fun hh => ?_⟩, fun hh => ?_⟩)
  all_goals (try (repeat' (split at hh)))
  all_goals (try (repeat' split))
  all_goals (try omega)
theorem dea_4 (v : Nat) (hv : v < 4294967296) (h : v / 67108864 = 4) : (de v = 0 ↔ (v : Int) % 16384 = 0) ∧ (de v = 0 → dI v = 0) := by
  have hO : dO v = 4 := by unfold dO; omega
  have r1 : v / 4194304 % 16 < 16 := Nat.mod_lt _ (by omega)
  have r2 : v / 262144 % 16 < 16 := Nat.mod_lt _ (by omega)
  have r3 : v / 16384 % 16 < 16 := Nat.mod_lt _ (by omega)
  unfold de dI stray dD dA dB ck rms rm im lo hi dR dF loF hiF isO
  rw [hO]
  simp only [show fo 4 = 1 from rfl, show tk 4 = 0 from rfl, show lD 1 = 22 from rfl, show lA 1 = 18 from rfl, show lB 1 = 14 from rfl, show pD 1 = 4194304 from rfl, show pA 1 = 262144 from rfl, show pB 1 = 16384 from rfl, show pI 1 = 1 from rfl, show hI 1 = 1 from rfl, show pU 1 = 16384 from rfl]
  simp [r1, r2, r3]
  try (refine ⟨⟨fun hh => ?_, fun hh => ?_⟩, fun hh => ?_⟩)
  all_goals (try (repeat' (split at hh)))
  all_goals (try (repeat' split))
  all_goals (try omega)
theorem dea_5 (v : Nat) (hv : v < 4294967296) (h : v / 67108864 = 5) : (de v = 0 ↔ (v : Int) % 16384 = 0) ∧ (de v = 0 → dI v = 0) := by
  have hO : dO v = 5 := by unfold dO; omega
  have r1 : v / 4194304 % 16 < 16 := Nat.mod_lt _ (by omega)
  have r2 : v / 262144 % 16 < 16 := Nat.mod_lt _ (by omega)
  have r3 : v / 16384 % 16 < 16 := Nat.mod_lt _ (by omega)
  unfold de dI stray dD dA dB ck rms rm im lo hi dR dF loF hiF isO
  rw [hO]
  simp only [show fo 5 = 1 from rfl, show tk 5 = 0 from rfl, show lD 1 = 22 from rfl, show lA 1 = 18 from rfl, show lB 1 = 14 from rfl, show pD 1 = 4194304 from rfl, show pA 1 = 262144 from rfl, show pB 1 = 16384 from rfl, show pI 1 = 1 from rfl, show hI 1 = 1 from rfl, show pU 1 = 16384 from rfl]
  simp [r1, r2, r3]
  try (refine ⟨⟨fun hh => ?_, fun hh => ?_⟩, fun hh => ?_⟩)
  all_goals (try (repeat' (split at hh)))
  all_goals (try (repeat' split))
  all_goals (try omega)
theorem dea_6 (v : Nat) (hv : v < 4294967296) (h : v / 67108864 = 6) : (de v = 0 ↔ (v : Int) % 16384 = 0) ∧ (de v = 0 → dI v = 0) := by
  have hO : dO v = 6 := by unfold dO; omega
  have r1 : v / 4194304 % 16 < 16 := Nat.mod_lt _ (by omega)
  have r2 : v / 262144 % 16 < 16 := Nat.mod_lt _ (by omega)
  have r3 : v / 16384 % 16 < 16 := Nat.mod_lt _ (by omega)
  unfold de dI stray dD dA dB ck rms rm im lo hi dR dF loF hiF isO
  rw [hO]
  simp only [show fo 6 = 1 from rfl, show tk 6 = 0 from rfl, show lD 1 = 22 from rfl, show lA 1 = 18 from rfl, show lB 1 = 14 from rfl, show pD 1 = 4194304 from rfl, show pA 1 = 262144 from rfl, show pB 1 = 16384 from rfl, show pI 1 = 1 from rfl, show hI 1 = 1 from rfl, show pU 1 = 16384 from rfl]
  simp [r1, r2, r3]
  try (refine ⟨⟨fun hh => ?_, fun hh => ?_⟩, fun hh => ?_⟩)
  all_goals (try (repeat' (split at hh)))
  all_goals (try (repeat' split))
  all_goals (try omega)
theorem dea_7 (v : Nat) (hv : v < 4294967296) (h : v / 67108864 = 7) : (de v = 0 ↔ (v : Int) % 16384 = 0) ∧ (de v = 0 → dI v = 0) := by
  have hO : dO v = 7 := by unfold dO; omega
  have r1 : v / 4194304 % 16 < 16 := Nat.mod_lt _ (by omega)
  have r2 : v / 262144 % 16 < 16 := Nat.mod_lt _ (by omega)
  have r3 : v / 16384 % 16 < 16 := Nat.mod_lt _ (by omega)
  unfold de dI stray dD dA dB ck rms rm im lo hi dR dF loF hiF isO
  rw [hO]
  simp only [show fo 7 = 1 from rfl, show tk 7 = 0 from rfl, show lD 1 = 22 from rfl, show lA 1 = 18 from rfl, show lB 1 = 14 from rfl, show pD 1 = 4194304 from rfl, show pA 1 = 262144 from rfl, show pB 1 = 16384 from rfl, show pI 1 = 1 from rfl, show hI 1 = 1 from rfl, show pU 1 = 16384 from rfl]
  simp [r1, r2, r3]
  try (refine ⟨⟨fun hh => ?_, fun hh => ?_⟩, fun hh => ?_⟩)
  all_goals (try (repeat' (split at hh)))
  all_goals (try (repeat' split))
  all_goals (try omega)
theorem dea_8 (v : Nat) (hv : v < 4294967296) (h : v / 67108864 = 8) : (de v = 0 ↔ (v : Int) % 16384 = 0) ∧ (de v = 0 → dI v = 0) := by
  have hO : dO v = 8 := by unfold dO; omega
  have r1 : v / 4194304 % 16 < 16 := Nat.mod_lt _ (by omega)
  have r2 : v / 262144 % 16 < 16 := Nat.mod_lt _ (by omega)
  have r3 : v / 16384 % 16 < 16 := Nat.mod_lt _ (by omega)
  unfold de dI stray dD dA dB ck rms rm im lo hi dR dF loF hiF isO
  rw [hO]
  simp only [show fo 8 = 1 from rfl, show tk 8 = 0 from rfl, show lD 1 = 22 from rfl, show lA 1 = 18 from rfl, show lB 1 = 14 from rfl, show pD 1 = 4194304 from rfl, show pA 1 = 262144 from rfl, show pB 1 = 16384 from rfl, show pI 1 = 1 from rfl, show hI 1 = 1 from rfl, show pU 1 = 16384 from rfl]
  simp [r1, r2, r3]
  try (refine ⟨⟨fun hh => ?_, fun hh => ?_⟩, fun hh => ?_⟩)
  all_goals (try (repeat' (split at hh)))
  all_goals (try (repeat' split))
  all_goals (try omega)
theorem dea_9 (v : Nat) (hv : v < 4294967296) (h : v / 67108864 = 9) : (de v = 0 ↔ (v : Int) % 16384 = 0) ∧ (de v = 0 → dI v = 0) := by
  have hO : dO v = 9 := by unfold dO; omega
  have r1 : v / 4194304 % 16 < 16 := Nat.mod_lt _ (by omega)
  have r2 : v / 262144 % 16 < 16 := Nat.mod_lt _ (by omega)
  have r3 : v / 16384 % 16 < 16 := Nat.mod_lt _ (by omega)
  unfold de dI stray dD dA dB ck rms rm im lo hi dR dF loF hiF isO
  rw [hO]
  simp only [show fo 9 = 1 from rfl, show tk 9 = 0 from rfl, show lD 1 = 22 from rfl, show lA 1 = 18 from rfl, show lB 1 = 14 from rfl, show pD 1 = 4194304 from rfl, show pA 1 = 262144 from rfl, show pB 1 = 16384 from rfl, show pI 1 = 1 from rfl, show hI 1 = 1 from rfl, show pU 1 = 16384 from rfl]
  simp [r1, r2, r3]
  try (refine ⟨⟨fun hh => ?_, fun hh => ?_⟩, fun hh => ?_⟩)
  all_goals (try (repeat' (split at hh)))
  all_goals (try (repeat' split))
  all_goals (try omega)
theorem dea_10 (v : Nat) (hv : v < 4294967296) (h : v / 67108864 = 10) : (de v = 0 ↔ (v : Int) % 16384 = 0) ∧ (de v = 0 → dI v = 0) := by
  have hO : dO v = 10 := by unfold dO; omega
  have r1 : v / 4194304 % 16 < 16 := Nat.mod_lt _ (by omega)
  have r2 : v / 262144 % 16 < 16 := Nat.mod_lt _ (by omega)
  have r3 : v / 16384 % 16 < 16 := Nat.mod_lt _ (by omega)
  unfold de dI stray dD dA dB ck rms rm im lo hi dR dF loF hiF isO
  rw [hO]
  simp only [show fo 10 = 1 from rfl, show tk 10 = 0 from rfl, show lD 1 = 22 from rfl, show lA 1 = 18 from rfl, show lB 1 = 14 from rfl, show pD 1 = 4194304 from rfl, show pA 1 = 262144 from rfl, show pB 1 = 16384 from rfl, show pI 1 = 1 from rfl, show hI 1 = 1 from rfl, show pU 1 = 16384 from rfl]
  simp [r1, r2, r3]
  try (refine ⟨⟨fun hh => ?_, fun hh => ?_⟩, fun hh => ?_⟩)
  all_goals (try (repeat' (split at hh)))
  all_goals (try (repeat' split))
  all_goals (try omega)
theorem dea_11 (v : Nat) (hv : v < 4294967296) (h : v / 67108864 = 11) : (de v = 0 ↔ (v : Int) % 16384 = 0) ∧ (de v = 0 → dI v = 0) := by
  have hO : dO v = 11 := by unfold dO; omega
  have r1 : v / 4194304 % 16 < 16 := Nat.mod_lt _ (by omega)
  have r2 : v / 262144 % 16 < 16 := Nat.mod_lt _ (by omega)
  have r3 : v / 16384 % 16 < 16 := Nat.mod_lt _ (by omega)
  unfold de dI stray dD dA dB ck rms rm im lo hi dR dF loF hiF isO
  rw [hO]
  simp only [show fo 11 = 1 from rfl, show tk 11 = 0 from rfl, show lD 1 = 22 from rfl, show lA 1 = 18 from rfl, show lB 1 = 14 from rfl, show pD 1 = 4194304 from rfl, show pA 1 = 262144 from rfl, show pB 1 = 16384 from rfl, show pI 1 = 1 from rfl, show hI 1 = 1 from rfl, show pU 1 = 16384 from rfl]
  simp [r1, r2, r3]
  try (refine ⟨⟨fun hh => ?_, fun hh => ?_⟩, fun hh => ?_⟩)
  all_goals (try (repeat' (split at hh)))
  all_goals (try (repeat' split))
  all_goals (try omega)
theorem dea_12 (v : Nat) (hv : v < 4294967296) (h : v / 67108864 = 12) : (de v = 0 ↔ (v : Int) % 16384 = 0) ∧ (de v = 0 → dI v = 0) := by
  have hO : dO v = 12 := by unfold dO; omega
  have r1 : v / 4194304 % 16 < 16 := Nat.mod_lt _ (by omega)
  have r2 : v / 262144 % 16 < 16 := Nat.mod_lt _ (by omega)
  have r3 : v / 16384 % 16 < 16 := Nat.mod_lt _ (by omega)
  unfold de dI stray dD dA dB ck rms rm im lo hi dR dF loF hiF isO
  rw [hO]
  simp only [show fo 12 = 1 from rfl, show tk 12 = 0 from rfl, show lD 1 = 22 from rfl, show lA 1 = 18 from rfl, show lB 1 = 14 from rfl, show pD 1 = 4194304 from rfl, show pA 1 = 262144 from rfl, show pB 1 = 16384 from rfl, show pI 1 = 1 from rfl, show hI 1 = 1 from rfl, show pU 1 = 16384 from rfl]
  simp [r1, r2, r3]
  try (refine ⟨⟨fun hh => ?_, fun hh => ?_⟩, fun hh => ?_⟩)
  all_goals (try (repeat' (split at hh)))
  all_goals (try (repeat' split))
  all_goals (try omega)
theorem dea_13 (v : Nat) (hv : v < 4294967296) (h : v / 67108864 = 13) : (de v = 0 ↔ (v : Int) % 16384 = 0) ∧ (de v = 0 → dI v = 0) := by
  have hO : dO v = 13 := by unfold dO; omega
  have r1 : v / 4194304 % 16 < 16 := Nat.mod_lt _ (by omega)
  have r2 : v / 262144 % 16 < 16 := Nat.mod_lt _ (by omega)
  have r3 : v / 16384 % 16 < 16 := Nat.mod_lt _ (by omega)
  unfold de dI stray dD dA dB ck rms rm im lo hi dR dF loF hiF isO
  rw [hO]
  simp only [show fo 13 = 1 from rfl, show tk 13 = 0 from rfl, show lD 1 = 22 from rfl, show lA 1 = 18 from rfl, show lB 1 = 14 from rfl, show pD 1 = 4194304 from rfl, show pA 1 = 262144 from rfl, show pB 1 = 16384 from rfl, show pI 1 = 1 from rfl, show hI 1 = 1 from rfl, show pU 1 = 16384 from rfl]
  simp [r1, r2, r3]
  try (refine ⟨⟨fun hh => ?_, fun hh => ?_⟩, fun hh => ?_⟩)
  all_goals (try (repeat' (split at hh)))
  all_goals (try (repeat' split))
  all_goals (try omega)
theorem dea_14 (v : Nat) (hv : v < 4294967296) (h : v / 67108864 = 14) : (de v = 0 ↔ True) ∧ (de v = 0 → dI v = (if 131072 ≤ (v : Int) % 262144 then (v : Int) % 262144 - 262144 else (v : Int) % 262144)) := by
  have hO : dO v = 14 := by unfold dO; omega
  have r1 : v / 4194304 % 16 < 16 := Nat.mod_lt _ (by omega)
  have r2 : v / 262144 % 16 < 16 := Nat.mod_lt _ (by omega)
  have r3 : v / 16384 % 16 < 16 := Nat.mod_lt _ (by omega)
  unfold de dI stray dD dA dB ck rms rm im lo hi dR dF loF hiF isO
  rw [hO]
  simp only [show fo 14 = 2 from rfl, show tk 14 = 1 from rfl, show lD 2 = 22 from rfl, show lA 2 = 18 from rfl, show lB 2 = 0 from rfl, show pD 2 = 4194304 from rfl, show pA 2 = 262144 from rfl, show pB 2 = 1 from rfl, show pI 2 = 262144 from rfl, show hI 2 = 131072 from rfl, show pU 2 = 1 from rfl]
  simp [r1, r2]
  try (refine ⟨⟨fun hh => ?_, fun hh => ?_⟩, fun hh => ?_⟩)
  all_goals (try (repeat' (split at hh)))
  all_goals (try (repeat' split))
  all_goals (try omega)
theorem dea_15 (v : Nat) (hv : v < 4294967296) (h : v / 67108864 = 15) : (de v = 0 ↔ True) ∧ (de v = 0 → dI v = (v : Int) % 262144) := by
  have hO : dO v = 15 := by unfold dO; omega
  have r1 : v / 4194304 % 16 < 16 := Nat.mod_lt _ (by omega)
  have r2 : v / 262144 % 16 < 16 := Nat.mod_lt _ (by omega)
  have r3 : v / 16384 % 16 < 16 := Nat.mod_lt _ (by omega)
  unfold de dI stray dD dA dB ck rms rm im lo hi dR dF loF hiF isO
  rw [hO]
  simp only [show fo 15 = 2 from rfl, show tk 15 = 3 from rfl, show lD 2 = 22 from rfl, show lA 2 = 18 from rfl, show lB 2 = 0 from rfl, show pD 2 = 4194304 from rfl, show pA 2 = 262144 from rfl, show pB 2 = 1 from rfl, show pI 2 = 262144 from rfl, show hI 2 = 131072 from rfl, show pU 2 = 1 from rfl]
  simp [r1, r2]
  try (refine ⟨⟨fun hh => ?_, fun hh => ?_⟩, fun hh => ?_⟩)
  all_goals (try (repeat' (split at hh)))
  all_goals (try (repeat' split))
  all_goals (try omega)
theorem dea_16 (v : Nat) (hv : v < 4294967296) (h : v / 67108864 = 16) : (de v = 0 ↔ True) ∧ (de v = 0 → dI v = (v : Int) % 262144) := by
  have hO : dO v = 16 := by unfold dO; omega
  have r1 : v / 4194304 % 16 < 16 := Nat.mod_lt _ (by omega)
  have r2 : v / 262144 % 16 < 16 := Nat.mod_lt _ (by omega)
  have r3 : v / 16384 % 16 < 16 := Nat.mod_lt _ (by omega)
  unfold de dI stray dD dA dB ck rms rm im lo hi dR dF loF hiF isO
  rw [hO]
  simp only [show fo 16 = 2 from rfl, show tk 16 = 3 from rfl, show lD 2 = 22 from rfl, show lA 2 = 18 from rfl, show lB 2 = 0 from rfl, show pD 2 = 4194304 from rfl, show pA 2 = 262144 from rfl, show pB 2 = 1 from rfl, show pI 2 = 262144 from rfl, show hI 2 = 131072 from rfl, show pU 2 = 1 from rfl]
  simp [r1, r2]
  try (refine ⟨⟨fun hh => ?_, fun hh => ?_⟩, fun hh => ?_⟩)
  all_goals (try (repeat' (split at hh)))
  all_goals (try (repeat' split))
  all_goals (try omega)
theorem dea_17 (v : Nat) (hv : v < 4294967296) (h : v / 67108864 = 17) : (de v = 0 ↔ True) ∧ (de v = 0 → dI v = (v : Int) % 262144) := by
  have hO : dO v = 17 := by unfold dO; omega
  have r1 : v / 4194304 % 16 < 16 := Nat.mod_lt _ (by omega)
  have r2 : v / 262144 % 16 < 16 := Nat.mod_lt _ (by omega)
  have r3 : v / 16384 % 16 < 16 := Nat.mod_lt _ (by omega)
  unfold de dI stray dD dA dB ck rms rm im lo hi dR dF loF hiF isO
  rw [hO]
  simp only [show fo 17 = 2 from rfl, show tk 17 = 3 from rfl, show lD 2 = 22 from rfl, show lA 2 = 18 from rfl, show lB 2 = 0 from rfl, show pD 2 = 4194304 from rfl, show pA 2 = 262144 from rfl, show pB 2 = 1 from rfl, show pI 2 = 262144 from rfl, show hI 2 = 131072 from rfl, show pU 2 = 1 from rfl]
  simp [r1, r2]
  try (refine ⟨⟨fun hh => ?_, fun hh => ?_⟩, fun hh => ?_⟩)
  all_goals (try (repeat' (split at hh)))
  all_goals (try (repeat' split))
  all_goals (try omega)
theorem dea_18 (v : Nat) (hv : v < 4294967296) (h : v / 67108864 = 18) : (de v = 0 ↔ (v : Int) % 262144 ≤ 31) ∧ (de v = 0 → dI v = (v : Int) % 262144) := by
  have hO : dO v = 18 := by unfold dO; omega
  have r1 : v / 4194304 % 16 < 16 := Nat.mod_lt _ (by omega)
  have r2 : v / 262144 % 16 < 16 := Nat.mod_lt _ (by omega)
  have r3 : v / 16384 % 16 < 16 := Nat.mod_lt _ (by omega)
  unfold de dI stray dD dA dB ck rms rm im lo hi dR dF loF hiF isO
  rw [hO]
  simp only [show fo 18 = 2 from rfl, show tk 18 = 4 from rfl, show lD 2 = 22 from rfl, show lA 2 = 18 from rfl, show lB 2 = 0 from rfl, show pD 2 = 4194304 from rfl, show pA 2 = 262144 from rfl, show pB 2 = 1 from rfl, show pI 2 = 262144 from rfl, show hI 2 = 131072 from rfl, show pU 2 = 1 from rfl]
  simp [r1, r2]
  try (refine ⟨⟨fun hh => ?_, fun hh => ?_⟩, fun hh => ?_⟩)
  all_goals (try (repeat' (split at hh)))
  all_goals (try (repeat' split))
  all_goals (try omega)
theorem dea_19 (v : Nat) (hv : v < 4294967296) (h : v / 67108864 = 19) : (de v = 0 ↔ (v : Int) % 262144 ≤ 31) ∧ (de v = 0 → dI v = (v : Int) % 262144) := by
  have hO : dO v = 19 := by unfold dO; omega
  have r1 : v / 4194304 % 16 < 16 := Nat.mod_lt _ (by omega)
  have r2 : v / 262144 % 16 < 16 := Nat.mod_lt _ (by omega)
  have r3 : v / 16384 % 16 < 16 := Nat.mod_lt _ (by omega)
  unfold de dI stray dD dA dB ck rms rm im lo hi dR dF loF hiF isO
  rw [hO]
  simp only [show fo 19 = 2 from rfl, show tk 19 = 4 from rfl, show lD 2 = 22 from rfl, show lA 2 = 18 from rfl, show lB 2 = 0 from rfl, show pD 2 = 4194304 from rfl, show pA 2 = 262144 from rfl, show pB 2 = 1 from rfl, show pI 2 = 262144 from rfl, show hI 2 = 131072 from rfl, show pU 2 = 1 from rfl]
  simp [r1, r2]
  try (refine ⟨⟨fun hh => ?_, fun hh => ?_⟩, fun hh => ?_⟩)
  all_goals (try (repeat' (split at hh)))
  all_goals (try (repeat' split))
  all_goals (try omega)
theorem dea_20 (v : Nat) (hv : v < 4294967296) (h : v / 67108864 = 20) : (de v = 0 ↔ (v : Int) % 262144 ≤ 31) ∧ (de v = 0 → dI v = (v : Int) % 262144) := by
  have hO : dO v = 20 := by unfold dO; omega
  have r1 : v / 4194304 % 16 < 16 := Nat.mod_lt _ (by omega)
  have r2 : v / 262144 % 16 < 16 := Nat.mod_lt _ (by omega)
  have r3 : v / 16384 % 16 < 16 := Nat.mod_lt _ (by omega)
  unfold de dI stray dD dA dB ck rms rm im lo hi dR dF loF hiF isO
  rw [hO]
  simp only [show fo 20 = 2 from rfl, show tk 20 = 4 from rfl, show lD 2 = 22 from rfl, show lA 2 = 18 from rfl, show lB 2 = 0 from rfl, show pD 2 = 4194304 from rfl, show pA 2 = 262144 from rfl, show pB 2 = 1 from rfl, show pI 2 = 262144 from rfl, show hI 2 = 131072 from rfl, show pU 2 = 1 from rfl]
  simp [r1, r2]
  try (refine ⟨⟨fun hh => ?_, fun hh => ?_⟩, fun hh => ?_⟩)
  all_goals (try (repeat' (split at hh)))
  all_goals (try (repeat' split))
  all_goals (try omega)
theorem dea_21 (v : Nat) (hv : v < 4294967296) (h : v / 67108864 = 21) : (de v = 0 ↔ True) ∧ (de v = 0 → dI v = (if 131072 ≤ (v : Int) % 262144 then (v : Int) % 262144 - 262144 else (v : Int) % 262144)) := by
  have hO : dO v = 21 := by unfold dO; omega
  have r1 : v / 4194304 % 16 < 16 := Nat.mod_lt _ (by omega)
  have r2 : v / 262144 % 16 < 16 := Nat.mod_lt _ (by omega)
  have r3 : v / 16384 % 16 < 16 := Nat.mod_lt _ (by omega)
  unfold de dI stray dD dA dB ck rms rm im lo hi dR dF loF hiF isO
  rw [hO]
  simp only [show fo 21 = 2 from rfl, show tk 21 = 1 from rfl, show lD 2 = 22 from rfl, show lA 2 = 18 from rfl, show lB 2 = 0 from rfl, show pD 2 = 4194304 from rfl, show pA 2 = 262144 from rfl, show pB 2 = 1 from rfl, show pI 2 = 262144 from rfl, show hI 2 = 131072 from rfl, show pU 2 = 1 from rfl]
  simp [r1, r2]
  try (refine ⟨⟨fun hh => ?_, fun hh => ?_⟩, fun hh => ?_⟩)
  all_goals (try (repeat' (split at hh)))
  all_goals (try (repeat' split))
  all_goals (try omega)
theorem dea_22 (v : Nat) (hv : v < 4294967296) (h : v / 67108864 = 22) : (de v = 0 ↔ True) ∧ (de v = 0 → dI v = (if 131072 ≤ (v : Int) % 262144 then (v : Int) % 262144 - 262144 else (v : Int) % 262144)) := by
  have hO : dO v = 22 := by unfold dO; omega
  have r1 : v / 4194304 % 16 < 16 := Nat.mod_lt _ (by omega)
  have r2 : v / 262144 % 16 < 16 := Nat.mod_lt _ (by omega)
  have r3 : v / 16384 % 16 < 16 := Nat.mod_lt _ (by omega)
  unfold de dI stray dD dA dB ck rms rm im lo hi dR dF loF hiF isO
  rw [hO]
  simp only [show fo 22 = 2 from rfl, show tk 22 = 1 from rfl, show lD 2 = 22 from rfl, show lA 2 = 18 from rfl, show lB 2 = 0 from rfl, show pD 2 = 4194304 from rfl, show pA 2 = 262144 from rfl, show pB 2 = 1 from rfl, show pI 2 = 262144 from rfl, show hI 2 = 131072 from rfl, show pU 2 = 1 from rfl]
  simp [r1, r2]
  try (refine ⟨⟨fun hh => ?_, fun hh => ?_⟩, fun hh => ?_⟩)
  all_goals (try (repeat' (split at hh)))
  all_goals (try (repeat' split))
  all_goals (try omega)
theorem dea_23 (v : Nat) (hv : v < 4294967296) (h : v / 67108864 = 23) : (de v = 0 ↔ (v : Int) % 4194304 < 262144) ∧ (de v = 0 → dI v = (v : Int) % 4194304) := by
  have hO : dO v = 23 := by unfold dO; omega
  have r1 : v / 4194304 % 16 < 16 := Nat.mod_lt _ (by omega)
  have r2 : v / 262144 % 16 < 16 := Nat.mod_lt _ (by omega)
  have r3 : v / 16384 % 16 < 16 := Nat.mod_lt _ (by omega)
  unfold de dI stray dD dA dB ck rms rm im lo hi dR dF loF hiF isO
  rw [hO]
  simp only [show fo 23 = 4 from rfl, show tk 23 = 3 from rfl, show lD 4 = 22 from rfl, show lA 4 = 0 from rfl, show lB 4 = 0 from rfl, show pD 4 = 4194304 from rfl, show pA 4 = 1 from rfl, show pB 4 = 1 from rfl, show pI 4 = 4194304 from rfl, show hI 4 = 2097152 from rfl, show pU 4 = 1 from rfl]
  simp [r1]
  try (refine ⟨⟨fun hh => ?_, fun hh => ?_⟩, fun hh => ?_⟩)
  all_goals (try (repeat' (split at hh)))
  all_goals (try (repeat' split))
  all_goals (try omega)
theorem dea_24 (v : Nat) (hv : v < 4294967296) (h : v / 67108864 = 24) : (de v = 0 ↔ True) ∧ (de v = 0 → dI v = (if 131072 ≤ (v : Int) % 262144 then (v : Int) % 262144 - 262144 else (v : Int) % 262144)) := by
  have hO : dO v = 24 := by unfold dO; omega
  have r1 : v / 4194304 % 16 < 16 := Nat.mod_lt _ (by omega)
  have r2 : v / 262144 % 16 < 16 := Nat.mod_lt _ (by omega)
  have r3 : v / 16384 % 16 < 16 := Nat.mod_lt _ (by omega)
  unfold de dI stray dD dA dB ck rms rm im lo hi dR dF loF hiF isO
  rw [hO]
  simp only [show fo 24 = 2 from rfl, show tk 24 = 2 from rfl, show lD 2 = 22 from rfl, show lA 2 = 18 from rfl, show lB 2 = 0 from rfl, show pD 2 = 4194304 from rfl, show pA 2 = 262144 from rfl, show pB 2 = 1 from rfl, show pI 2 = 262144 from rfl, show hI 2 = 131072 from rfl, show pU 2 = 1 from rfl]
  simp [r1, r2]
  try (refine ⟨⟨fun hh => ?_, fun hh => ?_⟩, fun hh => ?_⟩)
  all_goals (try (repeat' (split at hh)))
  all_goals (try (repeat' split))
  all_goals (try omega)
theorem dea_25 (v : Nat) (hv : v < 4294967296) (h : v / 67108864 = 25) : (de v = 0 ↔ True) ∧ (de v = 0 → dI v = (if 131072 ≤ (v : Int) % 262144 then (v : Int) % 262144 - 262144 else (v : Int) % 262144)) := by
  have hO : dO v = 25 := by unfold dO; omega
  have r1 : v / 4194304 % 16 < 16 := Nat.mod_lt _ (by omega)
  have r2 : v / 262144 % 16 < 16 := Nat.mod_lt _ (by omega)
  have r3 : v / 16384 % 16 < 16 := Nat.mod_lt _ (by omega)
  unfold de dI stray dD dA dB ck rms rm im lo hi dR dF loF hiF isO
  rw [hO]
  simp only [show fo 25 = 2 from rfl, show tk 25 = 2 from rfl, show lD 2 = 22 from rfl, show lA 2 = 18 from rfl, show lB 2 = 0 from rfl, show pD 2 = 4194304 from rfl, show pA 2 = 262144 from rfl, show pB 2 = 1 from rfl, show pI 2 = 262144 from rfl, show hI 2 = 131072 from rfl, show pU 2 = 1 from rfl]
  simp [r1, r2]
  try (refine ⟨⟨fun hh => ?_, fun hh => ?_⟩, fun hh => ?_⟩)
  all_goals (try (repeat' (split at hh)))
  all_goals (try (repeat' split))
  all_goals (try omega)
theorem dea_26 (v : Nat) (hv : v < 4294967296) (h : v / 67108864 = 26) : (de v = 0 ↔ True) ∧ (de v = 0 → dI v = (if 131072 ≤ (v : Int) % 262144 then (v : Int) % 262144 - 262144 else (v : Int) % 262144)) := by
  have hO : dO v = 26 := by unfold dO; omega
  have r1 : v / 4194304 % 16 < 16 := Nat.mod_lt _ (by omega)
  have r2 : v / 262144 % 16 < 16 := Nat.mod_lt _ (by omega)
  have r3 : v / 16384 % 16 < 16 := Nat.mod_lt _ (by omega)
  unfold de dI stray dD dA dB ck rms rm im lo hi dR dF loF hiF isO
  rw [hO]
  simp only [show fo 26 = 2 from rfl, show tk 26 = 2 from rfl, show lD 2 = 22 from rfl, show lA 2 = 18 from rfl, show lB 2 = 0 from rfl, show pD 2 = 4194304 from rfl, show pA 2 = 262144 from rfl, show pB 2 = 1 from rfl, show pI 2 = 262144 from rfl, show hI 2 = 131072 from rfl, show pU 2 = 1 from rfl]
  simp [r1, r2]
  try (refine ⟨⟨fun hh => ?_, fun hh => ?_⟩, fun hh => ?_⟩)
  all_goals (try (repeat' (split at hh)))
  all_goals (try (repeat' split))
  all_goals (try omega)
theorem dea_27 (v : Nat) (hv : v < 4294967296) (h : v / 67108864 = 27) : (de v = 0 ↔ True) ∧ (de v = 0 → dI v = (if 131072 ≤ (v : Int) % 262144 then (v : Int) % 262144 - 262144 else (v : Int) % 262144)) := by
  have hO : dO v = 27 := by unfold dO; omega
  have r1 : v / 4194304 % 16 < 16 := Nat.mod_lt _ (by omega)
  have r2 : v / 262144 % 16 < 16 := Nat.mod_lt _ (by omega)
  have r3 : v / 16384 % 16 < 16 := Nat.mod_lt _ (by omega)
  unfold de dI stray dD dA dB ck rms rm im lo hi dR dF loF hiF isO
  rw [hO]
  simp only [show fo 27 = 2 from rfl, show tk 27 = 2 from rfl, show lD 2 = 22 from rfl, show lA 2 = 18 from rfl, show lB 2 = 0 from rfl, show pD 2 = 4194304 from rfl, show pA 2 = 262144 from rfl, show pB 2 = 1 from rfl, show pI 2 = 262144 from rfl, show hI 2 = 131072 from rfl, show pU 2 = 1 from rfl]
  simp [r1, r2]
  try (refine ⟨⟨fun hh => ?_, fun hh => ?_⟩, fun hh => ?_⟩)
  all_goals (try (repeat' (split at hh)))
  all_goals (try (repeat' split))
  all_goals (try omega)
theorem dea_28 (v : Nat) (hv : v < 4294967296) (h : v / 67108864 = 28) : (de v = 0 ↔ True) ∧ (de v = 0 → dI v = (if 131072 ≤ (v : Int) % 262144 then (v : Int) % 262144 - 262144 else (v : Int) % 262144)) := by
  have hO : dO v = 28 := by unfold dO; omega
  have r1 : v / 4194304 % 16 < 16 := Nat.mod_lt _ (by omega)
  have r2 : v / 262144 % 16 < 16 := Nat.mod_lt _ (by omega)
  have r3 : v / 16384 % 16 < 16 := Nat.mod_lt _ (by omega)
  unfold de dI stray dD dA dB ck rms rm im lo hi dR dF loF hiF isO
  rw [hO]
  simp only [show fo 28 = 2 from rfl, show tk 28 = 2 from rfl, show lD 2 = 22 from rfl, show lA 2 = 18 from rfl, show lB 2 = 0 from rfl, show pD 2 = 4194304 from rfl, show pA 2 = 262144 from rfl, show pB 2 = 1 from rfl, show pI 2 = 262144 from rfl, show hI 2 = 131072 from rfl, show pU 2 = 1 from rfl]
  simp [r1, r2]
  try (refine ⟨⟨fun hh => ?_, fun hh => ?_⟩, fun hh => ?_⟩)
  all_goals (try (repeat' (split at hh)))
  all_goals (try (repeat' split))
  all_goals (try omega)
theorem dea_29 (v : Nat) (hv : v < 4294967296) (h : v / 67108864 = 29) : (de v = 0 ↔ True) ∧ (de v = 0 → dI v = (if 131072 ≤ (v : Int) % 262144 then (v : Int) % 262144 - 262144 else (v : Int) % 262144)) := by
  have hO : dO v = 29 := by unfold dO; omega
  have r1 : v / 4194304 % 16 < 16 := Nat.mod_lt _ (by omega)
  have r2 : v / 262144 % 16 < 16 := Nat.mod_lt _ (by omega)
  have r3 : v / 16384 % 16 < 16 := Nat.mod_lt _ (by omega)
  unfold de dI stray dD dA dB ck rms rm im lo hi dR dF loF hiF isO
  rw [hO]
  simp only [show fo 29 = 3 from rfl, show tk 29 = 2 from rfl, show lD 3 = 0 from rfl, show lA 3 = 22 from rfl, show lB 3 = 18 from rfl, show pD 3 = 1 from rfl, show pA 3 = 4194304 from rfl, show pB 3 = 262144 from rfl, show pI 3 = 262144 from rfl, show hI 3 = 131072 from rfl, show pU 3 = 1 from rfl]
  simp [r1, r2]
  try (refine ⟨⟨fun hh => ?_, fun hh => ?_⟩, fun hh => ?_⟩)
  all_goals (try (repeat' (split at hh)))
  all_goals (try (repeat' split))
  all_goals (try omega)
theorem dea_30 (v : Nat) (hv : v < 4294967296) (h : v / 67108864 = 30) : (de v = 0 ↔ True) ∧ (de v = 0 → dI v = (if 131072 ≤ (v : Int) % 262144 then (v : Int) % 262144 - 262144 else (v : Int) % 262144)) := by
  have hO : dO v = 30 := by unfold dO; omega
  have r1 : v / 4194304 % 16 < 16 := Nat.mod_lt _ (by omega)
  have r2 : v / 262144 % 16 < 16 := Nat.mod_lt _ (by omega)
  have r3 : v / 16384 % 16 < 16 := Nat.mod_lt _ (by omega)
  unfold de dI stray dD dA dB ck rms rm im lo hi dR dF loF hiF isO
  rw [hO]
  simp only [show fo 30 = 3 from rfl, show tk 30 = 2 from rfl, show lD 3 = 0 from rfl, show lA 3 = 22 from rfl, show lB 3 = 18 from rfl, show pD 3 = 1 from rfl, show pA 3 = 4194304 from rfl, show pB 3 = 262144 from rfl, show pI 3 = 262144 from rfl, show hI 3 = 131072 from rfl, show pU 3 = 1 from rfl]
  simp [r1, r2]
  try (refine ⟨⟨fun hh => ?_, fun hh => ?_⟩, fun hh => ?_⟩)
  all_goals (try (repeat' (split at hh)))
  all_goals (try (repeat' split))
  all_goals (try omega)
theorem dea_31 (v : Nat) (hv : v < 4294967296) (h : v / 67108864 = 31) : (de v = 0 ↔ True) ∧ (de v = 0 → dI v = (if 131072 ≤ (v : Int) % 262144 then (v : Int) % 262144 - 262144 else (v : Int) % 262144)) := by
  have hO : dO v = 31 := by unfold dO; omega
  have r1 : v / 4194304 % 16 < 16 := Nat.mod_lt _ (by omega)
  have r2 : v / 262144 % 16 < 16 := Nat.mod_lt _ (by omega)
  have r3 : v / 16384 % 16 < 16 := Nat.mod_lt _ (by omega)
  unfold de dI stray dD dA dB ck rms rm im lo hi dR dF loF hiF isO
  rw [hO]
  simp only [show fo 31 = 3 from rfl, show tk 31 = 2 from rfl, show lD 3 = 0 from rfl, show lA 3 = 22 from rfl, show lB 3 = 18 from rfl, show pD 3 = 1 from rfl, show pA 3 = 4194304 from rfl, show pB 3 = 262144 from rfl, show pI 3 = 262144 from rfl, show hI 3 = 131072 from rfl, show pU 3 = 1 from rfl]
  simp [r1, r2]
  try (refine ⟨⟨fun hh => ?_, fun hh => ?_⟩, fun hh => ?_⟩)
  all_goals (try (repeat' (split at hh)))
  all_goals (try (repeat' split))
  all_goals (try omega)
theorem dea_32 (v : Nat) (hv : v < 4294967296) (h : v / 67108864 = 32) : (de v = 0 ↔ True) ∧ (de v = 0 → dI v = (if 131072 ≤ (v : Int) % 262144 then (v : Int) % 262144 - 262144 else (v : Int) % 262144)) := by
  have hO : dO v = 32 := by unfold dO; omega
  have r1 : v / 4194304 % 16 < 16 := Nat.mod_lt _ (by omega)
  have r2 : v / 262144 % 16 < 16 := Nat.mod_lt _ (by omega)
  have r3 : v / 16384 % 16 < 16 := Nat.mod_lt _ (by omega)
  unfold de dI stray dD dA dB ck rms rm im lo hi dR dF loF hiF isO
  rw [hO]
  simp only [show fo 32 = 3 from rfl, show tk 32 = 1 from rfl, show lD 3 = 0 from rfl, show lA 3 = 22 from rfl, show lB 3 = 18 from rfl, show pD 3 = 1 from rfl, show pA 3 = 4194304 from rfl, show pB 3 = 262144 from rfl, show pI 3 = 262144 from rfl, show hI 3 = 131072 from rfl, show pU 3 = 1 from rfl]
  simp [r1, r2]
  try (refine ⟨⟨fun hh => ?_, fun hh => ?_⟩, fun hh => ?_⟩)
  all_goals (try (repeat' (split at hh)))
  all_goals (try (repeat' split))
  all_goals (try omega)
theorem dea_33 (v : Nat) (hv : v < 4294967296) (h : v / 67108864 = 33) : (de v = 0 ↔ True) ∧ (de v = 0 → dI v = (if 131072 ≤ (v : Int) % 262144 then (v : Int) % 262144 - 262144 else (v : Int) % 262144)) := by
  have hO : dO v = 33 := by unfold dO; omega
  have r1 : v / 4194304 % 16 < 16 := Nat.mod_lt _ (by omega)
  have r2 : v / 262144 % 16 < 16 := Nat.mod_lt _ (by omega)
  have r3 : v / 16384 % 16 < 16 := Nat.mod_lt _ (by omega)
  unfold de dI stray dD dA dB ck rms rm im lo hi dR dF loF hiF isO
  rw [hO]
  simp only [show fo 33 = 3 from rfl, show tk 33 = 1 from rfl, show lD 3 = 0 from rfl, show lA 3 = 22 from rfl, show lB 3 = 18 from rfl, show pD 3 = 1 from rfl, show pA 3 = 4194304 from rfl, show pB 3 = 262144 from rfl, show pI 3 = 262144 from rfl, show hI 3 = 131072 from rfl, show pU 3 = 1 from rfl]
  simp [r1, r2]
  try (refine ⟨⟨fun hh => ?_, fun hh => ?_⟩, fun hh => ?_⟩)
  all_goals (try (repeat' (split at hh)))
  all_goals (try (repeat' split))
  all_goals (try omega)
theorem dea_34 (v : Nat) (hv : v < 4294967296) (h : v / 67108864 = 34) : (de v = 0 ↔ True) ∧ (de v = 0 → dI v = (if 131072 ≤ (v : Int) % 262144 then (v : Int) % 262144 - 262144 else (v : Int) % 262144)) := by
  have hO : dO v = 34 := by unfold dO; omega
  have r1 : v / 4194304 % 16 < 16 := Nat.mod_lt _ (by omega)
  have r2 : v / 262144 % 16 < 16 := Nat.mod_lt _ (by omega)
  have r3 : v / 16384 % 16 < 16 := Nat.mod_lt _ (by omega)
  unfold de dI stray dD dA dB ck rms rm im lo hi dR dF loF hiF isO
  rw [hO]
  simp only [show fo 34 = 3 from rfl, show tk 34 = 1 from rfl, show lD 3 = 0 from rfl, show lA 3 = 22 from rfl, show lB 3 = 18 from rfl, show pD 3 = 1 from rfl, show pA 3 = 4194304 from rfl, show pB 3 = 262144 from rfl, show pI 3 = 262144 from rfl, show hI 3 = 131072 from rfl, show pU 3 = 1 from rfl]
  simp [r1, r2]
  try (refine ⟨⟨fun hh => ?_, fun hh => ?_⟩, fun hh => ?_⟩)
  all_goals (try (repeat' (split at hh)))
  all_goals (try (repeat' split))
  all_goals (try omega)
theorem dea_35 (v : Nat) (hv : v < 4294967296) (h : v / 67108864 = 35) : (de v = 0 ↔ True) ∧ (de v = 0 → dI v = (if 131072 ≤ (v : Int) % 262144 then (v : Int) % 262144 - 262144 else (v : Int) % 262144)) := by
  have hO : dO v = 35 := by unfold dO; omega
  have r1 : v / 4194304 % 16 < 16 := Nat.mod_lt _ (by omega)
  have r2 : v / 262144 % 16 < 16 := Nat.mod_lt _ (by omega)
  have r3 : v / 16384 % 16 < 16 := Nat.mod_lt _ (by omega)
  unfold de dI stray dD dA dB ck rms rm im lo hi dR dF loF hiF isO
  rw [hO]
  simp only [show fo 35 = 3 from rfl, show tk 35 = 1 from rfl, show lD 3 = 0 from rfl, show lA 3 = 22 from rfl, show lB 3 = 18 from rfl, show pD 3 = 1 from rfl, show pA 3 = 4194304 from rfl, show pB 3 = 262144 from rfl, show pI 3 = 262144 from rfl, show hI 3 = 131072 from rfl, show pU 3 = 1 from rfl]
  simp [r1, r2]
  try (refine ⟨⟨fun hh => ?_, fun hh => ?_⟩, fun hh => ?_⟩)
  all_goals (try (repeat' (split at hh)))
  all_goals (try (repeat' split))
  all_goals (try omega)
theorem dea_36 (v : Nat) (hv : v < 4294967296) (h : v / 67108864 = 36) : (de v = 0 ↔ True) ∧ (de v = 0 → dI v = (if 131072 ≤ (v : Int) % 262144 then (v : Int) % 262144 - 262144 else (v : Int) % 262144)) := by
  have hO : dO v = 36 := by unfold dO; omega
  have r1 : v / 4194304 % 16 < 16 := Nat.mod_lt _ (by omega)
  have r2 : v / 262144 % 16 < 16 := Nat.mod_lt _ (by omega)
  have r3 : v / 16384 % 16 < 16 := Nat.mod_lt _ (by omega)
  unfold de dI stray dD dA dB ck rms rm im lo hi dR dF loF hiF isO
  rw [hO]
  simp only [show fo 36 = 3 from rfl, show tk 36 = 1 from rfl, show lD 3 = 0 from rfl, show lA 3 = 22 from rfl, show lB 3 = 18 from rfl, show pD 3 = 1 from rfl, show pA 3 = 4194304 from rfl, show pB 3 = 262144 from rfl, show pI 3 = 262144 from rfl, show hI 3 = 131072 from rfl, show pU 3 = 1 from rfl]
  simp [r1, r2]
  try (refine ⟨⟨fun hh => ?_, fun hh => ?_⟩, fun hh => ?_⟩)
  all_goals (try (repeat' (split at hh)))
  all_goals (try (repeat' split))
  all_goals (try omega)
theorem dea_37 (v : Nat) (hv : v < 4294967296) (h : v / 67108864 = 37) : (de v = 0 ↔ True) ∧ (de v = 0 → dI v = (if 131072 ≤ (v : Int) % 262144 then (v : Int) % 262144 - 262144 else (v : Int) % 262144)) := by
  have hO : dO v = 37 := by unfold dO; omega
  have r1 : v / 4194304 % 16 < 16 := Nat.mod_lt _ (by omega)
  have r2 : v / 262144 % 16 < 16 := Nat.mod_lt _ (by omega)
  have r3 : v / 16384 % 16 < 16 := Nat.mod_lt _ (by omega)
  unfold de dI stray dD dA dB ck rms rm im lo hi dR dF loF hiF isO
  rw [hO]
  simp only [show fo 37 = 3 from rfl, show tk 37 = 1 from rfl, show lD 3 = 0 from rfl, show lA 3 = 22 from rfl, show lB 3 = 18 from rfl, show pD 3 = 1 from rfl, show pA 3 = 4194304 from rfl, show pB 3 = 262144 from rfl, show pI 3 = 262144 from rfl, show hI 3 = 131072 from rfl, show pU 3 = 1 from rfl]
  simp [r1, r2]
  try (refine ⟨⟨fun hh => ?_, fun hh => ?_⟩, fun hh => ?_⟩)
  all_goals (try (repeat' (split at hh)))
  all_goals (try (repeat' split))
  all_goals (try omega)
theorem dea_38 (v : Nat) (hv : v < 4294967296) (h : v / 67108864 = 38) : (de v = 0 ↔ True) ∧ (de v = 0 → dI v = (if 2097152 ≤ (v : Int) % 4194304 then (v : Int) % 4194304 - 4194304 else (v : Int) % 4194304)) := by
  have hO : dO v = 38 := by unfold dO; omega
  have r1 : v / 4194304 % 16 < 16 := Nat.mod_lt _ (by omega)
  have r2 : v / 262144 % 16 < 16 := Nat.mod_lt _ (by omega)
  have r3 : v / 16384 % 16 < 16 := Nat.mod_lt _ (by omega)
  unfold de dI stray dD dA dB ck rms rm im lo hi dR dF loF hiF isO
  rw [hO]
  simp only [show fo 38 = 4 from rfl, show tk 38 = 1 from rfl, show lD 4 = 22 from rfl, show lA 4 = 0 from rfl, show lB 4 = 0 from rfl, show pD 4 = 4194304 from rfl, show pA 4 = 1 from rfl, show pB 4 = 1 from rfl, show pI 4 = 4194304 from rfl, show hI 4 = 2097152 from rfl, show pU 4 = 1 from rfl]
  simp [r1]
  try (refine ⟨⟨fun hh => ?_, fun hh => ?_⟩, fun hh => ?_⟩)
  all_goals (try (repeat' (split at hh)))
  all_goals (try (repeat' split))
  all_goals (try omega)
theorem dea_39 (v : Nat) (hv : v < 4294967296) (h : v / 67108864 = 39) : (de v = 0 ↔ True) ∧ (de v = 0 → dI v = (if 131072 ≤ (v : Int) % 262144 then (v : Int) % 262144 - 262144 else (v : Int) % 262144)) := by
  have hO : dO v = 39 := by unfold dO; omega
  have r1 : v / 4194304 % 16 < 16 := Nat.mod_lt _ (by omega)
  have r2 : v / 262144 % 16 < 16 := Nat.mod_lt _ (by omega)
  have r3 : v / 16384 % 16 < 16 := Nat.mod_lt _ (by omega)
  unfold de dI stray dD dA dB ck rms rm im lo hi dR dF loF hiF isO
  rw [hO]
  simp only [show fo 39 = 2 from rfl, show tk 39 = 1 from rfl, show lD 2 = 22 from rfl, show lA 2 = 18 from rfl, show lB 2 = 0 from rfl, show pD 2 = 4194304 from rfl, show pA 2 = 262144 from rfl, show pB 2 = 1 from rfl, show pI 2 = 262144 from rfl, show hI 2 = 131072 from rfl, show pU 2 = 1 from rfl]
  simp [r1, r2]
  try (refine ⟨⟨fun hh => ?_, fun hh => ?_⟩, fun hh => ?_⟩)
  all_goals (try (repeat' (split at hh)))
  all_goals (try (repeat' split))
  all_goals (try omega)
theorem dea_40 (v : Nat) (hv : v < 4294967296) (h : v / 67108864 = 40) : (de v = 0 ↔ (v : Int) % 67108864 < 262144) ∧ (de v = 0 → dI v = (v : Int) % 67108864) := by
  have hO : dO v = 40 := by unfold dO; omega
  have r1 : v / 4194304 % 16 < 16 := Nat.mod_lt _ (by omega)
  have r2 : v / 262144 % 16 < 16 := Nat.mod_lt _ (by omega)
  have r3 : v / 16384 % 16 < 16 := Nat.mod_lt _ (by omega)
  unfold de dI stray dD dA dB ck rms rm im lo hi dR dF loF hiF isO
  rw [hO]
  simp only [show fo 40 = 7 from rfl, show tk 40 = 3 from rfl, show lD 7 = 0 from rfl, show lA 7 = 0 from rfl, show lB 7 = 0 from rfl, show pD 7 = 1 from rfl, show pA 7 = 1 from rfl, show pB 7 = 1 from rfl, show pI 7 = 67108864 from rfl, show hI 7 = 33554432 from rfl, show pU 7 = 1 from rfl]
  simp
  try (refine ⟨⟨fun hh => ?_, fun hh => ?_⟩, fun hh => ?_⟩)
  all_goals (try (repeat' (split at hh)))
  all_goals (try (repeat' split))
  all_goals (try omega)
theorem dea_41 (v : Nat) (hv : v < 4294967296) (h : v / 67108864 = 41) : (de v = 0 ↔ (v : Int) % 4194304 = 0) ∧ (de v = 0 → dI v = 0) := by
  have hO : dO v = 41 := by unfold dO; omega
  have r1 : v / 4194304 % 16 < 16 := Nat.mod_lt _ (by omega)
  have r2 : v / 262144 % 16 < 16 := Nat.mod_lt _ (by omega)
  have r3 : v / 16384 % 16 < 16 := Nat.mod_lt _ (by omega)
  unfold de dI stray dD dA dB ck rms rm im lo hi dR dF loF hiF isO
  rw [hO]
  simp only [show fo 41 = 5 from rfl, show tk 41 = 0 from rfl, show lD 5 = 22 from rfl, show lA 5 = 0 from rfl, show lB 5 = 0 from rfl, show pD 5 = 4194304 from rfl, show pA 5 = 1 from rfl, show pB 5 = 1 from rfl, show pI 5 = 1 from rfl, show hI 5 = 1 from rfl, show pU 5 = 4194304 from rfl]
  simp [r1]
  try (refine ⟨⟨fun hh => ?_, fun hh => ?_⟩, fun hh => ?_⟩)
  all_goals (try (repeat' (split at hh)))
  all_goals (try (repeat' split))
  all_goals (try omega)
theorem dea_42 (v : Nat) (hv : v < 4294967296) (h : v / 67108864 = 42) : (de v = 0 ↔ (v : Int) % 67108864 = 0) ∧ (de v = 0 → dI v = 0) := by
  have hO : dO v = 42 := by unfold dO; omega
  have r1 : v / 4194304 % 16 < 16 := Nat.mod_lt _ (by omega)
  have r2 : v / 262144 % 16 < 16 := Nat.mod_lt _ (by omega)
  have r3 : v / 16384 % 16 < 16 := Nat.mod_lt _ (by omega)
  unfold de dI stray dD dA dB ck rms rm im lo hi dR dF loF hiF isO
  rw [hO]
  simp only [show fo 42 = 8 from rfl, show tk 42 = 0 from rfl, show lD 8 = 0 from rfl, show lA 8 = 0 from rfl, show lB 8 = 0 from rfl, show pD 8 = 1 from rfl, show pA 8 = 1 from rfl, show pB 8 = 1 from rfl, show pI 8 = 1 from rfl, show hI 8 = 1 from rfl, show pU 8 = 67108864 from rfl]
  simp
  try (refine ⟨⟨fun hh => ?_, fun hh => ?_⟩, fun hh => ?_⟩)
  all_goals (try (repeat' (split at hh)))
  all_goals (try (repeat' split))
  all_goals (try omega)
theorem dea_43 (v : Nat) (hv : v < 4294967296) (h : v / 67108864 = 43) : (de v = 0 ↔ (v : Int) % 67108864 = 0) ∧ (de v = 0 → dI v = 0) := by
  have hO : dO v = 43 := by unfold dO; omega
  have r1 : v / 4194304 % 16 < 16 := Nat.mod_lt _ (by omega)
  have r2 : v / 262144 % 16 < 16 := Nat.mod_lt _ (by omega)
  have r3 : v / 16384 % 16 < 16 := Nat.mod_lt _ (by omega)
  unfold de dI stray dD dA dB ck rms rm im lo hi dR dF loF hiF isO
  rw [hO]
  simp only [show fo 43 = 8 from rfl, show tk 43 = 0 from rfl, show lD 8 = 0 from rfl, show lA 8 = 0 from rfl, show lB 8 = 0 from rfl, show pD 8 = 1 from rfl, show pA 8 = 1 from rfl, show pB 8 = 1 from rfl, show pI 8 = 1 from rfl, show hI 8 = 1 from rfl, show pU 8 = 67108864 from rfl]
  simp
  try (refine ⟨⟨fun hh => ?_, fun hh => ?_⟩, fun hh => ?_⟩)
  all_goals (try (repeat' (split at hh)))
  all_goals (try (repeat' split))
  all_goals (try omega)
theorem dea_44 (v : Nat) (hv : v < 4294967296) (h : v / 67108864 = 44) : (de v = 0 ↔ (v : Int) % 67108864 = 0) ∧ (de v = 0 → dI v = 0) := by
  have hO : dO v = 44 := by unfold dO; omega
  have r1 : v / 4194304 % 16 < 16 := Nat.mod_lt _ (by omega)
  have r2 : v / 262144 % 16 < 16 := Nat.mod_lt _ (by omega)
  have r3 : v / 16384 % 16 < 16 := Nat.mod_lt _ (by omega)
  unfold de dI stray dD dA dB ck rms rm im lo hi dR dF loF hiF isO
  rw [hO]
  simp only [show fo 44 = 8 from rfl, show tk 44 = 0 from rfl, show lD 8 = 0 from rfl, show lA 8 = 0 from rfl, show lB 8 = 0 from rfl, show pD 8 = 1 from rfl, show pA 8 = 1 from rfl, show pB 8 = 1 from rfl, show pI 8 = 1 from rfl, show hI 8 = 1 from rfl, show pU 8 = 67108864 from rfl]
  simp
  try (refine ⟨⟨fun hh => ?_, fun hh => ?_⟩, fun hh => ?_⟩)
  all_goals (try (repeat' (split at hh)))
  all_goals (try (repeat' split))
  all_goals (try omega)
theorem dea_45 (v : Nat) (hv : v < 4294967296) (h : v / 67108864 = 45) : (de v = 0 ↔ (v : Int) % 67108864 = 0) ∧ (de v = 0 → dI v = 0) := by
  have hO : dO v = 45 := by unfold dO; omega
  have r1 : v / 4194304 % 16 < 16 := Nat.mod_lt _ (by omega)
  have r2 : v / 262144 % 16 < 16 := Nat.mod_lt _ (by omega)
  have r3 : v / 16384 % 16 < 16 := Nat.mod_lt _ (by omega)
  unfold de dI stray dD dA dB ck rms rm im lo hi dR dF loF hiF isO
  rw [hO]
  simp only [show fo 45 = 8 from rfl, show tk 45 = 0 from rfl, show lD 8 = 0 from rfl, show lA 8 = 0 from rfl, show lB 8 = 0 from rfl, show pD 8 = 1 from rfl, show pA 8 = 1 from rfl, show pB 8 = 1 from rfl, show pI 8 = 1 from rfl, show hI 8 = 1 from rfl, show pU 8 = 67108864 from rfl]
  simp
  try (refine ⟨⟨fun hh => ?_, fun hh => ?_⟩, fun hh => ?_⟩)
  all_goals (try (repeat' (split at hh)))
  all_goals (try (repeat' split))
  all_goals (try omega)
theorem dea_46 (v : Nat) (hv : v < 4294967296) (h : v / 67108864 = 46) : (de v = 0 ↔ (v : Int) % 4194304 = 0) ∧ (de v = 0 → dI v = 0) := by
  have hO : dO v = 46 := by unfold dO; omega
  have r1 : v / 4194304 % 16 < 16 := Nat.mod_lt _ (by omega)
  have r2 : v / 262144 % 16 < 16 := Nat.mod_lt _ (by omega)
  have r3 : v / 16384 % 16 < 16 := Nat.mod_lt _ (by omega)
  unfold de dI stray dD dA dB ck rms rm im lo hi dR dF loF hiF isO
  rw [hO]
  simp only [show fo 46 = 6 from rfl, show tk 46 = 0 from rfl, show lD 6 = 0 from rfl, show lA 6 = 22 from rfl, show lB 6 = 0 from rfl, show pD 6 = 1 from rfl, show pA 6 = 4194304 from rfl, show pB 6 = 1 from rfl, show pI 6 = 1 from rfl, show hI 6 = 1 from rfl, show pU 6 = 4194304 from rfl]
  simp [r1]
  try (refine ⟨⟨fun hh => ?_, fun hh => ?_⟩, fun hh => ?_⟩)
  all_goals (try (repeat' (split at hh)))
  all_goals (try (repeat' split))
  all_goals (try omega)
theorem dea_47 (v : Nat) (hv : v < 4294967296) (h : v / 67108864 = 47) : (de v = 0 ↔ (v : Int) % 67108864 = 0) ∧ (de v = 0 → dI v = 0) := by
  have hO : dO v = 47 := by unfold dO; omega
  have r1 : v / 4194304 % 16 < 16 := Nat.mod_lt _ (by omega)
  have r2 : v / 262144 % 16 < 16 := Nat.mod_lt _ (by omega)
  have r3 : v / 16384 % 16 < 16 := Nat.mod_lt _ (by omega)
  unfold de dI stray dD dA dB ck rms rm im lo hi dR dF loF hiF isO
  rw [hO]
  simp only [show fo 47 = 8 from rfl, show tk 47 = 0 from rfl, show lD 8 = 0 from rfl, show lA 8 = 0 from rfl, show lB 8 = 0 from rfl, show pD 8 = 1 from rfl, show pA 8 = 1 from rfl, show pB 8 = 1 from rfl, show pI 8 = 1 from rfl, show hI 8 = 1 from rfl, show pU 8 = 67108864 from rfl]
  simp
  try (refine ⟨⟨fun hh => ?_, fun hh => ?_⟩, fun hh => ?_⟩)
  all_goals (try (repeat' (split at hh)))
  all_goals (try (repeat' split))
  all_goals (try omega)
theorem dea_48 (v : Nat) (hv : v < 4294967296) (h : v / 67108864 = 48) : (de v = 0 ↔ (v : Int) % 67108864 = 0) ∧ (de v = 0 → dI v = 0) := by
  have hO : dO v = 48 := by unfold dO; omega
  have r1 : v / 4194304 % 16 < 16 := Nat.mod_lt _ (by omega)
  have r2 : v / 262144 % 16 < 16 := Nat.mod_lt _ (by omega)
  have r3 : v / 16384 % 16 < 16 := Nat.mod_lt _ (by omega)
  unfold de dI stray dD dA dB ck rms rm im lo hi dR dF loF hiF isO
  rw [hO]
  simp only [show fo 48 = 8 from rfl, show tk 48 = 0 from rfl, show lD 8 = 0 from rfl, show lA 8 = 0 from rfl, show lB 8 = 0 from rfl, show pD 8 = 1 from rfl, show pA 8 = 1 from rfl, show pB 8 = 1 from rfl, show pI 8 = 1 from rfl, show hI 8 = 1 from rfl, show pU 8 = 67108864 from rfl]
  simp
  try (refine ⟨⟨fun hh => ?_, fun hh => ?_⟩, fun hh => ?_⟩)
  all_goals (try (repeat' (split at hh)))
  all_goals (try (repeat' split))
  all_goals (try omega)
theorem dea_no (v : Nat) (h : v / 67108864 = 0 ∨ 48 < v / 67108864) : de v ≠ 0 := by
  have hO : isO (dO v) = false := by
    unfold isO dO
    simp
    omega
  unfold de
  rw [if_pos hO]
  omega
end Go.Proofs.YtghiffpolacmiabGreatDoor
namespace Go.Proofs.YtghiffpolacmiabGreatDoor
open Go.ChangeShapes Go.WideShapes Go.ChangeAt Go.RowKit
set_option linter.unusedVariables false

def PaV (v : Nat) : Value := prV (dO v - 1) ((v : Int) / 4194304 % 16) ((v : Int) / 262144 % 16) ((v : Int) / 16384 % 16) (dI v)
def PaN : Value := prV (-1) 0 0 0 0
theorem apy_1 (w : World) (v : Nat) (hv : v < 4294967296) (h : v / 67108864 = 1) (hd : de v = 0) : Calls Tryz.prog 15 #[.int .u32 (v : Nat)] w fun e w' => e = .returned (PaV v) ∧ Kp w w' := by
  obtain ⟨c, d⟩ := dea_1 v hv h
  have hO : dO v - 1 = 0 := by unfold dO; omega
  unfold PaV
  rw [hO, d hd]
  exact apart_c w v hv _ _ _ 0 (by omega) (by omega) rfl rfl rfl (by omega) (c.1 hd)
theorem apn_1 (w : World) (v : Nat) (hv : v < 4294967296) (h : v / 67108864 = 1) (hd : de v ≠ 0) : Calls Tryz.prog 15 #[.int .u32 (v : Nat)] w fun e w' => e = .returned PaN ∧ Kp w w' := by
  obtain ⟨c, d⟩ := dea_1 v hv h
  exact apart_d w v hv _ _ _ 0 (by omega) (by omega) rfl rfl rfl (by omega) (by have := mt c.2 hd; omega)
theorem apy_2 (w : World) (v : Nat) (hv : v < 4294967296) (h : v / 67108864 = 2) (hd : de v = 0) : Calls Tryz.prog 15 #[.int .u32 (v : Nat)] w fun e w' => e = .returned (PaV v) ∧ Kp w w' := by
  obtain ⟨c, d⟩ := dea_2 v hv h
  have hO : dO v - 1 = 1 := by unfold dO; omega
  unfold PaV
  rw [hO, d hd]
  exact apart_c w v hv _ _ _ 1 (by omega) (by omega) rfl rfl rfl (by omega) (c.1 hd)
theorem apn_2 (w : World) (v : Nat) (hv : v < 4294967296) (h : v / 67108864 = 2) (hd : de v ≠ 0) : Calls Tryz.prog 15 #[.int .u32 (v : Nat)] w fun e w' => e = .returned PaN ∧ Kp w w' := by
  obtain ⟨c, d⟩ := dea_2 v hv h
  exact apart_d w v hv _ _ _ 1 (by omega) (by omega) rfl rfl rfl (by omega) (by have := mt c.2 hd; omega)
theorem apy_3 (w : World) (v : Nat) (hv : v < 4294967296) (h : v / 67108864 = 3) (hd : de v = 0) : Calls Tryz.prog 15 #[.int .u32 (v : Nat)] w fun e w' => e = .returned (PaV v) ∧ Kp w w' := by
  obtain ⟨c, d⟩ := dea_3 v hv h
  have hO : dO v - 1 = 2 := by unfold dO; omega
  unfold PaV
  rw [hO, d hd]
  exact apart_c w v hv _ _ _ 2 (by omega) (by omega) rfl rfl rfl (by omega) (c.1 hd)
theorem apn_3 (w : World) (v : Nat) (hv : v < 4294967296) (h : v / 67108864 = 3) (hd : de v ≠ 0) : Calls Tryz.prog 15 #[.int .u32 (v : Nat)] w fun e w' => e = .returned PaN ∧ Kp w w' := by
  obtain ⟨c, d⟩ := dea_3 v hv h
  exact apart_d w v hv _ _ _ 2 (by omega) (by omega) rfl rfl rfl (by omega) (by have := mt c.2 hd; omega)
theorem apy_4 (w : World) (v : Nat) (hv : v < 4294967296) (h : v / 67108864 = 4) (hd : de v = 0) : Calls Tryz.prog 15 #[.int .u32 (v : Nat)] w fun e w' => e = .returned (PaV v) ∧ Kp w w' := by
  obtain ⟨c, d⟩ := dea_4 v hv h
  have hO : dO v - 1 = 3 := by unfold dO; omega
  unfold PaV
  rw [hO, d hd]
  exact apart_c w v hv _ _ _ 3 (by omega) (by omega) rfl rfl rfl (by omega) (c.1 hd)
theorem apn_4 (w : World) (v : Nat) (hv : v < 4294967296) (h : v / 67108864 = 4) (hd : de v ≠ 0) : Calls Tryz.prog 15 #[.int .u32 (v : Nat)] w fun e w' => e = .returned PaN ∧ Kp w w' := by
  obtain ⟨c, d⟩ := dea_4 v hv h
  exact apart_d w v hv _ _ _ 3 (by omega) (by omega) rfl rfl rfl (by omega) (by have := mt c.2 hd; omega)
theorem apy_5 (w : World) (v : Nat) (hv : v < 4294967296) (h : v / 67108864 = 5) (hd : de v = 0) : Calls Tryz.prog 15 #[.int .u32 (v : Nat)] w fun e w' => e = .returned (PaV v) ∧ Kp w w' := by
  obtain ⟨c, d⟩ := dea_5 v hv h
  have hO : dO v - 1 = 4 := by unfold dO; omega
  unfold PaV
  rw [hO, d hd]
  exact apart_c w v hv _ _ _ 4 (by omega) (by omega) rfl rfl rfl (by omega) (c.1 hd)
theorem apn_5 (w : World) (v : Nat) (hv : v < 4294967296) (h : v / 67108864 = 5) (hd : de v ≠ 0) : Calls Tryz.prog 15 #[.int .u32 (v : Nat)] w fun e w' => e = .returned PaN ∧ Kp w w' := by
  obtain ⟨c, d⟩ := dea_5 v hv h
  exact apart_d w v hv _ _ _ 4 (by omega) (by omega) rfl rfl rfl (by omega) (by have := mt c.2 hd; omega)
theorem apy_6 (w : World) (v : Nat) (hv : v < 4294967296) (h : v / 67108864 = 6) (hd : de v = 0) : Calls Tryz.prog 15 #[.int .u32 (v : Nat)] w fun e w' => e = .returned (PaV v) ∧ Kp w w' := by
  obtain ⟨c, d⟩ := dea_6 v hv h
  have hO : dO v - 1 = 5 := by unfold dO; omega
  unfold PaV
  rw [hO, d hd]
  exact apart_c w v hv _ _ _ 5 (by omega) (by omega) rfl rfl rfl (by omega) (c.1 hd)
theorem apn_6 (w : World) (v : Nat) (hv : v < 4294967296) (h : v / 67108864 = 6) (hd : de v ≠ 0) : Calls Tryz.prog 15 #[.int .u32 (v : Nat)] w fun e w' => e = .returned PaN ∧ Kp w w' := by
  obtain ⟨c, d⟩ := dea_6 v hv h
  exact apart_d w v hv _ _ _ 5 (by omega) (by omega) rfl rfl rfl (by omega) (by have := mt c.2 hd; omega)
theorem apy_7 (w : World) (v : Nat) (hv : v < 4294967296) (h : v / 67108864 = 7) (hd : de v = 0) : Calls Tryz.prog 15 #[.int .u32 (v : Nat)] w fun e w' => e = .returned (PaV v) ∧ Kp w w' := by
  obtain ⟨c, d⟩ := dea_7 v hv h
  have hO : dO v - 1 = 6 := by unfold dO; omega
  unfold PaV
  rw [hO, d hd]
  exact apart_c w v hv _ _ _ 6 (by omega) (by omega) rfl rfl rfl (by omega) (c.1 hd)
theorem apn_7 (w : World) (v : Nat) (hv : v < 4294967296) (h : v / 67108864 = 7) (hd : de v ≠ 0) : Calls Tryz.prog 15 #[.int .u32 (v : Nat)] w fun e w' => e = .returned PaN ∧ Kp w w' := by
  obtain ⟨c, d⟩ := dea_7 v hv h
  exact apart_d w v hv _ _ _ 6 (by omega) (by omega) rfl rfl rfl (by omega) (by have := mt c.2 hd; omega)
theorem apy_8 (w : World) (v : Nat) (hv : v < 4294967296) (h : v / 67108864 = 8) (hd : de v = 0) : Calls Tryz.prog 15 #[.int .u32 (v : Nat)] w fun e w' => e = .returned (PaV v) ∧ Kp w w' := by
  obtain ⟨c, d⟩ := dea_8 v hv h
  have hO : dO v - 1 = 7 := by unfold dO; omega
  unfold PaV
  rw [hO, d hd]
  exact apart_c w v hv _ _ _ 7 (by omega) (by omega) rfl rfl rfl (by omega) (c.1 hd)
theorem apn_8 (w : World) (v : Nat) (hv : v < 4294967296) (h : v / 67108864 = 8) (hd : de v ≠ 0) : Calls Tryz.prog 15 #[.int .u32 (v : Nat)] w fun e w' => e = .returned PaN ∧ Kp w w' := by
  obtain ⟨c, d⟩ := dea_8 v hv h
  exact apart_d w v hv _ _ _ 7 (by omega) (by omega) rfl rfl rfl (by omega) (by have := mt c.2 hd; omega)
theorem apy_9 (w : World) (v : Nat) (hv : v < 4294967296) (h : v / 67108864 = 9) (hd : de v = 0) : Calls Tryz.prog 15 #[.int .u32 (v : Nat)] w fun e w' => e = .returned (PaV v) ∧ Kp w w' := by
  obtain ⟨c, d⟩ := dea_9 v hv h
  have hO : dO v - 1 = 8 := by unfold dO; omega
  unfold PaV
  rw [hO, d hd]
  exact apart_c w v hv _ _ _ 8 (by omega) (by omega) rfl rfl rfl (by omega) (c.1 hd)
theorem apn_9 (w : World) (v : Nat) (hv : v < 4294967296) (h : v / 67108864 = 9) (hd : de v ≠ 0) : Calls Tryz.prog 15 #[.int .u32 (v : Nat)] w fun e w' => e = .returned PaN ∧ Kp w w' := by
  obtain ⟨c, d⟩ := dea_9 v hv h
  exact apart_d w v hv _ _ _ 8 (by omega) (by omega) rfl rfl rfl (by omega) (by have := mt c.2 hd; omega)
theorem apy_10 (w : World) (v : Nat) (hv : v < 4294967296) (h : v / 67108864 = 10) (hd : de v = 0) : Calls Tryz.prog 15 #[.int .u32 (v : Nat)] w fun e w' => e = .returned (PaV v) ∧ Kp w w' := by
  obtain ⟨c, d⟩ := dea_10 v hv h
  have hO : dO v - 1 = 9 := by unfold dO; omega
  unfold PaV
  rw [hO, d hd]
  exact apart_c w v hv _ _ _ 9 (by omega) (by omega) rfl rfl rfl (by omega) (c.1 hd)
theorem apn_10 (w : World) (v : Nat) (hv : v < 4294967296) (h : v / 67108864 = 10) (hd : de v ≠ 0) : Calls Tryz.prog 15 #[.int .u32 (v : Nat)] w fun e w' => e = .returned PaN ∧ Kp w w' := by
  obtain ⟨c, d⟩ := dea_10 v hv h
  exact apart_d w v hv _ _ _ 9 (by omega) (by omega) rfl rfl rfl (by omega) (by have := mt c.2 hd; omega)
theorem apy_11 (w : World) (v : Nat) (hv : v < 4294967296) (h : v / 67108864 = 11) (hd : de v = 0) : Calls Tryz.prog 15 #[.int .u32 (v : Nat)] w fun e w' => e = .returned (PaV v) ∧ Kp w w' := by
  obtain ⟨c, d⟩ := dea_11 v hv h
  have hO : dO v - 1 = 10 := by unfold dO; omega
  unfold PaV
  rw [hO, d hd]
  exact apart_c w v hv _ _ _ 10 (by omega) (by omega) rfl rfl rfl (by omega) (c.1 hd)
theorem apn_11 (w : World) (v : Nat) (hv : v < 4294967296) (h : v / 67108864 = 11) (hd : de v ≠ 0) : Calls Tryz.prog 15 #[.int .u32 (v : Nat)] w fun e w' => e = .returned PaN ∧ Kp w w' := by
  obtain ⟨c, d⟩ := dea_11 v hv h
  exact apart_d w v hv _ _ _ 10 (by omega) (by omega) rfl rfl rfl (by omega) (by have := mt c.2 hd; omega)
theorem apy_12 (w : World) (v : Nat) (hv : v < 4294967296) (h : v / 67108864 = 12) (hd : de v = 0) : Calls Tryz.prog 15 #[.int .u32 (v : Nat)] w fun e w' => e = .returned (PaV v) ∧ Kp w w' := by
  obtain ⟨c, d⟩ := dea_12 v hv h
  have hO : dO v - 1 = 11 := by unfold dO; omega
  unfold PaV
  rw [hO, d hd]
  exact apart_c w v hv _ _ _ 11 (by omega) (by omega) rfl rfl rfl (by omega) (c.1 hd)
theorem apn_12 (w : World) (v : Nat) (hv : v < 4294967296) (h : v / 67108864 = 12) (hd : de v ≠ 0) : Calls Tryz.prog 15 #[.int .u32 (v : Nat)] w fun e w' => e = .returned PaN ∧ Kp w w' := by
  obtain ⟨c, d⟩ := dea_12 v hv h
  exact apart_d w v hv _ _ _ 11 (by omega) (by omega) rfl rfl rfl (by omega) (by have := mt c.2 hd; omega)
theorem apy_13 (w : World) (v : Nat) (hv : v < 4294967296) (h : v / 67108864 = 13) (hd : de v = 0) : Calls Tryz.prog 15 #[.int .u32 (v : Nat)] w fun e w' => e = .returned (PaV v) ∧ Kp w w' := by
  obtain ⟨c, d⟩ := dea_13 v hv h
  have hO : dO v - 1 = 12 := by unfold dO; omega
  unfold PaV
  rw [hO, d hd]
  exact apart_c w v hv _ _ _ 12 (by omega) (by omega) rfl rfl rfl (by omega) (c.1 hd)
theorem apn_13 (w : World) (v : Nat) (hv : v < 4294967296) (h : v / 67108864 = 13) (hd : de v ≠ 0) : Calls Tryz.prog 15 #[.int .u32 (v : Nat)] w fun e w' => e = .returned PaN ∧ Kp w w' := by
  obtain ⟨c, d⟩ := dea_13 v hv h
  exact apart_d w v hv _ _ _ 12 (by omega) (by omega) rfl rfl rfl (by omega) (by have := mt c.2 hd; omega)
theorem apy_14 (w : World) (v : Nat) (hv : v < 4294967296) (h : v / 67108864 = 14) (hd : de v = 0) : Calls Tryz.prog 15 #[.int .u32 (v : Nat)] w fun e w' => e = .returned (PaV v) ∧ Kp w w' := by
  obtain ⟨c, d⟩ := dea_14 v hv h
  have hO : dO v - 1 = 13 := by unfold dO; omega
  unfold PaV
  rw [hO, d hd]
  exact apart_e w v hv _ _ _ (by omega) rfl rfl rfl
theorem apn_14 (w : World) (v : Nat) (hv : v < 4294967296) (h : v / 67108864 = 14) (hd : de v ≠ 0) : Calls Tryz.prog 15 #[.int .u32 (v : Nat)] w fun e w' => e = .returned PaN ∧ Kp w w' := by
  obtain ⟨c, d⟩ := dea_14 v hv h
  exact absurd (c.2 trivial) hd
theorem apy_15 (w : World) (v : Nat) (hv : v < 4294967296) (h : v / 67108864 = 15) (hd : de v = 0) : Calls Tryz.prog 15 #[.int .u32 (v : Nat)] w fun e w' => e = .returned (PaV v) ∧ Kp w w' := by
  obtain ⟨c, d⟩ := dea_15 v hv h
  have hO : dO v - 1 = 14 := by unfold dO; omega
  unfold PaV
  rw [hO, d hd]
  exact apart_j w v hv _ _ _ 14 (by omega) (by omega) rfl rfl rfl (by omega)
theorem apn_15 (w : World) (v : Nat) (hv : v < 4294967296) (h : v / 67108864 = 15) (hd : de v ≠ 0) : Calls Tryz.prog 15 #[.int .u32 (v : Nat)] w fun e w' => e = .returned PaN ∧ Kp w w' := by
  obtain ⟨c, d⟩ := dea_15 v hv h
  exact absurd (c.2 trivial) hd
theorem apy_16 (w : World) (v : Nat) (hv : v < 4294967296) (h : v / 67108864 = 16) (hd : de v = 0) : Calls Tryz.prog 15 #[.int .u32 (v : Nat)] w fun e w' => e = .returned (PaV v) ∧ Kp w w' := by
  obtain ⟨c, d⟩ := dea_16 v hv h
  have hO : dO v - 1 = 15 := by unfold dO; omega
  unfold PaV
  rw [hO, d hd]
  exact apart_j w v hv _ _ _ 15 (by omega) (by omega) rfl rfl rfl (by omega)
theorem apn_16 (w : World) (v : Nat) (hv : v < 4294967296) (h : v / 67108864 = 16) (hd : de v ≠ 0) : Calls Tryz.prog 15 #[.int .u32 (v : Nat)] w fun e w' => e = .returned PaN ∧ Kp w w' := by
  obtain ⟨c, d⟩ := dea_16 v hv h
  exact absurd (c.2 trivial) hd
theorem apy_17 (w : World) (v : Nat) (hv : v < 4294967296) (h : v / 67108864 = 17) (hd : de v = 0) : Calls Tryz.prog 15 #[.int .u32 (v : Nat)] w fun e w' => e = .returned (PaV v) ∧ Kp w w' := by
  obtain ⟨c, d⟩ := dea_17 v hv h
  have hO : dO v - 1 = 16 := by unfold dO; omega
  unfold PaV
  rw [hO, d hd]
  exact apart_j w v hv _ _ _ 16 (by omega) (by omega) rfl rfl rfl (by omega)
theorem apn_17 (w : World) (v : Nat) (hv : v < 4294967296) (h : v / 67108864 = 17) (hd : de v ≠ 0) : Calls Tryz.prog 15 #[.int .u32 (v : Nat)] w fun e w' => e = .returned PaN ∧ Kp w w' := by
  obtain ⟨c, d⟩ := dea_17 v hv h
  exact absurd (c.2 trivial) hd
theorem apy_18 (w : World) (v : Nat) (hv : v < 4294967296) (h : v / 67108864 = 18) (hd : de v = 0) : Calls Tryz.prog 15 #[.int .u32 (v : Nat)] w fun e w' => e = .returned (PaV v) ∧ Kp w w' := by
  obtain ⟨c, d⟩ := dea_18 v hv h
  have hO : dO v - 1 = 17 := by unfold dO; omega
  unfold PaV
  rw [hO, d hd]
  exact apart_k w v hv _ _ _ 17 (by omega) (by omega) rfl rfl rfl (by omega) (c.1 hd)
theorem apn_18 (w : World) (v : Nat) (hv : v < 4294967296) (h : v / 67108864 = 18) (hd : de v ≠ 0) : Calls Tryz.prog 15 #[.int .u32 (v : Nat)] w fun e w' => e = .returned PaN ∧ Kp w w' := by
  obtain ⟨c, d⟩ := dea_18 v hv h
  exact apart_l w v hv _ _ _ 17 (by omega) (by omega) rfl rfl rfl (by omega) (by have := mt c.2 hd; omega)
theorem apy_19 (w : World) (v : Nat) (hv : v < 4294967296) (h : v / 67108864 = 19) (hd : de v = 0) : Calls Tryz.prog 15 #[.int .u32 (v : Nat)] w fun e w' => e = .returned (PaV v) ∧ Kp w w' := by
  obtain ⟨c, d⟩ := dea_19 v hv h
  have hO : dO v - 1 = 18 := by unfold dO; omega
  unfold PaV
  rw [hO, d hd]
  exact apart_k w v hv _ _ _ 18 (by omega) (by omega) rfl rfl rfl (by omega) (c.1 hd)
theorem apn_19 (w : World) (v : Nat) (hv : v < 4294967296) (h : v / 67108864 = 19) (hd : de v ≠ 0) : Calls Tryz.prog 15 #[.int .u32 (v : Nat)] w fun e w' => e = .returned PaN ∧ Kp w w' := by
  obtain ⟨c, d⟩ := dea_19 v hv h
  exact apart_l w v hv _ _ _ 18 (by omega) (by omega) rfl rfl rfl (by omega) (by have := mt c.2 hd; omega)
theorem apy_20 (w : World) (v : Nat) (hv : v < 4294967296) (h : v / 67108864 = 20) (hd : de v = 0) : Calls Tryz.prog 15 #[.int .u32 (v : Nat)] w fun e w' => e = .returned (PaV v) ∧ Kp w w' := by
  obtain ⟨c, d⟩ := dea_20 v hv h
  have hO : dO v - 1 = 19 := by unfold dO; omega
  unfold PaV
  rw [hO, d hd]
  exact apart_k w v hv _ _ _ 19 (by omega) (by omega) rfl rfl rfl (by omega) (c.1 hd)
theorem apn_20 (w : World) (v : Nat) (hv : v < 4294967296) (h : v / 67108864 = 20) (hd : de v ≠ 0) : Calls Tryz.prog 15 #[.int .u32 (v : Nat)] w fun e w' => e = .returned PaN ∧ Kp w w' := by
  obtain ⟨c, d⟩ := dea_20 v hv h
  exact apart_l w v hv _ _ _ 19 (by omega) (by omega) rfl rfl rfl (by omega) (by have := mt c.2 hd; omega)
theorem apy_21 (w : World) (v : Nat) (hv : v < 4294967296) (h : v / 67108864 = 21) (hd : de v = 0) : Calls Tryz.prog 15 #[.int .u32 (v : Nat)] w fun e w' => e = .returned (PaV v) ∧ Kp w w' := by
  obtain ⟨c, d⟩ := dea_21 v hv h
  have hO : dO v - 1 = 20 := by unfold dO; omega
  unfold PaV
  rw [hO, d hd]
  exact apart_f w v hv _ _ _ (by omega) rfl rfl rfl
theorem apn_21 (w : World) (v : Nat) (hv : v < 4294967296) (h : v / 67108864 = 21) (hd : de v ≠ 0) : Calls Tryz.prog 15 #[.int .u32 (v : Nat)] w fun e w' => e = .returned PaN ∧ Kp w w' := by
  obtain ⟨c, d⟩ := dea_21 v hv h
  exact absurd (c.2 trivial) hd
theorem apy_22 (w : World) (v : Nat) (hv : v < 4294967296) (h : v / 67108864 = 22) (hd : de v = 0) : Calls Tryz.prog 15 #[.int .u32 (v : Nat)] w fun e w' => e = .returned (PaV v) ∧ Kp w w' := by
  obtain ⟨c, d⟩ := dea_22 v hv h
  have hO : dO v - 1 = 21 := by unfold dO; omega
  unfold PaV
  rw [hO, d hd]
  exact apart_g w v hv _ _ _ (by omega) rfl rfl rfl
theorem apn_22 (w : World) (v : Nat) (hv : v < 4294967296) (h : v / 67108864 = 22) (hd : de v ≠ 0) : Calls Tryz.prog 15 #[.int .u32 (v : Nat)] w fun e w' => e = .returned PaN ∧ Kp w w' := by
  obtain ⟨c, d⟩ := dea_22 v hv h
  exact absurd (c.2 trivial) hd
theorem apy_23 (w : World) (v : Nat) (hv : v < 4294967296) (h : v / 67108864 = 23) (hd : de v = 0) : Calls Tryz.prog 15 #[.int .u32 (v : Nat)] w fun e w' => e = .returned (PaV v) ∧ Kp w w' := by
  obtain ⟨c, d⟩ := dea_23 v hv h
  have hO : dO v - 1 = 22 := by unfold dO; omega
  unfold PaV
  rw [hO, d hd]
  exact apart_m w v hv _ _ _ (by omega) rfl rfl rfl (c.1 hd)
theorem apn_23 (w : World) (v : Nat) (hv : v < 4294967296) (h : v / 67108864 = 23) (hd : de v ≠ 0) : Calls Tryz.prog 15 #[.int .u32 (v : Nat)] w fun e w' => e = .returned PaN ∧ Kp w w' := by
  obtain ⟨c, d⟩ := dea_23 v hv h
  exact apart_n w v hv _ _ _ (by omega) rfl rfl rfl (by have := mt c.2 hd; omega)
theorem apy_24 (w : World) (v : Nat) (hv : v < 4294967296) (h : v / 67108864 = 24) (hd : de v = 0) : Calls Tryz.prog 15 #[.int .u32 (v : Nat)] w fun e w' => e = .returned (PaV v) ∧ Kp w w' := by
  obtain ⟨c, d⟩ := dea_24 v hv h
  have hO : dO v - 1 = 23 := by unfold dO; omega
  unfold PaV
  rw [hO, d hd]
  exact apart_h w v hv _ _ _ 23 (by omega) (by omega) rfl rfl rfl (by omega)
theorem apn_24 (w : World) (v : Nat) (hv : v < 4294967296) (h : v / 67108864 = 24) (hd : de v ≠ 0) : Calls Tryz.prog 15 #[.int .u32 (v : Nat)] w fun e w' => e = .returned PaN ∧ Kp w w' := by
  obtain ⟨c, d⟩ := dea_24 v hv h
  exact absurd (c.2 trivial) hd
theorem apy_25 (w : World) (v : Nat) (hv : v < 4294967296) (h : v / 67108864 = 25) (hd : de v = 0) : Calls Tryz.prog 15 #[.int .u32 (v : Nat)] w fun e w' => e = .returned (PaV v) ∧ Kp w w' := by
  obtain ⟨c, d⟩ := dea_25 v hv h
  have hO : dO v - 1 = 24 := by unfold dO; omega
  unfold PaV
  rw [hO, d hd]
  exact apart_h w v hv _ _ _ 24 (by omega) (by omega) rfl rfl rfl (by omega)
theorem apn_25 (w : World) (v : Nat) (hv : v < 4294967296) (h : v / 67108864 = 25) (hd : de v ≠ 0) : Calls Tryz.prog 15 #[.int .u32 (v : Nat)] w fun e w' => e = .returned PaN ∧ Kp w w' := by
  obtain ⟨c, d⟩ := dea_25 v hv h
  exact absurd (c.2 trivial) hd
theorem apy_26 (w : World) (v : Nat) (hv : v < 4294967296) (h : v / 67108864 = 26) (hd : de v = 0) : Calls Tryz.prog 15 #[.int .u32 (v : Nat)] w fun e w' => e = .returned (PaV v) ∧ Kp w w' := by
  obtain ⟨c, d⟩ := dea_26 v hv h
  have hO : dO v - 1 = 25 := by unfold dO; omega
  unfold PaV
  rw [hO, d hd]
  exact apart_h w v hv _ _ _ 25 (by omega) (by omega) rfl rfl rfl (by omega)
theorem apn_26 (w : World) (v : Nat) (hv : v < 4294967296) (h : v / 67108864 = 26) (hd : de v ≠ 0) : Calls Tryz.prog 15 #[.int .u32 (v : Nat)] w fun e w' => e = .returned PaN ∧ Kp w w' := by
  obtain ⟨c, d⟩ := dea_26 v hv h
  exact absurd (c.2 trivial) hd
theorem apy_27 (w : World) (v : Nat) (hv : v < 4294967296) (h : v / 67108864 = 27) (hd : de v = 0) : Calls Tryz.prog 15 #[.int .u32 (v : Nat)] w fun e w' => e = .returned (PaV v) ∧ Kp w w' := by
  obtain ⟨c, d⟩ := dea_27 v hv h
  have hO : dO v - 1 = 26 := by unfold dO; omega
  unfold PaV
  rw [hO, d hd]
  exact apart_h w v hv _ _ _ 26 (by omega) (by omega) rfl rfl rfl (by omega)
theorem apn_27 (w : World) (v : Nat) (hv : v < 4294967296) (h : v / 67108864 = 27) (hd : de v ≠ 0) : Calls Tryz.prog 15 #[.int .u32 (v : Nat)] w fun e w' => e = .returned PaN ∧ Kp w w' := by
  obtain ⟨c, d⟩ := dea_27 v hv h
  exact absurd (c.2 trivial) hd
theorem apy_28 (w : World) (v : Nat) (hv : v < 4294967296) (h : v / 67108864 = 28) (hd : de v = 0) : Calls Tryz.prog 15 #[.int .u32 (v : Nat)] w fun e w' => e = .returned (PaV v) ∧ Kp w w' := by
  obtain ⟨c, d⟩ := dea_28 v hv h
  have hO : dO v - 1 = 27 := by unfold dO; omega
  unfold PaV
  rw [hO, d hd]
  exact apart_h w v hv _ _ _ 27 (by omega) (by omega) rfl rfl rfl (by omega)
theorem apn_28 (w : World) (v : Nat) (hv : v < 4294967296) (h : v / 67108864 = 28) (hd : de v ≠ 0) : Calls Tryz.prog 15 #[.int .u32 (v : Nat)] w fun e w' => e = .returned PaN ∧ Kp w w' := by
  obtain ⟨c, d⟩ := dea_28 v hv h
  exact absurd (c.2 trivial) hd
theorem apy_29 (w : World) (v : Nat) (hv : v < 4294967296) (h : v / 67108864 = 29) (hd : de v = 0) : Calls Tryz.prog 15 #[.int .u32 (v : Nat)] w fun e w' => e = .returned (PaV v) ∧ Kp w w' := by
  obtain ⟨c, d⟩ := dea_29 v hv h
  have hO : dO v - 1 = 28 := by unfold dO; omega
  unfold PaV
  rw [hO, d hd]
  exact apart_h w v hv _ _ _ 28 (by omega) (by omega) rfl rfl rfl (by omega)
theorem apn_29 (w : World) (v : Nat) (hv : v < 4294967296) (h : v / 67108864 = 29) (hd : de v ≠ 0) : Calls Tryz.prog 15 #[.int .u32 (v : Nat)] w fun e w' => e = .returned PaN ∧ Kp w w' := by
  obtain ⟨c, d⟩ := dea_29 v hv h
  exact absurd (c.2 trivial) hd
theorem apy_30 (w : World) (v : Nat) (hv : v < 4294967296) (h : v / 67108864 = 30) (hd : de v = 0) : Calls Tryz.prog 15 #[.int .u32 (v : Nat)] w fun e w' => e = .returned (PaV v) ∧ Kp w w' := by
  obtain ⟨c, d⟩ := dea_30 v hv h
  have hO : dO v - 1 = 29 := by unfold dO; omega
  unfold PaV
  rw [hO, d hd]
  exact apart_h w v hv _ _ _ 29 (by omega) (by omega) rfl rfl rfl (by omega)
theorem apn_30 (w : World) (v : Nat) (hv : v < 4294967296) (h : v / 67108864 = 30) (hd : de v ≠ 0) : Calls Tryz.prog 15 #[.int .u32 (v : Nat)] w fun e w' => e = .returned PaN ∧ Kp w w' := by
  obtain ⟨c, d⟩ := dea_30 v hv h
  exact absurd (c.2 trivial) hd
theorem apy_31 (w : World) (v : Nat) (hv : v < 4294967296) (h : v / 67108864 = 31) (hd : de v = 0) : Calls Tryz.prog 15 #[.int .u32 (v : Nat)] w fun e w' => e = .returned (PaV v) ∧ Kp w w' := by
  obtain ⟨c, d⟩ := dea_31 v hv h
  have hO : dO v - 1 = 30 := by unfold dO; omega
  unfold PaV
  rw [hO, d hd]
  exact apart_h w v hv _ _ _ 30 (by omega) (by omega) rfl rfl rfl (by omega)
theorem apn_31 (w : World) (v : Nat) (hv : v < 4294967296) (h : v / 67108864 = 31) (hd : de v ≠ 0) : Calls Tryz.prog 15 #[.int .u32 (v : Nat)] w fun e w' => e = .returned PaN ∧ Kp w w' := by
  obtain ⟨c, d⟩ := dea_31 v hv h
  exact absurd (c.2 trivial) hd
theorem apy_32 (w : World) (v : Nat) (hv : v < 4294967296) (h : v / 67108864 = 32) (hd : de v = 0) : Calls Tryz.prog 15 #[.int .u32 (v : Nat)] w fun e w' => e = .returned (PaV v) ∧ Kp w w' := by
  obtain ⟨c, d⟩ := dea_32 v hv h
  have hO : dO v - 1 = 31 := by unfold dO; omega
  unfold PaV
  rw [hO, d hd]
  exact apart_h w v hv _ _ _ 31 (by omega) (by omega) rfl rfl rfl (by omega)
theorem apn_32 (w : World) (v : Nat) (hv : v < 4294967296) (h : v / 67108864 = 32) (hd : de v ≠ 0) : Calls Tryz.prog 15 #[.int .u32 (v : Nat)] w fun e w' => e = .returned PaN ∧ Kp w w' := by
  obtain ⟨c, d⟩ := dea_32 v hv h
  exact absurd (c.2 trivial) hd
theorem apy_33 (w : World) (v : Nat) (hv : v < 4294967296) (h : v / 67108864 = 33) (hd : de v = 0) : Calls Tryz.prog 15 #[.int .u32 (v : Nat)] w fun e w' => e = .returned (PaV v) ∧ Kp w w' := by
  obtain ⟨c, d⟩ := dea_33 v hv h
  have hO : dO v - 1 = 32 := by unfold dO; omega
  unfold PaV
  rw [hO, d hd]
  exact apart_h w v hv _ _ _ 32 (by omega) (by omega) rfl rfl rfl (by omega)
theorem apn_33 (w : World) (v : Nat) (hv : v < 4294967296) (h : v / 67108864 = 33) (hd : de v ≠ 0) : Calls Tryz.prog 15 #[.int .u32 (v : Nat)] w fun e w' => e = .returned PaN ∧ Kp w w' := by
  obtain ⟨c, d⟩ := dea_33 v hv h
  exact absurd (c.2 trivial) hd
theorem apy_34 (w : World) (v : Nat) (hv : v < 4294967296) (h : v / 67108864 = 34) (hd : de v = 0) : Calls Tryz.prog 15 #[.int .u32 (v : Nat)] w fun e w' => e = .returned (PaV v) ∧ Kp w w' := by
  obtain ⟨c, d⟩ := dea_34 v hv h
  have hO : dO v - 1 = 33 := by unfold dO; omega
  unfold PaV
  rw [hO, d hd]
  exact apart_h w v hv _ _ _ 33 (by omega) (by omega) rfl rfl rfl (by omega)
theorem apn_34 (w : World) (v : Nat) (hv : v < 4294967296) (h : v / 67108864 = 34) (hd : de v ≠ 0) : Calls Tryz.prog 15 #[.int .u32 (v : Nat)] w fun e w' => e = .returned PaN ∧ Kp w w' := by
  obtain ⟨c, d⟩ := dea_34 v hv h
  exact absurd (c.2 trivial) hd
theorem apy_35 (w : World) (v : Nat) (hv : v < 4294967296) (h : v / 67108864 = 35) (hd : de v = 0) : Calls Tryz.prog 15 #[.int .u32 (v : Nat)] w fun e w' => e = .returned (PaV v) ∧ Kp w w' := by
  obtain ⟨c, d⟩ := dea_35 v hv h
  have hO : dO v - 1 = 34 := by unfold dO; omega
  unfold PaV
  rw [hO, d hd]
  exact apart_h w v hv _ _ _ 34 (by omega) (by omega) rfl rfl rfl (by omega)
theorem apn_35 (w : World) (v : Nat) (hv : v < 4294967296) (h : v / 67108864 = 35) (hd : de v ≠ 0) : Calls Tryz.prog 15 #[.int .u32 (v : Nat)] w fun e w' => e = .returned PaN ∧ Kp w w' := by
  obtain ⟨c, d⟩ := dea_35 v hv h
  exact absurd (c.2 trivial) hd
theorem apy_36 (w : World) (v : Nat) (hv : v < 4294967296) (h : v / 67108864 = 36) (hd : de v = 0) : Calls Tryz.prog 15 #[.int .u32 (v : Nat)] w fun e w' => e = .returned (PaV v) ∧ Kp w w' := by
  obtain ⟨c, d⟩ := dea_36 v hv h
  have hO : dO v - 1 = 35 := by unfold dO; omega
  unfold PaV
  rw [hO, d hd]
  exact apart_h w v hv _ _ _ 35 (by omega) (by omega) rfl rfl rfl (by omega)
theorem apn_36 (w : World) (v : Nat) (hv : v < 4294967296) (h : v / 67108864 = 36) (hd : de v ≠ 0) : Calls Tryz.prog 15 #[.int .u32 (v : Nat)] w fun e w' => e = .returned PaN ∧ Kp w w' := by
  obtain ⟨c, d⟩ := dea_36 v hv h
  exact absurd (c.2 trivial) hd
theorem apy_37 (w : World) (v : Nat) (hv : v < 4294967296) (h : v / 67108864 = 37) (hd : de v = 0) : Calls Tryz.prog 15 #[.int .u32 (v : Nat)] w fun e w' => e = .returned (PaV v) ∧ Kp w w' := by
  obtain ⟨c, d⟩ := dea_37 v hv h
  have hO : dO v - 1 = 36 := by unfold dO; omega
  unfold PaV
  rw [hO, d hd]
  exact apart_h w v hv _ _ _ 36 (by omega) (by omega) rfl rfl rfl (by omega)
theorem apn_37 (w : World) (v : Nat) (hv : v < 4294967296) (h : v / 67108864 = 37) (hd : de v ≠ 0) : Calls Tryz.prog 15 #[.int .u32 (v : Nat)] w fun e w' => e = .returned PaN ∧ Kp w w' := by
  obtain ⟨c, d⟩ := dea_37 v hv h
  exact absurd (c.2 trivial) hd
theorem apy_38 (w : World) (v : Nat) (hv : v < 4294967296) (h : v / 67108864 = 38) (hd : de v = 0) : Calls Tryz.prog 15 #[.int .u32 (v : Nat)] w fun e w' => e = .returned (PaV v) ∧ Kp w w' := by
  obtain ⟨c, d⟩ := dea_38 v hv h
  have hO : dO v - 1 = 37 := by unfold dO; omega
  unfold PaV
  rw [hO, d hd]
  exact apart_o w v hv _ _ _ (by omega) rfl rfl rfl
theorem apn_38 (w : World) (v : Nat) (hv : v < 4294967296) (h : v / 67108864 = 38) (hd : de v ≠ 0) : Calls Tryz.prog 15 #[.int .u32 (v : Nat)] w fun e w' => e = .returned PaN ∧ Kp w w' := by
  obtain ⟨c, d⟩ := dea_38 v hv h
  exact absurd (c.2 trivial) hd
theorem apy_39 (w : World) (v : Nat) (hv : v < 4294967296) (h : v / 67108864 = 39) (hd : de v = 0) : Calls Tryz.prog 15 #[.int .u32 (v : Nat)] w fun e w' => e = .returned (PaV v) ∧ Kp w w' := by
  obtain ⟨c, d⟩ := dea_39 v hv h
  have hO : dO v - 1 = 38 := by unfold dO; omega
  unfold PaV
  rw [hO, d hd]
  exact apart_i w v hv _ _ _ (by omega) rfl rfl rfl
theorem apn_39 (w : World) (v : Nat) (hv : v < 4294967296) (h : v / 67108864 = 39) (hd : de v ≠ 0) : Calls Tryz.prog 15 #[.int .u32 (v : Nat)] w fun e w' => e = .returned PaN ∧ Kp w w' := by
  obtain ⟨c, d⟩ := dea_39 v hv h
  exact absurd (c.2 trivial) hd
theorem apy_40 (w : World) (v : Nat) (hv : v < 4294967296) (h : v / 67108864 = 40) (hd : de v = 0) : Calls Tryz.prog 15 #[.int .u32 (v : Nat)] w fun e w' => e = .returned (PaV v) ∧ Kp w w' := by
  obtain ⟨c, d⟩ := dea_40 v hv h
  have hO : dO v - 1 = 39 := by unfold dO; omega
  unfold PaV
  rw [hO, d hd]
  exact apart_p w v hv _ _ _ (by omega) rfl rfl rfl (c.1 hd)
theorem apn_40 (w : World) (v : Nat) (hv : v < 4294967296) (h : v / 67108864 = 40) (hd : de v ≠ 0) : Calls Tryz.prog 15 #[.int .u32 (v : Nat)] w fun e w' => e = .returned PaN ∧ Kp w w' := by
  obtain ⟨c, d⟩ := dea_40 v hv h
  exact apart_q w v hv _ _ _ (by omega) rfl rfl rfl (by have := mt c.2 hd; omega)
theorem apy_41 (w : World) (v : Nat) (hv : v < 4294967296) (h : v / 67108864 = 41) (hd : de v = 0) : Calls Tryz.prog 15 #[.int .u32 (v : Nat)] w fun e w' => e = .returned (PaV v) ∧ Kp w w' := by
  obtain ⟨c, d⟩ := dea_41 v hv h
  have hO : dO v - 1 = 40 := by unfold dO; omega
  unfold PaV
  rw [hO, d hd]
  exact apart_r w v hv _ _ _ (by omega) rfl rfl rfl (c.1 hd)
theorem apn_41 (w : World) (v : Nat) (hv : v < 4294967296) (h : v / 67108864 = 41) (hd : de v ≠ 0) : Calls Tryz.prog 15 #[.int .u32 (v : Nat)] w fun e w' => e = .returned PaN ∧ Kp w w' := by
  obtain ⟨c, d⟩ := dea_41 v hv h
  exact apart_s w v hv _ _ _ (by omega) rfl rfl rfl (by have := mt c.2 hd; omega)
theorem apy_42 (w : World) (v : Nat) (hv : v < 4294967296) (h : v / 67108864 = 42) (hd : de v = 0) : Calls Tryz.prog 15 #[.int .u32 (v : Nat)] w fun e w' => e = .returned (PaV v) ∧ Kp w w' := by
  obtain ⟨c, d⟩ := dea_42 v hv h
  have hO : dO v - 1 = 41 := by unfold dO; omega
  unfold PaV
  rw [hO, d hd]
  exact apart_v w v hv _ _ _ 41 (by omega) (by omega) rfl rfl rfl (by omega) (c.1 hd)
theorem apn_42 (w : World) (v : Nat) (hv : v < 4294967296) (h : v / 67108864 = 42) (hd : de v ≠ 0) : Calls Tryz.prog 15 #[.int .u32 (v : Nat)] w fun e w' => e = .returned PaN ∧ Kp w w' := by
  obtain ⟨c, d⟩ := dea_42 v hv h
  exact apart_w w v hv _ _ _ 41 (by omega) (by omega) rfl rfl rfl (by omega) (by have := mt c.2 hd; omega)
theorem apy_43 (w : World) (v : Nat) (hv : v < 4294967296) (h : v / 67108864 = 43) (hd : de v = 0) : Calls Tryz.prog 15 #[.int .u32 (v : Nat)] w fun e w' => e = .returned (PaV v) ∧ Kp w w' := by
  obtain ⟨c, d⟩ := dea_43 v hv h
  have hO : dO v - 1 = 42 := by unfold dO; omega
  unfold PaV
  rw [hO, d hd]
  exact apart_v w v hv _ _ _ 42 (by omega) (by omega) rfl rfl rfl (by omega) (c.1 hd)
theorem apn_43 (w : World) (v : Nat) (hv : v < 4294967296) (h : v / 67108864 = 43) (hd : de v ≠ 0) : Calls Tryz.prog 15 #[.int .u32 (v : Nat)] w fun e w' => e = .returned PaN ∧ Kp w w' := by
  obtain ⟨c, d⟩ := dea_43 v hv h
  exact apart_w w v hv _ _ _ 42 (by omega) (by omega) rfl rfl rfl (by omega) (by have := mt c.2 hd; omega)
theorem apy_44 (w : World) (v : Nat) (hv : v < 4294967296) (h : v / 67108864 = 44) (hd : de v = 0) : Calls Tryz.prog 15 #[.int .u32 (v : Nat)] w fun e w' => e = .returned (PaV v) ∧ Kp w w' := by
  obtain ⟨c, d⟩ := dea_44 v hv h
  have hO : dO v - 1 = 43 := by unfold dO; omega
  unfold PaV
  rw [hO, d hd]
  exact apart_v w v hv _ _ _ 43 (by omega) (by omega) rfl rfl rfl (by omega) (c.1 hd)
theorem apn_44 (w : World) (v : Nat) (hv : v < 4294967296) (h : v / 67108864 = 44) (hd : de v ≠ 0) : Calls Tryz.prog 15 #[.int .u32 (v : Nat)] w fun e w' => e = .returned PaN ∧ Kp w w' := by
  obtain ⟨c, d⟩ := dea_44 v hv h
  exact apart_w w v hv _ _ _ 43 (by omega) (by omega) rfl rfl rfl (by omega) (by have := mt c.2 hd; omega)
theorem apy_45 (w : World) (v : Nat) (hv : v < 4294967296) (h : v / 67108864 = 45) (hd : de v = 0) : Calls Tryz.prog 15 #[.int .u32 (v : Nat)] w fun e w' => e = .returned (PaV v) ∧ Kp w w' := by
  obtain ⟨c, d⟩ := dea_45 v hv h
  have hO : dO v - 1 = 44 := by unfold dO; omega
  unfold PaV
  rw [hO, d hd]
  exact apart_v w v hv _ _ _ 44 (by omega) (by omega) rfl rfl rfl (by omega) (c.1 hd)
theorem apn_45 (w : World) (v : Nat) (hv : v < 4294967296) (h : v / 67108864 = 45) (hd : de v ≠ 0) : Calls Tryz.prog 15 #[.int .u32 (v : Nat)] w fun e w' => e = .returned PaN ∧ Kp w w' := by
  obtain ⟨c, d⟩ := dea_45 v hv h
  exact apart_w w v hv _ _ _ 44 (by omega) (by omega) rfl rfl rfl (by omega) (by have := mt c.2 hd; omega)
theorem apy_46 (w : World) (v : Nat) (hv : v < 4294967296) (h : v / 67108864 = 46) (hd : de v = 0) : Calls Tryz.prog 15 #[.int .u32 (v : Nat)] w fun e w' => e = .returned (PaV v) ∧ Kp w w' := by
  obtain ⟨c, d⟩ := dea_46 v hv h
  have hO : dO v - 1 = 45 := by unfold dO; omega
  unfold PaV
  rw [hO, d hd]
  exact apart_t w v hv _ _ _ (by omega) rfl rfl rfl (c.1 hd)
theorem apn_46 (w : World) (v : Nat) (hv : v < 4294967296) (h : v / 67108864 = 46) (hd : de v ≠ 0) : Calls Tryz.prog 15 #[.int .u32 (v : Nat)] w fun e w' => e = .returned PaN ∧ Kp w w' := by
  obtain ⟨c, d⟩ := dea_46 v hv h
  exact apart_u w v hv _ _ _ (by omega) rfl rfl rfl (by have := mt c.2 hd; omega)
theorem apy_47 (w : World) (v : Nat) (hv : v < 4294967296) (h : v / 67108864 = 47) (hd : de v = 0) : Calls Tryz.prog 15 #[.int .u32 (v : Nat)] w fun e w' => e = .returned (PaV v) ∧ Kp w w' := by
  obtain ⟨c, d⟩ := dea_47 v hv h
  have hO : dO v - 1 = 46 := by unfold dO; omega
  unfold PaV
  rw [hO, d hd]
  exact apart_x w v hv _ _ _ 46 (by omega) (by omega) rfl rfl rfl (by omega) (c.1 hd)
theorem apn_47 (w : World) (v : Nat) (hv : v < 4294967296) (h : v / 67108864 = 47) (hd : de v ≠ 0) : Calls Tryz.prog 15 #[.int .u32 (v : Nat)] w fun e w' => e = .returned PaN ∧ Kp w w' := by
  obtain ⟨c, d⟩ := dea_47 v hv h
  exact apart_y w v hv _ _ _ 46 (by omega) (by omega) rfl rfl rfl (by omega) (by have := mt c.2 hd; omega)
theorem apy_48 (w : World) (v : Nat) (hv : v < 4294967296) (h : v / 67108864 = 48) (hd : de v = 0) : Calls Tryz.prog 15 #[.int .u32 (v : Nat)] w fun e w' => e = .returned (PaV v) ∧ Kp w w' := by
  obtain ⟨c, d⟩ := dea_48 v hv h
  have hO : dO v - 1 = 47 := by unfold dO; omega
  unfold PaV
  rw [hO, d hd]
  exact apart_x w v hv _ _ _ 47 (by omega) (by omega) rfl rfl rfl (by omega) (c.1 hd)
theorem apn_48 (w : World) (v : Nat) (hv : v < 4294967296) (h : v / 67108864 = 48) (hd : de v ≠ 0) : Calls Tryz.prog 15 #[.int .u32 (v : Nat)] w fun e w' => e = .returned PaN ∧ Kp w w' := by
  obtain ⟨c, d⟩ := dea_48 v hv h
  exact apart_y w v hv _ _ _ 47 (by omega) (by omega) rfl rfl rfl (by omega) (by have := mt c.2 hd; omega)
theorem apart_yes (w : World) (v : Nat) (hv : v < 4294967296) (hd : de v = 0) : Calls Tryz.prog 15 #[.int .u32 (v : Nat)] w fun e w' => e = .returned (PaV v) ∧ Kp w w' := by
  have hn : v / 67108864 = 1 ∨ v / 67108864 = 2 ∨ v / 67108864 = 3 ∨ v / 67108864 = 4 ∨ v / 67108864 = 5 ∨ v / 67108864 = 6 ∨ v / 67108864 = 7 ∨ v / 67108864 = 8 ∨ v / 67108864 = 9 ∨ v / 67108864 = 10 ∨ v / 67108864 = 11 ∨ v / 67108864 = 12 ∨ v / 67108864 = 13 ∨ v / 67108864 = 14 ∨ v / 67108864 = 15 ∨ v / 67108864 = 16 ∨ v / 67108864 = 17 ∨ v / 67108864 = 18 ∨ v / 67108864 = 19 ∨ v / 67108864 = 20 ∨ v / 67108864 = 21 ∨ v / 67108864 = 22 ∨ v / 67108864 = 23 ∨ v / 67108864 = 24 ∨ v / 67108864 = 25 ∨ v / 67108864 = 26 ∨ v / 67108864 = 27 ∨ v / 67108864 = 28 ∨ v / 67108864 = 29 ∨ v / 67108864 = 30 ∨ v / 67108864 = 31 ∨ v / 67108864 = 32 ∨ v / 67108864 = 33 ∨ v / 67108864 = 34 ∨ v / 67108864 = 35 ∨ v / 67108864 = 36 ∨ v / 67108864 = 37 ∨ v / 67108864 = 38 ∨ v / 67108864 = 39 ∨ v / 67108864 = 40 ∨ v / 67108864 = 41 ∨ v / 67108864 = 42 ∨ v / 67108864 = 43 ∨ v / 67108864 = 44 ∨ v / 67108864 = 45 ∨ v / 67108864 = 46 ∨ v / 67108864 = 47 ∨ v / 67108864 = 48 ∨ (v / 67108864 = 0 ∨ 48 < v / 67108864) := by omega
  rcases hn with h | h | h | h | h | h | h | h | h | h | h | h | h | h | h | h | h | h | h | h | h | h | h | h | h | h | h | h | h | h | h | h | h | h | h | h | h | h | h | h | h | h | h | h | h | h | h | h | h
  · exact apy_1 w v hv h hd
  · exact apy_2 w v hv h hd
  · exact apy_3 w v hv h hd
  · exact apy_4 w v hv h hd
  · exact apy_5 w v hv h hd
  · exact apy_6 w v hv h hd
  · exact apy_7 w v hv h hd
  · exact apy_8 w v hv h hd
  · exact apy_9 w v hv h hd
  · exact apy_10 w v hv h hd
  · exact apy_11 w v hv h hd
  · exact apy_12 w v hv h hd
  · exact apy_13 w v hv h hd
  · exact apy_14 w v hv h hd
  · exact apy_15 w v hv h hd
  · exact apy_16 w v hv h hd
  · exact apy_17 w v hv h hd
  · exact apy_18 w v hv h hd
  · exact apy_19 w v hv h hd
  · exact apy_20 w v hv h hd
  · exact apy_21 w v hv h hd
  · exact apy_22 w v hv h hd
  · exact apy_23 w v hv h hd
  · exact apy_24 w v hv h hd
  · exact apy_25 w v hv h hd
  · exact apy_26 w v hv h hd
  · exact apy_27 w v hv h hd
  · exact apy_28 w v hv h hd
  · exact apy_29 w v hv h hd
  · exact apy_30 w v hv h hd
  · exact apy_31 w v hv h hd
  · exact apy_32 w v hv h hd
  · exact apy_33 w v hv h hd
  · exact apy_34 w v hv h hd
  · exact apy_35 w v hv h hd
  · exact apy_36 w v hv h hd
  · exact apy_37 w v hv h hd
  · exact apy_38 w v hv h hd
  · exact apy_39 w v hv h hd
  · exact apy_40 w v hv h hd
  · exact apy_41 w v hv h hd
  · exact apy_42 w v hv h hd
  · exact apy_43 w v hv h hd
  · exact apy_44 w v hv h hd
  · exact apy_45 w v hv h hd
  · exact apy_46 w v hv h hd
  · exact apy_47 w v hv h hd
  · exact apy_48 w v hv h hd
  · exact absurd hd (dea_no v h)
theorem apart_no (w : World) (v : Nat) (hv : v < 4294967296) (hd : de v ≠ 0) : Calls Tryz.prog 15 #[.int .u32 (v : Nat)] w fun e w' => e = .returned PaN ∧ Kp w w' := by
  have hn : v / 67108864 = 1 ∨ v / 67108864 = 2 ∨ v / 67108864 = 3 ∨ v / 67108864 = 4 ∨ v / 67108864 = 5 ∨ v / 67108864 = 6 ∨ v / 67108864 = 7 ∨ v / 67108864 = 8 ∨ v / 67108864 = 9 ∨ v / 67108864 = 10 ∨ v / 67108864 = 11 ∨ v / 67108864 = 12 ∨ v / 67108864 = 13 ∨ v / 67108864 = 14 ∨ v / 67108864 = 15 ∨ v / 67108864 = 16 ∨ v / 67108864 = 17 ∨ v / 67108864 = 18 ∨ v / 67108864 = 19 ∨ v / 67108864 = 20 ∨ v / 67108864 = 21 ∨ v / 67108864 = 22 ∨ v / 67108864 = 23 ∨ v / 67108864 = 24 ∨ v / 67108864 = 25 ∨ v / 67108864 = 26 ∨ v / 67108864 = 27 ∨ v / 67108864 = 28 ∨ v / 67108864 = 29 ∨ v / 67108864 = 30 ∨ v / 67108864 = 31 ∨ v / 67108864 = 32 ∨ v / 67108864 = 33 ∨ v / 67108864 = 34 ∨ v / 67108864 = 35 ∨ v / 67108864 = 36 ∨ v / 67108864 = 37 ∨ v / 67108864 = 38 ∨ v / 67108864 = 39 ∨ v / 67108864 = 40 ∨ v / 67108864 = 41 ∨ v / 67108864 = 42 ∨ v / 67108864 = 43 ∨ v / 67108864 = 44 ∨ v / 67108864 = 45 ∨ v / 67108864 = 46 ∨ v / 67108864 = 47 ∨ v / 67108864 = 48 ∨ v / 67108864 = 0 ∨ 48 < v / 67108864 := by omega
  rcases hn with h | h | h | h | h | h | h | h | h | h | h | h | h | h | h | h | h | h | h | h | h | h | h | h | h | h | h | h | h | h | h | h | h | h | h | h | h | h | h | h | h | h | h | h | h | h | h | h | h | h
  · exact apn_1 w v hv h hd
  · exact apn_2 w v hv h hd
  · exact apn_3 w v hv h hd
  · exact apn_4 w v hv h hd
  · exact apn_5 w v hv h hd
  · exact apn_6 w v hv h hd
  · exact apn_7 w v hv h hd
  · exact apn_8 w v hv h hd
  · exact apn_9 w v hv h hd
  · exact apn_10 w v hv h hd
  · exact apn_11 w v hv h hd
  · exact apn_12 w v hv h hd
  · exact apn_13 w v hv h hd
  · exact apn_14 w v hv h hd
  · exact apn_15 w v hv h hd
  · exact apn_16 w v hv h hd
  · exact apn_17 w v hv h hd
  · exact apn_18 w v hv h hd
  · exact apn_19 w v hv h hd
  · exact apn_20 w v hv h hd
  · exact apn_21 w v hv h hd
  · exact apn_22 w v hv h hd
  · exact apn_23 w v hv h hd
  · exact apn_24 w v hv h hd
  · exact apn_25 w v hv h hd
  · exact apn_26 w v hv h hd
  · exact apn_27 w v hv h hd
  · exact apn_28 w v hv h hd
  · exact apn_29 w v hv h hd
  · exact apn_30 w v hv h hd
  · exact apn_31 w v hv h hd
  · exact apn_32 w v hv h hd
  · exact apn_33 w v hv h hd
  · exact apn_34 w v hv h hd
  · exact apn_35 w v hv h hd
  · exact apn_36 w v hv h hd
  · exact apn_37 w v hv h hd
  · exact apn_38 w v hv h hd
  · exact apn_39 w v hv h hd
  · exact apn_40 w v hv h hd
  · exact apn_41 w v hv h hd
  · exact apn_42 w v hv h hd
  · exact apn_43 w v hv h hd
  · exact apn_44 w v hv h hd
  · exact apn_45 w v hv h hd
  · exact apn_46 w v hv h hd
  · exact apn_47 w v hv h hd
  · exact apn_48 w v hv h hd
  · exact apart_a w v hv _ _ _ (-1) (by omega) (by omega) rfl rfl rfl (by omega)
  · exact apart_b w v hv _ _ _ ((v : Int) / 67108864 - 1) (by omega) (by omega) rfl rfl rfl (by omega)
end Go.Proofs.YtghiffpolacmiabGreatDoor
namespace Go.Proofs.YtghiffpolacmiabGreatDoor
open Go.ChangeShapes Go.WideShapes Go.ChangeAt Go.RowKit
set_option linter.unusedVariables false

theorem end_flt (bb : Nat) (g : Rg) (x : Bd) (hf : nxt x.fa x.jf ≠ 0) : (insS (g.st bb) x).r = { Rs.zero with kind := 3, cyc := wrap64 (nxt x.cy x.ic + 1), flt := nxt x.fa x.jf, addr := g.pc } ∧ (insS (g.st bb) x).g = g.put 0 0 ∧ insB (g.st bb) x = x.fet g.pc := by
  unfold insS insB
  rw [if_pos hf, if_pos hf]
  exact ⟨rfl, rfl, rfl⟩
theorem end_ill (bb : Nat) (g : Rg) (x : Bd) (hf : nxt x.fa x.jf = 0) (hd : de (nxt x.ws x.iw).toNat ≠ 0) : (insS (g.st bb) x).r = { Rs.zero with kind := 3, cyc := wrap64 (nxt x.cy x.ic + 1), flt := 6, addr := g.pc } ∧ (insS (g.st bb) x).g = g.put 0 0 ∧ insB (g.st bb) x = x.fet g.pc := by
  have hq : ¬ nxt x.fa x.jf ≠ 0 := by simpa using hf
  unfold insS insB
  rw [if_neg hq, if_neg hq, if_pos hd, if_pos hd]
  exact ⟨rfl, rfl, rfl⟩
/-- An instruction, by its op. -/
theorem end_ins (bb : Nat) (g : Rg) (x : Bd) (hf : nxt x.fa x.jf = 0) (v : Nat) (hv : (nxt x.ws x.iw).toNat = v) (hd : de v = 0) (o : Nat) (ho : v / 67108864 = o) : insS (g.st bb) x = (doS o (((g.st bb).c0 x).ins v) (x.fet g.pc)).pcTo ∧ insB (g.st bb) x = doB o (((g.st bb).c0 x).ins v) (x.fet g.pc) := by
  have hO : (dO v).toNat = o := by unfold dO; omega
  have hq : ¬ nxt x.fa x.jf ≠ 0 := by simpa using hf
  have hp : ¬ de v ≠ 0 := by simpa using hd
  unfold insS insB
  rw [if_neg hq, if_neg hq, hv, if_neg hp, if_neg hp, hO]
  exact ⟨rfl, rfl⟩
end Go.Proofs.YtghiffpolacmiabGreatDoor
