import Derived.Test.YtghiffpolacmiabDoorWd
import Derived.Test.YtghiffpolacmiabDoorYa
import Derived.Test.YtghiffpolacmiabDoorTh
import Derived.Laws.BitsLemmas
namespace Go.Proofs.YtghiffpolacmiabDoor
open Go.ChangeShapes Go.WideShapes Go.ChangeAt Go.RowKit
set_option linter.unusedVariables false

theorem calmB_ok (wd : Int) (vs : List Int) (tm : Int) (a b c d : Value) (hw : 0 ≤ wd ∧ wd < 4294967296) (hv : ∀ i, 0 ≤ nxt vs i ∧ nxt vs i < 4294967296) (ht : 0 ≤ tm ∧ tm < 18446744073709551616) : (calmB wd vs tm a b c d).ok :=
  ⟨⟨Nat.zero_le _, Nat.zero_le _, Nat.zero_le _, Nat.zero_le _, Nat.zero_le _⟩, ht, hv, fun i => by
    show 0 ≤ nxt [wd] i ∧ nxt [wd] i < 4294967296
    unfold nxt
    rw [show min i ([wd].length - 1) = 0 by simp]
    exact hw⟩
theorem calmB_own (wd : Int) (vs : List Int) (tm : Int) (a b c d : Value) (cb k : Nat) (h : (calmB wd vs tm a b c d).own cb k) : k = cb := by
  rcases h with e | e
  · exact e
  · cases e
/-- Registers of one's own, and a calm bus that is newer. -/
theorem calm_rb {w w' : World} {G cb : Nat} {g : Rg} {wd tm : Int} {vs : List Int} {a b c d : Value} (hr : IsRg w G g) (hg : Gt w) (h2 : 2 ≤ G) (i : IsB w' cb (calmB wd vs tm a b c d)) (k : Kp w w') (hc : w.heap.size ≤ cb) (hrow : ∀ k, (calmB wd vs tm a b c d).row k → w.heap.size ≤ k) : Rb w' G cb g (calmB wd vs tm a b c d) := by
  have hl := hp_lt hr
  refine ⟨hr.kp k, i, hg.keep k, h2, fun j hj => ?_, fun j hj => ?_⟩
  · rcases hj with e | e
    · have := calmB_own _ _ _ _ _ _ _ _ _ e; omega
    · have := hrow j e; omega
  · have := calmB_own _ _ _ _ _ _ _ _ _ hj; omega
/-- A step on a calm bus whose word is an instruction. -/
theorem ins_calm (g : Rg) (bb : Nat) (v : Nat) (vs : List Int) (tm : Int) (p q r s : Value) (h : de v = 0) :
    insS (g.st bb) (calmB (v : Nat) vs tm p q r s) = (doS (dO v).toNat (((g.st bb).c0 (calmB (v : Nat) vs tm p q r s)).ins v) ((calmB (v : Nat) vs tm p q r s).fet g.pc)).pcTo ∧
    insB (g.st bb) (calmB (v : Nat) vs tm p q r s) = doB (dO v).toNat (((g.st bb).c0 (calmB (v : Nat) vs tm p q r s)).ins v) ((calmB (v : Nat) vs tm p q r s).fet g.pc) := by
  have hw : (nxt (calmB (v : Nat) vs tm p q r s).ws (calmB (v : Nat) vs tm p q r s).iw).toNat = v := by
    show ((v : Nat) : Int).toNat = v
    omega
  unfold insS insB
  rw [hw, if_neg (by show ¬ ((0 : Int) ≠ 0); omega), if_neg (by rw [h]; omega), if_neg (by show ¬ ((0 : Int) ≠ 0); omega), if_neg (by rw [h]; omega)]
  exact ⟨rfl, rfl⟩
/-- Registers that are not read, changed, up to k. -/
def mixR (rd : Nat) (R O : Nat → Int) (k : Nat) : Nat → Int := fun j => if 0 < j ∧ j < k ∧ rd / 2 ^ j % 2 = 0 then O j else R j
theorem on_read : ∀ a b k : Fin 16, k.val ≠ 0 → (on1 a.val ||| on1 b.val) / 2 ^ k.val % 2 = 0 → k ≠ a ∧ k ≠ b := by decide +kernel
theorem on_write : ∀ d k : Fin 16, k.val ≠ 0 → (on1 d.val / 2 ^ k.val % 2 = if k = d then 1 else 0) := by decide +kernel
theorem wraps_u16 (n : Int) (h₀ : 0 ≤ n) (h₁ : n < 2 ^ 16) : IntKind.u16.wrap n = n := by
  have : IntKind.u16.wrap n = n % 65536 := by simp [IntKind.wrap, IntKind.bits, IntKind.signed]
  rw [this]; omega
/-- What is read and written, as sets. -/
def rdN (op : Int) (a b : Nat) : Nat := if op = 40 then 126 else on1 a ||| on1 b
def wrN (op : Int) (d : Nat) : Nat := if op = 40 then 14 else on1 d
theorem uR_eq {op : Int} {d a b : Nat} {n : Int} (h : ck op d a b n = 0) : uR op d a b n = (rdN op a b : Nat) ∧ uW op d a b n = (wrN op d : Nat) ∧ rdN op a b < 65536 ∧ wrN op d < 65536 := by
  obtain ⟨h1, h2, h3⟩ := ck_regs h
  have l1 := on1_lt h1
  have l2 := on1_lt h2
  have l3 := on1_lt h3
  have hb := (bits_nat .u16 16 (by decide) wraps_u16 (on1 a) (on1 b) l2 l3).2
  have hor : on1 a ||| on1 b < 2 ^ 16 := Nat.or_lt_two_pow l2 l3
  unfold uR uW rdN wrN
  rw [if_pos h, if_pos h]
  by_cases h40 : op = 40
  · rw [if_pos h40, if_pos h40, if_pos h40, if_pos h40]
    exact ⟨rfl, rfl, by omega, by omega⟩
  · rw [if_neg h40, if_neg h40, if_neg h40, if_neg h40, hb]
    exact ⟨rfl, rfl, hor, l1⟩
/-- What holds of two steps on calm buses, the registers that are not read changed. -/
theorem touch_fin (g o : Rg) (v : Nat) (hv : de v = 0) (vs : List Int) (tm : Int) (b1 b2 : Nat) (p q r s p' q' r' s' : Value) (gs : Rg) (hgs : gs = ⟨mixR (rdN (dO v) (dA v) (dB v)) g.R o.R 16, g.pc, g.vec, g.back, g.on, g.hd⟩) :
    (insS (g.st b1) (calmB (v : Nat) vs tm p q r s)).r = (insS (gs.st b2) (calmB (v : Nat) vs tm p' q' r' s')).r ∧
    (insS (g.st b1) (calmB (v : Nat) vs tm p q r s)).g.pc = (insS (gs.st b2) (calmB (v : Nat) vs tm p' q' r' s')).g.pc ∧
    (insS (g.st b1) (calmB (v : Nat) vs tm p q r s)).g.vec = (insS (gs.st b2) (calmB (v : Nat) vs tm p' q' r' s')).g.vec ∧
    (insS (g.st b1) (calmB (v : Nat) vs tm p q r s)).g.R 0 = 0 ∧ (insS (gs.st b2) (calmB (v : Nat) vs tm p' q' r' s')).g.R 0 = 0 ∧
    (insB (g.st b1) (calmB (v : Nat) vs tm p q r s)).lg = (insB (gs.st b2) (calmB (v : Nat) vs tm p' q' r' s')).lg ∧
    ∀ k, 0 < k → k < 16 →
      ((if dO v = 40 then 0 else wrN (dO v) (dD v)) / 2 ^ k % 2 = 1 ∧ (insS (g.st b1) (calmB (v : Nat) vs tm p q r s)).g.R k = (insS (gs.st b2) (calmB (v : Nat) vs tm p' q' r' s')).g.R k) ∨
      ((if dO v = 40 then 0 else wrN (dO v) (dD v)) / 2 ^ k % 2 = 0 ∧ (insS (g.st b1) (calmB (v : Nat) vs tm p q r s)).g.R k = g.R k ∧ (insS (gs.st b2) (calmB (v : Nat) vs tm p' q' r' s')).g.R k = gs.R k) := by
  obtain ⟨ho, _, hck⟩ := de_zero hv
  obtain ⟨o0, o1⟩ := (isO_iff (dO v)).1 ho
  obtain ⟨hd, ha, hb⟩ := ck_regs hck
  obtain ⟨e1, e2⟩ := ins_calm g b1 v vs tm p q r s hv
  obtain ⟨e3, e4⟩ := ins_calm gs b2 v vs tm p' q' r' s' hv
  rw [e1, e2, e3, e4]
  have hn : (((dO v).toNat : Nat) : Int) = dO v := by omega
  have hrms := (ck_zero hck).2.1
  have hm : (rm (dD v) (lD (fo (dO v))) = true ∧ rm (dA v) (lA (fo (dO v))) = true) ∧ rm (dB v) (lB (fo (dO v))) = true := by simpa [rms] using hrms
  have hd0 : lD (fo ((dO v).toNat : Nat)) = 0 → dD v = 0 := fun h => by
    rw [hn] at h
    have := hm.1.1
    unfold rm at this
    rw [if_pos h] at this
    simpa using this
  -- registers that are read
  have hrd : ∀ k, k < 16 → dO v ≠ 40 → (k = dA v ∨ k = dB v) → upR g.R 0 0 k = upR gs.R 0 0 k := fun k hk h40 hkk => by
    unfold upR
    by_cases hk0 : k = 0
    · rw [if_pos hk0, if_pos hk0]
    · rw [if_neg hk0, if_neg hk0, hgs]
      show g.R k = mixR (rdN (dO v) (dA v) (dB v)) g.R o.R 16 k
      unfold mixR
      rw [if_neg]
      rintro ⟨_, _, h⟩
      unfold rdN at h
      rw [if_neg h40] at h
      have := on_read ⟨dA v, ha⟩ ⟨dB v, hb⟩ ⟨k, hk⟩ hk0 h
      rcases hkk with e | e
      · exact this.1 (Fin.ext e)
      · exact this.2 (Fin.ext e)
  obtain ⟨t1, ht1⟩ : ∃ t, t = (((g.st b1).c0 (calmB (v : Nat) vs tm p q r s)).ins v) := ⟨_, rfl⟩
  obtain ⟨t2, ht2⟩ : ∃ t, t = (((gs.st b2).c0 (calmB (v : Nat) vs tm p' q' r' s')).ins v) := ⟨_, rfl⟩
  have hpc : gs.pc = g.pc := by rw [hgs]
  have hAl : Al t1 t2 := by
    rw [ht1, ht2]
    refine ⟨rfl, rfl, rfl, ?_, rfl, ?_, ?_, ?_, ?_⟩
    · show (g.pc + 4) % 4294967296 = (gs.pc + 4) % 4294967296
      rw [hpc]
    · exact hpc.symm
    · show g.vec = gs.vec; rw [hgs]
    · show g.back = gs.back; rw [hgs]
    · show g.hd = gs.hd; rw [hgs]
  have hAb : Ab ((calmB (v : Nat) vs tm p q r s).fet g.pc) ((calmB (v : Nat) vs tm p' q' r' s').fet gs.pc) := by
    rw [hpc]
    exact ⟨rfl, rfl, rfl, rfl, rfl, rfl⟩
  have hR1 : t1.g.R = upR g.R 0 0 := by rw [ht1]; rfl
  have hR2 : t2.g.R = upR gs.R 0 0 := by rw [ht2]; rfl
  have hD1 : t1.d = dD v := by rw [ht1]; rfl
  have hD2 : t2.d = dD v := by rw [ht2]; rfl
  have hne : (dO v).toNat ≠ 40 → dO v ≠ 40 := fun h e => h (by rw [e]; rfl)
  obtain ⟨T, hlg⟩ := do_touch (dO v).toNat (by omega) (by omega) t1 t2 _ _ hAl hAb
    (fun h => by
      unfold St.va
      rw [hR1, hR2, show t1.a = dA v by rw [ht1]; rfl, show t2.a = dA v by rw [ht2]; rfl]
      exact hrd _ ha (hne h) (.inl rfl))
    (fun h => by
      unfold St.vb
      rw [hR1, hR2, show t1.b = dB v by rw [ht1]; rfl, show t2.b = dB v by rw [ht2]; rfl]
      exact hrd _ hb (hne h) (.inr rfl))
    (fun h => by rw [hD1]; exact hd0 h)
  rw [← ht1, ← ht2]
  obtain ⟨Tr, Tn, Tv, val, TR1, TR2⟩ := T
  generalize doS (dO v).toNat t1 ((calmB (v : Nat) vs tm p q r s).fet g.pc) = s1 at *
  generalize doS (dO v).toNat t2 ((calmB (v : Nat) vs tm p' q' r' s').fet gs.pc) = s2 at *
  have hS1 : ∀ k, s1.g.R k = if k = dD v ∧ dD v ≠ 0 then val else upR g.R 0 0 k := fun k => by
    rw [TR1]
    unfold St.setD
    rw [hD1]
    by_cases h0 : dD v = 0
    · rw [if_pos h0, if_neg (fun h => h.2 h0), hR1]
    · rw [if_neg h0]
      show upR t1.g.R (dD v) val k = _
      rw [hR1]
      show (if k = dD v then val else upR g.R 0 0 k) = _
      by_cases hk : k = dD v
      · rw [if_pos hk, if_pos ⟨hk, h0⟩]
      · rw [if_neg hk, if_neg (fun h => hk h.1)]
  have hS2 : ∀ k, s2.g.R k = if k = dD v ∧ dD v ≠ 0 then val else upR gs.R 0 0 k := fun k => by
    rw [TR2]
    unfold St.setD
    rw [hD2]
    by_cases h0 : dD v = 0
    · rw [if_pos h0, if_neg (fun h => h.2 h0), hR2]
    · rw [if_neg h0]
      show upR t2.g.R (dD v) val k = _
      rw [hR2]
      show (if k = dD v then val else upR gs.R 0 0 k) = _
      by_cases hk : k = dD v
      · rw [if_pos hk, if_pos ⟨hk, h0⟩]
      · rw [if_neg hk, if_neg (fun h => hk h.1)]
  refine ⟨Tr, Tn, Tv, ?_, ?_, hlg, fun k hk0 hk => ?_⟩
  · show s1.g.R 0 = 0
    rw [hS1, if_neg (fun h => h.2 h.1.symm)]
    rfl
  · show s2.g.R 0 = 0
    rw [hS2, if_neg (fun h => h.2 h.1.symm)]
    rfl
  · show (_ ∧ s1.g.R k = s2.g.R k) ∨ (_ ∧ s1.g.R k = g.R k ∧ s2.g.R k = gs.R k)
    have up1 : upR g.R 0 0 k = g.R k := by unfold upR; rw [if_neg (by omega)]
    have up2 : upR gs.R 0 0 k = gs.R k := by unfold upR; rw [if_neg (by omega)]
    rw [hS1, hS2, up1, up2]
    by_cases h40 : dO v = 40
    · rw [if_pos h40]
      right
      have hdz : dD v = 0 := hd0 (by rw [hn, h40]; decide +kernel)
      rw [if_neg (fun h => h.2 hdz), if_neg (fun h => h.2 hdz)]
      exact ⟨by simp, rfl, rfl⟩
    · rw [if_neg h40]
      have hw := on_write ⟨dD v, hd⟩ ⟨k, hk⟩ (by show k ≠ 0; omega)
      have hw' : wrN (dO v) (dD v) / 2 ^ k % 2 = if k = dD v then 1 else 0 := by
        unfold wrN
        rw [if_neg h40, hw]
        by_cases hkd : k = dD v
        · rw [if_pos hkd, if_pos (Fin.ext hkd)]
        · rw [if_neg hkd, if_neg (fun e => hkd (congrArg Fin.val e))]
      rw [hw']
      by_cases hkd : k = dD v
      · left
        rw [if_pos hkd, if_pos ⟨hkd, by omega⟩, if_pos ⟨hkd, by omega⟩]
        exact ⟨rfl, rfl⟩
      · right
        rw [if_neg hkd, if_neg (fun h => hkd h.1), if_neg (fun h => hkd h.1)]
        exact ⟨rfl, rfl, rfl⟩
end Go.Proofs.YtghiffpolacmiabDoor
