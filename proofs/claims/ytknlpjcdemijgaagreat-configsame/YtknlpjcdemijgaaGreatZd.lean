import Derived.Test.YtknlpjcdemijgaaGreatZc
namespace Go.Proofs.YtknlpjcdemijgaaGreat
open Go.ChangeShapes Go.WideShapes Go.ChangeAt Go.RowKit
set_option linter.unusedVariables false
/-- Where a reader is, and where it went wrong, lies among its bytes. -/
def Gd (s : RS) : Prop := s.at_ ≤ s.bs.length ∧ (s.err ≠ 0 → 0 ≤ s.wh ∧ s.wh ≤ s.bs.length ∧ (s.err = 133 → 1 ≤ s.wh))
theorem Gd.take {s : RS} (h : Gd s) (k : Nat) : Gd (s.take k).2 := by
  unfold RS.take
  by_cases he : s.err = 0
  · rw [if_neg (by simp [he])]
    by_cases hl : s.bs.length < s.at_ + k
    · rw [if_pos hl]
      have := h.1
      exact ⟨h.1, fun _ => ⟨by show (0 : Int) ≤ (s.at_ : Nat); omega, by show ((s.at_ : Nat) : Int) ≤ s.bs.length; omega, fun e => by cases e⟩⟩
    · rw [if_neg hl]
      exact ⟨by show s.at_ + k ≤ s.bs.length; omega, fun e => absurd he e⟩
  · rw [if_pos he]; exact h
theorem Gd.fail {s : RS} (h : Gd s) {e p : Int} (h0 : e ≠ 0) (h1 : 0 ≤ p) (h2 : p ≤ s.bs.length) (h3 : e = 133 → 1 ≤ p) : Gd (s.fail e p) := by
  unfold RS.fail errOf whOf
  refine ⟨h.1, fun he => ?_⟩
  simp only at he ⊢
  by_cases hs : s.err = 0
  · rw [if_pos hs, if_pos ⟨hs, h0⟩]
    exact ⟨h1, h2, h3⟩
  · rw [if_neg hs, if_neg (fun x => hs x.1)]
    exact h.2 hs
theorem Gd.pad {s : RS} (h : Gd s) : Gd (s.pad 4) := by
  have hp : s.pad 4 = s.padded (s.take (padN s.at_ 4)) := by unfold RS.pad; rw [if_pos (by decide)]; rfl
  rw [hp]
  cases hf : (s.take (padN s.at_ 4)).1.findIdx? (fun x => x != 0) with
  | some i =>
    rw [RS.padded_some s _ i hf]
    have hi : i < (s.take (padN s.at_ 4)).1.length := by
      obtain ⟨hx, _⟩ := List.findIdx?_eq_some_iff_getElem.1 hf
      exact hx
    have ht : s.at_ + i ≤ s.bs.length := by
      unfold RS.take at hi
      split at hi
      · simp at hi
      · split at hi
        · simp at hi
        · simp at hi; omega
    have hg : Gd { (s.take (padN s.at_ 4)).2 with at_ := s.at_ } := ⟨by show s.at_ ≤ (s.take (padN s.at_ 4)).2.bs.length; rw [RS.take_bs]; exact h.1, (h.take _).2⟩
    exact hg.fail (by decide) (by omega) (by show ((s.at_ + i : Nat) : Int) ≤ (s.take (padN s.at_ 4)).2.bs.length; rw [RS.take_bs]; omega) (fun e => by cases e)
  | none =>
    rw [RS.padded_none s _ hf]
    exact h.take _
theorem Gd.flag {s : RS} (h : Gd s) : Gd s.flag := by
  unfold RS.flag
  by_cases hn : 1 < s.num 1
  · rw [if_pos hn]
    have ht := h.take 1
    refine ht.fail (by decide) (by omega) (by have := ht.1; omega) (fun _ => ?_)
    unfold RS.num RS.take at hn
    unfold RS.take
    split at hn
    · simp [ofLe] at hn
    · next h1 =>
      split at hn
      · simp [ofLe] at hn
      · next h2 =>
        rw [if_neg h1, if_neg h2]
        show (1 : Int) ≤ ((s.at_ + 1 : Nat) : Int)
        omega
  · rw [if_neg hn]; exact h.take 1
theorem Gd.dl {α : Type} {f : RS → α × RS} (hf : ∀ s, Gd s → Gd (f s).2) (n : Nat) (s : RS) (h : Gd s) : Gd (dl f n s).2 := by
  induction n with
  | zero => exact h
  | succ n ih => exact hf _ ih
theorem Gd.name {s : RS} (h : Gd s) : Gd s.name.2 := (h.take 1).take _
theorem Gd.rg {s : RS} (h : Gd s) : Gd s.rg.2 := ((((h.take 4).take 4).take 4).take 1).pad
theorem Gd.wi {s : RS} (h : Gd s) : Gd s.wi.2 := (((h.take 1).pad).take 8).take 8
theorem Gd.qu {s : RS} (h : Gd s) : Gd s.qu.2 := (((((h.take 1).take 1).take 2).take 2).take 2).flag.pad
theorem Gd.mc {s : RS} (h : Gd s) : Gd s.mc.2 := (((((((h.take 4).take 4).take 4).take 2).take 2).take 2).take 2).take 8
theorem Gd.int1 {s : RS} (h : Gd s) : Gd s.int1.2 := h.take 1
theorem Gd.sa {s : RS} (h : Gd s) : Gd s.sa.2 := (Gd.dl (fun s h => h.int1) _ _ (((h.take 1).take 1).take 2)).pad
theorem Gd.ce {s : RS} (h : Gd s) : Gd s.ce.2 := (Gd.dl (fun s h => h.int1) _ _ (Gd.dl (fun s h => h.rg) _ _ (((((h.name.pad).take 4).take 1).take 1).pad))).pad
theorem Gd.cf {s : RS} (h : Gd s) : Gd s.cf.2 := Gd.dl (fun s h => h.qu) _ _ (Gd.dl (fun s h => h.sa) _ _ (Gd.dl (fun s h => h.wi) _ _ (Gd.dl (fun s h => h.ce) _ _ ((((h.mc.take 1).take 1).take 1).take 1))))
theorem Gd.end {s : RS} (h : Gd s) : Gd s.end := by
  unfold RS.end
  split
  · exact h.fail (by decide) (by omega) (by have := h.1; omega) (fun e => by cases e)
  · exact h
theorem Gd.counted {s : RS} (h : Gd s) (k most : Nat) : Gd (s.counted k most).2 := by
  have hb : (s.take k).2.bs = s.bs := RS.take_bs s k
  have hg : Gd { (s.take k).2 with at_ := s.at_ } := ⟨by show s.at_ ≤ (s.take k).2.bs.length; rw [hb]; exact h.1, (h.take k).2⟩
  have hle : ((s.at_ : Nat) : Int) ≤ (({ (s.take k).2 with at_ := s.at_ } : RS).bs.length : Nat) := by
    show ((s.at_ : Nat) : Int) ≤ ((s.take k).2.bs.length : Nat)
    rw [hb]; have := h.1; omega
  unfold RS.counted
  split
  · exact (hg.fail (by decide) (by omega) hle (fun e => by cases e)).take _
  · split
    · exact (hg.fail (by decide) (by omega) hle (fun e => by cases e)).take _
    · exact (h.take k).take _
/-- Where it is wrong around a body. -/
theorem opn_place {bs : List Int} {e p : Int} (h : opnE bs = some (e, p)) : 0 ≤ p ∧ p ≤ bs.length := by
  have g0 : Gd (rs0 bs) := ⟨Nat.zero_le _, fun e => absurd rfl e⟩
  have g2 : Gd (rs2 bs) := (g0.take 8).counted 4 4294967295
  have g3 : Gd (rs3 bs) := g2.take 4
  have b2 : (rs2 bs).bs = bs := RS_part_bs bs
  have b3 : (rs3 bs).bs = bs := (RS.take_bs _ _).trans b2
  have a2 := g2.1
  have a3 := g3.1
  rw [b2] at a2
  rw [b3] at a3
  unfold opnE at h
  split at h
  · cases h; omega
  · next h1 =>
    split at h
    · cases h
      have h1' : ((rs0 bs).take 8).1 = magic := by simpa using h1
      have : 8 ≤ bs.length := by
        have hl := RS.take_le (rs0 bs) 8
        rw [h1'] at hl
        exact hl
      omega
    · split at h
      · cases h; omega
      · split at h
        · cases h; omega
        · cases h
/-- Where it is wrong within a body. -/
theorem dec_place {bs : List Int} (hr : rng bs) (h : opnE bs = none) (he : (decS bs).err ≠ 0) : 0 ≤ wrap64 (12 + (decS bs).flaw) ∧ wrap64 (12 + (decS bs).flaw) ≤ bs.length ∨ 140737488355328 < bs.length := by
  obtain ⟨n, hF⟩ := form_of hr h
  by_cases hbig : 140737488355328 < bs.length
  · exact .inr hbig
  · left
    have g0 : Gd (rs1 bs).part.1 := by rw [hF.body]; exact ⟨Nat.zero_le _, fun e => absurd rfl e⟩
    have g9 : Gd (decS bs) := g0.cf.end
    have hb : (decS bs).bs.length ≤ n := by
      have e : (decS bs).bs = (rs1 bs).part.1.bs := by unfold decS; rw [RS.end_bs, RS.cf_bs]
      rw [e, hF.body]
      simp; omega
    obtain ⟨p1, p2, p3⟩ := g9.2 he
    have hl := hF.len
    have hfl : 0 ≤ (decS bs).flaw ∧ (decS bs).flaw ≤ n := by
      unfold RS.flaw
      split
      · next e =>
        have := p3 e
        have e2 : wrap64 ((decS bs).wh - 1) = (decS bs).wh - 1 := by unfold wrap64; omega
        rw [e2]; omega
      · omega
    have e2 : wrap64 (12 + (decS bs).flaw) = 12 + (decS bs).flaw := by unfold wrap64; omega
    rw [e2]
    omega
end Go.Proofs.YtknlpjcdemijgaaGreat
