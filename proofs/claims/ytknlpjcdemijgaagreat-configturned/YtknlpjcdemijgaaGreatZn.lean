import Derived.Test.YtknlpjcdemijgaaGreatZg
import Derived.Test.YtknlpjcdemijgaaGreatBm
namespace Go.Proofs.YtknlpjcdemijgaaGreat
open Go.ChangeShapes Go.WideShapes Go.ChangeAt Go.RowKit
set_option linter.unusedVariables false
/-- What lies ahead of the run stays. -/
theorem flips_take (b : List Int) (f r i m : Nat) (h : 8 * m ≤ f) : (flips b f r i).take m = b.take m := by
  induction i with
  | zero => rfl
  | succ i ih =>
    unfold flips
    split
    · unfold flipBit
      rw [List.take_set_of_le (by omega)]
      exact ih
    · exact ih
/-- The state behind bytes and their own sum is one constant. -/
theorem residue {d : List Int} (hd : rng d) : crcAll 4294967295 (d ++ le (crc d) 4) = crcBits 32 4294967295 := by
  have hl : crc d < 4294967296 := crc_lt d hd
  have hs : crcAll 4294967295 d < 4294967296 := crcAll_lt _ _ (by omega) hd
  rw [crcAll_append, crcAll_eq _ (le_range _ _), le_len, ofLe_le, Nat.mod_eq_of_lt (by omega)]
  congr 1
  unfold crc
  rw [← Nat.xor_assoc, Nat.xor_comm (crcAll 4294967295 d), Nat.xor_assoc, Nat.xor_self, Nat.xor_zero]
/-- Bytes with their own sum, of which a run is turned, have another one. -/
theorem turned_sum {d : List Int} (hd : rng d) {bs : List Int} (hb : bs = d ++ le (crc d) 4) {f r k : Nat} (hk : f + k ≤ 8 * bs.length) (h0 : 0 < k) (h32 : k ≤ 32) (hr : r % 2 = 1) {d' c : List Int} (he : flips bs f r k = d' ++ c) (hc : c = le (crc d') 4) : False := by
  have hrb : rng bs := by
    rw [hb]
    intro x hx
    rcases List.mem_append.1 hx with hx | hx
    · exact hd x hx
    · exact le_range _ _ x hx
  have hrf := flips_range bs f r k hrb
  rw [he] at hrf
  have hd' : rng d' := fun x hx => hrf x (List.mem_append_left _ hx)
  refine burst bs f r k hrb hk h0 h32 hr ?_
  unfold crc
  rw [he, hc, hb, residue hd', residue hd]
/-- A run that is turned behind the length: another sum. -/
theorem turned_open {g : Cf} (hf : g.fit) (h : encOk g = true) {f r k : Nat} (h96 : 96 ≤ f) (hk : f + k ≤ 8 * (encB g).length) (h0 : 0 < k) (h32 : k ≤ 32) (hr1 : r % 2 = 1) : ∃ p, opnE (flips (encB g) f r k) = some (134, p) := by
  obtain ⟨body, hr, hn, hB, hc⟩ := enc_form hf h
  obtain ⟨hd, hhd⟩ : ∃ hd, hd = magic ++ le body.length 4 ++ body := ⟨_, rfl⟩
  have hml : magic.length = 8 := rfl
  have hhl : hd.length = 12 + body.length := by rw [hhd]; simp [le_len, hml]; omega
  have hhr : rng hd := by
    rw [hhd]
    intro x hx
    rcases List.mem_append.1 hx with hx | hx
    · rcases List.mem_append.1 hx with hx | hx
      · exact (by decide : ∀ y, y ∈ magic → 0 ≤ y ∧ y ≤ 255) x hx
      · exact le_range _ _ x hx
    · exact hr x hx
  rw [← hhd] at hB
  have hno := @turned_sum hd hhr (encB g) hB f r k hk h0 h32 hr1
  have hbl0 : (encB g).length = 16 + body.length := by rw [hB, List.length_append, hhl, le_len]; omega
  have h12 : (flips (encB g) f r k).take 12 = magic ++ le body.length 4 := by
    rw [flips_take _ _ _ _ _ (by omega), hB, hhd, List.append_assoc, List.append_assoc, ← List.append_assoc magic, List.take_left' (by simp [le_len, hml])]
  have hbl : (flips (encB g) f r k).length = 16 + body.length := by rw [flips_len, hbl0]
  have hrf : rng (flips (encB g) f r k) := flips_range _ _ _ _ (by
    rw [hB]
    intro x hx
    rcases List.mem_append.1 hx with hx | hx
    · exact hhr x hx
    · exact le_range _ _ x hx)
  generalize flips (encB g) f r k = bs at *
  obtain ⟨body', hb'⟩ : ∃ b', b' = (bs.drop 12).take body.length := ⟨_, rfl⟩
  obtain ⟨cr, hcr⟩ : ∃ cr, cr = bs.drop (12 + body.length) := ⟨_, rfl⟩
  have hcl : cr.length = 4 := by rw [hcr]; simp; omega
  have hb'l : body'.length = body.length := by rw [hb']; simp; omega
  have f2 : bs = (magic ++ le body.length 4) ++ (body' ++ cr) := by
    rw [← h12, hb', hcr, ← List.drop_drop, List.take_append_drop, List.take_append_drop]
  have f0 : bs = [] ++ (magic ++ (le body.length 4 ++ body' ++ cr)) := by rw [f2]; simp
  have f1 : bs = magic ++ (le body.length 4 ++ (body' ++ cr)) := by rw [f2]; simp
  have f3 : bs = (magic ++ le body.length 4 ++ body') ++ (cr ++ []) := by rw [f2]; simp
  have t0 : (rs0 bs).take 8 = (magic, ⟨bs, 8, 0, 0⟩) := by
    have := take_mid f0 0 8 rfl rfl
    exact this
  have t1 := take_mid f1 8 4 rfl (by rw [le_len])
  have t2 := take_mid f2 12 body.length (by simp [le_len, hml]) hb'l.symm
  have t3 := take_mid f3 (12 + body.length) 4 (by simp [le_len, hml, hb'l]; omega) hcl.symm
  have r1 : rs1 bs = ⟨bs, 8, 0, 0⟩ := by unfold rs1; rw [t0]
  have n1 : (⟨bs, 8, 0, 0⟩ : RS).num 4 = body.length := by
    unfold RS.num
    rw [t1, ofLe_le, Nat.mod_eq_of_lt (by omega)]
  have c1 : (⟨bs, 8, 0, 0⟩ : RS).counted 4 4294967295 = (body', ⟨bs, 12 + body.length, 0, 0⟩) := by
    unfold RS.counted
    rw [n1, if_neg (by omega), t1, if_neg (by
      unfold RS.left
      rw [if_neg (by simp)]
      show ¬ bs.length - (8 + 4) < body.length
      omega)]
    exact t2
  have p1 : (rs1 bs).part = (⟨body', 0, 0, 0⟩, ⟨bs, 12 + body.length, 0, 0⟩) := by
    unfold RS.part
    rw [r1, c1]
  have r2 : rs2 bs = ⟨bs, 12 + body.length, 0, 0⟩ := by unfold rs2; rw [p1]
  have r3 : rs3 bs = ⟨bs, 12 + body.length + 4, 0, 0⟩ := by unfold rs3; rw [r2, t3]
  refine ⟨((rs2 bs).at_ : Nat), ?_⟩
  unfold opnE
  rw [if_neg (by rw [t0]; simp), if_neg (by rw [r3]; simp), if_neg (by
    rw [r3]
    unfold RS.left
    rw [if_neg (by simp)]
    show ¬ 0 < bs.length - (12 + body.length + 4)
    omega), if_pos]
  rw [r2]
  intro he
  unfold RS.num at he
  rw [t3] at he
  have he' : ofLe cr = crc (bs.take (12 + body.length)) := he
  have h3' : bs = bs.take (12 + body.length) ++ cr := by rw [hcr, List.take_append_drop]
  refine hno h3' ?_
  rw [← he']
  exact (le_ofLe 4 cr hcl (fun x hx => hrf x (by rw [h3']; exact List.mem_append_right _ hx))).symm
end Go.Proofs.YtknlpjcdemijgaaGreat
