import Derived.Test.YtknlpjcdemijgaaGreatZf
namespace Go.Proofs.YtknlpjcdemijgaaGreat
open Go.ChangeShapes Go.WideShapes Go.ChangeAt Go.RowKit
set_option linter.unusedVariables false
/-- Reading b, that lies behind a. -/
theorem take_mid {bs a b c : List Int} (h : bs = a ++ (b ++ c)) (p k : Nat) (hp : p = a.length) (hk : k = b.length) : (⟨bs, p, 0, 0⟩ : RS).take k = (b, ⟨bs, p + k, 0, 0⟩) := by
  subst hp hk h
  unfold RS.take
  rw [if_neg (by simp), if_neg (by simp)]
  show (((a ++ (b ++ c)).drop a.length).take b.length, _) = _
  rw [List.drop_left' rfl, List.take_left' rfl]
/-- The form of what is written, and that it can be read again. -/
theorem enc_form {g : Cf} (hf : g.fit) (h : encOk g = true) : ∃ body, rng body ∧ body.length ≤ 1252000 ∧ encB g = (magic ++ le body.length 4 ++ body) ++ le (crc (magic ++ le body.length 4 ++ body)) 4 ∧ RS.cf ⟨body, 0, 0, 0⟩ = (g, ⟨body, body.length, 0, 0⟩) := by
  unfold encOk at h
  have hc : (encS g).s.code = 0 := by
    have := (Bool.and_eq_true_iff.1 h).1
    simpa using this
  have hu : (encS g).u = false := by
    have := (Bool.and_eq_true_iff.1 h).2
    simpa using this
  have he : (x2.cf g).s.err = 0 := by
    apply Classical.byContradiction
    intro hn
    unfold encS WS.code WS.shut at hc
    simp only [if_pos hn] at hc
    exact hn hc
  obtain ⟨_, body, hr, hw, hk⟩ := K.cf g hf x2 ⟨he, hu⟩
  have hw' : x2.cf g = ⟨⟨2097152, magic ++ [0, 0, 0, 0] ++ body, [8], 0⟩, false⟩ := by
    have e : x2.cf g = app ⟨⟨2097152, magic ++ [0, 0, 0, 0], [8], 0⟩, false⟩ body := by
      have : x2.cf g = app x2 body := hw
      rw [this, x2_eq]
    rw [e]; rfl
  obtain ⟨q1, q2⟩ := hk ⟨body, 0, 0, 0⟩ ⟨rfl, by rw [x2_eq]; simp [magic], Nat.zero_le _, by show (body.drop 0).take body.length = body; rw [List.drop_zero, List.take_length]⟩
  have q1' : (RS.cf ⟨body, 0, 0, 0⟩).2 = ⟨body, body.length, 0, 0⟩ := by
    have : (RS.cf ⟨body, 0, 0, 0⟩).2 = (⟨body, 0, 0, 0⟩ : RS).past body.length := q1
    rw [this]; unfold RS.past; simp
  have hj := J.cf (s := ⟨body, 0, 0, 0⟩) hr (by rw [q1'])
  have hup := hj.1.up
  rw [q1'] at hup
  have hn : body.length ≤ 1252000 := by
    have : body.length ≤ 0 + 1252000 := hup
    omega
  have hml : magic.length = 8 := rfl
  have hS : encS g = ⟨⟨2097152, magic ++ le body.length 4 ++ body, [], 0⟩, false⟩ := by
    unfold encS
    rw [hw']
    unfold WS.shut WS.has
    rw [if_neg (by simp), if_pos (by simp)]
    have t8 : (magic ++ [0, 0, 0, 0] ++ body).take 8 = magic := by
      rw [List.append_assoc, List.take_left' hml]
    have d12 : (magic ++ [0, 0, 0, 0] ++ body).drop 12 = body := List.drop_left' (by simp [hml])
    have ln : (magic ++ [0, 0, 0, 0] ++ body).length - 8 - 4 = body.length := by simp [hml]
    show (⟨⟨2097152, (magic ++ [0, 0, 0, 0] ++ body).take 8 ++ le ((magic ++ [0, 0, 0, 0] ++ body).length - 8 - 4) 4 ++ (magic ++ [0, 0, 0, 0] ++ body).drop 12, _, 0⟩, false⟩ : WX) = _
    rw [t8, d12, ln]
    rfl
  refine ⟨body, hr, hn, ?_, Prod.ext q2 q1'⟩
  have hout : (encS g).s.out = magic ++ le body.length 4 ++ body := by rw [hS]; rfl
  unfold encB
  rw [hout]
  have hraw : (encS g).s.raw (le (crc (magic ++ le body.length 4 ++ body)) 4) = ⟨2097152, magic ++ le body.length 4 ++ body ++ le (crc (magic ++ le body.length 4 ++ body)) 4, [], 0⟩ := by
    rw [hS]
    unfold WS.raw
    rw [if_neg (by simp), if_neg (by simp [le_len, hml]; omega)]
  rw [hraw]
  rfl
/-- What was written is read. -/
theorem back_dec {g : Cf} (hf : g.fit) (h : encOk g = true) : opnE (encB g) = none ∧ (decS (encB g)).err = 0 ∧ decG (encB g) = g := by
  obtain ⟨body, hr, hn, hB, hc⟩ := enc_form hf h
  obtain ⟨hd, hhd⟩ : ∃ hd, hd = magic ++ le body.length 4 ++ body := ⟨_, rfl⟩
  obtain ⟨cr, hcr⟩ : ∃ cr, cr = le (crc hd) 4 := ⟨_, rfl⟩
  rw [← hhd, ← hcr] at hB
  have hml : magic.length = 8 := rfl
  have hcl : cr.length = 4 := by rw [hcr, le_len]
  have hhl : hd.length = 12 + body.length := by rw [hhd]; simp [le_len, hml]; omega
  have hhr : rng hd := by
    rw [hhd]
    intro x hx
    rcases List.mem_append.1 hx with hx | hx
    · rcases List.mem_append.1 hx with hx | hx
      · exact (by decide : ∀ y, y ∈ magic → 0 ≤ y ∧ y ≤ 255) x hx
      · exact le_range _ _ x hx
    · exact hr x hx
  obtain ⟨bs, hbs⟩ : ∃ bs, bs = encB g := ⟨_, rfl⟩
  rw [← hbs] at hB ⊢
  have f0 : bs = [] ++ (magic ++ (le body.length 4 ++ body ++ cr)) := by rw [hB, hhd]; simp
  have f1 : bs = magic ++ (le body.length 4 ++ (body ++ cr)) := by rw [hB, hhd]; simp
  have f2 : bs = (magic ++ le body.length 4) ++ (body ++ cr) := by rw [hB, hhd]; simp
  have f3 : bs = hd ++ (cr ++ []) := by rw [hB]; simp
  have t0 : (rs0 bs).take 8 = (magic, ⟨bs, 8, 0, 0⟩) := by
    have := take_mid f0 0 8 rfl rfl
    exact this
  have t1 := take_mid f1 8 4 rfl (by rw [le_len])
  have t2 := take_mid f2 12 body.length (by simp [le_len, hml]) rfl
  have t3 := take_mid f3 (12 + body.length) 4 hhl.symm hcl.symm
  have r1 : rs1 bs = ⟨bs, 8, 0, 0⟩ := by unfold rs1; rw [t0]
  have n1 : (⟨bs, 8, 0, 0⟩ : RS).num 4 = body.length := by
    unfold RS.num
    rw [t1, ofLe_le, Nat.mod_eq_of_lt (by omega)]
  have hbl : bs.length = 16 + body.length := by rw [hB, List.length_append, hhl, hcl]; omega
  have c1 : (⟨bs, 8, 0, 0⟩ : RS).counted 4 4294967295 = (body, ⟨bs, 12 + body.length, 0, 0⟩) := by
    unfold RS.counted
    rw [n1, if_neg (by omega), t1, if_neg (by
      unfold RS.left
      rw [if_neg (by simp)]
      show ¬ bs.length - (8 + 4) < body.length
      omega)]
    exact t2
  have p1 : (rs1 bs).part = (⟨body, 0, 0, 0⟩, ⟨bs, 12 + body.length, 0, 0⟩) := by
    unfold RS.part
    rw [r1, c1]
  have r2 : rs2 bs = ⟨bs, 12 + body.length, 0, 0⟩ := by unfold rs2; rw [p1]
  have r3 : rs3 bs = ⟨bs, 12 + body.length + 4, 0, 0⟩ := by unfold rs3; rw [r2, t3]
  refine ⟨?_, ?_, ?_⟩
  · unfold opnE
    rw [if_neg (by rw [t0]; simp), if_neg (by rw [r3]; simp), if_neg (by
      rw [r3]
      unfold RS.left
      rw [if_neg (by simp)]
      show ¬ 0 < bs.length - (12 + body.length + 4)
      omega), if_neg]
    rw [r2]
    intro hne
    apply hne
    unfold RS.num
    rw [t3]
    show ofLe cr = crc (bs.take (12 + body.length))
    rw [hB, List.take_left' hhl, hcr, ofLe_le, Nat.mod_eq_of_lt (crc_lt hd hhr)]
  · unfold decS
    rw [p1]
    show (RS.cf ⟨body, 0, 0, 0⟩).2.end.err = 0
    rw [hc]
    unfold RS.end RS.left
    simp
  · unfold decG
    rw [p1]
    show (RS.cf ⟨body, 0, 0, 0⟩).1 = g
    rw [hc]
end Go.Proofs.YtknlpjcdemijgaaGreat
