import Derived.Test.YtknlpjcdemijgaaGreatZb
namespace Go.Proofs.YtknlpjcdemijgaaGreat
open Go.ChangeShapes Go.WideShapes Go.ChangeAt Go.RowKit
set_option linter.unusedVariables false
theorem fail_ne (s : RS) (e p : Int) (he : e ≠ 0) : (s.fail e p).err ≠ 0 := by
  unfold RS.fail errOf
  simp only
  split
  · exact he
  · assumption
theorem rtake_bad {s : RS} (h : s.err ≠ 0) (k : Nat) : s.take k = ([], s) := by
  unfold RS.take; rw [if_pos h]
theorem counted_good {s : RS} {k most : Nat} (h : (s.counted k most).2.err = 0) : (s.take k).2.err = 0 ∧ s.counted k most = (s.take k).2.take (s.num k) := by
  unfold RS.counted at h ⊢
  by_cases h1 : most < s.num k
  · rw [if_pos h1] at h
    have := fail_ne { (s.take k).2 with at_ := s.at_ } 15 s.at_ (by decide)
    rw [rtake_bad this] at h
    exact absurd h this
  · rw [if_neg h1] at h ⊢
    by_cases h2 : (s.take k).2.left < s.num k
    · rw [if_pos h2] at h
      have := fail_ne { (s.take k).2 with at_ := s.at_ } 11 s.at_ (by decide)
      rw [rtake_bad this] at h
      exact absurd h this
    · rw [if_neg h2] at h ⊢
      exact ⟨(takes_ok h).1, rfl⟩
/-- The form of bytes whose body can be read. -/
structure Form (bs : List Int) (n : Nat) : Prop where
  len : bs.length = 16 + n
  mag : bs.take 8 = magic
  sz : (bs.drop 8).take 4 = le n 4
  cr : (bs.drop (12 + n)).take 4 = le (crc (bs.take (12 + n))) 4
  body : (rs1 bs).part.1 = ⟨(bs.drop 12).take n, 0, 0, 0⟩
theorem form_of {bs : List Int} (hr : rng bs) (h : opnE bs = none) : ∃ n, Form bs n := by
  unfold opnE at h
  split at h
  · cases h
  · next h1 =>
    split at h
    · cases h
    · next h2 =>
      split at h
      · cases h
      · next h3 =>
        split at h
        · cases h
        · next h4 =>
          have h1' : ((rs0 bs).take 8).1 = magic := by simpa using h1
          have e3 : (rs3 bs).err = 0 := by simpa using h2
          have h4' : (rs2 bs).num 4 = crc (bs.take (rs2 bs).at_) := by simpa using h4
          obtain ⟨e2, l3, t3⟩ := takes_ok (s := rs2 bs) (k := 4) e3
          have e2' : ((rs1 bs).counted 4 4294967295).2.err = 0 := e2
          obtain ⟨ea, eb⟩ := counted_good e2'
          obtain ⟨e1, la, ta⟩ := takes_ok ea
          have e1' : ((rs0 bs).take 8).2.err = 0 := e1
          obtain ⟨_, l0, t0⟩ := takes_ok e1'
          have r1 : rs1 bs = ⟨bs, 8, 0, 0⟩ := by unfold rs1; rw [t0]; rfl
          rw [eb] at e2'
          obtain ⟨_, lb, tb⟩ := takes_ok e2'
          rw [r1] at ta la eb tb lb ea
          have ra : ((⟨bs, 8, 0, 0⟩ : RS).take 4).2 = ⟨bs, 12, 0, 0⟩ := by rw [ta]
          obtain ⟨n, hn⟩ : ∃ n, n = (⟨bs, 8, 0, 0⟩ : RS).num 4 := ⟨_, rfl⟩
          rw [ra, ← hn] at tb lb eb
          have r2 : rs2 bs = ⟨bs, 12 + n, 0, 0⟩ := by
            show ((rs1 bs).counted 4 4294967295).2 = _
            rw [r1, eb, tb]
          have hpart : (rs1 bs).part.1 = ⟨(bs.drop 12).take n, 0, 0, 0⟩ := by
            unfold RS.part
            rw [r1, eb, tb]
          rw [r2] at l3 t3 h4'
          have r3 : rs3 bs = ⟨bs, 12 + n + 4, 0, 0⟩ := by unfold rs3; rw [r2, t3]
          rw [r3] at h3
          have h3' : ¬ 0 < bs.length - (12 + n + 4) := by
            intro hx; apply h3; unfold RS.left; rw [if_neg (by simp)]; exact hx
          have l3' : 12 + n + 4 ≤ bs.length := l3
          have hlen : bs.length = 16 + n := by omega
          have hsz : ((bs.drop 8).take 4) = le n 4 := by
            have e : n = ofLe ((bs.drop 8).take 4) := by rw [hn]; unfold RS.num; rw [ta]
            rw [e]
            exact (le_ofLe 4 _ (by simp; omega) (fun x hx => hr x (List.mem_of_mem_drop (List.mem_of_mem_take hx)))).symm
          have hcr : (bs.drop (12 + n)).take 4 = le (crc (bs.take (12 + n))) 4 := by
            have e : crc (bs.take (12 + n)) = ofLe ((bs.drop (12 + n)).take 4) := by rw [← h4']; unfold RS.num; rw [t3]
            rw [e]
            exact (le_ofLe 4 _ (by simp; omega) (fun x hx => hr x (List.mem_of_mem_drop (List.mem_of_mem_take hx)))).symm
          have hmg : bs.take 8 = magic := by rw [← h1', t0]; rfl
          exact ⟨n, hlen, hmg, hsz, hcr, hpart⟩
theorem end_ok {s : RS} (h : s.end.err = 0) : s.err = 0 ∧ s.bs.length ≤ s.at_ ∧ s.end = s := by
  unfold RS.end at h ⊢
  by_cases hl : 0 < s.left
  · rw [if_pos hl] at h
    exact absurd h (fail_ne s 14 _ (by decide))
  · rw [if_neg hl] at h ⊢
    refine ⟨h, ?_, rfl⟩
    unfold RS.left at hl
    rw [if_neg (by simp [h])] at hl
    omega
theorem x2_eq : x2 = ⟨⟨2097152, magic ++ [0, 0, 0, 0], [8], 0⟩, false⟩ := by kernel_rfl
/-- What is read is written as it was. -/
theorem once_enc {bs : List Int} (hr : rng bs) (h : opnE bs = none) (hd : (decS bs).err = 0) : encOk (decG bs) = true ∧ encB (decG bs) = bs := by
  obtain ⟨n, hF⟩ := form_of hr h
  obtain ⟨body, hbody⟩ : ∃ body, body = (bs.drop 12).take n := ⟨_, rfl⟩
  have hbl : body.length = n := by rw [hbody]; have := hF.len; simp; omega
  have hrb : rng body := fun x hx => by rw [hbody] at hx; exact hr x (List.mem_of_mem_drop (List.mem_of_mem_take hx))
  have hp := hF.body
  rw [← hbody] at hp
  unfold decS at hd
  unfold decG
  rw [hp] at hd ⊢
  obtain ⟨e9, l9, _⟩ := end_ok hd
  have hj := J.cf (s := ⟨body, 0, 0, 0⟩) hrb e9
  have hlim := hj.1.lim (Nat.zero_le _)
  have hup := hj.1.up
  have hb9 := hj.1.bs
  rw [hb9] at l9
  have hat : (RS.cf ⟨body, 0, 0, 0⟩).2.at_ = n := by
    have h1 : (RS.cf ⟨body, 0, 0, 0⟩).2.at_ ≤ body.length := hlim
    have h2 : body.length ≤ (RS.cf ⟨body, 0, 0, 0⟩).2.at_ := l9
    omega
  have hn : n ≤ 1252000 := by
    have h1 : (RS.cf ⟨body, 0, 0, 0⟩).2.at_ ≤ 0 + 1252000 := hup
    omega
  have hsy : Sy ⟨body, 0, 0, 0⟩ x2 := by
    rw [x2_eq]
    refine ⟨rfl, by simp [magic], ?_, Nat.zero_le _⟩
    show (magic ++ [0, 0, 0, 0]).length + (body.length - 0) ≤ 2097152
    simp [magic]; omega
  have hw := hj.2 x2 hsy
  have hseg : seg ⟨body, 0, 0, 0⟩ (RS.cf ⟨body, 0, 0, 0⟩).2 = body := by
    unfold seg
    show ((body.drop 0).take ((RS.cf ⟨body, 0, 0, 0⟩).2.at_ - 0)) = body
    rw [hat, List.drop_zero, Nat.sub_zero]
    exact List.take_of_length_le (by omega)
  rw [hseg, x2_eq] at hw
  obtain ⟨g, hg⟩ : ∃ g, g = (RS.cf ⟨body, 0, 0, 0⟩).1 := ⟨_, rfl⟩
  rw [← hg] at hw ⊢
  have hw' : x2.cf g = ⟨⟨2097152, magic ++ [0, 0, 0, 0] ++ body, [8], 0⟩, false⟩ := by
    have e : x2.cf g = app ⟨⟨2097152, magic ++ [0, 0, 0, 0], [8], 0⟩, false⟩ body := by rw [← hw, x2_eq]
    rw [e]; rfl
  have hml : magic.length = 8 := rfl
  have hS : encS g = ⟨⟨2097152, magic ++ le n 4 ++ body, [], 0⟩, false⟩ := by
    unfold encS
    rw [hw']
    unfold WS.shut WS.has
    rw [if_neg (by simp), if_pos (by simp)]
    congr 1
    have t8 : (magic ++ [0, 0, 0, 0] ++ body).take 8 = magic := by
      rw [List.append_assoc, List.take_left' hml]
    have d12 : (magic ++ [0, 0, 0, 0] ++ body).drop 12 = body := List.drop_left' (by simp [hml])
    have ln : (magic ++ [0, 0, 0, 0] ++ body).length - 8 - 4 = n := by simp [hml]; omega
    show (⟨2097152, (magic ++ [0, 0, 0, 0] ++ body).take 8 ++ le ((magic ++ [0, 0, 0, 0] ++ body).length - 8 - 4) 4 ++ (magic ++ [0, 0, 0, 0] ++ body).drop 12, _, 0⟩ : WS) = _
    rw [t8, d12, ln]
    rfl
  have hout : (encS g).s.out = magic ++ le n 4 ++ body := by rw [hS]; rfl
  have hbs12 : bs.take (12 + n) = magic ++ le n 4 ++ body := by
    have e1 : bs.take (12 + n) = bs.take 8 ++ ((bs.drop 8).take 4 ++ ((bs.drop 12).take n)) := by
      rw [show 12 + n = 8 + (4 + n) by omega, List.take_add, List.take_add, List.drop_drop]
    rw [e1, hF.mag, hF.sz, ← hbody, List.append_assoc]
  refine ⟨?_, ?_⟩
  · unfold encOk
    rw [hS]
    rfl
  · unfold encB
    rw [hout, ← hbs12]
    have hraw : (encS g).s.raw (le (crc (bs.take (12 + n))) 4) = ⟨2097152, magic ++ le n 4 ++ body ++ le (crc (bs.take (12 + n))) 4, [], 0⟩ := by
      rw [hS]
      unfold WS.raw
      rw [if_neg (by simp), if_neg (by simp [le_len, hml]; omega)]
    rw [hraw]
    show magic ++ le n 4 ++ body ++ le (crc (bs.take (12 + n))) 4 = bs
    rw [← hbs12, ← hF.cr]
    have e2 : bs = bs.take (12 + n) ++ (bs.drop (12 + n)).take 4 := by
      conv => lhs; rw [← List.take_append_drop (12 + n) bs]
      congr 1
      exact (List.take_of_length_le (by have := hF.len; simp; omega)).symm
    exact e2.symm
end Go.Proofs.YtknlpjcdemijgaaGreat
