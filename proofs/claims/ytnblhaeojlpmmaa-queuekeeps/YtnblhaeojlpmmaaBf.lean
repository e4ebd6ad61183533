import Derived.Test.YtnblhaeojlpmmaaBe
namespace Go.Proofs.Ytnblhaeojlpmmaa
open Go.ChangeShapes Go.WideShapes Go.ChangeAt Go.RowKit
set_option linter.unusedVariables false
/-- Blocks of other types are as they were. -/
def Ot (w w' : World) : Prop := ∀ (k : Nat) (cs : Array Value) (T : Nat), w.heap[k]? = some (.cells cs T (0, 0)) → T ≠ 71 → T ≠ 75 → w'.heap[k]? = some (.cells cs T (0, 0))
section
variable {W w w' : World} {B : Nat} {s : QS}
theorem Ot.of {vq vs : Value} (i : IsQ w B vq vs s) (c : Chg w w' (Ft B vq vs)) : Ot w w' := fun k cs T hk h1 h2 => c.heap hk (fun e => by
  obtain ⟨cs', T', h3, _, h4⟩ := i.tp e
  rw [hk] at h3
  simp at h3
  rcases h4 with h4 | h4
  · exact h1 (by rw [h3.2, h4])
  · exact h2 (by rw [h3.2, h4]))
theorem PoQ.send2 (h : PoQ W w B s) (c tk : Int) (v : Value) (bs : List Int) (hv : Bs w v bs) :
    Calls Try.prog 14 #[.pointer (some ⟨B, 0, none⟩), .int .i64 c, .int .u64 tk, v] w fun e w' => e = .returned (.int .i64 (s.sE c bs.length)) ∧ (∃ v', PoQ W w' B (s.send c ⟨v', bs, tk⟩)) ∧ Ot w w' := by
  obtain ⟨vq, vs, i, k, f⟩ := h
  refine (send_any w B vq vs s i c tk v bs hv).mono ?_
  rintro e w' ⟨he, v', vs', h1, h2, h3, _⟩
  exact ⟨he, ⟨v', PoQ.step k f h1 h2 h3⟩, Ot.of i h2⟩
theorem PoQ.recv2 (h : PoQ W w B s) (c : Int) :
    Calls Try.prog 12 #[.pointer (some ⟨B, 0, none⟩), .int .i64 c] w fun e w' => e = .returned (.tuple #[(s.gM c).v, .int .u64 (s.gM c).tk, .bool (s.gH c), .int .i64 (s.gE c)]) ∧ PoQ W w' B (s.recv c) ∧ OB w' (s.gM c).v (s.gM c).bs ∧ Ot w w' := by
  obtain ⟨vq, vs, i, k, f⟩ := h
  refine (recv_any w B vq vs s i c).mono ?_
  rintro e w' ⟨he, vq', h1, h2, h3, h4, _⟩
  refine ⟨he, PoQ.step k f h1 h2 (fun x hx => .inl ?_), h4, Ot.of i h2⟩
  rcases hx with e | e | e
  · exact .inl e
  · exact .inr (.inl (by rw [← h3]; exact e))
  · exact .inr (.inr e)
theorem PoQ.turn2 (h : PoQ W w B s) (c : Int) :
    Calls Try.prog 13 #[.pointer (some ⟨B, 0, none⟩), .int .i64 c] w fun e w' => e = .returned (.int .i64 (s.tN c : Nat)) ∧ PoQ W w' B (s.turn c) ∧ Ot w w' := by
  obtain ⟨vq, vs, i, k, f⟩ := h
  refine (turn_any w B vq vs s i c).mono ?_
  rintro e w' ⟨he, vq', vs', h1, h2, h3⟩
  exact ⟨he, PoQ.step k f h1 h2 h3, Ot.of i h2⟩
end
/-- What QueueKeeps holds to. -/
structure KeI (W w : World) (B : Nat) (s : QS) (d : QD) (sent staged taken : Nat) (got : Int) : Prop where
  p : PoQ W w B s
  dd : s.d = d
  ac : s.ac = sent
  rc : s.rc = taken
  sg : s.st.length = staged
  g0 : -1 ≤ got ∧ got < sent
  rg : ∀ m, m ∈ s.qd ++ s.st → got < m.tk ∧ m.tk < sent ∧ m.bs = nb m.tk
  pw : (s.qd ++ s.st).Pairwise (fun a b => a.tk < b.tk)
  fl : d.fl = true → (∀ (j : Nat) m, (s.qd ++ s.st)[j]? = some m → m.tk = got + 1 + (j : Int)) ∧ got + 1 + ((s.qd ++ s.st).length : Int) = sent
section
variable {W w w' : World} {B : Nat} {s : QS} {d : QD} {sent staged taken : Nat} {got : Int}
theorem KeI.kp (h : KeI W w B s d sent staged taken got) (k : Kp w w') : KeI W w' B s d sent staged taken got := ⟨h.p.kp k, h.dd, h.ac, h.rc, h.sg, h.g0, h.rg, h.pw, h.fl⟩
theorem KeI.fuF (h : KeI W w B s d sent staged taken got) (hs : sent ≤ 400) (hf : d.fl = false) : s.fu = decide ((staged : Int) = d.qu) := by
  have h1 := h.p.ok.o (by rw [h.dd]; exact hf)
  have h2 := h.sg
  have h3 := h.ac
  rw [h.dd] at h1
  unfold QS.fu
  rw [h.dd, hf]
  have e : decide (1152921504606846976 ≤ s.ac) = false := by simp; omega
  rw [e]
  simp only [Bool.false_and, Bool.false_or, Bool.not_false, Bool.true_and]
  rw [h2]
  by_cases hh : (staged : Int) = d.qu
  · simp [hh]
  · simp [hh]; omega
theorem KeI.fuT (h : KeI W w B s d sent staged taken got) (hs : sent ≤ 400) (hf : d.fl = true) : s.fu = decide ((s.qd.length : Int) + (staged : Int) = d.de) := by
  have h1 := (h.p.ok.f (by rw [h.dd]; exact hf)).1
  have h2 := h.sg
  have h3 := h.ac
  rw [h.dd] at h1
  unfold QS.fu
  rw [h.dd, hf]
  have e : decide (1152921504606846976 ≤ s.ac) = false := by simp; omega
  rw [e]
  simp only [Bool.false_and, Bool.false_or, Bool.not_true, Bool.true_and, Bool.or_false]
  rw [h2]
  by_cases hh : (s.qd.length : Int) + (staged : Int) = d.de
  · simp [hh]
  · simp [hh]; omega
theorem KeI.sE (h : KeI W w B s d sent staged taken got) (h3 : d.wr = 3 ∧ d.sz = 8) : s.sE 3 4 = if s.fu = true then 173 else 0 := by
  unfold QS.sE
  rw [h.dd]
  simp [h3.1, h3.2]
theorem KeI.sent_ok (h : KeI W w B s d sent staged taken got) (h3 : d.wr = 3 ∧ d.sz = 8) (hf : s.fu = false) {v : Value} (hp : PoQ W w' B (s.send 3 ⟨v, nb sent, sent⟩)) : KeI W w' B (s.push ⟨v, nb sent, sent⟩) d (sent + 1) (staged + 1) taken got := by
  have e0 : s.send 3 ⟨v, nb sent, sent⟩ = s.push ⟨v, nb sent, sent⟩ := by
    unfold QS.send
    rw [if_pos]
    show s.sE 3 4 = 0
    rw [h.sE h3, hf]
    rfl
  rw [e0] at hp
  have ee : (s.push ⟨v, nb sent, sent⟩).qd ++ (s.push ⟨v, nb sent, sent⟩).st = (s.qd ++ s.st) ++ [⟨v, nb sent, sent⟩] := by simp [QS.push]
  refine ⟨hp, h.dd, ?_, h.rc, ?_, ?_, ?_, ?_, ?_⟩
  · simp [QS.push, h.ac]
  · simp [QS.push, h.sg]
  · have := h.g0; omega
  · rw [ee]
    intro m hm
    rcases List.mem_append.1 hm with hm | hm
    · have := h.rg m hm
      exact ⟨this.1, by omega, this.2.2⟩
    · simp at hm
      subst hm
      have := h.g0
      exact ⟨by simp; omega, by simp; omega, rfl⟩
  · rw [ee]
    refine List.pairwise_append.2 ⟨h.pw, by simp, fun a ha b hb => ?_⟩
    simp at hb
    subst hb
    exact (h.rg a ha).2.1
  · intro hfl
    obtain ⟨f1, f2⟩ := h.fl hfl
    rw [ee]
    refine ⟨fun j m hm => ?_, by simp at f2 ⊢; omega⟩
    by_cases hj : j < (s.qd ++ s.st).length
    · rw [List.getElem?_append_left hj] at hm
      exact f1 j m hm
    · have hj2 : j = (s.qd ++ s.st).length := by
        have := (List.getElem?_eq_some_iff.1 hm).1
        simp at this hj; simp; omega
      subst hj2
      rw [List.getElem?_append_right (Nat.le_refl _)] at hm
      simp at hm
      subst hm
      simp at f2 ⊢
      omega
theorem KeI.sent_no (h : KeI W w B s d sent staged taken got) (h3 : d.wr = 3 ∧ d.sz = 8) (hf : s.fu = true) {v : Value} (hp : PoQ W w' B (s.send 3 ⟨v, nb sent, sent⟩)) : KeI W w' B s d sent staged taken got := by
  have e0 : s.send 3 ⟨v, nb sent, sent⟩ = s := by
    unfold QS.send
    rw [if_neg]
    show ¬ s.sE 3 4 = 0
    rw [h.sE h3, hf]
    decide
  rw [e0] at hp
  exact ⟨hp, h.dd, h.ac, h.rc, h.sg, h.g0, h.rg, h.pw, h.fl⟩
theorem KeI.gE (h : KeI W w B s d sent staged taken got) (h3 : d.rd = 5) : s.gE 5 = 0 := by
  unfold QS.gE; rw [h.dd, h3, if_pos rfl]
theorem KeI.recv_no (h : KeI W w B s d sent staged taken got) (hq : s.qd = []) (hp : PoQ W w' B (s.recv 5)) : s.gH 5 = false ∧ KeI W w' B s d sent staged taken got := by
  have e : s.gH 5 = false := by unfold QS.gH; rw [hq]; simp
  have e2 : s.recv 5 = s := by unfold QS.recv; rw [if_neg (by simp [e])]
  rw [e2] at hp
  exact ⟨e, hp, h.dd, h.ac, h.rc, h.sg, h.g0, h.rg, h.pw, h.fl⟩
theorem KeI.recv_ok (h : KeI W w B s d sent staged taken got) (h3 : d.rd = 5) {m : Mg} {l : List Mg} (hq : s.qd = m :: l) (hp : PoQ W w' B (s.recv 5)) :
    s.gH 5 = true ∧ s.gM 5 = m ∧ (got < m.tk ∧ m.tk < sent ∧ m.bs = nb m.tk) ∧ (d.fl = true → m.tk = got + 1) ∧ KeI W w' B (s.recv 5) d sent staged (taken + 1) m.tk := by
  have e : s.gH 5 = true := by unfold QS.gH; rw [hq, h.dd, h3]; simp
  have e1 : s.gM 5 = m := by unfold QS.gM; rw [if_pos e, hq]; rfl
  have e2 : s.recv 5 = ⟨s.d, s.ac, s.rc + 1, s.lo, l, s.st⟩ := by unfold QS.recv; rw [if_pos e, hq]; rfl
  have hm := h.rg m (by rw [hq]; simp)
  have pw := h.pw
  rw [hq] at pw
  simp only [List.cons_append, List.pairwise_cons] at pw
  refine ⟨e, e1, hm, fun hf => ?_, ?_⟩
  · have := (h.fl hf).1 0 m (by rw [hq]; rfl)
    simpa using this
  · rw [e2] at hp ⊢
    refine ⟨hp, h.dd, h.ac, by simp [h.rc], h.sg, ?_, fun x hx => ?_, pw.2, fun hf => ?_⟩
    · have := h.g0; omega
    · have h1 := h.rg x (by rw [hq]; exact List.mem_cons_of_mem _ hx)
      exact ⟨pw.1 x hx, h1.2⟩
    · obtain ⟨f1, f2⟩ := h.fl hf
      have hm0 : m.tk = got + 1 := by have := f1 0 m (by rw [hq]; rfl); simpa using this
      rw [hq] at f1 f2
      refine ⟨fun j x hx => ?_, ?_⟩
      · have := f1 (j + 1) x (by simpa using hx)
        simp at this ⊢
        omega
      · simp at f2 ⊢
        omega
theorem KeI.turn (h : KeI W w B s d sent staged taken got) (h3 : d.wr = 3) (hp : PoQ W w' B (s.turn 3)) : KeI W w' B (s.turn 3) d sent 0 taken got ∧ (s.turn 3).st = [] := by
  have e2 : s.turn 3 = s.joined := by unfold QS.turn; rw [h.dd, h3, if_pos rfl]
  rw [e2] at hp ⊢
  have ee : s.joined.qd ++ s.joined.st = s.qd ++ s.st.take s.rm := by simp [QS.joined]
  refine ⟨⟨hp, h.dd, h.ac, h.rc, rfl, h.g0, fun x hx => ?_, ?_, fun hf => ?_⟩, rfl⟩
  · rw [ee] at hx
    refine h.rg x ?_
    rcases List.mem_append.1 hx with hx | hx
    · exact List.mem_append_left _ hx
    · exact List.mem_append_right _ (List.mem_of_mem_take hx)
  · rw [ee]
    exact List.Pairwise.sublist (List.Sublist.append (List.Sublist.refl _) (List.take_sublist _ _)) h.pw
  · have f0 := (h.p.ok.f (by rw [h.dd]; exact hf)).1
    have : s.rm = s.st.length := by unfold QS.rm; omega
    rw [ee, this, List.take_length]
    exact h.fl hf
end
end Go.Proofs.Ytnblhaeojlpmmaa
