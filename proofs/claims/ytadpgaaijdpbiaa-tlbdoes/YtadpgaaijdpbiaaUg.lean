import Derived.Test.YtadpgaaijdpbiaaUc
namespace Go.Proofs.Ytadpgaaijdpbiaa
open Go.ChangeShapes Go.WideShapes Go.ChangeAt Go.RowKit Go.Shelf
set_option linter.unusedVariables false

theorem eql36 (a x b y : Int) (w : World) : (binOp BinOp.eql 36 (.agg #[.int .u32 a, .int .u8 b]) (.agg #[.int .u32 x, .int .u8 y])).run Try.prog w = .ok (.bool (decide (a = x ∧ b = y))) w := by
  rw [run_eql_struct, run_equalIn_agg w 9999 36 _ _ fields36 stood36]
  simp [Program.fieldsOf, Try.underlying36, go_sem]
  by_cases h1 : a = x <;> by_cases h2 : b = y <;> simp [h1, h2]
theorem set_self {ps : List Pr} {i : Nat} {p q : Pr} (hi : ps[i]? = some p) (h : q = p) : ps.set i q = ps := by
  subst h
  apply List.ext_getElem?
  intro j
  rw [List.getElem?_set]
  by_cases e : i = j
  · subst e; obtain ⟨h1, h2⟩ := List.getElem?_eq_some_iff.1 hi; simp [h1, h2]
  · simp [e]

section
variable {W3 : World} {lab : Nat → Nat} {D : Nat} {R : Rows} {ps : List Pr} {hs : List Hd} {i : Nat} {p pT : Pr}
theorem look_ref (h : WI W3 lab D R (ps.set i pT) hs) (hi : ps[i]? = some p) (s : Sta) (hl : pT.l = s.slots) (hO : s.Ok pT.n) (t : Tg) (ht : TOk t) :
    Calls Try.prog 41 #[.pointer (some ⟨pT.C, 0, none⟩), tV t] W3 fun e w' => e = .returned (.tuple #[mV ((s.f t).getD m0), .bool (s.f t).isSome]) ∧ ∃ lab' u', WI w' lab' D R (ps.set i { pT with u := u', l := (s.look t).slots }) hs ∧ Nx W3 lab w' lab' ∧ Chg W3 w' (fun b => b = pT.C) := by
  have hR := (h.ps i _ (set_at hi)).r
  rw [hl] at hR
  by_cases hm : t ∈ s.l
  · have hsm := (hO.mem t ht).1 hm
    have hj : s.l.idxOf t < s.l.length := List.idxOf_lt_length_iff.2 hm
    have hf : fnd s.slots t = ((s.l.idxOf t : Nat) : Int) := by rw [fnd_slots, if_pos hm]
    have hb := bAt_slots s (s.l.idxOf t) hj
    have hge : s.l[s.l.idxOf t] = t := List.getElem_idxOf hj
    rw [hge] at hb
    refine (rLook_yes W3 pT.C pT.u pT.n s.slots hR t (s.l.idxOf t) hf (by rw [s.slots_len]; exact hj)).mono ?_
    rintro e w' ⟨rfl, u', h1, h2, h3⟩
    rw [← look_slots s t hm hsm] at h1
    obtain ⟨lab', q1, q2⟩ := h.other hi h1 h3 h2
    exact ⟨by rw [hb, hsm], lab', u', q1, q2, h3⟩
  · have hsn : (s.f t).isSome = false := by
      cases hq : (s.f t).isSome with
      | false => rfl
      | true => exact absurd ((hO.mem t ht).2 hq) hm
    have hsf : s.f t = none := by cases hq : s.f t with | none => rfl | some _ => rw [hq] at hsn; cases hsn
    have hf : fnd s.slots t = -1 := by rw [fnd_slots, if_neg hm]
    refine (rLook_no W3 pT.C pT.u pT.n s.slots hR t hf).mono ?_
    rintro e w' ⟨rfl, hk⟩
    have hlk : s.look t = s := by unfold Sta.look; rw [hsn]; rfl
    refine ⟨by rw [hsf]; rfl, _, pT.u, ?_, Nx.kp hk 7, hk.mono (fun _ _ h => h.elim)⟩
    have e : ({ pT with u := pT.u, l := (s.look t).slots } : Pr) = pT := by rw [hlk, ← hl]
    rw [e]
    exact h.later hk
theorem put_ref (h : WI W3 lab D R (ps.set i pT) hs) (hi : ps[i]? = some p) (s : Sta) (hl : pT.l = s.slots) (hO : s.Ok pT.n) (hn : 1 ≤ pT.n) (t : Tg) (ht : TOk t) (m : Mp) :
    Calls Try.prog 42 #[.pointer (some ⟨pT.C, 0, none⟩), tV t, mV m] W3 fun e w' => e = .returned (.tuple #[tV (s.gone pT.n t), .bool (s.went pT.n t)]) ∧ ∃ lab' u', WI w' lab' D R (ps.set i { pT with u := u', l := (s.put pT.n t m).slots }) hs ∧ Nx W3 lab w' lab' ∧ Chg W3 w' (fun b => b = pT.C) := by
  have hR := (h.ps i _ (set_at hi)).r
  rw [hl] at hR
  obtain ⟨p1, p2, p3⟩ := put_slots s pT.n hO (by omega) t ht m
  refine (rPut_any W3 pT.C pT.u pT.n s.slots hR hn t m).mono ?_
  rintro e w' ⟨rfl, u', h1, h2, h3⟩
  rw [← p1] at h1
  obtain ⟨lab', q1, q2⟩ := h.other hi h1 h3 h2
  exact ⟨by rw [p2, p3], lab', u', q1, q2, h3⟩
theorem drop_ref (h : WI W3 lab D R (ps.set i pT) hs) (hi : ps[i]? = some p) (s : Sta) (hl : pT.l = s.slots) (hO : s.Ok pT.n) (t : Tg) :
    Calls Try.prog 43 #[.pointer (some ⟨pT.C, 0, none⟩), tV t] W3 fun e w' => e = .returned (.bool (decide (t ∈ s.l))) ∧ ∃ lab' u', WI w' lab' D R (ps.set i { pT with u := u', l := (s.drop (isTag t)).slots }) hs ∧ Nx W3 lab w' lab' ∧ Chg W3 w' (fun b => b = pT.C) := by
  have hR := (h.ps i _ (set_at hi)).r
  rw [hl] at hR
  refine (rDrop_any W3 pT.C pT.u pT.n s.slots hR t (decide (t ∈ s.l)) ?_).mono ?_
  · rw [fnd_slots]
    by_cases hm : t ∈ s.l
    · simp [hm]
    · simp [hm]
  · rintro e w' ⟨rfl, u', h1, h2, h3⟩
    rw [← dropTag_slots s t hO.nd] at h1
    obtain ⟨lab', q1, q2⟩ := h.other hi h1 h3 h2
    exact ⟨rfl, lab', u', q1, q2, h3⟩
theorem flush_ref (h : WI W3 lab D R (ps.set i pT) hs) (hi : ps[i]? = some p) (s : Sta) (hl : pT.l = s.slots) :
    Calls Try.prog 44 #[.pointer (some ⟨pT.C, 0, none⟩)] W3 fun e w' => e = .returned (.int .i64 ((s.l.length : Nat) : Int)) ∧ ∃ lab' u', WI w' lab' D R (ps.set i { pT with u := u', l := (s.drop (fun _ => true)).slots }) hs ∧ Nx W3 lab w' lab' ∧ Chg W3 w' (fun b => b = pT.C) := by
  have hR := (h.ps i _ (set_at hi)).r
  rw [hl] at hR
  refine (rFlush_any W3 pT.C pT.u pT.n s.slots hR).mono ?_
  rintro e w' ⟨rfl, h1, h3⟩
  rw [← dropAll_slots s] at h1
  obtain ⟨lab', q1, q2⟩ := h.other hi h1 h3 (fun b hb => by cases hb)
  exact ⟨by rw [s.slots_len], lab', _, q1, q2, h3⟩
end
end Go.Proofs.Ytadpgaaijdpbiaa
namespace Go.Proofs.Ytadpgaaijdpbiaa
open Go.ChangeShapes Go.WideShapes Go.ChangeAt Go.RowKit Go.Shelf
set_option linter.unusedVariables false

/-- 'append(twin, y.L...)' of none. -/
theorem app_twin (W : World) (ua : Option Addr) (uc : Nat) (l : List Sl4) (h : SR W (.slice ua l.length uc) l) (hl : l.length ≤ 64) :
    ∃ v' W', (Builtin.append_ #[55, 55] 55 #[.slice none 0 0, .slice ua l.length uc]).run Try.prog W = .ok v' W' ∧ SR W' v' l ∧ Kp W W' ∧ ∀ b, v'.ownBlock = some b → W.heap.size ≤ b := by
  obtain ⟨i58, z58, h58, hz58, hs58, hb58, hzs58⟩ := info58
  have hlen : (scs l).length = l.length * 4 := h.1
  obtain ⟨v', W', hr, q1, q2, q3⟩ := run_app (P := Try.prog) W 55 55 58 i58 z58 4 24 Try.underlying55 h58 hz58 hs58 hb58 hzs58 (by omega) (.slice none 0 0) 0 [] (World.ownsRow_nil W 0 58 4) ua l.length uc (scs l) hlen (by
    rcases h.2 with ⟨h1, h0⟩ | ⟨g, cap, cur, h1, _, hg, _, _, hs, ht⟩
    · exact .inl h0
    · simp at h1
      obtain ⟨rfl, rfl⟩ := h1
      refine .inr ⟨g, 0, rfl, fun j u hu => ?_⟩
      rw [Nat.zero_add, (cells_at hg j).1]
      have hj : j < l.length * 4 := by
        have := (List.getElem?_eq_some_iff.1 hu).1
        omega
      have := congrArg (fun x => x[j]?) ht
      simp only [List.getElem?_take, if_pos hj] at this
      rw [hu] at this
      simpa using this) (scs_one _) (by simp [maxLen]; omega) (by omega)
  have hC : Kp W W' := Chg.grown (Chg.refl W _) q2 (fun k e => by cases e)
  refine ⟨v', W', hr, ?_, hC, fun b hb => ?_⟩
  · show W'.ownsRow 0 58 4 v' l.length (scs l)
    simpa using q1
  · rcases q3 with e | ⟨k, e, hk⟩
    · rw [e] at hb; cases hb
    · rw [e] at hb; cases hb; exact hk
end Go.Proofs.Ytadpgaaijdpbiaa
