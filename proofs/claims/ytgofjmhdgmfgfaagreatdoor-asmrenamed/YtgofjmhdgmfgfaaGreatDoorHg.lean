import Derived.Test.YtgofjmhdgmfgfaaGreatDoorAz
import Derived.Test.YtgofjmhdgmfgfaaGreatDoorGc
namespace Go.Proofs.YtgofjmhdgmfgfaaGreatDoor
open Go.ChangeShapes Go.WideShapes Go.ChangeAt Go.RowKit
set_option linter.unusedVariables false

/-- The two lists of names. -/
def nmsA : List (List UInt8) := [[97], [98], [99], [100], [101]]
def nmsB : List (List UInt8) := [[116, 111, 112], [114, 49, 54], [97, 100, 100], [95], [65, 98, 99, 100, 101, 102, 103, 104, 105, 106, 107, 108, 109, 110, 95, 49]]
def nmOf (l : List (List UInt8)) (k : Nat) : List UInt8 := l.getD k []
/-- A statement's text. -/
def bodyB (n : Nat) (o : List UInt8) : List UInt8 := match n with
  | 0 => [98, 101, 113, 32, 114, 49, 44, 32, 114, 50, 44, 32] ++ o
  | 1 => [99, 97, 108, 108, 32] ++ o
  | 2 => ([46, 119, 111, 114, 100, 32, 55, 44, 32] ++ o) ++ [44, 32, 45, 49]
  | 3 => [108, 105, 32, 114, 51, 44, 32] ++ o
  | 4 => ([108, 119, 32, 114, 52, 44, 32] ++ o) ++ [40, 114, 48, 41]
  | _ => [97, 100, 100, 32, 114, 49, 44, 32, 114, 50, 44, 32, 114, 51]
def labB (N : Nat → List UInt8) : Option Nat → List UInt8
  | none => []
  | some k => N k ++ [58, 32]
def lineB (N : Nat → List UInt8) (lab : Option Nat) (n o : Nat) : List UInt8 := labB N lab ++ bodyB n (N o)
/-- Its drafts. -/
def dsB (n : Nat) (o : List UInt8) : List Dr := match n with
  | 0 => [⟨0, 3, 32, 0, 1, 2, 0, o, 0⟩]
  | 1 => [⟨0, 3, 38, 15, 0, 0, 0, o, 0⟩]
  | 2 => [⟨0, 0, 0, 0, 0, 0, 0, [], 7⟩, ⟨0, 0, 0, 0, 0, 0, 0, o, 0⟩, ⟨0, 0, 0, 0, 0, 0, 0, [], -1⟩]
  | 3 => [⟨0, 1, 23, 3, 0, 0, 0, o, 0⟩, ⟨0, 2, 16, 3, 3, 0, 0, o, 0⟩]
  | 4 => [⟨0, 3, 28, 4, 0, 0, 0, o, 0⟩]
  | _ => [⟨0, 3, 1, 1, 2, 3, 0, [], 0⟩]
def labN (N : Nat → List UInt8) : Option Nat → List (List UInt8)
  | none => []
  | some k => [N k]
def chkL (N : Nat → List UInt8) (lab : Option Nat) (n o : Nat) : Bool := match lineT (lineB N lab n o) with
  | none => false
  | some ts => match lbN ts with
    | none => false
    | some (ns, r) => decide (ns = labN N lab) && decide (stM false 0 0 0 r = some (false, 0, dsB n (N o))) && decide (ts.length < 1000000) && decide ((10 : UInt8) ∉ lineB N lab n o)
def labOf (f : Fin 6) : Option Nat := if f.val = 5 then none else some f.val
def chkE (N : Nat → List UInt8) (k : Nat) : Bool := decide (lineT (N k ++ [58]) = some [⟨1, N k, 0⟩, ⟨3, [58], 0⟩]) && decide (lbN [⟨1, N k, 0⟩, ⟨3, [58], 0⟩] = some ([N k], [])) && decide ((10 : UInt8) ∉ N k ++ [58]) && decide ((N k).length ≤ 16) && decide (N k ≠ [])
theorem chkA : ∀ (f : Fin 6) (n : Fin 6) (o : Fin 5), chkL (nmOf nmsA) (labOf f) n.val o.val = true := by decide +kernel
theorem chkB : ∀ (f : Fin 6) (n : Fin 6) (o : Fin 5), chkL (nmOf nmsB) (labOf f) n.val o.val = true := by decide +kernel
theorem chkEA : ∀ k : Fin 5, chkE (nmOf nmsA) k.val = true := by decide +kernel
theorem chkEB : ∀ k : Fin 5, chkE (nmOf nmsB) k.val = true := by decide +kernel
theorem injA : ∀ k j : Fin 5, nmOf nmsA k.val = nmOf nmsA j.val → k = j := by decide +kernel
theorem injB : ∀ k j : Fin 5, nmOf nmsB k.val = nmOf nmsB j.val → k = j := by decide +kernel
end Go.Proofs.YtgofjmhdgmfgfaaGreatDoor
namespace Go.Proofs.YtgofjmhdgmfgfaaGreatDoor
open Go.ChangeShapes Go.WideShapes Go.ChangeAt Go.RowKit
set_option linter.unusedVariables false

abbrev Lnq := Option Nat × Nat × Nat
structure NGood (N : Nat → List UInt8) : Prop where
  chk : ∀ lab n o, (∀ k, lab = some k → k < 5) → n < 6 → o < 5 → chkL N lab n o = true
  e : ∀ k, k < 5 → chkE N k = true
  inj : ∀ k j, k < 5 → j < 5 → N k = N j → k = j
theorem lab_of (lab : Option Nat) (h : ∀ k, lab = some k → k < 5) : ∃ f : Fin 6, lab = labOf f := by
  cases lab with
  | none => exact ⟨⟨5, by omega⟩, rfl⟩
  | some k =>
    have := h k rfl
    refine ⟨⟨k, by omega⟩, ?_⟩
    unfold labOf
    rw [if_neg (by show ¬ k = 5; omega)]
theorem goodA : NGood (nmOf nmsA) := by
  refine ⟨fun lab n o hl hn ho => ?_, fun k hk => chkEA ⟨k, hk⟩, fun k j hk hj h => ?_⟩
  · obtain ⟨f, rfl⟩ := lab_of lab hl
    exact chkA f ⟨n, hn⟩ ⟨o, ho⟩
  · have := injA ⟨k, hk⟩ ⟨j, hj⟩ h
    simpa using this
theorem goodB : NGood (nmOf nmsB) := by
  refine ⟨fun lab n o hl hn ho => ?_, fun k hk => chkEB ⟨k, hk⟩, fun k j hk hj h => ?_⟩
  · obtain ⟨f, rfl⟩ := lab_of lab hl
    exact chkB f ⟨n, hn⟩ ⟨o, ho⟩
  · have := injB ⟨k, hk⟩ ⟨j, hj⟩ h
    simpa using this
theorem stM_any {mv : Bool} {nd nl nn no : Nat} {ts : List Tk} {ds : List Dr} (h : stM false 0 0 0 ts = some (false, no, ds)) : stM mv nd nl nn ts = some (false, no, ds) := by
  cases ts with
  | nil => exact h
  | cons x r =>
    by_cases hx : x.t = [46, 111, 114, 103]
    · exfalso
      simp only [stM] at h
      rw [if_pos hx] at h
      simp only [and_self, if_true] at h
      split at h
      · split at h
        · simp at h
        · cases h
      · cases h
    · simp only [stM] at h ⊢
      rw [if_neg hx] at h ⊢
      exact h
def cntB (n : Nat) : Nat := (dsB n []).length
theorem ds_len (n : Nat) (o : List UInt8) : (dsB n o).length = cntB n := by
  unfold cntB dsB
  split <;> rfl
theorem cnt_le (n : Nat) : cntB n ≤ 3 := by
  unfold cntB dsB
  split <;> simp
theorem ds_at (n : Nat) (o : List UInt8) : (dsB n o).map (·.at 0) = dsB n o := by
  unfold dsB
  split <;> rfl
def labI (d : Nat) : Option Nat → List (Nat × Nat)
  | none => []
  | some k => [(k, 4 * d)]
def lbI : Nat → List Lnq → List (Nat × Nat)
  | _, [] => []
  | d, (lab, n, o) :: l => labI d lab ++ lbI (d + cntB n) l
def upL (sd : Nat → Bool) : Option Nat → Nat → Bool
  | none => sd
  | some k => fun j => sd j || decide (j = k)
def okL : (Nat → Bool) → List Lnq → Prop
  | _, [] => True
  | sd, (lab, n, o) :: l => n < 6 ∧ o < 5 ∧ (∀ k, lab = some k → k < 5 ∧ sd k = false) ∧ okL (upL sd lab) l
def sdL : (Nat → Bool) → List Lnq → Nat → Bool
  | sd, [] => sd
  | sd, (lab, n, o) :: l => sdL (upL sd lab) l
def nameL (N : Nat → List UInt8) (lbs : List (Nat × Nat)) : List (List UInt8 × Nat) := lbs.map fun p => (N p.1, p.2)
def plI (lbs : List (Nat × Nat)) (k : Nat) : Option Nat := (lbs.find? fun p => decide (p.1 = k)).map (·.2)
theorem pl_name {N : Nat → List UInt8} (hN : NGood N) (lbs : List (Nat × Nat)) (h : ∀ p ∈ lbs, p.1 < 5) (k : Nat) (hk : k < 5) : plF (nameL N lbs) (N k) = plI lbs k := by
  induction lbs with
  | nil => rfl
  | cons p lbs ih =>
    have hp := h p List.mem_cons_self
    have := ih (fun q hq => h q (List.mem_cons_of_mem _ hq))
    unfold plF nameL plI at *
    simp only [List.map_cons, List.find?_cons]
    by_cases e : p.1 = k
    · rw [e]; simp
    · have e' : ¬ N p.1 = N k := fun x => e (hN.inj _ _ hp hk x)
      simp only [e, e', decide_false]
      exact this
theorem pl_none (lbs : List (Nat × Nat)) (k : Nat) (h : ∀ p ∈ lbs, p.1 ≠ k) : plI lbs k = none := by
  unfold plI
  rw [List.find?_eq_none.2 (fun p hp => by simp [h p hp])]
  rfl
theorem chk_of {N : Nat → List UInt8} {lab : Option Nat} {n o : Nat} (h : chkL N lab n o = true) : ∃ ts r, lineT (lineB N lab n o) = some ts ∧ lbN ts = some (labN N lab, r) ∧ stM false 0 0 0 r = some (false, 0, dsB n (N o)) ∧ ts.length < 1000000 ∧ (10 : UInt8) ∉ lineB N lab n o := by
  unfold chkL at h
  split at h
  · cases h
  next ts h1 =>
  split at h
  · cases h
  next ns r h2 =>
  simp only [Bool.and_eq_true, decide_eq_true_eq] at h
  obtain ⟨⟨⟨a, b⟩, c⟩, d⟩ := h
  subst a
  exact ⟨ts, r, h1, h2, b, c, d⟩
theorem chkE_of {N : Nat → List UInt8} {k : Nat} (h : chkE N k = true) : lineT (N k ++ [58]) = some [⟨1, N k, 0⟩, ⟨3, [58], 0⟩] ∧ lbN [⟨1, N k, 0⟩, ⟨3, [58], 0⟩] = some ([N k], []) ∧ (10 : UInt8) ∉ N k ++ [58] ∧ (N k).length ≤ 16 ∧ N k ≠ [] := by
  unfold chkE at h
  simp only [Bool.and_eq_true, decide_eq_true_eq] at h
  obtain ⟨⟨⟨⟨a, b⟩, c⟩, d⟩, e⟩ := h
  exact ⟨a, b, c, d, e⟩
/-- One line. -/
theorem ln_q {N : Nat → List UInt8} (hN : NGood N) (c : Nat) (st : ASt) (lbs : List (Nat × Nat)) (lab : Option Nat) (n o : Nat) (hn : n < 6) (ho : o < 5) (hl : ∀ k, lab = some k → k < 5 ∧ ∀ p ∈ lbs, p.1 ≠ k) (h1 : st.org = 0) (h2 : st.lb = nameL N lbs) (h3 : ∀ p ∈ lbs, p.1 < 5) (hd : st.dr.length ≤ 1000) (hb : lbs.length ≤ 1000) :
    lnM c st (lineB N lab n o) = some ⟨st.mv, 0, st.dr ++ (dsB n (N o)).map (·.at (c : Nat)), nameL N (lbs ++ labI st.dr.length lab)⟩ := by
  obtain ⟨ts, r, q1, q2, q3, q4, q5⟩ := chk_of (hN.chk lab n o (fun k e => (hl k e).1) hn ho)
  have hs := stM_any (mv := st.mv) (nd := st.dr.length) (nl := st.lb.length) (nn := (labN N lab).length) q3
  have he : entL (labN N lab) (st.org + 4 * st.dr.length) st.lb = some (nameL N (lbs ++ labI st.dr.length lab)) := by
    cases lab with
    | none => simp [labN, labI, entL, h2]
    | some k =>
      obtain ⟨k5, kf⟩ := hl k rfl
      obtain ⟨_, _, _, k16, _⟩ := chkE_of (hN.e k k5)
      simp only [labN, entL, labI]
      rw [if_pos ⟨by rw [h2, pl_name hN lbs h3 k k5]; exact pl_none _ _ kf, k16⟩, h2, h1, Nat.zero_add]
      simp [nameL]
  have hlen : (labN N lab).length ≤ 1 := by cases lab <;> simp [labN]
  have hlb : st.lb.length ≤ 1000 := by rw [h2]; simpa [nameL] using hb
  have hc := cnt_le n
  simp only [lnM, q1, q2, hs, he]
  rw [if_pos ⟨.inr (by omega), by rw [ds_len]; omega, by rw [ds_len]; simp only [cond, h1]; omega, q4, by omega, by omega⟩]
  simp [h1]
theorem run_q {N : Nat → List UInt8} (hN : NGood N) (rest : List (List UInt8)) : ∀ (lines : List Lnq) c st lbs sd, okL sd lines → st.mv = false → st.org = 0 → st.lb = nameL N lbs → (∀ p ∈ lbs, p.1 < 5 ∧ sd p.1 = true) → st.dr.length + 3 * lines.length ≤ 1000 → lbs.length + lines.length ≤ 1000 →
    ∃ st', runL c st (lines.map (fun x => lineB N x.1 x.2.1 x.2.2) ++ rest) = runL (c + lines.length) st' rest ∧ st'.mv = false ∧ st'.org = 0 ∧ st'.lb = nameL N (lbs ++ lbI st.dr.length lines) ∧ st'.dr.map (·.at 0) = st.dr.map (·.at 0) ++ lines.flatMap (fun x => dsB x.2.1 (N x.2.2)) ∧ (∀ p ∈ lbs ++ lbI st.dr.length lines, p.1 < 5 ∧ sdL sd lines p.1 = true) := by
  intro lines
  induction lines with
  | nil =>
    intro c st lbs sd _ h0 h1 h2 h3 _ _
    exact ⟨st, rfl, h0, h1, by simpa [lbI] using h2, by simp, by simpa [lbI, sdL] using h3⟩
  | cons x lines ih =>
    intro c st lbs sd hok h0 h1 h2 h3 hd hb
    obtain ⟨lab, n, o⟩ := x
    obtain ⟨hn, ho, hl, hok'⟩ := hok
    simp only [List.length_cons] at hd hb
    have hq := ln_q hN c st lbs lab n o hn ho (fun k e => ⟨(hl k e).1, fun p hp e2 => by
      have := (h3 p hp).2
      rw [e2, (hl k e).2] at this
      cases this⟩) h1 h2 (fun p hp => (h3 p hp).1) (by omega) (by omega)
    have hlab : (labI st.dr.length lab).length ≤ 1 := by cases lab <;> simp [labI]
    have hc := cnt_le n
    obtain ⟨st', e1, e2, e3, e4, e5, e6⟩ := ih (c + 1) ⟨st.mv, 0, st.dr ++ (dsB n (N o)).map (·.at (c : Nat)), nameL N (lbs ++ labI st.dr.length lab)⟩ (lbs ++ labI st.dr.length lab) (upL sd lab) hok' h0 rfl rfl (by
      intro p hp
      rcases List.mem_append.1 hp with hp | hp
      · refine ⟨(h3 p hp).1, ?_⟩
        have := (h3 p hp).2
        cases lab with
        | none => exact this
        | some k => simp [upL, this]
      · cases lab with
        | none => cases hp
        | some k =>
          obtain rfl : p = (k, 4 * st.dr.length) := by simpa [labI] using hp
          exact ⟨(hl k rfl).1, by simp [upL]⟩) (by show (st.dr ++ _).length + _ ≤ _; rw [List.length_append, List.length_map, ds_len]; omega) (by rw [List.length_append]; omega)
    have hdl : (st.dr ++ (dsB n (N o)).map (·.at (c : Nat))).length = st.dr.length + cntB n := by rw [List.length_append, List.length_map, ds_len]
    simp only [hdl] at e4 e6
    refine ⟨st', ?_, e2, e3, ?_, ?_, ?_⟩
    · show runL c st (lineB N lab n o :: (lines.map _ ++ rest)) = _
      rw [runL, hq]
      show runL (c + 1) _ _ = _
      rw [e1, List.length_cons, show c + 1 + lines.length = c + (lines.length + 1) by omega]
    · rw [e4, lbI, List.append_assoc]
    · rw [e5, List.map_append, List.map_map]
      show (_ ++ (dsB n (N o)).map (·.at 0)) ++ _ = _
      rw [ds_at, List.flatMap_cons, List.append_assoc]
    · rw [lbI, ← List.append_assoc]
      exact e6
theorem run_e {N : Nat → List UInt8} (hN : NGood N) : ∀ (ks : List Nat) c st lbs, ks.Nodup → (∀ k ∈ ks, k < 5 ∧ ∀ p ∈ lbs, p.1 ≠ k) → st.org = 0 → st.lb = nameL N lbs → (∀ p ∈ lbs, p.1 < 5) → st.dr.length ≤ 1000 → lbs.length + ks.length ≤ 1000 →
    runL c st (ks.map (fun k => N k ++ [58]) ++ [[]]) = some ⟨st.mv, 0, st.dr, nameL N (lbs ++ ks.map fun k => (k, 4 * st.dr.length))⟩ := by
  intro ks
  induction ks with
  | nil =>
    intro c st lbs _ _ h1 h2 h3 hd hb
    have hlb : st.lb.length ≤ 1000 := by rw [h2]; simpa [nameL] using hb
    show runL c st [[]] = _
    have hL : lineT [] = some [] := rfl
    have hln : lnM c st [] = some st := by
      simp only [lnM, hL, lbN, stM, entL]
      rw [if_pos (by refine ⟨.inl trivial, ?_, ?_, by simp, ?_, by omega⟩ <;> simp <;> omega)]
      simp
    rw [runL, hln]
    show some st = _
    obtain ⟨a, b, c', d⟩ := st
    simp only at h1 h2
    subst h1
    simp [h2]
  | cons k ks ih =>
    intro c st lbs hnd hk h1 h2 h3 hd hb
    obtain ⟨k5, kf⟩ := hk k List.mem_cons_self
    obtain ⟨q1, q2, q3, q4, q5⟩ := chkE_of (hN.e k k5)
    obtain ⟨hnk, hnd'⟩ := List.nodup_cons.1 hnd
    have hlb : st.lb.length + (ks.length + 1) ≤ 1000 := by rw [h2]; simpa [nameL] using hb
    have he : entL [N k] (st.org + 4 * st.dr.length) st.lb = some (nameL N (lbs ++ [(k, 4 * st.dr.length)])) := by
      simp only [entL]
      rw [if_pos ⟨by rw [h2, pl_name hN lbs h3 k k5]; exact pl_none _ _ kf, q4⟩, h2, h1, Nat.zero_add]
      simp [nameL]
    have hln : lnM c st (N k ++ [58]) = some ⟨st.mv, 0, st.dr, nameL N (lbs ++ [(k, 4 * st.dr.length)])⟩ := by
      simp only [lnM, q1, q2, stM, he]
      rw [if_pos (by refine ⟨.inr (by omega), ?_, ?_, by simp, ?_, by omega⟩ <;> simp [h1] <;> omega)]
      simp [h1]
    show runL c st ((N k ++ [58]) :: (ks.map _ ++ [[]])) = _
    rw [runL, hln]
    show runL (c + 1) _ _ = _
    rw [ih (c + 1) ⟨st.mv, 0, st.dr, nameL N (lbs ++ [(k, 4 * st.dr.length)])⟩ (lbs ++ [(k, 4 * st.dr.length)]) hnd' (fun j hj => by
      obtain ⟨j5, jf⟩ := hk j (List.mem_cons_of_mem _ hj)
      refine ⟨j5, fun p hp => ?_⟩
      rcases List.mem_append.1 hp with hp | hp
      · exact jf p hp
      · obtain rfl : p = (k, 4 * st.dr.length) := by simpa using hp
        exact fun e => hnk (by have e2 : k = j := e; rw [e2]; exact hj)) rfl rfl (by
      intro p hp
      rcases List.mem_append.1 hp with hp | hp
      · exact h3 p hp
      · obtain rfl : p = (k, 4 * st.dr.length) := by simpa using hp
        exact k5) hd (by simp only [List.length_append, List.length_cons, List.length_nil] at hb ⊢; omega)]
    simp
end Go.Proofs.YtgofjmhdgmfgfaaGreatDoor
namespace Go.Proofs.YtgofjmhdgmfgfaaGreatDoor
open Go.ChangeShapes Go.WideShapes Go.ChangeAt Go.RowKit
set_option linter.unusedVariables false

theorem ck_beq : ∀ j : Fin 401, ck 32 0 1 2 ((j.val : Int) - 200) = 0 := by decide +kernel
theorem ck_jal : ∀ j : Fin 401, ck 38 15 0 0 ((j.val : Int) - 200) = 0 := by decide +kernel
theorem ck_ori : ∀ j : Fin 801, ck 16 3 3 0 (j.val : Int) = 0 := by decide +kernel
theorem ck_lw : ∀ j : Fin 801, ck 28 4 0 0 (j.val : Int) = 0 := by decide +kernel
theorem ck_lui : ck 23 3 0 0 0 = 0 := by decide +kernel
theorem ck_add : ck 1 1 2 3 0 = 0 := by decide +kernel
theorem gbd_b : gbd 32 = true ∧ gbd 38 = true ∧ gbd 0 = false ∧ gbd 23 = false ∧ gbd 16 = false ∧ gbd 28 = false := by decide +kernel
theorem ck_b (f : Int → Int) (h : ∀ j : Fin 401, f ((j.val : Int) - 200) = 0) (v : Int) (h1 : -200 ≤ v) (h2 : v ≤ 200) : f v = 0 := by
  have := h ⟨(v + 200).toNat, by omega⟩
  rw [show (((v + 200).toNat : Nat) : Int) - 200 = v by omega] at this
  exact this
theorem td4 (x : Int) (h1 : -800 ≤ x) (h2 : x ≤ 800) : -200 ≤ x.tdiv 4 ∧ x.tdiv 4 ≤ 200 := by
  by_cases hx : 0 ≤ x
  · rw [Int.tdiv_eq_ediv_of_nonneg hx]; omega
  · have : x.tdiv 4 = -((-x).tdiv 4) := by rw [← Int.neg_tdiv, Int.neg_neg]
    rw [this, Int.tdiv_eq_ediv_of_nonneg (by omega)]; omega
theorem img_cons {lb : List (List UInt8 × Nat)} {n : Nat} {x : Dr} {l : List Dr} {v r : Int} {ws : List Int} (h1 : meanM lb 0 n x = some v) (h2 : wordM x v = some r) (h3 : x.nm.length ≤ 1000000) (h4 : imgM lb 0 (n + 1) l = some ws) : imgM lb 0 n (x :: l) = some (r :: ws) := by
  rw [imgM, h1]
  simp only [h2, h4]
  rw [if_pos h3]
theorem mean_num (lb : List (List UInt8 × Nat)) (n : Nat) (x : Dr) (h : x.nm = []) : meanM lb 0 n x = some x.nu := by
  unfold meanM
  rw [h]
  rfl
theorem mean_lab {N : Nat → List UInt8} (hN : NGood N) (lbs : List (Nat × Nat)) (h : ∀ p ∈ lbs, p.1 < 5) (o a : Nat) (ho : o < 5) (ha : plI lbs o = some a) (n : Nat) (x : Dr) (hx : x.nm = N o) (g : Bool) (hg : gbd x.op = g) : meanM (nameL N lbs) 0 n x = some (cond g (((a : Int) - ((0 + 4 * n : Nat) : Int)).tdiv 4) (a : Int)) := by
  obtain ⟨_, _, _, _, hne⟩ := chkE_of (hN.e o ho)
  unfold meanM
  rw [hx, if_neg (by simpa using hne), pl_name hN lbs h o ho, ha, hg]
  cases g <;> rfl
theorem nm_le {N : Nat → List UInt8} (hN : NGood N) (o : Nat) (ho : o < 5) : (N o).length ≤ 1000000 := by
  have := (chkE_of (hN.e o ho)).2.2.2.1
  omega
theorem wq_3 (op : Int) (d a b : Nat) (nm : List UInt8) (nu v : Int) (h1 : -200 ≤ v) (h2 : v ≤ 800) (hc : ck op d a b v = 0) : wordM ⟨0, 3, op, d, a, b, 0, nm, nu⟩ v = some (ew op d a b v) := by
  simp only [wordM]
  rw [if_pos trivial, if_pos ⟨by omega, by omega, hc⟩]
theorem wq_0 (nm : List UInt8) (nu v : Int) (h1 : -200 ≤ v) (h2 : v ≤ 800) : wordM ⟨0, 0, 0, 0, 0, 0, 0, nm, nu⟩ v = some (v % 4294967296) := by
  simp only [wordM]
  rw [if_neg (by simp), if_pos trivial, if_pos ⟨by omega, by omega⟩]
theorem wq_1 (nm : List UInt8) (nu v : Int) (h1 : 0 ≤ v) (h2 : v ≤ 800) : wordM ⟨0, 1, 23, 3, 0, 0, 0, nm, nu⟩ v = some (ew 23 3 0 0 0) := by
  simp only [wordM]
  rw [if_neg (by simp), if_neg (by simp), if_pos trivial, show v % 4294967296 / 16384 = 0 by omega, if_pos ⟨⟨by omega, by omega⟩, ck_lui⟩]
theorem wq_2 (nm : List UInt8) (nu v : Int) (h1 : 0 ≤ v) (h2 : v ≤ 800) : wordM ⟨0, 2, 16, 3, 3, 0, 0, nm, nu⟩ v = some (ew 16 3 3 0 v) := by
  have hc := ck_ori ⟨v.toNat, by omega⟩
  rw [show ((v.toNat : Nat) : Int) = v by omega] at hc
  simp only [wordM]
  rw [if_neg (by simp), if_neg (by simp), if_neg (by simp), if_pos trivial, show v % 4294967296 % 16384 = v by omega, if_pos ⟨⟨by omega, by omega⟩, hc⟩]
/-- The words are the names' no more than the lines' numbers'. -/
theorem img_q (lbs : List (Nat × Nat)) (h : ∀ p ∈ lbs, p.1 < 5) (hp : ∀ o, o < 5 → ∃ a, plI lbs o = some a ∧ a ≤ 800) : ∀ (lines : List Lnq) n, (∀ x ∈ lines, x.2.2 < 5) → n + 3 * lines.length ≤ 200 →
    ∃ ws, ∀ N, NGood N → imgM (nameL N lbs) 0 n (lines.flatMap fun x => dsB x.2.1 (N x.2.2)) = some ws := by
  intro lines
  induction lines with
  | nil => intro n _ _; exact ⟨[], fun N _ => rfl⟩
  | cons x lines ih =>
    intro n hx hn
    obtain ⟨lab, k, o⟩ := x
    have ho : o < 5 := hx (lab, k, o) List.mem_cons_self
    simp only [List.length_cons] at hn
    have hc := cnt_le k
    obtain ⟨ws, hw⟩ := ih (n + cntB k) (fun y hy => hx y (List.mem_cons_of_mem _ hy)) (by omega)
    obtain ⟨a, ha, ha2⟩ := hp o ho
    obtain ⟨ht1, ht2⟩ := td4 ((a : Int) - ((0 + 4 * n : Nat) : Int)) (by omega) (by omega)
    obtain ⟨g1, g2, g3, g4, g5, g6⟩ := gbd_b
    simp only [List.flatMap_cons]
    match k with
    | 0 => exact ⟨_, fun N hN => img_cons (mean_lab hN lbs h o a ho ha n _ rfl true g1) (wq_3 32 0 1 2 _ _ _ ht1 (by simp only [cond]; omega) (ck_b (ck 32 0 1 2) ck_beq _ ht1 ht2)) (nm_le hN o ho) (hw N hN)⟩
    | 1 => exact ⟨_, fun N hN => img_cons (mean_lab hN lbs h o a ho ha n _ rfl true g2) (wq_3 38 15 0 0 _ _ _ ht1 (by simp only [cond]; omega) (ck_b (ck 38 15 0 0) ck_jal _ ht1 ht2)) (nm_le hN o ho) (hw N hN)⟩
    | 2 => exact ⟨_, fun N hN => img_cons (mean_num _ _ _ rfl) (wq_0 _ _ 7 (by omega) (by omega)) (by simp) (img_cons (mean_lab hN lbs h o a ho ha (n + 1) _ rfl false g3) (wq_0 _ _ (a : Int) (by omega) (by omega)) (nm_le hN o ho) (img_cons (mean_num _ _ _ rfl) (wq_0 _ _ (-1) (by omega) (by omega)) (by simp) (hw N hN)))⟩
    | 3 => exact ⟨_, fun N hN => img_cons (mean_lab hN lbs h o a ho ha n _ rfl false g4) (wq_1 _ _ (a : Int) (by omega) (by omega)) (nm_le hN o ho) (img_cons (mean_lab hN lbs h o a ho ha (n + 1) _ rfl false g5) (wq_2 _ _ (a : Int) (by omega) (by omega)) (nm_le hN o ho) (hw N hN))⟩
    | 4 => exact ⟨_, fun N hN => img_cons (mean_lab hN lbs h o a ho ha n _ rfl false g6) (wq_3 28 4 0 0 _ _ (a : Int) (by omega) (by omega) (ck_lw ⟨a, by omega⟩)) (nm_le hN o ho) (hw N hN)⟩
    | k + 5 => exact ⟨_, fun N hN => img_cons (mean_num _ _ _ rfl) (wq_3 1 1 2 3 _ _ 0 (by omega) (by omega) ck_add) (by simp) (hw N hN)⟩
end Go.Proofs.YtgofjmhdgmfgfaaGreatDoor
namespace Go.Proofs.YtgofjmhdgmfgfaaGreatDoor
open Go.ChangeShapes Go.WideShapes Go.ChangeAt Go.RowKit
set_option linter.unusedVariables false

def endK (sd : Nat → Bool) : List Nat := [0, 1, 2, 3, 4].filter fun k => !sd k
def cntS (sd : Nat → Bool) : Nat := ([0, 1, 2, 3, 4].filter sd).length
theorem cnt_up (sd : Nat → Bool) (k : Nat) (hk : k < 5) (h : sd k = false) : cntS (upL sd (some k)) = cntS sd + 1 := by
  unfold cntS upL
  match k, hk with
  | 0, _ => cases h1 : sd 1 <;> cases h2 : sd 2 <;> cases h3 : sd 3 <;> cases h4 : sd 4 <;> simp [List.filter, h, h1, h2, h3, h4]
  | 1, _ => cases h1 : sd 0 <;> cases h2 : sd 2 <;> cases h3 : sd 3 <;> cases h4 : sd 4 <;> simp [List.filter, h, h1, h2, h3, h4]
  | 2, _ => cases h1 : sd 0 <;> cases h2 : sd 1 <;> cases h3 : sd 3 <;> cases h4 : sd 4 <;> simp [List.filter, h, h1, h2, h3, h4]
  | 3, _ => cases h1 : sd 0 <;> cases h2 : sd 1 <;> cases h3 : sd 2 <;> cases h4 : sd 4 <;> simp [List.filter, h, h1, h2, h3, h4]
  | 4, _ => cases h1 : sd 0 <;> cases h2 : sd 1 <;> cases h3 : sd 2 <;> cases h4 : sd 3 <;> simp [List.filter, h, h1, h2, h3, h4]
theorem cnt_end (sd : Nat → Bool) : cntS sd + (endK sd).length = 5 := by
  unfold cntS endK
  cases h0 : sd 0 <;> cases h1 : sd 1 <;> cases h2 : sd 2 <;> cases h3 : sd 3 <;> cases h4 : sd 4 <;> simp [List.filter, h0, h1, h2, h3, h4]
theorem lbI_len : ∀ (lines : List Lnq) sd d, okL sd lines → cntS (sdL sd lines) = cntS sd + (lbI d lines).length := by
  intro lines
  induction lines with
  | nil => intro sd d _; rfl
  | cons x lines ih =>
    intro sd d h
    obtain ⟨lab, n, o⟩ := x
    obtain ⟨_, _, hl, hok⟩ := h
    show cntS (sdL (upL sd lab) lines) = cntS sd + (labI d lab ++ lbI (d + cntB n) lines).length
    rw [ih (upL sd lab) (d + cntB n) hok, List.length_append]
    cases lab with
    | none => show cntS sd + _ = cntS sd + (0 + _); omega
    | some k =>
      rw [cnt_up sd k (hl k rfl).1 (hl k rfl).2]
      show _ = cntS sd + (1 + _)
      omega
theorem lbI_has : ∀ (lines : List Lnq) sd d o, sdL sd lines o = true → sd o = true ∨ ∃ p ∈ lbI d lines, p.1 = o := by
  intro lines
  induction lines with
  | nil => intro sd d o h; exact .inl h
  | cons x lines ih =>
    intro sd d o h
    obtain ⟨lab, n, j⟩ := x
    rcases ih (upL sd lab) (d + cntB n) o h with h1 | ⟨p, hp, e⟩
    · cases lab with
      | none => exact .inl h1
      | some k =>
        simp only [upL, Bool.or_eq_true, decide_eq_true_eq] at h1
        rcases h1 with h1 | h1
        · exact .inl h1
        · exact .inr ⟨(k, 4 * d), List.mem_append_left _ (by simp [labI]), h1.symm⟩
    · exact .inr ⟨p, List.mem_append_right _ hp, e⟩
theorem lbI_le : ∀ (lines : List Lnq) d, ∀ p ∈ lbI d lines, p.2 ≤ 4 * (d + 3 * lines.length) := by
  intro lines
  induction lines with
  | nil => intro d p hp; cases hp
  | cons x lines ih =>
    intro d p hp
    obtain ⟨lab, n, o⟩ := x
    have hc := cnt_le n
    rcases List.mem_append.1 hp with hp | hp
    · cases lab with
      | none => cases hp
      | some k =>
        obtain rfl : p = (k, 4 * d) := by simpa [labI] using hp
        simp only [List.length_cons]; omega
    · have := ih _ p hp
      simp only [List.length_cons]; omega
theorem pl_some (lbs : List (Nat × Nat)) (o : Nat) (h : ∃ p ∈ lbs, p.1 = o) : ∃ a, plI lbs o = some a ∧ ∃ p ∈ lbs, p.2 = a := by
  unfold plI
  cases hf : lbs.find? fun p => decide (p.1 = o) with
  | none =>
    obtain ⟨p, hp, e⟩ := h
    have := List.find?_eq_none.1 hf p hp
    simp [e] at this
  | some p => exact ⟨p.2, rfl, p, List.mem_of_find?_eq_some hf, rfl⟩
theorem okL_o : ∀ (lines : List Lnq) sd, okL sd lines → ∀ x ∈ lines, x.2.1 < 6 ∧ x.2.2 < 5 ∧ ∀ k, x.1 = some k → k < 5 := by
  intro lines
  induction lines with
  | nil => intro sd _ x hx; cases hx
  | cons y lines ih =>
    intro sd h x hx
    obtain ⟨lab, n, o⟩ := y
    obtain ⟨h1, h2, h3, h4⟩ := h
    rcases List.mem_cons.1 hx with rfl | hx
    · exact ⟨h1, h2, fun k e => (h3 k e).1⟩
    · exact ih _ h4 x hx
def linesQ (N : Nat → List UInt8) (lines : List Lnq) : List (List UInt8) := lines.map (fun x => lineB N x.1 x.2.1 x.2.2) ++ (endK (sdL (fun _ => false) lines)).map fun k => N k ++ [58]
theorem line_le {N : Nat → List UInt8} (hN : NGood N) (lab : Option Nat) (n o : Nat) (ho : o < 5) (hl : ∀ k, lab = some k → k < 5) : (lineB N lab n o).length ≤ 60 := by
  have h1 := (chkE_of (hN.e o ho)).2.2.2.1
  have h2 : (labB N lab).length ≤ 18 := by
    cases lab with
    | none => simp [labB]
    | some k => have := (chkE_of (hN.e k (hl k rfl))).2.2.2.1; simp [labB]; omega
  have h3 : (bodyB n (N o)).length ≤ 40 := by
    unfold bodyB
    split <;> simp <;> omega
  unfold lineB
  rw [List.length_append]
  omega
theorem catL_le (ls : List (List UInt8)) (m : Nat) (h : ∀ l ∈ ls, l.length ≤ m) : (catL ls).length ≤ (m + 1) * ls.length := by
  induction ls with
  | nil => exact Nat.zero_le _
  | cons x ls ih =>
    have h1 := h x List.mem_cons_self
    have h2 := ih (fun l hl => h l (List.mem_cons_of_mem _ hl))
    show (x ++ 10 :: catL ls).length ≤ _
    simp only [List.length_append, List.length_cons, Nat.mul_add, Nat.mul_one]
    omega
theorem fl_len (N : Nat → List UInt8) (lines : List Lnq) : (lines.flatMap fun x => dsB x.2.1 (N x.2.2)).length = (lines.map fun x => cntB x.2.1).sum ∧ (lines.map fun x => cntB x.2.1).sum ≤ 3 * lines.length := by
  induction lines with
  | nil => exact ⟨rfl, Nat.le_refl _⟩
  | cons x lines ih =>
    have := cnt_le x.2.1
    simp only [List.flatMap_cons, List.length_append, ds_len, List.map_cons, List.sum_cons, List.length_cons]
    omega
theorem img_len (lb : List (List UInt8 × Nat)) (org : Nat) : ∀ (l : List Dr) n ws, imgM lb org n l = some ws → ws.length = l.length := by
  intro l
  induction l with
  | nil => intro n ws h; obtain rfl : [] = ws := by simpa [imgM] using h
           rfl
  | cons x l ih =>
    intro n ws h
    rw [imgM] at h
    split at h
    · cases h
    split at h
    · cases h
    split at h
    · cases h
    next ws' h' =>
    split at h
    · obtain rfl := Option.some.inj h
      simp [ih _ _ h']
    · cases h
/-- A program, whatever its labels are called. -/
theorem src_q (lines : List Lnq) (hok : okL (fun _ => false) lines) (hl : lines.length ≤ 60) :
    ∃ (ws : List Int) (lbs : List (Nat × Nat)), lbs.length = 5 ∧ ws.length ≤ 200 ∧ (∀ p ∈ lbs, p.2 ≤ 800) ∧ ∀ N, NGood N → (catL (linesQ N lines)).length ≤ 20000 ∧
      ∃ ls st, Lib.splitB (sb [10]) 0 (Lib.countB (sb (catL (linesQ N lines))) (sb [10])) (sb (catL (linesQ N lines))) = ls.map sb ∧ (∀ t ∈ ls, t.length < 1000000) ∧ ls.length < 1000000 ∧ runL 1 ⟨false, 0, [], []⟩ ls = some st ∧ imgM st.lb st.org 0 st.dr = some ws ∧ st.org = 0 ∧ st.lb = nameL N lbs ∧ st.dr.length ≤ 4096 := by
  have hcs : cntS (fun _ => false) = 0 := rfl
  have hlen := lbI_len lines (fun _ => false) 0 hok
  rw [hcs, Nat.zero_add] at hlen
  have hend := cnt_end (sdL (fun _ => false) lines)
  obtain ⟨sd, hsd⟩ : ∃ sd, sd = sdL (fun _ => false) lines := ⟨_, rfl⟩
  obtain ⟨D, hD⟩ : ∃ D, D = (lines.map fun x => cntB x.2.1).sum := ⟨_, rfl⟩
  have hDle : D ≤ 3 * lines.length := by rw [hD]; exact (fl_len (fun _ => []) lines).2
  obtain ⟨lbs, hlbs⟩ : ∃ lbs, lbs = lbI 0 lines ++ (endK sd).map fun k => (k, 4 * D) := ⟨_, rfl⟩
  have hoo := okL_o lines _ hok
  have hmem : ∀ k ∈ endK sd, k < 5 ∧ sd k = false := by
    intro k hk
    obtain ⟨h1, h2⟩ := List.mem_filter.1 hk
    refine ⟨?_, by simpa using h2⟩
    simp at h1
    omega
  have hin : ∀ k, k < 5 → sd k = false → k ∈ endK sd := by
    intro k hk h
    refine List.mem_filter.2 ⟨?_, by simp [h]⟩
    simp
    omega
  have hnd : (endK sd).Nodup := List.Nodup.sublist List.filter_sublist (by decide)
  obtain ⟨stA, _, _, _, _, _, hA6⟩ := run_q goodA [] lines 1 ⟨false, 0, [], []⟩ [] (fun _ => false) hok rfl rfl rfl (fun p hp => by cases hp) (by simp; omega) (by simp; omega)
  have h5 : ∀ p ∈ lbI 0 lines, p.1 < 5 ∧ sd p.1 = true := by
    intro p hp
    have := hA6 p (by simpa using hp)
    rw [hsd]
    exact this
  have hle : ∀ p ∈ lbs, p.1 < 5 ∧ p.2 ≤ 800 := by
    intro p hp
    rw [hlbs] at hp
    rcases List.mem_append.1 hp with hp | hp
    · refine ⟨(h5 p hp).1, ?_⟩
      have := lbI_le lines 0 p hp
      omega
    · obtain ⟨k, hk, rfl⟩ := List.mem_map.1 hp
      exact ⟨(hmem k hk).1, by show 4 * D ≤ 800; omega⟩
  have hpl : ∀ o, o < 5 → ∃ a, plI lbs o = some a ∧ a ≤ 800 := by
    intro o ho
    have : ∃ p ∈ lbs, p.1 = o := by
      rw [hlbs]
      cases h : sd o with
      | true =>
        rw [hsd] at h
        rcases lbI_has lines (fun _ => false) 0 o h with h | ⟨p, hp, e⟩
        · cases h
        · exact ⟨p, List.mem_append_left _ hp, e⟩
      | false => exact ⟨(o, 4 * D), List.mem_append_right _ (List.mem_map.2 ⟨o, hin o ho h, rfl⟩), rfl⟩
    obtain ⟨a, e1, p, hp, e2⟩ := pl_some lbs o this
    exact ⟨a, e1, by rw [← e2]; exact (hle p hp).2⟩
  obtain ⟨ws, hws⟩ := img_q lbs (fun p hp => (hle p hp).1) hpl lines 0 (fun x hx => (hoo x hx).2.1) (by omega)
  refine ⟨ws, lbs, ?_, ?_, fun p hp => (hle p hp).2, fun N hN => ?_⟩
  · rw [hlbs, List.length_append, List.length_map, ← hlen, hsd]; exact hend
  · have := img_len _ _ _ _ _ (hws _ goodA)
    rw [this, (fl_len _ lines).1, ← hD]
    omega
  · have hnl : ∀ l ∈ linesQ N lines, (10 : UInt8) ∉ l ∧ l.length ≤ 60 := by
      intro l hl
      rcases List.mem_append.1 hl with hl | hl
      · obtain ⟨x, hx, rfl⟩ := List.mem_map.1 hl
        obtain ⟨q1, q2, q3⟩ := hoo x hx
        obtain ⟨_, _, _, _, _, _, q5⟩ := chk_of (hN.chk x.1 x.2.1 x.2.2 q3 q1 q2)
        exact ⟨q5, line_le hN _ _ _ q2 q3⟩
      · obtain ⟨k, hk, rfl⟩ := List.mem_map.1 hl
        rw [← hsd] at hk
        obtain ⟨_, _, q3, q4, _⟩ := chkE_of (hN.e k (hmem k hk).1)
        exact ⟨q3, by simp; omega⟩
    have hll : (linesQ N lines).length ≤ 65 := by
      unfold linesQ
      rw [List.length_append, List.length_map, List.length_map, ← hsd]
      have : (endK sd).length ≤ 5 := by rw [← hsd] at hend; omega
      omega
    have hcl := catL_le (linesQ N lines) 60 (fun l hl => (hnl l hl).2)
    obtain ⟨st, e1, e2, e3, e4, e5, e6⟩ := run_q hN ((endK sd).map (fun k => N k ++ [58]) ++ [[]]) lines 1 ⟨false, 0, [], []⟩ [] (fun _ => false) hok rfl rfl rfl (fun p hp => by cases hp) (by simp; omega) (by simp; omega)
    have hdl : st.dr.length = D := by
      have := congrArg List.length e5
      simp only [List.length_map, List.map_nil, List.nil_append] at this
      rw [this, (fl_len N lines).1, hD]
    have e4' : st.lb = nameL N (lbI 0 lines) := e4
    have hre := run_e hN (endK sd) (1 + lines.length) st (lbI 0 lines) hnd (fun k hk => ⟨(hmem k hk).1, fun p hp e => by
      have := (h5 p hp).2
      rw [e, (hmem k hk).2] at this
      cases this⟩) e3 e4' (fun p hp => (h5 p hp).1) (by omega) (by
      have : (endK sd).length ≤ 5 := by rw [← hsd] at hend; omega
      have : (lbI 0 lines).length ≤ 5 := by rw [← hlen]; omega
      omega)
    refine ⟨by omega, linesQ N lines ++ [[]], ⟨st.mv, 0, st.dr, nameL N lbs⟩, split_all _ (fun l hl => (hnl l hl).1), ?_, ?_, ?_, ?_, rfl, rfl, ?_⟩
    · intro t ht
      rcases List.mem_append.1 ht with h | h
      · have := (hnl t h).2; omega
      · obtain rfl : t = [] := by simpa using h
        simp
    · rw [List.length_append]; simp; omega
    · unfold linesQ
      rw [List.append_assoc, ← hsd, e1, hre, hdl, ← hlbs]
    · show imgM (nameL N lbs) 0 0 st.dr = _
      rw [← img_at, e5]
      exact hws N hN
    · show st.dr.length ≤ 4096
      omega
end Go.Proofs.YtgofjmhdgmfgfaaGreatDoor
