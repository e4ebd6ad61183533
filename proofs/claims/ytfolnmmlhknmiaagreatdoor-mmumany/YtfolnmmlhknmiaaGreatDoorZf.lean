import Derived.Test.YtfolnmmlhknmiaaGreatDoorTi
import Derived.Test.YtfolnmmlhknmiaaGreatDoorTw
namespace Go.Proofs.YtfolnmmlhknmiaaGreatDoor
open Go.ChangeShapes Go.WideShapes Go.ChangeAt Go.RowKit
set_option linter.unusedVariables false

theorem stN_at (m : Nat → Nat) (at_ v j x : Nat) : stN m at_ v j x = if at_ ≤ x ∧ x < at_ + j then leB v (x - at_) else m x := by
  induction j with
  | zero => simp [stN]; omega
  | succ j ih =>
    rw [stN]; unfold upd
    by_cases e : x = at_ + j
    · subst e; simp
    · rw [if_neg e, ih]
      by_cases h : at_ ≤ x ∧ x < at_ + j
      · rw [if_pos h, if_pos (by omega)]
      · rw [if_neg h, if_neg (by omega)]
theorem leB_sum (v : Nat) (hv : v < 4294967296) : leB v 0 + 256 * leB v 1 + 65536 * leB v 2 + 16777216 * leB v 3 = v := by
  unfold leB
  have e0 : 2 ^ (8 * 0) = 1 := rfl
  have e1 : 2 ^ (8 * 1) = 256 := rfl
  have e2 : 2 ^ (8 * 2) = 65536 := rfl
  have e3 : 2 ^ (8 * 3) = 16777216 := rfl
  rw [e0, e1, e2, e3]; omega
theorem ldN_four (m : Nat → Nat) (a : Nat) : ldN m a 4 = m a + 256 * m (a + 1) + 65536 * m (a + 2) + 16777216 * m (a + 3) := by
  have e0 : 2 ^ (8 * 0) = 1 := rfl
  have e1 : 2 ^ (8 * 1) = 256 := rfl
  have e2 : 2 ^ (8 * 2) = 65536 := rfl
  have e3 : 2 ^ (8 * 3) = 16777216 := rfl
  simp only [ldN, e0, e1, e2, e3, Nat.add_zero]; omega
theorem ld_st_same (m : Nat → Nat) (a v : Nat) (hv : v < 4294967296) : ldN (stN m a v 4) a 4 = v := by
  rw [ldN_four]
  simp only [stN_at]
  rw [if_pos (by omega), if_pos (by omega), if_pos (by omega), if_pos (by omega)]
  have := leB_sum v hv
  simp only [Nat.sub_self, Nat.add_sub_cancel_left]
  exact this
theorem ld_st_other (m : Nat → Nat) (a b v : Nat) (h : b + 4 ≤ a ∨ a + 4 ≤ b) : ldN (stN m a v 4) b 4 = ldN m b 4 := by
  rw [ldN_four, ldN_four]
  simp only [stN_at]
  rw [if_neg (by omega), if_neg (by omega), if_neg (by omega), if_neg (by omega)]


theorem map_ok {n : Nat} {m : Nat → Nat} {root p0 pages taken : Nat} {sealed : Bool} {l : List Rv} {r : Int} {X : Option TS} (hm : ∀ r ∈ l, r.may) {st : PS} (hp : plS n m root (pgs l) ⟨fun _ => none, []⟩ (fun _ => false) = some st) (hr : roomE st.wl.length (pages - taken) sealed = 0) (h : MapR n m root p0 pages taken sealed l r X) : r = 0 ∧ X = some (tkAll p0 root st.wl ⟨m, taken, st.T⟩) := by
  cases h with
  | arg h => exact absurd hm h
  | there _ h => rw [h] at hp; cases hp
  | room _ st' h e he h0 =>
    rw [h] at hp; cases hp
    rw [hr] at he; exact absurd he.symm h0
  | ok _ st' h he =>
    rw [h] at hp; cases hp
    exact ⟨rfl, rfl⟩

/-- Memory in which nothing but zeroes stands, as a fresh root leaves it. -/
def z64 : Nat → Nat := fillN (fun _ => 0) (4096 * (40 + 0)) 4096 0
theorem z64_zero (a : Nat) : z64 a = 0 := by unfold z64 fillN; split <;> rfl
theorem wdW_z64 (t i : Nat) : wdW 64 z64 t i = 0 := by
  unfold wdW
  split
  · exact ldN_zero z64 _ 4 (fun i _ => z64_zero _)
  · rfl
/-- One page: virtual page p, frame f, permissions pm. -/
def oneR (p f pm : Nat) : Rv := ⟨4096 * p, 4096 * f, 1, pm⟩
theorem oneR_pgs (p f pm : Nat) : pgs [oneR p f pm] = [⟨p / 1024, p % 1024, pm, f⟩] := by
  have e1 : 4096 * p / 4096 = p := by omega
  have e2 : 4096 * f / 4096 = f := by omega
  simp [pgs, oneR, pgOf, List.range_succ, e1, e2]
theorem oneR_may {p f pm : Nat} (hp : p < 1048576) (hf : f < 64) (hc : Ent.ck 1 pm f = 0) : ∀ r ∈ [oneR p f pm], r.may := by
  intro r hr
  simp only [List.mem_singleton] at hr
  subst hr
  have e1 : 4096 * p / 4096 = p := by omega
  have e2 : 4096 * f / 4096 = f := by omega
  unfold Rv.may oneR
  simp only [e1, e2]
  exact ⟨hc, by omega, by omega, by omega, by omega, by omega⟩
theorem oneR_pl (p f pm : Nat) : plS 64 z64 163840 (pgs [oneR p f pm]) ⟨fun _ => none, []⟩ (fun _ => false) = some ⟨setT (fun _ => none) (p / 1024) (enW 0), [p / 1024]⟩ := by
  have h0 : askM 64 z64 163840 ⟨fun _ => none, []⟩ (p / 1024) = (true, ⟨setT (fun _ => none) (p / 1024) (enW 0), [p / 1024]⟩) := by
    unfold askM askW
    rw [wdW_z64]
    have e1 : Ent.de 0 = 0 := by decide
    have e2 : Ent.dk 0 = 0 := by decide
    simp [e1, e2]
  have e2 : Ent.dk 0 = 0 := by decide
  rw [oneR_pgs, plS_cons]
  simp only
  rw [h0]
  simp [freeM, setT, enW, e2, plS_nil]
/-- The bytes that it leaves. -/
def oneM (p f pm : Nat) : Nat → Nat := stN (stN (fillN z64 167936 4096 0) (163840 + 4 * (p / 1024)) 167953 4) (167936 + 4 * (p % 1024)) (Ent.wd 1 pm f) 4
theorem oneM_eq (p f pm : Nat) : stPs (tkAll 40 163840 [p / 1024] ⟨z64, 1, setT (fun _ => none) (p / 1024) (enW 0)⟩).T (pgs [oneR p f pm]) (tkAll 40 163840 [p / 1024] ⟨z64, 1, setT (fun _ => none) (p / 1024) (enW 0)⟩).m = oneM p f pm := by
  rw [oneR_pgs]
  unfold stPs tkAll
  simp only [List.foldl_cons, List.foldl_nil, tkStep, stP, setT]
  simp [Ent.wd, oneM]
/-- Memory whose tables say so. -/
structure OneT (m : Nat → Nat) (p f pm : Nat) : Prop where
  r : ldN m (163840 + 4 * (p / 1024)) 4 = 167953
  t : ldN m (167936 + 4 * (p % 1024)) 4 = Ent.wd 1 pm f
theorem oneT_made {p f pm : Nat} (hp : p < 1048576) (hc : Ent.ck 1 pm f = 0) : OneT (oneM p f pm) p f pm := by
  have hw := Ent.wd_lt hc
  refine ⟨?_, ?_⟩
  · unfold oneM
    rw [ld_st_other _ _ _ _ (by omega), ld_st_same _ _ _ (by omega)]
  · unfold oneM
    rw [ld_st_same _ _ _ (by omega)]
theorem OneT.store {m : Nat → Nat} {p f pm : Nat} (h : OneT m p f pm) {a : Nat} (ha : a + 4 ≤ 163840) (v : Nat) : OneT (stN m a v 4) p f pm :=
  ⟨by rw [ld_st_other _ _ _ _ (by omega)]; exact h.r, by rw [ld_st_other _ _ _ _ (by omega)]; exact h.t⟩
theorem okW_64 {t i : Nat} (h : t % 4 = 0) (h2 : t + 4 * i + 4 ≤ 262144) : okW 64 t i = true := okW_iff.2 ⟨by omega, by omega⟩
theorem OneT.wk {m : Nat → Nat} {p f pm : Nat} (h : OneT m p f pm) (hc : Ent.ck 1 pm f = 0) (hf : f < 64) (hp : p < 1048576) {v : Nat} (hv : v / 4096 = p) {a : Int} (ha : Ent.alw pm a = true) :
    Go.Proofs.YtfolnmmlhknmiaaGreatDoor.wk 64 m 163840 v a = (4096 * f + v % 4096, [(163840 + 4 * (p / 1024), 167953), (167936 + 4 * (p % 1024), Ent.wd 1 pm f)], 0) := by
  obtain ⟨d1, d2, d3, d4⟩ := Ent.dec_enc hc
  have e : Ent.de (Ent.wd 1 pm f) = 0 := Ent.de_of d1 (by rw [d2, d3, d4]; exact hc)
  have o1 : okW 64 163840 (p / 1024) = true := okW_64 (by omega) (by omega)
  have o2 : okW 64 167936 (p % 1024) = true := okW_64 (by omega) (by omega)
  have e1 : wdW 64 m 163840 (p / 1024) = 167953 := by unfold wdW; rw [if_pos o1]; exact h.r
  have e2 : wdW 64 m 167936 (p % 1024) = Ent.wd 1 pm f := by unfold wdW; rw [if_pos o2]; exact h.t
  have r1 : rdF 167953 2 = 0 := by decide
  have q1 : Ent.df 167953 = 41 := by decide
  have r2 : rpF 64 (Ent.wd 1 pm f) a = 0 := by
    have r3 : rdF (Ent.wd 1 pm f) 1 = 0 := by unfold rdF; rw [e, d2]; rfl
    unfold rpF
    rw [r3, d3, d4, ha, if_neg (by decide), if_neg (by decide), if_neg (by omega)]
  unfold Go.Proofs.YtfolnmmlhknmiaaGreatDoor.wk wkE
  rw [hv]
  simp [o1, e1, r1, q1, o2, e2, r2, d4]
end Go.Proofs.YtfolnmmlhknmiaaGreatDoor
