import Derived.Test.YtibpbemenjgncaaEd
namespace Go.Proofs.Ytibpbemenjgncaa
open Go.ChangeShapes Go.WideShapes Go.ChangeAt Go.RowKit
set_option linter.unusedVariables false
theorem mr_iff {p : PS} {rl : List Int} (h : p.rd = inF rl) (hg : ∀ x, x ∈ rl → 1 ≤ x ∧ x ≤ 8) (c : Int) : p.mr c = decide (c ∈ rl) := by
  unfold PS.mr
  rw [h]
  unfold inF
  by_cases hc : c ∈ rl
  · have := hg c hc
    have e : ((c.toNat : Nat) : Int) = c := by omega
    rw [e]
    simp [hc]; omega
  · by_cases h1 : 1 ≤ c ∧ c ≤ 8
    · have e : ((c.toNat : Nat) : Int) = c := by omega
      rw [e]
      simp [hc]
    · have : (decide (1 ≤ c) && decide (c ≤ 8)) = false := by
        by_cases h2 : 1 ≤ c
        · have : ¬ c ≤ 8 := fun h => h1 ⟨h2, h⟩
          simp [this]
        · simp [h2]
      rw [this]
      simp [hc]
/-- What Read tells. -/
def PS.rT (p : PS) (c : Int) : Int := if p.mr c then p.la.tk else 0
def PS.rE (p : PS) (c : Int) : Int := if p.mr c then 0 else 161
def PS.rB (p : PS) (c : Int) : List Int := if p.mr c then p.la.bs else []
def PS.rH (p : PS) (c : Int) : Bool := p.mr c && p.la.th
theorem rd_yes {p : PS} {c : Int} (h : p.mr c = true) : p.rT c = p.la.tk ∧ p.rE c = 0 ∧ p.rB c = p.la.bs ∧ p.rH c = p.la.th := by simp [PS.rT, PS.rE, PS.rB, PS.rH, h]
theorem rd_not {p : PS} {c : Int} (h : p.mr c = false) : p.rT c = 0 ∧ p.rE c = 161 ∧ p.rB c = [] ∧ p.rH c = false := by simp [PS.rT, PS.rE, PS.rB, PS.rH, h]
theorem read_all (w : World) (B : Nat) (vl vn : Value) (p : PS) (sn : Bool) (h : IsP w B vl vn p sn) (c : Int) :
    Calls Try.prog 12 #[.pointer (some ⟨B, 0, none⟩), .int .i64 c] w fun e w' => ∃ v, e = .returned (.tuple #[v, .int .u64 (p.rT c), .bool (p.rH c), .int .i64 (p.rE c)]) ∧ OB w' v (p.rB c) ∧ Kp w w' ∧ Nw w v := read_any w B vl vn p sn h c
set_option maxHeartbeats 2000000 in
set_option maxRecDepth 10000 in
theorem fread_any (w : World) (F : Nat) (vr vl vn : Value) (rl : List Int) (p : PS) (h : IsF w F vr vl vn rl p) (c : Int) :
    Calls Try.prog 35 #[.pointer (some ⟨F, 0, none⟩), .int .i64 c] w fun e w' => ∃ v, e = .returned (.tuple #[v, .int .u64 (p.rT c), .bool (p.rH c), .int .i64 (p.rE c)]) ∧ OB w' v (p.rB c) ∧ Kp w w' ∧ Nw w v := by
  have HM : Hid (p.mr c = decide (c ∈ rl)) := mr_iff h.rd h.rg c
  obtain ⟨al, cl, rfl⟩ := h.l.shape
  have c2 : w.cell? ⟨F, 2, none⟩ = some vr := (h.c 2).1
  have c3 : w.cell? ⟨F, 3, none⟩ = some (.bool p.la.th) := (h.c 3).1
  have c5 : w.cell? ⟨F, 5, none⟩ = some (.slice al p.la.bs.length cl) := (h.c 5).1
  have c6 : w.cell? ⟨F, 6, none⟩ = some (.int .u64 p.la.tk) := (h.c 6).1
  obtain ⟨ar, cr, rfl⟩ := h.r.shape
  have hlen := h.len
  have HH : Hid (IsF w F (.slice ar rl.length cr) (.slice al p.la.bs.length cl) vn rl p) := h
  clear h
  go_enter Try.func35, Try.ntmps35
  go_wp2_with fail
  go_loopw [8] (fun s8 wr => ∃ i : Nat, s8 = .int .i64 i ∧ i ≤ rl.length ∧ wr = w ∧ Hid (c ∉ rl.take i)) (fun s8 _ => rl.length - nI s8)
  case atStart => exact ⟨0, rfl, by omega, rfl, by show c ∉ rl.take 0; simp⟩
  case round =>
    obtain ⟨i, rfl, hi, rfl, HN⟩ := hrel
    by_cases hlt : i < rl.length
    · have hiz : (i : Int) < (rl.length : Int) := by omega
      rcases HH.out.r.at with ⟨_, e⟩ | ⟨g, cap, e, _, _, _, hc, _⟩
      · rw [e] at hlt; simp at hlt
      obtain ⟨rfl, rfl⟩ : ar = some ⟨g, 0, none⟩ ∧ cr = cap := by simpa using e
      have ci := hc i hlt
      have hts : rl.take (i + 1) = rl.take i ++ [rl[i]] := List.take_succ_eq_append_getElem hlt
      have HX : Hid ((rl[i] = c → c ∈ rl) ∧ (rl[i] ≠ c → c ∉ rl.take (i + 1))) := ⟨fun e => by rw [← e]; exact List.getElem_mem hlt, fun e => by rw [hts, List.mem_append]; simp; exact ⟨HN.out, fun e' => e e'.symm⟩⟩
      clear hc hts e
      generalize rl[i] = x at *
      by_cases hx : x = c
      · subst hx
        have gx : (x == x) = true := by simp
        have HM2 : Hid (p.mr x = true) := by show p.mr x = true; rw [HM.out]; simp [HX.out.1 rfl]
        have hA : Calls Try.prog 40 #[.slice al p.la.bs.length cl] wr.drew fun e w' => ∃ v', e = .returned v' ∧ OB w' v' p.la.bs ∧ Kp wr w' ∧ Nw wr v' :=
          (copied40_any wr.drew _ _ (HH.out.kp (Kp.drew _)).lb).mono fun _ _ ⟨v', h1, h2, h3, h4⟩ => ⟨v', h1, h2, (Kp.drew _).trans h3, h4⟩
        have HKc : ∀ W', Kp wr W' → W'.cell? ⟨F, 5, none⟩ = some (.slice al p.la.bs.length cl) ∧ W'.cell? ⟨F, 6, none⟩ = some (.int .u64 p.la.tk) ∧ W'.cell? ⟨F, 3, none⟩ = some (.bool p.la.th) := fun W' k => ⟨k.cell c5, k.cell c6, k.cell c3⟩
        clear HN HX
        go_upto_region 5 with fail
        go_region_held3 (fun w' => w'.cell? ⟨F, 5, none⟩ = some (.slice al p.la.bs.length cl) ∧ w'.cell? ⟨F, 6, none⟩ = some (.int .u64 p.la.tk) ∧ w'.cell? ⟨F, 3, none⟩ = some (.bool p.la.th)) (first | exact ⟨by assumption, by assumption, by assumption⟩ | exact HKc _ (Kp.drew _) | exact HKc _ (by assumption)) (first | (go_at_call 40; with_reducible refine hA.mono ?_; rintro e wz ⟨v', rfl, o', k', n'⟩))
        have HO : Hid (OB wz v' p.la.bs ∧ Kp wr wz ∧ Nw wr v') := ⟨o', k', n'⟩
        clear o' k' n' hA HKc
        go_wp2_with fail
        refine bodyPost_ret (v := .tuple #[v', .int .u64 p.la.tk, .bool p.la.th, .int .i64 0]) (by simp [results, Try.results35, go_sem]) rfl ?_
        obtain ⟨q1, q2, q3, q4⟩ := rd_yes HM2.out
        exact ⟨v', by rw [q1, q2, q4], by rw [q3]; exact HO.out.1, HO.out.2.1, HO.out.2.2⟩
      · have gx : (x == c) = false := by simp [hx]
        have HN2 : Hid (c ∉ rl.take (i + 1)) := HX.out.2 hx
        clear HX HN hx
        go_wp2_with fail
        exact ⟨⟨i + 1, by go_num, by omega, by first | rfl | trivial, HN2⟩, by simp [nI]; omega⟩
    · have hiz : ¬ (i : Int) < (rl.length : Int) := by omega
      have HM2 : Hid (p.mr c = false) := by
        show p.mr c = false
        have := HN.out
        obtain rfl : i = rl.length := by omega
        rw [List.take_length] at this
        rw [HM.out]; simp [this]
      go_wp2_with fail
      refine bodyPost_ret (v := .tuple #[.slice none 0 0, .int .u64 0, .bool false, .int .i64 161]) (by simp [results, Try.results35, go_sem]) rfl ?_
      obtain ⟨q1, q2, q3, q4⟩ := rd_not HM2.out
      exact ⟨.slice none 0 0, by rw [q1, q2, q4], by rw [q3]; exact OB.nil _, Kp.refl _, fun k hk => by simp [Value.ownBlock] at hk⟩
end Go.Proofs.Ytibpbemenjgncaa
