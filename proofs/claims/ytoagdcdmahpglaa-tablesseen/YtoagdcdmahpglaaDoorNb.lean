import Derived.Test.YtoagdcdmahpglaaDoorNa
namespace Go.Proofs.YtoagdcdmahpglaaDoor
open Go.ChangeShapes Go.WideShapes Go.ChangeAt Go.RowKit
set_option linter.unusedVariables false

theorem ck_frame (p f : Nat) (h : f < 4096) : Ent.ck 1 p f = Ent.ck 1 p 0 := by
  unfold Ent.ck Ent.fm
  simp [h]
theorem may_ref (r : Rv) : r.may ↔ (Ent.ck 1 r.pm 0 = 0 ∧ r.v % 4096 = 0 ∧ r.ph % 4096 = 0 ∧ 1 ≤ r.pg ∧ r.pg ≤ 1048576 - (r.v / 4096 : Nat) ∧ r.pg ≤ 4096 - (r.ph / 4096 : Nat)) := by
  unfold Rv.may
  constructor
  · rintro ⟨h1, h2, h3, h4, h5, h6⟩
    exact ⟨by rw [← ck_frame r.pm (r.ph / 4096) (by omega)]; exact h1, h2, h3, h4, h5, h6⟩
  · rintro ⟨h1, h2, h3, h4, h5, h6⟩
    exact ⟨by rw [ck_frame r.pm (r.ph / 4096) (by omega)]; exact h1, h2, h3, h4, h5, h6⟩
set_option maxHeartbeats 1000000 in
set_option maxRecDepth 10000 in
theorem refMay_any (w : World) (r : Rv) (hr : r.ok) :
    Calls Tryd.prog 80 #[.agg r.cs] w fun e w' => e = .returned (.bool r.mb) ∧ Chg w w' (fun _ => False) := by
  obtain ⟨v, ph, pg, pm⟩ := r
  obtain ⟨h1, h2, h3, h4⟩ := hr
  simp only at h1 h2 h3 h4
  obtain ⟨b, hb⟩ : ∃ b, b = Rv.mb ⟨v, ph, pg, pm⟩ := ⟨_, rfl⟩
  have hbi : b = true ↔ (Ent.ck 1 pm 0 = 0 ∧ v % 4096 = 0 ∧ ph % 4096 = 0 ∧ 1 ≤ pg ∧ pg ≤ 1048576 - (v / 4096 : Nat) ∧ pg ≤ 4096 - (ph / 4096 : Nat)) := by
    rw [hb]
    exact (decide_eq_true_iff (p := Rv.may ⟨v, ph, pg, pm⟩)).trans (may_ref ⟨v, ph, pg, pm⟩)
  rw [← hb]
  clear hb
  unfold Rv.cs
  simp only
  obtain ⟨x, hx⟩ : ∃ x, x = v / 4096 := ⟨_, rfl⟩
  obtain ⟨y, hy⟩ : ∃ y, y = ph / 4096 := ⟨_, rfl⟩
  rw [← hx, ← hy] at hbi
  have ex : (v : Int) / 4096 = x := by omega
  have ey : (ph : Int) / 4096 = y := by omega
  have hx2 : x < 1048576 := by omega
  have hy2 : y < 1048576 := by omega
  obtain ⟨a, ha⟩ : ∃ a, a = v % 4096 := ⟨_, rfl⟩
  obtain ⟨c, hc⟩ : ∃ c, c = ph % 4096 := ⟨_, rfl⟩
  rw [← ha, ← hc] at hbi
  have ea : (v : Int) % 4096 = a := by omega
  have ec : (ph : Int) % 4096 = c := by omega
  have hE : ∀ w, Calls Tryd.prog 98 #[.agg #[.int .i64 1, .int .u8 (pm : Nat), .int .u32 0]] w fun e w' => e = .returned (.tuple #[.int .u32 (Ent.ew 1 pm 0), .int .i64 (Ent.ck 1 pm 0)]) ∧ Chg w w' (fun _ => False) := fun w => Ent.refEncode_any w 1 pm 0 h4 (by omega)
  generalize Ent.ck 1 pm 0 = d at *
  generalize Ent.ew 1 pm 0 = q at *
  clear ha hc hx hy
  go_enter Tryd.func80, Tryd.ntmps80
  go_wp2_with fail
  go_at_call 98
  refine (hE _).mono ?_
  rintro e w1 ⟨rfl, k1⟩
  have g0 := k1.heap (heap_alloc_new w _) (fun x => x)
  obtain ⟨z0, z1, z2, z3⟩ := cells4 g0
  have KC : Hid (Chg w w1 (fun _ => False)) := ((Chg.refl _ _).alloc _).trans k1 (fun _ _ h => h)
  clear k1 g0 hE
  by_cases hc0 : d = 0
  · have hz : (d != 0) = false := by simpa using hc0
    by_cases hc1 : a = 0
    · have hz1 : ((a : Int) != 0) = false := by simp; omega
      by_cases hc2 : c = 0
      · have hz2 : ((c : Int) != 0) = false := by simp; omega
        by_cases hc3 : 1 ≤ pg
        · have hz3 : decide (pg < (1 : Int)) = false := by simp; omega
          by_cases hc4 : pg ≤ 1048576 - x
          · have hz4 : decide (pg ≤ 1048576 - (x : Int)) = true := by simp; omega
            by_cases hc5 : pg ≤ 4096 - y
            · have hz5 : decide (pg ≤ 4096 - (y : Int)) = true := by simp; omega
              have hF : b = true := hbi.2 ⟨hc0, hc1, hc2, hc3, hc4, hc5⟩
              clear hbi
              go_wp2
              go_ret
              exact ⟨by first | (rw [hF]; rfl) | (rw [hF]; exact congrArg (fun b => Ending.returned (Value.bool b)) hz5) | (rw [hF]; exact congrArg (fun b => Ending.returned (Value.bool b)) hz4), KC.out⟩
            · have hz5 : decide (pg ≤ 4096 - (y : Int)) = false := by simp; omega
              have hF : b = false := by
                cases b
                · rfl
                · have := hbi.1 rfl; omega
              clear hbi
              go_wp2
              go_ret
              exact ⟨by first | (rw [hF]; rfl) | (rw [hF]; exact congrArg (fun b => Ending.returned (Value.bool b)) hz5) | (rw [hF]; exact congrArg (fun b => Ending.returned (Value.bool b)) hz4), KC.out⟩
          · have hz4 : decide (pg ≤ 1048576 - (x : Int)) = false := by simp; omega
            have hF : b = false := by
              cases b
              · rfl
              · have := hbi.1 rfl; omega
            clear hbi
            go_wp2
            go_ret
            exact ⟨by first | (rw [hF]; rfl) | (rw [hF]; exact congrArg (fun b => Ending.returned (Value.bool b)) hz5) | (rw [hF]; exact congrArg (fun b => Ending.returned (Value.bool b)) hz4), KC.out⟩
        · have hz3 : decide (pg < (1 : Int)) = true := by simp; omega
          have hF : b = false := by
            cases b
            · rfl
            · have := hbi.1 rfl; omega
          clear hbi
          go_wp2
          go_ret
          exact ⟨by first | (rw [hF]; rfl) | (rw [hF]; exact congrArg (fun b => Ending.returned (Value.bool b)) hz5) | (rw [hF]; exact congrArg (fun b => Ending.returned (Value.bool b)) hz4), KC.out⟩
      · have hz2 : ((c : Int) != 0) = true := by simp; omega
        have hF : b = false := by
          cases b
          · rfl
          · have := hbi.1 rfl; omega
        clear hbi
        go_wp2
        go_ret
        exact ⟨by first | (rw [hF]; rfl) | (rw [hF]; exact congrArg (fun b => Ending.returned (Value.bool b)) hz5) | (rw [hF]; exact congrArg (fun b => Ending.returned (Value.bool b)) hz4), KC.out⟩
    · have hz1 : ((a : Int) != 0) = true := by simp; omega
      have hF : b = false := by
        cases b
        · rfl
        · have := hbi.1 rfl; omega
      clear hbi
      go_wp2
      go_ret
      exact ⟨by first | (rw [hF]; rfl) | (rw [hF]; exact congrArg (fun b => Ending.returned (Value.bool b)) hz5) | (rw [hF]; exact congrArg (fun b => Ending.returned (Value.bool b)) hz4), KC.out⟩
  · have hz : (d != 0) = true := by simpa using hc0
    have hF : b = false := by
      cases b
      · rfl
      · have := hbi.1 rfl; omega
    clear hbi
    go_wp2
    go_ret
    exact ⟨by first | (rw [hF]; rfl) | (rw [hF]; exact congrArg (fun b => Ending.returned (Value.bool b)) hz5) | (rw [hF]; exact congrArg (fun b => Ending.returned (Value.bool b)) hz4), KC.out⟩

set_option maxRecDepth 10000 in
theorem refAll_any (w : World) (a : Option Addr) (cap : Nat) (l : List Rv) (h : RgsIn w a l) :
    Calls Tryd.prog 55 #[.slice a l.length cap] w fun e w' => e = .returned (.bool (l.all Rv.mb)) ∧ Chg w w' (fun _ => False) := by
  have hl := h.1
  have H : Hid (RgsIn w a l) := h
  clear h
  go_enter Tryd.func55, Tryd.ntmps55
  go_wp2
  go_loopw [3, 4] (fun s3 s4 wr => ∃ k : Nat, s3 = .int .i64 k ∧ k ≤ l.length ∧ Hid (Chg w wr (fun _ => False) ∧ ∀ i (hi : i < l.length), i < k → l[i].mb = true)) (fun s3 _ _ => l.length - (intOf s3).toNat)
  case atStart => exact ⟨0, rfl, by omega, Chg.refl _ _, fun i hi h => by omega⟩
  case round =>
    obtain ⟨k, rfl, hk, HI⟩ := hrel
    by_cases hlt : k < l.length
    · obtain ⟨b, o, ha, hr⟩ := H.out.2.2.resolve_left (by omega)
      subst ha
      obtain ⟨z0, z1, z2, z3⟩ := (hr k hlt).chg HI.out.1 (fun x => x)
      have hok := H.out.2.1 l[k] (List.getElem_mem hlt)
      have HX : Hid ((l[k].mb = true → ∀ i (hi : i < l.length), i < k + 1 → l[i].mb = true) ∧ (l[k].mb = false → l.all Rv.mb = false)) := by
        refine ⟨fun e i hi h => ?_, fun e => ?_⟩
        · by_cases hik : i = k
          · subst hik; exact e
          · exact HI.out.2 i hi (by omega)
        · rw [List.all_eq_false]
          exact ⟨l[k], List.getElem_mem hlt, by rw [e]; simp⟩
      clear hr
      generalize l[k] = r at *
      obtain ⟨v, ph, pg, pm⟩ := r
      simp only at z0 z1 z2 z3
      have hM2 := refMay_any wr ⟨v, ph, pg, pm⟩ hok
      unfold Rv.cs at hM2
      simp only at hM2
      generalize Rv.mb ⟨v, ph, pg, pm⟩ = bb at *
      have hkz : (k : Int) < (l.length : Int) := by omega
      clear hok
      cases bb
      · go_wp2_with fail
        go_at_call 80
        refine hM2.mono ?_
        rintro e w1 ⟨rfl, k1⟩
        have KE : Hid (Chg w w1 (fun _ => False)) := HI.out.1.trans k1 (fun _ _ h => h)
        clear k1 hM2
        go_wp2
        go_ret
        exact ⟨by rw [HX.out.2 (by trivial)]; rfl, KE.out⟩
      · go_wp2_with fail
        go_at_call 80
        refine hM2.mono ?_
        rintro e w1 ⟨rfl, k1⟩
        have KE : Hid (Chg w w1 (fun _ => False)) := HI.out.1.trans k1 (fun _ _ h => h)
        clear k1 hM2
        go_wp2
        exact ⟨⟨k + 1, by go_num, by omega, KE.out, HX.out.1 (by trivial)⟩, by simp [intOf]; omega⟩
    · have hkz : ¬ (k : Int) < (l.length : Int) := by omega
      go_wp2
      go_ret
      refine ⟨?_, HI.out.1⟩
      have : l.all Rv.mb = true := by
        rw [List.all_eq_true]
        intro r hr
        obtain ⟨i, hi, rfl⟩ := List.getElem_of_mem hr
        exact HI.out.2 i hi (by omega)
      rw [this]; rfl
end Go.Proofs.YtoagdcdmahpglaaDoor
