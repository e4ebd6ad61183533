import Derived.Test.YtoagdcdmahpglaaDoorNd
import Derived.Deep.QuietTactic
import Derived.BigQuiet
namespace Go.Proofs.YtoagdcdmahpglaaDoor
open Go.ChangeShapes Go.WideShapes Go.ChangeAt Go.RowKit
set_option linter.unusedVariables false

theorem fields39 : Tryd.prog.underlying 39 = some (.struct (Tryd.prog.fieldsOf 39)) := by simp [Program.fieldsOf, Tryd.underlying39]
theorem stood39 : Tryd.prog.stoodInHeld 39 = false := by kernel_rfl
theorem neq39_same (a b c d : Int) (w : World) : (binOp BinOp.neq 39 (.agg #[.int .u32 a, .int .u32 b, .int .i64 c, .int .u8 d]) (.agg #[.int .u32 a, .int .u32 b, .int .i64 c, .int .u8 d])).run Tryd.prog w = .ok (.bool false) w := by
  rw [run_neq_struct, run_equalIn_agg w 9999 39 _ _ fields39 stood39]
  simp [Program.fieldsOf, Tryd.underlying39, go_sem]
theorem eql39_same (a b c d : Int) (w : World) : (binOp BinOp.eql 39 (.agg #[.int .u32 a, .int .u32 b, .int .i64 c, .int .u8 d]) (.agg #[.int .u32 a, .int .u32 b, .int .i64 c, .int .u8 d])).run Tryd.prog w = .ok (.bool true) w := by
  rw [run_eql_struct, run_equalIn_agg w 9999 39 _ _ fields39 stood39]
  simp [Program.fieldsOf, Tryd.underlying39, go_sem]
set_option maxRecDepth 10000 in
theorem sameRanges_eq (w : World) (a1 a2 : Option Addr) (c1 c2 : Nat) (l : List Rv) (h1 : RgsIn w a1 l) (h2 : RgsIn w a2 l) :
    Calls Tryd.prog 22 #[.slice a1 l.length c1, .slice a2 l.length c2] w fun e w' => e = .returned (.bool true) ∧ Chg w w' (fun _ => False) := by
  have hl := h1.1
  have H : Hid (RgsIn w a1 l ∧ RgsIn w a2 l) := ⟨h1, h2⟩
  clear h1 h2
  go_enter Tryd.func22, Tryd.ntmps22
  go_wp2
  go_loopw [5] (fun s5 wr => ∃ k : Nat, s5 = .int .i64 k ∧ k ≤ l.length ∧ Hid (Chg w wr (fun _ => False))) (fun s5 _ => l.length - (intOf s5).toNat)
  case atStart => exact ⟨0, rfl, by omega, Chg.refl _ _⟩
  case round =>
    obtain ⟨k, rfl, hk, HI⟩ := hrel
    by_cases hlt : k < l.length
    · obtain ⟨b1, o1, e1, hr1⟩ := H.out.1.2.2.resolve_left (by omega)
      obtain ⟨b2, o2, e2, hr2⟩ := H.out.2.2.2.resolve_left (by omega)
      subst e1 e2
      obtain ⟨x0, x1, x2, x3⟩ := (hr1 k hlt).chg HI.out (fun x => x)
      obtain ⟨y0, y1, y2, y3⟩ := (hr2 k hlt).chg HI.out (fun x => x)
      clear hr1 hr2
      generalize l[k] = r at *
      obtain ⟨v, ph, pg, pm⟩ := r
      simp only at x0 x1 x2 x3 y0 y1 y2 y3
      have hne := fun w => neq39_same (v : Nat) (ph : Nat) pg (pm : Nat) w
      have hkz : (k : Int) < (l.length : Int) := by omega
      go_wp2_with fail
      go_quiet (fail)
      go_wp2
      exact ⟨⟨k + 1, by go_num, by omega, HI.out.drewN _⟩, by simp [intOf]; omega⟩
    · have hkz : ¬ (k : Int) < (l.length : Int) := by omega
      go_wp2
      go_ret
      exact ⟨rfl, HI.out⟩
/-- A mark. -/
def mk77 : Rv := ⟨0, 0, -77, 0⟩
def mk99 : Rv := ⟨0, 0, -99, 0⟩
theorem mk77_ok : mk77.ok := by unfold mk77 Rv.ok; simp
theorem mk99_ok : mk99.ok := by unfold mk99 Rv.ok; simp
set_option maxHeartbeats 1000000 in
set_option maxRecDepth 10000 in
theorem lent_any (w : World) (a : Option Addr) (cap : Nat) (l : List Rv) (h : RgsIn w a l) (hl : l.length ≤ 1000) :
    Calls Tryd.prog 23 #[.slice a l.length cap] w fun e w' => ∃ g cap', e = .returned (.slice (some ⟨g, 0, none⟩) (l.length + 8) cap') ∧ l.length + 8 ≤ cap' ∧ RR w' g (l ++ List.replicate 8 mk77) ∧ w.heap.size ≤ g ∧ Chg w w' (fun _ => False) := by
  obtain ⟨v1, w1, hr1, o1, g1, l1⟩ := run_appR w (.slice none 0 0) [] (OR.nil w) a cap l h (by simp; omega) 22
  have HI0 : Hid (OR w1 v1 (l ++ List.replicate 0 mk77) ∧ Chg w w1 (fun _ => False) ∧ ∀ q, v1.ownBlock = some q → w.heap.size ≤ q) := by
    refine ⟨by simpa using o1, (Chg.refl _ _).grown g1 (by simp [Value.ownBlock]), fun q e => ?_⟩
    rcases l1 with e' | ⟨j, e', hj⟩
    · rw [e'] at e; cases e
    · rw [e'] at e; cases e; exact hj
  obtain ⟨av, cv, ev, -⟩ := o1.slice
  clear o1 g1 l1 h
  subst ev
  go_enter Tryd.func23, Tryd.ntmps23
  go_wp2_with (at_builtin; refine wpList_append_run _ rfl (.tmp 5) (.tmp 6) 22 22 rfl _ _ _ w1 rfl rfl hr1 ?_)
  clear hr1
  go_loopw [3, 4] (fun s3 s4 wr => ∃ (i : Nat) (lv : Value), lv = s3 ∧ s4 = .int .i64 i ∧ i ≤ 8 ∧ Hid (OR wr lv (l ++ List.replicate i mk77) ∧ Chg w wr (fun _ => False) ∧ ∀ q, lv.ownBlock = some q → w.heap.size ≤ q)) (fun _ s4 _ => 8 - (intOf s4).toNat)
  case atStart => exact ⟨0, _, rfl, rfl, by omega, HI0⟩
  case round =>
    obtain ⟨i, lv, e3, rfl, hi, HI⟩ := hrel
    subst e3
    clear HI0
    by_cases hlt : i < 8
    · have hiz : (i : Int) < 8 := by omega
      have hn := heap_alloc_new wr (.cells #[.int .u32 0, .int .u32 0, .int .i64 (-77), .int .u8 0] 39)
      obtain ⟨x0, x1, x2, x3⟩ := cells4 hn
      have hsr : RgsIn (wr.alloc (.cells #[.int .u32 0, .int .u32 0, .int .i64 (-77), .int .u8 0] 39)) (some ⟨wr.heap.size, 0, none⟩) [mk77] := by
        refine ⟨by simp, by simp [mk77_ok], .inr ⟨_, _, rfl, fun j hj => ?_⟩⟩
        simp at hj
        subst hj
        exact ⟨x0, x1, x2, x3⟩
      obtain ⟨v2, w2, hr2, o2, g2, l2⟩ := run_appR (wr.alloc (.cells #[.int .u32 0, .int .u32 0, .int .i64 (-77), .int .u8 0] 39)) lv _ (HI.out.1.chg (S := fun _ => False) ((Chg.refl _ _).alloc _) (fun _ _ x => x)) (some ⟨wr.heap.size, 0, none⟩) 1 [mk77] hsr (by simp; omega) 22
      rw [show ([mk77] : List Rv).length = 1 from rfl] at hr2
      have HE : Hid (OR w2 v2 (l ++ List.replicate (i + 1) mk77) ∧ Chg w w2 (fun _ => False) ∧ ∀ q, v2.ownBlock = some q → w.heap.size ≤ q) := by
        refine ⟨?_, (HI.out.2.1.alloc _).grown g2 (fun q e => .inr (HI.out.2.2 q e)), fun q e => ?_⟩
        · rw [List.replicate_succ', ← List.append_assoc]; exact o2
        · rcases l2 with e' | ⟨j, e', hj⟩
          · exact HI.out.2.2 q (by rw [← e']; exact e)
          · rw [e'] at e; cases e
            exact Nat.le_trans (HI.out.2.1.alloc _).size hj
      obtain ⟨a2, c2, e2, -⟩ := o2.slice
      obtain ⟨a3, c3, e3, -⟩ := HI.out.1.slice
      generalize (l ++ List.replicate i mk77 ++ [mk77]).length = n2 at e2
      generalize (l ++ List.replicate i mk77).length = n3 at e3
      subst e2 e3
      clear o2 g2 l2 hsr x0 x1 x2 x3 hn HI
      go_wp2_with (at_builtin; refine wpList_append_run _ rfl (.tmp 12) (.tmp 14) 22 22 rfl _ _ _ w2 rfl rfl hr2 ?_)
      exact ⟨⟨i + 1, _, rfl, by go_num, by omega, HE⟩, by simp [intOf]; omega⟩
    · have hiz : ¬ (i : Int) < 8 := by omega
      have hi8 : i = 8 := by omega
      subst hi8
      obtain ⟨g, cap', e, h1, h2⟩ := HI.out.1.rr (by simp)
      have hln : (l ++ List.replicate 8 mk77).length = l.length + 8 := by simp
      rw [hln] at e h1
      subst e
      have KF : Hid (RR wr g (l ++ List.replicate 8 mk77) ∧ w.heap.size ≤ g ∧ Chg w wr (fun _ => False)) := ⟨h2, HI.out.2.2 g rfl, HI.out.2.1⟩
      clear HI h2
      go_wp2
      go_ret
      exact ⟨g, cap', rfl, h1, KF.out.1, KF.out.2.1, KF.out.2.2⟩
end Go.Proofs.YtoagdcdmahpglaaDoor
