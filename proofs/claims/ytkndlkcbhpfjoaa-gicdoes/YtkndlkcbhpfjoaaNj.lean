import Derived.Test.YtkndlkcbhpfjoaaNi
import Derived.Test.YtkndlkcbhpfjoaaLb
namespace Go.Proofs.Ytkndlkcbhpfjoaa
open Go.ChangeShapes Go.WideShapes Go.ChangeAt Go.RowKit Go.Shelf
set_option linter.unusedVariables false
structure LoF (w wr : World) (v : Value) (l : List Nat) : Prop where
  kp : Kp w wr
  ow : OI wr v l
  nw : ∀ k, v.ownBlock = some k → w.heap.size ≤ k ∧ k < wr.heap.size
set_option maxHeartbeats 4000000 in
set_option maxRecDepth 10000 in
theorem fOwn_any (w : World) (F R P M : Nat) (s : GS) (h : IsF w F R P M s) (c : Int) :
    Calls Try.prog 49 #[.pointer (some ⟨F, 0, none⟩), .int .i64 c] w fun e w' => ∃ v, e = .returned v ∧ OI w' v (lns (s.to c)) ∧ Kp w w' ∧ (∀ k, v.ownBlock = some k → w.heap.size ≤ k) := by
  have H : Hid (IsF w F R P M s) := h
  clear h
  obtain ⟨f, hf⟩ : ∃ f, f = s.to c := ⟨_, rfl⟩
  rw [← hf]
  have HF : Hid (f = s.to c) := hf
  clear hf
  have HI0 : Hid (LoF w w (.slice none 0 0) []) := ⟨Kp.refl w, ⟨rfl, .inl ⟨rfl, rfl⟩⟩, fun k hk => by cases hk⟩
  go_enter Try.func49, Try.ntmps49
  go_wp2
  go_loopw [5, 6] (fun s5 s6 wr => ∃ (v : Value) (j : Nat), v = s5 ∧ s6 = .int .i64 j ∧ j ≤ 32 ∧ Hid (LoF w wr v ((List.range j).filter f))) (fun _ s6 _ => 32 - (intOf s6).toNat)
  case atStart => exact ⟨_, 0, rfl, rfl, by omega, HI0⟩
  case round =>
    obtain ⟨v, j, rfl, rfl, hj, HI⟩ := hrel
    clear HI0
    by_cases hlt : j < 32
    · have hjz : (j : Int) < 32 := by omega
      have c0 := (H.out.kp HI.out.kp).c0
      have cj := (H.out.kp HI.out.kp).rt j hlt
      have hfj : f j = decide ((s.rt j : Int) = c) := by rw [HF.out]; rfl
      have hL := flt_succ f j
      by_cases hr : (s.rt j : Int) = c
      · have hft : f j = true := by rw [hfj]; simp [hr]
        rw [hft, if_pos rfl] at hL
        have hlen : ((List.range j).filter f).length < 100 := by
          have := List.length_filter_le f (List.range j)
          simp at this; omega
        obtain ⟨v', w', hrun, ho, hc, hLoc⟩ := app_int wr v _ HI.out.ow j hlen (fun k hk => (HI.out.nw k hk).2)
        have HN : Hid (LoF w w' v' ((List.range (j + 1)).filter f)) := by
          rw [hL]
          refine ⟨Chg.trans HI.out.kp hc (fun i hi e => by have := (HI.out.nw i e).1; omega), ho, fun k hk => ?_⟩
          have hk' : k < w'.heap.size := by
            rcases ho.2 with ⟨e, _⟩ | ⟨g, cap, cur, e, _, hg, _⟩
            · rw [e] at hk; cases hk
            · rw [e] at hk; cases hk; exact hp_lt hg
          rcases hLoc with e | ⟨k', e, hk2⟩
          · rw [e] at hk; exact ⟨(HI.out.nw k hk).1, hk'⟩
          · rw [e] at hk; cases hk
            have := HI.out.kp.size
            simp at hk2
            exact ⟨by omega, hk'⟩
        clear hL hft hfj hlen ho hc hLoc
        go_wp2_with (at_builtin; refine wpList_append_run _ rfl (.tmp 20) (.tmp 22) 22 22 rfl _ _ v' w' rfl rfl hrun ?_)
        exact ⟨⟨v', j + 1, rfl, by go_num, by omega, HN⟩, by simp [intOf]; omega⟩
      · have hft : f j = false := by rw [hfj]; simp [hr]
        rw [hft] at hL
        simp only [Bool.false_eq_true, if_false, List.append_nil] at hL
        have hrb : ((s.rt j : Int) == c) = false := by rw [beq_eq_false_iff_ne]; exact hr
        have HN : Hid (LoF w wr v ((List.range (j + 1)).filter f)) := by rw [hL]; exact HI.out
        clear hL hft hfj
        go_wp2
        exact ⟨⟨v, j + 1, rfl, by go_num, by omega, HN⟩, by simp [intOf]; omega⟩
    · have hjz : ¬ (j : Int) < 32 := by omega
      obtain rfl : j = 32 := by omega
      go_wp2
      go_ret
      exact ⟨v, rfl, HI.out.ow, HI.out.kp, fun k hk => (HI.out.nw k hk).1⟩
end Go.Proofs.Ytkndlkcbhpfjoaa
