import Derived.Test.YtkndlkcbhpfjoaaRg
namespace Go.Proofs.Ytkndlkcbhpfjoaa
open Go.ChangeShapes Go.WideShapes Go.ChangeAt Go.RowKit Go.Shelf
set_option linter.unusedVariables false
attribute [local go_sem] Oper.semAt_some

theorem each_any (w : World) (n : Int) : Calls Try.prog 37 #[.int .u32 n] w fun e w' => e = .returned (.func (.func 52) #[] #[.pointer (some ⟨w.heap.size, 0, none⟩)]) ∧ w' = w.alloc (.cells #[.int .u32 n] 30) := by
  go_enter Try.func37, Try.ntmps37
  go_wp2
  go_ret
  exact ⟨rfl, rfl⟩
/-- How many lines of a set lie below j. -/
def cn (f : Nat → Bool) (j : Nat) : Nat := ((List.range j).filter f).length
theorem cn_yes (f : Nat → Bool) (j : Nat) (h : f j = true) : cn f (j + 1) = cn f j + 1 := by simp [cn, List.range_succ, List.filter_append, h]
theorem cn_no (f : Nat → Bool) (j : Nat) (h : f j = false) : cn f (j + 1) = cn f j := by simp [cn, List.range_succ, List.filter_append, h]
theorem cn_end (f : Nat → Bool) : cn f 32 = (lns f).length := rfl
theorem cn_at (f : Nat → Bool) (j : Nat) (hj : j < 32) (h : f j = true) : (lns f)[cn f j]? = some j := by
  have e : lns f = ((List.range j).filter f ++ [j]) ++ (((List.range (31 - j)).map (j + 1 + ·)).filter f) := by
    unfold lns
    rw [show List.range 32 = List.range ((j + 1) + (31 - j)) from by congr 1; omega, List.range_add, List.filter_append, List.range_succ, List.filter_append]
    simp [h]
  rw [e, List.getElem?_append_left (by simp [cn]), List.getElem?_append_right (by simp [cn])]
  simp [cn]
def lnA (f : Nat → Bool) (k : Nat) : Nat := (lns f).getD k 0
theorem lnA_at (f : Nat → Bool) (j : Nat) (hj : j < 32) (h : f j = true) : lnA f (cn f j) = j := by
  unfold lnA; rw [List.getD_eq_getElem?_getD, cn_at f j hj h]; rfl
theorem cn_lt (f : Nat → Bool) (j : Nat) (hj : j < 32) (h : f j = true) : cn f j < (lns f).length := (List.getElem?_eq_some_iff.1 (cn_at f j hj h)).1
def eArgs (f : Nat → Bool) (_ : Unit) (k : Nat) : Array Value := #[.int .i64 (lnA f k : Nat)]
def eBox (f : Nat → Bool) (b : Nat) (W : World) : Prop := W.cell? ⟨b, 0, none⟩ = some (.int .u32 (sw f : Nat))
def eGood (_ : Unit) (W W1 : World) : Prop := Kp W W1
def eKp (f : Nat → Bool) (b : Nat) (_ : Unit) (A C : World) : Prop := eBox f b A → eBox f b C
set_option maxHeartbeats 4000000 in
set_option maxRecDepth 10000 in
theorem each_seq (w : World) (m b : Nat) (f : Nat → Bool) (hb : eBox f b w) :
    Seq Try.prog (m + 1) 52 #[.pointer (some ⟨b, 0, none⟩)] (lns f).length (eArgs f) eGood (eKp f b) w := by
  intro l J Jx W hC hsz hJ h0 hY
  have cB : eBox f b W := Kp.cell hC hb
  have HP0 : Hid (J () (cn f 0) W ∧ eBox f b W) := ⟨h0 () W (Kp.refl W), cB⟩
  have HJ : Hid (∀ t k A B, J t k A → Chg A B (fun _ => False) → J t k B) := hJ
  have HY : Hid (∀ (t : Unit) (k : Nat) (W1 : World), k < (lns f).length → J t k W1 → YieldAt Fence.wide (m + 1 - 1) Try.prog l (eArgs f t k) W1 fun e W' => (e = .returned (.bool true) ∧ J t (k + 1) W' ∧ eKp f b t W1 W') ∨ (e = .returned (.bool false) ∧ Jx W')) := hY
  clear hJ h0 hY hb hC cB hsz
  refine callsIn_of_wp Try.func52 rfl trivial ?_ rfl
  simp only [Try.ntmps52, List.size_toArray, List.length_cons, List.length_nil, Nat.reduceAdd, Nat.reduceSub, Array.replicate_succ, Array.replicate_zero, List.push_toArray, List.append_toArray, List.nil_append, List.cons_append]
  gi_wp2
  gi_loopw [4] (fun s4 wr => ∃ j : Nat, s4 = .int .i64 j ∧ j ≤ 32 ∧ Hid (J () (cn f j) wr ∧ eBox f b wr)) (fun s4 _ => 32 - (intOf s4).toNat)
  case atStart => exact ⟨0, rfl, by omega, HP0⟩
  case round =>
    obtain ⟨j, rfl, hj, HI⟩ := hrel
    clear HP0
    by_cases hlt : j < 32
    · have hltz : (j : Int) < 32 := by omega
      have hO : ∀ W1, Calls Try.prog 31 #[.int .i64 (j : Nat)] W1 fun e w' => e = .returned (.int .u32 (sw (fun i => i == j) : Nat)) ∧ w' = W1 := fun W1 => only_any W1 j hlt
      have hbit := bit_ne f j hlt
      have c0 : wr.cell? ⟨b, 0, none⟩ = some (.int .u32 (sw f : Nat)) := HI.out.2
      have c0' : wr.drew.cell? ⟨b, 0, none⟩ = some (.int .u32 (sw f : Nat)) := Kp.cell ((Chg.refl wr _).drew) c0
      have hmix : Try.prog.follows .mixedOrders = true := by kernel_rfl
      cases hf : f j with
      | true =>
        rw [hf] at hbit
        simp only [Bool.not_true] at hbit
        have hbit2 : (bits .and .u32 (sw f : Nat) (sw (fun i => i == j) : Nat) != 0) = true := by rw [bne, hbit]; rfl
        have hY2 : ∃ fn tmps assign body, (Instr.yield l #[.int .i64 (j : Nat)]).run Try.prog wr.drew = .ok (.round l fn tmps assign body) wr.drew ∧ RoundIn Fence.wide (m + 1 - 1) Try.prog l fn tmps assign body wr.drew fun e W' => ∃ bb, e = .returned (.bool bb) ∧ Hid ((bb = true → J () (cn f (j + 1)) W' ∧ eBox f b W') ∧ (bb = false → Jx W')) := by
          obtain ⟨fn, tmps, assign, body, hy, hR⟩ := HY.out () (cn f j) wr.drew (cn_lt f j hlt hf) (HJ.out _ _ _ _ HI.out.1 ((Chg.refl wr _).drew))
          unfold eArgs at hy
          rw [lnA_at f j hlt hf] at hy
          refine ⟨fn, tmps, assign, body, hy, hR.mono ?_⟩
          rintro e W' (⟨rfl, h, hk⟩ | ⟨rfl, h⟩)
          · exact ⟨true, rfl, ⟨fun _ => ⟨by rw [cn_yes f j hf]; exact h, hk c0'⟩, fun h => (by cases h)⟩⟩
          · exact ⟨false, rfl, ⟨fun h => (by cases h), fun _ => h⟩⟩
        obtain ⟨fn, tm, asg, bd, hy, hRR⟩ := hY2
        clear hf
        gi_wp2_with fail
        gi_region_with_o (first
          | (refine ⟨trivial, ?_⟩; gi_at_call 31; refine (callsIn_wide.2 (hO _)).mono ?_; rintro e wz ⟨rfl, hwz⟩; rw [hwz]; clear hwz)
          | (refine RoundIn.mono (show RoundIn Fence.wide m Try.prog l fn tm asg bd _ _ from hRR) ?_; rintro e W3 ⟨bb, rfl, H3⟩)
          | fail)
        all_goals
          clear hRR hy hO
          cases bb
          · gi_wp2
            refine bodyPost_ret (results_none rfl _ _ _) rfl ?_
            exact ⟨⟨_, rfl⟩, .inr (H3.out.2 (by trivial))⟩
          · have HN : Hid (J () (cn f (j + 1)) W3 ∧ eBox f b W3) := H3.out.1 (by trivial)
            clear H3
            gi_wp2
            exact ⟨⟨j + 1, by go_num, by omega, HN⟩, by simp [intOf]; omega⟩
      | false =>
        rw [hf] at hbit
        simp only [Bool.not_false] at hbit
        have hbit2 : (bits .and .u32 (sw f : Nat) (sw (fun i => i == j) : Nat) != 0) = false := by rw [bne, hbit]; rfl
        have HN : ∀ n, Hid (J () (cn f (j + 1)) (wr.drewN n) ∧ eBox f b (wr.drewN n)) := fun n => ⟨by rw [cn_no f j hf]; exact HJ.out _ _ _ _ HI.out.1 (Kp.drewN wr n), Kp.cell (Kp.drewN wr n) c0⟩
        clear hf
        refine wpIn_wide.2 ?_
        go_upto_region 3 with fail
        go_quiet (first | (go_at_call 31; exact Calls.quiet_of_same (hO _)) | fail)
        go_wp2
        exact ⟨⟨j + 1, by go_num, by omega, HN _⟩, by simp [intOf]; omega⟩
    · have hltz : ¬ (j : Int) < 32 := by omega
      have KF : Hid (∃ t, J t (lns f).length wr) := ⟨(), by
        have hj2 : j = 32 := by omega
        rw [← cn_end, ← hj2]; exact HI.out.1⟩
      gi_wp2
      go_end0
      exact ⟨⟨_, rfl⟩, .inl KF.out⟩
end Go.Proofs.Ytkndlkcbhpfjoaa
