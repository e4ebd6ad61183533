import Derived.Test.YtkndlkcbhpfjoaaHa
namespace Go.Proofs.Ytkndlkcbhpfjoaa
open Go.ChangeShapes Go.WideShapes Go.ChangeAt Go.RowKit Go.Shelf
set_option linter.unusedVariables false
attribute [local go_sem] Oper.semAt_some
theorem lines_any (w : World) (B : Nat) (c : Int) : Calls Try.prog 20 #[.pointer (some ⟨B, 0, none⟩), .int .i64 c] w fun e w' => e = .returned (.func (.func 38) #[] #[.pointer (some ⟨w.heap.size, 0, none⟩), .pointer (some ⟨w.heap.size + 1, 0, none⟩)]) ∧ w' = (w.alloc (.cells #[.pointer (some ⟨B, 0, none⟩)] 24)).alloc (.cells #[.int .i64 c] 3) := by
  go_enter Try.func20, Try.ntmps20
  go_wp2
  go_ret
  refine ⟨?_, rfl⟩
  simp
set_option maxHeartbeats 4000000 in
set_option maxRecDepth 10000 in
theorem each_core (W : World) (m b : Nat) (f : Nat → Bool) (hb : eBox f b W) (l : Nat) (J : Unit → Nat → World → Prop) (Jx : World → Prop)
    (hJ : ∀ t k A B, J t k A → Chg A B (fun _ => False) → J t k B) (h0 : J () 0 W)
    (hY : ∀ (t : Unit) (k : Nat) (W1 : World), k < (lns f).length → J t k W1 → YieldAt Fence.wide (m + 1 - 1) Try.prog l (eArgs f t k) W1 fun e W' => (e = .returned (.bool true) ∧ J t (k + 1) W' ∧ eKp f b t W1 W') ∨ (e = .returned (.bool false) ∧ Jx W')) :
    CallsIn Fence.wide (m + 1) Try.prog 52 (#[.func (.yield l) #[] #[]] ++ #[.pointer (some ⟨b, 0, none⟩)]) W fun e W' => (∃ v, e = .returned v) ∧ ((∃ t, J t (lns f).length W') ∨ Jx W') := by
  have HP0 : Hid (J () (cn f 0) W ∧ eBox f b W) := ⟨h0, hb⟩
  have HJ : Hid (∀ t k A B, J t k A → Chg A B (fun _ => False) → J t k B) := hJ
  have HY : Hid (∀ (t : Unit) (k : Nat) (W1 : World), k < (lns f).length → J t k W1 → YieldAt Fence.wide (m + 1 - 1) Try.prog l (eArgs f t k) W1 fun e W' => (e = .returned (.bool true) ∧ J t (k + 1) W' ∧ eKp f b t W1 W') ∨ (e = .returned (.bool false) ∧ Jx W')) := hY
  clear hJ h0 hY hb
  refine callsIn_of_wp Try.func52 rfl trivial ?_ rfl
  simp only [Try.ntmps52, List.size_toArray, List.length_cons, List.length_nil, Nat.reduceAdd, Nat.reduceSub, Array.replicate_succ, Array.replicate_zero, List.push_toArray, List.append_toArray, List.nil_append, List.cons_append]
  gi_wp2
  gi_loopw [4] (fun s4 wr => ∃ j : Nat, s4 = .int .i64 j ∧ j ≤ 32 ∧ Hid (J () (cn f j) wr ∧ eBox f b wr)) (fun s4 _ => 32 - (intOf s4).toNat)
  case atStart => exact ⟨0, rfl, by omega, HP0⟩
  case round =>
    obtain ⟨j, rfl, hj, HI⟩ := hrel
    clear HP0
    by_cases hlt : j < 32
    · have hltz : (j : Int) < 32 := by omega
      have hO : ∀ W1, Calls Try.prog 31 #[.int .i64 (j : Nat)] W1 fun e w' => e = .returned (.int .u32 (sw (fun i => i == j) : Nat)) ∧ w' = W1 := fun W1 => only_any W1 j hlt
      have hbit := bit_ne f j hlt
      have c0 : wr.cell? ⟨b, 0, none⟩ = some (.int .u32 (sw f : Nat)) := HI.out.2
      have c0' : wr.drew.cell? ⟨b, 0, none⟩ = some (.int .u32 (sw f : Nat)) := Kp.cell ((Chg.refl wr _).drew) c0
      have hmix : Try.prog.follows .mixedOrders = true := by kernel_rfl
      cases hf : f j with
      | true =>
        rw [hf] at hbit
        simp only [Bool.not_true] at hbit
        have hbit2 : (bits .and .u32 (sw f : Nat) (sw (fun i => i == j) : Nat) != 0) = true := by rw [bne, hbit]; rfl
        have hY2 : ∃ fn tmps assign body, (Instr.yield l #[.int .i64 (j : Nat)]).run Try.prog wr.drew = .ok (.round l fn tmps assign body) wr.drew ∧ RoundIn Fence.wide (m + 1 - 1) Try.prog l fn tmps assign body wr.drew fun e W' => ∃ bb, e = .returned (.bool bb) ∧ Hid ((bb = true → J () (cn f (j + 1)) W' ∧ eBox f b W') ∧ (bb = false → Jx W')) := by
          obtain ⟨fn, tmps, assign, body, hy, hR⟩ := HY.out () (cn f j) wr.drew (cn_lt f j hlt hf) (HJ.out _ _ _ _ HI.out.1 ((Chg.refl wr _).drew))
          unfold eArgs at hy
          rw [lnA_at f j hlt hf] at hy
          refine ⟨fn, tmps, assign, body, hy, hR.mono ?_⟩
          rintro e W' (⟨rfl, h, hk⟩ | ⟨rfl, h⟩)
          · exact ⟨true, rfl, ⟨fun _ => ⟨by rw [cn_yes f j hf]; exact h, hk c0'⟩, fun h => (by cases h)⟩⟩
          · exact ⟨false, rfl, ⟨fun h => (by cases h), fun _ => h⟩⟩
        obtain ⟨fn, tm, asg, bd, hy, hRR⟩ := hY2
        clear hf
        gi_wp2_with fail
        gi_region_with_o (first
          | (refine ⟨trivial, ?_⟩; gi_at_call 31; refine (callsIn_wide.2 (hO _)).mono ?_; rintro e wz ⟨rfl, hwz⟩; rw [hwz]; clear hwz)
          | (refine RoundIn.mono (show RoundIn Fence.wide m Try.prog l fn tm asg bd _ _ from hRR) ?_; rintro e W3 ⟨bb, rfl, H3⟩)
          | fail)
        all_goals
          clear hRR hy hO
          cases bb
          · gi_wp2
            refine bodyPost_ret (results_none rfl _ _ _) rfl ?_
            exact ⟨⟨_, rfl⟩, .inr (H3.out.2 (by trivial))⟩
          · have HN : Hid (J () (cn f (j + 1)) W3 ∧ eBox f b W3) := H3.out.1 (by trivial)
            clear H3
            gi_wp2
            exact ⟨⟨j + 1, by go_num, by omega, HN⟩, by simp [intOf]; omega⟩
      | false =>
        rw [hf] at hbit
        simp only [Bool.not_false] at hbit
        have hbit2 : (bits .and .u32 (sw f : Nat) (sw (fun i => i == j) : Nat) != 0) = false := by rw [bne, hbit]; rfl
        have HN : ∀ n, Hid (J () (cn f (j + 1)) (wr.drewN n) ∧ eBox f b (wr.drewN n)) := fun n => ⟨by rw [cn_no f j hf]; exact HJ.out _ _ _ _ HI.out.1 (Kp.drewN wr n), Kp.cell (Kp.drewN wr n) c0⟩
        clear hf
        refine wpIn_wide.2 ?_
        go_upto_region 3 with fail
        go_quiet (first | (go_at_call 31; exact Calls.quiet_of_same (hO _)) | fail)
        go_wp2
        exact ⟨⟨j + 1, by go_num, by omega, HN _⟩, by simp [intOf]; omega⟩
    · have hltz : ¬ (j : Int) < 32 := by omega
      have KF : Hid (∃ t, J t (lns f).length wr) := ⟨(), by
        have hj2 : j = 32 := by omega
        rw [← cn_end, ← hj2]; exact HI.out.1⟩
      gi_wp2
      go_end0
      exact ⟨⟨_, rfl⟩, .inl KF.out⟩

theorem room_of_none {F : Fence} (hd : F.depth = none) (k : Nat) : F.room k := fun d h => by rw [hd] at h; cases h
theorem roundIn_any {F : Fence} (hd : F.depth = none) {m m' : Nat} {P : Program} {l : Nat} {f : FuncId} {tmps : Array Value} {assign body : Code} {w : World} {R : Ending → World → Prop}
    (h : RoundIn F m P l f tmps assign body w R) : RoundIn F m' P l f tmps assign body w R := ⟨h.1, fun c cs _ => h.2 c cs (room_of_none hd _)⟩
theorem yieldAt_any {F : Fence} (hd : F.depth = none) {m : Nat} (m' : Nat) {P : Program} {l : Nat} {args : Array Value} {W : World} {R : Ending → World → Prop} (h : YieldAt F m P l args W R) : YieldAt F m' P l args W R := by
  obtain ⟨fn, tmps, assign, body, hy, hR⟩ := h
  exact ⟨fn, tmps, assign, body, hy, roundIn_any hd hR⟩
def lArgs (f : Nat → Bool) (_ : Nat) (k : Nat) : Array Value := #[.int .i64 (lnA f k : Nat)]
def lGood (f : Nat → Bool) (b : Nat) (W W1 : World) : Prop := Kp W W1 ∧ W.heap.size ≤ b ∧ eBox f b W1
def lKp (d : Nat) (w : World) (f : Nat → Bool) (b : Nat) (A C : World) : Prop := w.heap.size + d ≤ b → eBox f b A → eBox f b C
set_option maxHeartbeats 4000000 in
set_option maxRecDepth 10000 in
theorem lines_seq (w : World) (m B bg bc : Nat) (s : GS) (h : IsG w B s) (c : Int) (hg : w.cell? ⟨bg, 0, none⟩ = some (.pointer (some ⟨B, 0, none⟩))) (hc : w.cell? ⟨bc, 0, none⟩ = some (.int .i64 c)) :
    Seq Try.prog (m + 2) 38 #[.pointer (some ⟨bg, 0, none⟩), .pointer (some ⟨bc, 0, none⟩)] (lns (s.to c)).length (lArgs (s.to c)) (lGood (s.to c)) (lKp 2 w (s.to c)) w := by
  intro l J Jx W hC hsz hJ h0 hY
  have cg : W.cell? ⟨bg, 0, none⟩ = some (.pointer (some ⟨B, 0, none⟩)) := Kp.cell hC hg
  have cc : W.cell? ⟨bc, 0, none⟩ = some (.int .i64 c) := Kp.cell hC hc
  have hR := routed_any W B s (h.kp hC) c
  obtain ⟨f, hf⟩ : ∃ f, f = s.to c := ⟨_, rfl⟩
  rw [← hf] at hR h0 hY ⊢
  have hE := each_any W (sw f : Nat)
  obtain ⟨W1, hW1⟩ : ∃ W1, W1 = W.alloc (.cells #[.int .u32 (sw f : Nat)] 30) := ⟨_, rfl⟩
  rw [← hW1] at hE
  have kW1 : Kp W W1 := by rw [hW1]; exact (Chg.refl W _).alloc _
  have hb1 : eBox f W.heap.size W1 := by
    have : W1.heap[W.heap.size]? = some (.cells #[.int .u32 (sw f : Nat)] 30 (0, 0)) := by rw [hW1]; exact heap_alloc_new W _
    unfold eBox; rw [(cells_at this 0).1]; rfl
  have hcore := each_core W1 m W.heap.size f hb1 l (fun _ k A => J W.heap.size k A ∧ eBox f W.heap.size A) Jx (fun _ k A D hA hD => ⟨hJ _ _ _ _ hA.1 hD, Kp.cell hD hA.2⟩) ⟨h0 W.heap.size W1 ⟨kW1, Nat.le_refl _, hb1⟩, hb1⟩ (fun _ k A hk hA => by
    refine yieldAt_any rfl _ (YieldAt.mono (hY W.heap.size k A hk hA.1) ?_)
    rintro e A' (⟨rfl, q1, q2⟩ | ⟨rfl, q1⟩)
    · have := q2 hsz hA.2
      exact .inl ⟨rfl, ⟨q1, this⟩, fun _ => this⟩
    · exact .inr ⟨rfl, q1⟩)
  have HC : Hid (∀ e A', ((∃ v, e = .returned v) ∧ ((∃ t : Unit, J W.heap.size (lns f).length A' ∧ eBox f W.heap.size A') ∨ Jx A')) → (∃ v, e = Ending.returned v) ∧ ((∃ t, J t (lns f).length A') ∨ Jx A')) := by
    rintro e A' ⟨q1, ⟨_, q2, _⟩ | q2⟩
    · exact ⟨q1, .inl ⟨_, q2⟩⟩
    · exact ⟨q1, .inr q2⟩
  clear hJ h0 hY hg hc hC hsz h kW1 hb1
  refine callsIn_of_wp Try.func38 rfl trivial ?_ rfl
  simp only [Try.ntmps38, List.size_toArray, List.length_cons, List.length_nil, Nat.reduceAdd, Nat.reduceSub, Array.replicate_succ, Array.replicate_zero, List.push_toArray, List.append_toArray, List.nil_append, List.cons_append]
  have HF : Hid (f = s.to c) := hf
  clear hf
  gi_wp2_with fail
  refine ⟨trivial, ?_⟩
  gi_at_call 39
  refine (callsIn_wide.2 hR).mono ?_
  rintro e wz ⟨rfl, hwz⟩
  rw [hwz]
  clear hR hwz
  gi_wp2_with fail
  refine ⟨trivial, ?_⟩
  gi_at_call 37
  refine (callsIn_wide.2 hE).mono ?_
  rintro e wz ⟨rfl, hwz⟩
  rw [hwz]
  clear hE hwz hW1
  gi_wp2_with fail
  refine ⟨trivial, ?_⟩
  refine CallsIn.mono (show CallsIn Fence.wide (m + 1) Try.prog 52 #[.func (.yield l) #[] #[], .pointer (some ⟨W.heap.size, 0, none⟩)] W1 _ from hcore) ?_
  rintro e W2 ⟨⟨v, rfl⟩, hx⟩
  have HE : Hid ((∃ t, J t (lns f).length W2) ∨ Jx W2) := (HC.out (.returned v) W2 ⟨⟨v, rfl⟩, hx⟩).2
  clear hcore hx HC
  gi_wp2
  go_end0
  exact ⟨⟨_, rfl⟩, HE.out⟩
end Go.Proofs.Ytkndlkcbhpfjoaa
