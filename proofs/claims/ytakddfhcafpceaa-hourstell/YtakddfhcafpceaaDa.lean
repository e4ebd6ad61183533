import Derived.Test.YtakddfhcafpceaaRg
namespace Go.Proofs.Ytakddfhcafpceaa
open Go.ChangeShapes Go.WideShapes Go.ChangeAt Go.RowKit Go.Shelf
set_option linter.unusedVariables false
attribute [local go_sem] Oper.semAt_some
theorem all_any (w : World) (B : Nat) (fr te : Int) : Calls Try.prog 12 #[.pointer (some ⟨B, 0, none⟩), .int .u64 fr, .int .u64 te] w fun e w' => e = .returned (.func (.func 25) #[] #[.pointer (some ⟨w.heap.size, 0, none⟩), .pointer (some ⟨w.heap.size + 2, 0, none⟩), .pointer (some ⟨w.heap.size + 1, 0, none⟩)]) ∧ w' = ((w.alloc (.cells #[.pointer (some ⟨B, 0, none⟩)] 24)).alloc (.cells #[.int .u64 fr] 23)).alloc (.cells #[.int .u64 te] 23) := by
  go_enter Try.func12, Try.ntmps12
  go_wp2
  go_ret
  refine ⟨?_, rfl⟩
  simp
/-- The end of a range, at most behind the last tick. -/
def me (t : Nat) : Nat := min t 9223372036854775808
/-- How many windows All tells. -/
def Hr.cnt (h : Hr) (fr te : Nat) : Nat := h.ah (me te) - h.ah fr
def aArgs (h : Hr) (fr : Nat) (_ : Unit) (k : Nat) : Array Value := #[.int .u64 ((h.ah fr + k : Nat) : Int), .agg (h.wn (h.ah fr + k)).cs]
def aGood (_ : Unit) (W W1 : World) : Prop := Kp W W1
/-- What the iterator asks of a round: its table and its box stay. -/
structure aBx (s B bh : Nat) (h : Hr) (W : World) : Prop where
  ok : h.ok
  lB : B < s
  lb : bh < s
  cb : W.cell? ⟨bh, 0, none⟩ = some (.pointer (some ⟨B, 0, none⟩))
  ex : ∃ g cap, g < s ∧ W.cell? ⟨B, 0, none⟩ = some (.int .u64 (h.M : Nat)) ∧ W.cell? ⟨B, 1, none⟩ = some (.slice (some ⟨g, 0, none⟩) h.L.length cap) ∧ RdW W g 0 h.L
theorem aBx.isH {s B bh : Nat} {h : Hr} {W : World} (x : aBx s B bh h W) : IsH W B h := by
  obtain ⟨g, cap, _, h1, h2, h3⟩ := x.ex
  exact ⟨⟨g, cap, h1, h2, h3⟩, x.ok⟩
theorem aBx.chg {s B bh : Nat} {h : Hr} {W W' : World} {S : Nat → Prop} (x : aBx s B bh h W) (hc : Chg W W' S) (hS : ∀ k, k < s → ¬ S k) : aBx s B bh h W' := by
  obtain ⟨g, cap, hg, h1, h2, h3⟩ := x.ex
  exact ⟨x.ok, x.lB, x.lb, hc.cell' (hS _ x.lb) x.cb, g, cap, hg, hc.cell' (hS _ x.lB) h1, hc.cell' (hS _ x.lB) h2, ⟨fun i hi => ⟨hc.cell' (hS _ hg) (h3.c i hi).1, hc.cell' (hS _ hg) (h3.c i hi).2.1, hc.cell' (hS _ hg) (h3.c i hi).2.2⟩⟩⟩
theorem aBx.kp {s B bh : Nat} {h : Hr} {W W' : World} (x : aBx s B bh h W) (k : Kp W W') : aBx s B bh h W' := x.chg k (fun _ _ e => e)
/-- The two blocks of a loop that began in a world of size s. -/
theorem aBx.two {s B bh : Nat} {h : Hr} {W W' : World} (x : aBx s B bh h W) (hc : Chg W W' (Two s)) : aBx s B bh h W' := x.chg hc (by rintro k hk (e | e) <;> omega)
theorem aBx.of {s B bh : Nat} {h : Hr} {W : World} (i : IsH W B h) (cb : W.cell? ⟨bh, 0, none⟩ = some (.pointer (some ⟨B, 0, none⟩))) (hs : W.heap.size ≤ s) : aBx s B bh h W := by
  obtain ⟨g, cap, h1, h2, h3⟩ := i.ex
  have hg : g < W.heap.size := lt_of_cell (h3.c 0 i.ok.n1).1
  exact ⟨i.ok, Nat.lt_of_lt_of_le (lt_of_cell h1) hs, Nat.lt_of_lt_of_le (lt_of_cell cb) hs, cb, g, cap, by omega, h1, h2, h3⟩
theorem aBx.of2 {s B bh : Nat} {h : Hr} {w W : World} (i : IsH w B h) (hs : w.heap.size ≤ s) (k : Kp w W) (cb : W.cell? ⟨bh, 0, none⟩ = some (.pointer (some ⟨B, 0, none⟩))) (hb : bh < s) : aBx s B bh h W := by
  obtain ⟨g, cap, h1, h2, h3⟩ := i.ex
  have hg : g < w.heap.size := lt_of_cell (h3.c 0 i.ok.n1).1
  exact ⟨i.ok, Nat.lt_of_lt_of_le (lt_of_cell h1) hs, hb, cb, g, cap, by omega, k.cell h1, k.cell h2, h3.kp k⟩
def aKp (s B bh : Nat) (h : Hr) (_ : Unit) (A C : World) : Prop := aBx s B bh h A → aBx s B bh h C
set_option maxHeartbeats 4000000 in
set_option maxRecDepth 10000 in
theorem all_seq (w : World) (s m B bh bt bf : Nat) (h : Hr) (x : aBx s B bh h w) (fr te : Nat) (hfr : fr < 18446744073709551616) (hto : te < 18446744073709551616)
    (ct : w.cell? ⟨bt, 0, none⟩ = some (.int .u64 (te : Nat))) (cf : w.cell? ⟨bf, 0, none⟩ = some (.int .u64 (fr : Nat))) :
    Seq Try.prog (m + 1) 25 #[.pointer (some ⟨bh, 0, none⟩), .pointer (some ⟨bt, 0, none⟩), .pointer (some ⟨bf, 0, none⟩)] (h.cnt fr te) (aArgs h fr) aGood (aKp s B bh h) w := by
  intro l J Jx W hC hsz hJ h0 hY
  have hx := x.kp hC
  have ch : W.cell? ⟨bh, 0, none⟩ = some (.pointer (some ⟨B, 0, none⟩)) := hx.cb
  have ct' := Kp.cell hC ct
  have cf' := Kp.cell hC cf
  have hme : me te < 18446744073709551616 := by unfold me; omega
  have hA1 := ahead_any W B h hx.isH (me te) hme
  have hA2 : ∀ W', Kp W W' → Calls Try.prog 24 #[.pointer (some ⟨B, 0, none⟩), .int .u64 (fr : Nat)] W' fun e w' => e = .returned (.int .u64 (h.ah fr : Nat)) ∧ Kp W' w' := fun W' k => ahead_any W' B h (hx.isH.kp k) fr hfr
  have hw1 := Hr.ah_le hx.ok (me te)
  have hw2 := Hr.ah_le hx.ok fr
  have hW : ∀ W' k, aBx s B bh h W' → k < 18446744073709551616 → Calls Try.prog 22 #[.pointer (some ⟨B, 0, none⟩), .int .u64 (k : Nat)] W' fun e w' => e = .returned (.agg (h.wn k).cs) ∧ Kp W' w' := fun W' k x hk => window_any W' B h x.isH k hk
  have HJ : Hid (∀ t k A B, J t k A → Chg A B (fun _ => False) → J t k B) := hJ
  have HY : Hid (∀ (t : Unit) (k : Nat) (W1 : World), k < h.cnt fr te → J t k W1 → YieldAt Fence.wide (m + 1 - 1) Try.prog l (aArgs h fr t k) W1 fun e W' => (e = .returned (.bool true) ∧ J t (k + 1) W' ∧ aKp s B bh h t W1 W') ∨ (e = .returned (.bool false) ∧ Jx W')) := hY
  have HP0 : Hid (∀ W1, Kp W W1 → J () 0 W1 ∧ aBx s B bh h W1) := fun W1 k => ⟨h0 () W1 k, hx.kp k⟩
  have HC : Hid (h.cnt fr te = h.ah (me te) - h.ah fr) := rfl
  clear hJ h0 hY x hC hsz ct cf hx
  unfold aArgs at HY
  generalize h.cnt fr te = N at *
  generalize h.ah (me te) = en at *
  generalize h.ah fr = k0 at *
  by_cases hcase : te < 9223372036854775808
  · have hz : ¬ (9223372036854775808 : Int) < te := by omega
    have hz2 : (te : Int) < 9223372036854775808 := by omega
    have em : me te = te := by unfold me; omega
    rw [em] at hA1 hme
    refine callsIn_of_wp Try.func25 rfl trivial ?_ rfl
    simp only [Try.ntmps25, List.size_toArray, List.length_cons, List.length_nil, Nat.reduceAdd, Nat.reduceSub, Array.replicate_succ, Array.replicate_zero, List.push_toArray, List.append_toArray, List.nil_append, List.cons_append]
    gi_wp2_with fail
    refine ⟨trivial, ?_⟩
    gi_at_call 24
    refine (callsIn_wide.2 hA1).mono ?_
    rintro e W2 ⟨rfl, k2⟩
    have hA3 := hA2 W2 k2
    have c1 := k2.cell ch
    have c2 := k2.cell cf'
    clear hA1 hA2 ch ct' cf'
    gi_wp2_with fail
    refine ⟨trivial, ?_⟩
    gi_at_call 24
    refine (callsIn_wide.2 hA3).mono ?_
    rintro e W3 ⟨rfl, k3⟩
    have HP : Hid (J () 0 W3 ∧ aBx s B bh h W3) := HP0.out W3 (k2.trans k3)
    clear hA3 c1 c2 k2 k3 HP0
    gi_wp2_with fail
    gi_loopw [6] (fun s6 wr => ∃ j : Nat, s6 = .int .u64 ((k0 + j : Nat) : Int) ∧ k0 + j < 18446744073709551616 ∧ (j = 0 ∨ k0 + j ≤ en) ∧ Hid (J () j wr ∧ aBx s B bh h wr)) (fun s6 _ => en - (intOf s6).toNat)
    case atStart => exact ⟨0, rfl, by omega, .inl rfl, HP⟩
    case round =>
      obtain ⟨j, rfl, hj, hje, HI⟩ := hrel
      clear HP
      obtain ⟨q, hq⟩ : ∃ q, q = k0 + j := ⟨_, rfl⟩
      rw [← hq] at hj hje ⊢
      have HQ : Hid (q = k0 + j) := hq
      clear hq
      by_cases hlt : q < en
      · have hltz : (q : Int) < en := by omega
        have hw := hW wr q HI.out.2 hj
        have ch := HI.out.2.cb
        have hjN : j < N := by have := HC.out; have := HQ.out; omega
        have hY2 : ∀ W', Kp wr W' → ∃ fn tmps assign body, (Instr.yield l #[.int .u64 (q : Nat), .agg (h.wn q).cs]).run Try.prog W' = .ok (.round l fn tmps assign body) W' ∧ RoundIn Fence.wide (m + 1 - 1) Try.prog l fn tmps assign body W' fun e W'' => ∃ bb, e = .returned (.bool bb) ∧ Hid ((bb = true → J () (j + 1) W'' ∧ aBx s B bh h W'') ∧ (bb = false → Jx W'')) := fun W' k => by
          obtain ⟨fn, tmps, assign, body, hy, hR⟩ := HY.out () j W' hjN (HJ.out _ _ _ _ HI.out.1 k)
          rw [← HQ.out] at hy
          refine ⟨fn, tmps, assign, body, hy, hR.mono ?_⟩
          rintro e W'' (⟨rfl, h1, hk⟩ | ⟨rfl, h1⟩)
          · exact ⟨true, rfl, ⟨fun _ => ⟨h1, hk (HI.out.2.kp k)⟩, fun h => (by cases h)⟩⟩
          · exact ⟨false, rfl, ⟨fun h => (by cases h), fun _ => h1⟩⟩
        unfold Wn.cs at hw hY2
        generalize h.wn q = xw at hw hY2
        obtain ⟨qc, qs, ql⟩ := xw
        simp only at hw hY2
        gi_wp2_with fail
        refine ⟨trivial, ?_⟩
        gi_at_call 22
        refine (callsIn_wide.2 hw).mono ?_
        rintro e W4 ⟨rfl, k4⟩
        obtain ⟨fn, tm, asg, bd, hy, hRR⟩ := hY2 W4 k4
        clear hY2 hw ch
        gi_wp2
        refine RoundIn.mono (show RoundIn Fence.wide m Try.prog l fn tm asg bd _ _ from hRR) ?_
        rintro e W5 ⟨bb, rfl, H5⟩
        clear hRR hy HY HI k4
        cases bb
        · gi_wp2
          refine bodyPost_ret (results_none rfl _ _ _) rfl ?_
          exact ⟨⟨_, rfl⟩, .inr (H5.out.2 (by trivial))⟩
        · have HN : Hid (J () (j + 1) W5 ∧ aBx s B bh h W5) := H5.out.1 (by trivial)
          have hqe : Hid ((q : Int) + 1 = ((k0 + (j + 1) : Nat) : Int)) := by show (q : Int) + 1 = _; have := HQ.out; omega
          clear H5
          gi_wp2
          exact ⟨⟨j + 1, by rw [hqe.out], by have := HQ.out; omega, .inr (by have := HQ.out; omega), HN⟩, by simp [intOf]; omega⟩
      · have hltz : ¬ (q : Int) < en := by omega
        have KF : Hid (∃ t, J t N wr) := ⟨(), by
          have e1 : j = N := by have := HC.out; have := HQ.out; omega
          rw [← e1]; exact HI.out.1⟩
        gi_wp2
        go_end0
        exact ⟨⟨_, rfl⟩, .inl KF.out⟩
  · have hz : (9223372036854775808 : Int) < te ∨ (te : Int) = 9223372036854775808 := by omega
    have hz2 : ¬ (te : Int) < 9223372036854775808 := by omega
    have em : me te = 9223372036854775808 := by unfold me; omega
    rw [em] at hA1 hme
    simp only [Int.cast_ofNat_Int] at hA1
    by_cases hz3 : (9223372036854775808 : Int) < te
    · clear hz
      refine callsIn_of_wp Try.func25 rfl trivial ?_ rfl
      simp only [Try.ntmps25, List.size_toArray, List.length_cons, List.length_nil, Nat.reduceAdd, Nat.reduceSub, Array.replicate_succ, Array.replicate_zero, List.push_toArray, List.append_toArray, List.nil_append, List.cons_append]
      gi_wp2_with fail
      refine ⟨trivial, ?_⟩
      gi_at_call 24
      refine (callsIn_wide.2 hA1).mono ?_
      rintro e W2 ⟨rfl, k2⟩
      have hA3 := hA2 W2 k2
      have c1 := k2.cell ch
      have c2 := k2.cell cf'
      clear hA1 hA2 ch ct' cf'
      gi_wp2_with fail
      refine ⟨trivial, ?_⟩
      gi_at_call 24
      refine (callsIn_wide.2 hA3).mono ?_
      rintro e W3 ⟨rfl, k3⟩
      have HP : Hid (J () 0 W3 ∧ aBx s B bh h W3) := HP0.out W3 (k2.trans k3)
      clear hA3 c1 c2 k2 k3 HP0
      gi_wp2_with fail
      gi_loopw [6] (fun s6 wr => ∃ j : Nat, s6 = .int .u64 ((k0 + j : Nat) : Int) ∧ k0 + j < 18446744073709551616 ∧ (j = 0 ∨ k0 + j ≤ en) ∧ Hid (J () j wr ∧ aBx s B bh h wr)) (fun s6 _ => en - (intOf s6).toNat)
      case atStart => exact ⟨0, rfl, by omega, .inl rfl, HP⟩
      case round =>
        obtain ⟨j, rfl, hj, hje, HI⟩ := hrel
        clear HP
        obtain ⟨q, hq⟩ : ∃ q, q = k0 + j := ⟨_, rfl⟩
        rw [← hq] at hj hje ⊢
        have HQ : Hid (q = k0 + j) := hq
        clear hq
        by_cases hlt : q < en
        · have hltz : (q : Int) < en := by omega
          have hw := hW wr q HI.out.2 hj
          have ch := HI.out.2.cb
          have hjN : j < N := by have := HC.out; have := HQ.out; omega
          have hY2 : ∀ W', Kp wr W' → ∃ fn tmps assign body, (Instr.yield l #[.int .u64 (q : Nat), .agg (h.wn q).cs]).run Try.prog W' = .ok (.round l fn tmps assign body) W' ∧ RoundIn Fence.wide (m + 1 - 1) Try.prog l fn tmps assign body W' fun e W'' => ∃ bb, e = .returned (.bool bb) ∧ Hid ((bb = true → J () (j + 1) W'' ∧ aBx s B bh h W'') ∧ (bb = false → Jx W'')) := fun W' k => by
            obtain ⟨fn, tmps, assign, body, hy, hR⟩ := HY.out () j W' hjN (HJ.out _ _ _ _ HI.out.1 k)
            rw [← HQ.out] at hy
            refine ⟨fn, tmps, assign, body, hy, hR.mono ?_⟩
            rintro e W'' (⟨rfl, h1, hk⟩ | ⟨rfl, h1⟩)
            · exact ⟨true, rfl, ⟨fun _ => ⟨h1, hk (HI.out.2.kp k)⟩, fun h => (by cases h)⟩⟩
            · exact ⟨false, rfl, ⟨fun h => (by cases h), fun _ => h1⟩⟩
          unfold Wn.cs at hw hY2
          generalize h.wn q = xw at hw hY2
          obtain ⟨qc, qs, ql⟩ := xw
          simp only at hw hY2
          gi_wp2_with fail
          refine ⟨trivial, ?_⟩
          gi_at_call 22
          refine (callsIn_wide.2 hw).mono ?_
          rintro e W4 ⟨rfl, k4⟩
          obtain ⟨fn, tm, asg, bd, hy, hRR⟩ := hY2 W4 k4
          clear hY2 hw ch
          gi_wp2
          refine RoundIn.mono (show RoundIn Fence.wide m Try.prog l fn tm asg bd _ _ from hRR) ?_
          rintro e W5 ⟨bb, rfl, H5⟩
          clear hRR hy HY HI k4
          cases bb
          · gi_wp2
            refine bodyPost_ret (results_none rfl _ _ _) rfl ?_
            exact ⟨⟨_, rfl⟩, .inr (H5.out.2 (by trivial))⟩
          · have HN : Hid (J () (j + 1) W5 ∧ aBx s B bh h W5) := H5.out.1 (by trivial)
            have hqe : Hid ((q : Int) + 1 = ((k0 + (j + 1) : Nat) : Int)) := by show (q : Int) + 1 = _; have := HQ.out; omega
            clear H5
            gi_wp2
            exact ⟨⟨j + 1, by rw [hqe.out], by have := HQ.out; omega, .inr (by have := HQ.out; omega), HN⟩, by simp [intOf]; omega⟩
        · have hltz : ¬ (q : Int) < en := by omega
          have KF : Hid (∃ t, J t N wr) := ⟨(), by
            have e1 : j = N := by have := HC.out; have := HQ.out; omega
            rw [← e1]; exact HI.out.1⟩
          gi_wp2
          go_end0
          exact ⟨⟨_, rfl⟩, .inl KF.out⟩
    · have hz4 : te = 9223372036854775808 := by omega
      subst hz4
      clear hz
      refine callsIn_of_wp Try.func25 rfl trivial ?_ rfl
      simp only [Try.ntmps25, List.size_toArray, List.length_cons, List.length_nil, Nat.reduceAdd, Nat.reduceSub, Array.replicate_succ, Array.replicate_zero, List.push_toArray, List.append_toArray, List.nil_append, List.cons_append]
      gi_wp2_with fail
      refine ⟨trivial, ?_⟩
      gi_at_call 24
      refine (callsIn_wide.2 hA1).mono ?_
      rintro e W2 ⟨rfl, k2⟩
      have hA3 := hA2 W2 k2
      have c1 := k2.cell ch
      have c2 := k2.cell cf'
      clear hA1 hA2 ch ct' cf'
      gi_wp2_with fail
      refine ⟨trivial, ?_⟩
      gi_at_call 24
      refine (callsIn_wide.2 hA3).mono ?_
      rintro e W3 ⟨rfl, k3⟩
      have HP : Hid (J () 0 W3 ∧ aBx s B bh h W3) := HP0.out W3 (k2.trans k3)
      clear hA3 c1 c2 k2 k3 HP0
      gi_wp2_with fail
      gi_loopw [6] (fun s6 wr => ∃ j : Nat, s6 = .int .u64 ((k0 + j : Nat) : Int) ∧ k0 + j < 18446744073709551616 ∧ (j = 0 ∨ k0 + j ≤ en) ∧ Hid (J () j wr ∧ aBx s B bh h wr)) (fun s6 _ => en - (intOf s6).toNat)
      case atStart => exact ⟨0, rfl, by omega, .inl rfl, HP⟩
      case round =>
        obtain ⟨j, rfl, hj, hje, HI⟩ := hrel
        clear HP
        obtain ⟨q, hq⟩ : ∃ q, q = k0 + j := ⟨_, rfl⟩
        rw [← hq] at hj hje ⊢
        have HQ : Hid (q = k0 + j) := hq
        clear hq
        by_cases hlt : q < en
        · have hltz : (q : Int) < en := by omega
          have hw := hW wr q HI.out.2 hj
          have ch := HI.out.2.cb
          have hjN : j < N := by have := HC.out; have := HQ.out; omega
          have hY2 : ∀ W', Kp wr W' → ∃ fn tmps assign body, (Instr.yield l #[.int .u64 (q : Nat), .agg (h.wn q).cs]).run Try.prog W' = .ok (.round l fn tmps assign body) W' ∧ RoundIn Fence.wide (m + 1 - 1) Try.prog l fn tmps assign body W' fun e W'' => ∃ bb, e = .returned (.bool bb) ∧ Hid ((bb = true → J () (j + 1) W'' ∧ aBx s B bh h W'') ∧ (bb = false → Jx W'')) := fun W' k => by
            obtain ⟨fn, tmps, assign, body, hy, hR⟩ := HY.out () j W' hjN (HJ.out _ _ _ _ HI.out.1 k)
            rw [← HQ.out] at hy
            refine ⟨fn, tmps, assign, body, hy, hR.mono ?_⟩
            rintro e W'' (⟨rfl, h1, hk⟩ | ⟨rfl, h1⟩)
            · exact ⟨true, rfl, ⟨fun _ => ⟨h1, hk (HI.out.2.kp k)⟩, fun h => (by cases h)⟩⟩
            · exact ⟨false, rfl, ⟨fun h => (by cases h), fun _ => h1⟩⟩
          unfold Wn.cs at hw hY2
          generalize h.wn q = xw at hw hY2
          obtain ⟨qc, qs, ql⟩ := xw
          simp only at hw hY2
          gi_wp2_with fail
          refine ⟨trivial, ?_⟩
          gi_at_call 22
          refine (callsIn_wide.2 hw).mono ?_
          rintro e W4 ⟨rfl, k4⟩
          obtain ⟨fn, tm, asg, bd, hy, hRR⟩ := hY2 W4 k4
          clear hY2 hw ch
          gi_wp2
          refine RoundIn.mono (show RoundIn Fence.wide m Try.prog l fn tm asg bd _ _ from hRR) ?_
          rintro e W5 ⟨bb, rfl, H5⟩
          clear hRR hy HY HI k4
          cases bb
          · gi_wp2
            refine bodyPost_ret (results_none rfl _ _ _) rfl ?_
            exact ⟨⟨_, rfl⟩, .inr (H5.out.2 (by trivial))⟩
          · have HN : Hid (J () (j + 1) W5 ∧ aBx s B bh h W5) := H5.out.1 (by trivial)
            have hqe : Hid ((q : Int) + 1 = ((k0 + (j + 1) : Nat) : Int)) := by show (q : Int) + 1 = _; have := HQ.out; omega
            clear H5
            gi_wp2
            exact ⟨⟨j + 1, by rw [hqe.out], by have := HQ.out; omega, .inr (by have := HQ.out; omega), HN⟩, by simp [intOf]; omega⟩
        · have hltz : ¬ (q : Int) < en := by omega
          have KF : Hid (∃ t, J t N wr) := ⟨(), by
            have e1 : j = N := by have := HC.out; have := HQ.out; omega
            rw [← e1]; exact HI.out.1⟩
          gi_wp2
          go_end0
          exact ⟨⟨_, rfl⟩, .inl KF.out⟩
end Go.Proofs.Ytakddfhcafpceaa
