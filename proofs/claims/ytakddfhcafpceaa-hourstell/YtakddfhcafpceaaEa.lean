import Derived.Test.YtakddfhcafpceaaDb
namespace Go.Proofs.Ytakddfhcafpceaa
open Go.ChangeShapes Go.WideShapes Go.ChangeAt Go.RowKit Go.Shelf
set_option linter.unusedVariables false
attribute [local go_sem] run_f0 run_f1 run_f2
theorem rn_any (w : World) (B : Nat) (h : Hr) (i : IsH w B h) : Calls Try.prog 38 #[.pointer (some ⟨B, 0, none⟩)] w fun e w' => e = .returned (.int .u64 (h.L.length : Nat)) ∧ w' = w := by
  obtain ⟨g, cap, h1, h2, h3⟩ := i.ex
  have n2 := i.ok.n2
  clear h3 i h1
  generalize h.L.length = n at *
  have hw : IntKind.u64.wrap (n : Int) = n := u64n (by omega)
  go_enter Try.func38, Try.ntmps38
  go_wp2
  go_ret
  exact ⟨rfl, rfl⟩
set_option maxHeartbeats 2000000 in
set_option maxRecDepth 10000 in
theorem rstart_any (w : World) (B : Nat) (h : Hr) (i : IsH w B h) (k : Nat) (hk : k < 18446744073709551616) :
    Calls Try.prog 29 #[.pointer (some ⟨B, 0, none⟩), .int .u64 (k : Nat)] w fun e w' => e = .returned (.tuple #[.int .u64 (h.st k : Nat), .bool (decide (h.rs k ≤ 9223372036854775807))]) ∧ Kp w w' := by
  have hN := fun W (k : Kp w W) => rn_any W B h (i.kp k)
  obtain ⟨g, cap, h1, h2, h3⟩ := i.ex
  obtain ⟨c0, c1, c2⟩ := h3.c _ (i.ok.mod k)
  rw [← i.ok.at_eq k] at c0 c1 c2
  simp only [Nat.zero_add] at c0 c1 c2
  have hm := i.ok.mod k
  have n2 := i.ok.n2
  have m1 := i.ok.m1
  have m2 := i.ok.m2
  have hsM := i.ok.s_lt k
  have HS : Hid (h.st k = min (h.rs k) 9223372036854775807 ∧ h.rs k = (h.at k).s + k / h.L.length * h.M) := ⟨st_rs i.ok k, rfl⟩
  clear h3 i c0 c2
  generalize h.st k = ST at *
  generalize h.rs k = RS at *
  generalize (h.at k).s = qs at *
  generalize hnl : h.L.length = n at *
  generalize h.M = M at *
  clear hnl
  obtain ⟨mo, hmo⟩ : ∃ mo, mo = k % n := ⟨_, rfl⟩
  obtain ⟨dv, hdv⟩ : ∃ dv, dv = k / n := ⟨_, rfl⟩
  rw [← hmo] at hm c1
  rw [← hdv] at HS
  have hmoz : (k : Int).tmod (n : Int) = (mo : Nat) := by rw [Int.tmod_eq_emod_of_nonneg (by omega), hmo]; simp
  have hdvz : (k : Int).tdiv (n : Int) = (dv : Nat) := by rw [Int.tdiv_eq_ediv_of_nonneg (by omega), hdv]; simp
  have hmo2 : mo < 18446744073709551616 := by omega
  have hdv2 : dv < 18446744073709551616 := by have := Nat.div_le_self k n; omega
  clear hmo hdv
  have hn0 : ¬ (n : Int) = 0 := by omega
  have hn0' : ¬ n = 0 := by omega
  have hm0 : ¬ (M : Int) = 0 := by omega
  have hm0' : ¬ M = 0 := by omega
  obtain ⟨dw, hdw⟩ : ∃ dw, dw = 9223372036854775807 / M := ⟨_, rfl⟩
  have hdwz : (9223372036854775807 : Int).tdiv (M : Int) = (dw : Nat) := by
    rw [show (9223372036854775807 : Int) = ((9223372036854775807 : Nat) : Int) from rfl, Int.tdiv_eq_ediv_of_nonneg (by omega), hdw]; simp
  have hdw2 : dw < 18446744073709551616 := by have := Nat.div_le_self 9223372036854775807 M; omega
  by_cases hf : dw < dv
  · have hfz : (dw : Int) < dv := by omega
    have HR : Hid (ST = 9223372036854775807 ∧ ¬ RS ≤ 9223372036854775807) := by
      have h5 : ¬ dv * M ≤ 9223372036854775807 := fun e => by
        have := (Nat.le_div_iff_mul_le (by omega)).2 e
        omega
      have := HS.out
      exact ⟨by omega, by omega⟩
    clear hdw HS
    go_enter Try.func29, Try.ntmps29
    go_wp2_with fail
    go_at_call 38
    refine (hN _ (Kp.refl _)).mono ?_
    rintro e w1 ⟨rfl, rfl⟩
    go_wp2
    go_ret2
    exact ⟨by rw [HR.out.1, decide_eq_false HR.out.2]; rfl, Kp.refl _⟩
  · have hfz : ¬ (dw : Int) < dv := by omega
    have hle : dv * M ≤ 9223372036854775807 := (Nat.le_div_iff_mul_le (by omega)).1 (by omega)
    have hp2 : IntKind.u64.wrap ((dv : Int) * M) = ((dv * M : Nat) : Int) := by rw [← Int.natCast_mul]; exact u64n (by omega)
    have hRS : Hid (RS = dv * M + qs ∧ ST = min RS 9223372036854775807) := by have := HS.out; exact ⟨by omega, this.1⟩
    have hp3 : IntKind.u64.wrap (((dv * M : Nat) : Int) + (qs : Nat)) = (RS : Nat) := by rw [hRS.out.1, ← Int.natCast_add]; exact u64n (by omega)
    have hRb : RS < 18446744073709551616 := by have := hRS.out.1; omega
    have hmul : (dv : Int) * M = ((dv * M : Nat) : Int) := by simp
    clear hdw HS hle
    generalize hdm : dv * M = dM at *
    have hadd : (dM : Int) + (qs : Nat) = (RS : Nat) := by have := hRS.out.1; omega
    have HD : Hid (dv * M = dM) := hdm
    clear hdm
    go_enter Try.func29, Try.ntmps29
    go_wp2_with fail
    go_at_call 38
    refine (hN _ (Kp.refl _)).mono ?_
    rintro e w1 ⟨rfl, rfl⟩
    go_upto_region 4 with fail
    go_quiet (first | (go_at_call 38; exact Calls.quiet_of_same (hN _ (by first | exact Kp.refl _ | exact Kp.drewN _ _))) | fail)
    by_cases hg : RS ≤ 9223372036854775807
    · have hgz : ¬ (9223372036854775807 : Int) < RS := by omega
      go_wp2
      go_ret2
      refine ⟨?_, Kp.drewN _ _⟩
      rw [hRS.out.2, Nat.min_eq_left hg]
      first | rfl | simp [hg]
    · have hgz : (9223372036854775807 : Int) < RS := by omega
      go_wp2
      go_ret2
      refine ⟨?_, Kp.drewN _ _⟩
      rw [hRS.out.2, Nat.min_eq_right (by omega)]
      first | rfl | simp [hg]
set_option maxHeartbeats 2000000 in
set_option maxRecDepth 10000 in
theorem rwindow_any (w : World) (B : Nat) (h : Hr) (i : IsH w B h) (k : Nat) (hk : k < 18446744073709551616) :
    Calls Try.prog 30 #[.pointer (some ⟨B, 0, none⟩), .int .u64 (k : Nat)] w fun e w' => e = .returned (.agg #[.int .i64 (h.at k).c, .int .u64 ((h.at k).s : Nat), .int .u64 ((h.at k).l : Nat)]) ∧ Kp w w' := by
  obtain ⟨g, cap, h1, h2, h3⟩ := i.ex
  obtain ⟨c0, c1, c2⟩ := h3.c _ (i.ok.mod k)
  rw [← i.ok.at_eq k] at c0 c1 c2
  simp only [Nat.zero_add] at c0 c1 c2
  have hm := i.ok.mod k
  have n2 := i.ok.n2
  have kA := Kp.al w (.cells #[.int .i64 0, .int .u64 0, .int .u64 0] 36)
  have kB : Kp w (w.alloc (.cells #[.int .i64 0, .int .u64 0, .int .u64 0] 36)).drew := kA.trans (Kp.drew _)
  have hN := fun W (k : Kp w W) => rn_any W B h (i.kp k)
  have e2 := kA.cell h2
  have f0 := kA.cell c0
  have f1 := kA.cell c1
  have f2 := kA.cell c2
  have z0 : (w.alloc (.cells #[.int .i64 0, .int .u64 0, .int .u64 0] 36)).heap[w.heap.size]? = some (.cells #[.int .i64 0, .int .u64 0, .int .u64 0] 36 (0, 0)) := heap_alloc_new w _
  have x0 := (cells_at z0 0).1
  have x1 := (cells_at z0 1).1
  have x2 := (cells_at z0 2).1
  have y0 := (cells_at z0 0).2
  have y1 := (cells_at z0 1).2
  have y2 := (cells_at z0 2).2
  simp only [List.getElem?_toArray, List.getElem?_cons_zero, List.getElem?_cons_succ] at x0 x1 x2
  have HK : Hid (Kp w (w.alloc (.cells #[.int .i64 0, .int .u64 0, .int .u64 0] 36))) := kA
  clear h3 i c0 c1 c2 h1 h2 kA
  generalize (h.at k).c = qc at *
  generalize (h.at k).s = qs at *
  generalize (h.at k).l = ql at *
  generalize hnl : h.L.length = n at *
  clear hnl
  obtain ⟨mo, hmo⟩ : ∃ mo, mo = k % n := ⟨_, rfl⟩
  rw [← hmo] at hm f0 f1 f2
  have hmoz : (k : Int).tmod (n : Int) = (mo : Nat) := by rw [Int.tmod_eq_emod_of_nonneg (by omega), hmo]; simp
  have hmo2 : mo < 18446744073709551616 := by omega
  clear hmo
  have hn0 : ¬ (n : Int) = 0 := by omega
  have hn0' : ¬ n = 0 := by omega
  go_enter Try.func30, Try.ntmps30
  go_upto_region 1 with fail
  generalize hw1 : w.alloc (.cells #[.int .i64 0, .int .u64 0, .int .u64 0] 36) = w1 at *
  clear hw1
  have hNd := hN w1.drew kB
  have HKc : ∀ W', Kp w1 W' → (W'.cell? ⟨B, 1, none⟩ = some (.slice (some ⟨g, 0, none⟩) n cap) ∧ W'.cell? ⟨g, mo * 3, none⟩ = some (.int .i64 qc) ∧ W'.cell? ⟨g, mo * 3 + 1, none⟩ = some (.int .u64 (qs : Nat)) ∧ W'.cell? ⟨g, mo * 3 + 2, none⟩ = some (.int .u64 (ql : Nat))) := fun W' k => ⟨k.cell e2, k.cell f0, k.cell f1, k.cell f2⟩
  go_region_with (first | (go_at_call 38; refine hNd.mono ?_; rintro e wz ⟨rfl, rfl⟩) | fail)
  all_goals
    go_wp2_with fail
    refine bodyPost_ret (v := .agg #[.int .i64 qc, .int .u64 (qs : Nat), .int .u64 (ql : Nat)]) (by simp [results, Try.results30, go_sem, x0, x1, x2]) rfl ⟨rfl, ?_⟩
    exact (Chg.setCell (Chg.setCell (Chg.setCell HK.out (.inr (Nat.le_refl _)) _) (.inr (Nat.le_refl _)) _) (.inr (Nat.le_refl _)) _).drew
set_option maxHeartbeats 2000000 in
set_option maxRecDepth 10000 in
theorem rnext_any (w : World) (B : Nat) (h : Hr) (i : IsH w B h) (t : Nat) (ht : t < 18446744073709551616) :
    Calls Try.prog 28 #[.pointer (some ⟨B, 0, none⟩), .int .u64 (t : Nat)] w fun e w' => e = .returned (.int .u64 (h.nx t : Nat)) ∧ w' = w := by
  obtain ⟨g, cap, h1, h2, h3⟩ := i.ex
  have hN := fun W (e : W = w) => (by rw [e]; exact rn_any w B h i : Calls Try.prog 38 #[.pointer (some ⟨B, 0, none⟩)] W fun e w' => e = .returned (.int .u64 (h.L.length : Nat)) ∧ w' = W)
  have hle := Hr.ah_le i.ok (mt t)
  have n2 := i.ok.n2
  have m1 := i.ok.m1
  have hasc := i.ok.asc
  have HX : Hid (h.nx t = mt t / h.M * h.L.length + ahN h.L (mt t % h.M)) := rfl
  have hmt := mt_lt (t := t)
  have hle2 : mt t / h.M * h.L.length + ahN h.L (mt t % h.M) ≤ mt t := hle
  have HM : Hid (mt t = min t 9223372036854775807) := rfl
  have HL : Hid (RdW w g 0 h.L ∧ Asc h.L) := ⟨h3, hasc⟩
  clear h3 i hle hasc
  generalize h.nx t = NX at *
  generalize mt t = T at *
  obtain ⟨mo, hmo⟩ : ∃ mo, mo = T % h.M := ⟨_, rfl⟩
  obtain ⟨dv, hdv⟩ : ∃ dv, dv = T / h.M := ⟨_, rfl⟩
  rw [← hmo, ← hdv] at HX hle2
  have hmoz : (T : Int).tmod (h.M : Int) = (mo : Nat) := by rw [Int.tmod_eq_emod_of_nonneg (by omega), hmo]; simp
  have hdvz : (T : Int).tdiv (h.M : Int) = (dv : Nat) := by rw [Int.tdiv_eq_ediv_of_nonneg (by omega), hdv]; simp
  have hmo2 : mo < 18446744073709551616 := by have := Nat.mod_le T h.M; omega
  have hdv2 : dv < 18446744073709551616 := by have := Nat.div_le_self T h.M; omega
  clear hmo hdv
  have hm0 : ¬ (h.M : Int) = 0 := by omega
  have hm0' : ¬ h.M = 0 := by omega
  obtain ⟨n, hnl⟩ : ∃ n, n = h.L.length := ⟨_, rfl⟩
  have HN : Hid (n = h.L.length) := hnl
  rw [← hnl] at hN n2 HX hle2 h2
  clear hnl
  have hp2 : IntKind.u64.wrap ((dv : Int) * n) = ((dv * n : Nat) : Int) := by rw [← Int.natCast_mul]; exact u64n (by omega)
  have hmul : (dv : Int) * n = ((dv * n : Nat) : Int) := by simp
  have hdn : dv * n ≤ T := by omega
  have HX2 : Hid (NX = dv * n + ahN h.L mo) := HX.out
  generalize hdm : dv * n = dN at *
  have HDN : Hid (dv * n = dN) := hdm
  clear hdm HX hle2
  have hn0 : IntKind.u64.wrap (n : Int) = n := u64n (by omega)
  have A0 : Hid (∀ i (hi : i < h.L.length), i < 0 → h.L[i].s < mo) := fun _ _ h => by omega
  generalize h.M = M at *
  by_cases hcs : t ≤ 9223372036854775807
  · have hcz : ¬ (9223372036854775807 : Int) < t := by omega
    obtain rfl : t = T := by have := HM.out; omega
    go_enter Try.func28, Try.ntmps28
    go_wp2_with fail
    go_loopw [7] (fun s7 wr => ∃ i : Nat, s7 = .int .i64 (i : Nat) ∧ i ≤ n ∧ wr = w ∧ Hid (∀ j (hj : j < h.L.length), j < i → h.L[j].s < mo)) (fun s7 _ => n - (intOf s7).toNat)
    case atStart => exact ⟨0, rfl, by omega, rfl, A0⟩
    case round =>
      obtain ⟨i, rfl, hi, rfl, HI⟩ := hrel
      clear A0
      by_cases hlt : i < n
      · have hltz : (i : Int) < n := by omega
        have hil : i < h.L.length := by rw [← HN.out]; exact hlt
        obtain ⟨c0, c1, c2⟩ := HL.out.1.c i hil
        simp only [Nat.zero_add] at c1
        have HY : h.L[i].s < mo → Hid (∀ j (hj : j < h.L.length), j < i + 1 → h.L[j].s < mo) := fun hx => fun j hj hji => by
          rcases Nat.lt_or_ge j i with e | e
          · exact HI.out j hj e
          · obtain rfl : j = i := by omega
            exact hx
        have HZ : ¬ h.L[i].s < mo → Hid (NX = dN + i) := fun hx => by
          show NX = _
          rw [HX2.out]
          congr 1
          refine countP_cut _ h.L i (by omega) (fun j hj hji => decide_eq_true (HI.out j hj hji)) (fun j hj hji => decide_eq_false ?_)
          rcases Nat.lt_or_ge i j with e | e
          · have := HL.out.2 i j hil hj e; omega
          · obtain rfl : j = i := by omega
            exact hx
        generalize h.L[i].s = qs at *
        clear c0 c2
        by_cases hq : qs < mo
        · have hqz : ¬ (mo : Int) ≤ qs := by omega
          have HN2 := HY hq
          clear HY HZ
          go_wp2
          exact ⟨⟨i + 1, by go_num, by omega, by first | rfl | trivial, HN2⟩, by simp [intOf]; omega⟩
        · have hqz : (mo : Int) ≤ qs := by omega
          have HN2 := HZ hq
          clear HY HZ
          have hp3 : IntKind.u64.wrap ((dN : Int) + (i : Nat)) = (NX : Nat) := by rw [HN2.out, ← Int.natCast_add]; exact u64n (by omega)
          have hiw : IntKind.u64.wrap (i : Int) = i := u64n (by omega)
          have hadd : (dN : Int) + (i : Nat) = (NX : Nat) := by have := HN2.out; omega
          go_wp2_with fail
          go_at_call 38
          refine (hN _ rfl).mono ?_
          rintro e w1 ⟨rfl, hw1⟩
          rw [hw1]
          go_wp2
          go_ret
          exact ⟨by first | rfl | simp, rfl⟩
      · have hltz : ¬ (i : Int) < n := by omega
        obtain rfl : i = n := by omega
        have HN2 : Hid (NX = dN + i) := by
          show NX = _
          rw [HX2.out]
          congr 1
          refine countP_cut _ h.L i (by rw [HN.out]; exact Nat.le_refl _) (fun j hj hji => decide_eq_true (HI.out j hj hji)) (fun j hj hji => by have := HN.out; omega)
        have hp3 : IntKind.u64.wrap ((dN : Int) + (i : Nat)) = (NX : Nat) := by rw [HN2.out, ← Int.natCast_add]; exact u64n (by omega)
        have hadd : (dN : Int) + (i : Nat) = (NX : Nat) := by have := HN2.out; omega
        go_wp2_with fail
        go_at_call 38
        refine (hN _ rfl).mono ?_
        rintro e w1 ⟨rfl, hw1⟩
        rw [hw1]
        go_wp2_with fail
        go_at_call 38
        refine (hN _ rfl).mono ?_
        rintro e w2 ⟨rfl, hw2⟩
        rw [hw2]
        go_wp2
        go_ret
        exact ⟨by first | rfl | simp, rfl⟩
  · have hcz : (9223372036854775807 : Int) < t := by omega
    have hT2 : T = 9223372036854775807 := by have := HM.out; omega
    subst hT2
    have hmoz2 : (9223372036854775807 : Int).tmod (M : Int) = (mo : Nat) := hmoz
    have hdvz2 : (9223372036854775807 : Int).tdiv (M : Int) = (dv : Nat) := hdvz
    clear hmoz hdvz
    go_enter Try.func28, Try.ntmps28
    go_wp2_with fail
    go_loopw [7] (fun s7 wr => ∃ i : Nat, s7 = .int .i64 (i : Nat) ∧ i ≤ n ∧ wr = w ∧ Hid (∀ j (hj : j < h.L.length), j < i → h.L[j].s < mo)) (fun s7 _ => n - (intOf s7).toNat)
    case atStart => exact ⟨0, rfl, by omega, rfl, A0⟩
    case round =>
      obtain ⟨i, rfl, hi, rfl, HI⟩ := hrel
      clear A0
      by_cases hlt : i < n
      · have hltz : (i : Int) < n := by omega
        have hil : i < h.L.length := by rw [← HN.out]; exact hlt
        obtain ⟨c0, c1, c2⟩ := HL.out.1.c i hil
        simp only [Nat.zero_add] at c1
        have HY : h.L[i].s < mo → Hid (∀ j (hj : j < h.L.length), j < i + 1 → h.L[j].s < mo) := fun hx => fun j hj hji => by
          rcases Nat.lt_or_ge j i with e | e
          · exact HI.out j hj e
          · obtain rfl : j = i := by omega
            exact hx
        have HZ : ¬ h.L[i].s < mo → Hid (NX = dN + i) := fun hx => by
          show NX = _
          rw [HX2.out]
          congr 1
          refine countP_cut _ h.L i (by omega) (fun j hj hji => decide_eq_true (HI.out j hj hji)) (fun j hj hji => decide_eq_false ?_)
          rcases Nat.lt_or_ge i j with e | e
          · have := HL.out.2 i j hil hj e; omega
          · obtain rfl : j = i := by omega
            exact hx
        generalize h.L[i].s = qs at *
        clear c0 c2
        by_cases hq : qs < mo
        · have hqz : ¬ (mo : Int) ≤ qs := by omega
          have HN2 := HY hq
          clear HY HZ
          go_wp2
          exact ⟨⟨i + 1, by go_num, by omega, by first | rfl | trivial, HN2⟩, by simp [intOf]; omega⟩
        · have hqz : (mo : Int) ≤ qs := by omega
          have HN2 := HZ hq
          clear HY HZ
          have hp3 : IntKind.u64.wrap ((dN : Int) + (i : Nat)) = (NX : Nat) := by rw [HN2.out, ← Int.natCast_add]; exact u64n (by omega)
          have hiw : IntKind.u64.wrap (i : Int) = i := u64n (by omega)
          have hadd : (dN : Int) + (i : Nat) = (NX : Nat) := by have := HN2.out; omega
          go_wp2_with fail
          go_at_call 38
          refine (hN _ rfl).mono ?_
          rintro e w1 ⟨rfl, hw1⟩
          rw [hw1]
          go_wp2
          go_ret
          exact ⟨by first | rfl | simp, rfl⟩
      · have hltz : ¬ (i : Int) < n := by omega
        obtain rfl : i = n := by omega
        have HN2 : Hid (NX = dN + i) := by
          show NX = _
          rw [HX2.out]
          congr 1
          refine countP_cut _ h.L i (by rw [HN.out]; exact Nat.le_refl _) (fun j hj hji => decide_eq_true (HI.out j hj hji)) (fun j hj hji => by have := HN.out; omega)
        have hp3 : IntKind.u64.wrap ((dN : Int) + (i : Nat)) = (NX : Nat) := by rw [HN2.out, ← Int.natCast_add]; exact u64n (by omega)
        have hadd : (dN : Int) + (i : Nat) = (NX : Nat) := by have := HN2.out; omega
        go_wp2_with fail
        go_at_call 38
        refine (hN _ rfl).mono ?_
        rintro e w1 ⟨rfl, hw1⟩
        rw [hw1]
        go_wp2_with fail
        go_at_call 38
        refine (hN _ rfl).mono ?_
        rintro e w2 ⟨rfl, hw2⟩
        rw [hw2]
        go_wp2
        go_ret
        exact ⟨by first | rfl | simp, rfl⟩
end Go.Proofs.Ytakddfhcafpceaa
