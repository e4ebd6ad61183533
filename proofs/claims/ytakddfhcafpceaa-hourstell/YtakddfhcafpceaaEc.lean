import Derived.Test.YtakddfhcafpceaaEb
namespace Go.Proofs.Ytakddfhcafpceaa
open Go.ChangeShapes Go.WideShapes Go.ChangeAt Go.RowKit Go.Shelf
set_option linter.unusedVariables false
attribute [local go_sem] run_f0 run_f1 run_f2
theorem IsH.cellL {w : World} {B : Nat} {h : Hr} (i : IsH w B h) : ∃ g cap, w.cell? ⟨B, 1, none⟩ = some (.slice (some ⟨g, 0, none⟩) h.L.length cap) ∧ RdW w g 0 h.L := by
  obtain ⟨g, cap, _, h2, h3⟩ := i.ex
  exact ⟨g, cap, h2, h3⟩
theorem at_lt {h : Hr} {i : Nat} (hi : i < h.L.length) : h.at i = h.L[i] := by
  unfold Hr.at; rw [Nat.mod_eq_of_lt hi, List.getD_eq_getElem?_getD, List.getElem?_eq_getElem hi]; rfl
structure RoI (w wr : World) (v : Value) (l : List Nat) : Prop where
  kp : Kp w wr
  ow : OI wr v l
  nw : ∀ k, v.ownBlock = some k → w.heap.size ≤ k
set_option maxHeartbeats 2000000 in
set_option maxRecDepth 10000 in
theorem rof_any (w : World) (B : Nat) (h : Hr) (i : IsH w B h) (c : Int) :
    Calls Try.prog 19 #[.pointer (some ⟨B, 0, none⟩), .int .i64 c] w fun e w' => ∃ v, e = .returned v ∧ OI w' v (ofN h c h.L.length) ∧ Kp w w' ∧ Nw w v := by
  obtain ⟨g, cap, h2, h3⟩ := i.cellL
  have n2 := i.ok.n2
  obtain ⟨n, hnl⟩ : ∃ n, n = h.L.length := ⟨_, rfl⟩
  have HN : Hid (n = h.L.length ∧ RdW w g 0 h.L) := ⟨hnl, h3⟩
  rw [← hnl] at n2 h2 ⊢
  have A0 : Hid (RoI w w (.slice none 0 0) (ofN h c 0)) := ⟨Kp.refl w, ⟨rfl, .inl ⟨rfl, rfl⟩⟩, fun k hk => by cases hk⟩
  have HC : Hid (w.cell? ⟨B, 1, none⟩ = some (.slice (some ⟨g, 0, none⟩) n cap)) := h2
  clear hnl h3 i
  go_enter Try.func19, Try.ntmps19
  go_wp2_with fail
  clear h2
  go_loopw [5, 6] (fun s5 s6 wr => ∃ (v : Value) (j : Nat), v = s5 ∧ s6 = .int .i64 (j : Nat) ∧ j ≤ n ∧ Hid (RoI w wr v (ofN h c j))) (fun _ s6 _ => n - (intOf s6).toNat)
  case atStart => exact ⟨_, 0, rfl, rfl, by omega, A0⟩
  case round =>
    obtain ⟨v, j, rfl, rfl, hj, HI⟩ := hrel
    clear A0
    have h2 := HI.out.kp.cell HC.out
    by_cases hlt : j < n
    · have hltz : (j : Int) < n := by omega
      have hjl : j < h.L.length := by rw [← HN.out.1]; exact hlt
      have c0 := HI.out.kp.cell (HN.out.2.c j hjl).1
      simp only [Nat.zero_add] at c0
      rw [← at_lt hjl] at c0
      by_cases hc : (h.at j).c = c
      · have hcb : ((h.at j).c == c) = true := by simp [hc]
        obtain ⟨v', w', hrun, ho, hcg, hl⟩ := app_int wr v (ofN h c j) HI.out.ow j (by have := ofN_len (h := h) (c := c) (k := j); omega)
        rw [← ofN_yes hc] at ho
        have HN2 : Hid (RoI w w' v' (ofN h c (j + 1))) := by
          refine ⟨Chg.trans HI.out.kp hcg (fun k hk e => by have := HI.out.nw k e; omega), ho, fun k hk => ?_⟩
          rcases hl with e | ⟨k', e, h2⟩
          · rw [e] at hk; exact HI.out.nw k hk
          · rw [e] at hk; cases hk; have := HI.out.kp.size; omega
        clear ho hcg hl
        go_wp2_with (at_builtin; refine wpList_append_run _ rfl (.tmp 26) (.tmp 28) 22 22 rfl _ _ v' w' rfl rfl hrun ?_)
        exact ⟨⟨v', j + 1, rfl, by go_num, by omega, HN2⟩, by simp [intOf]; omega⟩
      · have hcb : ((h.at j).c == c) = false := by simp [hc]
        have HN2 : Hid (RoI w wr v (ofN h c (j + 1))) := by show RoI w wr v (ofN h c (j + 1)); rw [ofN_no hc]; exact HI.out
        go_wp2
        exact ⟨⟨v, j + 1, rfl, by go_num, by omega, HN2⟩, by simp [intOf]; omega⟩
    · have hltz : ¬ (j : Int) < n := by omega
      obtain rfl : j = n := by omega
      go_wp2
      go_ret
      exact ⟨v, rfl, HI.out.ow, HI.out.kp, HI.out.nw⟩
/-- Numbers, in a list of one's own. -/
abbrev OU (w : World) (v : Value) (l : List Nat) : Prop := w.ownsRow 0 23 1 v l.length (l.map fun i => .int .u64 (i : Nat))
theorem OU.at {w : World} {v : Value} {l : List Nat} (h : OU w v l) : (v = .slice none 0 0 ∧ l = []) ∨ ∃ g cap, v = .slice (some ⟨g, 0, none⟩) l.length cap ∧ (∃ cur, w.heap[g]? = some (.cells cur 23 (0, 0))) ∧ ∀ i (hi : i < l.length), w.cell? ⟨g, i, none⟩ = some (.int .u64 (l[i] : Nat)) := by
  rcases h.2 with ⟨h1, h2⟩ | ⟨g, cap, cur, h1, h2, h3, h4, h5, h6, h7⟩
  · left; exact ⟨h1, List.eq_nil_of_length_eq_zero h2⟩
  · right
    refine ⟨g, cap, h1, ⟨_, h3⟩, fun i hi => ?_⟩
    rw [(cells_at h3 i).1, ← Array.getElem?_toList]
    have e := congrArg (fun l => l[i]?) h7
    simp only [Nat.mul_one] at e
    rw [List.getElem?_take, if_pos hi] at e
    rw [e]
    simp [hi]
theorem info23p : ∃ i, Try.prog.info? 23 = some i ∧ i.zero = some (.int .u64 0) ∧ i.size = 1 ∧ i.bytes = 8 := by
  have hz : (Try.prog.info? 23).map (fun i => (i.zero, i.size, i.bytes)) = some (some (.int .u64 0), 1, 8) := by kernel_rfl
  cases hq : Try.prog.info? 23 with
  | none => rw [hq] at hz; cases hz
  | some i =>
    rw [hq] at hz
    have hz2 : i.zero = some (.int .u64 0) ∧ i.size = 1 ∧ i.bytes = 8 := by simpa using hz
    exact ⟨i, rfl, hz2⟩
theorem app_u64 (w : World) (v : Value) (l : List Nat) (h : OU w v l) (n : Nat) (hl : l.length < 1000) :
    ∃ v' w', (Builtin.append_ #[40, 40] 40 #[v, .slice (some ⟨w.heap.size, 0, none⟩) 1 1]).run Try.prog (w.alloc (.cells #[.int .u64 (n : Nat)] 23)) = .ok v' w' ∧ OU w' v' (l ++ [n]) ∧ Chg w w' (fun i => v.ownBlock = some i) ∧ (v'.ownBlock = v.ownBlock ∨ ∃ k, v'.ownBlock = some k ∧ w.heap.size ≤ k) := by
  obtain ⟨i0, hi, hz, hs, hb⟩ := info23p
  have ha : OU (w.alloc (.cells #[.int .u64 (n : Nat)] 23)) v l := Chg.owns ((Chg.refl w (fun _ => False)).alloc _) h (fun _ _ h => h)
  obtain ⟨v', w', hr, ho, hg, hL⟩ := run_app (P := Try.prog) (w.alloc (.cells #[.int .u64 (n : Nat)] 23)) 40 40 23 i0 (.int .u64 0) 1 8 Try.underlying40 hi hz hs hb rfl (by omega) v l.length _ ha (some ⟨w.heap.size, 0, none⟩) 1 1 [.int .u64 (n : Nat)] rfl (.inr ⟨_, _, rfl, fun j u hu => by
    have : j = 0 := by cases j with
      | zero => rfl
      | succ j => simp at hu
    subst this
    rw [(cells_at (heap_alloc_new w _) _).1]
    simpa using hu⟩) (by simp [Value.oneCell']) (by simp [maxLen]; omega) (by omega)
  refine ⟨v', w', hr, ?_, ?_, ?_⟩
  · have e1 : (l ++ [n]).length = l.length + 1 := by simp
    unfold OU
    rw [e1, List.map_append]
    exact ho
  · exact Chg.grown ((Chg.refl w _).alloc _) hg (fun k hk => .inl hk)
  · rcases hL with e | ⟨k, e, h⟩
    · exact .inl e
    · exact .inr ⟨k, e, by simp at h; omega⟩
/-- The length in a slot. -/
def lenOf : Value → Nat
  | .slice _ n _ => n
  | _ => 0
structure RaI (w wr : World) (v : Value) (l : List Nat) : Prop where
  kp : Kp w wr
  ow : OU wr v l
  nw : ∀ k, v.ownBlock = some k → w.heap.size ≤ k
/-- The numbers of windows from one on. -/
def alN (k0 j : Nat) : List Nat := (List.range j).map (k0 + ·)
theorem alN_succ (k0 j : Nat) : alN k0 (j + 1) = alN k0 j ++ [k0 + j] := by unfold alN; rw [List.range_succ, List.map_append]; rfl
theorem alN_len (k0 j : Nat) : (alN k0 j).length = j := by simp [alN]
theorem alN_at (k0 j i : Nat) (h : i < (alN k0 j).length) : (alN k0 j)[i] = k0 + i := by simp [alN]
set_option maxHeartbeats 2000000 in
set_option maxRecDepth 10000 in
theorem rall_any (w : World) (B : Nat) (h : Hr) (i : IsH w B h) (fr te : Nat) (hfr : fr < 18446744073709551616) (hte : te < 18446744073709551616) (mo : Nat) (hmo : mo ≤ 400) :
    Calls Try.prog 31 #[.pointer (some ⟨B, 0, none⟩), .int .u64 (fr : Nat), .int .u64 (te : Nat), .int .i64 (mo : Nat)] w fun e w' => ∃ v, e = .returned v ∧ OU w' v (alN (h.ah fr) (min (h.cnt fr te) mo)) ∧ Kp w w' ∧ Nw w v := by
  by_cases hf : 9223372036854775807 < fr
  · have hfz : (9223372036854775807 : Int) < fr := by omega
    have HC : Hid (h.cnt fr te = 0) := by
      show h.cnt fr te = 0
      unfold Hr.cnt
      have h1 : me te ≤ fr := by unfold me; omega
      have : h.ah (me te) ≤ h.ah fr := by
        rcases Nat.lt_or_ge (h.ah fr) (h.ah (me te)) with e | e
        · exfalso
          have h3 := (ah_iff i.ok (me te) (h.ah fr)).1 e
          have h4 := ah_ge i.ok fr
          omega
        · exact e
      omega
    generalize h.cnt fr te = cn at *
    clear i
    go_enter Try.func31, Try.ntmps31
    go_wp2
    go_ret
    exact ⟨_, rfl, by rw [HC.out, Nat.zero_min]; exact ⟨rfl, .inl ⟨rfl, rfl⟩⟩, Kp.refl _, fun k hk => by cases hk⟩
  · have hfz : ¬ (9223372036854775807 : Int) < fr := by omega
    have hNx := rnext_any w B h i fr hfr
    have hnx : h.nx fr = h.ah fr := by unfold Hr.nx mt; rw [Nat.min_eq_left (by omega)]
    rw [hnx] at hNx
    have hk0 := Hr.ah_le i.ok fr
    have hen := Hr.ah_le i.ok (me te)
    have hme : me te ≤ 9223372036854775808 := by unfold me; omega
    have HST : Hid (∀ W, Kp w W → ∀ k, k < 18446744073709551616 → Calls Try.prog 29 #[.pointer (some ⟨B, 0, none⟩), .int .u64 (k : Nat)] W fun e w' => e = .returned (.tuple #[.int .u64 (h.st k : Nat), .bool (decide (h.rs k ≤ 9223372036854775807))]) ∧ Kp W w') := fun W kk k hk => rstart_any W B h (i.kp kk) k hk
    have HO : Hid h.ok := i.ok
    have HC : Hid (h.cnt fr te = h.ah (me te) - h.ah fr) := rfl
    clear i hnx
    generalize h.cnt fr te = cn at *
    obtain ⟨k0, hk0e⟩ : ∃ k0, k0 = h.ah fr := ⟨_, rfl⟩
    have HK0 : Hid (k0 = h.ah fr) := hk0e
    rw [← hk0e] at hNx hk0 HC ⊢
    clear hk0e
    have A0 : Hid (RaI w w (.slice none 0 0) (alN k0 0)) := ⟨Kp.refl w, ⟨rfl, .inl ⟨rfl, rfl⟩⟩, fun k hk => by cases hk⟩
    go_enter Try.func31, Try.ntmps31
    go_wp2_with fail
    go_at_call 28
    refine hNx.mono ?_
    rintro e w1 ⟨rfl, hw1⟩
    rw [hw1]
    clear hw1 hNx
    go_wp2_with fail
    go_loopw [9, 10] (fun s9 s10 wr => ∃ (v : Value) (j q : Nat), v = s9 ∧ s10 = .int .u64 (q : Nat) ∧ q < 9223372036854775810 ∧ j ≤ mo ∧ Hid (RaI w wr v (alN k0 j) ∧ q = k0 + j ∧ (j = 0 ∨ j ≤ cn))) (fun s9 _ _ => mo - lenOf s9)
    case atStart => exact ⟨_, 0, k0, rfl, rfl, by omega, by omega, ⟨A0.out, rfl, .inl rfl⟩⟩
    case round =>
      obtain ⟨v, j, q, rfl, rfl, hq, hj, HI⟩ := hrel
      clear A0
      obtain ⟨av, cv, hv⟩ : ∃ av cv, v = .slice av j cv := by
        rcases HI.out.1.ow.at with ⟨e, e2⟩ | ⟨g, cap, e, _⟩
        · refine ⟨none, 0, ?_⟩
          have : j = 0 := by have := alN_len k0 j; rw [e2] at this; simpa using this.symm
          rw [e, this]
        · rw [alN_len] at e; exact ⟨_, _, e⟩
      subst hv
      by_cases hlt : j < mo
      · have hltz : (j : Int) < mo := by omega
        have hS := HST.out wr HI.out.1.kp q (by omega)
        have hst := st_rs HO.out q
        have hiff := ah_iff HO.out (me te) q
        have hmee : me te = min te 9223372036854775808 := rfl
        by_cases hok : h.rs q ≤ 9223372036854775807
        · rw [decide_eq_true hok] at hS
          have hs : h.st q = h.rs q := by omega
          rw [hs] at hS
          by_cases hin : h.rs q < te
          · have hinz : ¬ (te : Int) ≤ h.rs q := by omega
            have hjc : j < cn := by
              have : q < h.ah (me te) := hiff.2 (by omega)
              have h1 := HC.out
              have h2 := HI.out.2.1
              omega
            clear hst hiff hmee hs
            generalize h.rs q = rq at *
            go_wp2_with fail
            go_at_call 29
            refine hS.mono ?_
            rintro e w2 ⟨rfl, k2⟩
            obtain ⟨v', w', hrun, ho, hcg, hl⟩ := app_u64 w2 (.slice av j cv) (alN k0 j) (Chg.owns k2 HI.out.1.ow (fun _ _ e => e)) q (by rw [alN_len]; omega)
            have HN2 : Hid (RaI w w' v' (alN k0 (j + 1)) ∧ q + 1 = k0 + (j + 1) ∧ (j + 1 = 0 ∨ j + 1 ≤ cn)) := by
              refine ⟨⟨Chg.trans (HI.out.1.kp.trans k2) hcg (fun k hk e => by have := HI.out.1.nw k e; omega), by rw [alN_succ, ← HI.out.2.1]; exact ho, fun k hk => ?_⟩, by have := HI.out.2.1; omega, .inr (by omega)⟩
              rcases hl with e | ⟨k', e, h2⟩
              · rw [e] at hk; exact HI.out.1.nw k hk
              · rw [e] at hk; cases hk; have := HI.out.1.kp.size; have := k2.size; omega
            have hqn : q + 1 < 9223372036854775810 := by
              have h1 := HC.out
              have h2 : me te ≤ 9223372036854775808 := hme
              have h3 := HI.out.2.1
              omega
            obtain ⟨av', nv', cv', hv'⟩ : ∃ a n c, v' = .slice a n c ∧ n = j + 1 := by
              rcases ho.at with ⟨e, e2⟩ | ⟨g, cap, e, _⟩
              · simp at e2
              · exact ⟨_, _, _, e, by simp [alN_len]⟩
            obtain ⟨rfl, rfl⟩ := hv'
            clear ho hcg hl hS k2
            go_wp2_with (at_builtin; refine wpList_append_run _ rfl (.tmp 35) (.tmp 37) 40 40 rfl _ _ _ w' rfl rfl hrun ?_)
            exact ⟨⟨_, j + 1, q + 1, rfl, by go_num, hqn, by omega, HN2⟩, by simp [lenOf]; omega⟩
          · have hinz : (te : Int) ≤ h.rs q := by omega
            have HF : Hid (min cn mo = j) := by
              have : ¬ q < h.ah (me te) := fun e => by have := hiff.1 e; omega
              have h1 := HC.out
              have h2 := HI.out.2
              show min cn mo = j
              omega
            clear hst hiff hmee hs
            generalize h.rs q = rq at *
            go_wp2_with fail
            go_at_call 29
            refine hS.mono ?_
            rintro e w2 ⟨rfl, k2⟩
            go_wp2
            go_ret
            exact ⟨_, rfl, by rw [HF.out]; exact Chg.owns k2 HI.out.1.ow (fun _ _ e => e), HI.out.1.kp.trans k2, HI.out.1.nw⟩
        · rw [decide_eq_false hok] at hS
          have HF : Hid (min cn mo = j) := by
            have : ¬ q < h.ah (me te) := fun e => by have := hiff.1 e; omega
            have h1 := HC.out
            have h2 := HI.out.2
            show min cn mo = j
            omega
          clear hst hiff hmee
          generalize h.rs q = rq at *
          generalize h.st q = sq at *
          go_wp2_with fail
          go_at_call 29
          refine hS.mono ?_
          rintro e w2 ⟨rfl, k2⟩
          go_wp2
          go_ret
          exact ⟨_, rfl, by rw [HF.out]; exact Chg.owns k2 HI.out.1.ow (fun _ _ e => e), HI.out.1.kp.trans k2, HI.out.1.nw⟩
      · have hltz : ¬ (j : Int) < mo := by omega
        have HF : Hid (min cn mo = j) := by
          have h2 := HI.out.2
          show min cn mo = j
          omega
        go_wp2
        go_ret
        exact ⟨_, rfl, by rw [HF.out]; exact HI.out.1.ow, HI.out.1.kp, HI.out.1.nw⟩
end Go.Proofs.Ytakddfhcafpceaa
