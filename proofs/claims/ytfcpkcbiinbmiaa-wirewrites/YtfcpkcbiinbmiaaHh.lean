import Derived.Test.YtfcpkcbiinbmiaaHg
namespace Go.Proofs.Ytfcpkcbiinbmiaa
open Go.ChangeShapes Go.WideShapes Go.ChangeAt Go.RowKit Go.ChangeMaps
set_option linter.unusedVariables false
theorem info3 : (Try.prog.info? 3).map (fun i => (i.zero, i.size, i.bytes)) = some (some (.int .i64 0), 1, 8) := by kernel_rfl
theorem ci_len (l : List Nat) : (ci l).length = l.length := by simp [ci]
/-- One more number behind a list. -/
theorem run_appI (w : World) (v : Value) (l : List Nat) (h : w.ownsRow 0 3 1 v l.length (ci l)) (x : Nat) (hl : l.length < 4000000) :
    ∃ a c w', (Builtin.append_ #[66, 66] 66 #[v, .slice (some ⟨w.heap.size, 0, none⟩) 1 1]).run Try.prog (w.alloc (.cells #[.int .i64 (x : Nat)] 3)) = .ok (.slice a (l.length + 1) c) w' ∧ w'.ownsRow 0 3 1 (.slice a (l.length + 1) c) (l ++ [x]).length (ci (l ++ [x])) ∧ Chg w w' (fun i => v.ownBlock = some i) ∧ Loc w v (.slice a (l.length + 1) c) := by
  obtain ⟨i0, hi, hz0, hz1, hz2⟩ := info_parts info3
  have ka : Kp w (w.alloc (.cells #[.int .i64 (x : Nat)] 3)) := Kp.al _ _
  obtain ⟨v', w', hr, ho, hg, hL⟩ := run_app (P := Try.prog) (w.alloc (.cells #[.int .i64 (x : Nat)] 3)) 66 66 3 i0 (.int .i64 0) 1 8 Try.underlying66 hi hz0 hz1 hz2 rfl (by decide) v l.length _ (Chg.owns ka h (fun _ _ h => h)) (some ⟨w.heap.size, 0, none⟩) 1 1 [.int .i64 (x : Nat)] (by simp) (.inr ⟨_, _, rfl, fun j u hu => by
    rw [(cells_at (heap_alloc_new w _) _).1, Nat.zero_add]
    simpa using hu⟩) (by simp; rfl) (by unfold maxLen; omega) (by omega)
  have hsh : ∃ a c, v' = .slice a (l.length + 1) c := by
    rcases ho.2 with ⟨e, e'⟩ | ⟨g, cap, cur, e, _⟩
    · exact ⟨none, 0, by rw [e, e']⟩
    · exact ⟨_, _, e⟩
  obtain ⟨a, c, rfl⟩ := hsh
  refine ⟨a, c, w', hr, ?_, Chg.grown ((Chg.refl w _).alloc _) hg (fun k hk => .inl hk), ?_⟩
  · have e : ci (l ++ [x]) = ci l ++ [.int .i64 (x : Nat)] := by simp [ci]
    rw [e, List.length_append]
    exact ho
  · rcases hL with e | ⟨k, e, hk⟩
    · exact .inl e
    · exact .inr ⟨k, e, by simp at hk; omega⟩
section
variable {w w' w1 : World} {D : Nat} {vb vo vb' vo' : Value} {s s' : WS}
theorem vNew_ok (n : Nat) (w : World) (hn : n ≤ 67108864) : Calls Try.prog 31 #[.int .i64 n] w fun e w' => e = .returned (.tuple #[.pointer (some ⟨w.heap.size, 0, none⟩), .int .i64 0]) ∧ VW w' w.heap.size (.slice none 0 0) (.slice none 0 0) ⟨n, [], [], 0⟩ ∧ Kp w w' := by
  have h1 : ¬ (n : Int) < 0 := by omega
  have h2 : ¬ (n : Int) > 67108864 := by omega
  go_enter Try.func31, Try.ntmps31
  go_wp2
  go_ret2
  exact ⟨rfl, ⟨heap_alloc_new w _, OwnB.nil _, World.ownsRow_nil _ _ _ _, hn, by simp⟩, Kp.al _ _⟩
theorem vNew_no (n : Int) (w : World) (hn : n < 0 ∨ 67108864 < n) : Calls Try.prog 31 #[.int .i64 n] w fun e w' => e = .returned (.tuple #[.pointer none, .int .i64 10]) ∧ w' = w := by
  by_cases h1 : n < 0
  · go_enter Try.func31, Try.ntmps31
    go_wp2
    go_ret2
    exact ⟨rfl, rfl⟩
  · have h2 : n > 67108864 := by omega
    go_enter Try.func31, Try.ntmps31
    go_wp2
    go_ret2
    exact ⟨rfl, rfl⟩
set_option maxRecDepth 10000 in
theorem vDone (h : VW w D vb vo s) : Calls Try.prog 71 #[.pointer (some ⟨D, 0, none⟩)] w fun r w' => ∃ v', r = .returned (.tuple #[v', .int .i64 s.code]) ∧ OwnB w' v' s.out ∧ Fresh w.heap.size v' ∧ Kp w w' := by
  obtain ⟨c0, c1, c2, c3, cf⟩ := h.cells
  have hlim := h.lim_le
  have hlen := h.len_le
  unfold WS.out WS.code
  by_cases he : s.err = 0
  · have hne : ¬ s.err ≠ 0 := by simp [he]
    rw [if_neg hne, if_neg hne]
    rw [he] at c3
    obtain ⟨ao, co, eo⟩ := own_sh h.opn
    rw [eo] at c2
    by_cases ho : 0 < s.ops.length
    · rw [if_pos ho, if_pos ho]
      have hz : (s.ops.length : Int) > 0 := by omega
      clear h eo
      go_enter Try.func71, Try.ntmps71
      go_wp2
      go_ret2
      exact ⟨.slice none 0 0, rfl, OwnB.nil _, fun k hk => by simp [Value.ownBlock] at hk, Kp.refl _⟩
    · rw [if_neg ho, if_neg ho]
      have hz : ¬ (s.ops.length : Int) > 0 := by omega
      obtain ⟨a, c, ev, hB⟩ := Bs.ofOwn h.own (by omega)
      obtain ⟨v1, w1, hr, o1, g1, l1⟩ := run_appB w (.slice none 0 0) [] (OwnB.nil w) a s.data.length c s.data hB (by simp; omega) 22
      simp only [List.nil_append] at o1
      have k1 : Kp w w1 := (Chg.refl _ _).grown g1 (by simp [Value.ownBlock])
      have f1 : Fresh w.heap.size v1 := loc_fresh (w' := w1) (ys := s.data) l1
      have HE : Hid (OwnB w1 v1 s.data ∧ Fresh w.heap.size v1 ∧ Kp w w1) := ⟨o1, f1, k1⟩
      rw [ev] at c1
      clear h eo o1 g1 l1 k1 f1 hB ev
      go_enter Try.func71, Try.ntmps71
      go_wp2_with (at_builtin; refine wpList_append_run _ rfl (.tmp 22) (.tmp 26) 22 22 rfl _ _ v1 w1 rfl rfl hr ?_)
      go_ret2
      exact ⟨v1, rfl, HE.out⟩
  · rw [if_pos he, if_pos he]
    have hnz : (s.err != 0) = true := by simpa using he
    clear h c0 c1 c2 cf
    go_enter Try.func71, Try.ntmps71
    go_wp2_with fail
    go_quiet (fail)
    go_wp2
    go_ret2
    exact ⟨.slice none 0 0, rfl, OwnB.nil _, fun k hk => by simp [Value.ownBlock] at hk, Kp.drewN _ _⟩
set_option maxRecDepth 10000 in
theorem vOpen (h : VW w D vb vo s) (hn : s.ops.length < 1000000) : Calls Try.prog 67 #[.pointer (some ⟨D, 0, none⟩)] w fun r w' => r = .returned (.int .i64 s.open.1) ∧ VwE w w' D vb vo s.open.2 := by
  obtain ⟨c0, c1, c2, c3, cf⟩ := h.cells
  have hlim := h.lim_le
  have hlen := h.len_le
  obtain ⟨a1, cc1, ev, _⟩ := h.own.shape (by omega)
  have K : Kp w (w.alloc (.cells #[.int .u8 0, .int .u8 0, .int .u8 0, .int .u8 0] 5)) := Kp.al _ _
  have hB : Bs (w.alloc (.cells #[.int .u8 0, .int .u8 0, .int .u8 0, .int .u8 0] 5)) (some ⟨w.heap.size, 0, none⟩) 4 [0, 0, 0, 0] := bs_of_block (bs := [0, 0, 0, 0]) (heap_alloc_new w _) (by simp) (by simp)
  have A1 : Calls Try.prog 64 #[.pointer (some ⟨D, 0, none⟩), .slice (some ⟨w.heap.size, 0, none⟩) 4 4] (w.alloc (.cells #[.int .u8 0, .int .u8 0, .int .u8 0, .int .u8 0] 5)) fun r w' => r = .returned (.tuple #[]) ∧ VwE w w' D vb vo (s.raw [0, 0, 0, 0]) := (vRaw (h.kp K) (some ⟨w.heap.size, 0, none⟩) 4 4 [0, 0, 0, 0] hB).mono fun r w' ⟨e, q⟩ => ⟨e, q.kp K⟩
  have hle : ([0, 0, 0, 0] : List Int) = le 0 4 := by decide
  rw [hle] at A1
  obtain ⟨L, hL⟩ : ∃ L, L = s.data.length := ⟨_, rfl⟩
  rw [ev, ← hL] at c1
  by_cases hg : s.err = 0 ∧ s.data.length + 4 ≤ s.lim
  · obtain ⟨he, hl⟩ := hg
    have e0 : s.raw (le 0 4) = { s with data := s.data ++ le 0 4 } := WS.raw_ok he _ (by rw [le_len]; exact hl)
    have e : s.open = (((s.data.length : Nat) : Int), { s with data := s.data ++ le 0 4, ops := s.ops ++ [s.data.length] }) := by
      unfold WS.open; rw [e0, if_neg (by simp [he])]
    rw [e, ← hL]
    rw [e0] at A1
    clear h K hB e e0 hle c0 c2 c3 cf ev hL
    go_enter Try.func67, Try.ntmps67
    go_wp2_with fail
    go_at_call 64
    refine A1.mono ?_
    rintro e w1 ⟨rfl, vb1, vo1, q1, q2, q3, q4⟩
    obtain ⟨d0, d1, d2, d3, df⟩ := q1.cells
    have d3' : w1.cell? ⟨D, 3, none⟩ = some (.int .i64 0) := by rw [d3]; show some (Value.int .i64 s.err) = _; rw [he]
    obtain ⟨a2, c2, w2, hr, o2, hc2, hl2⟩ := run_appI w1 vo1 s.ops q1.opn L (by omega)
    obtain ⟨r1, r2, r3, r4⟩ := q1.putO o2 hc2 (fun _ e => e)
    obtain ⟨ao, co, eo⟩ := own_sh q1.opn
    have HE : Hid (VwE w (w2.setCell ⟨D, 2, none⟩ (.slice a2 (s.ops.length + 1) c2)) D vb vo { s with data := s.data ++ le 0 4, ops := s.ops ++ [L] }) := by
      refine ⟨vb1, _, r1, Chg.trans q2 r2 (fun b hb e => ?_), q3, ?_⟩
      · rcases e with e | e | e
        · exact .inl e
        · rcases q3 b e with e' | e'
          · exact .inr (.inl e')
          · omega
        · rcases q4 b e with e' | e'
          · exact .inr (.inr e')
          · omega
      · exact q4.trans hl2.lo q2.size
    rw [eo] at d2 r3 hr
    clear A1 q1 q2 q3 q4 o2 hc2 hl2 r1 r2 eo d0 d1 d3 df
    have hLz : ((L : Nat) : Int) = (L : Int) := rfl
    go_wp2_with (at_builtin; refine wpList_append_run _ rfl (.tmp 21) (.tmp 23) 66 66 rfl _ _ (.slice a2 (s.ops.length + 1) c2) w2 rfl rfl hr ?_)
    go_ret
    exact ⟨rfl, HE.out⟩
  · have hne : (s.raw (le 0 4)).err ≠ 0 := by
      by_cases he : s.err = 0
      · rw [WS.raw_full he _ (by rw [le_len]; omega)]; simp
      · rw [WS.raw_bad he]; exact he
    have e : s.open = (0, s.raw (le 0 4)) := by unfold WS.open; rw [if_pos hne]
    rw [e]
    clear h K hB e hle c0 c2 c3 cf ev hL hg
    generalize s.raw (le 0 4) = s1 at *
    have hnz : (s1.err != 0) = true := by simpa using hne
    go_enter Try.func67, Try.ntmps67
    go_wp2_with fail
    go_at_call 64
    refine A1.mono ?_
    rintro e w1 ⟨rfl, vb1, vo1, q1, q2, q3, q4⟩
    have d3 := q1.cells.2.2.2.1
    have HE : Hid (VwE w w1 D vb vo s1) := ⟨vb1, vo1, q1, q2, q3, q4⟩
    clear A1 q1 q2 q3 q4
    go_wp2
    go_ret
    exact ⟨rfl, HE.out⟩
end
end Go.Proofs.Ytfcpkcbiinbmiaa
