import Derived.Test.YtkggkkoblpdopaaGreatHa
namespace Go.Proofs.YtkggkkoblpdopaaGreat
open Go.ChangeShapes Go.WideShapes Go.ChangeAt Go.RowKit Go.ChangeMaps
set_option linter.unusedVariables false
/-- 'make([]byte, n)'. -/
theorem make22 (n : Nat) (hn : n ≤ 140737488355328) (w : World) : (Instr.makeSlice 22 (.int .i64 n) (.int .i64 n)).run Tryz.prog w = .ok (.slice (some ⟨w.heap.size, 0, none⟩) n n) (w.alloc (.cells (List.replicate n (.int .u8 0)).toArray 5)) := by
  obtain ⟨i0, hi, hz0, hz1, hz2⟩ := info_parts info5
  have := run_make (P := Tryz.prog) w 22 5 i0 (.int .u8 0) Tryz.underlying22 hi hz0 .i64 .i64 n n (by omega) (by omega) (by rw [hz2]; omega) (by omega)
  have e : madeCells (Value.int .u8 0).cells ((n : Int).toNat * i0.size) = (List.replicate n (.int .u8 0)).toArray := by
    rw [hz1, Int.toNat_natCast, Nat.mul_one]
    apply Array.ext_getElem?
    intro j
    by_cases hj : j < n
    · simp [madeCells, Value.cells, hj, Nat.mod_one]
    · simp [madeCells, hj]
  rw [this, e, Int.toNat_natCast]
section
variable {w w' : World} {B M n : Nat} {v v' : Value} {s s' : WS}
theorem OM.kp {f : Int → Bool} {c : Nat} (h : OM w M n f c) (hk : Kp w w') : OM w' M n f c := h.chg hk (fun x => x)
theorem PW.other {S : Nat → Prop} (h : PW w B M v n s) (hc : Chg w w' S) (hS : ∀ k, Wf B M v k → ¬ S k) : PW w' B M v n s := by
  obtain ⟨mo, hW⟩ := h.is
  exact ⟨⟨mo, hW.other hc hS⟩, h.om.chg hc (hS M (.inr (.inl rfl))), h.ok⟩
theorem PW.kp (h : PW w B M v n s) (hk : Kp w w') : PW w' B M v n s := h.other hk (fun _ _ x => x)
theorem PwE.kp {w1 : World} (k : Kp w w1) (h : PwE w1 w' B M v n s) (hv : ∀ b, v.ownBlock = some b → b < w.heap.size) : PwE w w' B M v n s := by
  obtain ⟨v', n', h1, h2, h3, h4⟩ := h
  refine ⟨v', n', h1, Chg.trans k.any h2 (fun _ _ e => e), ?_, h4⟩
  rcases h3 with e | ⟨j, e, hj⟩
  · exact .inl e
  · exact .inr ⟨j, e, Nat.le_trans k.size hj⟩
theorem PW.vlt (h : PW w B M v n s) : ∀ b, v.ownBlock = some b → b < w.heap.size := by
  obtain ⟨mo, hW⟩ := h.is
  exact fun b hb => own_lt hW.own.1 hb
theorem PW.Blt (h : PW w B M v n s) : B < w.heap.size := by
  obtain ⟨mo, hW⟩ := h.is
  exact hp_lt hW.box
set_option maxRecDepth 10000 in
theorem pPad (h : PW w B M v n s) (t : Int) : Calls Tryz.prog 238 #[.pointer (some ⟨B, 0, none⟩), .int .i64 t] w fun r w' => r = .returned (.tuple #[]) ∧ PwE w w' B M v n (s.pad t) := by
  obtain ⟨mo, hW⟩ := h.is
  have hlim := hW.lim_le
  have hlen := hW.len_le
  by_cases ht : 1 ≤ t ∧ t ≤ 4096
  · obtain ⟨m, rfl⟩ : ∃ m : Nat, t = m := ⟨t.toNat, by omega⟩
    have e : s.pad (m : Int) = s.raw (List.replicate (padN s.data.length m) 0) := by
      unfold WS.pad
      by_cases he : s.err = 0
      · rw [if_neg (by simp [he]), if_pos ht, Int.toNat_natCast]
      · rw [if_pos he, WS.raw_bad he]
    rw [e]
    obtain ⟨a1, c1, ev, _⟩ := hW.own.shape (by omega)
    have c1' := hW.cells.2.1
    have A0 := padding_any w s.data.length m (by omega) (by omega) (by omega)
    have hp := padN_lt s.data.length m (by omega)
    obtain ⟨N, hN⟩ : ∃ N, N = padN s.data.length m := ⟨_, rfl⟩
    rw [← hN] at A0 hp ⊢
    have hmk := make22 N (by omega)
    have K : Kp w (w.alloc (.cells (List.replicate N (.int .u8 0)).toArray 5)) := Kp.al _ _
    have hB : Bs (w.alloc (.cells (List.replicate N (.int .u8 0)).toArray 5)) (some ⟨w.heap.size, 0, none⟩) N (List.replicate N 0) := by
      have hrow : (w.alloc (.cells (List.replicate N (.int .u8 0)).toArray 5)).heap[w.heap.size]? = some (.cells ((List.replicate N (0 : Int)).map (Value.int .u8)).toArray 5 (0, 0)) := by rw [List.map_replicate]; exact heap_alloc_new w _
      have := bs_of_block (bs := List.replicate N 0) hrow (by simp; omega) (by simp)
      simpa using this
    have A1 := pRaw (h.kp K) (some ⟨w.heap.size, 0, none⟩) N N (List.replicate N 0) hB
    have hv := h.vlt
    have HF : Hid (∀ w', PwE (w.alloc (.cells (List.replicate N (.int .u8 0)).toArray 5)) w' B M v n (s.raw (List.replicate N 0)) → PwE w w' B M v n (s.raw (List.replicate N 0))) := fun w' h1 => h1.kp K hv
    have hmz : decide (1 ≤ (m : Int) ∧ (m : Int) ≤ 4096) = true := by simpa using ht
    have hmp := mayPad_any w m
    rw [hmz] at hmp
    clear hmz
    rw [ev] at c1'
    clear h hW hB K hv e ev hN
    go_enter Tryz.func238, Tryz.ntmps238
    go_wp2_with (first | (go_at_call 241; refine hmp.mono ?_; rintro e wq ⟨rfl, hw⟩; rw [hw]; clear hw wq) | (go_at_call 242; refine A0.mono ?_; rintro e wq ⟨rfl, hw⟩; rw [hw]; clear hw wq))
    go_at_call 22
    refine A1.mono ?_
    rintro e w1 ⟨rfl, hE⟩
    have HE : Hid (PwE w w1 B M v n (s.raw (List.replicate N 0))) := HF.out w1 hE
    clear A1 A0 hE HF
    go_wp2
    go_end0
    exact ⟨rfl, HE.out⟩
  · have hmz : decide (1 ≤ t ∧ t ≤ 4096) = false := by simpa using ht
    have hmp := mayPad_any w t
    rw [hmz] at hmp
    have c3 := hW.cells.2.2.2.1
    have f3 := hW.cells.2.2.2.2 3
    by_cases he : s.err = 0
    · have e : s.pad t = { s with err := 10 } := by unfold WS.pad; rw [if_neg (by simp [he]), if_neg ht]
      rw [e]
      have HE : Hid (PwE w (w.setCell ⟨B, 3, none⟩ (.int .i64 10)) B M v n { s with err := 10 }) := h.err hW (hW.setErr 10) (Chg.setCell (S := fun k => k = B) (Chg.refl w _) (.inl rfl) _)
      rw [he] at c3
      clear h hW e hmz
      go_enter Tryz.func238, Tryz.ntmps238
      go_wp2_with (first | (go_at_call 241; refine hmp.mono ?_; rintro e wq ⟨rfl, hw⟩; rw [hw]; clear hw wq) | (go_at_call 68; refine (fail_yes _ _ _ c3 f3).mono ?_; rintro e wq ⟨rfl, hw⟩; rw [hw]; clear hw wq))
      refine bodyPost_ret (results_none rfl _ _ _) rfl ?_
      exact ⟨rfl, HE.out⟩
    · have e : s.pad t = s := by unfold WS.pad; rw [if_pos he]
      rw [e]
      have he' : (s.err == 0) = false := by simpa using he
      have HE : Hid (PwE w w B M v n s) := h.stay hW hW (Kp.refl w)
      clear h hW e hmz
      go_enter Tryz.func238, Tryz.ntmps238
      go_wp2_with (first | (go_at_call 241; refine hmp.mono ?_; rintro e wq ⟨rfl, hw⟩; rw [hw]; clear hw wq) | (go_at_call 68; refine (fail_no _ _ _ _ c3 he').mono ?_; rintro e wq ⟨rfl, hw⟩; rw [hw]; clear hw wq))
      refine bodyPost_ret (results_none rfl _ _ _) rfl ?_
      exact ⟨rfl, HE.out⟩
theorem has_new (s : WS) (h : s.ok) : s.has (s.data.length : Int) = false := by
  unfold WS.has
  rw [List.any_eq_false]
  intro p hp
  have := h.le p hp
  simp; omega
set_option maxRecDepth 10000 in
theorem pOpen (h : PW w B M v n s) (hn : n ≤ 1000000) : Calls Tryz.prog 23 #[.pointer (some ⟨B, 0, none⟩)] w fun r w' => r = .returned (.int .i64 s.open.1) ∧ PwE w w' B M v n s.open.2 := by
  obtain ⟨mo, hW⟩ := h.is
  have hlim := hW.lim_le
  have hlen := hW.len_le
  by_cases hg : s.err = 0 ∧ s.data.length + 4 ≤ s.lim
  · obtain ⟨he, hl⟩ := hg
    have e0 : s.raw (le 0 4) = { s with data := s.data ++ le 0 4 } := WS.raw_ok he _ (by rw [le_len]; exact hl)
    have e : s.open = (((s.data.length : Nat) : Int), { s with data := s.data ++ le 0 4, ops := s.ops ++ [s.data.length] }) := by
      unfold WS.open; rw [e0, if_neg (by simp [he])]
    rw [e]
    refine (open_ok w B M v n s.has s.ops.length s.lim s.data ⟨⟨mo, by rw [← he]; exact hW⟩, h.om⟩ hl (has_new s h.ok) hn).mono ?_
    rintro r w' ⟨rfl, v', ⟨⟨mo', hW'⟩, hO'⟩, hc, hL⟩
    refine ⟨rfl, v', n + 1, ⟨⟨mo', by show IsW w' B M v' mo' s.lim (s.data ++ le 0 4) s.err; rw [he]; exact hW'⟩, ?_, ?_⟩, hc, hL, Nat.le_refl _⟩
    · have e1 : WS.has { s with data := s.data ++ le 0 4, ops := s.ops ++ [s.data.length] } = put1 s.has s.data.length := by
        funext i
        simp only [WS.has, put1, List.any_append, List.any_cons, List.any_nil, Bool.or_false]
        by_cases hi : i = (s.data.length : Int)
        · simp [hi]
        · rw [if_neg hi]
          have : decide ((s.data.length : Int) = i) = false := by simp; omega
          rw [this, Bool.or_false]
      rw [e1]
      simpa using hO'
    · refine ⟨?_, fun p hp => ?_⟩
      · rw [List.nodup_append]
        refine ⟨h.ok.nd, by simp, fun a ha b hb e => ?_⟩
        simp at hb
        have := h.ok.le a ha
        omega
      · rcases List.mem_append.1 hp with h' | h'
        · have := h.ok.le p h'; simp [le_len]; omega
        · simp at h'; simp [le_len, h']
  · have hne : (s.raw (le 0 4)).err ≠ 0 := by
      by_cases he : s.err = 0
      · rw [WS.raw_full he _ (by rw [le_len]; omega)]; simp
      · rw [WS.raw_bad he]; exact he
    have e : s.open = (0, s.raw (le 0 4)) := by unfold WS.open; rw [if_pos hne]
    rw [e]
    have A1 := pm32 h 0 (by omega)
    rw [show (((0 : Nat) : Int)) = 0 from rfl] at A1
    obtain ⟨a1, c1, ev, _⟩ := hW.own.shape (by omega)
    have c1' := hW.cells.2.1
    rw [ev] at c1'
    clear h hW ev e
    have he' : ((s.raw (le 0 4)).err == 0) = false := by simpa using hne
    generalize s.raw (le 0 4) = s1 at *
    go_enter Tryz.func23, Tryz.ntmps23
    go_wp2_with fail
    go_at_call 27
    refine A1.mono ?_
    rintro e w1 ⟨rfl, v', n', q1, q2, q3, q4⟩
    obtain ⟨mo', hW'⟩ := q1.is
    have d3 := hW'.cells.2.2.2.1
    have HE : Hid (PwE w w1 B M v n s1) := ⟨v', n', q1, q2, q3, q4⟩
    clear A1 hW' q1 q2 q3 q4 c1'
    have hb : (s1.err != 0) = true := by simpa using hne
    go_wp2
    go_ret
    exact ⟨rfl, HE.out⟩
end
end Go.Proofs.YtkggkkoblpdopaaGreat
