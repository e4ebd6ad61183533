import Derived.Test.YtibpbemenjgncaaEe
namespace Go.Proofs.Ytibpbemenjgncaa
open Go.ChangeShapes Go.WideShapes Go.ChangeAt Go.RowKit
set_option linter.unusedVariables false
theorem own_pre {w : World} {e g n cap : Nat} {u : Value} {ys xs : List Value} (h : w.ownsRow 0 e 1 (.slice (some ⟨g, 0, none⟩) ys.length cap) ys.length ys) (hx : ys.take n = xs) (hn : xs.length = n) : w.ownsRow 0 e 1 (.slice (some ⟨g, 0, none⟩) n cap) n xs := by
  rcases h.2 with ⟨h1, h2⟩ | ⟨g', cap', cur, h1, h2, h3, h4, h5, h6, h7⟩
  · cases h1
  · obtain ⟨rfl, rfl⟩ : g = g' ∧ cap = cap' := by simpa using h1
    have hle : n ≤ ys.length := by rw [← hn, ← hx]; simp; omega
    refine ⟨by rw [hn]; omega, .inr ⟨g, cap, cur, rfl, Nat.zero_le _, h3, by omega, h5, h6, ?_⟩⟩
    rw [← hx, ← h7, List.take_take]
    congr 1
    omega
theorem OB.pre {w : World} {g n cap : Nat} {zs xs : List Int} (h : OB w (.slice (some ⟨g, 0, none⟩) zs.length cap) zs) (hx : zs.take n = xs) (hn : xs.length = n) : OB w (.slice (some ⟨g, 0, none⟩) n cap) xs := by
  unfold OB
  rw [hn]
  refine own_pre (u := .slice none 0 0) (ys := zs.map fun i => .int .u8 i) (by rw [List.length_map]; exact h) ?_ (by simpa using hn)
  rw [← hx, List.map_take]
/-- append: the same row, or a new one and nothing old is written. -/
theorem run_appP (w : World) (v : Value) (xs : List Int) (hown : OB w v xs) (y : Value) (ys : List Int) (hs : Bs w y ys) (hb : xs.length + ys.length ≤ 140737488355328) (hy : 0 < ys.length) (ty : TypeId) :
    ∃ v' w', (Builtin.append_ #[26, 26] ty #[v, y]).run Try.prog w = .ok v' w' ∧ OB w' v' (xs ++ ys) ∧ ((∃ g cap, v = .slice (some ⟨g, 0, none⟩) xs.length cap ∧ v' = .slice (some ⟨g, 0, none⟩) (xs ++ ys).length cap ∧ Chg w w' (fun k => k = g)) ∨ (Nw w v' ∧ Kp w w')) := by
  obtain ⟨i0, hi, hz, hsz, hby⟩ := info5p
  obtain ⟨a, c, rfl, hx⟩ := hs.ex
  have hnews : ∃ ad : Addr, a = some ad ∧ ∀ j u, (ys.map fun i => Value.int .u8 i)[j]? = some u → w.cell? (ad.add j) = some u := by
    rcases hx with e | ⟨b, o, ha, hc⟩
    · rw [e] at hy; simp at hy
    · refine ⟨⟨b, o, none⟩, ha, fun j u hu => ?_⟩
      have hj : j < ys.length := by have := (List.getElem?_eq_some_iff.1 hu).1; simpa using this
      rw [Addr.add_lit, hc j hj]
      simpa [hj] using hu
  obtain ⟨ad, rfl, hnw⟩ := hnews
  have h1c : ∀ u ∈ (ys.map fun i => Value.int .u8 i), u.oneCell' = true := by intro u hu; simp at hu; obtain ⟨x, _, rfl⟩ := hu; rfl
  rcases hown.2 with ⟨rfl, h0⟩ | ⟨g, cap, cur, rfl, hbg, hg, hnc, hcm, hcs, htake⟩
  · have hx0 : xs = [] := List.eq_nil_of_length_eq_zero h0
    subst hx0
    obtain ⟨v', w', hr, ho, hk, hn⟩ := run_app0 w (.slice (some ad) ys.length c) ys hs ty
    exact ⟨v', w', hr, by simpa using ho, .inr ⟨hn, hk⟩⟩
  · by_cases hroom : xs.length + ys.length ≤ cap
    · obtain ⟨w', hr, h2, h3⟩ := run_append_fits (P := Try.prog) w 0 26 ty 5 i0 1 Try.underlying26 hi hsz g xs.length cap _ hown ad ys.length c (ys.map fun i => .int .u8 i) (by simp) hnw h1c hroom
      refine ⟨_, w', hr, ?_, .inl ⟨g, cap, rfl, by rw [List.length_append], ⟨h3.os, h3.tape, h3.output, h3.size, fun k hk hn => h3.block k hk (fun e => hn (by simp at e; exact e))⟩⟩⟩
      unfold OB
      rw [List.map_append, List.length_append]
      exact h2
    · have holds := hown.cells (g := g) rfl
      obtain ⟨v', w', hr, h2, h3⟩ := run_append_arg_grows (P := Try.prog) w 26 ty 5 i0 (.int .u8 0) 1 1 Try.underlying26 hi hz hsz hby rfl (by omega) ⟨g, 0, none⟩ xs.length cap _ hown.1 holds ad ys.length c (ys.map fun i => .int .u8 i) (by simp) hnw (by omega) (by simp [maxLen]; omega) (by omega)
      refine ⟨v', w', hr, ?_, .inr ⟨fun k hk => ?_, ⟨h3.os, h3.tape, h3.output, h3.size, fun k hk _ => h3.block k hk (by simp)⟩⟩⟩
      · unfold OB
        rw [List.map_append, List.length_append]
        rcases h2.2 with ⟨h4, h5⟩ | ⟨g', cap', cur', h4, hb', r'⟩
        · omega
        · exact ⟨h2.1, .inr ⟨g', cap', cur', h4, Nat.zero_le _, r'⟩⟩
      · rcases h2.2 with ⟨h4, h5⟩ | ⟨g', cap', cur', h4, hb', r'⟩
        · omega
        · rw [h4] at hk; simp [Value.ownBlock] at hk; omega
theorem bs1 (w : World) (m : Int) : Bs (w.alloc (.cells #[.int .u8 m] 5)) (.slice (some ⟨w.heap.size, 0, none⟩) 1 1) [m] := by
  refine ⟨⟨_, 1, rfl, .inr ⟨_, 0, rfl, fun j hj => ?_⟩⟩, by simp⟩
  rw [Nat.zero_add, (cells_at (heap_alloc_new w _) j).1]
  have : j = 0 := by simp at hj; omega
  subst this
  rfl
/-- 'append(v, m)': v still reads as it did. -/
theorem app1 (w : World) (v : Value) (xs : List Int) (h : OB w v xs) (m : Int) (hl : xs.length < 1000000) :
    ∃ v' w', (Builtin.append_ #[26, 26] 26 #[v, .slice (some ⟨w.heap.size, 0, none⟩) 1 1]).run Try.prog (w.alloc (.cells #[.int .u8 m] 5)) = .ok v' w' ∧ OB w' v' (xs ++ [m]) ∧ ((∃ g cap, v = .slice (some ⟨g, 0, none⟩) xs.length cap ∧ v' = .slice (some ⟨g, 0, none⟩) (xs.length + 1) cap ∧ Chg w w' (fun k => k = g)) ∨ (Nw w v' ∧ Kp w w')) := by
  have kA := Kp.al w (.cells #[.int .u8 m] 5)
  obtain ⟨v', w', hr, ho, hc⟩ := run_appP _ v xs (Chg.owns kA h (fun _ _ h => h)) _ [m] (bs1 w m) (by simp; omega) (by simp) 26
  refine ⟨v', w', hr, ho, ?_⟩
  rcases hc with ⟨g, cap, h1, h2, h3⟩ | ⟨h1, h2⟩
  · exact .inl ⟨g, cap, h1, by simpa using h2, Chg.trans kA.any h3 (fun _ _ h => h)⟩
  · exact .inr ⟨fun k hk => by have := h1 k hk; simp at this; omega, kA.trans h2⟩
set_option maxHeartbeats 1000000 in
theorem longer_any (w : World) (v : Value) (xs : List Int) (h : OB w v xs) (m : Int) (hl : xs.length ≤ 1000) :
    Calls Try.prog 41 #[v, .int .u8 m] w fun e w' => ∃ v', e = .returned v' ∧ OB w' v' (xs ++ List.replicate 64 m) ∧ OB w' v xs ∧ Chg w w' (fun k => v.ownBlock = some k) ∧ (v'.ownBlock = v.ownBlock ∨ Nw w v') := by
  have HH : Hid (OB w v xs) := h
  clear h
  go_enter Try.func41, Try.ntmps41
  go_wp2_with fail
  go_loopw [0, 5] (fun s0 s5 wr => ∃ j : Nat, s5 = .int .i64 j ∧ j ≤ 64 ∧ Hid (OB wr s0 (xs ++ List.replicate j m) ∧ OB wr v xs ∧ Chg w wr (fun k => v.ownBlock = some k) ∧ (s0.ownBlock = v.ownBlock ∨ Nw w s0))) (fun _ s5 _ => 64 - nI s5)
  case atStart => exact ⟨0, rfl, by omega, by simpa using HH.out, HH.out, Chg.refl _ _, .inl rfl⟩
  case round =>
    obtain ⟨j, rfl, hj, HI⟩ := hrel
    generalize u0 = u at *
    by_cases hlt : j < 64
    · have hjz : (j : Int) < 64 := by omega
      obtain ⟨h1, h2, h3, h4⟩ := HI.out
      obtain ⟨v', w', hr, ho, hc⟩ := app1 wr u _ h1 m (by simp; omega)
      obtain ⟨ua, uc, hu⟩ := h1.shape
      have HN : Hid (OB w' v' (xs ++ List.replicate (j + 1) m) ∧ OB w' v xs ∧ Chg w w' (fun k => v.ownBlock = some k) ∧ (v'.ownBlock = v.ownBlock ∨ Nw w v')) := by
        have e1 : xs ++ List.replicate j m ++ [m] = xs ++ List.replicate (j + 1) m := by rw [List.append_assoc, List.replicate_succ']
        rw [e1] at ho
        rcases hc with ⟨g, cap, c1, c2, c3⟩ | ⟨c1, c2⟩
        · have hob : v'.ownBlock = u.ownBlock := by rw [c1, c2]; rfl
          have hgu : u.ownBlock = some g := by rw [c1]; rfl
          rcases h4 with h5 | h5
          · -- the row of v itself
            have hvg : v.ownBlock = some g := by rw [← h5, hgu]
            refine ⟨ho, ?_, Chg.trans h3 c3 (fun i hi e => by rw [hvg, e]), .inl (by rw [hob, h5])⟩
            rcases h2.2 with ⟨e, _⟩ | ⟨g2, cap2, cur2, e, _, hg2, _, _, hcs2, _⟩
            · rw [e] at hvg; simp [Value.ownBlock] at hvg
            · have hgg : g2 = g := by rw [e] at hvg; simpa [Value.ownBlock] using hvg
              subst hgg
              have hcap : cap2 = cap := by
                rcases h1.2 with ⟨e3, _⟩ | ⟨g3, cap3, cur3, e3, _, hg3, _, _, hcs3, _⟩
                · rw [c1] at e3; cases e3
                · rw [c1] at e3
                  obtain ⟨rfl, rfl⟩ : g2 = g3 ∧ cap = cap3 := by simpa using e3
                  rw [hg2] at hg3
                  simp at hg3
                  rw [hg3] at hcs2
                  omega
              subst hcap
              rw [e]
              have ho' : OB w' (.slice (some ⟨g2, 0, none⟩) (xs ++ List.replicate (j + 1) m).length cap2) (xs ++ List.replicate (j + 1) m) := by
                have e6 : v' = .slice (some ⟨g2, 0, none⟩) (xs ++ List.replicate (j + 1) m).length cap2 := by rw [c2]; congr 1; simp +arith
                rw [← e6]; exact ho
              exact ho'.pre (by simp) rfl
          · have hgn : w.heap.size ≤ g := h5 g hgu
            refine ⟨ho, c3.owns h2 (fun k hk e => ?_), Chg.trans h3 c3 (fun i hi e => by omega), .inr (fun k hk => h5 k (by rw [← hob]; exact hk))⟩
            subst e
            -- v's row is old, g is new
            have := OB.lt HH.out hk
            omega
        · exact ⟨ho, Chg.owns c2 h2 (fun _ _ h => h), Chg.trans h3 c2.any (fun _ _ h => h), .inr (fun k hk => by have := c1 k hk; have := h3.size; omega)⟩
      subst hu
      obtain ⟨a', c', e'⟩ := ho.shape
      have el : (xs ++ List.replicate j m ++ [m]).length = xs.length + (j + 1) := by simp +arith
      rw [el] at e'
      subst e'
      clear h1 h2 h3 h4 ho hc HI el
      go_wp2_with (first | (at_builtin; refine wpList_append_run _ rfl _ _ 26 26 rfl _ _ _ w' rfl rfl hr ?_) | fail)
      exact ⟨⟨j + 1, by go_num, by omega, HN⟩, by simp [nI]; omega⟩
    · have hjz : ¬ (j : Int) < 64 := by omega
      obtain rfl : j = 64 := by omega
      go_wp2_with fail
      go_ret
      exact ⟨_, rfl, HI.out.1, HI.out.2.1, HI.out.2.2.1, HI.out.2.2.2⟩
end Go.Proofs.Ytibpbemenjgncaa
