import Derived.Test.YtfcpkcbiinbmiaaFa
namespace Go.Proofs.Ytfcpkcbiinbmiaa
open Go.ChangeShapes Go.WideShapes Go.ChangeAt Go.RowKit
set_option linter.unusedVariables false
/-- A list's beginning, in the same row. -/
theorem own_pre {w : World} {g N n cap : Nat} {e : TypeId} {xs : List Value} (h : w.ownsRow 0 e 1 (.slice (some ⟨g, 0, none⟩) N cap) N xs) (hn : n ≤ N) : w.ownsRow 0 e 1 (.slice (some ⟨g, 0, none⟩) n cap) n (xs.take n) := by
  obtain ⟨h1, h2⟩ := h
  refine ⟨by simp [h1]; omega, ?_⟩
  rcases h2 with ⟨e', _⟩ | ⟨g', cap', cur, e', hb, hg, hnc, hcm, hcs, ht⟩
  · cases e'
  · simp only [Value.slice.injEq, Option.some.injEq, Addr.mk.injEq, true_and, and_true] at e'
    obtain ⟨rfl, rfl⟩ := e'
    refine .inr ⟨g, cap, cur, rfl, hb, hg, by omega, hcm, hcs, ?_⟩
    rw [← ht, List.take_take]
    congr 1
    omega
theorem OwnB.pre {w : World} {g N n cap : Nat} {bs : List Int} (h : OwnB w (.slice (some ⟨g, 0, none⟩) N cap) bs) (hN : bs.length = N) (hn : n ≤ N) : OwnB w (.slice (some ⟨g, 0, none⟩) n cap) (bs.take n) := by
  have h1 := h.1
  rw [hN] at h1
  have h2 := own_pre h1 hn
  refine ⟨?_, fun x hx => h.2 x (List.mem_of_mem_take hx)⟩
  rw [List.map_take, List.length_take, hN, Nat.min_eq_left hn]
  exact h2
/-- One more byte behind a list: in its row, or in a new one. -/
theorem app1 (w : World) (v : Value) (bs : List Int) (m : Int) (hown : OwnB w v bs) (hm : 0 ≤ m ∧ m ≤ 255) (hl : bs.length + 1 ≤ 140737488355328) :
    ∃ v' w', (Builtin.append_ #[22, 22] 22 #[v, .slice (some ⟨w.heap.size, 0, none⟩) 1 1]).run Try.prog (w.alloc (.cells #[.int .u8 m] 5)) = .ok v' w' ∧ OwnB w' v' (bs ++ [m]) ∧
    ((∃ g cap, v = .slice (some ⟨g, 0, none⟩) bs.length cap ∧ v' = .slice (some ⟨g, 0, none⟩) (bs.length + 1) cap ∧ Chg w w' (fun k => k = g)) ∨ (Fresh w.heap.size v' ∧ Chg w w' (fun _ => False))) := by
  obtain ⟨i0, hi, hz0, hz1, hz2⟩ := info_parts info5
  have ho := hown.alloc (.cells #[.int .u8 m] 5)
  have hB : Bs (w.alloc (.cells #[.int .u8 m] 5)) (some ⟨w.heap.size, 0, none⟩) 1 [m] := bs_of_block (bs := [m]) (heap_alloc_new w _) (by simp) (by simpa using hm)
  have fin : ∀ (v' : Value) (w' : World), w'.ownsRow 0 5 1 v' (bs.length + 1) (bs.map (Value.int .u8) ++ [.int .u8 m]) → OwnB w' v' (bs ++ [m]) := fun v' w' h => by
    refine ⟨?_, fun x hx => ?_⟩
    · simpa using h
    · rcases List.mem_append.1 hx with h | h
      · exact hown.2 x h
      · simp at h; rw [h]; exact hm
  have hnews : ∀ j u, ([.int .u8 m] : List Value)[j]? = some u → (w.alloc (.cells #[.int .u8 m] 5)).cell? (Addr.add ⟨w.heap.size, 0, none⟩ j) = some u := by
    intro j u hu
    rw [Addr.add_lit, Nat.zero_add, (cells_at (heap_alloc_new w _) _).1]
    simpa using hu
  have h1c : ∀ u ∈ ([.int .u8 m] : List Value), u.oneCell' = true := by simp; rfl
  rcases ho.1.2 with ⟨rfl, h0⟩ | ⟨g, cap, cur, rfl, hbg, hg, hnc, hcm, hcs, htake⟩
  · have hbs : bs = [] := List.eq_nil_of_length_eq_zero h0
    subst hbs
    obtain ⟨v', w', hr, h2, h3, h4⟩ := run_append_own (P := Try.prog) (w.alloc (.cells #[.int .u8 m] 5)) (w.alloc (.cells #[.int .u8 m] 5)).heap.size 22 22 5 i0 (.int .u8 0) 1 1 Try.underlying22 hi hz0 hz1 hz2 rfl (by decide) (.slice none 0 0) 0 [] (World.ownsRow_nil _ _ 5 1) ⟨w.heap.size, 0, none⟩ 1 1 [.int .u8 m] (by simp) hnews h1c (by simp [maxLen]) (by omega) (Nat.le_refl _)
    obtain ⟨k1, k2⟩ := loc_new (v := .slice none 0 0) h2 (fun _ => rfl)
    refine ⟨v', w', hr, fin v' w' (by simpa using k1), .inr ⟨fun k hk => ?_, Chg.grown ((Chg.refl w _).alloc _) h3 (by simp [Value.ownBlock])⟩⟩
    rcases k2 with e | ⟨k', e, hk'⟩
    · rw [e] at hk; cases hk
    · rw [e] at hk; simp at hk hk'; omega
  · by_cases hroom : bs.length + 1 ≤ cap
    · obtain ⟨w', hr, h2, h3⟩ := run_append_fits (P := Try.prog) (w.alloc (.cells #[.int .u8 m] 5)) 0 22 22 5 i0 1 Try.underlying22 hi hz1 g bs.length cap _ ho.1 ⟨w.heap.size, 0, none⟩ 1 1 [.int .u8 m] (by simp) hnews h1c hroom
      exact ⟨_, w', hr, fin _ w' h2, .inl ⟨g, cap, rfl, rfl, Chg.grown ((Chg.refl w _).alloc _) h3 (fun k e => .inl (by simp at e; exact e.symm))⟩⟩
    · have holds := ho.1.cells (g := g) rfl
      obtain ⟨v', w', hr, h2, h3⟩ := run_append_arg_grows (P := Try.prog) (w.alloc (.cells #[.int .u8 m] 5)) 22 22 5 i0 (.int .u8 0) 1 1 Try.underlying22 hi hz0 hz1 hz2 rfl (by decide) ⟨g, 0, none⟩ bs.length cap _ ho.1.1 holds ⟨w.heap.size, 0, none⟩ 1 1 [.int .u8 m] (by simp) hnews (by omega) (by simp [maxLen]; omega) (by omega)
      rcases h2.2 with ⟨_, h0⟩ | ⟨g', cap', cur', rfl, hb', r'⟩
      · omega
      · refine ⟨_, w', hr, fin _ w' ⟨h2.1, .inr ⟨g', cap', cur', rfl, Nat.zero_le _, r'⟩⟩, .inr ⟨fun k hk => ?_, Chg.grown ((Chg.refl w _).alloc _) h3 (by simp)⟩⟩
        simp [Value.ownBlock] at hk
        simp at hb'
        omega
theorem rep_succ (n : Nat) (m : Int) : List.replicate n m ++ [m] = List.replicate (n + 1) m := by
  rw [List.replicate_succ']
set_option maxHeartbeats 1000000 in
set_option maxRecDepth 10000 in
/-- longer. -/
theorem longer_any (w : World) (v : Value) (n : Nat) (m : Int) (hm : 0 ≤ m ∧ m ≤ 255) (hl : n ≤ 140737488350000) (hO : OwnB w v (List.replicate n m)) :
    Calls Try.prog 70 #[v, .int .u8 m] w fun r w' => ∃ v', r = .returned v' ∧ OwnB w' v' (List.replicate (n + 97) m) ∧ OwnB w' v (List.replicate n m) ∧ Chg w w' (fun b => v.ownBlock = some b) ∧ (v'.ownBlock = v.ownBlock ∨ Fresh w.heap.size v') := by
  have H : Hid (OwnB w v (List.replicate n m)) := hO
  clear hO
  have HM : Hid (0 ≤ m ∧ m ≤ 255) := hm
  clear hm
  go_enter Try.func70, Try.ntmps70
  go_wp2_with fail
  go_loopw [0, 5] (fun x0 i wr => ∃ (k : Nat) (x : Value), x = x0 ∧ k ≤ 97 ∧ i = .int .i64 k ∧ OwnB wr x (List.replicate (n + k) m) ∧ Chg w wr (fun b => v.ownBlock = some b) ∧ ((k = 0 ∧ x = v) ∨ (∃ g cap, v = .slice (some ⟨g, 0, none⟩) n cap ∧ x = .slice (some ⟨g, 0, none⟩) (n + k) cap) ∨ (Fresh w.heap.size x ∧ OwnB wr v (List.replicate n m)))) (fun x i _ => 97 - (intOf i).toNat)
  case atStart => exact ⟨0, _, rfl, by omega, rfl, H.out, Chg.refl _ _, .inl ⟨rfl, rfl⟩⟩
  case round =>
    obtain ⟨k, x, rfl, hk, rfl, ho, hC, hd⟩ := hrel
    by_cases hlt : k < 97
    · have hltz : (k : Int) < 97 := by omega
      obtain ⟨v', w', hr, o2, hcase⟩ := app1 wr x (List.replicate (n + k) m) m ho HM.out (by simp; omega)
      rw [rep_succ, Nat.add_assoc] at o2
      have KK : Hid (OwnB w' v' (List.replicate (n + (k + 1)) m) ∧ Chg w w' (fun b => v.ownBlock = some b) ∧ ((k + 1 = 0 ∧ v' = v) ∨ (∃ g cap, v = .slice (some ⟨g, 0, none⟩) n cap ∧ v' = .slice (some ⟨g, 0, none⟩) (n + (k + 1)) cap) ∨ (Fresh w.heap.size v' ∧ OwnB w' v (List.replicate n m)))) := by
        refine ⟨o2, ?_⟩
        have hlen : (List.replicate (n + k) m).length = n + k := by simp
        rw [hlen] at hcase
        have hv : OwnB wr v (List.replicate n m) := by
          rcases hd with ⟨rfl, rfl⟩ | ⟨g, cap, rfl, rfl⟩ | ⟨_, h⟩
          · simpa using ho
          · have := ho.pre (n := n) (by simp) (by omega)
            simpa [List.take_replicate] using this
          · exact h
        have hvb : ∀ b, v.ownBlock = some b → b < w.heap.size := fun b hb => own_lt H.out.1 hb
        rcases hcase with ⟨g, cap, rfl, rfl, hc⟩ | ⟨hf, hc⟩
        · rcases hd with ⟨rfl, rfl⟩ | ⟨g', cap', rfl, e⟩ | ⟨hf, h⟩
          · refine ⟨hC.trans hc (fun b _ e => by rw [e]; rfl), .inr (.inl ⟨g, cap, rfl, rfl⟩)⟩
          · simp only [Value.slice.injEq, Option.some.injEq, Addr.mk.injEq, true_and, and_true] at e
            obtain ⟨rfl, rfl⟩ := e
            exact ⟨hC.trans hc (fun b _ e => by rw [e]; rfl), .inr (.inl ⟨g, cap, rfl, by rw [Nat.add_assoc]⟩)⟩
          · have hg := hf g rfl
            exact ⟨hC.trans hc (fun b hb e => by omega), .inr (.inr ⟨fun b hb => by cases hb; exact hg, h.chg hc (fun b hb e => by have := hvb b hb; omega)⟩)⟩
        · exact ⟨hC.trans hc (fun _ _ x => x.elim), .inr (.inr ⟨fun b hb => Nat.le_trans hC.size (hf b hb), hv.chg hc (by simp)⟩)⟩
      clear o2 hcase hd ho hC
      go_wp2_with (at_builtin; refine wpList_append_run _ rfl (.tmp 10) (.tmp 12) 22 22 rfl _ _ v' w' rfl rfl hr ?_)
      go_roundw
      case rel => exact ⟨k + 1, _, rfl, by omega, by go_num, KK.out⟩
      case measure => simp [intOf]; omega
    · have hk97 : k = 97 := by omega
      subst hk97
      have KK : Hid (OwnB wr x (List.replicate (n + 97) m) ∧ OwnB wr v (List.replicate n m) ∧ Chg w wr (fun b => v.ownBlock = some b) ∧ (x.ownBlock = v.ownBlock ∨ Fresh w.heap.size x)) := by
        refine ⟨ho, ?_, hC, ?_⟩
        · rcases hd with ⟨h, rfl⟩ | ⟨g, cap, rfl, rfl⟩ | ⟨_, h⟩
          · omega
          · have := ho.pre (n := n) (by simp) (by omega)
            simpa [List.take_replicate] using this
          · exact h
        · rcases hd with ⟨h, rfl⟩ | ⟨g, cap, rfl, rfl⟩ | ⟨h, _⟩
          · omega
          · exact .inl rfl
          · exact .inr h
      clear hd ho hC
      go_wp2
      go_ret
      exact ⟨x, rfl, KK.out⟩
end Go.Proofs.Ytfcpkcbiinbmiaa
