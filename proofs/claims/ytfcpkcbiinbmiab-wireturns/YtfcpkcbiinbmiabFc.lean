import Derived.Test.YtfcpkcbiinbmiabFa
namespace Go.Proofs.Ytfcpkcbiinbmiab
open Go.ChangeShapes Go.WideShapes Go.ChangeAt Go.RowKit
set_option linter.unusedVariables false
/-- A list's beginning, in the same row. -/
theorem own_pre {w : World} {g N n cap : Nat} {e : TypeId} {xs : List Value} (h : w.ownsRow 0 e 1 (.slice (some ⟨g, 0, none⟩) N cap) N xs) (hn : n ≤ N) : w.ownsRow 0 e 1 (.slice (some ⟨g, 0, none⟩) n cap) n (xs.take n) := by
  obtain ⟨h1, h2⟩ := h
  refine ⟨by simp [h1]; omega, ?_⟩
  rcases h2 with ⟨e', _⟩ | ⟨g', cap', cur, e', hb, hg, hnc, hcm, hcs, ht⟩
  · cases e'
  · simp only [Value.slice.injEq, Option.some.injEq, Addr.mk.injEq, true_and, and_true] at e'
    obtain ⟨rfl, rfl⟩ := e'
    refine .inr ⟨g, cap, cur, rfl, hb, hg, by omega, hcm, hcs, ?_⟩
    rw [← ht, List.take_take]
    congr 1
    omega
theorem OwnB.pre {w : World} {g N n cap : Nat} {bs : List Int} (h : OwnB w (.slice (some ⟨g, 0, none⟩) N cap) bs) (hN : bs.length = N) (hn : n ≤ N) : OwnB w (.slice (some ⟨g, 0, none⟩) n cap) (bs.take n) := by
  have h1 := h.1
  rw [hN] at h1
  have h2 := own_pre h1 hn
  refine ⟨?_, fun x hx => h.2 x (List.mem_of_mem_take hx)⟩
  rw [List.map_take, List.length_take, hN, Nat.min_eq_left hn]
  exact h2
/-- One more byte behind a list: in its row, or in a new one. -/
theorem app1 (w : World) (v : Value) (bs : List Int) (m : Int) (hown : OwnB w v bs) (hm : 0 ≤ m ∧ m ≤ 255) (hl : bs.length + 1 ≤ 140737488355328) :
    ∃ v' w', (Builtin.append_ #[22, 22] 22 #[v, .slice (some ⟨w.heap.size, 0, none⟩) 1 1]).run Try.prog (w.alloc (.cells #[.int .u8 m] 5)) = .ok v' w' ∧ OwnB w' v' (bs ++ [m]) ∧
    ((∃ g cap, v = .slice (some ⟨g, 0, none⟩) bs.length cap ∧ v' = .slice (some ⟨g, 0, none⟩) (bs.length + 1) cap ∧ Chg w w' (fun k => k = g)) ∨ (Fresh w.heap.size v' ∧ Chg w w' (fun _ => False))) := by
  obtain ⟨i0, hi, hz0, hz1, hz2⟩ := info_parts info5
  have ho := hown.alloc (.cells #[.int .u8 m] 5)
  have hB : Bs (w.alloc (.cells #[.int .u8 m] 5)) (some ⟨w.heap.size, 0, none⟩) 1 [m] := bs_of_block (bs := [m]) (heap_alloc_new w _) (by simp) (by simpa using hm)
  have fin : ∀ (v' : Value) (w' : World), w'.ownsRow 0 5 1 v' (bs.length + 1) (bs.map (Value.int .u8) ++ [.int .u8 m]) → OwnB w' v' (bs ++ [m]) := fun v' w' h => by
    refine ⟨?_, fun x hx => ?_⟩
    · simpa using h
    · rcases List.mem_append.1 hx with h | h
      · exact hown.2 x h
      · simp at h; rw [h]; exact hm
  have hnews : ∀ j u, ([.int .u8 m] : List Value)[j]? = some u → (w.alloc (.cells #[.int .u8 m] 5)).cell? (Addr.add ⟨w.heap.size, 0, none⟩ j) = some u := by
    intro j u hu
    rw [Addr.add_lit, Nat.zero_add, (cells_at (heap_alloc_new w _) _).1]
    simpa using hu
  have h1c : ∀ u ∈ ([.int .u8 m] : List Value), u.oneCell' = true := by simp; rfl
  rcases ho.1.2 with ⟨rfl, h0⟩ | ⟨g, cap, cur, rfl, hbg, hg, hnc, hcm, hcs, htake⟩
  · have hbs : bs = [] := List.eq_nil_of_length_eq_zero h0
    subst hbs
    obtain ⟨v', w', hr, h2, h3, h4⟩ := run_append_own (P := Try.prog) (w.alloc (.cells #[.int .u8 m] 5)) (w.alloc (.cells #[.int .u8 m] 5)).heap.size 22 22 5 i0 (.int .u8 0) 1 1 Try.underlying22 hi hz0 hz1 hz2 rfl (by decide) (.slice none 0 0) 0 [] (World.ownsRow_nil _ _ 5 1) ⟨w.heap.size, 0, none⟩ 1 1 [.int .u8 m] (by simp) hnews h1c (by simp [maxLen]) (by omega) (Nat.le_refl _)
    obtain ⟨k1, k2⟩ := loc_new (v := .slice none 0 0) h2 (fun _ => rfl)
    refine ⟨v', w', hr, fin v' w' (by simpa using k1), .inr ⟨fun k hk => ?_, Chg.grown ((Chg.refl w _).alloc _) h3 (by simp [Value.ownBlock])⟩⟩
    rcases k2 with e | ⟨k', e, hk'⟩
    · rw [e] at hk; cases hk
    · rw [e] at hk; simp at hk hk'; omega
  · by_cases hroom : bs.length + 1 ≤ cap
    · obtain ⟨w', hr, h2, h3⟩ := run_append_fits (P := Try.prog) (w.alloc (.cells #[.int .u8 m] 5)) 0 22 22 5 i0 1 Try.underlying22 hi hz1 g bs.length cap _ ho.1 ⟨w.heap.size, 0, none⟩ 1 1 [.int .u8 m] (by simp) hnews h1c hroom
      exact ⟨_, w', hr, fin _ w' h2, .inl ⟨g, cap, rfl, rfl, Chg.grown ((Chg.refl w _).alloc _) h3 (fun k e => .inl (by simp at e; exact e.symm))⟩⟩
    · have holds := ho.1.cells (g := g) rfl
      obtain ⟨v', w', hr, h2, h3⟩ := run_append_arg_grows (P := Try.prog) (w.alloc (.cells #[.int .u8 m] 5)) 22 22 5 i0 (.int .u8 0) 1 1 Try.underlying22 hi hz0 hz1 hz2 rfl (by decide) ⟨g, 0, none⟩ bs.length cap _ ho.1.1 holds ⟨w.heap.size, 0, none⟩ 1 1 [.int .u8 m] (by simp) hnews (by omega) (by simp [maxLen]; omega) (by omega)
      rcases h2.2 with ⟨_, h0⟩ | ⟨g', cap', cur', rfl, hb', r'⟩
      · omega
      · refine ⟨_, w', hr, fin _ w' ⟨h2.1, .inr ⟨g', cap', cur', rfl, Nat.zero_le _, r'⟩⟩, .inr ⟨fun k hk => ?_, Chg.grown ((Chg.refl w _).alloc _) h3 (by simp)⟩⟩
        simp [Value.ownBlock] at hk
        simp at hb'
        omega
theorem rep_succ (n : Nat) (m : Int) : List.replicate n m ++ [m] = List.replicate (n + 1) m := by
  rw [List.replicate_succ']
set_option maxHeartbeats 1000000 in
set_option maxRecDepth 10000 in
/-- longer. -/
theorem longer_any (w : World) (v : Value) (n : Nat) (m : Int) (hm : 0 ≤ m ∧ m ≤ 255) (hl : n ≤ 140737488350000) (hO : OwnB w v (List.replicate n m)) :
    Calls Try.prog 60 #[v, .int .u8 m] w fun r w' => ∃ v', r = .returned v' ∧ OwnB w' v' (List.replicate (n + 97) m) ∧ OwnB w' v (List.replicate n m) ∧ Chg w w' (fun b => v.ownBlock = some b) ∧ (v'.ownBlock = v.ownBlock ∨ Fresh w.heap.size v') := by
  have H : Hid (OwnB w v (List.replicate n m)) := hO
  clear hO
  have HM : Hid (0 ≤ m ∧ m ≤ 255) := hm
  clear hm
  go_enter Try.func60, Try.ntmps60
  go_wp2_with fail
  go_loopw [0, 5] (fun x0 i wr => ∃ (k : Nat) (x : Value), x = x0 ∧ k ≤ 97 ∧ i = .int .i64 k ∧ OwnB wr x (List.replicate (n + k) m) ∧ Chg w wr (fun b => v.ownBlock = some b) ∧ ((k = 0 ∧ x = v) ∨ (∃ g cap, v = .slice (some ⟨g, 0, none⟩) n cap ∧ x = .slice (some ⟨g, 0, none⟩) (n + k) cap) ∨ (Fresh w.heap.size x ∧ OwnB wr v (List.replicate n m)))) (fun x i _ => 97 - (intOf i).toNat)
  case atStart => exact ⟨0, _, rfl, by omega, rfl, H.out, Chg.refl _ _, .inl ⟨rfl, rfl⟩⟩
  case round =>
    obtain ⟨k, x, rfl, hk, rfl, ho, hC, hd⟩ := hrel
    by_cases hlt : k < 97
    · have hltz : (k : Int) < 97 := by omega
      obtain ⟨v', w', hr, o2, hcase⟩ := app1 wr x (List.replicate (n + k) m) m ho HM.out (by simp; omega)
      rw [rep_succ, Nat.add_assoc] at o2
      have KK : Hid (OwnB w' v' (List.replicate (n + (k + 1)) m) ∧ Chg w w' (fun b => v.ownBlock = some b) ∧ ((k + 1 = 0 ∧ v' = v) ∨ (∃ g cap, v = .slice (some ⟨g, 0, none⟩) n cap ∧ v' = .slice (some ⟨g, 0, none⟩) (n + (k + 1)) cap) ∨ (Fresh w.heap.size v' ∧ OwnB w' v (List.replicate n m)))) := by
        refine ⟨o2, ?_⟩
        have hlen : (List.replicate (n + k) m).length = n + k := by simp
        rw [hlen] at hcase
        have hv : OwnB wr v (List.replicate n m) := by
          rcases hd with ⟨rfl, rfl⟩ | ⟨g, cap, rfl, rfl⟩ | ⟨_, h⟩
          · simpa using ho
          · have := ho.pre (n := n) (by simp) (by omega)
            simpa [List.take_replicate] using this
          · exact h
        have hvb : ∀ b, v.ownBlock = some b → b < w.heap.size := fun b hb => own_lt H.out.1 hb
        rcases hcase with ⟨g, cap, rfl, rfl, hc⟩ | ⟨hf, hc⟩
        · rcases hd with ⟨rfl, rfl⟩ | ⟨g', cap', rfl, e⟩ | ⟨hf, h⟩
          · refine ⟨hC.trans hc (fun b _ e => by rw [e]; rfl), .inr (.inl ⟨g, cap, rfl, rfl⟩)⟩
          · simp only [Value.slice.injEq, Option.some.injEq, Addr.mk.injEq, true_and, and_true] at e
            obtain ⟨rfl, rfl⟩ := e
            exact ⟨hC.trans hc (fun b _ e => by rw [e]; rfl), .inr (.inl ⟨g, cap, rfl, by rw [Nat.add_assoc]⟩)⟩
          · have hg := hf g rfl
            exact ⟨hC.trans hc (fun b hb e => by omega), .inr (.inr ⟨fun b hb => by cases hb; exact hg, h.chg hc (fun b hb e => by have := hvb b hb; omega)⟩)⟩
        · exact ⟨hC.trans hc (fun _ _ x => x.elim), .inr (.inr ⟨fun b hb => Nat.le_trans hC.size (hf b hb), hv.chg hc (by simp)⟩)⟩
      clear o2 hcase hd ho hC
      go_wp2_with (at_builtin; refine wpList_append_run _ rfl (.tmp 10) (.tmp 12) 22 22 rfl _ _ v' w' rfl rfl hr ?_)
      go_roundw
      case rel => exact ⟨k + 1, _, rfl, by omega, by go_num, KK.out⟩
      case measure => simp [intOf]; omega
    · have hk97 : k = 97 := by omega
      subst hk97
      have KK : Hid (OwnB wr x (List.replicate (n + 97) m) ∧ OwnB wr v (List.replicate n m) ∧ Chg w wr (fun b => v.ownBlock = some b) ∧ (x.ownBlock = v.ownBlock ∨ Fresh w.heap.size x)) := by
        refine ⟨ho, ?_, hC, ?_⟩
        · rcases hd with ⟨h, rfl⟩ | ⟨g, cap, rfl, rfl⟩ | ⟨_, h⟩
          · omega
          · have := ho.pre (n := n) (by simp) (by omega)
            simpa [List.take_replicate] using this
          · exact h
        · rcases hd with ⟨h, rfl⟩ | ⟨g, cap, rfl, rfl⟩ | ⟨h, _⟩
          · omega
          · exact .inl rfl
          · exact .inr h
      clear hd ho hC
      go_wp2
      go_ret
      exact ⟨x, rfl, KK.out⟩
end Go.Proofs.Ytfcpkcbiinbmiab
namespace Go.Proofs.Ytfcpkcbiinbmiab
open Go.ChangeShapes Go.WideShapes Go.ChangeAt Go.RowKit
set_option linter.unusedVariables false
/-- Another labelling of what is not the book's. -/
theorem BkM.relab {w : World} {σ σ' : Nat → Nat × Nat} {K : Nat} {V : Nat → Value} {X : Nat → List Value} (h : BkM w σ K V X) (hx : ∀ b, b < w.heap.size → (σ b).1 = 1 → σ' b = σ b) (hz : Fz w σ') : BkM w σ' K V X :=
  ⟨h.box, by rw [hx K (hp_lt h.box) (by rw [h.lk])]; exact h.lk, fun i hi => ⟨(h.own i hi).1, fun b hb => by rw [hx b (own_lt (h.own i hi).1 hb) (by rw [(h.own i hi).2 b hb])]; exact (h.own i hi).2 b hb⟩, hz⟩
theorem OwnB.lt {w : World} {v : Value} {bs : List Int} (h : OwnB w v bs) {k : Nat} (hk : v.ownBlock = some k) : k < w.heap.size := own_lt h.1 hk
theorem OwnB.one {w : World} {v : Value} {bs : List Int} (h : OwnB w v bs) : v.oneCell' = true := by
  rcases h.1.2 with ⟨rfl, _⟩ | ⟨g, cap, cur, rfl, _⟩ <;> rfl
/-- What owns leaves. -/
structure Hld (w : World) (σ : Nat → Nat × Nat) (K : Nat) (V : Nat → Value) (X : Nat → List Value) (v : Value) (bs : List Int) (o : Nat) (w' : World) (σ' : Nat → Nat × Nat) (V' : Nat → Value) (u : Value) : Prop where
  ob : OwnB w' v bs
  lb : Lb σ' v (3, o)
  ou : OwnB w' u bs
  lu : Lb σ' u (4, o)
  bk : BkM w' σ' K V' (upd (upd X 2 (X 2 ++ [v])) 3 (X 3 ++ [u]))
  ch : Chg w w' (fun b => (σ b).1 = 1)
  ex : ∀ b, b < w.heap.size → v.ownBlock ≠ some b → σ' b = σ b
set_option maxHeartbeats 400000 in
set_option maxRecDepth 10000 in
theorem owns_any (w : World) (σ : Nat → Nat × Nat) (K : Nat) (V : Nat → Value) (X : Nat → List Value) (h : BkM w σ K V X) (v : Value) (bs : List Int) (hv : OwnB w v bs) (hb : bs.length ≤ 140737488355328) (hl : ∀ b, v.ownBlock = some b → (σ b).1 ≠ 1) (o : Nat) (h2 : ((X 2).length + 1) * 24 ≤ 140737488355328) (h3 : ((X 3).length + 1) * 24 ≤ 140737488355328) :
    Calls Try.prog 47 #[.pointer (some ⟨K, 0, none⟩), v] w fun e w' => e = .returned (.tuple #[]) ∧ ∃ σ' V' u, Hld w σ K V X v bs o w' σ' V' u := by
  obtain ⟨a, cp, ev, hcp, hnil, hBs⟩ := hv.shape hb
  obtain ⟨u, w1, hr1, ou, g1, l1⟩ := run_appB w (.slice none 0 0) [] (OwnB.nil w) a bs.length cp bs hBs (by simpa using hb) 22
  simp only [List.nil_append] at ou
  have k1 : Kp w w1 := (Chg.refl _ _).grown g1 (by simp [Value.ownBlock])
  have fu : Fresh w.heap.size u := loc_fresh (w' := w1) (ys := bs) l1
  have hv1 : OwnB w1 v bs := hv.chg k1 (by simp)
  have huv : ∀ b, u.ownBlock = some b → v.ownBlock ≠ some b := fun b hu hv' => by have := fu b hu; have := hv.lt hv'; omega
  obtain ⟨σ0, hσ0⟩ : ∃ σ0, σ0 = lab (lab σ v (3, o)) u (4, o) := ⟨_, rfl⟩
  have x0 : ∀ b, b < w.heap.size → v.ownBlock ≠ some b → σ0 b = σ b := fun b hb hne => by
    rw [hσ0]; unfold lab
    rw [if_neg (fun e => by have := fu b e; omega), if_neg hne]
  have lv : Lb σ0 v (3, o) := fun b hb => by
    rw [hσ0]; unfold lab
    rw [if_neg (fun e => huv b e hb), if_pos hb]
  have lu : Lb σ0 u (4, o) := by rw [hσ0]; exact lab_same _ _ _
  have fz0 : Fz w1 σ0 := fun b hb => by
    rw [hσ0]; unfold lab
    rw [if_neg (fun e => by have := ou.lt e; omega), if_neg (fun e => by have := hv1.lt e; omega)]
    exact h.fz b (Nat.le_trans k1.size hb)
  have B1 : BkM w1 σ0 K V X := (h.kp k1).relab (fun b hb e => x0 b (by
    rcases Nat.lt_or_ge b w.heap.size with h' | h'
    · exact h'
    · have := h.fz b h'; rw [this] at e; simp at e) (fun e' => hl b e' e)) fz0
  clear hσ0
  obtain ⟨a4, c4, w4, r4, A4⟩ := B1.app (i := 2) (by omega) 46 Try.underlying46 [v] (by simp [hv.one]) h2
  obtain ⟨w5, hw5⟩ : ∃ w5, w5 = w4.setCell ⟨K, 2, none⟩ (.slice a4 ((X 2).length + 1) c4) := ⟨_, rfl⟩
  obtain ⟨σ1, hσ1⟩ : ∃ σ1, σ1 = lab σ0 (.slice a4 ((X 2).length + 1) c4) (1, 2) := ⟨_, rfl⟩
  obtain ⟨V1, hV1⟩ : ∃ V1, V1 = upd V 2 (.slice a4 ((X 2).length + 1) c4) := ⟨_, rfl⟩
  obtain ⟨X1, hX1⟩ : ∃ X1, X1 = upd X 2 (X 2 ++ [v]) := ⟨_, rfl⟩
  have eX : X1 3 = X 3 := by rw [hX1, upd_other _ _ (by omega)]
  have b4 : BkM w5 σ1 K V1 X1 := by rw [hw5, hσ1, hV1, hX1]; exact A4.bk
  have x4 : Ext w1 σ0 σ1 := by rw [hσ1]; exact A4.ex
  have ch4 : Chg w1 w5 (fun b => (σ0 b).1 = 1) := by rw [hw5]; exact A4.ch
  have r4' : (Builtin.append_ #[46, 46] 46 #[V 2, .slice (some ⟨w1.heap.size, 0, none⟩) 1 1]).run Try.prog (w1.alloc (.cells #[v] 22)) = .ok (.slice a4 ((X 2).length + 1) c4) w4 := r4
  have d2 : w1.cell? ⟨K, 2, none⟩ = some (V 2) := (B1.cell (i := 2) (by omega)).1
  have d4 : w4.cell? ⟨K, 2, none⟩ = some (V 2) := A4.cl.1
  have d5 : w4.frozen? ⟨K, 2, none⟩ = false := A4.cl.2
  have lv1 : Lb σ1 v (3, o) := fun b hb => by rw [x4 b (hv1.lt hb)]; exact lv b hb
  have lu1 : Lb σ1 u (4, o) := fun b hb => by rw [x4 b (ou.lt hb)]; exact lu b hb
  have ov5 : OwnB w5 v bs := hv1.chg ch4 (fun b hb e => by rw [lv b hb] at e; simp at e)
  have ou5 : OwnB w5 u bs := ou.chg ch4 (fun b hb e => by rw [lu b hb] at e; simp at e)
  clear A4 r4 hσ1 hV1
  obtain ⟨a6, c6, w6, r6, A6⟩ := b4.app (i := 3) (by omega) 46 Try.underlying46 [u] (by simp [ou.one]) (by rw [eX]; exact h3)
  rw [eX] at r6
  obtain ⟨w7, hw7⟩ : ∃ w7, w7 = w6.setCell ⟨K, 3, none⟩ (.slice a6 ((X 3).length + 1) c6) := ⟨_, rfl⟩
  have r6' : (Builtin.append_ #[46, 46] 46 #[V1 3, .slice (some ⟨w5.heap.size, 0, none⟩) 1 1]).run Try.prog (w5.alloc (.cells #[u] 22)) = .ok (.slice a6 ((X 3).length + 1) c6) w6 := r6
  have f2 : w5.cell? ⟨K, 3, none⟩ = some (V1 3) := (b4.cell (i := 3) (by omega)).1
  have f4 : w6.cell? ⟨K, 3, none⟩ = some (V1 3) := A6.cl.1
  have f5 : w6.frozen? ⟨K, 3, none⟩ = false := A6.cl.2
  have LL : Hid (Hld w σ K V X v bs o w7 (lab σ1 (.slice a6 ((X 3).length + 1) c6) (1, 3)) (upd V1 3 (.slice a6 ((X 3).length + 1) c6)) u) := by
    have b6 := A6.bk
    have x6 := A6.ex
    have ch6 := A6.ch
    rw [eX] at b6 x6 ch6
    simp only [List.length_singleton] at b6 x6 ch6
    rw [← hw7] at b6 ch6
    have cl : ∀ b, b < w.heap.size → (σ0 b).1 = 1 → (σ b).1 = 1 := fun b hb e => by
      rw [x0 b hb (fun e' => by rw [lv b e'] at e; simp at e)] at e
      exact e
    refine ⟨ov5.chg ch6 (fun b hb e => by rw [lv1 b hb] at e; simp at e), fun b hb => ?_, ou5.chg ch6 (fun b hb e => by rw [lu1 b hb] at e; simp at e), fun b hb => ?_, ?_, ?_, fun b hb hne => ?_⟩
    · rw [x6 b (ov5.lt hb)]; exact lv1 b hb
    · rw [x6 b (ou5.lt hb)]; exact lu1 b hb
    · rw [← hX1]; exact b6
    · refine Chg.trans k1.any (Chg.trans ch4 ch6 (fun b hb e => ?_)) (fun b hb e => cl b hb e)
      show (σ0 b).1 = 1
      rw [← x4 b hb]; exact e
    · rw [x6 b (Nat.lt_of_lt_of_le hb (Nat.le_trans k1.size ch4.size)), x4 b (Nat.lt_of_lt_of_le hb k1.size)]
      exact x0 b hb hne
  clear B1 b4 A6 r6 hv hv1 ov5 ou5 lv lu lv1 lu1 x0 x4 ch4 fz0 h g1 l1 fu huv hl hBs hnil eX h2 h3 k1 hX1
  subst ev
  obtain ⟨au, cu, eu, _⟩ := ou.shape hb
  subst eu
  clear ou
  rw [hw7] at LL
  clear hw7 hcp hb
  go_enter Try.func47, Try.ntmps47
  go_upto_region 2 with (at_builtin; refine wpList_append_run _ rfl (.tmp 5) (.tmp 6) 22 22 rfl _ _ (.slice au bs.length cu) w1 rfl rfl hr1 ?_)
  clear hr1
  go_upto_region 3 with (at_builtin; refine wpList_append_run _ rfl (.tmp 12) (.tmp 14) 46 46 rfl _ _ (.slice a4 ((X 2).length + 1) c4) w4 rfl rfl r4' ?_)
  rw [← hw5]
  clear r4' d2 d4 d5 hw5
  go_wp2_with (at_builtin; refine wpList_append_run _ rfl (.tmp 22) (.tmp 24) 46 46 rfl _ _ (.slice a6 ((X 3).length + 1) c6) w6 rfl rfl r6' ?_)
  go_end0
  exact ⟨rfl, _, _, _, LL.out⟩
end Go.Proofs.Ytfcpkcbiinbmiab
