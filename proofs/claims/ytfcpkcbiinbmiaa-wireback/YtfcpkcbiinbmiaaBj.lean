import Derived.Test.YtfcpkcbiinbmiaaBi
namespace Go.Proofs.Ytfcpkcbiinbmiaa
open Go.ChangeShapes Go.WideShapes Go.ChangeAt Go.RowKit
set_option linter.unusedVariables false

/-- While the steps are chosen. -/
structure LA (w2 wr : World) (v : Value) (os : List OpV) (k : Nat) : Prop where
  ol : OL wr v (sel os k).2
  ch : Chg w2 wr (fun _ => False)
  fr : ∀ g, v.ownBlock = some g → w2.heap.size ≤ g
theorem LA.box {w2 wr : World} {v : Value} {os : List OpV} {k : Nat} (h : LA w2 wr v os k) (o : Obj) : LA w2 (wr.alloc o) v os k :=
  ⟨h.ol.chg (S := fun _ => False) ((Chg.refl _ _).alloc o) (fun _ _ x => x), h.ch.alloc o, h.fr⟩
theorem LA.skip {w2 wr : World} {v : Value} {os : List OpV} {k : Nat} (h : LA w2 wr v os k) (hk : k < os.length) (h1 : ¬ (os[k].kind ≠ 7 ∧ os[k].str.size < 60000 ∧ (sel os k).1 + sz os[k] < 900000)) : LA w2 wr v os (k + 1) :=
  ⟨by rw [sel_no hk h1]; exact h.ol, h.ch, h.fr⟩
theorem LA.app {w2 wr w' : World} {v v' : Value} {os : List OpV} {k : Nat} (h : LA w2 wr v os k) (hk : k < os.length) (h1 : os[k].kind ≠ 7 ∧ os[k].str.size < 60000 ∧ (sel os k).1 + sz os[k] < 900000)
    (ho : OL w' v' ((sel os k).2 ++ [os[k]])) (hg : wr.grownBy w' v.ownBlock) (hl : Loc wr v v') : LA w2 w' v' os (k + 1) := by
  refine ⟨by rw [sel_yes hk h1]; exact ho, h.ch.grown hg (fun q e => .inr (h.fr q e)), fun g e => ?_⟩
  rcases hl with e' | ⟨q, e', hq⟩
  · exact h.fr g (by rw [← e']; exact e)
  · rw [e'] at e; cases e; exact Nat.le_trans h.ch.size hq
/-- While they are written. -/
structure LB (w3 wr : World) (Z : Nat → Prop) (B M : Nat) (v' : Value) (n n' : Nat) (acc : List Int) (L : List OpV) : Prop where
  re : Rec L n acc
  yw : YW wr Z B M v' n' (fun _ => false) 0 1000000 acc
  ch : Chg w3 wr (Wf B M (.slice none 0 0))
  lo : Loc w3 (.slice none 0 0) v'
  nn : n' ≤ n
/-- While they are read. -/
structure LC (w6 wr : World) (R : Nat) (a : Option Addr) (rc : Nat) (D acc rest : List Int) (L : List OpV) (n : Nat) : Prop where
  t : Tail L n rest
  e : D = acc ++ rest
  r : IsRS wr R a rc (RS.on ⟨D, 0, 0, 0⟩ acc.length)
  ch : Chg w6 wr (fun k => k = R)
theorem ScrZ.scr {w : World} {Z : Nat → Prop} {b o K : Nat} {os : List OpV} (h : ScrZ w Z b o os) (hK : ∀ k, K ≤ k → Z k) : Scr w K b o os := by
  have nl : ∀ x, ¬ Z x → x < K := fun x hx => by
    apply Nat.lt_of_not_le
    intro hh
    exact hx (hK x hh)
  refine ⟨nl b h.1.1, fun i hi => ?_⟩
  obtain ⟨h1, h2, h3, h4, h5⟩ := h.2 i hi
  exact ⟨h1, h2, h3, fun x y e h0 => nl x (h4 x y e h0), h5⟩
theorem scr_mk {w w3 : World} {L : List OpV} {g : Nat} (hd : ∀ v ∈ L, v.data w ∧ v.kind ≠ 7 ∧ v.str.size < 60000) (hb : Below w.heap.size w w3) (hat : ∀ i (hi : i < L.length), OpAt w3 g (i * 5) L[i]) (hg : g < w3.heap.size) (Z : Nat → Prop) (hZ : ¬ Z g) (hZw : ∀ x, x < w.heap.size → ¬ Z x) : ScrZ w3 Z g 0 L := by
  refine ⟨⟨hZ, hg⟩, fun i hi => ?_⟩
  obtain ⟨⟨d1, d2, d3, d4, d5⟩, k7, k8⟩ := hd L[i] (List.getElem_mem hi)
  refine ⟨by rw [Nat.zero_add]; exact hat i hi, d1, Below.bs d2 hb, fun x y e h0 => hZw x ?_, k7, k8⟩
  rcases d2.2.2.2 with q | ⟨u', y', e', hq⟩
  · omega
  · rw [e] at e'; cases e'
    exact World.block_lt_of_cell? w _ (hq 0 h0)
theorem OpAt.chg {w w' : World} {b o : Nat} {v : OpV} (h : OpAt w b o v) (hc : Chg w w' (fun _ => False)) : OpAt w' b o v := h.below (hc.below (Nat.le_refl _) (fun _ _ x => x))
theorem op_at_box {w : World} {b : Nat} {v : OpV} (h : w.heap[b]? = some (.cells #[.int .i64 v.kind, .int .u64 v.n, .int .i64 v.k, .slice v.ba v.bl v.bc, .string v.str] 44 (0, 0))) : OpAt w b 0 v :=
  ⟨by simpa using (cells_at h 0).1, by simpa using (cells_at h 1).1, by simpa using (cells_at h 2).1, by simpa using (cells_at h 3).1, by simpa using (cells_at h 4).1⟩
theorem om_made (w : World) (M : Nat) (h : w.heap[M]? = some (.map #[] 0)) : OM w M 0 (fun _ => false) 0 := by
  refine ⟨.map [], ?_, ?_, ?_⟩
  · obtain ⟨es, clk, q1, r⟩ := World.ownsMap_made (H := Unit) w Try.prog 3 unitElem
    have e := heap_alloc_new w (.map #[] 0)
    rw [e] at q1
    cases q1
    exact ⟨_, _, h, r⟩
  · intro i; rfl
  · rfl

theorem OL.shape {w : World} {v : Value} {l : List OpV} (h : OL w v l) : ∃ a cap, v = .slice a l.length cap ∧ l.length ≤ cap ∧ cap ≤ 9223372036854775807 ∧ (0 < l.length → ∃ g, a = some ⟨g, 0, none⟩ ∧ g < w.heap.size ∧ v.ownBlock = some g ∧ ∀ i (hi : i < l.length), OpAt w g (i * 5) l[i]) := by
  by_cases hp : 0 < l.length
  · obtain ⟨g, cap, e, h1, h2, h3, h4⟩ := h.at hp
    exact ⟨_, cap, e, h1, by simpa [maxLen] using h2, fun _ => ⟨g, rfl, h3, by rw [e]; rfl, h4⟩⟩
  · rcases h.2 with ⟨rfl, h0⟩ | ⟨g, cap, cur, rfl, _, hg, hnc, hcm, hcs, ht⟩
    · exact ⟨none, 0, by rw [h0], by omega, by omega, fun h => absurd h hp⟩
    · exact ⟨_, cap, rfl, hnc, by simpa [maxLen] using hcm, fun h => absurd h hp⟩
theorem LB.step {w3 wr w4 : World} {Z : Nat → Prop} {B M : Nat} {v' v4 : Value} {n n' n4 : Nat} {acc : List Int} {L : List OpV} (h : LB w3 wr Z B M v' n n' acc L) (hn : n < L.length) {R : Nat × List Int} (hR : wr_ 3 L n = R) (y : YW w4 Z B M v4 n4 (fun _ => false) 0 1000000 (acc ++ R.2)) (c : Chg wr w4 (Wf B M v')) (l : Loc wr v' v4) (nn : n4 ≤ n' + R.1) : LB w3 w4 Z B M v4 (n + R.1) n4 (acc ++ R.2) L := by
  obtain ⟨q1, q2⟩ := Wf.then h.ch h.lo c l
  have := h.re.step hn
  unfold wr_ at hR
  rw [hR] at this
  exact ⟨this, y, q1, q2, by have := h.nn; omega⟩
/-- The writer when all is written. -/
theorem LB.done {w3 wr : World} {Z : Nat → Prop} {B M : Nat} {v' : Value} {n n' : Nat} {acc : List Int} {L : List OpV} (h : LB w3 wr Z B M v' n n' acc L) : ∃ clk, IsW wr B M v' (.map #[] clk) 1000000 acc 0 := by
  obtain ⟨⟨mo, hW⟩, hO⟩ := h.yw.wo
  obtain ⟨clk, hc⟩ := hO.none
  have e := hW.map
  rw [hc] at e
  cases e
  exact ⟨clk, hW⟩
theorem szs_drop_le (l : List OpV) (n : Nat) : szs (l.drop n) ≤ szs l := by
  conv => rhs; rw [← List.take_append_drop n l, szs_app]
  omega
theorem LC.step {w6 wr w7 : World} {Rb : Nat} {a : Option Addr} {rc : Nat} {D acc rest : List Int} {L : List OpV} {n : Nat} {R : Nat × List Int} (h : LC w6 wr Rb a rc D acc rest L n) (hn : n < L.length) (hR : wr_ 3 L n = R) (hr : IsRS w7 Rb a rc ((RS.on ⟨D, 0, 0, 0⟩ acc.length).on R.2.length)) (hc : Chg wr w7 (fun k => k = Rb)) : ∃ rest', LC w6 w7 Rb a rc D (acc ++ R.2) rest' L (n + R.1) := by
  obtain ⟨r', e1, e2⟩ := h.t.inv.2 hn
  unfold wr_ at hR
  rw [hR] at e1 e2
  refine ⟨r', e2, by rw [h.e, e1]; simp, ?_, h.ch.trans hc (fun _ _ e => e)⟩
  have : (RS.on ⟨D, 0, 0, 0⟩ acc.length).on R.2.length = RS.on ⟨D, 0, 0, 0⟩ (acc ++ R.2).length := by simp [RS.on]
  rw [← this]; exact hr
theorem LC.nxt {w6 wr : World} {Rb : Nat} {a : Option Addr} {rc : Nat} {D acc rest : List Int} {L : List OpV} {n : Nat} (h : LC w6 wr Rb a rc D acc rest L n) (hn : n < L.length) : (RS.on ⟨D, 0, 0, 0⟩ acc.length).Nxt (Ytfcpkcbiinbmiaa.wr 3 (L.drop n)).2 := by
  obtain ⟨r', e1, e2⟩ := h.t.inv.2 hn
  have h0 := RS.nxt_all D
  have e := h.e
  rw [e1] at e
  have h1 : RS.Nxt ⟨D, 0, 0, 0⟩ (acc ++ ((Ytfcpkcbiinbmiaa.wr 3 (L.drop n)).2 ++ r')) := by rw [← e]; exact h0
  exact h1.on.pre
theorem LC.last {w6 wr : World} {Rb : Nat} {a : Option Addr} {rc : Nat} {D acc rest : List Int} {L : List OpV} {n : Nat} (h : LC w6 wr Rb a rc D acc rest L n) (hn : n = L.length) : IsRS wr Rb a rc ⟨D, D.length, 0, 0⟩ := by
  have e := h.e
  rw [h.t.inv.1 hn, List.append_nil] at e
  have := h.r
  rw [← e] at this
  simpa [RS.on] using this

set_option maxHeartbeats 4000000 in
set_option maxRecDepth 10000 in
theorem back_walk (w : World) (sa : Option Addr) (sc : Nat) (os : List OpV) (hs : OpsIn w sa os) (hdat : ∀ v ∈ os, v.data w) :
    Calls Try.prog 6 #[.slice sa os.length sc] w fun e w' => e = .returned (.bool true) ∧ Below w.heap.size w w' := by
  have hsl := hs.1
  have HS : Hid (OpsIn w sa os ∧ ∀ v ∈ os, v.data w) := ⟨hs, hdat⟩
  clear hs hdat
  go_enter Try.func6, Try.ntmps6
  go_wp2_with fail
  go_at_call 9
  refine (known_any w).mono ?_
  rintro e w1 ⟨rfl, hb1⟩
  have A1 := newWriter_ok 1000000 w1 (by omega)
  have HB : Hid (Below w.heap.size w w1) := hb1
  clear hb1
  go_wp2_with fail
  go_at_call 27
  refine A1.mono ?_
  clear A1
  rintro e w2 ⟨rfl, hW2, hC2⟩
  obtain ⟨M, hM⟩ : ∃ M, M = w1.heap.size := ⟨_, rfl⟩
  obtain ⟨B, hBB⟩ : ∃ B, B = w1.heap.size + 1 := ⟨_, rfl⟩
  rw [← hBB, ← hM] at hW2
  rw [← hBB]
  have HB2 : Hid (Below w.heap.size w w2 ∧ IsW w2 B M (.slice none 0 0) (.map #[] 0) 1000000 [] 0 ∧ w.heap.size ≤ M ∧ w.heap.size ≤ B) := ⟨HB.out.trans (hC2.below HB.out.size (by simp)), hW2, by rw [hM]; exact HB.out.size, by have := HB.out.size; omega⟩
  clear HB hW2 hC2 hM hBB
  go_wp2_with fail
  go_loopw [6, 7, 8, 9] (fun s6 s7 s8 s9 wr => ∃ (k : Nat) (lv : Value), lv = s6 ∧ s8 = .int .i64 k ∧ k ≤ 60 ∧ k ≤ os.length ∧ s7 = .int .i64 ((sel os k).1 : Nat) ∧ Hid (LA w2 wr lv os k)) (fun _ _ s8 _ _ => 60 - (intOf s8).toNat)
  case atStart =>
    exact ⟨0, _, rfl, rfl, by omega, by omega, rfl, ⟨World.ownsRow_nil _ _ _ _, Chg.refl _ _, fun g e => by cases e⟩⟩
  case round =>
    obtain ⟨k, lv, e6, rfl, hk60, hkl, rfl, HI⟩ := hrel
    subst e6
    by_cases hlt : k < os.length ∧ k < 60
    · obtain ⟨hl1, hl2⟩ := hlt
      obtain ⟨b, o, hsa, hop⟩ := HS.out.1.2.2.resolve_left (by omega)
      subst hsa
      have hBl : Below w.heap.size w wr := HB2.out.1.trans (HI.out.ch.below HB2.out.1.size (by simp))
      obtain ⟨o0, o1, o2, o3, o4⟩ := (hop k hl1).below hBl
      obtain ⟨d1, d2, d3, d4, d5, d6⟩ := HS.out.2 os[k] (List.getElem_mem hl1)
      have hsel := sel_size os (fun v hv => ⟨(HS.out.2 v hv).2.2.1, (HS.out.2 v hv).2.2.2.2.2⟩) k
      have HSEL : Hid (szs (sel os k).2 ≤ (sel os k).1 ∧ szs (sel os k).2 < 900000 ∧ (sel os k).2.length ≤ k) := sel_szs os k
      clear hop hBl
      have HY : ∀ S : Nat, ∀ x : OpV, S = (sel os k).1 → x = os[k] → (∀ {wq vq}, LA w2 wq vq os k → ¬ (x.kind ≠ 7 ∧ x.str.size < 60000 ∧ S + sz x < 900000) → LA w2 wq vq os (k + 1) ∧ (sel os (k + 1)).1 = S + sz x)
          ∧ (∀ {wq wq' vq vq'}, LA w2 wq vq os k → (x.kind ≠ 7 ∧ x.str.size < 60000 ∧ S + sz x < 900000) → OL wq' vq' ((sel os k).2 ++ [x]) → wq.grownBy wq' vq.ownBlock → Loc wq vq vq' → LA w2 wq' vq' os (k + 1) ∧ (sel os (k + 1)).1 = S + sz x) := by
        rintro S x rfl rfl
        exact ⟨fun h1 h2 => ⟨h1.skip hl1 h2, by rw [sel_no hl1 h2]⟩, fun h1 h2 h3 h4 h5 => ⟨h1.app hl1 h2 h3 h4 h5, by rw [sel_yes hl1 h2]⟩⟩
      obtain ⟨S, hSS⟩ : ∃ S, S = (sel os k).1 := ⟨_, rfl⟩
      obtain ⟨x, hx⟩ : ∃ x, x = os[k] := ⟨_, rfl⟩
      obtain ⟨HN, HYs⟩ := HY S x hSS hx
      clear HY
      rw [← hSS] at hsel ⊢
      rw [← hx] at o0 o1 o2 o3 o4 d1 d2 d3 d4 d5 d6
      have HLN : Hid ((sel os k).2.length ≤ 1000000) := by have := HSEL.out.2.2; show _ ≤ _; omega
      clear hSS hx HSEL
      have hSb : (S : Int) ≤ 60 * 281474976702484 := by have : k * 281474976702484 ≤ 60 * 281474976702484 := Nat.mul_le_mul_right _ hk60
                                                        omega
      clear hsel
      have hszx : ((sz x : Nat) : Int) = 20 + (x.bl : Int) + (x.str.size : Int) := by unfold sz; omega
      obtain ⟨wb, hwb⟩ : ∃ wb, wb = wr.alloc (.cells #[.int .i64 x.kind, .int .u64 x.n, .int .i64 x.k, .slice x.ba x.bl x.bc, .string x.str] 44) := ⟨_, rfl⟩
      obtain ⟨Ob, hOb⟩ : ∃ Ob, Ob = wr.heap.size := ⟨_, rfl⟩
      have hX := op_cells (w := wr) x
      rw [← hwb, ← hOb] at hX
      have HIb : Hid (LA w2 wb lv os k) := by rw [hwb]; exact HI.out.box _
      have z0 : wb.cell? ⟨Ob, 0, none⟩ = some (.int .i64 x.kind) := by simpa using (cells_at hX 0).1
      have z1 : wb.cell? ⟨Ob, 1, none⟩ = some (.int .u64 x.n) := by simpa using (cells_at hX 1).1
      have z2 : wb.cell? ⟨Ob, 2, none⟩ = some (.int .i64 x.k) := by simpa using (cells_at hX 2).1
      have z3 : wb.cell? ⟨Ob, 3, none⟩ = some (.slice x.ba x.bl x.bc) := by simpa using (cells_at hX 3).1
      have z4 : wb.cell? ⟨Ob, 4, none⟩ = some (.string x.str) := by simpa using (cells_at hX 4).1
      have d3z : (x.bl : Int) ≤ 140737488351232 := by omega
      have d6z : (x.str.size : Int) ≤ 140737488351232 := by omega
      have hk0z : (k : Int) < 60 := by omega
      have hk1z : (k : Int) < (os.length : Int) := by omega
      clear d1 d2 d3 d4 d5 d6 HI hX
      by_cases hsel1 : x.kind ≠ 7 ∧ x.str.size < 60000 ∧ S + sz x < 900000
      · have hnew := op_cells (w := wb) x
        obtain ⟨v4, w4, hr4, o4', g4, l4⟩ := run_appO (wb.alloc (.cells #[.int .i64 x.kind, .int .u64 x.n, .int .i64 x.k, .slice x.ba x.bl x.bc, .string x.str] 44)) lv _ (HIb.out.box _).ol x wb.heap.size 1 (op_at_box hnew) HLN.out 33
        have HE : Hid (LA w2 w4 v4 os (k + 1) ∧ (sel os (k + 1)).1 = S + sz x) := HYs (HIb.out.box _) hsel1 o4' g4 l4
        clear HYs HN o4' g4 l4 hnew
        have hk7 : (x.kind != 7) = true := by simpa using hsel1.1
        have hsz1 : (x.str.size : Int) < 60000 := by omega
        have hsz2 : (S : Int) + 20 + (x.bl : Int) + (x.str.size : Int) < 900000 := by omega
        clear hsel1
        go_upto_region 11 with fail
        rw [← hOb, ← hwb]
        clear hOb hwb o0 o1 o2 o3 o4
        go_wp2_with (at_builtin; refine wpList_append_run _ rfl (.tmp 71) (.tmp 73) 33 33 rfl _ _ v4 w4 rfl rfl hr4 ?_)
        exact ⟨⟨k + 1, v4, rfl, by go_num, by omega, by omega, by rw [HE.out.2]; refine congrArg (Value.int .i64) ?_; omega, HE.out.1⟩, by simp [intOf]; omega⟩
      · have HE : Hid (LA w2 wb lv os (k + 1) ∧ (sel os (k + 1)).1 = S + sz x) := HN HIb.out hsel1
        clear HYs HN
        rcases (by omega : x.kind = 7 ∨ (x.kind ≠ 7 ∧ ¬ x.str.size < 60000) ∨ (x.kind ≠ 7 ∧ x.str.size < 60000 ∧ ¬ S + sz x < 900000)) with h7 | ⟨h7, h8⟩ | ⟨h7, h8, h9⟩
        · have hk7 : (x.kind != 7) = false := by simpa using h7
          clear hsel1 h7
          go_upto_region 11 with fail
          rw [← hOb, ← hwb]
          clear hOb hwb o0 o1 o2 o3 o4
          go_wp2
          exact ⟨⟨k + 1, lv, rfl, by go_num, by omega, by omega, by rw [HE.out.2]; refine congrArg (Value.int .i64) ?_; omega, HE.out.1⟩, by simp [intOf]; omega⟩
        · have hk7 : (x.kind != 7) = true := by simpa using h7
          have hsz1 : ¬ (x.str.size : Int) < 60000 := by omega
          clear hsel1
          go_upto_region 11 with fail
          rw [← hOb, ← hwb]
          clear hOb hwb o0 o1 o2 o3 o4
          go_wp2
          exact ⟨⟨k + 1, lv, rfl, by go_num, by omega, by omega, by rw [HE.out.2]; refine congrArg (Value.int .i64) ?_; omega, HE.out.1⟩, by simp [intOf]; omega⟩
        · have hk7 : (x.kind != 7) = true := by simpa using h7
          have hsz1 : (x.str.size : Int) < 60000 := by omega
          have hsz2 : ¬ (S : Int) + 20 + (x.bl : Int) + (x.str.size : Int) < 900000 := by omega
          clear hsel1
          go_upto_region 11 with fail
          rw [← hOb, ← hwb]
          clear hOb hwb o0 o1 o2 o3 o4
          go_wp2
          exact ⟨⟨k + 1, lv, rfl, by go_num, by omega, by omega, by rw [HE.out.2]; refine congrArg (Value.int .i64) ?_; omega, HE.out.1⟩, by simp [intOf]; omega⟩
    · by_cases hl1 : k < os.length
      · have hz1 : (k : Int) < (os.length : Int) := by omega
        have hz2 : ¬ (k : Int) < 60 := by omega
        obtain ⟨w3, e3⟩ : ∃ w3, w3 = wr := ⟨_, rfl⟩
        subst e3
        obtain ⟨L, hL⟩ : ∃ L, L = (sel os k).2 := ⟨_, rfl⟩
        have hI := HI.out
        obtain ⟨q1, q2, q3⟩ := hI
        obtain ⟨r1, r2, r3⟩ := sel_szs os k
        have r4 := sel_mem os k
        rw [← hL] at q1 r1 r2 r3 r4
        obtain ⟨Z, hZ⟩ : ∃ Z : Nat → Prop, ∀ q, Z q ↔ (q = B ∨ q = M ∨ w3.heap.size ≤ q) := ⟨fun q => q = B ∨ q = M ∨ w3.heap.size ≤ q, fun _ => Iff.rfl⟩
        obtain ⟨a, cap, ev, hc1, hc2, hA⟩ := q1.shape
        have hdd : ∀ v ∈ L, v.data w ∧ v.kind ≠ 7 ∧ v.str.size < 60000 := fun v hv => ⟨HS.out.2 v (r4 v hv).1, (r4 v hv).2⟩
        have hB3 : Below w.heap.size w w3 := HB2.out.1.trans (q2.below HB2.out.1.size (by simp))
        have hBl : B < w2.heap.size := lt_heap HB2.out.2.1.box
        have hMl : M < w2.heap.size := lt_heap HB2.out.2.1.map
        have hZw : ∀ q, q < w.heap.size → ¬ Z q := by
          intro q hq hz
          rcases (hZ q).1 hz with e | e | e
          · have := HB2.out.2.2.2; omega
          · have := HB2.out.2.2.1; omega
          · have := hB3.size; omega
        have HL : Hid ((∀ v ∈ L, v.bs.length = v.bl) ∧ szs L < 900000 ∧ Below w.heap.size w w3 ∧ (∀ q, q < w.heap.size → ¬ Z q) ∧ (∀ q, w3.heap.size ≤ q → Z q)) := ⟨fun v hv => (hdd v hv).1.2.1.1, r2, hB3, hZw, fun q hq => (hZ q).2 (.inr (.inr hq))⟩
        have HA : Hid (0 < L.length → ∃ g, a = some ⟨g, 0, none⟩ ∧ ScrZ w3 Z g 0 L) := by
          intro hp
          obtain ⟨g, e, h1, h2, h3⟩ := hA hp
          refine ⟨g, e, scr_mk hdd hB3 h3 h1 Z (fun hz => ?_) hZw⟩
          have := q3 g h2
          rcases (hZ g).1 hz with e | e | e <;> omega
        have HY0 : Hid (YW w3 Z B M (.slice none 0 0) 0 (fun _ => false) 0 1000000 []) :=
          ⟨⟨⟨_, HB2.out.2.1.other q2 (fun _ _ x => x)⟩, om_made w3 M (q2.heap HB2.out.2.1.map (fun x => x))⟩, (hZ B).2 (.inl rfl), (hZ M).2 (.inr (.inl rfl)), fun q e => (by cases e), fun q hq => (hZ q).2 (.inr (.inr hq))⟩
        have hL60 : L.length ≤ 60 := by omega
        subst ev
        clear q1 q2 q3 r1 r2 r4 hA hdd hB3 hBl hMl hZw hZ HI hL r3
        clear HS HB2
        have HB0 : Hid (LB w3 w3 Z B M (.slice none 0 0) 0 0 [] L) := ⟨.zero, HY0.out, Chg.refl _ _, .inl rfl, by omega⟩
        go_wp2_with fail
        go_loopw [10, 11] (fun s10 s11 wr => ∃ (n n' : Nat) (v' : Value) (acc : List Int), s10 = .int .i64 n ∧ n ≤ L.length ∧ Hid (LB w3 wr Z B M v' n n' acc L)) (fun s10 _ _ => L.length - (intOf s10).toNat)
        case atStart => exact ⟨0, 0, _, [], rfl, by omega, HB0⟩
        case round =>
          obtain ⟨n, n', v', acc, rfl, hnl, HI⟩ := hrel
          clear HB0
          by_cases hn2 : n = L.length
          · skip
            obtain ⟨w4, e4⟩ : ∃ w4, w4 = wr := ⟨_, rfl⟩
            subst e4
            obtain ⟨clk, hdW⟩ := HI.out.done
            have A3 := done_ok w4 B M v' clk 1000000 acc hdW
            have hnz : ¬ (n : Int) < (L.length : Int) := by omega
            have HT : Hid (Tail L 0 acc) := Rec.all (by rw [← hn2]; exact HI.out.re)
            have hDl : acc.length ≤ 1000000 := hdW.len_le
            have HZ4 : Hid (Chg w3 w4 Z) := HI.out.ch.mono (fun q _ hq => HY0.out.wf q hq)
            clear HI hdW
            go_wp2_with fail
            go_at_call 29
            refine A3.mono ?_
            clear A3
            rintro e w5 ⟨v5, rfl, o5, f5, c5⟩
            obtain ⟨a5, cap5, e5, _, _, b5⟩ := o5.shape (by omega)
            subst e5
            have A4 := newReader_any w5 a5 acc.length cap5 acc b5
            have HZ5 : Hid (Chg w3 w5 Z) := HZ4.out.trans c5 (fun _ _ h => h.elim)
            clear o5 f5 c5 b5 HZ4
            go_wp2_with fail
            go_at_call 15
            refine A4.mono ?_
            clear A4
            rintro e w6 ⟨R, a6, cap6, rfl, r6, c6, hR6, ha6⟩
            obtain ⟨K, hK⟩ : ∃ K, K = w5.heap.size := ⟨_, rfl⟩
            rw [← hK] at hR6 ha6
            have hZ6 : Chg w3 w6 Z := HZ5.out.trans c6 (fun _ _ h => h.elim)
            have HZ : Hid (Below w.heap.size w w6 ∧ w.heap.size ≤ R) := ⟨HL.out.2.2.1.trans (hZ6.below HL.out.2.2.1.size (fun q hq => HL.out.2.2.2.1 q hq)), Nat.le_trans (Nat.le_trans HL.out.2.2.1.size HZ5.out.size) (by omega)⟩
            have HK : Hid (K ≤ w6.heap.size ∧ K ≤ R ∧ (∀ u y, a6 = some ⟨u, y, none⟩ → K ≤ u) ∧ Chg w3 w6 Z ∧ (∀ q, K ≤ q → Z q)) := ⟨by rw [hK]; exact c6.size, hR6, ha6, hZ6, fun q hq => HL.out.2.2.2.2 q (by have := HZ5.out.size; omega)⟩
            have HC0 : Hid (LC w6 w6 R a6 cap6 acc [] acc L 0) := ⟨HT.out, rfl, by simpa [RS.on, IsRS] using r6, Chg.refl _ _⟩
            clear r6 c6 hR6 ha6 hK hZ6 HZ5 HT
            obtain ⟨D, hD⟩ : ∃ D, D = acc := ⟨_, rfl⟩
            rw [← hD] at HC0 hDl ⊢
            clear hD hn2 hnl
            go_wp2_with fail
            go_loopw [15, 16] (fun s15 s16 wr => ∃ (j : Nat) (acc rest : List Int), s15 = .int .i64 j ∧ j ≤ L.length ∧ Hid (LC w6 wr R a6 cap6 D acc rest L j)) (fun s15 _ _ => L.length - (intOf s15).toNat)
            case atStart => exact ⟨0, [], D, rfl, by omega, HC0⟩
            case round =>
              obtain ⟨j, acc, rest, rfl, hnl, HI⟩ := hrel
              clear HC0
              by_cases hn2 : j = L.length
              · skip
                have A7 := end_any wr R a6 cap6 _ (HI.out.last hn2)
                have hend : (⟨D, D.length, 0, 0⟩ : RS).end = ⟨D, D.length, 0, 0⟩ := RS.end_at rfl rfl
                rw [hend] at A7
                have HW : Hid (Below w.heap.size w wr ∧ w.heap.size ≤ R) := ⟨HZ.out.1.trans (HI.out.ch.below HZ.out.1.size (fun q hq e => by have := HZ.out.2; omega)), HZ.out.2⟩
                have hnz : ¬ (j : Int) < (L.length : Int) := by omega
                clear HI
                go_wp2_with fail
                go_at_call 24
                refine A7.mono ?_
                clear A7
                rintro e w7 ⟨rfl, r7, c7⟩
                have A8 := rerr_any w7 R a6 cap6 _ r7
                have HW7 : Hid (Below w.heap.size w w7) := HW.out.1.trans (c7.below HW.out.1.size (fun q hq e => by have := HW.out.2; omega))
                clear HW r7 c7
                go_wp2_with fail
                go_at_call 18
                refine A8.mono ?_
                clear A8
                rintro e w8 ⟨rfl, r8, c8⟩
                have HW8 : Hid (Below w.heap.size w w8) := HW7.out.trans (c8.below HW7.out.size (by simp))
                have A9 := rat_any w8 R a6 cap6 _ r8
                have A10 := left_any w8 R a6 cap6 _ r8
                have hlf : (⟨D, D.length, 0, 0⟩ : RS).left = 0 := by simp [RS.left]
                rw [hlf] at A10
                clear HW7 r8 c8 hlf hend
                go_wp2_with (first
                  | (go_at_call 19; refine A9.mono ?_; clear A9; rintro e wx ⟨rfl, hwx⟩; subst hwx)
                  | (go_at_call 20; refine A10.mono ?_; clear A10; rintro e wy ⟨rfl, _, cy⟩; have HWy : Hid (Below w.heap.size w wy) := HW8.out.trans (cy.below HW8.out.size (by simp)); clear cy))
                go_ret
                exact ⟨by simp, HWy.out⟩
              · have hn3 : j < L.length := by omega
                obtain ⟨g, ea, hg⟩ := HA.out (by omega)
                subst ea
                have hfit := wr_fits 3 L HL.out.1 j hn3
                have A5 := reads_any 3 wr K R a6 cap6 (RS.on ⟨D, 0, 0, 0⟩ acc.length) HI.out.r (Nat.le_trans HK.out.1 HI.out.ch.size) HK.out.2.1 (fun u y e _ => HK.out.2.2.1 u y e) g (0 + j * 5) (L.length - j) (cap - j) (L.drop j)
                  (fun e0 => by have := congrArg List.length e0; simp at this; omega) (by simp) (by omega) (fun u hu => HL.out.1 u (List.mem_of_mem_drop hu))
                  ((((hg.chg HK.out.2.2.2.1).scr HK.out.2.2.2.2).chg (HI.out.ch.mono (fun q _ e => by rw [e]; exact HK.out.2.1)) HK.out.1).drop j) (by omega) (by omega) (HI.out.nxt hn3) (by have := szs_take_le (L.drop j) (Ytfcpkcbiinbmiaa.wr 3 (L.drop j)).1; have := szs_drop_le L j; have := HL.out.2.1; omega)
                obtain ⟨Q, hQ⟩ : ∃ Q, wr_ 3 L j = Q := ⟨_, rfl⟩
                have hQ2 := hQ
                unfold wr_ at hQ2
                rw [hQ2] at A5 hfit
                have HQ : Hid (wr_ 3 L j = Q) := hQ
                obtain ⟨hq1, hq2, _⟩ := hfit
                have hq0 : (((Q.1 : Nat) : Int) == 0) = false := by simp; omega
                have hcz : (j : Int) < (L.length : Int) := by omega
                rw [show (((3 : Nat)) : Int) = 3 from rfl, Nat.zero_add] at A5
                clear hQ hQ2 hg
                go_wp2_with fail
                go_at_call 30
                refine A5.mono ?_
                clear A5
                rintro e w7 ⟨rfl, r7, c7⟩
                have HI7 : Hid (∃ rest', LC w6 w7 R a6 cap6 D (acc ++ Q.2) rest' L (j + Q.1)) := HI.out.step hn3 HQ.out r7 c7
                clear r7 c7
                go_wp2
                obtain ⟨rest', hI7⟩ := HI7.out
                exact ⟨⟨j + Q.1, acc ++ Q.2, rest', by go_num, hq2, hI7⟩, by simp [intOf]; omega⟩
          · have hn3 : n < L.length := by omega
            obtain ⟨g, ea, hg⟩ := HA.out (by omega)
            subst ea
            obtain ⟨f1, f2⟩ := HI.out.re.fits HL.out.1
            have hfit := wr_fits 3 L HL.out.1 n hn3
            have A2 := writes_any 3 wr Z B M v' n' (fun _ => false) 0 1000000 acc HI.out.yw g (0 + n * 5) (L.length - n) (cap - n) (L.drop n)
              (fun e0 => by have := congrArg List.length e0; simp at this; omega) (by simp) (by omega) (fun u hu => HL.out.1 u (List.mem_of_mem_drop hu))
              ((hg.chg (HI.out.ch.mono (fun q _ hq => HY0.out.wf q hq))).drop n)
              (by have h1 := szs_take_add L n (Ytfcpkcbiinbmiaa.wr 3 (L.drop n)).1; have h2 := szs_take_le L (n + (Ytfcpkcbiinbmiaa.wr 3 (L.drop n)).1); have := HL.out.2.1; omega)
              (fun _ _ => rfl) (by simp; have := HI.out.nn; omega) (by omega) (by omega)
            obtain ⟨Q, hQ⟩ : ∃ Q, wr_ 3 L n = Q := ⟨_, rfl⟩
            have hQ2 := hQ
            unfold wr_ at hQ2
            rw [hQ2] at A2 hfit
            have HQ : Hid (wr_ 3 L n = Q) := hQ
            obtain ⟨hq1, hq2, _⟩ := hfit
            have hcz : (n : Int) < (L.length : Int) := by omega
            rw [show (((3 : Nat)) : Int) = 3 from rfl, Nat.zero_add] at A2
            clear hQ hQ2 hg f1 f2
            go_wp2_with fail
            go_at_call 28
            refine A2.mono ?_
            clear A2
            rintro e w4 ⟨rfl, v4, n4, y4, c4, l4, nn4⟩
            have HI4 : Hid (LB w3 w4 Z B M v4 (n + Q.1) n4 (acc ++ Q.2) L) := HI.out.step hn3 HQ.out y4 c4 l4 nn4
            clear y4 c4 l4 nn4
            go_wp2
            exact ⟨⟨n + Q.1, n4, v4, acc ++ Q.2, by go_num, hq2, HI4⟩, by simp [intOf]; omega⟩
      · have hz1 : ¬ (k : Int) < (os.length : Int) := by omega
        obtain ⟨w3, e3⟩ : ∃ w3, w3 = wr := ⟨_, rfl⟩
        subst e3
        obtain ⟨L, hL⟩ : ∃ L, L = (sel os k).2 := ⟨_, rfl⟩
        have hI := HI.out
        obtain ⟨q1, q2, q3⟩ := hI
        obtain ⟨r1, r2, r3⟩ := sel_szs os k
        have r4 := sel_mem os k
        rw [← hL] at q1 r1 r2 r3 r4
        obtain ⟨Z, hZ⟩ : ∃ Z : Nat → Prop, ∀ q, Z q ↔ (q = B ∨ q = M ∨ w3.heap.size ≤ q) := ⟨fun q => q = B ∨ q = M ∨ w3.heap.size ≤ q, fun _ => Iff.rfl⟩
        obtain ⟨a, cap, ev, hc1, hc2, hA⟩ := q1.shape
        have hdd : ∀ v ∈ L, v.data w ∧ v.kind ≠ 7 ∧ v.str.size < 60000 := fun v hv => ⟨HS.out.2 v (r4 v hv).1, (r4 v hv).2⟩
        have hB3 : Below w.heap.size w w3 := HB2.out.1.trans (q2.below HB2.out.1.size (by simp))
        have hBl : B < w2.heap.size := lt_heap HB2.out.2.1.box
        have hMl : M < w2.heap.size := lt_heap HB2.out.2.1.map
        have hZw : ∀ q, q < w.heap.size → ¬ Z q := by
          intro q hq hz
          rcases (hZ q).1 hz with e | e | e
          · have := HB2.out.2.2.2; omega
          · have := HB2.out.2.2.1; omega
          · have := hB3.size; omega
        have HL : Hid ((∀ v ∈ L, v.bs.length = v.bl) ∧ szs L < 900000 ∧ Below w.heap.size w w3 ∧ (∀ q, q < w.heap.size → ¬ Z q) ∧ (∀ q, w3.heap.size ≤ q → Z q)) := ⟨fun v hv => (hdd v hv).1.2.1.1, r2, hB3, hZw, fun q hq => (hZ q).2 (.inr (.inr hq))⟩
        have HA : Hid (0 < L.length → ∃ g, a = some ⟨g, 0, none⟩ ∧ ScrZ w3 Z g 0 L) := by
          intro hp
          obtain ⟨g, e, h1, h2, h3⟩ := hA hp
          refine ⟨g, e, scr_mk hdd hB3 h3 h1 Z (fun hz => ?_) hZw⟩
          have := q3 g h2
          rcases (hZ g).1 hz with e | e | e <;> omega
        have HY0 : Hid (YW w3 Z B M (.slice none 0 0) 0 (fun _ => false) 0 1000000 []) :=
          ⟨⟨⟨_, HB2.out.2.1.other q2 (fun _ _ x => x)⟩, om_made w3 M (q2.heap HB2.out.2.1.map (fun x => x))⟩, (hZ B).2 (.inl rfl), (hZ M).2 (.inr (.inl rfl)), fun q e => (by cases e), fun q hq => (hZ q).2 (.inr (.inr hq))⟩
        have hL60 : L.length ≤ 60 := by omega
        subst ev
        clear q1 q2 q3 r1 r2 r4 hA hdd hB3 hBl hMl hZw hZ HI hL r3
        clear HS HB2
        have HB0 : Hid (LB w3 w3 Z B M (.slice none 0 0) 0 0 [] L) := ⟨.zero, HY0.out, Chg.refl _ _, .inl rfl, by omega⟩
        go_wp2_with fail
        go_loopw [10, 11] (fun s10 s11 wr => ∃ (n n' : Nat) (v' : Value) (acc : List Int), s10 = .int .i64 n ∧ n ≤ L.length ∧ Hid (LB w3 wr Z B M v' n n' acc L)) (fun s10 _ _ => L.length - (intOf s10).toNat)
        case atStart => exact ⟨0, 0, _, [], rfl, by omega, HB0⟩
        case round =>
          obtain ⟨n, n', v', acc, rfl, hnl, HI⟩ := hrel
          clear HB0
          by_cases hn2 : n = L.length
          · skip
            obtain ⟨w4, e4⟩ : ∃ w4, w4 = wr := ⟨_, rfl⟩
            subst e4
            obtain ⟨clk, hdW⟩ := HI.out.done
            have A3 := done_ok w4 B M v' clk 1000000 acc hdW
            have hnz : ¬ (n : Int) < (L.length : Int) := by omega
            have HT : Hid (Tail L 0 acc) := Rec.all (by rw [← hn2]; exact HI.out.re)
            have hDl : acc.length ≤ 1000000 := hdW.len_le
            have HZ4 : Hid (Chg w3 w4 Z) := HI.out.ch.mono (fun q _ hq => HY0.out.wf q hq)
            clear HI hdW
            go_wp2_with fail
            go_at_call 29
            refine A3.mono ?_
            clear A3
            rintro e w5 ⟨v5, rfl, o5, f5, c5⟩
            obtain ⟨a5, cap5, e5, _, _, b5⟩ := o5.shape (by omega)
            subst e5
            have A4 := newReader_any w5 a5 acc.length cap5 acc b5
            have HZ5 : Hid (Chg w3 w5 Z) := HZ4.out.trans c5 (fun _ _ h => h.elim)
            clear o5 f5 c5 b5 HZ4
            go_wp2_with fail
            go_at_call 15
            refine A4.mono ?_
            clear A4
            rintro e w6 ⟨R, a6, cap6, rfl, r6, c6, hR6, ha6⟩
            obtain ⟨K, hK⟩ : ∃ K, K = w5.heap.size := ⟨_, rfl⟩
            rw [← hK] at hR6 ha6
            have hZ6 : Chg w3 w6 Z := HZ5.out.trans c6 (fun _ _ h => h.elim)
            have HZ : Hid (Below w.heap.size w w6 ∧ w.heap.size ≤ R) := ⟨HL.out.2.2.1.trans (hZ6.below HL.out.2.2.1.size (fun q hq => HL.out.2.2.2.1 q hq)), Nat.le_trans (Nat.le_trans HL.out.2.2.1.size HZ5.out.size) (by omega)⟩
            have HK : Hid (K ≤ w6.heap.size ∧ K ≤ R ∧ (∀ u y, a6 = some ⟨u, y, none⟩ → K ≤ u) ∧ Chg w3 w6 Z ∧ (∀ q, K ≤ q → Z q)) := ⟨by rw [hK]; exact c6.size, hR6, ha6, hZ6, fun q hq => HL.out.2.2.2.2 q (by have := HZ5.out.size; omega)⟩
            have HC0 : Hid (LC w6 w6 R a6 cap6 acc [] acc L 0) := ⟨HT.out, rfl, by simpa [RS.on, IsRS] using r6, Chg.refl _ _⟩
            clear r6 c6 hR6 ha6 hK hZ6 HZ5 HT
            obtain ⟨D, hD⟩ : ∃ D, D = acc := ⟨_, rfl⟩
            rw [← hD] at HC0 hDl ⊢
            clear hD hn2 hnl
            go_wp2_with fail
            go_loopw [15, 16] (fun s15 s16 wr => ∃ (j : Nat) (acc rest : List Int), s15 = .int .i64 j ∧ j ≤ L.length ∧ Hid (LC w6 wr R a6 cap6 D acc rest L j)) (fun s15 _ _ => L.length - (intOf s15).toNat)
            case atStart => exact ⟨0, [], D, rfl, by omega, HC0⟩
            case round =>
              obtain ⟨j, acc, rest, rfl, hnl, HI⟩ := hrel
              clear HC0
              by_cases hn2 : j = L.length
              · skip
                have A7 := end_any wr R a6 cap6 _ (HI.out.last hn2)
                have hend : (⟨D, D.length, 0, 0⟩ : RS).end = ⟨D, D.length, 0, 0⟩ := RS.end_at rfl rfl
                rw [hend] at A7
                have HW : Hid (Below w.heap.size w wr ∧ w.heap.size ≤ R) := ⟨HZ.out.1.trans (HI.out.ch.below HZ.out.1.size (fun q hq e => by have := HZ.out.2; omega)), HZ.out.2⟩
                have hnz : ¬ (j : Int) < (L.length : Int) := by omega
                clear HI
                go_wp2_with fail
                go_at_call 24
                refine A7.mono ?_
                clear A7
                rintro e w7 ⟨rfl, r7, c7⟩
                have A8 := rerr_any w7 R a6 cap6 _ r7
                have HW7 : Hid (Below w.heap.size w w7) := HW.out.1.trans (c7.below HW.out.1.size (fun q hq e => by have := HW.out.2; omega))
                clear HW r7 c7
                go_wp2_with fail
                go_at_call 18
                refine A8.mono ?_
                clear A8
                rintro e w8 ⟨rfl, r8, c8⟩
                have HW8 : Hid (Below w.heap.size w w8) := HW7.out.trans (c8.below HW7.out.size (by simp))
                have A9 := rat_any w8 R a6 cap6 _ r8
                have A10 := left_any w8 R a6 cap6 _ r8
                have hlf : (⟨D, D.length, 0, 0⟩ : RS).left = 0 := by simp [RS.left]
                rw [hlf] at A10
                clear HW7 r8 c8 hlf hend
                go_wp2_with (first
                  | (go_at_call 19; refine A9.mono ?_; clear A9; rintro e wx ⟨rfl, hwx⟩; subst hwx)
                  | (go_at_call 20; refine A10.mono ?_; clear A10; rintro e wy ⟨rfl, _, cy⟩; have HWy : Hid (Below w.heap.size w wy) := HW8.out.trans (cy.below HW8.out.size (by simp)); clear cy))
                go_ret
                exact ⟨by simp, HWy.out⟩
              · have hn3 : j < L.length := by omega
                obtain ⟨g, ea, hg⟩ := HA.out (by omega)
                subst ea
                have hfit := wr_fits 3 L HL.out.1 j hn3
                have A5 := reads_any 3 wr K R a6 cap6 (RS.on ⟨D, 0, 0, 0⟩ acc.length) HI.out.r (Nat.le_trans HK.out.1 HI.out.ch.size) HK.out.2.1 (fun u y e _ => HK.out.2.2.1 u y e) g (0 + j * 5) (L.length - j) (cap - j) (L.drop j)
                  (fun e0 => by have := congrArg List.length e0; simp at this; omega) (by simp) (by omega) (fun u hu => HL.out.1 u (List.mem_of_mem_drop hu))
                  ((((hg.chg HK.out.2.2.2.1).scr HK.out.2.2.2.2).chg (HI.out.ch.mono (fun q _ e => by rw [e]; exact HK.out.2.1)) HK.out.1).drop j) (by omega) (by omega) (HI.out.nxt hn3) (by have := szs_take_le (L.drop j) (Ytfcpkcbiinbmiaa.wr 3 (L.drop j)).1; have := szs_drop_le L j; have := HL.out.2.1; omega)
                obtain ⟨Q, hQ⟩ : ∃ Q, wr_ 3 L j = Q := ⟨_, rfl⟩
                have hQ2 := hQ
                unfold wr_ at hQ2
                rw [hQ2] at A5 hfit
                have HQ : Hid (wr_ 3 L j = Q) := hQ
                obtain ⟨hq1, hq2, _⟩ := hfit
                have hq0 : (((Q.1 : Nat) : Int) == 0) = false := by simp; omega
                have hcz : (j : Int) < (L.length : Int) := by omega
                rw [show (((3 : Nat)) : Int) = 3 from rfl, Nat.zero_add] at A5
                clear hQ hQ2 hg
                go_wp2_with fail
                go_at_call 30
                refine A5.mono ?_
                clear A5
                rintro e w7 ⟨rfl, r7, c7⟩
                have HI7 : Hid (∃ rest', LC w6 w7 R a6 cap6 D (acc ++ Q.2) rest' L (j + Q.1)) := HI.out.step hn3 HQ.out r7 c7
                clear r7 c7
                go_wp2
                obtain ⟨rest', hI7⟩ := HI7.out
                exact ⟨⟨j + Q.1, acc ++ Q.2, rest', by go_num, hq2, hI7⟩, by simp [intOf]; omega⟩
          · have hn3 : n < L.length := by omega
            obtain ⟨g, ea, hg⟩ := HA.out (by omega)
            subst ea
            obtain ⟨f1, f2⟩ := HI.out.re.fits HL.out.1
            have hfit := wr_fits 3 L HL.out.1 n hn3
            have A2 := writes_any 3 wr Z B M v' n' (fun _ => false) 0 1000000 acc HI.out.yw g (0 + n * 5) (L.length - n) (cap - n) (L.drop n)
              (fun e0 => by have := congrArg List.length e0; simp at this; omega) (by simp) (by omega) (fun u hu => HL.out.1 u (List.mem_of_mem_drop hu))
              ((hg.chg (HI.out.ch.mono (fun q _ hq => HY0.out.wf q hq))).drop n)
              (by have h1 := szs_take_add L n (Ytfcpkcbiinbmiaa.wr 3 (L.drop n)).1; have h2 := szs_take_le L (n + (Ytfcpkcbiinbmiaa.wr 3 (L.drop n)).1); have := HL.out.2.1; omega)
              (fun _ _ => rfl) (by simp; have := HI.out.nn; omega) (by omega) (by omega)
            obtain ⟨Q, hQ⟩ : ∃ Q, wr_ 3 L n = Q := ⟨_, rfl⟩
            have hQ2 := hQ
            unfold wr_ at hQ2
            rw [hQ2] at A2 hfit
            have HQ : Hid (wr_ 3 L n = Q) := hQ
            obtain ⟨hq1, hq2, _⟩ := hfit
            have hcz : (n : Int) < (L.length : Int) := by omega
            rw [show (((3 : Nat)) : Int) = 3 from rfl, Nat.zero_add] at A2
            clear hQ hQ2 hg f1 f2
            go_wp2_with fail
            go_at_call 28
            refine A2.mono ?_
            clear A2
            rintro e w4 ⟨rfl, v4, n4, y4, c4, l4, nn4⟩
            have HI4 : Hid (LB w3 w4 Z B M v4 (n + Q.1) n4 (acc ++ Q.2) L) := HI.out.step hn3 HQ.out y4 c4 l4 nn4
            clear y4 c4 l4 nn4
            go_wp2
            exact ⟨⟨n + Q.1, n4, v4, acc ++ Q.2, by go_num, hq2, HI4⟩, by simp [intOf]; omega⟩
end Go.Proofs.Ytfcpkcbiinbmiaa
