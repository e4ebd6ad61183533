import Derived.Test.YtkndlkcbhpfjoaaNpa
import Derived.Deep.RegionHeld3
namespace Go.Proofs.Ytkndlkcbhpfjoaa
open Go.ChangeShapes Go.WideShapes Go.ChangeAt Go.RowKit Go.Shelf
set_option linter.unusedVariables false
/-- Numbers, in a list of one's own. -/
abbrev OZ (w : World) (v : Value) (l : List Int) : Prop := w.ownsRow 0 3 1 v l.length (l.map fun i => .int .i64 i)
theorem OZ.at {w : World} {v : Value} {l : List Int} (h : OZ w v l) (h0 : 0 < l.length) : ∃ g cap, v = .slice (some ⟨g, 0, none⟩) l.length cap ∧ v.ownBlock = some g ∧ g < w.heap.size ∧ ∀ i (hi : i < l.length), w.cell? ⟨g, i, none⟩ = some (.int .i64 l[i]) := by
  rcases h.2 with ⟨h1, h2⟩ | ⟨g, cap, cur, h1, h2, h3, h4, h5, h6, h7⟩
  · omega
  · refine ⟨g, cap, h1, by rw [h1]; rfl, hp_lt h3, fun i hi => ?_⟩
    rw [(cells_at h3 i).1, ← Array.getElem?_toList]
    have e := congrArg (fun l => l[i]?) h7
    simp only [Nat.mul_one] at e
    rw [List.getElem?_take, if_pos hi] at e
    rw [e]
    simp [hi]
/-- 'append(v, n)'. -/
theorem app_z (w : World) (v : Value) (l : List Int) (h : OZ w v l) (n : Int) (hl : l.length < 100) (hn : ∀ k, v.ownBlock = some k → k < w.heap.size) :
    ∃ v' w', (Builtin.append_ #[22, 22] 22 #[v, .slice (some ⟨w.heap.size, 0, none⟩) 1 1]).run Try.prog (w.alloc (.cells #[.int .i64 n] 3)) = .ok v' w' ∧ OZ w' v' (l ++ [n]) ∧ Chg w w' (fun i => v.ownBlock = some i) ∧ Loc (w.alloc (.cells #[.int .i64 n] 3)) v v' := by
  obtain ⟨i0, hi, hz, hs, hb⟩ := info3p
  have ha : OZ (w.alloc (.cells #[.int .i64 n] 3)) v l := Chg.owns ((Chg.refl w (fun _ => False)).alloc _) h (fun _ _ h => h)
  obtain ⟨v', w', hr, ho, hg, hL⟩ := run_app (P := Try.prog) (w.alloc (.cells #[.int .i64 n] 3)) 22 22 3 i0 (.int .i64 0) 1 8 Try.underlying22 hi hz hs hb rfl (by omega) v l.length _ ha (some ⟨w.heap.size, 0, none⟩) 1 1 [.int .i64 n] rfl (.inr ⟨_, _, rfl, fun j u hu => by
    have : j = 0 := by cases j with
      | zero => rfl
      | succ j => simp at hu
    subst this
    rw [(cells_at (heap_alloc_new w _) _).1]
    simpa using hu⟩) (by simp [Value.oneCell']) (by simp [maxLen]; omega) (by omega)
  refine ⟨v', w', hr, ?_, ?_, hL⟩
  · have e1 : (l ++ [n]).length = l.length + 1 := by simp
    unfold OZ
    rw [e1, List.map_append]
    exact ho
  · exact Chg.grown ((Chg.refl w _).alloc _) hg (fun k hk => .inl hk)
structure LoZ (w wr : World) (b : Nat) (A : Array Value) (v : Value) (l : List Int) : Prop where
  bx : wr.heap[b]? = some (.cells A 38 (0, 0))
  kp : Kp w wr
  ow : OZ wr v l
  nw : ∀ k, v.ownBlock = some k → w.heap.size ≤ k ∧ k ≠ b ∧ k < wr.heap.size
def zl (Z : Nat → Int) (j : Nat) : List Int := (List.range j).map Z
theorem zl_len (Z : Nat → Int) (j : Nat) : (zl Z j).length = j := by simp [zl]
theorem zl_succ (Z : Nat → Int) (j : Nat) : zl Z (j + 1) = zl Z j ++ [Z j] := by simp [zl, List.range_succ]
theorem zl_at (Z : Nat → Int) (j i : Nat) (h : i < (zl Z j).length) : (zl Z j)[i] = Z i := by simp [zl]
theorem zcs_38 (Z : Nat → Int) (p m : Nat) : (Try.prog.info? 38).map (·.size) = some (zcs Z p m).length := by rw [zcs_len]; kernel_rfl
theorem zcs_p (Z : Nat → Int) (p m : Nat) : (zcs Z p m)[32]? = some (.int .u32 (p : Nat)) := by
  unfold zcs
  rw [List.getElem?_append_right (by simp)]
  simp
theorem zcs_m (Z : Nat → Int) (p m : Nat) : (zcs Z p m)[33]? = some (.int .u32 (m : Nat)) := by
  unfold zcs
  rw [List.getElem?_append_right (by simp)]
  simp
set_option maxHeartbeats 4000000 in
set_option maxRecDepth 10000 in
theorem pload_any (w : World) (q B F R P M : Nat) (s : GS) (h : IsP w q B F R P M s) (Z : Nat → Int) (p m : Nat) (hp : p < 4294967296) (hm : m < 4294967296) :
    Calls Try.prog 45 #[.pointer (some ⟨q, 0, none⟩), .agg (zcs Z p m).toArray] w fun e w' => e = .returned (.bool true) ∧ ∃ s', IsP w' q B F R P M s' ∧ Chg w w' (Pf B F R P M) := by
  obtain ⟨w1, hw1⟩ : ∃ w1, w1 = w.alloc (.cells (zcs Z p m).toArray 38) := ⟨_, rfl⟩
  have k1 : Kp w w1 := by rw [hw1]; exact (Chg.refl w _).alloc _
  have g1 : w1.heap[w.heap.size]? = some (.cells (zcs Z p m).toArray 38 (0, 0)) := by rw [hw1]; exact heap_alloc_new w _
  have HI : Hid (IsP w q B F R P M s ∧ p < 4294967296 ∧ m < 4294967296) := ⟨h, hp, hm⟩
  have hA : ∀ i, i < 32 → (zcs Z p m).toArray[i]? = some (.int .i64 (Z i)) := fun i hi => by rw [List.getElem?_toArray, zcs_rt Z p m i hi]
  have HA : Hid ((zcs Z p m).toArray[32]? = some (.int .u32 (p : Nat)) ∧ (zcs Z p m).toArray[33]? = some (.int .u32 (m : Nat))) := ⟨by rw [List.getElem?_toArray]; exact zcs_p Z p m, by rw [List.getElem?_toArray]; exact zcs_m Z p m⟩
  obtain ⟨C, hC⟩ : ∃ C, C = zcs Z p m := ⟨_, rfl⟩
  rw [← hC] at hA g1 hw1 HA
  rw [← hC]
  have HC : Hid (C = zcs Z p m) := hC
  have HI0 : Hid (LoZ w w1 w.heap.size C.toArray (.slice none 0 0) (zl Z 0)) := ⟨g1, k1, ⟨rfl, .inl ⟨rfl, rfl⟩⟩, fun k hk => by cases hk⟩
  clear h hp hm hC g1 k1
  generalize hb3 : w.heap.size = b3 at *
  have HB : Hid (w.heap.size = b3) := hb3
  go_enter Try.func45, Try.ntmps45
  go_upto_region 1 with fail
  rw [← hw1]
  clear hw1 hb3
  go_wp2
  go_loopw [5, 6] (fun s5 s6 wr => ∃ (v : Value) (j : Nat), v = s5 ∧ s6 = .int .i64 j ∧ j ≤ 32 ∧ Hid (LoZ w wr b3 C.toArray v (zl Z j))) (fun _ s6 _ => 32 - (intOf s6).toNat)
  case atStart => exact ⟨_, 0, rfl, rfl, by omega, HI0⟩
  case round =>
    obtain ⟨v, j, rfl, rfl, hj, HL⟩ := hrel
    clear HI0
    by_cases hlt : j < 32
    · have hjz : (j : Int) < 32 := by omega
      have cj := (cells_at HL.out.bx j).1
      rw [hA j hlt] at cj
      obtain ⟨v', w', hrun, ho, hc, hLoc⟩ := app_z wr v _ HL.out.ow (Z j) (by rw [zl_len]; omega) (fun k hk => (HL.out.nw k hk).2.2)
      have HN : Hid (LoZ w w' b3 C.toArray v' (zl Z (j + 1))) := by
        rw [zl_succ]
        refine ⟨hc.heap HL.out.bx (fun e => (HL.out.nw _ e).2.1 rfl), Chg.trans HL.out.kp hc (fun i hi e => by have := (HL.out.nw i e).1; omega), ho, fun k hk => ?_⟩
        have hk' : k < w'.heap.size := by
          rcases ho.2 with ⟨e, _⟩ | ⟨g, cap, cur, e, _, hg, _⟩
          · rw [e] at hk; cases hk
          · rw [e] at hk; cases hk; exact hp_lt hg
        have hb6 : b3 < wr.heap.size := hp_lt HL.out.bx
        rcases hLoc with e | ⟨k', e, hk2⟩
        · rw [e] at hk; exact ⟨(HL.out.nw k hk).1, (HL.out.nw k hk).2.1, hk'⟩
        · rw [e] at hk; cases hk
          have := HL.out.kp.size
          simp at hk2
          exact ⟨by omega, by omega, hk'⟩
      clear ho hc hLoc hA HI HA
      generalize Z j = z at *
      go_wp2_with (at_builtin; refine wpList_append_run _ rfl (.tmp 12) (.tmp 17) 22 22 rfl _ _ v' w' rfl rfl hrun ?_)
      exact ⟨⟨v', j + 1, rfl, by go_num, by omega, HN⟩, by simp [intOf]; omega⟩
    · have hjz : ¬ (j : Int) < 32 := by omega
      obtain rfl : j = 32 := by omega
      clear hA
      have kd : Kp wr wr.drew := (Chg.refl wr _).drew
      have k0 : Kp w wr.drew := Kp.trans HL.out.kp kd
      have iq := HI.out.1.kp k0
      have bx := kd.heap HL.out.bx
      have hrg : wr.drew.rangeAt b3 0 C := fun j u hu => by rw [Nat.zero_add, (cells_at bx j).1, List.getElem?_toArray]; exact hu
      have hsz : (Try.prog.info? 38).map (·.size) = some C.length := by rw [HC.out]; exact zcs_38 Z p m
      have nB : b3 ≠ B ∧ ¬ Ff F R P M b3 := by
        have := HI.out.1.lt
        have e := HB.out
        exact ⟨fun x => by have := this B (.inl rfl); omega, fun x => by have := this b3 (.inr x); omega⟩
      have hG := gLoad_any wr.drew B s iq.g HI.out.1.ok Z p m HI.out.2.1 HI.out.2.2
      rw [← HC.out] at hG
      have hG2 : Calls Try.prog 18 #[.pointer (some ⟨B, 0, none⟩), .agg C.toArray] wr.drew fun e w1 => ∃ r, e = .returned (.int .i64 r) ∧ (w1.cell? ⟨q, 0, none⟩ = some (.pointer (some ⟨B, 0, none⟩)) ∧ w1.rangeAt b3 0 C) ∧ Hid (GLd wr.drew B s Z p m e w1) := by
        refine hG.mono ?_
        intro e w1 H
        have H0 := H
        obtain ⟨r, s1, rfl, h1, h2, h3, h4⟩ := H0
        refine ⟨r, rfl, ⟨?_, ?_⟩, H⟩
        · have g := h3.heap iq.bx (iq.qb)
          rw [(cells_at g 0).1]; rfl
        · have g := h3.heap bx nB.1
          exact fun j u hu => by rw [Nat.zero_add, (cells_at g j).1, List.getElem?_toArray]; exact hu
      have HK : Hid (Kp w wr ∧ Kp wr wr.drew ∧ b3 ≠ B ∧ ¬ Ff F R P M b3) := ⟨HL.out.kp, kd, nB⟩
      have c0 := iq.c0
      clear hG kd k0 iq bx hlt hjz hj nB
      go_upto_region 6 with fail
      refine reg45_6 wr q B b3 C hsz (fun r w1 => Hid (GLd wr.drew B s Z p m (.returned (.int .i64 r)) w1)) ⟨c0, hrg⟩ (hG2.mono (by rintro e w1 ⟨r, rfl, h1, h2⟩; exact ⟨r, rfl, h1, h2⟩)) _ (fun _ _ _ d _ h => by cases d <;> exact h) ?_
      clear hG2 c0 hrg hsz
      intro r w1 H1
      obtain ⟨L, cap, hv, hLo, hLl, hLc⟩ := OZ.at HL.out.ow (by rw [zl_len]; omega)
      have hlen : (zl Z 32).length = 32 := zl_len Z 32
      rw [hlen] at hv
      subst hv
      have hF0 := hLo
      clear hlen
      obtain ⟨x1, x2, x3, x4⟩ := HK.out
      have hGL : GLd wr.drew B s Z p m (.returned (.int .i64 r)) w1 := H1.out
      obtain ⟨r', s1, er, hr, g1, c1, n1, z1, o1⟩ := hGL
      cases er
      have kd : Kp w1 w1.drew := (Chg.refl w1 _).drew
      have c2 : Chg wr w1.drew (fun k => k = B) := Chg.trans (x2.any.trans c1 (fun _ _ e => e)) kd.any (fun _ _ e => e)
      have iq := HI.out.1.kp x1
      have bx2 := c2.heap HL.out.bx x3
      have nL := HL.out.nw L hLo
      have nLp : ∀ k, Pf B F R P M k → L ≠ k := fun k hk e => by have := HI.out.1.lt k hk; omega
      have hLd : ∀ i, i < 32 → w1.drew.cell? ⟨L, i, none⟩ = some (.int .i64 (Z i)) := fun i hi => by
        have := hLc i (by rw [zl_len]; exact hi)
        rw [zl_at] at this
        exact (c2.cell hLl (fun e => nLp B (.inl rfl) e)).trans this
      have fF := iq.f.chg c2 (fun k hk e => iq.nb (by rw [← e]; exact hk))
      have hF := fLoad_any w1.drew F R P M s fF Z p m HI.out.2.1 HI.out.2.2 L cap hLd (fun hk => nLp L (.inr hk) rfl)
      have q1 := c2.heap iq.bx iq.qb
      have hF2 : Calls Try.prog 56 #[.pointer (some ⟨F, 0, none⟩), .slice (some ⟨L, 0, none⟩) 32 cap, .int .u32 (p : Nat), .int .u32 (m : Nat)] w1.drew fun e w3 => e = .returned (.int .i64 r) ∧ (w3.cell? ⟨q, 1, none⟩ = some (.pointer (some ⟨F, 0, none⟩)) ∧ w3.cell? ⟨b3, 32, none⟩ = some (.int .u32 (p : Nat)) ∧ w3.cell? ⟨b3, 33, none⟩ = some (.int .u32 (m : Nat))) ∧ Hid (∃ s', IsP w3 q B F R P M s' ∧ Chg w w3 (Pf B F R P M)) := by
        refine hF.mono ?_
        rintro e w3 ⟨r2, s2, rfl, hr2, f2, c3, n2, z2⟩
        have e2 : r2 = r := LdR.one hr2 hr
        have es : s2 = s1 := by
          by_cases h0 : r = 0
          · rw [z2 (e2.trans h0), z1 h0]
          · rw [n2 (by rw [e2]; exact h0), n1 h0]
        subst e2 es
        have b1 := c3.heap q1 iq.nq
        have b2 := c3.heap bx2 x4
        have go := iq.go (w' := w1.drew) (w2 := w3) (t := s2) (g1.kp kd) c2 f2 c3 o1
        refine ⟨rfl, ⟨?_, ?_, ?_⟩, s2, go.1, Chg.trans x1.any go.2 (fun _ _ e => e)⟩
        · rw [(cells_at b1 1).1]; rfl
        · rw [(cells_at b2 32).1]; exact HA.out.1
        · rw [(cells_at b2 33).1]; exact HA.out.2
      have d1 : w1.drew.cell? ⟨q, 1, none⟩ = some (.pointer (some ⟨F, 0, none⟩)) := by rw [(cells_at q1 1).1]; rfl
      have d2 : w1.drew.cell? ⟨b3, 32, none⟩ = some (.int .u32 (p : Nat)) := by rw [(cells_at bx2 32).1]; exact HA.out.1
      have d3 : w1.drew.cell? ⟨b3, 33, none⟩ = some (.int .u32 (m : Nat)) := by rw [(cells_at bx2 33).1]; exact HA.out.2
      clear hF fF hLd nLp nL bx2 iq c2 kd hr g1 c1 n1 z1 o1 x1 x2 x3 x4 hF0 hLc hLl hLo q1 H1 HK HL HI HA HC HB
      go_wp2_with fail
      go_region_held3 (fun w' => w'.cell? ⟨q, 1, none⟩ = some (.pointer (some ⟨F, 0, none⟩)) ∧ w'.cell? ⟨b3, 32, none⟩ = some (.int .u32 (p : Nat)) ∧ w'.cell? ⟨b3, 33, none⟩ = some (.int .u32 (m : Nat))) (first | exact ⟨by assumption, by assumption, by assumption⟩ | assumption) (first | (go_at_call 40; refine (num_any _ _).mono ?_; rintro e wz ⟨rfl, hwz⟩; rw [hwz]; clear hwz) | (go_at_call 56; with_reducible refine hF2.mono ?_; rintro e w3 ⟨rfl, HS3, H3⟩))
      all_goals go_wp2
      all_goals go_ret
      all_goals exact ⟨rfl, H3.out⟩
end Go.Proofs.Ytkndlkcbhpfjoaa
