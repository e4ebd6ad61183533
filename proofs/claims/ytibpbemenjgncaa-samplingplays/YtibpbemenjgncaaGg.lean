import Derived.Test.YtibpbemenjgncaaGf
import Derived.Test.YtibpbemenjgncaaGa
import Derived.BigQuiet
namespace Go.Proofs.Ytibpbemenjgncaa
open Go.ChangeShapes Go.WideShapes Go.ChangeAt Go.RowKit
set_option linter.unusedVariables false
theorem same_eq (w : World) (v u : Value) (xs : List Int) (hx : Bs w v xs) (hy : Bs w u xs) :
    Calls Try.prog 13 #[v, u] w fun r w' => r = .returned (.bool true) ∧ ∃ m, w' = w.drewN m :=
  (same_any w v u xs xs hx hy).mono fun r w' h => by simpa using h
theorem fill_next (xs : List Int) (m : Int) (k : Nat) (hk : k < xs.length) : (List.replicate k m ++ xs.drop k).set k m = List.replicate (k + 1) m ++ xs.drop (k + 1) := by
  apply List.ext_getElem?
  intro j
  rw [List.getElem?_set]
  by_cases e : k = j
  · subst e
    rw [if_pos rfl, if_pos (by simp; omega), List.getElem?_append_left (by simp)]
    simp
  · rw [if_neg e]
    by_cases h : j < k
    · rw [List.getElem?_append_left (by simpa using h), List.getElem?_append_left (by simp; omega)]
      simp [h, Nat.lt_succ_of_lt h]
    · rw [List.getElem?_append_right (by simp; omega), List.getElem?_append_right (by simp; omega)]
      simp
      congr 1
      omega
theorem fill_len (xs : List Int) (m : Int) (k : Nat) (hk : k ≤ xs.length) : (List.replicate k m ++ xs.drop k).length = xs.length := by simp; omega
theorem mk_rem (n : Nat) : ((n : Nat) : Int).tmod 254 = ((n % 254 : Nat) : Int) := rfl
theorem quiet_add {P : Program} {f : FuncId} {args : Array Value} {w : World} {m x : Nat} {v : Value} (h : Calls P f args (w.drewN (m + x)) fun e w' => e = .returned v ∧ ∃ k, w' = (w.drewN (m + x)).drewN k) : Calls P f args (w.drewN (m + x)) fun e w'' => e = .returned v ∧ ∃ n, w'' = w.drewN (m + n) :=
  h.mono fun _ _ ⟨he, k, hk⟩ => ⟨he, x + k, by rw [hk, World.drewN_drewN, Nat.add_assoc]⟩
/-- The book as looks leaves it. -/
def LkP (W w w' : World) (σ : Nat → Nat) (K : Nat) (MM : List Int) (fr hd ll : List Ent) : Prop := ∃ σ' V' X', BkA W w' σ' K V' X' (MM ++ mms ll.length hd ++ mms ll.length hd) [] fr (ll ++ mks ll.length hd ++ lgs ll.length hd) ∧ Pg W w w' σ ∧ ∀ b, b < w.heap.size → σ' b = σ b
set_option maxHeartbeats 4000000 in
set_option maxRecDepth 10000 in
theorem looks_any (W w : World) (σ : Nat → Nat) (K : Nat) (V : Nat → Value) (X : Nat → List Value) (MM : List Int) (fr hd ll : List Ent) (hB : BkA W w σ K V X MM fr hd ll) (hW : W.heap.size ≤ w.heap.size) (hn : ll.length + 2 * hd.length < 200000) :
    Calls Try.prog 22 #[.pointer (some ⟨K, 0, none⟩)] w fun e w' => e = .returned (.bool true) ∧ LkP W w w' σ K MM fr hd ll := by
  have HB : Hid (BkA W w σ K V X MM fr hd ll ∧ W.heap.size ≤ w.heap.size) := ⟨hB, hW⟩
  obtain ⟨a4, c4, e4⟩ := list_shape (hB.m.own 4 (by omega) (by omega))
  obtain ⟨a5, c5, e5⟩ := list_shape (hB.m.own 5 (by omega) (by omega))
  obtain ⟨a0, c0, e0⟩ := list_shape (hB.m.own 0 (by omega) (by omega))
  have q4 := (hB.m.cell (i := 4) (by omega)).1
  have q5 := (hB.m.cell (i := 5) (by omega)).1
  have q0 := (hB.m.cell (i := 0) (by omega)).1
  rw [e4, hB.r4.len] at q4
  rw [e5, hB.r5.len] at q5
  rw [e0, hB.r0.len] at q0
  have HE : Hid (V 4 = .slice a4 hd.length c4 ∧ V 5 = .slice a5 hd.length c5) := ⟨by rw [e4, hB.r4.len], by rw [e5, hB.r5.len]⟩
  clear hB hW e4 e5 e0
  go_enter Try.func22, Try.ntmps22
  go_wp2_with fail
  go_loopw [3, 4, 5] (fun s3 s4 s5 wr => ∃ i : Nat, s4 = .int .i64 i ∧ s3 = .bool true ∧ i ≤ hd.length ∧ ∃ m, wr = w.drewN m) (fun _ s4 _ _ => hd.length - nI s4)
  case atStart => exact ⟨0, rfl, rfl, by omega, 0, rfl⟩
  case round =>
    obtain ⟨i, rfl, rfl, hi, m, rfl⟩ := hrel
    have z4 := Kp.cell (Kp.drewN w m) q4
    have z5 := Kp.cell (Kp.drewN w m) q5
    by_cases hlt : i < hd.length
    · have hiz : (i : Int) < (hd.length : Int) := by omega
      obtain ⟨hB, hW⟩ := HB.out
      obtain ⟨E4, E5⟩ := HE.out
      obtain ⟨g4, k4, t4, d4⟩ := own_cell (hB.m.own 4 (by omega) (by omega)) rfl i (by rw [hB.r4.len]; exact hlt)
      obtain ⟨g5, k5, t5, d5⟩ := own_cell (hB.m.own 5 (by omega) (by omega)) rfl i (by rw [hB.r5.len]; exact hlt)
      rw [E4, hB.r4.len] at t4
      rw [E5, hB.r5.len] at t5
      obtain ⟨rfl, rfl⟩ : a4 = some ⟨g4, 0, none⟩ ∧ c4 = k4 := by simpa using t4
      obtain ⟨rfl, rfl⟩ : a5 = some ⟨g5, 0, none⟩ ∧ c5 = k5 := by simpa using t5
      have o4 := (hB.r4.rw i _ hd[i] (List.getElem?_eq_getElem (by rw [hB.r4.len]; exact hlt)) (List.getElem?_eq_getElem hlt)).1
      have o5 := (hB.r5.rw i _ hd[i] (List.getElem?_eq_getElem (by rw [hB.r5.len]; exact hlt)) (List.getElem?_eq_getElem hlt)).1
      have s1 := hB.s1 hd[i] (List.mem_append.2 (.inl (List.getElem_mem hlt)))
      obtain ⟨pa, pc, hp⟩ := o4.shape
      obtain ⟨ra, rc, hr⟩ := o5.shape
      rw [hp] at d4 o4
      rw [hr] at d5 o5
      have HO : Hid (Bs w (.slice pa hd[i].2.length pc) hd[i].2 ∧ Bs w (.slice ra hd[i].2.length rc) hd[i].2) := ⟨o4.bs (by omega), o5.bs (by omega)⟩
      clear hB hW E4 E5 t4 t5 o4 o5 hp hr s1
      generalize hd[i].2 = xs at *
      have y4 := Kp.cell (Kp.drewN w m) d4
      have y5 := Kp.cell (Kp.drewN w m) d5
      go_upto_region 5 with fail
      go_quiet (first | (go_at_call 13; exact quiet_add (same_eq _ _ _ xs (HO.out.1.kp (Kp.drewN _ _)) (HO.out.2.kp (Kp.drewN _ _)))) | fail)
      go_wp2_with fail
      exact ⟨⟨i + 1, by go_num, by first | rfl | simp, by omega, _, by first | rfl | exact World.drewN_drewN _ _ _⟩, by simp [nI]; omega⟩
    · have hiz : ¬ (i : Int) < (hd.length : Int) := by omega
      have z0 := Kp.cell (Kp.drewN w m) q0
      go_wp2_with fail
      clear z0 z4 z5
      go_loopw [7, 8, 9] (fun s7 s8 s9 wr => ∃ i : Nat, s7 = .int .i64 i ∧ i ≤ hd.length ∧ Hid (∃ σ1 V1 X1, L2 W w wr σ σ1 K V V1 X X1 MM fr hd ll i)) (fun s7 _ _ _ => hd.length - nI s7)
      case atStart => exact ⟨0, rfl, by omega, σ, V, X, HB.out.1.l2 HB.out.2 (Kp.drewN _ _)⟩
      case round =>
        obtain ⟨i, rfl, hi2, HI⟩ := hrel
        obtain ⟨wz, rfl⟩ : ∃ wz, wz = wr := ⟨_, rfl⟩
        obtain ⟨σ1, V1, X1, hL⟩ := HI.out
        clear HI
        have HL : Hid (L2 W w wz σ σ1 K V V1 X X1 MM fr hd ll i) := hL
        have z4 := (hL.k.m.cell (i := 4) (by omega)).1
        rw [(hL.vx 4 (by omega)).1, HE.out.1] at z4
        by_cases hlt : i < hd.length
        · have hiz : (i : Int) < (hd.length : Int) := by omega
          obtain ⟨hB, hW⟩ := HB.out
          have lx : (X1 0).length = ll.length + i := by rw [hL.k.r0.len, List.length_append, List.length_take, mks_len]; omega
          obtain ⟨a0', c0', e0'⟩ := list_shape (hL.k.m.own 0 (by omega) (by omega))
          have z0 := (hL.k.m.cell (i := 0) (by omega)).1
          rw [e0', lx] at z0
          have l4 : (X1 4).length = hd.length := by rw [(hL.vx 4 (by omega)).2, hB.r4.len]
          have hv : (X1 4)[i]? = some ((X1 4)[i]'(by omega)) := List.getElem?_eq_getElem (by omega)
          obtain ⟨e, he⟩ : ∃ e, hd[i]? = some e := ⟨_, List.getElem?_eq_getElem hlt⟩
          obtain ⟨g4, k4, t4, d4⟩ := own_cell (hL.k.m.own 4 (by omega) (by omega)) rfl i (by omega)
          rw [(hL.vx 4 (by omega)).1, HE.out.1, l4] at t4
          obtain ⟨rfl, rfl⟩ : a4 = some ⟨g4, 0, none⟩ ∧ c4 = k4 := by simpa using t4
          have o4 := (hL.r4.rw i _ e hv (by rw [cut_at _ _ _ (by omega), if_neg (by omega)]; exact he)).1
          have s1 := hB.s1 e (List.mem_append.2 (.inl (List.mem_of_getElem? he)))
          have bK := hL.k.m.box
          have b4 : wz.ownsRow 0 26 1 (.slice (some ⟨g4, 0, none⟩) hd.length c4) (X1 4).length (X1 4) := by have := hL.k.m.own 4 (by omega) (by omega); rw [(hL.vx 4 (by omega)).1, HE.out.1] at this; exact this
          obtain ⟨pa, pc, hp⟩ := o4.shape
          rw [hp] at d4 o4 hv
          have HV : Hid ((X1 4)[i]? = some (.slice pa e.2.length pc) ∧ hd[i]? = some e ∧ V1 0 = .slice a0' (ll.length + i) c0' ∧ V1 4 = .slice (some ⟨g4, 0, none⟩) hd.length c4) := ⟨hv, he, by rw [e0', lx], by rw [(hL.vx 4 (by omega)).1, HE.out.1]⟩
          have HO : Hid (OB wz (.slice pa e.2.length pc) e.2 ∧ (∃ cs, wz.heap[g4]? = some (.cells cs 26 (0, 0))) ∧ (∃ cs, wz.heap[K]? = some (.cells cs 57 (0, 0)))) := ⟨o4, own_tp b4 rfl, _, bK⟩
          clear hL hB hW lx e0' l4 hv he t4 o4 hp b4 bK
          obtain ⟨N, hN⟩ : ∃ N, ll.length + i = N := ⟨_, rfl⟩
          have HN : Hid (ll.length + i = N) := hN
          rw [hN] at z0
          have hNb : N < 400000 := by omega
          clear hN
          have hrm := mk_rem N
          have hmo : ((N % 254 : Nat) : Int) + 1 = mkOf N := rfl
          have hmb : N % 254 < 254 := Nat.mod_lt _ (by omega)
          have hw1 : IntKind.i64.wrap ((N % 254 : Nat) : Int) = ((N % 254 : Nat) : Int) := w64 (by omega) (by omega)
          have hw2 : IntKind.i64.wrap (((N % 254 : Nat) : Int) + 1) = mkOf N := by rw [w64 (by omega) (by omega)]; rfl
          have hw3 : IntKind.u8.wrap (mkOf N) = mkOf N := by unfold mkOf; simp [IntKind.wrap, IntKind.bits, IntKind.signed]; omega
          have HM : Hid (mkOf (ll.length + i) = mkOf N) := congrArg mkOf HN.out
          clear hmo hmb
          generalize ((N % 254 : Nat) : Int) = qq at *
          generalize mkOf N = mk at *
          go_wp2_with fail
          clear z0 hrm hw1 hw2 hw3
          go_loopw [9] (fun s9 wq => ∃ k : Nat, s9 = .int .i64 k ∧ k ≤ e.2.length ∧ Hid (Chg wz wq (fun b => (Value.slice pa e.2.length pc).ownBlock = some b) ∧ OB wq (.slice pa e.2.length pc) (List.replicate k mk ++ e.2.drop k))) (fun s9 _ => e.2.length - nI s9)
          case atStart => exact ⟨0, rfl, by omega, Chg.refl _ _, by simpa using HO.out.1⟩
          case round =>
            obtain ⟨k, rfl, hk, HJ⟩ := hrel
            have y4 : wr.cell? ⟨K, 4, none⟩ = some (.slice (some ⟨g4, 0, none⟩) hd.length c4) := HJ.out.1.cell' (fun hb => by obtain ⟨cs, hc⟩ := HO.out.2.2; exact HO.out.1.no hc (by decide) hb) z4
            have y5 : wr.cell? ⟨g4, i, none⟩ = some (.slice pa e.2.length pc) := HJ.out.1.cell' (fun hb => by obtain ⟨cs, hc⟩ := HO.out.2.1; exact HO.out.1.no hc (by decide) hb) d4
            by_cases hkt : k < e.2.length
            · have hkz : (k : Int) < (e.2.length : Int) := by omega
              obtain ⟨gx, rfl⟩ : ∃ gx, pa = some ⟨gx, 0, none⟩ := by
                rcases HO.out.1.2 with ⟨q, h0⟩ | ⟨g, cap, cur, q, _⟩
                · omega
                · exact ⟨g, by simp at q; exact q.1⟩
              have fl := fill_len e.2 mk k hk
              obtain ⟨⟨old, p1⟩, p2⟩ : (∃ z, wr.cell? ⟨gx, k, none⟩ = some (.int .u8 z)) ∧ wr.frozen? ⟨gx, k, none⟩ = false := by
                obtain ⟨p1, p2, p3⟩ := OB.cg (xs := List.replicate k mk ++ e.2.drop k) (by rw [fl]; exact HJ.out.2) k (by omega)
                exact ⟨⟨_, p1⟩, p2⟩
              have HS : Hid (OB (wr.setCell ⟨gx, k, none⟩ (.int .u8 mk)) (.slice (some ⟨gx, 0, none⟩) e.2.length pc) (List.replicate (k + 1) mk ++ e.2.drop (k + 1))) := by
                have := OB.set (xs := List.replicate k mk ++ e.2.drop k) (by rw [fl]; exact HJ.out.2) k mk
                rw [List.length_set, fl, fill_next _ _ _ hkt] at this
                exact this
              clear fl
              go_wp2_with fail
              exact ⟨⟨k + 1, by go_num, by omega, Chg.setCell (p := ⟨gx, k, none⟩) HJ.out.1 (.inl rfl) _, HS.out⟩, by simp [nI]; omega⟩
            · have hkz : ¬ (k : Int) < (e.2.length : Int) := by omega
              have hke : k = e.2.length := by omega
              subst hke
              obtain ⟨hcx, hox⟩ := HJ.out
              rw [List.drop_of_length_le (Nat.le_refl _), List.append_nil, ← HM.out] at hox
              obtain ⟨am, cm, em⟩ := HL.out.k.mm.shape
              have lm : (MM ++ (mms ll.length hd).take i).length = N := by rw [← HN.out, List.length_append, List.length_take, mms_len, HB.out.1.ml]; omega
              obtain ⟨v2, w2, v4, w4, σ2, p1, p2, p3, p4, p5, p6, p7, ⟨a2, c2, p8⟩, p9, p10, p11, p12, ⟨a6, c6, p13⟩, p14⟩ := HL.out.push HB.out.1 HV.out.1 HV.out.2.1 hcx hox (by omega) HV.out.2.2.2
              rw [HN.out] at p8 p13
              rw [em, lm] at p9 p10 p11
              rw [HV.out.2.2.1, HN.out] at p2 p3 p5
              rw [HV.out.2.2.2] at p1 p4 p7
              subst p8 p13
              rw [HM.out] at p10
              have HP : Hid (L2 W w (w4.setCell ⟨K, 1, none⟩ (.slice a6 (N + 1) c6)) σ σ2 K V (upd (upd V1 0 (.slice a2 (N + 1) c2)) 1 (.slice a6 (N + 1) c6)) X (upd X1 0 (X1 0 ++ [.slice pa e.2.length pc])) MM fr hd ll (i + 1)) := p14
              have HR : Hid ((Builtin.append_ #[55, 55] 55 #[.slice a0' N c0', .slice (some ⟨wr.heap.size, 0, none⟩) 1 1]).run Try.prog (wr.drew.alloc (.cells #[.slice pa e.2.length pc] 26)) = .ok (.slice a2 (N + 1) c2) w2) := p3
              have HR4 : Hid ((Builtin.append_ #[26, 26] 26 #[.slice am N cm, .slice (some ⟨(w2.setCell ⟨K, 0, none⟩ (.slice a2 (N + 1) c2)).heap.size, 0, none⟩) 1 1]).run Try.prog ((w2.setCell ⟨K, 0, none⟩ (.slice a2 (N + 1) c2)).alloc (.cells #[.int .u8 mk] 5)) = .ok (.slice a6 (N + 1) c6) w4) := p10
              clear hcx hox em lm p14 p3 p10 z4 d4
              go_upto_region 16 with fail
              refine reg22_16 wr w2 K g4 i N c0' hd.length c4 e.2.length pc (N + 1) c2 a0' pa a2 hlt p1 p2 HR.out p4 ⟨_, p5⟩ p6 p7 _ (fun _ _ _ q _ h => by cases q <;> exact h) ?_
              generalize w2.setCell ⟨K, 0, none⟩ (.slice a2 (N + 1) c2) = wA at *
              clear p1 p2 p4 p5 p6 p7 y4 y5 HR
              have hr4 := HR4.out
              go_wp2_with (first | (at_builtin; refine wpList_append_run _ rfl (.tmp 106) (.tmp 108) 26 26 rfl _ _ (.slice a6 (N + 1) c6) w4 rfl rfl hr4 ?_) | fail)
              exact ⟨⟨i + 1, by go_num, by omega, σ2, _, _, HP.out⟩, by simp [nI]; omega⟩
        · have hiz : ¬ (i : Int) < (hd.length : Int) := by omega
          have hie : i = hd.length := by omega
          subst hie
          obtain ⟨a0', c0', e0'⟩ := list_shape (hL.k.m.own 0 (by omega) (by omega))
          have lx : (X1 0).length = ll.length + hd.length := by rw [hL.k.r0.len, List.length_append, List.length_take, mks_len]; omega
          obtain ⟨N, hN⟩ : ∃ N, ll.length + hd.length = N := ⟨_, rfl⟩
          have HN : Hid (ll.length + hd.length = N) := hN
          have z0 := (hL.k.m.cell (i := 0) (by omega)).1
          rw [e0', lx, hN] at z0
          have hNb : N < 400000 := by omega
          have hNl : ll.length ≤ N := by omega
          have H4 : Hid (∃ σ1 V1 X1, L4 W w wz σ σ1 K V V1 X X1 MM fr hd ll 0) := ⟨_, _, _, hL.l4⟩
          clear hL HL hN e0' lx
          go_wp2_with fail
          clear z0 z4
          go_loopw [11] (fun s11 wr => ∃ i t : Nat, s11 = .int .i64 i ∧ i ≤ N ∧ Hid (i = ll.length + t) ∧ Hid (∃ σ1 V1 X1, L4 W w wr σ σ1 K V V1 X X1 MM fr hd ll t)) (fun s11 _ => N - nI s11)
          case atStart => exact ⟨ll.length, 0, rfl, hNl, rfl, H4.out⟩
          case round =>
            obtain ⟨i, t, rfl, hiN, HI, HJ⟩ := hrel
            obtain ⟨wz, rfl⟩ : ∃ wz, wz = wr := ⟨_, rfl⟩
            obtain ⟨σ2, V2, X2, hL⟩ := HJ.out
            clear HJ
            have HL : Hid (L4 W w wz σ σ2 K V V2 X X2 MM fr hd ll t) := hL
            by_cases hit : i < N
            · have hiz : (i : Int) < (N : Int) := by omega
              have ht : t < hd.length := by have := HI.out; have := HN.out; omega
              obtain ⟨hB, hW⟩ := HB.out
              obtain ⟨e, he⟩ : ∃ e, hd[t]? = some e := ⟨_, List.getElem?_eq_getElem ht⟩
              have hen := ent4 (ll := ll) ll.length t e he rfl t
              have hmr := mrk4 (MM := MM) ll.length t e he hB.ml t
              have hlx : ll.length + t < (X2 0).length := by rw [hL.k.r0.len]; exact (List.getElem?_eq_some_iff.1 hen).1
              have hv : (X2 0)[ll.length + t]? = some ((X2 0)[ll.length + t]) := List.getElem?_eq_getElem hlx
              obtain ⟨o1, l1⟩ := hL.k.r0.rw _ _ _ hv hen
              obtain ⟨xa, xc, hp⟩ := o1.shape
              rw [hp] at hv
              obtain ⟨g0, k0, t0, d0⟩ := own_cell (hL.k.m.own 0 (by omega) (by omega)) rfl _ hlx
              obtain ⟨gm, km, tm⟩ : ∃ gm km, V2 1 = .slice (some ⟨gm, 0, none⟩) (MM ++ mms ll.length hd ++ (mms ll.length hd).take t).length km := by
                rcases hL.k.mm.at with ⟨_, q⟩ | ⟨g, cap, q, _⟩
                · rw [q] at hmr; simp at hmr
                · exact ⟨g, cap, q⟩
              have hlm := (List.getElem?_eq_some_iff.1 hmr).1
              have c22 := at22 hL.k t0 tm hv hmr
              have c0 := (hL.k.m.cell (i := 0) (by omega)).1
              rw [t0] at c0
              have HC := hL.long hB he (by omega) t0 tm hv
              have HF : Hid (hd[t]? = some e ∧ V2 1 = .slice (some ⟨gm, 0, none⟩) (MM ++ mms ll.length hd ++ (mms ll.length hd).take t).length km) := ⟨he, tm⟩
              rw [← HI.out] at c22 HC hlx hlm
              clear hL hen hmr hv o1 l1 hp t0 d0 tm he
              generalize (X2 0).length = n0 at *
              generalize (MM ++ mms ll.length hd ++ (mms ll.length hd).take t).length = nm at *
              have HC2 : Hid (_ ∧ True) := ⟨HC, trivial⟩
              clear HC
              go_upto_region 22 with fail
              refine reg22_22 wz K g0 gm i n0 k0 nm km _ xc xa _ hlm hlx c22 c0 _ HC2.out.1 _ (fun _ _ _ q _ h => by cases q <;> exact h) ?_
              rintro la ln lc a2 n2 c2 w1 w2 ⟨σ3, hM⟩
              obtain ⟨a6, n6, c6, w4, σ4, p1, p2, p3, p4, p5, p6, p7, p8⟩ := hM.mark HB.out.1 HF.out.1 (by omega) (show upd V2 0 (.slice a2 n2 c2) 1 = _ from HF.out.2)
              rw [← HI.out] at p1 p3 p4 p7
              have HP : Hid (∃ σ1 V1 X1, L4 W w (w4.setCell ⟨K, 1, none⟩ (.slice a6 n6 c6)) σ σ1 K V V1 X X1 MM fr hd ll (t + 1)) := ⟨_, _, _, p8⟩
              clear p8 hM HC2 c22 c0
              generalize w2.setCell ⟨K, 0, none⟩ (.slice a2 n2 c2) = wA at *
              have HR : Hid (_ ∧ True) := ⟨p3, trivial⟩
              clear p3
              go_upto_region 23 with fail
              refine reg22_23 wA w4 K gm i nm km n6 c6 a6 _ hlm p1 p2 HR.out.1 p4 p5 p6 p7 _ (fun _ _ _ q _ h => by cases q <;> exact h) ?_
              clear p1 p2 p4 p5 p6 p7 HR
              go_wp2_with fail
              exact ⟨⟨i + 1, t + 1, by go_num, by omega, by have := HI.out; exact (show i + 1 = ll.length + (t + 1) by omega), HP.out⟩, by simp [nI]; omega⟩
            · have hiz : ¬ (i : Int) < (N : Int) := by omega
              have ht : t = hd.length := by have := HI.out; have := HN.out; omega
              subst ht
              obtain ⟨hD, hPg⟩ := hL.done HB.out.1
              obtain ⟨sa, sc, E2⟩ := list_shape (hL.k.m.own 2 (by omega) (by omega))
              obtain ⟨ra, rc, E3⟩ := list_shape (hL.k.m.own 3 (by omega) (by omega))
              have bK : wz.heap[K]? = some (.cells (bx V2) 57 (0, 0)) := hL.k.m.box
              have bA := box_set bK (i := 4) (by omega) (V2 2)
              have bB := box_set bA (i := 5) (by omega) (V2 3)
              have bC := box_set bB (i := 2) (by omega) (.slice none 0 0)
              obtain ⟨f1, _⟩ := box_cell bK (i := 2) (by omega)
              obtain ⟨f2, f3⟩ := box_cell bK (i := 4) (by omega)
              obtain ⟨f4, _⟩ := box_cell bA (i := 3) (by omega)
              obtain ⟨f5, f6⟩ := box_cell bA (i := 5) (by omega)
              obtain ⟨f7, f8⟩ := box_cell bB (i := 2) (by omega)
              obtain ⟨f9, f10⟩ := box_cell bC (i := 3) (by omega)
              rw [show upd V2 4 (V2 2) 3 = V2 3 from rfl] at f4
              have HZ : Hid (BkA W (shW wz K V2) σ2 K (shV V2) (shX X2) (MM ++ mms ll.length hd ++ mms ll.length hd) [] fr (ll ++ mks ll.length hd ++ lgs ll.length hd) ∧ Pg W w (shW wz K V2) σ ∧ ∀ b, b < w.heap.size → σ2 b = σ b) := ⟨hD, hPg, hL.ol⟩
              generalize upd V2 4 (V2 2) 5 = o5 at *
              generalize upd (upd V2 4 (V2 2)) 5 (V2 3) 2 = o2 at *
              generalize upd (upd (upd V2 4 (V2 2)) 5 (V2 3)) 2 (.slice none 0 0) 3 = o3 at *
              generalize V2 4 = o4 at *
              have HZ2 : Hid (∃ σ' V' X', BkA W (shW wz K V2) σ' K V' X' (MM ++ mms ll.length hd ++ mms ll.length hd) [] fr (ll ++ mks ll.length hd ++ lgs ll.length hd) ∧ Pg W w (shW wz K V2) σ ∧ ∀ b, b < w.heap.size → σ' b = σ b) := ⟨_, _, _, HZ.out⟩
              unfold shW at HZ2
              clear hL HL hD hPg bK bA bB bC HZ
              rw [E2] at f1 f4 f5 f6 f7 f8 f9 f10 HZ2
              rw [E3] at f4 f7 f8 f9 f10 HZ2
              clear E2 E3
              generalize (X2 2).length = sn at *
              generalize (X2 3).length = rn at *
              go_upto_region 25 with fail
              generalize wz.setCell ⟨K, 4, none⟩ (.slice sa sn sc) = wA at *
              go_upto_region 26 with fail
              generalize wA.setCell ⟨K, 5, none⟩ (.slice ra rn rc) = wB at *
              go_upto_region 27 with fail
              generalize wB.setCell ⟨K, 2, none⟩ (.slice none 0 0) = wC at *
              go_wp2_with fail
              generalize wC.setCell ⟨K, 3, none⟩ (.slice none 0 0) = wD at *
              clear f1 f2 f3 f4 f5 f6 f7 f8 f9 f10
              obtain ⟨σ', V', X', hD, hPg, hOl⟩ := HZ2.out
              have HD : Hid (BkA W wD σ' K V' X' (MM ++ mms ll.length hd ++ mms ll.length hd) [] fr (ll ++ mks ll.length hd ++ lgs ll.length hd)) := hD
              obtain ⟨b0, k0, E0⟩ := list_shape (hD.m.own 0 (by omega) (by omega))
              obtain ⟨bm, km, Em⟩ := hD.mm.shape
              have x0 := (hD.m.cell (i := 0) (by omega)).1
              have x1 := (hD.m.cell (i := 1) (by omega)).1
              obtain ⟨T, hT⟩ : ∃ T, (ll ++ mks ll.length hd ++ lgs ll.length hd).length = T := ⟨_, rfl⟩
              have hTb : T < 400000 := by rw [← hT]; simp [mks_len, lgs_len]; omega
              have lX : (X' 0).length = T := by rw [hD.r0.len, hT]
              have lM : (MM ++ mms ll.length hd ++ mms ll.length hd).length = T := by rw [hD.ml, hT]
              rw [E0, lX] at x0
              rw [Em, lM] at x1
              have HT : Hid ((X' 0).length = T ∧ (ll ++ mks ll.length hd ++ lgs ll.length hd).length = T ∧ (MM ++ mms ll.length hd ++ mms ll.length hd).length = T ∧ V' 0 = .slice b0 T k0 ∧ V' 1 = .slice bm T km) := ⟨lX, hT, lM, by rw [E0, lX], by rw [Em, lM]⟩
              clear hD hPg hOl E0 Em hT lX lM
              go_loopw [12, 13] (fun s12 s13 wr => ∃ i : Nat, s12 = .int .i64 i ∧ i ≤ T ∧ ∃ m, wr = wD.drewN m) (fun s12 _ _ => T - nI s12)
              case atStart => exact ⟨0, rfl, by omega, 0, rfl⟩
              case round =>
                obtain ⟨i, rfl, hi, m, rfl⟩ := hrel
                have y0 := Kp.cell (Kp.drewN wD m) x0
                by_cases hlt : i < T
                · have hiz : (i : Int) < (T : Int) := by omega
                  have hB := HD.out
                  obtain ⟨t1, t2, t3, t4, t5⟩ := HT.out
                  obtain ⟨e, he⟩ : ∃ e, (ll ++ mks ll.length hd ++ lgs ll.length hd)[i]? = some e := ⟨_, List.getElem?_eq_getElem (by omega)⟩
                  obtain ⟨mk, hm⟩ : ∃ mk, (MM ++ mms ll.length hd ++ mms ll.length hd)[i]? = some mk := ⟨_, List.getElem?_eq_getElem (by omega)⟩
                  have hv : (X' 0)[i]? = some ((X' 0)[i]'(by omega)) := List.getElem?_eq_getElem (by omega)
                  obtain ⟨o1, l1⟩ := hB.r0.rw _ _ _ hv he
                  have hq := hB.mq i e mk he hm
                  have hs := hB.s2 e (List.mem_of_getElem? he)
                  obtain ⟨g0, k0', u0, d0⟩ := own_cell (hB.m.own 0 (by omega) (by omega)) rfl i (by omega)
                  rw [t4, t1] at u0
                  obtain ⟨rfl, rfl⟩ : b0 = some ⟨g0, 0, none⟩ ∧ k0 = k0' := by simpa using u0
                  obtain ⟨gm, rfl⟩ : ∃ gm, bm = some ⟨gm, 0, none⟩ := by
                    rcases hB.mm.at with ⟨_, q⟩ | ⟨g, cap, q, _⟩
                    · rw [q] at hm; simp at hm
                    · rw [t5] at q; simp at q; exact ⟨g, q.1⟩
                  have dm := (rdB (by rw [← t5]; exact hB.mm) hm).1
                  obtain ⟨xa, xc, hp⟩ := o1.shape
                  rw [hp] at d0 o1
                  have HX : Hid (e.2.length = 0 ∨ ∃ gx, xa = some ⟨gx, 0, none⟩ ∧ ∀ j, j < e.2.length → wD.cell? ⟨gx, j, none⟩ = some (.int .u8 mk)) := by
                    rcases o1.at with ⟨_, q⟩ | ⟨g, cap, q, _, _, _, q2, _⟩
                    · left; rw [q]; rfl
                    · refine .inr ⟨g, by simp at q; exact q.1, fun j hj => ?_⟩
                      rw [q2 j hj]
                      have : e.2[j] = mk := by
                        have h3 : e.2[j]? = some mk := by rw [hq]; simp [hj]
                        exact (List.getElem?_eq_some_iff.1 h3).2
                      rw [this]
                  clear hB t1 t2 t3 t4 t5 he hm hv o1 l1 hq hp u0
                  generalize e.2.length = n at *
                  have y1 := Kp.cell (Kp.drewN wD m) d0
                  have hne : (mk != mk) = false := by simp
                  go_wp2_with fail
                  clear y0 y1
                  go_loopw [13] (fun s13 wr => ∃ j : Nat, s13 = .int .i64 j ∧ j ≤ n ∧ ∃ m, wr = wD.drewN m) (fun s13 _ => n - nI s13)
                  case atStart => exact ⟨0, rfl, by omega, m, rfl⟩
                  case round =>
                    obtain ⟨j, rfl, hj, m, rfl⟩ := hrel
                    have y0 := Kp.cell (Kp.drewN wD m) x0
                    have y1 := Kp.cell (Kp.drewN wD m) d0
                    by_cases hjt : j < n
                    · have hjz : (j : Int) < (n : Int) := by omega
                      have y2 := Kp.cell (Kp.drewN wD m) x1
                      have y3 := Kp.cell (Kp.drewN wD m) dm
                      rcases HX.out with q | ⟨gx, rfl, hc⟩
                      · omega
                      have y5 := hc j hjt
                      have y4 := Kp.cell (Kp.drewN wD m) y5
                      clear hc
                      go_upto_region 34 with fail
                      go_quiet (fail)
                      go_wp2_with fail
                      exact ⟨⟨j + 1, by go_num, by omega, _, by first | rfl | exact World.drewN_drewN _ _ _⟩, by simp [nI]; omega⟩
                    · have hjz : ¬ (j : Int) < (n : Int) := by omega
                      go_wp2_with fail
                      exact ⟨⟨i + 1, by go_num, by omega, _, by first | rfl | trivial⟩, by simp [nI]; omega⟩
                · have hiz : ¬ (i : Int) < (T : Int) := by omega
                  go_wp2_with fail
                  go_ret
                  obtain ⟨σ', V', X', hD, hPg, hOl⟩ := HZ2.out
                  refine ⟨rfl, ?_⟩
                  unfold LkP
                  exact ⟨σ', V', X', hD.kp (Kp.drewN _ _), hPg.trans hOl (Pg.ofKp (Kp.drewN _ _) _), hOl⟩
end Go.Proofs.Ytibpbemenjgncaa
