import Derived.Test.YtoagdcdmahpglaaDoorNb
import Derived.Test.YtoagdcdmahpglaaDoorTm
namespace Go.Proofs.YtoagdcdmahpglaaDoor
open Go.ChangeShapes Go.WideShapes Go.ChangeAt Go.RowKit
set_option linter.unusedVariables false

theorem info4 : (Tryd.prog.info? 4).map (fun i => (i.zero, i.size, i.bytes)) = some (some (.bool false), 1, 1) := by kernel_rfl
theorem make131 (n : Nat) (hn : n ≤ 140737488355328) (w : World) : (Instr.makeSlice 131 (.int .i64 n) (.int .i64 n)).run Tryd.prog w = .ok (.slice (some ⟨w.heap.size, 0, none⟩) n n) (w.alloc (.cells (List.replicate n (.bool false)).toArray 4)) := by
  obtain ⟨i0, hi, hz0, hz1, hz2⟩ := info_parts info4
  have := run_make (P := Tryd.prog) w 131 4 i0 (.bool false) Tryd.underlying131 hi hz0 .i64 .i64 n n (by omega) (by omega) (by rw [hz2]; omega) (by omega)
  have e : madeCells (Value.bool false).cells ((n : Int).toNat * i0.size) = (List.replicate n (.bool false)).toArray := by
    rw [hz1, Int.toNat_natCast, Nat.mul_one]
    apply Array.ext_getElem?
    intro j
    by_cases hj : j < n
    · simp [madeCells, Value.cells, hj, Nat.mod_one]
    · simp [madeCells, Value.cells, hj]
  rw [e] at this
  simpa using this
set_option maxHeartbeats 2000000 in
set_option maxRecDepth 10000 in
theorem refNeed_any (w : World) (a : Option Addr) (cap : Nat) (l : List Rv) (h : RgsIn w a l) (hl : l.length ≤ 10000) :
    Calls Tryd.prog 25 #[.slice a l.length cap] w fun e w' => e = .returned (.int .i64 (needM l : Nat)) ∧ Chg w w' (fun _ => False) := by
  have hA := refAll_any w a cap l h
  have H : Hid (RgsIn w a l) := h
  clear h
  obtain ⟨R, hR⟩ : ∃ R, R = needM l := ⟨_, rfl⟩
  rw [← hR]
  unfold needM at hR
  cases hb : l.all Rv.mb with
  | false =>
    rw [hb] at hR hA
    rw [if_neg (by simp)] at hR
    subst hR
    clear hb
    go_enter Tryd.func25, Tryd.ntmps25
    go_wp2_with (go_at_call 55; refine hA.mono ?_; rintro e w1 ⟨rfl, c1⟩)
    go_ret
    exact ⟨rfl, c1⟩
  | true =>
    rw [hb] at hR hA
    rw [if_pos rfl] at hR
    have hmay : ∀ r ∈ l, r.may := fun r hr => of_decide_eq_true (List.all_eq_true.1 hb r hr)
    have HM : Hid (∀ r ∈ l, r.may) := hmay
    have HR : Hid (R = (ndL l).2) := hR
    clear hb hmay hR
    have hmk : ∀ w, (Instr.makeSlice 131 (.int .i64 1024) (.int .i64 1024)).run Tryd.prog w = .ok (.slice (some ⟨w.heap.size, 0, none⟩) 1024 1024) (w.alloc (.cells (bls (fun _ => false)) 4)) := fun w => by
      rw [← bls_false]; exact make131 1024 (by omega) w
    obtain ⟨Z, hZ⟩ : ∃ Z, Z = bls (fun _ => false) := ⟨_, rfl⟩
    rw [← hZ] at hmk
    have HZ : Hid (Z = bls (fun _ => false)) := hZ
    clear hZ
    go_enter Tryd.func25, Tryd.ntmps25
    go_wp2_with fail
    go_at_call 55
    refine hA.mono ?_
    rintro e w1 ⟨rfl, c1⟩
    clear hA
    obtain ⟨D, hD⟩ : ∃ D, D = w1.heap.size := ⟨_, rfl⟩
    obtain ⟨w2, hw2⟩ : ∃ w2, w2 = w1.alloc (.cells Z 4) := ⟨_, rfl⟩
    have gD := heap_alloc_new w1 (.cells Z 4)
    rw [← hw2, ← hD] at gD
    have HI0 : Hid (w2.heap[D]? = some (.cells (bls (ndL (l.take 0)).1) 4 (0, 0)) ∧ Chg w w2 (fun _ => False) ∧ w.heap.size ≤ D) := ⟨by rw [gD, HZ.out]; rfl, by rw [hw2]; exact c1.alloc _, by rw [hD]; exact c1.size⟩
    clear gD c1
    go_upto_region 5 with fail
    rw [← hw2, ← hD]
    clear hw2 hD hmk
    go_wp2
    go_loopw [5, 6] (fun s5 s6 wr => ∃ j : Nat, s6 = .int .i64 j ∧ j ≤ l.length ∧ s5 = .int .i64 ((ndL (l.take j)).2 : Nat) ∧ Hid (wr.heap[D]? = some (.cells (bls (ndL (l.take j)).1) 4 (0, 0)) ∧ Chg w wr (fun _ => False) ∧ w.heap.size ≤ D)) (fun _ s6 _ => l.length - (intOf s6).toNat)
    case atStart => exact ⟨0, rfl, by omega, rfl, HI0⟩
    case round =>
      obtain ⟨j, rfl, hj, rfl, HI⟩ := hrel
      clear HI0
      by_cases hlt : j < l.length
      · have hltz : (j : Int) < (l.length : Int) := by omega
        obtain ⟨b, o, ha, hr⟩ := H.out.2.2.resolve_left (by omega)
        subst ha
        have HRG : Hid (RgAt w b (o + j * 4) l[j]) := hr j hlt
        obtain ⟨z0, z1, z2, z3⟩ := (hr j hlt).chg HI.out.2.1 (fun x => x)
        have hok := H.out.2.1 l[j] (List.getElem_mem hlt)
        have hma := HM.out l[j] (List.getElem_mem hlt)
        have HS : Hid (ndL (l.take (j + 1)) = ndR (ndL (l.take j)) l[j]) := ndL_snoc l j hlt
        have hle := ndL_le l HM.out H.out.2.1 j hj
        have HLS := may_lst hma hok
        generalize l[j] = r at *
        obtain ⟨v, ph, pg, pm⟩ := r
        simp only at z0 z1 z2 z3
        obtain ⟨k1, k2, k3, k4⟩ := hok
        obtain ⟨m1, m2, m3, m4, m5, m6⟩ := hma
        simp only at k1 k2 k3 k4 m1 m2 m3 m4 m5 m6
        obtain ⟨P, hP⟩ : ∃ P : Nat, pg = P := ⟨pg.toNat, by omega⟩
        subst hP
        obtain ⟨U, hU⟩ : ∃ U, U = ndL (l.take j) := ⟨_, rfl⟩
        rw [← hU] at hle HS ⊢
        have HU : Hid (U = ndL (l.take j)) := hU
        obtain ⟨F, hF⟩ : ∃ F, F = rFst ⟨v, ph, P, pm⟩ := ⟨_, rfl⟩
        obtain ⟨G, hG⟩ : ∃ G, G = rLst ⟨v, ph, P, pm⟩ := ⟨_, rfl⟩
        rw [← hF, ← hG] at HLS
        have HFG : Hid (F = v / 4096 / 1024 ∧ G = (v / 4096 + P - 1) / 1024 ∧ F ≤ G ∧ G < 1024) := ⟨by rw [hF]; rfl, by rw [hG]; unfold rLst; simp, HLS.1, HLS.2⟩
        have HN : Hid (ndR U ⟨v, ph, P, pm⟩ = ndI U.1 U.2 F (G + 1 - F)) := by show _ = _; unfold ndR; rw [← hF, ← hG]
        obtain ⟨V, hV⟩ : ∃ V, V = v / 4096 := ⟨_, rfl⟩
        have eV1 : (v : Int) / 4096 = V := by omega
        have eF : (V : Int) / 1024 = F := by have := HFG.out.1; omega
        have eG : ((V : Int) + (P : Int) - 1) / 1024 = G := by have := HFG.out.2.1; omega
        have hVb : V < 1048576 := by omega
        have hPb : P ≤ 1048576 := by omega
        have hG2 := HLS.2
        have hFG2 := HLS.1
        have hP1 : 1 ≤ P := by omega
        obtain ⟨wA, hwA⟩ : ∃ wA, wA = wr := ⟨_, rfl⟩
        subst hwA
        have K0 : Hid (wA.heap[D]? = some (.cells (bls U.1) 4 (0, 0)) ∧ Chg w wA (fun _ => False) ∧ w.heap.size ≤ D) := by rw [HU.out]; exact HI.out
        clear hU hF hG HLS hV hr m1 m2 m3 m4 m5 m6 HI k3
        go_wp2
        clear z0 z1 z2 z3
        go_loopw [5, 8] (fun s5 s8 wr => ∃ (k c : Nat) (u : Nat → Bool), s8 = .int .i64 k ∧ s5 = .int .i64 c ∧ k ≤ G + 1 ∧ c ≤ 1025 + 1024 * j ∧ Hid (ndI U.1 U.2 F (G + 1 - F) = ndI u c k (G + 1 - k) ∧ wr.heap[D]? = some (.cells (bls u) 4 (0, 0)) ∧ Chg w wr (fun _ => False) ∧ c + (G + 1 - k) ≤ 1025 + 1024 * j)) (fun _ s8 _ => G + 1 - (intOf s8).toNat)
        case atStart => exact ⟨F, U.2, U.1, rfl, rfl, by omega, by omega, rfl, K0.out.1, K0.out.2.1, by omega⟩
        case round =>
          obtain ⟨k, c, u, rfl, rfl, hk, hc, HI⟩ := hrel
          obtain ⟨z0, z1, z2, z3⟩ := HRG.out.chg HI.out.2.2.1 (fun x => x)
          simp only at z0 z1 z2 z3
          by_cases hkG : k ≤ G
          · have hkz : (k : Int) ≤ (G : Int) := by omega
            obtain ⟨m, hm⟩ : ∃ m, G + 1 - k = m + 1 := ⟨G - k, by omega⟩
            have hHI := HI.out.1
            rw [hm, ndI_succ] at hHI
            have hmm : m = G + 1 - (k + 1) := by omega
            rw [hmm] at hHI
            clear hm hmm
            obtain ⟨-, g4, d4, hcb⟩ := HI.out
            have y0 := (cells_at g4 k).1
            have y3 := (cells_at g4 k).2
            rw [bls_get u k (by omega)] at y0
            have hkD : (k : Int) < 1024 := by omega
            cases hu : u k with
            | true =>
              rw [hu] at y0 hHI
              rw [if_pos rfl] at hHI
              have HE : Hid (ndI U.1 U.2 F (G + 1 - F) = ndI u c (k + 1) (G + 1 - (k + 1)) ∧ wr.heap[D]? = some (.cells (bls u) 4 (0, 0)) ∧ Chg w wr (fun _ => False) ∧ c + (G + 1 - (k + 1)) ≤ 1025 + 1024 * j) := ⟨hHI, g4, d4, by omega⟩
              clear hHI g4 d4
              go_wp2
              exact ⟨⟨k + 1, c, u, by go_num, rfl, by omega, hc, HE⟩, by simp [intOf]; omega⟩
            | false =>
              rw [hu] at y0 hHI
              rw [if_neg (by simp)] at hHI
              have HE : Hid (ndI U.1 U.2 F (G + 1 - F) = ndI (fun i => if i = k then true else u i) (c + 1) (k + 1) (G + 1 - (k + 1)) ∧ (wr.setCell ⟨D, k, none⟩ (.bool true)).heap[D]? = some (.cells (bls (fun i => if i = k then true else u i)) 4 (0, 0)) ∧ Chg w (wr.setCell ⟨D, k, none⟩ (.bool true)) (fun _ => False) ∧ c + 1 + (G + 1 - (k + 1)) ≤ 1025 + 1024 * j) := ⟨hHI, bls_heap g4 k, Chg.setCell d4 (.inr K0.out.2.2) _, by omega⟩
              clear hHI g4 d4
              go_wp2
              exact ⟨⟨k + 1, c + 1, _, by go_num, by go_num, by omega, by have := HE.out.2.2.2; omega, HE⟩, by simp [intOf]; omega⟩
          · have hkz : ¬ (k : Int) ≤ (G : Int) := by omega
            have h1 := HI.out.1
            rw [show G + 1 - k = 0 by omega] at h1
            have e : ndL (l.take (j + 1)) = (u, c) := by rw [HS.out, HN.out, h1]; rfl
            have HE : Hid (wr.heap[D]? = some (.cells (bls (ndL (l.take (j + 1))).1) 4 (0, 0)) ∧ Chg w wr (fun _ => False) ∧ w.heap.size ≤ D) := by
              rw [e]; exact ⟨HI.out.2.1, HI.out.2.2.1, K0.out.2.2⟩
            have HC2 : Hid (c = (ndL (l.take (j + 1))).2) := by show c = _; rw [e]
            clear h1 e
            go_wp2
            exact ⟨⟨j + 1, by go_num, by omega, by rw [HC2.out], HE⟩, by simp [intOf]; omega⟩
      · have hltz : ¬ (j : Int) < (l.length : Int) := by omega
        have hjl : j = l.length := by omega
        have HE : Hid ((ndL (l.take j)).2 = R ∧ Chg w wr (fun _ => False)) := ⟨by rw [HR.out, hjl, List.take_length], HI.out.2.1⟩
        clear HI hjl
        generalize (ndL (l.take j)).2 = q at *
        go_wp2
        go_ret
        exact ⟨by rw [← HE.out.1]; rfl, HE.out.2⟩
end Go.Proofs.YtoagdcdmahpglaaDoor
