import Derived.Test.YtfcpkcbiinbmiaaSx
namespace Go.Proofs.Ytfcpkcbiinbmiaa
open Go.ChangeShapes Go.WideShapes Go.ChangeAt Go.RowKit
set_option linter.unusedVariables false

set_option maxHeartbeats 3200000 in
set_option maxRecDepth 10000 in
theorem sums_walk (w : World) (pa : Option Addr) (pc : Nat) (ps : List Part) (hP : PartsIn w pa ps) :
    Calls Try.prog 4 #[.slice pa ps.length pc] w fun e w' => e = .returned (.bool true) ∧ Below w.heap.size w w' := by
  have hps := hP.1
  have HP : Hid (PartsIn w pa ps) := hP
  clear hP
  go_enter Try.func4, Try.ntmps4
  go_wp2_with fail
  go_at_call 9
  refine (known_any w).mono ?_
  rintro e w1 ⟨rfl, hb1⟩
  have HB : Hid (Below w.heap.size w w1) := hb1
  clear hb1
  go_wp2
  go_loopw [4, 5, 6, 7] (fun vo vf va i wr => ∃ (k : Nat) (gs : List (Nat × Nat)), k ≤ ps.length ∧ i = .int .i64 k ∧ Made w wr ps k vo vf va gs) (fun _ _ _ i _ => ps.length - (intOf i).toNat)
  case atStart => exact ⟨0, [], by omega, rfl, Made.start HB.out⟩
  case round =>
    obtain ⟨k, gs, hk, rfl, hM⟩ := hrel
    have HM : Hid (Made w wr ps k u4 u5 u6 gs) := hM
    by_cases hlt : k < ps.length
    · obtain ⟨b, o, hpa, hc⟩ := HP.out.2.2.2.resolve_left (by omega)
      subst hpa
      have hB := HP.out.2.2.1 ps[k] (List.getElem_mem hlt)
      have hcw := hc k hlt
      have hblt := World.block_lt_of_cell? w _ hcw
      have hck : wr.cell? ⟨b, o + k, none⟩ = some (.slice ps[k].a ps[k].len ps[k].cap) := by rw [hM.below.cell hblt]; exact hcw
      have hBw := Below.bs hB hM.below
      have hle : ps[k].len ≤ 1048576 := by
        have h1 := allBytes_take ps k hlt
        have h2 := HP.out.2.1
        have h3 : allBytes ps = allBytes (ps.take (k + 1)) ++ allBytes (ps.drop (k + 1)) := by unfold allBytes; rw [← List.flatMap_append, List.take_append_drop]
        have h4 := congrArg List.length h1
        have h5 := congrArg List.length h3
        simp at h4 h5
        have := hB.1
        omega
      have HC : Hid (w.cell? ⟨b, o + k, none⟩ = some (.slice ps[k].a ps[k].len ps[k].cap) ∧ b < w.heap.size ∧ Bs w ps[k].a ps[k].len ps[k].bs) := ⟨hcw, hblt, hB⟩
      clear hc hcw hblt hB
      have hM' := hM
      clear hM
      go_wp2_with fail
      go_at_call 12
      refine (lent_any wr ps[k].a ps[k].len ps[k].cap ps[k].bs hBw (by omega)).mono ?_
      rintro e w2 ⟨g, cap, rfl, hO, hcap, hg, hC⟩
      obtain ⟨vf', w3, r3, vo', w4, r4, hb4, va', w5, r5, hM5⟩ := hM'.round hlt hps HP.out.2.1 HC.out.2.2 hO hcap hg hC
      have c4 : w4.cell? ⟨b, o + k, none⟩ = some (.slice ps[k].a ps[k].len ps[k].cap) := by rw [hb4.cell HC.out.2.1]; exact HC.out.1
      have K : Hid (Made w w5 ps (k + 1) vo' vf' va' (gs ++ [(g, cap)])) := hM5
      clear hM' HM hO hg hC hb4 hM5 HC hBw
      go_wp2_with (first
        | (at_builtin; refine wpList_append_run _ rfl (.tmp 28) (.tmp 30) 28 28 rfl _ _ vf' w3 rfl rfl r3 ?_)
        | (at_builtin; refine wpList_append_run _ rfl (.tmp 32) (.tmp 38) 28 28 rfl _ _ vo' w4 rfl rfl r4 ?_)
        | (at_builtin; refine wpList_append_run _ rfl (.tmp 40) (.tmp 44) 22 22 rfl _ _ va' w5 rfl rfl r5 ?_))
      go_roundw
      case rel => exact ⟨k + 1, _, by omega, by go_num, K.out⟩
      case measure => simp [intOf]; omega
    · have hk' : k = ps.length := by omega
      subst hk'
      have hl : Hid (∀ p ∈ ps, p.bs.length = p.len ∧ p.len ≤ 1048576) := by
        intro p hp
        have h1 := (HP.out.2.2.1 p hp).1
        refine ⟨h1, ?_⟩
        obtain ⟨i, hi, rfl⟩ := List.mem_iff_getElem.1 hp
        have h2 := allBytes_take ps i hi
        have h3 : allBytes ps = allBytes (ps.take (i + 1)) ++ allBytes (ps.drop (i + 1)) := by unfold allBytes; rw [← List.flatMap_append, List.take_append_drop]
        have h4 := congrArg List.length h2
        have h5 := congrArg List.length h3
        have h6 := HP.out.2.1
        simp at h4 h5
        omega
      obtain ⟨go, capo, w3, r3, hcapo, cX, hK⟩ := hM.last hps
      obtain ⟨go', capo', e', _, cO⟩ := row_cell hK.own (i := ps.length) (u := .slice (some ⟨wr.heap.size, 0, none⟩) 1 1) (by rw [List.getElem?_append_right (by simp [hK.len])]; simp [hK.len])
      simp only [Value.slice.injEq, Option.some.injEq, Addr.mk.injEq, and_true, true_and] at e'
      obtain ⟨rfl, rfl⟩ := e'
      have HK : Hid (Kept w w3 ps 0 (.slice (some ⟨go, 0, none⟩) (ps.length + 1) capo) u5 u6 (.slice (some ⟨wr.heap.size, 0, none⟩) 1 1) gs) := hK
      have hS := (hK.sum hps hl.out capo).1 rfl
      clear hM HM hK
      go_wp2_with (at_builtin; refine wpList_append_run _ rfl (.tmp 46) (.tmp 48) 28 28 rfl _ _ (.slice (some ⟨go, 0, none⟩) (ps.length + 1) capo) w3 rfl rfl r3 ?_)
      go_at_call 11
      refine hS.mono ?_
      clear hS
      rintro e w4 ⟨rfl, rfl⟩
      go_wp2
      obtain ⟨ox, hox⟩ : ∃ ox, Kept w w4 ps 0 (.slice (some ⟨go, 0, none⟩) (ps.length + 1) capo) u5 u6 ox gs := ⟨_, HK.out⟩
      clear r3 cX cO HK
      have HK : Hid (Kept w w4 ps 0 (.slice (some ⟨go, 0, none⟩) (ps.length + 1) capo) u5 u6 ox gs) := hox
      clear hox
      go_loopw [10, 11] (fun ok i wx => ∃ k : Nat, k ≤ ps.length ∧ ok = .bool true ∧ i = .int .i64 k ∧ Kept w wx ps k (.slice (some ⟨go, 0, none⟩) (ps.length + 1) capo) u5 u6 ox gs) (fun _ i _ => ps.length - (intOf i).toNat)
      case atStart => exact ⟨0, by omega, rfl, rfl, HK.out⟩
      case round =>
        obtain ⟨k, hk, rfl, rfl, hKk⟩ := hrel
        by_cases hlt : k < ps.length
        · have hgl : k < gs.length := by have := hKk.len; omega
          obtain ⟨b, o, hpa, hc⟩ := HP.out.2.2.2.resolve_left (by omega)
          subst hpa
          have hcw := hc k hlt
          have hblt : b < w.heap.size := World.block_lt_of_cell? w _ hcw
          have hck : wr.cell? ⟨b, o + k, none⟩ = some (.slice ps[k].a ps[k].len ps[k].cap) := by rw [hKk.below.cell hblt]; exact hcw
          have hB := HP.out.2.2.1 ps[k] (List.getElem_mem hlt)
          have hBw := Below.bs hB hKk.below
          obtain ⟨gf, capf, evf, hcapf, cF⟩ := row_cell hKk.full (zip_get ps gs fullV k hlt hKk.len)
          have hrf := hKk.full
          subst evf
          obtain ⟨x1, x2, x3⟩ := hKk.each k hgl hlt
          have hbl := hB.1
          have hpl := (hl.out ps[k] (List.getElem_mem hlt)).2
          simp only [copyB, Nat.lt_irrefl, decide_false] at x1
          have hne1 : gf ≠ gs[k].1 := fun e => rows_apart hrf x1.1 gf rfl (by rw [e]; rfl)
          have hne2 : b ≠ gs[k].1 := fun e => by omega
          have hFlt : gf < wr.heap.size := own_lt hrf gf rfl
          have hPlt : b < wr.heap.size := by have := hKk.below.size; omega
          have X : Hid (Kept w wr ps k (.slice (some ⟨go, 0, none⟩) (ps.length + 1) capo) (.slice (some ⟨gf, 0, none⟩) ps.length capf) u6 ox gs ∧ OwnB wr (.slice (some ⟨gs[k].1, 0, none⟩) (ps[k].bs.length + 2) gs[k].2) (ps[k].bs ++ [90, 165]) ∧ Bs wr ps[k].a ps[k].bs.length ps[k].bs ∧ ps[k].bs.length + 2 ≤ gs[k].2 ∧ ps[k].bs.length ≤ 1048576 ∧ ps[k].bs.length = ps[k].len ∧ gf ≠ gs[k].1 ∧ b ≠ gs[k].1 ∧ gf < wr.heap.size ∧ b < wr.heap.size) := by
            refine ⟨hKk, ?_, ?_, by omega, by omega, hbl, hne1, hne2, hFlt, hPlt⟩
            · rw [hbl]; exact x1
            · rw [hbl]; exact hBw
          have cF2 : wr.cell? ⟨gf, k, none⟩ = some (.slice (some ⟨gs[k].1, 0, none⟩) (ps[k].bs.length + 2) gs[k].2) := by rw [hbl]; exact cF
          rw [← hbl] at hck
          clear cF hc hcw hblt hB hBw hrf x1 x2 x3 hpl hne1 hne2 hKk HK hbl
          have XS : Hid (∀ w5, OwnB w5 (.slice (some ⟨gs[k].1, 0, none⟩) (ps[k].bs.length + 2) gs[k].2) (List.replicate (ps[k].bs.length + 2) 238) → Chg wr w5 (fun j => j = gs[k].1) → Kept w w5 ps (k + 1) (.slice (some ⟨go, 0, none⟩) (ps.length + 1) capo) (.slice (some ⟨gf, 0, none⟩) ps.length capf) u6 ox gs) := by
            intro w5 h5 hc5
            refine X.out.1.step hlt hgl ?_ hc5
            have e := X.out.2.2.2.2.2.1
            rw [e] at h5
            exact h5
          have XC : Hid (∀ wz : World, (∀ x : Nat, wz.heap[x]? = wr.heap[x]?) → wz.os = wr.os → wz.tape = wr.tape → wz.output = wr.output → wz.heap.size = wr.heap.size → Calls Try.prog 13 #[.slice (some ⟨gs[k].1, 0, none⟩) (ps[k].bs.length + 2) gs[k].2, .slice ps[k].a ps[k].bs.length ps[k].cap] wz fun r w' => r = .returned (.bool true) ∧ w'.cell? ⟨gf, k, none⟩ = some (.slice (some ⟨gs[k].1, 0, none⟩) (ps[k].bs.length + 2) gs[k].2) ∧ w'.cell? ⟨b, o + k, none⟩ = some (.slice ps[k].a ps[k].bs.length ps[k].cap) ∧ Kept w w' ps (k + 1) (.slice (some ⟨go, 0, none⟩) (ps.length + 1) capo) (.slice (some ⟨gf, 0, none⟩) ps.length capf) u6 ox gs) := by
            intro wz hz h1 h2 h3 h4
            have hcz : Chg wr wz (fun _ => False) := ⟨h1, h2, h3, by omega, fun x _ _ => hz x⟩
            obtain ⟨q1, q2, q3, q4, q5, q6, q7, q8, q9, q10⟩ := X.out
            refine (kept_any wz gs[k].1 gs[k].2 ps[k].bs ps[k].a ps[k].cap (q2.chg hcz (by simp)) q4 (by omega) (q3.chg hcz (by simp))).mono ?_
            rintro r w' ⟨rfl, u1, u2⟩
            have u3 : Chg wr w' (fun j => j = gs[k].1) := hcz.weak.trans u2 (fun _ _ x => x)
            exact ⟨rfl, by rw [u3.cell q9 q7]; exact cF2, by rw [u3.cell q10 q8]; exact hck, XS.out w' u1 u3⟩
          generalize ps[k].bs.length = lk at *
          generalize ps[k].a = pka at *
          generalize ps[k].cap = pkc at *
          generalize gs[k].1 = gk at *
          generalize gs[k].2 = gkc at *
          clear X XS
          go_wp2
          go_region_held3 (fun w' => w'.cell? ⟨gf, k, none⟩ = some (.slice (some ⟨gk, 0, none⟩) (lk + 2) gkc) ∧ w'.cell? ⟨b, o + k, none⟩ = some (.slice pka lk pkc)) (exact ⟨by assumption, by assumption⟩) (first | (go_at_call 13; refine (XC.out wr.drew (fun _ => rfl) rfl rfl rfl rfl).mono ?_; rintro e w5 ⟨rfl, s1, s2, hK5⟩))
          all_goals go_wp2
          all_goals
            go_roundw
            case rel => exact ⟨k + 1, by omega, rfl, by go_num, by assumption⟩
            case measure => simp [intOf]; omega
        · have hk' : k = ps.length := by omega
          subst hk'
          have hT := Turned.start hKk
          have htl : Hid ((turnedB ps).length ≤ 1048576) := by
            have : ∀ l : List Part, (∀ p ∈ l, p.bs.length = p.len) → (turnedB l).length = (allBytes l).length := by
              intro l
              induction l with
              | nil => intro _; rfl
              | cons p l ih =>
                intro h
                have h1 := ih (fun q hq => h q (by simp [hq]))
                have h2 := h p (by simp)
                simp only [turnedB, allBytes] at h1
                simp [turnedB, allBytes, h1, h2]
            show (turnedB ps).length ≤ 1048576
            rw [this ps (fun p hp => (hl.out p hp).1)]
            exact HP.out.2.1
          have HT : Hid (Turned w wr ps 0 (.slice (some ⟨go, 0, none⟩) (ps.length + 1) capo) u5 u6 ox (.slice none 0 0) gs) := hT
          clear hT hKk HK
          go_wp2
          go_loopw [13, 14] (fun vt i wx => ∃ k : Nat, k ≤ ps.length ∧ i = .int .i64 k ∧ Turned w wx ps k (.slice (some ⟨go, 0, none⟩) (ps.length + 1) capo) u5 u6 ox vt gs) (fun _ i _ => ps.length - (intOf i).toNat)
          case atStart => exact ⟨0, by omega, rfl, HT.out⟩
          case round =>
            obtain ⟨k, hk, rfl, hTk⟩ := hrel
            by_cases hlt : k < ps.length
            · have hgl : k < gs.length := by have := hTk.kept.len; omega
              obtain ⟨vt', w6, r6, hT6⟩ := hTk.round hlt hgl htl.out
              obtain ⟨go2, capo2, e2, _, cO⟩ := row_cell hTk.kept.own (i := k) (u := ownV ps[k] gs[k]) (by rw [List.getElem?_append_left (by simp [hTk.kept.len]; omega)]; exact zip_get ps gs ownV k hlt hTk.kept.len)
              simp only [Value.slice.injEq, Option.some.injEq, Addr.mk.injEq, and_true, true_and] at e2
              obtain ⟨rfl, rfl⟩ := e2
              simp only [ownV] at cO
              have H6 : Hid (Turned w w6 ps (k + 1) (.slice (some ⟨go, 0, none⟩) (ps.length + 1) capo) u5 u6 ox vt' gs) := hT6
              clear hT6 hTk HT
              go_wp2_with (at_builtin; refine wpList_append_run _ rfl (.tmp 97) (.tmp 101) 22 22 rfl _ _ vt' w6 rfl rfl r6 ?_)
              go_roundw
              case rel => exact ⟨k + 1, by omega, by go_num, H6.out⟩
              case measure => simp [intOf]; omega
            · have hk' : k = ps.length := by omega
              subst hk'
              have hS := (hTk.kept.sum hps hl.out capo).2 rfl
              obtain ⟨aA, cA, eA, _, _, hBA⟩ := hTk.kept.all.shape (by have := HP.out.2.1; omega)
              obtain ⟨aT, cT, eT, _, _, hBT⟩ := hTk.own.shape (by rw [List.take_length]; have := htl.out; omega)
              rw [List.take_length] at eT hBT
              have H7 : Hid (Below w.heap.size w wr ∧ Bs wr aA (allBytes ps).length (allBytes ps) ∧ Bs wr aT (turnedB ps).length (turnedB ps)) := ⟨hTk.kept.below, hBA, hBT⟩
              clear hTk HT hBA hBT
              subst eA eT
              go_wp2_with fail
              go_at_call 11
              refine hS.mono ?_
              clear hS
              rintro e w8 ⟨rfl, rfl⟩
              go_wp2_with fail
              go_at_call 14
              refine (refSum_any _ aA _ cA (allBytes ps) H7.out.2.1).mono ?_
              rintro e w9 ⟨rfl, rfl⟩
              go_wp2_with fail
              go_at_call 11
              refine (sum_one _ w9.heap.size _ aA _ cA (allBytes ps) (heap_alloc_new w9 _) (H7.out.2.1.alloc _)).mono ?_
              rintro e w10 ⟨rfl, hw10⟩
              have H8 : Hid (Below w.heap.size w w10 ∧ Bs w10 aT (turnedB ps).length (turnedB ps)) := by
                rw [hw10]
                exact ⟨H7.out.1.alloc H7.out.1.size _, H7.out.2.2.alloc _⟩
              clear hw10 H7
              go_wp2_with fail
              go_at_call 14
              refine (refSum_any _ aT _ cT (turnedB ps) H8.out.2).mono ?_
              rintro e w11 ⟨rfl, rfl⟩
              go_wp2
              go_ret
              exact ⟨rfl, H8.out.1⟩
end Go.Proofs.Ytfcpkcbiinbmiaa
