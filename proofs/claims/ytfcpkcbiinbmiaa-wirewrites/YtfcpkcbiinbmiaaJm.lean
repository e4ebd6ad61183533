import Derived.Test.YtfcpkcbiinbmiaaJl
import Derived.Test.YtfcpkcbiinbmiaaOps
import Derived.Deep.CutRange
namespace Go.Proofs.Ytfcpkcbiinbmiaa
open Go.ChangeShapes Go.WideShapes Go.ChangeAt Go.RowKit Go.ChangeMaps
set_option linter.unusedVariables false
set_option maxHeartbeats 8000000 in
set_option maxRecDepth 10000 in
theorem writes_no (w : World) (lim : Int) (hl : lim < 0 ∨ 67108864 < lim) (sa : Option Addr) (sn sc : Nat) :
    Calls Try.prog 7 #[.int .i64 lim, .slice sa sn sc] w fun e w' => e = .returned (.bool true) ∧ Below w.heap.size w w' := by
  go_enter Try.func7, Try.ntmps7
  go_wp2_with fail
  go_at_call 9
  refine (known_any w).mono ?_
  rintro e w1 ⟨rfl, hb1⟩
  have HB1 : Hid (Below w.heap.size w w1) := hb1
  clear hb1
  have A1 := newWriter_no lim w1 hl
  have A2 := vNew_no lim w1 hl
  go_wp2_with fail
  go_at_call 27
  refine A1.mono ?_
  rintro e wq ⟨rfl, hw⟩
  rw [hw]
  clear hw wq A1
  go_wp2_with fail
  go_at_call 31
  refine A2.mono ?_
  rintro e wq ⟨rfl, hw⟩
  rw [hw]
  clear hw wq A2
  go_wp2
  go_ret
  exact ⟨rfl, HB1.out⟩
set_option maxHeartbeats 8000000 in
set_option maxRecDepth 10000 in
theorem writes_ok (w : World) (L : Nat) (hL : L ≤ 67108864) (sa : Option Addr) (sc : Nat) (os : List OpV) (hs : OpsIn w sa os) (hd : ∀ v, v ∈ os → v.data w) :
    Calls Try.prog 7 #[.int .i64 (L : Nat), .slice sa os.length sc] w fun e w' => e = .returned (.bool true) ∧ Below w.heap.size w w' := by
  have hsl := hs.1
  have HS : Hid (OpsIn w sa os ∧ ∀ v, v ∈ os → v.data w) := ⟨hs, hd⟩
  clear hs hd
  go_enter Try.func7, Try.ntmps7
  go_wp2_with fail
  go_at_call 9
  refine (known_any w).mono ?_
  rintro e w1 ⟨rfl, hb1⟩
  have HB1 : Hid (Below w.heap.size w w1) := hb1
  clear hb1
  have A1 := newWriter_ok L w1 hL
  go_wp2_with fail
  go_at_call 27
  refine A1.mono ?_
  clear A1
  rintro e w2 ⟨rfl, hW2, k2⟩
  have A2 := vNew_ok L w2 hL
  have H2 : Hid (IsW w2 (w1.heap.size + 1) w1.heap.size (.slice none 0 0) (.map #[] 0) L [] 0 ∧ Kp w1 w2) := ⟨hW2, k2⟩
  clear hW2 k2
  go_wp2_with fail
  go_at_call 31
  refine A2.mono ?_
  clear A2
  rintro e w3 ⟨rfl, hV3, k3⟩
  have HI : Hid (Wr w ((w3.alloc (.cells #[.slice none 0 0, .slice none 0 0, .slice none 0 0, .slice none 0 0, .slice none 0 0, .slice none 0 0] 64)).alloc (.cells #[.pointer (some ⟨w1.heap.size + 1, 0, none⟩), .pointer (some ⟨w2.heap.size, 0, none⟩), .slice none 0 0, .int .i64 0, .int .i64 0] 68)) w3.heap.size (w1.heap.size + 1) w1.heap.size w2.heap.size (w3.heap.size + 1) 0 []) := by
    have k2 := H2.out.2
    have ka : Kp w3 (w3.alloc (.cells #[.slice none 0 0, .slice none 0 0, .slice none 0 0, .slice none 0 0, .slice none 0 0, .slice none 0 0] 64)) := Kp.al _ _
    have kb : Kp (w3.alloc (.cells #[.slice none 0 0, .slice none 0 0, .slice none 0 0, .slice none 0 0, .slice none 0 0, .slice none 0 0] 64)) ((w3.alloc (.cells #[.slice none 0 0, .slice none 0 0, .slice none 0 0, .slice none 0 0, .slice none 0 0, .slice none 0 0] 64)).alloc (.cells #[.pointer (some ⟨w1.heap.size + 1, 0, none⟩), .pointer (some ⟨w2.heap.size, 0, none⟩), .slice none 0 0, .int .i64 0, .int .i64 0] 68)) := Kp.al _ _
    have z1 := HB1.out.size
    have z2 := k2.size
    have z3 := k3.size
    have bel3 : Below w.heap.size w w3 := (HB1.out.trans (Chg.below k2 z1 (by simp))).trans (Chg.below k3 (by omega) (by simp))
    have hKz := kb.heap (heap_alloc_new w3 (.cells #[.slice none 0 0, .slice none 0 0, .slice none 0 0, .slice none 0 0, .slice none 0 0, .slice none 0 0] 64))
    have hXz := heap_alloc2_new w3 (.cells #[.slice none 0 0, .slice none 0 0, .slice none 0 0, .slice none 0 0, .slice none 0 0, .slice none 0 0] 64) (.cells #[.pointer (some ⟨w1.heap.size + 1, 0, none⟩), .pointer (some ⟨w2.heap.size, 0, none⟩), .slice none 0 0, .int .i64 0, .int .i64 0] 68)
    have kab := ka.trans kb
    obtain ⟨q1, q2⟩ := MW.init (w0 := w) (bel3.trans (Chg.below kab bel3.size (by simp))) ((H2.out.1.other k3 (fun _ _ x => x)).other kab (fun _ _ x => x)) (hV3.kp kab) hKz hXz (by omega) (by omega) (by omega) (by omega) (by omega)
    exact ⟨⟨_, _, 0, _, _, _, _, [], 0, 0, [], q1, q2, by simp, by simp, by simp, by simp, by omega, by omega, by omega⟩, by simp, by simp⟩
  clear hV3 k3 H2 HB1
  go_wp2_with fail
  generalize w3.heap.size + 1 = X at *
  generalize w1.heap.size + 1 = B at *
  generalize w1.heap.size = M at *
  generalize w2.heap.size = D at *
  generalize w3.heap.size = K at *
  go_loopw [12, 13, 14, 15, 16] (fun s12 s13 s14 s15 s16 wr => ∃ k : Nat, s12 = .int .i64 k ∧ k ≤ 200 ∧ k ≤ os.length ∧ Hid (∃ hs, Wr w wr K B M D X k hs)) (fun s12 _ _ _ _ _ => 200 - nI s12)
  case atStart => exact ⟨0, rfl, by omega, by omega, [], HI.out⟩
  case round =>
    obtain ⟨k, rfl, hk, hk2, HR⟩ := hrel
    clear HI
    rename World => wz
    obtain ⟨hs, hW⟩ := HR.out
    clear HR
    obtain ⟨⟨σ, v, n, vb, vo, s, pl, P, sz, dn, es, hM, hB, b1, b2, b3, b4, b5, b6⟩, lh, nh⟩ := hW
    by_cases hlt : k < os.length ∧ k < 200
    · obtain ⟨hl1, hl2⟩ := hlt
      have h1z : (k : Int) < (os.length : Int) := by omega
      have h2z : (k : Int) < 200 := by omega
      obtain ⟨sb, so, hsa, hop⟩ := HS.out.1.2.2.resolve_left (by omega)
      subst hsa
      obtain ⟨o0, o1, o2, o3, o4⟩ := (hop k hl1).below hM.bel
      have hdat := HS.out.2 os[k] (List.getElem_mem hl1)
      clear hop
      generalize os[k] = ov at *
      obtain ⟨kind, nn, kk, ba, bl, bc, vb9, str⟩ := ov
      obtain ⟨⟨hok1, hok2, hok3⟩, hbs, hbl, hbc, hbn, hstr⟩ := hdat
      simp only at o0 o1 o2 o3 o4 hok1 hok2 hok3 hbs hbl hbc hbn hstr
      have A0 := cut_any wz kind nn kk ba bl bc str hbc (by omega) (by omega)
      have H0 : Hid (MW w wz σ K B M D v n vb vo s es [] hs ∧ MB wz σ X B D pl P sz dn ∧ (∀ e, e ∈ hs → e.o < 2 * k) ∧ Bs w ba bl vb9) := ⟨hM, hB, nh, hbs⟩
      clear hM hB nh hbs
      go_wp2_with fail
      go_at_call 32
      refine A0.mono ?_
      clear A0 o0 o1 o2 o3 o4
      rintro e w4 ⟨bl', str', rfl, c1, c2, c3, k4⟩
      obtain ⟨W5, hW5⟩ : ∃ W5, W5 = w4.alloc (.cells #[.int .i64 kind, .int .u64 nn, .int .i64 kk, .slice ba bl' bc, .string str'] 44) := ⟨_, rfl⟩
      have k5 : Kp wz W5 := k4.trans (by rw [hW5]; exact Kp.al _ _)
      have tb : W5.heap[w4.heap.size]? = some (.cells #[.int .i64 kind, .int .u64 nn, .int .i64 kk, .slice ba bl' bc, .string str'] 44 (0, 0)) := by rw [hW5]; exact heap_alloc_new w4 _
      have hT0 : σ w4.heap.size = (0, 0) := H0.out.1.fz _ k4.size
      have A1 := much_any (H0.out.1.kp k5) (H0.out.2.1.kp k5) b5 b6 kind nn kk hok3.1 hok3.2 ba bl' bc str' (by omega) (by omega)
      have H5 : Hid (Kp wz W5) := k5
      go_upto_region 14 with fail
      rw [← hW5]
      clear hW5 k4 k5
      generalize w4.heap.size = T at *
      have t0 : W5.cell? ⟨T, 0, none⟩ = some (.int .i64 kind) := by rw [(cells_at tb _).1]; rfl
      have t1 : W5.cell? ⟨T, 1, none⟩ = some (.int .u64 nn) := by rw [(cells_at tb _).1]; rfl
      have t2 : W5.cell? ⟨T, 2, none⟩ = some (.int .i64 kk) := by rw [(cells_at tb _).1]; rfl
      have t3 : W5.cell? ⟨T, 3, none⟩ = some (.slice ba bl' bc) := by rw [(cells_at tb _).1]; rfl
      have t4 : W5.cell? ⟨T, 4, none⟩ = some (.string str') := by rw [(cells_at tb _).1]; rfl
      clear tb
      go_wp2_with fail
      go_at_call 33
      refine A1.mono ?_
      clear A1
      rintro e w6 ⟨ob, sz', dn', rfl, mw6, mb6, hb6, mv6⟩
      cases ob with
      | true =>
        have hdn := done_any mw6 (2 * k) H0.out.2.2.1
        clear mw6 mb6 hb6 mv6 t0 t1 t2 t3 t4 H0 H5
        go_wp2_with fail
        go_at_call 36
        refine hdn.mono ?_
        clear hdn
        rintro e wA ⟨rfl, σA, fsA, mwA, hlA, hoA, mvA⟩
        have hlkA := look_w mwA (by omega)
        clear mwA mvA
        go_wp2_with fail
        go_at_call 35
        refine hlkA.mono ?_
        clear hlkA
        rintro e wB ⟨rfl, σB, esB, mwB, sfB, hlB⟩
        have hlkB := look_w mwB (by omega)
        clear mwB sfB
        go_wp2_with fail
        go_at_call 35
        refine hlkB.mono ?_
        clear hlkB
        rintro e wC ⟨rfl, σC, esC, mwC, sfC, hlC⟩
        have HE : Hid (Below w.heap.size w wC) := mwC.bel
        clear mwC sfC
        go_wp2
        go_ret
        exact ⟨rfl, HE.out⟩
      | false =>
        obtain ⟨d5, d6⟩ := hb6 rfl
        have nT : ¬ (σ T = (0, 3)) := by rw [hT0]; decide
        have r0 := mv6.ch.cell' nT t0
        have r1 := mv6.ch.cell' nT t1
        have r2 := mv6.ch.cell' nT t2
        have r3 := mv6.ch.cell' nT t3
        have r4 := mv6.ch.cell' nT t4
        have A2 := step_any mw6 mb6 (2 * k) H0.out.2.2.1 (by omega) (by omega) (by omega) kind nn kk hok2.1 hok2.2 hok3.1 hok3.2 ba bl' bc str' (vb9.take bl') (Bs.pre2 H0.out.2.2.2 c2) (by omega) (by omega) (by omega)
        clear mw6 mb6 hb6 mv6 t0 t1 t2 t3 t4 H5 nT
        go_wp2_with fail
        go_at_call 34
        refine A2.mono ?_
        clear A2 r0 r1 r2 r3 r4
        rintro e w7 ⟨rfl, σ7, v7, n7, vb7, vo7, s7, pl7, P7, fs7, mw7, mb7, f1, f2, f3, f4, f5, f6⟩
        have hlk := look_w mw7 (by omega)
        have H7 : Hid (MB w7 σ7 X B D pl7 P7 sz' dn') := mb7
        clear mw7 mb7 f6
        go_wp2_with fail
        go_at_call 35
        refine hlk.mono ?_
        clear hlk
        rintro e w8 ⟨rfl, σ8, es8, mw8, sf8, hl8⟩
        have HN : Hid (Wr w w8 K B M D X (k + 1) fs7) := ⟨⟨σ8, v7, n7, vb7, vo7, s7, pl7, P7, sz', dn', es8, mw8, H7.out.sf sf8, by omega, by omega, by omega, by omega, d5, d6⟩, f1, fun e he => by have := f2 e he; omega⟩
        clear mw8 sf8
        go_wp2_with fail
        exact ⟨⟨k + 1, by go_num, by omega, by omega, fs7, HN.out⟩, by simp [nI]; omega⟩
    · have hdn := done_any hM (2 * k) nh
      clear hM hB nh
      by_cases hl1 : k < os.length
      · have h1z : (k : Int) < (os.length : Int) := by omega
        have h2z : ¬ (k : Int) < 200 := by omega
        go_wp2_with fail
        go_at_call 36
        refine hdn.mono ?_
        clear hdn
        rintro e wA ⟨rfl, σA, fsA, mwA, hlA, hoA, mvA⟩
        have hlkA := look_w mwA (by omega)
        clear mwA mvA
        go_wp2_with fail
        go_at_call 35
        refine hlkA.mono ?_
        clear hlkA
        rintro e wB ⟨rfl, σB, esB, mwB, sfB, hlB⟩
        have hlkB := look_w mwB (by omega)
        clear mwB sfB
        go_wp2_with fail
        go_at_call 35
        refine hlkB.mono ?_
        clear hlkB
        rintro e wC ⟨rfl, σC, esC, mwC, sfC, hlC⟩
        have HE : Hid (Below w.heap.size w wC) := mwC.bel
        clear mwC sfC
        go_wp2
        go_ret
        exact ⟨rfl, HE.out⟩
      · have h1z : ¬ (k : Int) < (os.length : Int) := by omega
        go_wp2_with fail
        go_at_call 36
        refine hdn.mono ?_
        clear hdn
        rintro e wA ⟨rfl, σA, fsA, mwA, hlA, hoA, mvA⟩
        have hlkA := look_w mwA (by omega)
        clear mwA mvA
        go_wp2_with fail
        go_at_call 35
        refine hlkA.mono ?_
        clear hlkA
        rintro e wB ⟨rfl, σB, esB, mwB, sfB, hlB⟩
        have hlkB := look_w mwB (by omega)
        clear mwB sfB
        go_wp2_with fail
        go_at_call 35
        refine hlkB.mono ?_
        clear hlkB
        rintro e wC ⟨rfl, σC, esC, mwC, sfC, hlC⟩
        have HE : Hid (Below w.heap.size w wC) := mwC.bel
        clear mwC sfC
        go_wp2
        go_ret
        exact ⟨rfl, HE.out⟩
end Go.Proofs.Ytfcpkcbiinbmiaa
