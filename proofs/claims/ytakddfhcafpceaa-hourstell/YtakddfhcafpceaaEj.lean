import Derived.Test.YtakddfhcafpceaaEi
import Derived.Sort.CutIn
namespace Go.Proofs.Ytakddfhcafpceaa
open Go.ChangeShapes Go.WideShapes Go.ChangeAt Go.RowKit Go.Shelf
set_option linter.unusedVariables false
attribute [local go_sem] Oper.semAt_some
theorem run_store_fn {P : Program} {w : World} {a : Addr} {m : Mode} (fn : Fn) (first captured : Array Value) : (store a (.func fn first captured) m).run P w = stored P w a (.func fn first captured) m := run_store P w a _ m rfl
attribute [local go_sem] run_store_fn
/-- What 'all' has laid ahead of its ranges. -/
structure AlF (w w4 : World) (B F : Nat) (h : Hr) (fr te mo m : Nat) (av : Option Addr) (cv b11 b12 bh : Nat) : Prop where
  kp : Kp w w4
  iB : IsH w4 B h
  iF : IsH w4 F h
  x6 : Bx1 w4 w.heap.size (.pointer (some ⟨F, 0, none⟩)) 41
  x9 : Bx1 w4 (w.heap.size + 1) (.int .i64 (mo : Nat)) 3
  x10 : Bx1 w4 (w.heap.size + 1 + 1) (.bool false) 4
  x11 : Bx1 w4 b11 (.slice av m cv) 40
  x12 : Bx1 w4 b12 (.func (.func 25) #[] #[.pointer (some ⟨bh, 0, none⟩), .pointer (some ⟨bh + 2, 0, none⟩), .pointer (some ⟨bh + 1, 0, none⟩)]) 33
  ou : OU w4 (.slice av m cv) (alN (h.ah fr) (min (h.cnt fr te) mo))
  m : m = min (h.cnt fr te) mo
  t1 : w4.cell? ⟨bh, 0, none⟩ = some (.pointer (some ⟨B, 0, none⟩))
  t2 : w4.cell? ⟨bh + 1, 0, none⟩ = some (.int .u64 (fr : Nat))
  t3 : w4.cell? ⟨bh + 2, 0, none⟩ = some (.int .u64 (te : Nat))
set_option maxHeartbeats 4000000 in
set_option maxRecDepth 10000 in
theorem allw_any (w : World) (B F : Nat) (h : Hr) (i : IsH w B h) (j : IsH w F h) (fr te : Nat) (hfr : fr < 18446744073709551616) (hte : te < 18446744073709551616) (mo : Nat) (hmo : mo ≤ 400) (hmo1 : 1 ≤ mo) :
    Calls Try.prog 17 #[.pointer (some ⟨B, 0, none⟩), .pointer (some ⟨F, 0, none⟩), .int .u64 (fr : Nat), .int .u64 (te : Nat), .int .i64 (mo : Nat)] w fun e w' => e = .returned (.bool true) ∧ Kp w w' := by
  have kA : Kp w (((w.alloc (.cells #[.pointer (some ⟨F, 0, none⟩)] 41)).alloc (.cells #[.int .i64 (mo : Nat)] 3)).alloc (.cells #[.bool false] 4)) := ((Kp.al w _).trans (Kp.al _ _)).trans (Kp.al _ _)
  have g6 : Bx1 (((w.alloc (.cells #[.pointer (some ⟨F, 0, none⟩)] 41)).alloc (.cells #[.int .i64 (mo : Nat)] 3)).alloc (.cells #[.bool false] 4)) w.heap.size (.pointer (some ⟨F, 0, none⟩)) 41 := (Kp.al _ _).heap ((Kp.al _ _).heap (heap_alloc_new w _))
  have g9 : Bx1 (((w.alloc (.cells #[.pointer (some ⟨F, 0, none⟩)] 41)).alloc (.cells #[.int .i64 (mo : Nat)] 3)).alloc (.cells #[.bool false] 4)) (w.heap.size + 1) (.int .i64 (mo : Nat)) 3 := by
    have := heap_alloc_new (w.alloc (.cells #[.pointer (some ⟨F, 0, none⟩)] 41)) (.cells #[.int .i64 (mo : Nat)] 3)
    exact (Kp.al _ _).heap (by simpa using this)
  have g10 : Bx1 (((w.alloc (.cells #[.pointer (some ⟨F, 0, none⟩)] 41)).alloc (.cells #[.int .i64 (mo : Nat)] 3)).alloc (.cells #[.bool false] 4)) (w.heap.size + 1 + 1) (.bool false) 4 := by
    have := heap_alloc_new ((w.alloc (.cells #[.pointer (some ⟨F, 0, none⟩)] 41)).alloc (.cells #[.int .i64 (mo : Nat)] 3)) (.cells #[.bool false] 4)
    simpa [Bx1] using this
  have hR := rall_any (((w.alloc (.cells #[.pointer (some ⟨F, 0, none⟩)] 41)).alloc (.cells #[.int .i64 (mo : Nat)] 3)).alloc (.cells #[.bool false] 4)) F h (j.kp kA) fr te hfr hte mo hmo
  have iA := i.kp kA
  have jA := j.kp kA
  refine (callsIn_wide (n := 4)).1 ?_
  refine callsIn_of_wp_marks Try.func17 rfl trivial ?_ rfl
  simp only [Try.ntmps17, List.size_toArray, List.length_cons, List.length_nil, Nat.reduceAdd, Nat.reduceSub, Array.replicate_succ, Array.replicate_zero, List.push_toArray, List.append_toArray, List.nil_append, List.cons_append]
  refine wpIn_wide.2 ?_
  obtain ⟨cn, hcn⟩ : ∃ cn, cn = h.cnt fr te := ⟨_, rfl⟩
  have HCN : Hid (cn = h.cnt fr te) := hcn
  clear hcn i j
  go_wp2_with fail
  go_at_call 31
  refine hR.mono ?_
  rintro e w1 ⟨v, rfl, ov, k1, nv⟩
  obtain ⟨av, m, cv, hvm, hm⟩ : ∃ av m cv, v = .slice av m cv ∧ m = min (h.cnt fr te) mo := by
    rcases ov.at with ⟨e, e2⟩ | ⟨g, cap, e, _⟩
    · refine ⟨_, _, _, e, ?_⟩
      have := alN_len (h.ah fr) (min (h.cnt fr te) mo); rw [e2] at this; simpa using this
    · rw [alN_len] at e; exact ⟨_, _, _, e, rfl⟩
  subst hvm
  have HM : Hid (m = min (h.cnt fr te) mo) := hm
  have al7 := Kp.al w1 (.cells #[.slice av m cv] 40)
  have g11 : Bx1 (w1.alloc (.cells #[.slice av m cv] 40)) w1.heap.size (.slice av m cv) 40 := heap_alloc_new w1 _
  have k2 := k1.trans al7
  have ov2 : OU (w1.alloc (.cells #[.slice av m cv] 40)) (.slice av m cv) (alN (h.ah fr) (min (h.cnt fr te) mo)) := Chg.owns al7 ov (fun _ _ e => e)
  have HK2 : Hid (Kp w (w1.alloc (.cells #[.slice av m cv] 40))) := kA.trans k2
  have hAll := all_any (w1.alloc (.cells #[.slice av m cv] 40)) B (fr : Nat) (te : Nat)
  have m6 := k2.heap g6
  have m9 := k2.heap g9
  have m10 := k2.heap g10
  have iA2 := iA.kp k2
  have jA2 := jA.kp k2
  clear hR hm nv ov k1 al7 kA g6 g9 g10 iA jA k2
  go_wp2_with fail
  generalize w1.alloc (.cells #[.slice av m cv] 40) = w2 at *
  go_at_call 12
  refine hAll.mono ?_
  rintro e w3 ⟨rfl, hw3⟩
  change w3 = al3 w2 B (fr : Nat) (te : Nat) at hw3
  have k3 : Kp w2 w3 := by rw [hw3]; exact al3_kp _ _ _ _
  obtain ⟨t1, t2, t3⟩ := al3_at w2 B (fr : Nat) (te : Nat)
  rw [← hw3] at t1 t2 t3
  have hfn : ∀ W : World, (binOp BinOp.eql 33 (.func (.func 25) #[] #[.pointer (some ⟨w2.heap.size, 0, none⟩), .pointer (some ⟨w2.heap.size + 2, 0, none⟩), .pointer (some ⟨w2.heap.size + 1, 0, none⟩)]) .nilFunc).run Try.prog W = .ok (.bool false) W := fun W => by kernel_rfl
  have al12 := Kp.al w3 (.cells #[.func (.func 25) #[] #[.pointer (some ⟨w2.heap.size, 0, none⟩), .pointer (some ⟨w2.heap.size + 2, 0, none⟩), .pointer (some ⟨w2.heap.size + 1, 0, none⟩)]] 33)
  have g12 : Bx1 (w3.alloc (.cells #[.func (.func 25) #[] #[.pointer (some ⟨w2.heap.size, 0, none⟩), .pointer (some ⟨w2.heap.size + 2, 0, none⟩), .pointer (some ⟨w2.heap.size + 1, 0, none⟩)]] 33)) w3.heap.size _ 33 := heap_alloc_new w3 _
  have HA : Hid (AlF w (w3.alloc (.cells #[.func (.func 25) #[] #[.pointer (some ⟨w2.heap.size, 0, none⟩), .pointer (some ⟨w2.heap.size + 2, 0, none⟩), .pointer (some ⟨w2.heap.size + 1, 0, none⟩)]] 33)) B F h fr te mo m av cv w1.heap.size w3.heap.size w2.heap.size) :=
    ⟨HK2.out.trans (k3.trans al12), iA2.kp (k3.trans al12), jA2.kp (k3.trans al12), (k3.trans al12).heap m6, (k3.trans al12).heap m9, (k3.trans al12).heap m10, (k3.trans al12).heap g11, g12, Chg.owns (k3.trans al12) ov2 (fun _ _ e => e), HM.out, al12.cell t1, al12.cell t2, al12.cell t3⟩
  have c12 := (cellB g12).1
  clear hAll iA2 jA2 m6 m9 m10 g11 ov2 HK2 k3 t1 t2 t3 hw3 al12 g12
  go_wp2_with fail
  generalize w3.alloc (.cells #[.func (.func 25) #[] #[.pointer (some ⟨w2.heap.size, 0, none⟩), .pointer (some ⟨w2.heap.size + 2, 0, none⟩), .pointer (some ⟨w2.heap.size + 1, 0, none⟩)]] 33) = w4 at *
  refine wp_loop_ghost_k (fun N a W => ∃ (q : Nat) (bs : List Nat), a.defers = bs.map mk1 ∧ a.tmps = #[Value.pointer (some { block := B, off := 0 }), Value.pointer (some { block := F, off := 0 }), Value.int IntKind.u64 ↑fr, Value.int IntKind.u64 ↑te, Value.int IntKind.i64 ↑mo, undef, Value.pointer (some { block := w.heap.size, off := 0 }), undef, undef, Value.pointer (some { block := w.heap.size + 1, off := 0 }), Value.pointer (some { block := w.heap.size + 1 + 1, off := 0 }), Value.pointer (some { block := w1.heap.size, off := 0 }), Value.pointer (some { block := w3.heap.size, off := 0 }), .int .i64 (q : Nat), (a.tmps.getD 14 undef), (a.tmps.getD 15 undef), (a.tmps.getD 16 undef), (a.tmps.getD 17 undef), (a.tmps.getD 18 undef), (a.tmps.getD 19 undef), (a.tmps.getD 20 undef), (a.tmps.getD 21 undef), Value.pointer (some { block := F, off := 0 }), Value.int IntKind.u64 ↑fr, Value.int IntKind.u64 ↑te, Value.int IntKind.i64 ↑mo, Value.slice av m cv, Value.pointer (some { block := B, off := 0 }), Value.int IntKind.u64 ↑fr, Value.int IntKind.u64 ↑te, Value.func (Fn.func 25) #[] #[Value.pointer (some { block := w2.heap.size, off := 0 }), Value.pointer (some { block := w2.heap.size + 2, off := 0 }), Value.pointer (some { block := w2.heap.size + 1, off := 0 })], Value.func (Fn.func 25) #[] #[Value.pointer (some { block := w2.heap.size, off := 0 }), Value.pointer (some { block := w2.heap.size + 2, off := 0 }), Value.pointer (some { block := w2.heap.size + 1, off := 0 })], Value.bool false, (a.tmps.getD 33 undef), (a.tmps.getD 34 undef), (a.tmps.getD 35 undef), (a.tmps.getD 36 undef), (a.tmps.getD 37 undef), (a.tmps.getD 38 undef), (a.tmps.getD 39 undef), (a.tmps.getD 40 undef), (a.tmps.getD 41 undef), (a.tmps.getD 42 undef), (a.tmps.getD 43 undef), (a.tmps.getD 44 undef), (a.tmps.getD 45 undef), (a.tmps.getD 46 undef), (a.tmps.getD 47 undef), (a.tmps.getD 48 undef), (a.tmps.getD 49 undef), (a.tmps.getD 50 undef), (a.tmps.getD 51 undef), (a.tmps.getD 52 undef), (a.tmps.getD 53 undef), (a.tmps.getD 54 undef), (a.tmps.getD 55 undef), (a.tmps.getD 56 undef), (a.tmps.getD 57 undef), (a.tmps.getD 58 undef), (a.tmps.getD 59 undef), (a.tmps.getD 60 undef), (a.tmps.getD 61 undef), (a.tmps.getD 62 undef), (a.tmps.getD 63 undef), (a.tmps.getD 64 undef), (a.tmps.getD 65 undef), (a.tmps.getD 66 undef), (a.tmps.getD 67 undef), (a.tmps.getD 68 undef), (a.tmps.getD 69 undef), (a.tmps.getD 70 undef), (a.tmps.getD 71 undef), (a.tmps.getD 72 undef), (a.tmps.getD 73 undef), (a.tmps.getD 74 undef), (a.tmps.getD 75 undef), (a.tmps.getD 76 undef), (a.tmps.getD 77 undef), (a.tmps.getD 78 undef), (a.tmps.getD 79 undef), (a.tmps.getD 80 undef), (a.tmps.getD 81 undef), (a.tmps.getD 82 undef), (a.tmps.getD 83 undef), (a.tmps.getD 84 undef), (a.tmps.getD 85 undef), (a.tmps.getD 86 undef), (a.tmps.getD 87 undef), (a.tmps.getD 88 undef), (a.tmps.getD 89 undef), (a.tmps.getD 90 undef), (a.tmps.getD 91 undef), (a.tmps.getD 92 undef), (a.tmps.getD 93 undef), (a.tmps.getD 94 undef), (a.tmps.getD 95 undef), (a.tmps.getD 96 undef), (a.tmps.getD 97 undef), (a.tmps.getD 98 undef), (a.tmps.getD 99 undef), (a.tmps.getD 100 undef), (a.tmps.getD 101 undef), (a.tmps.getD 102 undef), (a.tmps.getD 103 undef), (a.tmps.getD 104 undef), (a.tmps.getD 105 undef), (a.tmps.getD 106 undef), (a.tmps.getD 107 undef), (a.tmps.getD 108 undef), (a.tmps.getD 109 undef), (a.tmps.getD 110 undef), (a.tmps.getD 111 undef), (a.tmps.getD 112 undef), (a.tmps.getD 113 undef)] ∧ N = 2 - q ∧ q ≤ 2 ∧ Hid (Kp w4 W ∧ Mks w4.heap.size W bs)) 2 ⟨0, [], rfl, by kernel_rfl, rfl, by omega, ⟨Kp.refl w4, Mks.nil _ _⟩⟩ ?_
  intro N a W hI
  obtain ⟨q, bs, u, ha, hN, hq, HI⟩ : ∃ (q : Nat) (bs : List Nat) (u : Nat → Value), a = { tmps := #[Value.pointer (some { block := B, off := 0 }), Value.pointer (some { block := F, off := 0 }), Value.int IntKind.u64 ↑fr, Value.int IntKind.u64 ↑te, Value.int IntKind.i64 ↑mo, undef, Value.pointer (some { block := w.heap.size, off := 0 }), undef, undef, Value.pointer (some { block := w.heap.size + 1, off := 0 }), Value.pointer (some { block := w.heap.size + 1 + 1, off := 0 }), Value.pointer (some { block := w1.heap.size, off := 0 }), Value.pointer (some { block := w3.heap.size, off := 0 }), .int .i64 (q : Nat), (u 14), (u 15), (u 16), (u 17), (u 18), (u 19), (u 20), (u 21), Value.pointer (some { block := F, off := 0 }), Value.int IntKind.u64 ↑fr, Value.int IntKind.u64 ↑te, Value.int IntKind.i64 ↑mo, Value.slice av m cv, Value.pointer (some { block := B, off := 0 }), Value.int IntKind.u64 ↑fr, Value.int IntKind.u64 ↑te, Value.func (Fn.func 25) #[] #[Value.pointer (some { block := w2.heap.size, off := 0 }), Value.pointer (some { block := w2.heap.size + 2, off := 0 }), Value.pointer (some { block := w2.heap.size + 1, off := 0 })], Value.func (Fn.func 25) #[] #[Value.pointer (some { block := w2.heap.size, off := 0 }), Value.pointer (some { block := w2.heap.size + 2, off := 0 }), Value.pointer (some { block := w2.heap.size + 1, off := 0 })], Value.bool false, (u 33), (u 34), (u 35), (u 36), (u 37), (u 38), (u 39), (u 40), (u 41), (u 42), (u 43), (u 44), (u 45), (u 46), (u 47), (u 48), (u 49), (u 50), (u 51), (u 52), (u 53), (u 54), (u 55), (u 56), (u 57), (u 58), (u 59), (u 60), (u 61), (u 62), (u 63), (u 64), (u 65), (u 66), (u 67), (u 68), (u 69), (u 70), (u 71), (u 72), (u 73), (u 74), (u 75), (u 76), (u 77), (u 78), (u 79), (u 80), (u 81), (u 82), (u 83), (u 84), (u 85), (u 86), (u 87), (u 88), (u 89), (u 90), (u 91), (u 92), (u 93), (u 94), (u 95), (u 96), (u 97), (u 98), (u 99), (u 100), (u 101), (u 102), (u 103), (u 104), (u 105), (u 106), (u 107), (u 108), (u 109), (u 110), (u 111), (u 112), (u 113)], defers := bs.map mk1 } ∧ N = 2 - q ∧ q ≤ 2 ∧ Hid (Kp w4 W ∧ Mks w4.heap.size W bs) := by
    obtain ⟨q, bs, h1, h2, h3⟩ := hI
    refine ⟨q, bs, fun k => a.tmps.getD k undef, ?_, h3⟩
    obtain ⟨t, d⟩ := a
    simp only at h1 h2
    rw [h1, ← h2]
  subst ha
  clear hI
  intro J K hJ hK
  clear c12
  by_cases hlt : q < 2
  · have hltz : (q : Int) < 2 := by omega
    have al := Kp.al W (.cells #[.int .i64 0] 3)
    have g14 : Bx1 (W.alloc (.cells #[.int .i64 0] 3)) W.heap.size (.int .i64 ((0 : Nat) : Int)) 3 := heap_alloc_new W _
    have kW := HI.out.1.trans al
    have hseq := all_seqD 2 (W.alloc (.cells #[.int .i64 0] 3)) (W.alloc (.cells #[.int .i64 0] 3)).heap.size 2 B w2.heap.size (w2.heap.size + 2) (w2.heap.size + 1) h (aBx.of (HA.out.iB.kp kW) (kW.cell HA.out.t1) (Nat.le_refl _)) fr te hfr hte (kW.cell HA.out.t3) (kW.cell HA.out.t2)
    rw [← HCN.out] at hseq
    have sW : (W.alloc (.cells #[.int .i64 0] 3)).heap.size = W.heap.size + 1 := by simp
    have HB : Hid (Kp W (W.alloc (.cells #[.int .i64 0] 3)) ∧ Bx1 (W.alloc (.cells #[.int .i64 0] 3)) W.heap.size (.int .i64 ((0 : Nat) : Int)) 3 ∧ (W.alloc (.cells #[.int .i64 0] 3)).heap.size = W.heap.size + 1 ∧ Kp w4 (W.alloc (.cells #[.int .i64 0] 3)) ∧ w4.heap.size ≤ W.heap.size) := ⟨al, g14, sW, kW, HI.out.1.size⟩
    have c12 := kW.cell (cellB HA.out.x12).1
    clear al g14 kW sW
    go_wp2_with fail
    generalize W.alloc (.cells #[.int .i64 0] 3) = W1 at *
    clear c12
    refine (wpIn_wide (n := 4)).1 ?_
    refine range_ownH (gf := 25) rfl (enters_of Try.func25 (by kernel_rfl) rfl) hseq (fun _ _ => rfl)
      (fun _ k W' => k < mo ∧ Chg W1 W' (fun i => i = W.heap.size) ∧ Bx1 W' W.heap.size (.int .i64 (k : Nat)) 3)
      (fun c W' => c = .exit 2 ∧ mo ≤ cn ∧ Chg W1 W' (fun i => i = W.heap.size) ∧ Bx1 W' W.heap.size (.int .i64 (mo : Nat)) 3) ?_ ?_ ?_ ?_ ?_
      (fun _ k a' W' => ∃ Bx, W1.heap.size + 2 ≤ Bx ∧ W'.heap[Bx]? = some (.cells #[.int .i64 (h.at (h.ah fr + k)).c, .int .u64 (h.st (h.ah fr + k) : Nat), .int .u64 ((h.at (h.ah fr + k)).l : Nat)] 36 (0, 0)) ∧ a' = { tmps := #[Value.pointer (some { block := B, off := 0 }), Value.pointer (some { block := F, off := 0 }), Value.int IntKind.u64 ↑fr, Value.int IntKind.u64 ↑te, Value.int IntKind.i64 ↑mo, undef, Value.pointer (some { block := w.heap.size, off := 0 }), undef, undef, Value.pointer (some { block := w.heap.size + 1, off := 0 }), Value.pointer (some { block := w.heap.size + 1 + 1, off := 0 }), Value.pointer (some { block := w1.heap.size, off := 0 }), Value.pointer (some { block := w3.heap.size, off := 0 }), Value.int IntKind.i64 ↑q, Value.pointer (some { block := W.heap.size, off := 0 }), .int .u64 ((h.ah fr + k : Nat) : Int), .pointer (some ⟨Bx, 0, none⟩), u 17, u 18, u 19, u 20, u 21, Value.pointer (some { block := F, off := 0 }), Value.int IntKind.u64 ↑fr, Value.int IntKind.u64 ↑te, Value.int IntKind.i64 ↑mo, Value.slice av m cv, Value.pointer (some { block := B, off := 0 }), Value.int IntKind.u64 ↑fr, Value.int IntKind.u64 ↑te, Value.func (Fn.func 25) #[] #[Value.pointer (some { block := w2.heap.size, off := 0 }), Value.pointer (some { block := w2.heap.size + 2, off := 0 }), Value.pointer (some { block := w2.heap.size + 1, off := 0 })], Value.func (Fn.func 25) #[] #[Value.pointer (some { block := w2.heap.size, off := 0 }), Value.pointer (some { block := w2.heap.size + 2, off := 0 }), Value.pointer (some { block := w2.heap.size + 1, off := 0 })], Value.bool false, Value.int IntKind.i64 ↑q, Value.bool true, u 35, u 36, Value.func (Fn.func 25) #[] #[Value.pointer (some { block := w2.heap.size, off := 0 }), Value.pointer (some { block := w2.heap.size + 2, off := 0 }), Value.pointer (some { block := w2.heap.size + 1, off := 0 })], .int .u64 ((h.ah fr + k : Nat) : Int), .agg #[.int .i64 (h.at (h.ah fr + k)).c, .int .u64 (h.st (h.ah fr + k) : Nat), .int .u64 ((h.at (h.ah fr + k)).l : Nat)], u 40, u 41, u 42, u 43, u 44, u 45, u 46, u 47, u 48, u 49, u 50, u 51, u 52, u 53, u 54, u 55, u 56, u 57, u 58, u 59, u 60, u 61, u 62, u 63, u 64, u 65, u 66, u 67, u 68, u 69, u 70, u 71, u 72, u 73, u 74, u 75, u 76, u 77, u 78, u 79, u 80, u 81, u 82, u 83, u 84, u 85, u 86, u 87, u 88, u 89, u 90, u 91, u 92, u 93, u 94, u 95, u 96, u 97, u 98, u 99, u 100, u 101, u 102, u 103, u 104, u 105, u 106, u 107, u 108, u 109, u 110, u 111, u 112, u 113], defers := [] }) ?_ ?assign ?body ?done ?stop
    · rintro _ k A C ⟨h0, h1, h2⟩ hC
      have hs := HB.out.2.2.1
      exact ⟨h0, Chg.trans h1 hC (fun i hi e => by rcases e with e | e <;> omega), hC.heap h2 (by rintro (e | e) <;> omega)⟩
    · rintro c A C ⟨h0, h1, h2, h3⟩ hC
      have hs := HB.out.2.2.1
      exact ⟨h0, h1, Chg.trans h2 hC (fun i hi e => by rcases e with e | e <;> omega), hC.heap h3 (by rintro (e | e) <;> omega)⟩
    · rintro _ A C D hAC hK2 hx
      exact hK2 (hx.two hAC)
    · rintro _ A C D hK2 hCD hx
      exact (hK2 hx).two hCD
    · intro _ Wa Wb hW hs hG
      have hq : Kp W1 Wb := Kp.trans hW hG
      exact ⟨⟨by omega, hq.any, hq.heap HB.out.2.1⟩, hG⟩
    · rintro _ k a' A C ⟨Bx, hBx, h1, h2⟩ hC
      exact ⟨Bx, hBx, hC.heap h1 (by rintro (e | e) <;> omega), h2⟩
    case assign =>
      rintro _ k Wa K' hk hI hs hK'
      unfold aArgs Hr.wn Wn.cs
      clear hI hk
      gi_wp2
      exact hK' _ _ (Kp.al _ _) ⟨Wa.heap.size, hs, heap_alloc_new Wa _, rfl⟩
    case body =>
      rintro _ k a' Wa hk ⟨r0, hr0⟩ ⟨hkm, hI, hb14⟩ ⟨Bx, hBx, hbx, rfl⟩ hs
      obtain ⟨p, hp⟩ : ∃ p, p = h.ah fr + k := ⟨_, rfl⟩
      rw [← hp] at hbx ⊢
      have hahle : p < 18446744073709551616 := by
        have h1 := Hr.ah_le HA.out.iB.ok (me te)
        have h2 : me te ≤ 9223372036854775808 := by unfold me; omega
        have h3 := HCN.out
        unfold Hr.cnt at h3
        omega
      have kWa : Kp w4 Wa := HB.out.2.2.2.1.then hI (fun i hi e => by have := HB.out.2.2.2.2; omega)
      have hkm2 : k < m := by have := HA.out.m; have := HCN.out; omega
      obtain ⟨g, rfl, xg⟩ : ∃ g, av = some ⟨g, 0, none⟩ ∧ ∀ j, j < m → w4.cell? ⟨g, j, none⟩ = some (.int .u64 ((h.ah fr + j : Nat) : Int)) := by
        rcases HA.out.ou.at with ⟨e, e2⟩ | ⟨g, cap, e, _, hx⟩
        · exfalso
          have := alN_len (h.ah fr) (min (h.cnt fr te) mo); rw [e2] at this; have := HA.out.m; simp at *; omega
        · have e3 : av = some ⟨g, 0, none⟩ := by simp at e; exact e.1
          refine ⟨g, e3, fun j hj => ?_⟩
          have := hx j (by rw [alN_len, ← HA.out.m]; exact hj)
          rw [alN_at] at this
          exact this
      have HXG : Hid (∀ j, j < m → w4.cell? ⟨g, j, none⟩ = some (.int .u64 ((h.ah fr + j : Nat) : Int))) := xg
      have xgk := kWa.cell (xg k hkm2)
      rw [← hp] at xgk
      obtain ⟨x14, f14⟩ := cellB hb14
      have x11 := (cellB (kWa.heap HA.out.x11)).1
      have x6 := (cellB (kWa.heap HA.out.x6)).1
      have hS1 := rstart_any Wa F h (HA.out.iF.kp kWa) p hahle
      have hW1 : ∀ W', Kp Wa W' → Calls Try.prog 30 #[.pointer (some ⟨F, 0, none⟩), .int .u64 (p : Nat)] W' fun e w' => e = .returned (.agg #[.int .i64 (h.at p).c, .int .u64 ((h.at p).s : Nat), .int .u64 ((h.at p).l : Nat)]) ∧ Kp W' w' := fun W' kk => rwindow_any W' F h ((HA.out.iF.kp kWa).kp kk) p hahle
      have HBODY : Hid (k < cn ∧ Chg W1 Wa (fun i => i = W.heap.size) ∧ Bx1 Wa W.heap.size (.int .i64 (k : Nat)) 3 ∧ Wa.heap[Bx]? = some (.cells #[.int .i64 (h.at p).c, .int .u64 (h.st p : Nat), .int .u64 ((h.at p).l : Nat)] 36 (0, 0)) ∧ W1.heap.size + 2 ≤ Bx ∧ W1.heap.size + 2 ≤ Wa.heap.size ∧ Wa.heap[W1.heap.size + 1]? = some (.loop r0) ∧ Kp w4 Wa) := ⟨hk, hI, hb14, hbx, hBx, hs, hr0, kWa⟩
      have hkmz : ¬ (m : Int) ≤ k := by omega
      have hkmz2 : (k : Int) < m := by omega
      have HP : Hid (p = h.ah fr + k) := hp
      clear hp hk hI hb14 hbx hBx hs hr0 kWa xg hseq hkm2
      generalize decide (h.rs p ≤ 9223372036854775807) = okp at *
      gi_wp2_with fail
      refine ⟨trivial, ?_⟩
      gi_at_call 29
      refine (CallsIn.inRound _ (callsIn_wide.2 hS1)).mono ?_
      rintro e Wb ⟨rfl, kb⟩
      have x6b := kb.cell x6
      have hW2 := hW1 Wb kb
      clear hS1 hW1
      gi_wp2_with fail
      refine ⟨trivial, ?_⟩
      gi_at_call 30
      refine (CallsIn.inRound _ (callsIn_wide.2 hW2)).mono ?_
      rintro e Wc ⟨rfl, kc⟩
      have alc := Kp.al Wc (.cells #[.int .i64 (h.at p).c, .int .u64 ((h.at p).s : Nat), .int .u64 ((h.at p).l : Nat)] 36)
      have g19 := heap_alloc_new Wc (.cells #[.int .i64 (h.at p).c, .int .u64 ((h.at p).s : Nat), .int .u64 ((h.at p).l : Nat)] 36)
      have kd := (kb.trans kc).trans alc
      have z0 := (cells_at g19 0).1
      have z2 := (cells_at g19 2).1
      have gB := kd.heap HBODY.out.2.2.2.1
      have y0 := (cells_at gB 0).1
      have y1 := (cells_at gB 1).1
      have y2 := (cells_at gB 2).1
      simp only [List.getElem?_toArray, List.getElem?_cons_zero, List.getElem?_cons_succ] at z0 z2 y0 y1 y2
      have g14 := kd.heap HBODY.out.2.2.1
      obtain ⟨x14', f14'⟩ := cellB g14
      have HD : Hid (Kp Wa (Wc.alloc (.cells #[.int .i64 (h.at p).c, .int .u64 ((h.at p).s : Nat), .int .u64 ((h.at p).l : Nat)] 36))) := kd
      have x9 := (HBODY.out.2.2.2.2.2.2.2.trans kd).cell (cellB HA.out.x9).1
      have hk1 : IntKind.i64.wrap ((k : Int) + 1) = ((k + 1 : Nat) : Int) := by rw [show (k : Int) + 1 = ((k + 1 : Nat) : Int) by omega]; exact w64 (by omega) (by omega)
      clear hW2 x6b kb kc alc g19 kd gB g14 x14 f14 x11 x6 xgk
      gi_upto_region 16 with fail
      generalize Wc.alloc (.cells #[.int .i64 (h.at p).c, .int .u64 ((h.at p).s : Nat), .int .u64 ((h.at p).l : Nat)] 36) = We at *
      by_cases hk0 : k = 0
      · subst hk0
        have hszS : (We.setCell ⟨W.heap.size, 0, none⟩ (.int .i64 1)).heap.size = We.heap.size := by simp [World.setCell]
        have alg := Kp.al (We.setCell ⟨W.heap.size, 0, none⟩ (.int .i64 1)) (.cells #[.int .i64 0] 3)
        have g20 : Bx1 ((We.setCell ⟨W.heap.size, 0, none⟩ (.int .i64 1)).alloc (.cells #[.int .i64 0] 3)) (We.setCell ⟨W.heap.size, 0, none⟩ (.int .i64 1)).heap.size (.int .i64 ((0 : Nat) : Int)) 3 := heap_alloc_new _ _
        rw [hszS] at g20
        obtain ⟨b1, b2, b3, b4, b5, b6, b7, b8⟩ := HBODY.out
        have hs1 := HB.out.2.2.1
        have hs2 := HB.out.2.2.2.2
        have hset := set1 We W.heap.size (.int .i64 1)
        have hkp : Kp w4 (We.setCell ⟨W.heap.size, 0, none⟩ (.int .i64 1)) := (b8.trans HD.out).then hset (fun i hi e => by omega)
        have hkp2 := hkp.trans alg
        have hcW1 : Chg W1 ((We.setCell ⟨W.heap.size, 0, none⟩ (.int .i64 1)).alloc (.cells #[.int .i64 0] 3)) (fun i => i = W.heap.size) := Chg.trans (Chg.trans (Chg.trans b2 HD.out (fun _ _ e => e.elim)) hset (fun _ _ e => e)) alg (fun _ _ e => e.elim)
        have hc14 : Bx1 ((We.setCell ⟨W.heap.size, 0, none⟩ (.int .i64 1)).alloc (.cells #[.int .i64 0] 3)) W.heap.size (.int .i64 1) 3 := alg.heap (heap_setCell_same We W.heap.size 0 _ 3 _ (HD.out.heap b3))
        have hcWa : Chg Wa ((We.setCell ⟨W.heap.size, 0, none⟩ (.int .i64 1)).alloc (.cells #[.int .i64 0] 3)) (fun i => i = W.heap.size) := Chg.trans (Chg.trans HD.out.any hset (fun _ _ e => e)) alg (fun _ _ e => e.elim)
        have hl0 : ((We.setCell ⟨W.heap.size, 0, none⟩ (.int .i64 1)).alloc (.cells #[.int .i64 0] 3)).heap[W1.heap.size + 1]? = some (.loop r0) := hcWa.heap b7 (by omega)
        have c12 := hkp2.cell (cellB HA.out.x12).1
        have hseq2 := all_seqD 1 ((We.setCell ⟨W.heap.size, 0, none⟩ (.int .i64 1)).alloc (.cells #[.int .i64 0] 3)) ((We.setCell ⟨W.heap.size, 0, none⟩ (.int .i64 1)).alloc (.cells #[.int .i64 0] 3)).heap.size 0 B w2.heap.size (w2.heap.size + 2) (w2.heap.size + 1) h (aBx.of (HA.out.iB.kp hkp2) (hkp2.cell HA.out.t1) (Nat.le_refl _)) fr te hfr hte (hkp2.cell HA.out.t3) (hkp2.cell HA.out.t2)
        rw [← HCN.out] at hseq2
        have hsz5 : ((We.setCell ⟨W.heap.size, 0, none⟩ (.int .i64 1)).alloc (.cells #[.int .i64 0] 3)).heap.size = We.heap.size + 1 := by simp [World.setCell]
        have hlow : Wa.heap.size ≤ We.heap.size := HD.out.size
        have HIN : Hid (Kp w4 ((We.setCell ⟨W.heap.size, 0, none⟩ (.int .i64 1)).alloc (.cells #[.int .i64 0] 3)) ∧ Chg W1 ((We.setCell ⟨W.heap.size, 0, none⟩ (.int .i64 1)).alloc (.cells #[.int .i64 0] 3)) (fun i => i = W.heap.size) ∧ Bx1 ((We.setCell ⟨W.heap.size, 0, none⟩ (.int .i64 1)).alloc (.cells #[.int .i64 0] 3)) W.heap.size (.int .i64 1) 3 ∧ Chg Wa ((We.setCell ⟨W.heap.size, 0, none⟩ (.int .i64 1)).alloc (.cells #[.int .i64 0] 3)) (fun i => i = W.heap.size) ∧ Bx1 ((We.setCell ⟨W.heap.size, 0, none⟩ (.int .i64 1)).alloc (.cells #[.int .i64 0] 3)) We.heap.size (.int .i64 ((0 : Nat) : Int)) 3 ∧ ((We.setCell ⟨W.heap.size, 0, none⟩ (.int .i64 1)).alloc (.cells #[.int .i64 0] 3)).heap.size = We.heap.size + 1 ∧ Wa.heap.size ≤ We.heap.size) := ⟨hkp2, hcW1, hc14, hcWa, g20, hsz5, hlow⟩
        clear b1 b2 b3 b4 b5 b6 b7 b8 hs1 hs2 hset hkp hkp2 hcW1 hc14 hcWa g20 alg hsz5 hlow hszS
        simp only [Nat.zero_add, Int.cast_ofNat_Int] at hk1 x14'
        gi_upto_region 21 with fail
        generalize ((We.setCell ⟨W.heap.size, 0, none⟩ (.int .i64 1)).alloc (.cells #[.int .i64 0] 3)) = W5 at *
        gi_wp2_with fail
        clear c12
        refine range_in (m := 2) hl0 (gf := 25) rfl (enters_of Try.func25 (by kernel_rfl) rfl) hseq2 (fun _ _ => rfl)
          (fun _ k2 W' => k2 < mo ∧ Chg W5 W' (fun i => i = We.heap.size) ∧ Bx1 W' We.heap.size (.int .i64 (k2 : Nat)) 3)
          (fun c W' => c = .exit 4 ∧ mo ≤ cn ∧ Chg W5 W' (fun i => i = We.heap.size) ∧ Bx1 W' We.heap.size (.int .i64 (mo : Nat)) 3) ?_ ?_ ?_ ?_ ?_
          (fun _ k2 a' W' => a' = { tmps := #[Value.pointer (some { block := B, off := 0 }), Value.pointer (some { block := F, off := 0 }), Value.int IntKind.u64 ↑fr, Value.int IntKind.u64 ↑te, Value.int IntKind.i64 ↑mo, undef, Value.pointer (some { block := w.heap.size, off := 0 }), undef, undef, Value.pointer (some { block := w.heap.size + 1, off := 0 }), Value.pointer (some { block := w.heap.size + 1 + 1, off := 0 }), Value.pointer (some { block := w1.heap.size, off := 0 }), Value.pointer (some { block := w3.heap.size, off := 0 }), Value.int IntKind.i64 ↑q, Value.pointer (some { block := W.heap.size, off := 0 }), Value.int IntKind.u64 ↑p, Value.pointer (some { block := Bx, off := 0 }), Value.int IntKind.u64 ↑(h.st p), Value.bool okp, Value.pointer (some { block := Wc.heap.size, off := 0 }), Value.pointer (some { block := We.heap.size, off := 0 }), .int .u64 ((h.ah fr + k2 : Nat) : Int), Value.pointer (some { block := F, off := 0 }), Value.int IntKind.u64 ↑fr, Value.int IntKind.u64 ↑te, Value.int IntKind.i64 ↑mo, Value.slice (some { block := g, off := 0 }) m cv, Value.pointer (some { block := B, off := 0 }), Value.int IntKind.u64 ↑fr, Value.int IntKind.u64 ↑te, Value.func (Fn.func 25) #[] #[Value.pointer (some { block := w2.heap.size, off := 0 }), Value.pointer (some { block := w2.heap.size + 2, off := 0 }), Value.pointer (some { block := w2.heap.size + 1, off := 0 })], Value.func (Fn.func 25) #[] #[Value.pointer (some { block := w2.heap.size, off := 0 }), Value.pointer (some { block := w2.heap.size + 2, off := 0 }), Value.pointer (some { block := w2.heap.size + 1, off := 0 })], Value.bool false, Value.int IntKind.i64 ↑q, Value.bool true, u 35, u 36, Value.func (Fn.func 25) #[] #[Value.pointer (some { block := w2.heap.size, off := 0 }), Value.pointer (some { block := w2.heap.size + 2, off := 0 }), Value.pointer (some { block := w2.heap.size + 1, off := 0 })], Value.int IntKind.u64 ↑p, Value.agg #[Value.int IntKind.i64 (h.at p).c, Value.int IntKind.u64 ↑(h.st p), Value.int IntKind.u64 ↑(h.at p).l], Value.int IntKind.i64 ↑0, Value.slice (some { block := g, off := 0 }) m cv, Value.int IntKind.i64 ↑m, Value.bool false, Value.bool false, Value.int IntKind.u64 ↑p, Value.slice (some { block := g, off := 0 }) m cv, Value.int IntKind.i64 ↑0, Value.pointer (some { block := g, off := 0 }), Value.int IntKind.u64 ↑p, Value.bool false, Value.bool false, Value.tuple #[Value.int IntKind.u64 ↑(h.st p), Value.bool okp], Value.pointer (some { block := F, off := 0 }), Value.int IntKind.u64 ↑p, Value.tuple #[Value.int IntKind.u64 ↑(h.st p), Value.bool okp], Value.int IntKind.u64 ↑(h.st p), Value.bool okp, Value.pointer (some { block := F, off := 0 }), Value.int IntKind.u64 ↑p, Value.agg #[Value.int IntKind.i64 (h.at p).c, Value.int IntKind.u64 ↑(h.at p).s, Value.int IntKind.u64 ↑(h.at p).l], Value.pointer (some { block := Bx, off := 1 }), Value.int IntKind.u64 ↑(h.st p), Value.int IntKind.u64 ↑(h.st p), Value.bool false, Value.bool false, Value.pointer (some { block := Bx, off := 2 }), Value.int IntKind.u64 ↑(h.at p).l, Value.pointer (some { block := Wc.heap.size, off := 2 }), Value.int IntKind.u64 ↑(h.at p).l, Value.bool false, Value.bool false, Value.bool false, Value.pointer (some { block := Bx, off := 0 }), Value.int IntKind.i64 (h.at p).c, Value.pointer (some { block := Wc.heap.size, off := 0 }), Value.int IntKind.i64 (h.at p).c, Value.bool false, Value.bool false, Value.int IntKind.i64 0, Value.int IntKind.i64 1, Value.int IntKind.i64 1, Value.bool true, Value.func (Fn.func 25) #[] #[Value.pointer (some { block := w2.heap.size, off := 0 }), Value.pointer (some { block := w2.heap.size + 2, off := 0 }), Value.pointer (some { block := w2.heap.size + 1, off := 0 })], .int .u64 ((h.ah fr + k2 : Nat) : Int), .agg (h.wn (h.ah fr + k2)).cs, u 86, u 87, u 88, u 89, u 90, u 91, u 92, u 93, u 94, u 95, u 96, u 97, u 98, u 99, u 100, u 101, u 102, u 103, u 104, u 105, u 106, u 107, u 108, u 109, u 110, u 111, u 112, u 113], defers := [] }) ?_ ?assign2 ?body2 ?done2 ?stop2
        · rintro _ k2 A C ⟨h0, h1, h2⟩ hC
          have hs := HIN.out.2.2.2.2.2.1
          exact ⟨h0, Chg.trans h1 hC (fun i hi e => by have : i = W5.heap.size := e; omega), hC.heap h2 (by intro e; have : We.heap.size = W5.heap.size := e; omega)⟩
        · rintro c A C ⟨h0, h1, h2, h3⟩ hC
          have hs := HIN.out.2.2.2.2.2.1
          exact ⟨h0, h1, Chg.trans h2 hC (fun i hi e => by have : i = W5.heap.size := e; omega), hC.heap h3 (by intro e; have : We.heap.size = W5.heap.size := e; omega)⟩
        · rintro _ A C D hAC hK2 hx
          exact hK2 (hx.one hAC)
        · rintro _ A C D hK2 hCD hx
          exact (hK2 hx).one hCD
        · intro _ Wx Wy hW hs hG
          have hq : Kp W5 Wy := Kp.trans hW hG
          exact ⟨⟨by omega, hq.any, hq.heap HIN.out.2.2.2.2.1⟩, hG⟩
        · rintro _ k2 a' A C h2 hC
          exact h2
        case assign2 =>
          rintro _ k2 Wx K' hk hI hs hK'
          unfold aArgs Hr.wn Wn.cs
          clear hI hk
          gi_wp2
          exact hK' _ _ (Chg.refl _ _) rfl
        case body2 =>
          rintro _ k2 a' Wx hk2 hr2 ⟨hkm2, hI2, hb20⟩ rfl hs2
          have hs5 := HIN.out.2.2.2.2.2.1
          have hs6 := HIN.out.2.2.2.2.2.2
          have hw4 := HIN.out.1.size
          have hbody5 := HBODY.out.2.2.2.2.2.1
          have hb22 := HB.out.2.2.2.2
          have hb21 := HB.out.2.2.1
          have kWx : Kp w4 Wx := HIN.out.1.then hI2 (fun i hi e => by omega)
          have hkm3 : k2 < m := by have := HA.out.m; have := HCN.out; omega
          have xgk := kWx.cell (HXG.out k2 hkm3)
          obtain ⟨x20, f20⟩ := cellB hb20
          have x11 := (cellB (kWx.heap HA.out.x11)).1
          have x9x := (cellB (kWx.heap HA.out.x9)).1
          have hkmz3 : ¬ (m : Int) ≤ k2 := by omega
          have hkmz4 : (k2 : Int) < m := by omega
          have hk21 : IntKind.i64.wrap ((k2 : Int) + 1) = ((k2 + 1 : Nat) : Int) := by rw [show (k2 : Int) + 1 = ((k2 + 1 : Nat) : Int) by omega]; exact w64 (by omega) (by omega)
          have hne1 : ¬ w.heap.size + 1 = We.heap.size := by have := hp_lt HA.out.x9; omega
          have hne2 : ¬ We.heap.size = w.heap.size + 1 := by have := hp_lt HA.out.x9; omega
          have HFI2 : Hid (Chg W5 (Wx.setCell ⟨We.heap.size, 0, none⟩ (.int .i64 ((k2 : Int) + 1))) (fun i => i = We.heap.size) ∧ Bx1 (Wx.setCell ⟨We.heap.size, 0, none⟩ (.int .i64 ((k2 : Int) + 1))) We.heap.size (.int .i64 ((k2 + 1 : Nat) : Int)) 3 ∧ (∀ i, One W5.heap.size i → (Wx.setCell ⟨We.heap.size, 0, none⟩ (.int .i64 ((k2 : Int) + 1))).heap[i]? = Wx.heap[i]?) ∧ aBx W5.heap.size B w2.heap.size h (Wx.setCell ⟨We.heap.size, 0, none⟩ (.int .i64 ((k2 : Int) + 1)))) := by
            have hset := set1 Wx We.heap.size (.int .i64 ((k2 : Int) + 1))
            have hkp : Kp w4 (Wx.setCell ⟨We.heap.size, 0, none⟩ (.int .i64 ((k2 : Int) + 1))) := kWx.then hset (fun i hi e => by omega)
            refine ⟨Chg.trans hI2 hset (fun _ _ e => e), heap_setCell_same Wx We.heap.size 0 _ 3 _ hb20, fun i hi => ?_, aBx.of2 HA.out.iB (by omega) hkp (hkp.cell HA.out.t1) (by have := lt_of_cell HA.out.t1; omega)⟩
            have hi' : i = W5.heap.size := hi
            exact heap_setCell_other Wx _ i _ (show i ≠ We.heap.size by omega)
          have HK2 : Hid (k2 < cn) := hk2
          clear hI2 hb20 hs2 hr2 hs5 hs6 hw4 hbody5 hb22 hb21 kWx hseq2 hk2 hl0
          by_cases hkmo : k2 + 1 = mo
          · have hz1 : (((k2 : Int) + 1) == (mo : Int)) = true := by simp; omega
            have HKM : Hid (k2 + 1 = mo) := hkmo
            clear hkmo
            gi_wp2
            exact ⟨HFI2.out.2.2.1, rfl, by have := HK2.out; have := HKM.out; omega, HFI2.out.1, by rw [← HKM.out]; exact HFI2.out.2.1⟩
          · have hz1 : (((k2 : Int) + 1) == (mo : Int)) = false := by simp; omega
            have hz2 : ¬ (k2 : Int) + 1 = mo := by omega
            gi_wp2
            exact ⟨HFI2.out.2.2.1, ⟨by omega, HFI2.out.1, HFI2.out.2.1⟩, fun _ => HFI2.out.2.2.2⟩
        case done2 =>
          rintro _ Wx ⟨h0, hI2, hb20⟩
          have hs5 := HIN.out.2.2.2.2.2.1
          have hs6 := HIN.out.2.2.2.2.2.2
          have hbody5 := HBODY.out.2.2.2.2.2.1
          have hb22 := HB.out.2.2.2.2
          have hb21 := HB.out.2.2.1
          have hm : m = cn := by have := HA.out.m; have := HCN.out; omega
          have kWx : Kp w4 Wx := HIN.out.1.then hI2 (fun i hi e => by have := HIN.out.1.size; omega)
          have g14 : Bx1 Wx W.heap.size (.int .i64 1) 3 := hI2.heap HIN.out.2.2.1 (by omega)
          have x14x := (cellB g14).1
          have x20 := (cellB hb20).1
          have x11 := (cellB (kWx.heap HA.out.x11)).1
          have x9x := (cellB (kWx.heap HA.out.x9)).1
          have HFIN : Hid (Chg W1 Wx (fun i => i = W.heap.size) ∧ Bx1 Wx W.heap.size (.int .i64 ((0 + 1 : Nat) : Int)) 3 ∧ (∀ i, Two W1.heap.size i → Wx.heap[i]? = Wa.heap[i]?) ∧ aBx W1.heap.size B w2.heap.size h Wx) := by
            refine ⟨Chg.trans HIN.out.2.1 hI2 (fun i hi e => by omega), g14, fun i hi => ?_, aBx.of2 HA.out.iB (by omega) kWx (kWx.cell HA.out.t1) (by have := lt_of_cell HA.out.t1; omega)⟩
            have hlt9 : i < Wa.heap.size := by rcases hi with e | e <;> omega
            rw [hI2.block i (by have := HIN.out.2.2.2.1.size; omega) (by omega)]
            exact HIN.out.2.2.2.1.block i hlt9 (by rcases hi with e | e <;> omega)
          rw [← hm] at x20
          clear h0 hI2 hb20 hs5 hs6 hbody5 hb22 hb21 hm kWx g14 hseq2 hl0
          by_cases hkmo : 1 = mo
          · have hz1 : ((1 : Int) == (mo : Int)) = true := by simp; omega
            have HKM : Hid (1 = mo) := hkmo
            clear hkmo
            gi_wp2
            exact ⟨HFIN.out.2.2.1, rfl, by have := HBODY.out.1; have := HKM.out; omega, HFIN.out.1, by rw [← HKM.out]; exact HFIN.out.2.1⟩
          · have hz1 : ((1 : Int) == (mo : Int)) = false := by simp; omega
            have hz2 : ¬ (1 : Int) = mo := by omega
            gi_wp2
            exact ⟨HFIN.out.2.2.1, ⟨by omega, HFIN.out.1, HFIN.out.2.1⟩, fun _ => HFIN.out.2.2.2⟩
        case stop2 =>
          rintro c Wx ⟨rfl, h1, h2, h3⟩
          have hs5 := HIN.out.2.2.2.2.2.1
          have hs6 := HIN.out.2.2.2.2.2.2
          have hbody5 := HBODY.out.2.2.2.2.2.1
          have hb22 := HB.out.2.2.2.2
          have hb21 := HB.out.2.2.1
          have hm : m = mo := by have := HA.out.m; have := HCN.out; omega
          have kWx : Kp w4 Wx := HIN.out.1.then h2 (fun i hi e => by have := HIN.out.1.size; omega)
          have g14 : Bx1 Wx W.heap.size (.int .i64 1) 3 := h2.heap HIN.out.2.2.1 (by omega)
          have x14x := (cellB g14).1
          have x20 := (cellB h3).1
          have x11 := (cellB (kWx.heap HA.out.x11)).1
          have x9x := (cellB (kWx.heap HA.out.x9)).1
          have HFIN : Hid (Chg W1 Wx (fun i => i = W.heap.size) ∧ Bx1 Wx W.heap.size (.int .i64 ((0 + 1 : Nat) : Int)) 3 ∧ (∀ i, Two W1.heap.size i → Wx.heap[i]? = Wa.heap[i]?) ∧ aBx W1.heap.size B w2.heap.size h Wx) := by
            refine ⟨Chg.trans HIN.out.2.1 h2 (fun i hi e => by omega), g14, fun i hi => ?_, aBx.of2 HA.out.iB (by omega) kWx (kWx.cell HA.out.t1) (by have := lt_of_cell HA.out.t1; omega)⟩
            have hlt9 : i < Wa.heap.size := by rcases hi with e | e <;> omega
            rw [h2.block i (by have := HIN.out.2.2.2.1.size; omega) (by omega)]
            exact HIN.out.2.2.2.1.block i hlt9 (by rcases hi with e | e <;> omega)
          rw [← hm] at x20
          clear h1 h2 h3 hs5 hs6 hbody5 hb22 hb21 hm kWx g14 hseq2 hl0
          by_cases hkmo : 1 = mo
          · have hz1 : ((1 : Int) == (mo : Int)) = true := by simp; omega
            have HKM : Hid (1 = mo) := hkmo
            clear hkmo
            gi_wp2
            exact ⟨HFIN.out.2.2.1, rfl, by have := HBODY.out.1; have := HKM.out; omega, HFIN.out.1, by rw [← HKM.out]; exact HFIN.out.2.1⟩
          · have hz1 : ((1 : Int) == (mo : Int)) = false := by simp; omega
            have hz2 : ¬ (1 : Int) = mo := by omega
            gi_wp2
            exact ⟨HFIN.out.2.2.1, ⟨by omega, HFIN.out.1, HFIN.out.2.1⟩, fun _ => HFIN.out.2.2.2⟩
      · have hkn : ((((k + 1 : Nat) : Int)) == 1) = false := by simp; omega
        have hkn2 : ¬ (k : Int) + 1 = 1 := by omega
        have hkn3 : (((k : Int) + 1) == 1) = false := by simp; omega
        have HFIN : Hid (Chg W1 (We.setCell ⟨W.heap.size, 0, none⟩ (.int .i64 ((k : Int) + 1))) (fun i => i = W.heap.size) ∧ Bx1 (We.setCell ⟨W.heap.size, 0, none⟩ (.int .i64 ((k : Int) + 1))) W.heap.size (.int .i64 ((k + 1 : Nat) : Int)) 3 ∧ (∀ i, Two W1.heap.size i → (We.setCell ⟨W.heap.size, 0, none⟩ (.int .i64 ((k : Int) + 1))).heap[i]? = Wa.heap[i]?) ∧ aBx W1.heap.size B w2.heap.size h (We.setCell ⟨W.heap.size, 0, none⟩ (.int .i64 ((k : Int) + 1)))) := by
          obtain ⟨b1, b2, b3, b4, b5, b6, b7, b8⟩ := HBODY.out
          have hs1 := HB.out.2.2.1
          have hs2 := HB.out.2.2.2.2
          have hset := set1 We W.heap.size (.int .i64 ((k : Int) + 1))
          have hkp : Kp w4 (We.setCell ⟨W.heap.size, 0, none⟩ (.int .i64 ((k : Int) + 1))) := (b8.trans HD.out).then hset (fun i hi e => by omega)
          refine ⟨Chg.trans (Chg.trans b2 HD.out (fun _ _ e => e.elim)) hset (fun _ _ e => e), ?_, fun i hi => ?_, aBx.of2 HA.out.iB (by omega) hkp (hkp.cell HA.out.t1) (by have := lt_of_cell HA.out.t1; omega)⟩
          · exact heap_setCell_same We W.heap.size 0 _ 3 _ (HD.out.heap b3)
          · rw [heap_setCell_other We _ i _ (show i ≠ W.heap.size by rcases hi with e | e <;> omega)]
            exact HD.out.block i (by rcases hi with e | e <;> omega) (fun e => e)
        have hne1 : ¬ w.heap.size + 1 = W.heap.size := by have := hp_lt HA.out.x9; have := HB.out.2.2.2.2; omega
        have hne2 : ¬ W.heap.size = w.heap.size + 1 := by have := hp_lt HA.out.x9; have := HB.out.2.2.2.2; omega
        by_cases hkmo : k + 1 = mo
        · have hz1 : (((k : Int) + 1) == (mo : Int)) = true := by simp; omega
          have HKM : Hid (k + 1 = mo) := hkmo
          clear hkmo
          gi_wp2
          exact ⟨HFIN.out.2.2.1, rfl, by have := HBODY.out.1; have := HKM.out; omega, HFIN.out.1, by rw [← HKM.out]; exact HFIN.out.2.1⟩
        · have hz1 : (((k : Int) + 1) == (mo : Int)) = false := by simp; omega
          have hz2 : ¬ (k : Int) + 1 = mo := by omega
          have hz3 : (((k + 1 : Nat) : Int) == (mo : Int)) = false := by simp; omega
          gi_wp2
          exact ⟨HFIN.out.2.2.1, ⟨by omega, HFIN.out.1, HFIN.out.2.1⟩, fun _ => HFIN.out.2.2.2⟩
    case done =>
      rintro _ Wd ⟨h0, hI, hb⟩ hD
      have hm : m = cn := by have := HA.out.m; have := HCN.out; omega
      have kWd : Kp w4 Wd := HB.out.2.2.2.1.then hI (fun i hi e => by have := HB.out.2.2.2.2; omega)
      have x14 := (cellB hb).1
      have x11 := (cellB (kWd.heap HA.out.x11)).1
      have HF : Hid (Kp w4 Wd ∧ Mks w4.heap.size Wd (W1.heap.size :: bs)) := by
        refine ⟨kWd, ?_⟩
        refine ((HI.out.2.kp HB.out.1).chg hI (fun k hk d e => ?_)).cons (W := W) HB.out.1.size HI.out.2.lt HB.out.2.2.2.1.size hD
        rw [hk, HB.out.2.1] at e
        cases e
      rw [← hm] at x14
      clear hI hD hb hm kWd
      clear hseq
      go_wp2
      exact Handed.intro (2 - (q + 1)) (by omega) (hJ _ _ _ ⟨q + 1, W1.heap.size :: bs, rfl, by kernel_rfl, rfl, by omega, HF⟩)
    case stop =>
      rintro c Wd ⟨rfl, h1, h2, h3⟩ hD
      have hm : m = mo := by have := HA.out.m; have := HCN.out; omega
      have kWd : Kp w4 Wd := HB.out.2.2.2.1.then h2 (fun i hi e => by have := HB.out.2.2.2.2; omega)
      have x14 := (cellB h3).1
      have x11 := (cellB (kWd.heap HA.out.x11)).1
      have HF : Hid (Kp w4 Wd ∧ Mks w4.heap.size Wd (W1.heap.size :: bs)) := by
        refine ⟨kWd, ?_⟩
        refine ((HI.out.2.kp HB.out.1).chg h2 (fun k hk d e => ?_)).cons (W := W) HB.out.1.size HI.out.2.lt HB.out.2.2.2.1.size hD
        rw [hk, HB.out.2.1] at e
        cases e
      rw [← hm] at x14
      clear h2 hD h3 hm kWd
      refine wpIn_wide.2 ?_
      clear hseq
      go_wp2
      exact Handed.intro (2 - (q + 1)) (by omega) (hJ _ _ _ ⟨q + 1, W1.heap.size :: bs, rfl, by kernel_rfl, rfl, by omega, HF⟩)
  · have hltz : ¬ (q : Int) < 2 := by omega
    have b10 := HI.out.1.heap HA.out.x10
    obtain ⟨x6, f6⟩ := cellB b10
    have HF : Hid (Kp w4 W ∧ Mks w4.heap.size W bs ∧ Bx1 W (w.heap.size + 1 + 1) (.bool false) 4) := ⟨HI.out.1, HI.out.2, b10⟩
    clear HI b10
    go_wp2_with fail
    refine leaves_mks (s := w4.heap.size) bs _ (HF.out.2.1.chg (set1 W _ _) (fun k hk d e => by rw [hk, HF.out.2.2] at e; cases e)) (fun W' hc' => ?_)
    have hw3 := HA.out.kp.size
    have h6 := hp_lt HA.out.x10
    have g6 : Bx1 (W.setCell ⟨w.heap.size + 1 + 1, 0, none⟩ (.bool true)) (w.heap.size + 1 + 1) (.bool true) 4 := heap_setCell_same W (w.heap.size + 1 + 1) 0 _ 4 _ HF.out.2.2
    have g6' := hc'.heap g6 (fun e => by omega)
    refine ⟨_, results_cellB rfl _ _ (w.heap.size + 1 + 1) true rfl (cellB g6').1, rfl, ?_⟩
    refine Chg.trans ((HA.out.kp.trans HF.out.1).then (set1 W _ _) (fun i hi e => by omega)) hc' (fun i hi e => by omega)
end Go.Proofs.Ytakddfhcafpceaa
