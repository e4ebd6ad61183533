import Derived.Test.YtkndlkcbhpfjoaaHa
import Derived.ChangeKeysEq
namespace Go.Proofs.Ytkndlkcbhpfjoaa
open Go.ChangeShapes Go.WideShapes Go.ChangeAt Go.RowKit Go.Shelf
set_option linter.unusedVariables false
theorem info3 : ∃ i, Try.prog.info? 3 = some i := by
  cases h : Try.prog.info? 3 with
  | some i => exact ⟨i, rfl⟩
  | none => have : (Try.prog.info? 3).isSome = true := by kernel_rfl
            rw [h] at this; cases this
theorem c3 : Try.prog.cellsOf 3 = 1 := by kernel_rfl
theorem plain3 : Try.prog.plainKey 3 = true := by kernel_rfl
theorem eqItemsI (w : World) (d : Nat) (xs : Array Value) (x : Nat → Int) : ∀ l : List Nat, (∀ i ∈ l, xs[i]? = some (.int .i64 (x i))) → (Op.eqItems (d + 1) 3 1 xs xs l).run Try.prog w = .ok true w
  | [], _ => by simp [Op.eqItems]
  | i :: l, h => by
    have ih := eqItemsI w d xs x l (fun j hj => h j (List.mem_cons_of_mem _ hj))
    have h1 := h i (List.mem_cons_self ..)
    have p1 := run_part_plain (P := Try.prog) w plain3 (xs := xs) (off := i) h1
    have p3 := run_equalIn_int (P := Try.prog) w d 3 .i64 .i64 (x i) (x i) Try.underlying3
    simp only [Op.eqItems, Nat.mul_one, Sem.run_bind, p1, p3, Result.andThen_ok]
    simp [ih]
theorem fields38 : Try.prog.underlying 38 = some (.struct (Try.prog.fieldsOf 38)) := by simp [Program.fieldsOf, Try.underlying38]
theorem stood38 : Try.prog.stoodInHeld 38 = false := by kernel_rfl
theorem eql38 (s : GS) (w : World) : (binOp BinOp.eql 38 (.agg (gcs s).toArray) (.agg (gcs s).toArray)).run Try.prog w = .ok (.bool true) w := by
  rw [run_eql_struct, run_equalIn_agg w 9999 38 _ _ fields38 stood38]
  obtain ⟨i3, hi3⟩ := info3
  have hR : (Op.equalIn 9999 36 (Value.agg (List.take 32 (gcs s)).toArray) (Value.agg (List.take 32 (gcs s)).toArray)).run Try.prog w = .ok true w := by
    rw [run_equalIn_array w 9998 _ _ Try.underlying36 hi3, c3]
    refine eqItemsI w 9997 _ (fun i => (s.rt i : Nat)) _ (fun i hi => ?_)
    have hi : i < 32 := by simpa using hi
    rw [List.getElem?_toArray, List.getElem?_take, gcs_rt s i hi]; simp [hi]
  simp [Program.fieldsOf, Try.underlying38, go_sem, hR, gcs_pe, gcs_ma]
/-- The walk at an operation of two, told by its run. -/
theorem wpList_binop_run {P : Program} {w : World} {ops : Array Oper} {rest : List Oper} {o : Oper} {a : Act} {Q : Exit → Act → World → Prop} (hgd : o.guard = none) (b : BinOp) (t u : TypeId) (x y : Operand) (ho : o.op = .binOp b t x y u) (x' y' v : Value) (hx : a.eval x = x') (hy : a.eval y = y') (hgu : (eqGuard b t x y x' y').run P w = .ok () w) (hrun : (binOp b t x' y').run P w = .ok v w)
    (h : wpList P ops Q rest (a.put o.dst v) w) : wpList P ops Q (o :: rest) a w := by
  refine wpList_plain hgd fun K hK => ?_
  unfold Oper.wp
  simp only [execOp, ho, hx, hy]
  simp [hgu, hrun, Result.andThen]
  exact hK _ _ h
theorem guard38 : Try.prog.eqGuardType Try.prog.depth 38 = false := by kernel_rfl
theorem eqg38 (w : World) (x y : Operand) (A C : Array Value) : (eqGuard .eql 38 x y (.agg A) (.agg C)).run Try.prog w = .ok () w := by
  exact run_eqGuard_agg w .eql 38 x y A C guard38
set_option maxHeartbeats 4000000 in
set_option maxRecDepth 10000 in
theorem copied_walk (w : World) (a : Option Addr) (len cap : Nat) (Z : Nat → Int) (h : IntsIn w a len Z) (a1 : Option Addr) (len1 cap1 : Nat) (F1 : Nat → Ov) (h1 : OpsIn w a1 len1 F1) (a2 : Option Addr) (len2 cap2 : Nat) (F2 : Nat → Ov) (h2 : OpsIn w a2 len2 F2) (a3 : Option Addr) (len3 cap3 : Nat) (F3 : Nat → Ov) (h3 : OpsIn w a3 len3 F3) :
    Calls Try.prog 5 #[.slice a len cap, .slice a1 len1 cap1, .slice a2 len2 cap2, .slice a3 len3 cap3] w fun e w' => e = .returned (.bool true) ∧ Kp w w' := by
  have hA := awake_any w
  have hl1 := h1.1
  have hl2 := h2.1
  have hl3 := h3.1
  have H : Hid (IntsIn w a len Z ∧ OpsIn w a1 len1 F1 ∧ OpsIn w a2 len2 F2 ∧ OpsIn w a3 len3 F3) := ⟨h, h1, h2, h3⟩
  clear h h1 h2 h3
  go_enter Try.func5, Try.ntmps5
  go_wp2_with fail
  go_at_call 9
  refine hA.mono ?_
  rintro e w1 ⟨rfl, k1⟩
  clear hA
  have hR := lrouted_any w1 a len cap Z (H.out.1.kp k1)
  have hBw : w.heap.size ≤ w1.heap.size := k1.size
  generalize w1.heap.size = B at hR hBw
  go_wp2_with fail
  go_at_call 10
  refine hR.mono ?_
  rintro e w2 ⟨rfl, g2, k2⟩
  clear hR
  have hR := lrouted_any w2 none 0 0 (fun _ => 0) ⟨by omega, fun _ => (show InI 0 from ⟨by omega, by omega⟩), .inl rfl⟩
  have hB2 : B < w2.heap.size := g2.lt
  generalize w2.heap.size = B2 at hR hB2
  have HB : Hid (w.heap.size ≤ B ∧ B < B2) := ⟨hBw, hB2⟩
  clear hBw hB2
  go_wp2_with fail
  go_at_call 10
  refine hR.mono ?_
  rintro e w3 ⟨rfl, g3, k3⟩
  clear hR
  have HI0 : Hid (∃ s t : GS, IsG w3 B s ∧ s.ok ∧ IsG w3 B2 t ∧ Kp w w3) := ⟨_, _, g2.kp k3, rtJ_ok _ _ _, g3, Kp.trans k1 (Kp.trans k2 k3)⟩
  clear g2 k2 k1 g3 k3
  go_wp2
  go_loopw [12] (fun s12 wr => ∃ j : Nat, s12 = .int .i64 j ∧ j ≤ len1 ∧ Hid (∃ s t : GS, IsG wr B s ∧ s.ok ∧ IsG wr B2 t ∧ Kp w wr)) (fun s12 _ => len1 - (intOf s12).toNat)
  case atStart => exact ⟨0, rfl, by omega, HI0⟩
  case round =>
    obtain ⟨j, rfl, hj, HI⟩ := hrel
    clear HI0
    by_cases hlt : j < len1
    · have hjz : (j : Int) < (len1 : Int) := by omega
      obtain ⟨s, t, gs, hok, gt, kk⟩ := HI.out
      have hi2 := H.out.2.1.kp kk
      rcases hi2.2.2 with h0 | ⟨b, o, rfl, hc⟩
      · omega
      · have hrg := hc j hlt
        have hsz := size40 (F1 j)
        have hDo := does_any wr B s gs (F1 j) (hi2.2.1 j)
        have HS : Hid (s.ok ∧ IsG wr B2 t ∧ Kp w wr) := ⟨hok, gt, kk⟩
        generalize s.dsN (F1 j) = rn at *
        generalize s.dsB (F1 j) = rb at *
        clear hi2 hc gs gt kk HI hok
        go_wp2_with (refine wpList_load_mid rfl 40 (.tmp 44) rfl b (o + j * 38) rfl (ocs (F1 j)) _ hrg Try.underlying40 rfl hsz ?_)
        go_at_call 16
        refine hDo.mono ?_
        rintro e w5 ⟨rfl, g5, c5⟩
        have HN : Hid (∃ s t : GS, IsG w5 B s ∧ s.ok ∧ IsG w5 B2 t ∧ Kp w w5) := ⟨_, t, g5, ds_ok s HS.out.1 _, HS.out.2.1.chg c5 (by have := HB.out; omega), Chg.trans HS.out.2.2 c5 (fun i hi e => by have := HB.out; omega)⟩
        clear hDo g5 c5 HS hrg
        go_wp2
        exact ⟨⟨j + 1, by go_num, by omega, HN⟩, by simp [intOf]; omega⟩
    · have hjz : ¬ (j : Int) < (len1 : Int) := by omega
      have HI0 := HI
      clear HI
      go_wp2
      go_loopw [13] (fun s13 wr => ∃ j : Nat, s13 = .int .i64 j ∧ j ≤ len2 ∧ Hid (∃ s t : GS, IsG wr B s ∧ s.ok ∧ IsG wr B2 t ∧ Kp w wr)) (fun s13 _ => len2 - (intOf s13).toNat)
      case atStart => exact ⟨0, rfl, by omega, HI0⟩
      case round =>
        clear hj hlt hjz
        obtain ⟨q, rfl, hj, HI⟩ := hrel
        clear HI0
        by_cases hlt : q < len2
        · have hjz : (q : Int) < (len2 : Int) := by omega
          obtain ⟨s, t, gs, hok, gt, kk⟩ := HI.out
          have hi2 := H.out.2.2.1.kp kk
          rcases hi2.2.2 with h0 | ⟨b, o, rfl, hc⟩
          · omega
          · have hrg := hc q hlt
            have hsz := size40 (F2 q)
            have hDo := does_any wr B2 t gt (F2 q) (hi2.2.1 q)
            have HS : Hid (IsG wr B s ∧ s.ok ∧ Kp w wr) := ⟨gs, hok, kk⟩
            generalize t.dsN (F2 q) = rn at *
            generalize t.dsB (F2 q) = rb at *
            clear hi2 hc gs gt kk HI hok
            go_wp2_with (refine wpList_load_mid rfl 40 (.tmp 56) rfl b (o + q * 38) rfl (ocs (F2 q)) _ hrg Try.underlying40 rfl hsz ?_)
            go_at_call 16
            refine hDo.mono ?_
            rintro e w5 ⟨rfl, g5, c5⟩
            have HN : Hid (∃ s t : GS, IsG w5 B s ∧ s.ok ∧ IsG w5 B2 t ∧ Kp w w5) := ⟨s, _, HS.out.1.chg c5 (by have := HB.out; omega), HS.out.2.1, g5, Chg.trans HS.out.2.2 c5 (fun i hi e => by have := HB.out; omega)⟩
            clear hDo g5 c5 HS hrg
            go_wp2
            exact ⟨⟨q + 1, by go_num, by omega, HN⟩, by simp [intOf]; omega⟩
        · have hjz : ¬ (q : Int) < (len2 : Int) := by omega
          obtain ⟨s, t, gs, hok, gt, kk⟩ := HI.out
          have hS := state_any wr B s gs
          have HS : Hid (IsG wr B s ∧ s.ok ∧ IsG wr B2 t ∧ Kp w wr) := ⟨gs, hok, gt, kk⟩
          clear gs hok gt kk HI
          go_wp2_with fail
          go_at_call 17
          refine hS.mono ?_
          rintro e w5 ⟨rfl, k5⟩
          clear hS
          obtain ⟨ZZ, hZ⟩ : ∃ ZZ, ZZ = (gcs GS.zero).toArray := ⟨_, rfl⟩
          have hz := fun w => zero38 w
          rw [← hZ] at hz
          have g3 : (w5.alloc (.cells ZZ 38)).heap[w5.heap.size]? = some (.cells ZZ 38 (0, 0)) := heap_alloc_new w5 _
          have hst := store38 (w5.alloc (.cells ZZ 38)) w5.heap.size ZZ (gcs s).toArray 38 g3 (by rw [hZ]; exact gcs_size _) (gcs_size s) (by simpa using gcs_one s)
          obtain ⟨w6, hw6⟩ : ∃ w6, w6 = (w5.alloc (.cells ZZ 38)).setRow w5.heap.size (gcs s).toArray := ⟨_, rfl⟩
          have g6 : w6.heap[w5.heap.size]? = some (.cells (gcs s).toArray 38 (0, 0)) := by rw [hw6]; exact setRow_heap _ w5.heap.size ZZ _ 38 (0, 0) g3
          have k6 : Kp wr w6 := by rw [hw6]; exact Kp.trans k5 (Chg.setRow ((Chg.refl w5 _).alloc _) (.inr (Nat.le_refl _)) _)
          have hrg6 : w6.rangeAt w5.heap.size 0 (gcs s) := fun j v hv => by rw [Nat.zero_add, (cells_at g6 j).1, List.getElem?_toArray, hv]
          have hLo := load_ok w6 B2 t (HS.out.2.2.1.kp k6) s HS.out.2.1
          have hsz := size38 s
          rw [← hw6] at hst
          have HK : Hid (IsG w6 B s ∧ Kp w w6) := ⟨HS.out.1.kp k6, Kp.trans HS.out.2.2.2 k6⟩
          clear hw6 g6 k6 g3 hZ k5 HS
          go_wp2_with (first | (refine wpList_alloc_zero _ rfl 38 ZZ rfl (hz _) ?_; simp only [Act.put, List.setIfInBounds_toArray, List.set_cons_zero, List.set_cons_succ]) | (refine wpList_store_row rfl 38 (.tmp 14) (.tmp 60) rfl w5.heap.size 0 (gcs s).toArray rfl rfl _ hst ?_; simp only [Act.put]) | refine wpList_load_mid rfl 38 (.tmp 14) rfl w5.heap.size 0 rfl (gcs s) _ hrg6 Try.underlying38 rfl hsz ?_)
          go_at_call 18
          refine hLo.mono ?_
          rintro e w7 ⟨rfl, g7, c7⟩
          have HI0 : Hid (∃ s : GS, IsG w7 B s ∧ IsG w7 B2 s ∧ Kp w w7) := ⟨s, HK.out.1.chg c7 (by have := HB.out; omega), g7, Chg.trans HK.out.2 c7 (fun i hi e => by have := HB.out; omega)⟩
          clear hLo g7 c7 HK hst hrg6 hsz
          go_wp2
          go_loopw [16] (fun s16 wr => ∃ j : Nat, s16 = .int .i64 j ∧ j ≤ len3 ∧ Hid (∃ s : GS, IsG wr B s ∧ IsG wr B2 s ∧ Kp w wr)) (fun s16 _ => len3 - (intOf s16).toNat)
          case atStart => exact ⟨0, rfl, by omega, HI0⟩
          case round =>
            clear hj hlt hjz
            obtain ⟨r, rfl, hj, HI⟩ := hrel
            clear HI0
            by_cases hlt : r < len3
            · have hjz : (r : Int) < (len3 : Int) := by omega
              obtain ⟨s, gs, gt, kk⟩ := HI.out
              have hi2 := H.out.2.2.2.kp kk
              rcases hi2.2.2 with h0 | ⟨b, o, rfl, hc⟩
              · omega
              · have hrg := hc r hlt
                have hbw : b < w.heap.size := by
                  have := (ocs (F3 r)).getElem?_eq_getElem (i := 0) (by rw [ocs_len]; omega)
                  rcases H.out.2.2.2.2.2 with h0 | ⟨b', o', e', hc'⟩
                  · omega
                  · cases e'
                    exact World.block_lt_of_cell? w _ (hc' r hlt 0 _ this)
                have hsz := size40 (F3 r)
                have hDo := does_any wr B s gs (F3 r) (hi2.2.1 r)
                have HT : Hid (∀ w6, Chg wr w6 (fun k => k = B) → Calls Try.prog 16 #[.pointer (some ⟨B2, 0, none⟩), .agg (ocs (F3 r)).toArray] w6 fun e w' => e = .returned (.tuple #[.int .i64 (s.dsN (F3 r) : Nat), .bool (s.dsB (F3 r))]) ∧ IsG w' B2 (s.ds (F3 r)) ∧ Chg w6 w' (fun k => k = B2)) := fun w6 c6 => does_any w6 B2 s (gt.chg c6 (by have := HB.out; omega)) (F3 r) (hi2.2.1 r)
                have HS : Hid (Kp w wr ∧ b < w.heap.size) := ⟨kk, hbw⟩
                generalize s.dsN (F3 r) = rn at *
                generalize s.dsB (F3 r) = rb at *
                generalize s.ds (F3 r) = s' at *
                clear hi2 hc gs gt kk HI hbw
                go_wp2_with (refine wpList_load_mid rfl 40 (.tmp 76) rfl b (o + r * 38) rfl (ocs (F3 r)) _ hrg Try.underlying40 rfl hsz ?_)
                go_at_call 16
                refine hDo.mono ?_
                rintro e w6 ⟨rfl, g6, c6⟩
                clear hDo
                have hDo2 := HT.out w6 c6
                have hrg6 : w6.rangeAt b (o + r * 38) (ocs (F3 r)) := fun q v hv => by
                  have h1 := hrg q v hv
                  rw [c6.cell (World.block_lt_of_cell? wr _ h1) (fun e => by have := HB.out; have := HS.out.2; have e' : b = B := e; omega)]
                  exact h1
                have HG6 : Hid (IsG w6 B s' ∧ Chg wr w6 (fun k => k = B)) := ⟨g6, c6⟩
                clear g6 c6 hrg HT
                go_wp2_with (refine wpList_load_mid rfl 40 (.tmp 85) rfl b (o + r * 38) rfl (ocs (F3 r)) _ hrg6 Try.underlying40 rfl hsz ?_)
                go_at_call 16
                refine hDo2.mono ?_
                rintro e w7 ⟨rfl, g7, c7⟩
                clear hDo2 hrg6
                have HZ : Hid (∃ s : GS, IsG w7 B s ∧ IsG w7 B2 s ∧ Kp w w7) := ⟨s', HG6.out.1.chg c7 (by have := HB.out; omega), g7, Chg.trans (Chg.trans HS.out.1 HG6.out.2 (fun i hi e => by have := HB.out; omega)) c7 (fun i hi e => by have := HB.out; omega)⟩
                clear g7 c7 HG6 HS
                go_wp2
                exact ⟨⟨r + 1, by go_num, by omega, HZ⟩, by simp [intOf]; omega⟩
            · have hjz : ¬ (r : Int) < (len3 : Int) := by omega
              obtain ⟨s, gs, gt, kk⟩ := HI.out
              have hS := state_any wr B s gs
              have hS2 : ∀ w5, Kp wr w5 → Calls Try.prog 17 #[.pointer (some ⟨B2, 0, none⟩)] w5 fun e w' => e = .returned (.agg (gcs s).toArray) ∧ Kp w5 w' := fun w5 k5 => state_any w5 B2 s (gt.kp k5)
              have hq := eql38 s
              have HS : Hid (Kp w wr) := kk
              clear gs gt kk HI
              generalize (gcs s).toArray = A at *
              go_wp2_with fail
              go_at_call 17
              refine hS.mono ?_
              rintro e w5 ⟨rfl, k5⟩
              clear hS
              have hS3 := hS2 w5 k5
              clear hS2
              go_wp2_with fail
              go_at_call 17
              refine hS3.mono ?_
              rintro e w6 ⟨rfl, k6⟩
              have hq6 := hq w6
              have HE : Hid (Kp w w6) := Kp.trans HS.out (Kp.trans k5 k6)
              clear hS3 k5 k6 HS hq
              go_wp2_with (refine wpList_binop_run rfl .eql 38 38 (.tmp 99) (.tmp 101) rfl (.agg A) (.agg A) (.bool true) rfl rfl (eqg38 _ _ _ _ _) hq6 ?_)
              go_ret
              exact ⟨rfl, HE.out⟩
end Go.Proofs.Ytkndlkcbhpfjoaa
