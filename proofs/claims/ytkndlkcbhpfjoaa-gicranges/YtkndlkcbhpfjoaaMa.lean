import Derived.Test.YtkndlkcbhpfjoaaRr
namespace Go.Proofs.Ytkndlkcbhpfjoaa
open Go.ChangeShapes Go.WideShapes Go.ChangeAt Go.RowKit Go.Shelf
set_option linter.unusedVariables false
attribute [local go_sem] Oper.semAt_some
/-- What lies in memory while GicRanges goes on. -/
structure RgI (w wr : World) (b7 : Nat) (a3 : Option Addr) (len3 cap3 : Nat) (b10 B bg bc : Nat) (c : Int) (ms : List Nat) (s : GS) : Prop where
  mks : ∀ m ∈ ms, wr.heap[m]? = some (.deferred (some []))
  kp : Kp w wr
  g : IsG wr B s
  x7 : wr.heap[b7]? = some (.cells #[.slice a3 len3 cap3] 35 (0, 0))
  x8 : wr.heap[b7 + 1]? = some (.cells #[.bool false] 4 (0, 0))
  x10 : wr.heap[b10]? = some (.cells #[.pointer (some ⟨B, 0, none⟩)] 24 (0, 0))
  xg : wr.heap[bg]? = some (.cells #[.pointer (some ⟨B, 0, none⟩)] 24 (0, 0))
  xc : wr.heap[bc]? = some (.cells #[.int .i64 c] 3 (0, 0))
theorem RgI.gchg {w wr W : World} {b7 : Nat} {a3 : Option Addr} {len3 cap3 b10 B bg bc : Nat} {c : Int} {ms : List Nat} {s s' : GS} (h : RgI w wr b7 a3 len3 cap3 b10 B bg bc c ms s) (hB : w.heap.size ≤ B) (hg : IsG W B s') (hc : Chg wr W (fun k => k = B)) : RgI w W b7 a3 len3 cap3 b10 B bg bc c ms s' := by
  have ne : ∀ x C T, wr.heap[x]? = some (.cells C T (0, 0)) → T ≠ 67 → x ≠ B := by
    rintro x C T hx hT rfl
    have := h.g; unfold IsG at this; rw [this] at hx; simp at hx; exact hT hx.2.symm
  exact ⟨fun m hm => hc.heap (h.mks m hm) (fun e => by have e' : m = B := e; have h1 := h.mks m hm; rw [e'] at h1; have h2 := h.g; unfold IsG at h2; rw [h2] at h1; cases h1), Chg.trans h.kp hc (fun i hi e => by omega), hg, hc.heap h.x7 (ne _ _ _ h.x7 (by decide)), hc.heap h.x8 (ne _ _ _ h.x8 (by decide)), hc.heap h.x10 (ne _ _ _ h.x10 (by decide)), hc.heap h.xg (ne _ _ _ h.xg (by decide)), hc.heap h.xc (ne _ _ _ h.xc (by decide))⟩
theorem RgI.kpt {w wr W : World} {b7 : Nat} {a3 : Option Addr} {len3 cap3 b10 B bg bc : Nat} {c : Int} {ms : List Nat} {s : GS} (h : RgI w wr b7 a3 len3 cap3 b10 B bg bc c ms s) (hc : Kp wr W) : RgI w W b7 a3 len3 cap3 b10 B bg bc c ms s :=
  ⟨fun m hm => hc.heap (h.mks m hm), Kp.trans h.kp hc, h.g.kp hc, hc.heap h.x7, hc.heap h.x8, hc.heap h.x10, hc.heap h.xg, hc.heap h.xc⟩
theorem RgI.keep {w W6 A C : World} {T : Nat → Prop} {b7 : Nat} {a3 : Option Addr} {len3 cap3 b10 B bg bc : Nat} {c : Int} {ms : List Nat} {s s6 : GS} (h6 : RgI w W6 b7 a3 len3 cap3 b10 B bg bc c ms s6) (h : RgI w A b7 a3 len3 cap3 b10 B bg bc c ms s) (hc : Chg A C T) (hT : ∀ k, k < W6.heap.size → ¬ T k) : RgI w C b7 a3 len3 cap3 b10 B bg bc c ms s :=
  ⟨fun m hm => hc.heap (h.mks m hm) (hT _ (hp_lt (h6.mks m hm))), Chg.trans h.kp hc (fun i hi e => hT i (Nat.lt_of_lt_of_le hi h6.kp.size) e), h.g.chg hc (hT _ h6.g.lt), hc.heap h.x7 (hT _ (hp_lt h6.x7)), hc.heap h.x8 (hT _ (hp_lt h6.x8)), hc.heap h.x10 (hT _ (hp_lt h6.x10)), hc.heap h.xg (hT _ (hp_lt h6.xg)), hc.heap h.xc (hT _ (hp_lt h6.xc))⟩
/-- While the lines are ranged over. -/
structure RnI (w W5 W : World) (b7 : Nat) (a3 : Option Addr) (len3 cap3 b10 B bg : Nat) (p : Nat) (ms : List Nat) (b15 : Nat) (V : Value) (l : List Nat) (k : Nat) : Prop where
  rg : ∃ s, RgI w W b7 a3 len3 cap3 b10 B bg (bg + 1) (p : Nat) ms s
  z15 : W.heap[b15]? = some (.cells #[V] 22 (0, 0))
  z16 : W.heap[b15 + 1]? = some (.cells #[.int .i64 (k : Nat)] 3 (0, 0))
  ow : OI W V l
theorem RnI.keep {w W5 A C : World} {T : Nat → Prop} {b7 : Nat} {a3 : Option Addr} {len3 cap3 b10 B bg p : Nat} {ms : List Nat} {b15 : Nat} {V : Value} {l : List Nat} {k : Nat} {s5 : GS} (h5 : RgI w W5 b7 a3 len3 cap3 b10 B bg (bg + 1) (p : Nat) ms s5) (hb : b15 = W5.heap.size) (hV : ∀ g, V.ownBlock = some g → g < b15) (h : RnI w W5 A b7 a3 len3 cap3 b10 B bg p ms b15 V l k) (hc : Chg A C T) (hT : ∀ i, i < b15 + 2 → ¬ T i) : RnI w W5 C b7 a3 len3 cap3 b10 B bg p ms b15 V l k :=
  ⟨let ⟨s, hs⟩ := h.rg; ⟨s, h5.keep hs hc (fun i hi => hT i (by omega))⟩, hc.heap h.z15 (hT _ (by omega)), hc.heap h.z16 (hT _ (by omega)), Chg.owns hc h.ow (fun g hg => hT _ (by have := hV g hg; omega))⟩
def Sv9 (b10 B b7 b3 o3 len3 cap3 b15 k : Nat) (fl fc : Int) (wx : World) : Prop := wx.cell? ⟨b10, 0, none⟩ = some (.pointer (some ⟨B, 0, none⟩)) ∧ wx.cell? ⟨b7, 0, none⟩ = some (.slice (some ⟨b3, o3, none⟩) len3 cap3) ∧ wx.cell? ⟨b15 + 1, 0, none⟩ = some (.int .i64 (k : Nat)) ∧ wx.cell? ⟨b3, o3 + k * 38 + 1, none⟩ = some (.int .i64 fl) ∧ wx.cell? ⟨b3, o3 + k * 38 + 2, none⟩ = some (.int .i64 fc)
def Sw9 (b10 B b7 b3 o3 len3 cap3 b15 k : Nat) (o : Ov) (wx : World) : Prop := wx.cell? ⟨b10, 0, none⟩ = some (.pointer (some ⟨B, 0, none⟩)) ∧ wx.cell? ⟨b7, 0, none⟩ = some (.slice (some ⟨b3, o3, none⟩) len3 cap3) ∧ wx.cell? ⟨b15 + 1, 0, none⟩ = some (.int .i64 (k : Nat)) ∧ wx.rangeAt b3 (o3 + k * 38) (ocs o)
theorem results_cellB {fn : Func} {p : Tmp} (h : fn.results = #[.cell p 4]) (tmps : Array Value) (w : World) (b : Nat) (x : Bool)
    (hp : tmps.getD p undef = .pointer (some ⟨b, 0, none⟩)) (hb : w.cell? ⟨b, 0, none⟩ = some (.bool x)) :
    (results fn tmps).run Try.prog w = .ok (.bool x) w := by
  have hp' : tmps[p]?.getD undef = .pointer (some ⟨b, 0, none⟩) := by simpa using hp
  simp [results, h, hp', asAddr, go_sem, hb]
theorem fn_nil_no (g : Nat) (cs lb : Array Value) (w : World) : (binOp BinOp.eql 49 (.func (.func g) cs lb) Value.nilFunc).run Try.prog w = .ok (.bool false) w := by kernel_rfl
attribute [local go_sem] fn_nil_no
set_option maxHeartbeats 8000000 in
set_option maxRecDepth 10000 in
theorem ranges_walk (w : World) (a : Option Addr) (len cap : Nat) (Z : Nat → Int) (h : IntsIn w a len Z) (which : Int) (hw : InI which) (a2 : Option Addr) (len2 cap2 : Nat) (F2 : Nat → Ov) (h2 : OpsIn w a2 len2 F2) (a3 : Option Addr) (len3 cap3 : Nat) (F3 : Nat → Ov) (h3 : OpsIn w a3 len3 F3) :
    Calls Try.prog 7 #[.slice a len cap, .int .i64 which, .slice a2 len2 cap2, .slice a3 len3 cap3] w fun e w' => e = .returned (.bool true) ∧ Kp w w' := by
  have hl2 := h2.1
  have hl3 := h3.1
  have H : Hid (IntsIn w a len Z ∧ InI which ∧ OpsIn w a2 len2 F2 ∧ OpsIn w a3 len3 F3) := ⟨h, hw, h2, h3⟩
  clear h h2 hw h3
  obtain ⟨w0, hw0⟩ : ∃ w0, w0 = (w.alloc (.cells #[.slice a3 len3 cap3] 35)).alloc (.cells #[.bool false] 4) := ⟨_, rfl⟩
  have k0 : Kp w w0 := by rw [hw0]; exact ((Chg.refl w _).alloc _).alloc _
  obtain ⟨b7, hb7⟩ : ∃ b7, b7 = w.heap.size := ⟨_, rfl⟩
  have y7 : w0.heap[b7]? = some (.cells #[.slice a3 len3 cap3] 35 (0, 0)) := by rw [hw0, hb7]; exact al_old _ (heap_alloc_new w _)
  have y8 : w0.heap[b7 + 1]? = some (.cells #[.bool false] 4 (0, 0)) := by
    have := heap_alloc_new (w.alloc (.cells #[.slice a3 len3 cap3] 35)) (.cells #[.bool false] 4)
    rw [hw0, hb7]; simpa using this
  have HY : Hid (Kp w w0 ∧ w0.heap[b7]? = some (.cells #[.slice a3 len3 cap3] 35 (0, 0)) ∧ w0.heap[b7 + 1]? = some (.cells #[.bool false] 4 (0, 0))) := ⟨k0, y7, y8⟩
  have hA := awake_any w0
  clear k0 y7 y8
  refine (callsIn_wide (n := 4)).1 ?_
  refine callsIn_of_wp_marks Try.func7 rfl trivial ?_ rfl
  simp only [Try.ntmps7, List.size_toArray, List.length_cons, List.length_nil, Nat.reduceAdd, Nat.reduceSub, Array.replicate_succ, Array.replicate_zero, List.push_toArray, List.append_toArray, List.nil_append, List.cons_append]
  refine wpIn_wide.2 ?_
  go_upto_region 1 with fail
  rw [← hw0, ← hb7]
  have HB7 : Hid (b7 = w.heap.size) := hb7
  clear hw0 hb7
  go_wp2_with fail
  go_at_call 9
  refine hA.mono ?_
  rintro e w1 ⟨rfl, k1⟩
  clear hA
  have hR := lrouted_any w1 a len cap Z (H.out.1.kp (Kp.trans HY.out.1 k1))
  have hBw : w.heap.size ≤ w1.heap.size := (Kp.trans HY.out.1 k1).size
  generalize w1.heap.size = B at hR hBw
  go_wp2_with fail
  go_at_call 10
  refine hR.mono ?_
  rintro e w2 ⟨rfl, g2, k2⟩
  clear hR
  obtain ⟨w3, hw3⟩ : ∃ w3, w3 = w2.alloc (.cells #[.pointer (some ⟨B, 0, none⟩)] 24) := ⟨_, rfl⟩
  obtain ⟨b10, hb10⟩ : ∃ b10, b10 = w2.heap.size := ⟨_, rfl⟩
  have k3 : Kp w2 w3 := by rw [hw3]; exact (Chg.refl w2 _).alloc _
  have y10 : w3.heap[b10]? = some (.cells #[.pointer (some ⟨B, 0, none⟩)] 24 (0, 0)) := by rw [hw3, hb10]; exact heap_alloc_new w2 _
  have k03 : Kp w0 w3 := Kp.trans k1 (Kp.trans k2 k3)
  have HX : Hid (w.heap.size ≤ B ∧ Kp w w3 ∧ IsG w3 B (rtJ len Z 32) ∧ w3.heap[b7]? = some (.cells #[.slice a3 len3 cap3] 35 (0, 0)) ∧ w3.heap[b7 + 1]? = some (.cells #[.bool false] 4 (0, 0)) ∧ w3.heap[b10]? = some (.cells #[.pointer (some ⟨B, 0, none⟩)] 24 (0, 0))) := ⟨hBw, Kp.trans HY.out.1 k03, g2.kp k3, k03.heap HY.out.2.1, k03.heap HY.out.2.2, y10⟩
  have c10 : w3.cell? ⟨b10, 0, none⟩ = some (.pointer (some ⟨B, 0, none⟩)) := by rw [(cells_at y10 0).1]; rfl
  have hP := pick_any w3 which 9 (by omega) (by omega) H.out.2.1
  generalize pk which 9 = p at hP
  have hLi := lines_any w3 B (p : Nat)
  clear k1 k2 k3 y10 k03 g2 hBw HY
  go_upto_region 3 with fail
  rw [← hw3, ← hb10]
  clear hw3 hb10
  go_wp2_with fail
  go_at_call 11
  refine hP.mono ?_
  rintro e wz ⟨rfl, hwz⟩
  rw [hwz]
  clear hP hwz
  go_wp2_with fail
  go_at_call 20
  refine hLi.mono ?_
  rintro e w4 ⟨rfl, hw4⟩
  obtain ⟨bg, hbg⟩ : ∃ bg, bg = w3.heap.size := ⟨_, rfl⟩
  rw [← hbg]
  have k4 : Kp w3 w4 := by rw [hw4]; exact ((Chg.refl w3 _).alloc _).alloc _
  have yg : w4.heap[bg]? = some (.cells #[.pointer (some ⟨B, 0, none⟩)] 24 (0, 0)) := by rw [hw4, hbg]; exact al_old _ (heap_alloc_new w3 _)
  have yc : w4.heap[bg + 1]? = some (.cells #[.int .i64 (p : Nat)] 3 (0, 0)) := by
    have := heap_alloc_new (w3.alloc (.cells #[.pointer (some ⟨B, 0, none⟩)] 24)) (.cells #[.int .i64 (p : Nat)] 3)
    rw [hw4, hbg]; simpa using this
  have HB : Hid (w.heap.size ≤ B) := HX.out.1
  have HI0 : Hid (∃ s, RgI w w4 b7 a3 len3 cap3 b10 B bg (bg + 1) (p : Nat) [] s) := by
    obtain ⟨q1, q2, q3, q4, q5, q6⟩ := HX.out
    exact ⟨_, fun m hm => (by cases hm), Kp.trans q2 k4, q3.kp k4, k4.heap q4, k4.heap q5, k4.heap q6, yg, yc⟩
  clear hLi hw4 k4 yg yc hbg HX c10
  go_wp2
  go_loopw [13] (fun s13 wr => ∃ j : Nat, s13 = .int .i64 j ∧ j ≤ len2 ∧ Hid (∃ s, RgI w wr b7 a3 len3 cap3 b10 B bg (bg + 1) (p : Nat) [] s)) (fun s13 _ => len2 - (intOf s13).toNat)
  case atStart => exact ⟨0, rfl, by omega, HI0⟩
  case round =>
    obtain ⟨j, rfl, hj, HI⟩ := hrel
    clear HI0
    by_cases hgo : j < len2 ∧ j < 40
    · obtain ⟨hlt, h40⟩ := hgo
      have hjz : (j : Int) < (len2 : Int) := by omega
      have hj4 : (j : Int) < 40 := by omega
      obtain ⟨s, hI⟩ := HI.out
      have hi2 := H.out.2.2.1.kp hI.kp
      rcases hi2.2.2 with h0 | ⟨b, o, rfl, hc⟩
      · omega
      · have hrg := hc j hlt
        have hok := hi2.2.1 j
        have x10 : wr.cell? ⟨b10, 0, none⟩ = some (.pointer (some ⟨B, 0, none⟩)) := by rw [(cells_at hI.x10 0).1]; rfl
        have xl : wr.cell? ⟨b, o + j * 38 + 1, none⟩ = some (.int .i64 (F2 j).line) := hrg 1 _ rfl
        have xc : wr.cell? ⟨b, o + j * 38 + 2, none⟩ = some (.int .i64 (F2 j).cell) := hrg 2 _ rfl
        have kd : Kp wr wr.drew := (Chg.refl wr _).drew
        have x10d := Kp.cell kd x10
        have xld := Kp.cell kd xl
        have xcd := Kp.cell kd xc
        have hP1 : Calls Try.prog 11 #[.int .i64 (F2 j).line, .int .i64 32] wr.drew fun e w' => e = .returned (.int .i64 (pk (F2 j).line 32 : Nat)) ∧ w' = wr.drew := pick_any wr.drew (F2 j).line 32 (by omega) (by omega) hok.line
        have hP2 : Calls Try.prog 11 #[.int .i64 (F2 j).cell, .int .i64 9] wr.drew fun e w' => e = .returned (.int .i64 (pk (F2 j).cell 9 : Nat)) ∧ w' = wr.drew := pick_any wr.drew (F2 j).cell 9 (by omega) (by omega) hok.cell
        have hl32 := pk_lt (F2 j).line 32 (by omega)
        have hc9 := pk_lt (F2 j).cell 9 (by omega)
        have hRo := route_ok wr.drew B s (hI.g.kp kd) (pk (F2 j).line 32) hl32 (pk (F2 j).cell 9) (by omega)
        have HS : Hid (RgI w wr b7 a3 len3 cap3 b10 B bg (bg + 1) (p : Nat) [] s ∧ b < w.heap.size) := ⟨hI, by
          rcases H.out.2.2.1.2.2 with h0 | ⟨b', o', e', hc'⟩
          · omega
          · cases e'
            exact World.block_lt_of_cell? w _ (hc' j hlt 1 _ rfl)⟩
        generalize pk (F2 j).line 32 = l1 at *
        generalize pk (F2 j).cell 9 = c1 at *
        generalize (F2 j).line = fl at *
        generalize (F2 j).cell = fc at *
        clear hi2 hc hI HI hrg hok kd
        have HRT : ∀ w5, IsG w5 B (s.route l1 c1) → Chg wr.drew w5 (fun k => k = B) → Hid (∃ s, RgI w w5 b7 a3 len3 cap3 b10 B bg (bg + 1) (p : Nat) [] s) ∧ w5.cell? ⟨b10, 0, none⟩ = some (.pointer (some ⟨B, 0, none⟩)) ∧ w5.cell? ⟨b, o + j * 38 + 1, none⟩ = some (.int .i64 fl) ∧ w5.cell? ⟨b, o + j * 38 + 2, none⟩ = some (.int .i64 fc) := by
          intro w5 g5 c5
          have hn := HS.out.1.gchg HB.out g5 (((Chg.refl wr (fun k => k = B)).drew).trans c5 (fun _ _ e => e))
          have nb : ¬ b = B := by have := HB.out; have := HS.out.2; omega
          exact ⟨⟨_, hn⟩, by rw [(cells_at hn.x10 0).1]; rfl, (c5.cell (World.block_lt_of_cell? wr.drew _ xld) nb).trans xld, (c5.cell (World.block_lt_of_cell? wr.drew _ xcd) nb).trans xcd⟩
        go_upto_region 12 with fail
        go_region_held3 (fun w' => w'.cell? ⟨b10, 0, none⟩ = some (.pointer (some ⟨B, 0, none⟩)) ∧ w'.cell? ⟨b, o + j * 38 + 1, none⟩ = some (.int .i64 fl) ∧ w'.cell? ⟨b, o + j * 38 + 2, none⟩ = some (.int .i64 fc)) (first | exact ⟨by assumption, by assumption, by assumption⟩) (first
          | (go_at_call 11; with_reducible refine hP1.mono ?_; rintro e wz ⟨rfl, hwz⟩; rw [hwz]; clear hwz)
          | (go_at_call 11; with_reducible refine hP2.mono ?_; rintro e wz ⟨rfl, hwz⟩; rw [hwz]; clear hwz)
          | (go_at_call 21; with_reducible refine hRo.mono ?_; rintro e w5 ⟨rfl, g5, c5⟩; obtain ⟨HN, v10, vl, vc⟩ := HRT w5 g5 c5; clear g5 c5))
        all_goals clear HRT hRo hP1 hP2 x10 xl xc x10d xld xcd HS v10 vl vc
        all_goals go_wp2
        all_goals exact ⟨⟨j + 1, by go_num, by omega, HN⟩, by simp [intOf]; omega⟩
    · rename_i Kk hKk
      have HKk : Hid (∀ (a : Act) (w : World), _ → Kk a w) := hKk
      clear hKk
      have HX : ∀ (u13 u34 u35 u36 u37 u38 u39 u40 u41 u42 u43 u44 u45 u46 u47 u48 u49 u50 u51 u52 u53 u54 u55 u56 u57 : Value) (wz : World), Hid (∃ s, RgI w wz b7 a3 len3 cap3 b10 B bg (bg + 1) (p : Nat) [] s) → Kk { tmps := #[Value.slice a len cap, Value.int IntKind.i64 which, Value.slice a2 len2 cap2, Value.slice a3 len3 cap3, undef, undef, undef, Value.pointer (some { block := b7, off := 0 }), Value.pointer (some { block := b7 + 1, off := 0 }), Value.bool true, Value.pointer (some { block := b10, off := 0 }), Value.int IntKind.i64 ↑p, Value.func (Fn.func 38) #[] #[Value.pointer (some { block := bg, off := 0 }), Value.pointer (some { block := bg + 1, off := 0 })], u13, undef, undef, undef, undef, Value.bool true, Value.slice a len cap, Value.pointer (some { block := B, off := 0 }), Value.bool true, Value.bool false, Value.bool false, Value.pointer (some { block := B, off := 0 }), Value.bool false, Value.bool false, Value.int IntKind.i64 which, Value.int IntKind.i64 ↑p, Value.pointer (some { block := B, off := 0 }), Value.int IntKind.i64 ↑p, Value.func (Fn.func 38) #[] #[Value.pointer (some { block := bg, off := 0 }), Value.pointer (some { block := bg + 1, off := 0 })], Value.func (Fn.func 38) #[] #[Value.pointer (some { block := bg, off := 0 }), Value.pointer (some { block := bg + 1, off := 0 })], Value.bool false, u34, u35, u36, u37, u38, u39, u40, u41, u42, u43, u44, u45, u46, u47, u48, u49, u50, u51, u52, u53, u54, u55, u56, u57, undef, undef, undef, undef, undef, undef, undef, undef, undef, undef, undef, undef, undef, undef, undef, undef, undef, undef, undef, undef, undef, undef, undef, undef, undef, undef, undef, undef, undef, undef, undef, undef, undef, undef, undef, undef, undef, undef, undef, undef, undef, undef, undef, undef, undef, undef, undef, undef, undef, undef, undef], defers := [] } wz := by
        intro u13 u34 u35 u36 u37 u38 u39 u40 u41 u42 u43 u44 u45 u46 u47 u48 u49 u50 u51 u52 u53 u54 u55 u56 u57 wz HI
        refine HKk.out _ _ ?_
        clear HKk
        go_wp2_with fail
        refine wp_loop_rounds 3 ?_
        rw [rounds_succ]
        obtain ⟨s, hI⟩ := HI.out
        have hOw := lown_any wz B s hI.g (p : Nat)
        have x10 : wz.cell? ⟨b10, 0, none⟩ = some (.pointer (some ⟨B, 0, none⟩)) := by rw [(cells_at hI.x10 0).1]; rfl
        have HS : Hid (RgI w wz b7 a3 len3 cap3 b10 B bg (bg + 1) (p : Nat) [] s) := hI
        clear hI HI
        go_wp2_with fail
        go_at_call 22
        refine hOw.mono ?_
        rintro e w5 ⟨v, rfl, ho, k5, hn5⟩
        clear hOw x10
        obtain ⟨va, vc, rfl⟩ : ∃ va vc, v = .slice va (lns (s.to (p : Nat))).length vc := by
          rcases ho.at with ⟨h1, h2⟩ | ⟨g, cp, h1, _⟩
          · exact ⟨none, 0, by rw [h1, h2]; rfl⟩
          · exact ⟨_, _, h1⟩
        generalize hll : (lns (s.to (p : Nat))).length = ll at *
        go_upto_region 18 with fail
        obtain ⟨f, hf⟩ : ∃ f, f = s.to (p : Nat) := ⟨_, rfl⟩
        rw [← hf] at ho hll
        obtain ⟨w6, hw6⟩ : ∃ w6, w6 = (w5.alloc (.cells #[.slice va ll vc] 22)).alloc (.cells #[.int .i64 0] 3) := ⟨_, rfl⟩
        obtain ⟨b15, hb15⟩ : ∃ b, b = w5.heap.size := ⟨_, rfl⟩
        rw [← hw6, ← hb15]
        have k6 : Kp w5 w6 := by rw [hw6]; exact ((Chg.refl w5 _).alloc _).alloc _
        have s6 : w6.heap.size = b15 + 2 := by rw [hw6, hb15]; simp
        have y15 : w6.heap[b15]? = some (.cells #[.slice va ll vc] 22 (0, 0)) := by rw [hw6, hb15]; exact al_old _ (heap_alloc_new w5 _)
        have y16 : w6.heap[b15 + 1]? = some (.cells #[.int .i64 0] 3 (0, 0)) := by
          have := heap_alloc_new (w5.alloc (.cells #[.slice va ll vc] 22)) (.cells #[.int .i64 0] 3)
          rw [hw6, hb15]; simpa using this
        have h5 := HS.out.kpt k5
        have h6 := h5.kpt k6
        have hV : ∀ g, (Value.slice va ll vc).ownBlock = some g → g < b15 ∧ wz.heap.size ≤ g := fun g hg => ⟨by
          rcases ho.2 with ⟨e, _⟩ | ⟨g', cp, cur, e, _, hgg, _⟩
          · rw [e] at hg; cases hg
          · rw [e] at hg; cases hg; rw [hb15]; exact hp_lt hgg, hn5 g hg⟩
        have hseq := lines_seq w6 1 B bg (bg + 1) s h6.g (p : Nat) (by rw [(cells_at h6.xg 0).1]; rfl) (by rw [(cells_at h6.xc 0).1]; rfl)
        rw [← hf] at hseq
        have hBz := HS.out.g.lt
        have K0 : Hid (RgI w w5 b7 a3 len3 cap3 b10 B bg (bg + 1) (p : Nat) [] s ∧ RnI w w5 w6 b7 a3 len3 cap3 b10 B bg p [] b15 (.slice va ll vc) (lns f) 0 ∧ b15 = w5.heap.size ∧ w6.heap.size = b15 + 2 ∧ (∀ g, (Value.slice va ll vc).ownBlock = some g → g < b15 ∧ wz.heap.size ≤ g) ∧ B < wz.heap.size ∧ B < b15 ∧ (lns f).length = ll) := ⟨h5, ⟨⟨s, h6⟩, y15, y16, Chg.owns k6 ho (fun _ _ h => h)⟩, hb15, s6, hV, hBz, by rw [hb15]; exact h5.g.lt, hll⟩
        clear h5 h6 hV hBz y15 y16 k6 s6 hw6 ho hn5 k5 hb15 hf hll HS
        go_wp2_with fail
        refine (wpIn_wide (n := 4)).1 ?_
        refine range_own (gf := 38) rfl (enters_of Try.func38 (by kernel_rfl) rfl) hseq (fun _ _ => rfl)
          (fun _ k W => RnI w w5 W b7 a3 len3 cap3 b10 B bg p [] b15 (.slice va ll vc) (lns f) k) (fun _ _ => False) ?_ (fun _ _ _ h _ => h) ?_ ?_ ?_
          (fun _ k a' W => a' = { tmps := #[Value.slice a len cap, Value.int IntKind.i64 which, Value.slice a2 len2 cap2, Value.slice a3 len3 cap3, undef, undef, undef, Value.pointer (some { block := b7, off := 0 }), Value.pointer (some { block := b7 + 1, off := 0 }), Value.bool true, Value.pointer (some { block := b10, off := 0 }), Value.int IntKind.i64 ↑p, Value.func (Fn.func 38) #[] #[Value.pointer (some { block := bg, off := 0 }), Value.pointer (some { block := bg + 1, off := 0 })], u13, Value.int IntKind.i64 0, Value.pointer (some { block := b15, off := 0 }), Value.pointer (some { block := b15 + 1, off := 0 }), Value.int IntKind.i64 ↑(lnA f k), Value.bool true, Value.slice a len cap, Value.pointer (some { block := B, off := 0 }), Value.bool true, Value.bool false, Value.bool false, Value.pointer (some { block := B, off := 0 }), Value.bool false, Value.bool false, Value.int IntKind.i64 which, Value.int IntKind.i64 ↑p, Value.pointer (some { block := B, off := 0 }), Value.int IntKind.i64 ↑p, Value.func (Fn.func 38) #[] #[Value.pointer (some { block := bg, off := 0 }), Value.pointer (some { block := bg + 1, off := 0 })], Value.func (Fn.func 38) #[] #[Value.pointer (some { block := bg, off := 0 }), Value.pointer (some { block := bg + 1, off := 0 })], Value.bool false, u34, u35, u36, u37, u38, u39, u40, u41, u42, u43, u44, u45, u46, u47, u48, u49, u50, u51, u52, u53, u54, u55, u56, u57, Value.int IntKind.i64 0, Value.bool true, undef, undef, Value.pointer (some { block := B, off := 0 }), Value.int IntKind.i64 ↑p, Value.slice va ll vc, Value.func (Fn.func 38) #[] #[Value.pointer (some { block := bg, off := 0 }), Value.pointer (some { block := bg + 1, off := 0 })], Value.int IntKind.i64 ↑(lnA f k), undef, undef, undef, undef, undef, undef, undef, undef, undef, undef, undef, undef, undef, undef, undef, undef, undef, undef, undef, undef, undef, undef, undef, undef, undef, undef, undef, undef, undef, undef, undef, undef, undef, undef, undef, undef, undef, undef, undef, undef, undef, undef], defers := [] }) (fun _ _ _ _ _ h _ => h) ?assign ?body ?done (fun _ _ h => h.elim)
        · rintro _ k A C hA hC
          obtain ⟨q1, q2, q3, q4, q5, q6, q7, q8⟩ := K0.out
          exact RnI.keep q1 q3 (fun g hg => (q5 g hg).1) hA hC (fun i hi e => by rcases e with e | e <;> omega)
        · rintro b A C D hAC hK hb h1
          have hbl : b < A.heap.size := World.block_lt_of_cell? A _ h1
          exact hK hb ((hAC.cell hbl (by rintro (e | e) <;> omega)).trans h1)
        · rintro b A C D hK hCD hb h
          have h1 := hK hb h
          have hbl : b < C.heap.size := World.block_lt_of_cell? C _ h1
          exact (hCD.cell hbl (by rintro (e | e) <;> omega)).trans h1
        · intro b W W1 hW hs hG
          obtain ⟨q1, q2, q3, q4, q5, q6, q7, q8⟩ := K0.out
          exact ⟨RnI.keep q1 q3 (fun g hg => (q5 g hg).1) q2 (Kp.trans hW hG.1) (fun i hi e => e), hG.1⟩
        case assign =>
          rintro b k W K' hk hI hs hK'
          unfold lArgs
          clear hI hk hs
          gi_wp2
          exact hK' _ _ (Chg.refl _ _) rfl
        case body =>
          rintro b k a' W hk hI rfl hs
          obtain ⟨q1, q2, q3, q4, q5, q6, q7, q8⟩ := K0.out
          obtain ⟨s', hR⟩ := hI.rg
          obtain ⟨g, cp, eV, _, hgc⟩ := hI.ow.at.resolve_left (by rintro ⟨_, e⟩; rw [e] at hk; simp at hk)
          have eva : va = some ⟨g, 0, none⟩ := by cases eV; rfl
          have cl := hgc k hk
          have elk : (lns f)[k] = lnA f k := by unfold lnA; rw [List.getD_eq_getElem?_getD, List.getElem?_eq_getElem hk]; rfl
          rw [elk] at cl
          have e15 : W.cell? ⟨b15, 0, none⟩ = some (.slice va ll vc) := by rw [(cells_at hI.z15 0).1]; rfl
          have e16 : W.cell? ⟨b15 + 1, 0, none⟩ = some (.int .i64 (k : Nat)) := by rw [(cells_at hI.z16 0).1]; rfl
          have f16 : W.frozen? ⟨b15 + 1, 0, none⟩ = false := (cells_at hI.z16 0).2
          have e7 : W.cell? ⟨b7, 0, none⟩ = some (.slice a3 len3 cap3) := by rw [(cells_at hR.x7 0).1]; rfl
          have e10 : W.cell? ⟨b10, 0, none⟩ = some (.pointer (some ⟨B, 0, none⟩)) := by rw [(cells_at hR.x10 0).1]; rfl
          have hkl : (k : Int) < (ll : Int) := by omega
          have hkn : ¬ ((ll : Int) ≤ (k : Int)) := by omega
          have hk32 : (k : Int) < 32 := by have : (lns f).length ≤ 32 := (by unfold lns; have := List.length_filter_le f (List.range 32); simpa using this); omega
          have ek : ((k + 1 : Nat) : Int) = (k : Int) + 1 := by omega
          have hgB := (q5 g (by rw [eva]; rfl))
          have HFin : ∀ W1 s1, RgI w W1 b7 a3 len3 cap3 b10 B bg (bg + 1) (p : Nat) [] s1 → Chg W W1 (fun i => i = B) → Hid ((∀ i, Two w6.heap.size i → (W1.setCell ⟨b15 + 1, 0, none⟩ (.int .i64 ((k : Int) + 1))).heap[i]? = W.heap[i]?) ∧ RnI w w5 (W1.setCell ⟨b15 + 1, 0, none⟩ (.int .i64 ((k : Int) + 1))) b7 a3 len3 cap3 b10 B bg p [] b15 (.slice va ll vc) (lns f) (k + 1) ∧ lKp 2 w6 f b W (W1.setCell ⟨b15 + 1, 0, none⟩ (.int .i64 ((k : Int) + 1)))) := by
            intro W1 s1 h1 c1
            have c2 : Chg W1 (W1.setCell ⟨b15 + 1, 0, none⟩ (.int .i64 ((k : Int) + 1))) (fun i => i = b15 + 1) := Chg.setCell (S := fun i => i = b15 + 1) (Chg.refl _ _) (.inl rfl) _
            have z16' := c1.heap hI.z16 (by omega)
            have c3 : Chg W (W1.setCell ⟨b15 + 1, 0, none⟩ (.int .i64 ((k : Int) + 1))) (fun i => i = B ∨ i = b15 + 1) := (c1.mono (fun _ _ e => .inl e)).trans c2 (fun _ _ e => .inr e)
            refine ⟨fun i hi => c3.block i (by rcases hi with e | e <;> omega) (by rintro (e | e) <;> rcases hi with e' | e' <;> omega), ⟨⟨s1, q1.keep h1 c2 (fun i hi e => by omega)⟩, c3.heap hI.z15 (by rintro (e | e) <;> omega), ?_, Chg.owns c3 hI.ow (fun g' hg' e => ?_)⟩, fun hb h1 => ?_⟩
            · rw [ek]; exact heap_setCell_same W1 (b15 + 1) 0 _ 3 _ z16'
            · have := q5 g' hg'
              rcases e with e | e <;> omega
            · have hbl : b < W.heap.size := World.block_lt_of_cell? W _ h1
              exact (c3.cell hbl (by rintro (e | e) <;> omega)).trans h1
          have HFI : Hid (∀ W1 s1, RgI w W1 b7 a3 len3 cap3 b10 B bg (bg + 1) (p : Nat) [] s1 → Chg W W1 (fun i => i = B) → Hid ((∀ i, Two w6.heap.size i → (W1.setCell ⟨b15 + 1, 0, none⟩ (.int .i64 ((k : Int) + 1))).heap[i]? = W.heap[i]?) ∧ RnI w w5 (W1.setCell ⟨b15 + 1, 0, none⟩ (.int .i64 ((k : Int) + 1))) b7 a3 len3 cap3 b10 B bg p [] b15 (.slice va ll vc) (lns f) (k + 1) ∧ lKp 2 w6 f b W (W1.setCell ⟨b15 + 1, 0, none⟩ (.int .i64 ((k : Int) + 1))))) := HFin
          clear HFin elk hgc
          subst eva
          by_cases hk3 : k < len3
          · have hkz : (k : Int) < (len3 : Int) := by omega
            have hi3 := H.out.2.2.2.kp hR.kp
            rcases hi3.2.2 with h0 | ⟨b3, o3, rfl, hc3⟩
            · omega
            · have hrg := hc3 k hk3
              have hok := hi3.2.1 k
              have hb3 : b3 < w.heap.size := by
                rcases H.out.2.2.2.2.2 with h0 | ⟨b', o', e', hc'⟩
                · omega
                · cases e'; exact World.block_lt_of_cell? w _ (hc' k hk3 1 _ rfl)
              have xl : W.cell? ⟨b3, o3 + k * 38 + 1, none⟩ = some (.int .i64 (F3 k).line) := hrg 1 _ rfl
              have xc : W.cell? ⟨b3, o3 + k * 38 + 2, none⟩ = some (.int .i64 (F3 k).cell) := hrg 2 _ rfl
              have kd : Kp W W.drew := (Chg.refl W _).drew
              have e10d := Kp.cell kd e10
              have e7d := Kp.cell kd e7
              have e16d := Kp.cell kd e16
              have xld := Kp.cell kd xl
              have xcd := Kp.cell kd xc
              have hP1 : Calls Try.prog 11 #[.int .i64 (F3 k).line, .int .i64 32] W.drew fun e w' => e = .returned (.int .i64 (pk (F3 k).line 32 : Nat)) ∧ w' = W.drew := pick_any W.drew (F3 k).line 32 (by omega) (by omega) hok.line
              have hP2 : Calls Try.prog 11 #[.int .i64 (F3 k).cell, .int .i64 9] W.drew fun e w' => e = .returned (.int .i64 (pk (F3 k).cell 9 : Nat)) ∧ w' = W.drew := pick_any W.drew (F3 k).cell 9 (by omega) (by omega) hok.cell
              have hl32 := pk_lt (F3 k).line 32 (by omega)
              have hc9 := pk_lt (F3 k).cell 9 (by omega)
              have hRo := route_ok W.drew B s' (hR.g.kp kd) (pk (F3 k).line 32) hl32 (pk (F3 k).cell 9) (by omega)
              have HR : Hid (RgI w W b7 (some ⟨b3, o3, none⟩) len3 cap3 b10 B bg (bg + 1) (p : Nat) [] s' ∧ (F3 k).ok ∧ b3 < w.heap.size ∧ W.heap[b15 + 1]? = some (.cells #[.int .i64 (k : Nat)] 3 (0, 0)) ∧ B < b15 ∧ W.rangeAt b3 (o3 + k * 38) (ocs (F3 k))) := ⟨hR, hok, hb3, hI.z16, q7, hrg⟩
              generalize pk (F3 k).line 32 = l1 at *
              generalize pk (F3 k).cell 9 = c1 at *
              generalize (F3 k).line = fl at *
              generalize (F3 k).cell = fc at *
              have hmix : Try.prog.follows .mixedOrders = true := by kernel_rfl
              clear hi3 hc3 hR hI hrg hok hb3 q1 q2 q3 q4 q5 q6 q7 q8 hs hk kd eV ek hgB hl32 hc9 hseq
              generalize lnA f k = ln at *
              have HSW2 : Hid (∀ w8, ∀ {s8}, RgI w w8 b7 (some ⟨b3, o3, none⟩) len3 cap3 b10 B bg (bg + 1) (p : Nat) [] s8 → Chg W w8 (fun k => k = B) → Sw9 b10 B b7 b3 o3 len3 cap3 b15 k (F3 k) w8) := fun w8 s8 h8 c8 => by
                have nb : ¬ b3 = B := by have := HB.out; have := HR.out.2.2.1; omega
                refine ⟨by rw [(cells_at h8.x10 0).1]; rfl, by rw [(cells_at h8.x7 0).1]; rfl, ?_, fun q v hv => (c8.cell (World.block_lt_of_cell? W _ (HR.out.2.2.2.2.2 q v hv)) nb).trans (HR.out.2.2.2.2.2 q v hv)⟩
                have := c8.heap HR.out.2.2.2.1 (by have := HR.out.2.2.2.2.1; omega)
                rw [(cells_at this 0).1]; rfl
              have HSW : Hid (∀ w8, ∀ {s8}, RgI w w8 b7 (some ⟨b3, o3, none⟩) len3 cap3 b10 B bg (bg + 1) (p : Nat) [] s8 → Chg W w8 (fun k => k = B) → Sw9 b10 B b7 b3 o3 len3 cap3 b15 k (F3 k) w8.drew) := fun w8 s8 h8 c8 => HSW2.out w8.drew (h8.kpt ((Chg.refl w8 _).drew)) c8.drew
              have HFZ : Hid (∀ w8, Chg W w8 (fun k => k = B) → w8.frozen? ⟨b15 + 1, 0, none⟩ = false) := fun w8 c8 => (cells_at (c8.heap HR.out.2.2.2.1 (by have := HR.out.2.2.2.2.1; omega)) 0).2
              have HRD : Hid (∀ w8 w9 s9, ∀ {s8}, RgI w w8 b7 (some ⟨b3, o3, none⟩) len3 cap3 b10 B bg (bg + 1) (p : Nat) [] s8 → Chg W w8 (fun k => k = B) → IsG w9 B s9 → Chg w8.drew w9 (fun k => k = B) → RgI w w9 b7 (some ⟨b3, o3, none⟩) len3 cap3 b10 B bg (bg + 1) (p : Nat) [] s9 ∧ Chg W w9 (fun k => k = B)) := fun w8 w9 s9 s8 h8 c8 g9 c9 => by
                have cc : Chg w8 w9 (fun k => k = B) := ((Chg.refl w8 (fun k => k = B)).drew).trans c9 (fun _ _ e => e)
                exact ⟨h8.gchg HB.out g9 cc, c8.trans cc (fun _ _ e => e)⟩
              have HRT : Hid (∀ w8, IsG w8 B (s'.route l1 c1) → Chg W.drew w8 (fun k => k = B) → RgI w w8 b7 (some ⟨b3, o3, none⟩) len3 cap3 b10 B bg (bg + 1) (p : Nat) [] (s'.route l1 c1) ∧ Chg W w8 (fun k => k = B)) := fun w8 g8 c8 => by
                have cc : Chg W w8 (fun k => k = B) := ((Chg.refl W (fun k => k = B)).drew).trans c8 (fun _ _ e => e)
                exact ⟨HR.out.1.gchg HB.out g8 cc, cc⟩
              have HST : Hid (∀ w8, ∀ {s8}, RgI w w8 b7 (some ⟨b3, o3, none⟩) len3 cap3 b10 B bg (bg + 1) (p : Nat) [] s8 → Chg W w8 (fun k => k = B) → Sv9 b10 B b7 b3 o3 len3 cap3 b15 k fl fc w8) := fun w8 s8 h8 c8 => by
                have nb : ¬ b3 = B := by have := HB.out; have := HR.out.2.2.1; omega
                refine ⟨by rw [(cells_at h8.x10 0).1]; rfl, by rw [(cells_at h8.x7 0).1]; rfl, ?_, (c8.cell (World.block_lt_of_cell? W _ xl) nb).trans xl, (c8.cell (World.block_lt_of_cell? W _ xc) nb).trans xc⟩
                have := c8.heap HR.out.2.2.2.1 (by have := HR.out.2.2.2.2.1; omega)
                rw [(cells_at this 0).1]; rfl
              have hS1 : Sv9 b10 B b7 b3 o3 len3 cap3 b15 k fl fc W.drew := ⟨e10d, e7d, e16d, xld, xcd⟩
              clear e10d e7d e16d xld xcd
              gi_wp2_with fail
              refine wpIn_ok ?_
              refine region_round _ _ (Sv9 b10 B b7 b3 o3 len3 cap3 b15 k fl fc) hmix okEnd_out (by kernel_rfl) ?_
              refine wpAnyH_take (i := 0) (oi := { dst := some 83, op := Go.Op.load 24 (Go.Operand.tmp 10), type := 24, pos := "keeps.go:234", after := #[], guard := none }) (v := .pointer (some ⟨B, 0, none⟩)) rfl (by kernel_rfl) (by kernel_rfl) (by kernel_rfl) (fun _ _ _ h => h) (Or.inl ⟨by rfl, ?_⟩) hS1 ?_
              · rintro wx ⟨d0, d1, d2, d3, d4⟩
                go_simp
              simp only [Act.put, List.setIfInBounds_toArray, List.set_cons_zero, List.set_cons_succ]
              refine wpAnyH_take (i := 1) (oi := { dst := some 84, op := Go.Op.load 35 (Go.Operand.tmp 7), type := 35, pos := "keeps.go:234", after := #[], guard := none }) (v := .slice (some ⟨b3, o3, none⟩) len3 cap3) rfl (by kernel_rfl) (by kernel_rfl) (by kernel_rfl) (fun _ _ _ h => h) (Or.inl ⟨by rfl, ?_⟩) hS1 ?_
              · rintro wx ⟨d0, d1, d2, d3, d4⟩
                go_simp
              simp only [Act.put, List.setIfInBounds_toArray, List.set_cons_zero, List.set_cons_succ]
              refine wpAnyH_take (i := 2) (oi := { dst := some 85, op := Go.Op.load 3 (Go.Operand.tmp 16), type := 3, pos := "keeps.go:234", after := #[], guard := none }) (v := .int .i64 ((k : Nat) : Int)) rfl (by kernel_rfl) (by kernel_rfl) (by kernel_rfl) (fun _ _ _ h => h) (Or.inl ⟨by rfl, ?_⟩) hS1 ?_
              · rintro wx ⟨d0, d1, d2, d3, d4⟩
                go_simp
              simp only [Act.put, List.setIfInBounds_toArray, List.set_cons_zero, List.set_cons_succ]
              refine wpAnyH_take (i := 3) (oi := { dst := some 86, op := Go.Op.indexAddr 35 (Go.Operand.tmp 84) (Go.Operand.tmp 85), type := 0, pos := "keeps.go:234", after := #[{ on := 1, ground := Go.Ground.data }, { on := 2, ground := Go.Ground.data }], guard := none }) (v := .pointer (some ⟨b3, o3 + k * 38, none⟩)) rfl (by kernel_rfl) (by kernel_rfl) (by kernel_rfl) (fun _ _ _ h => h) (Or.inl ⟨by rfl, ?_⟩) hS1 ?_
              · rintro wx ⟨d0, d1, d2, d3, d4⟩
                go_simp
              simp only [Act.put, List.setIfInBounds_toArray, List.set_cons_zero, List.set_cons_succ]
              refine wpAnyH_take (i := 4) (oi := { dst := some 87, op := Go.Op.fieldAddr 40 (Go.Operand.tmp 86) 1, type := 0, pos := "keeps.go:234", after := #[{ on := 3, ground := Go.Ground.data }], guard := none }) (v := .pointer (some ⟨b3, o3 + k * 38 + 1, none⟩)) rfl (by kernel_rfl) (by kernel_rfl) (by kernel_rfl) (fun _ _ _ h => h) (Or.inl ⟨by rfl, ?_⟩) hS1 ?_
              · rintro wx ⟨d0, d1, d2, d3, d4⟩
                go_simp
              simp only [Act.put, List.setIfInBounds_toArray, List.set_cons_zero, List.set_cons_succ]
              refine wpAnyH_take (i := 5) (oi := { dst := some 88, op := Go.Op.load 3 (Go.Operand.tmp 87), type := 3, pos := "keeps.go:234", after := #[{ on := 4, ground := Go.Ground.data }], guard := none }) (v := .int .i64 fl) rfl (by kernel_rfl) (by kernel_rfl) (by kernel_rfl) (fun _ _ _ h => h) (Or.inl ⟨by rfl, ?_⟩) hS1 ?_
              · rintro wx ⟨d0, d1, d2, d3, d4⟩
                go_simp
              simp only [Act.put, List.setIfInBounds_toArray, List.set_cons_zero, List.set_cons_succ]
              refine wpAnyH_take (i := 7) (oi := { dst := some 90, op := Go.Op.load 35 (Go.Operand.tmp 7), type := 35, pos := "keeps.go:234", after := #[], guard := none }) (v := .slice (some ⟨b3, o3, none⟩) len3 cap3) rfl (by kernel_rfl) (by kernel_rfl) (by kernel_rfl) (fun _ _ _ h => h) (Or.inl ⟨by rfl, ?_⟩) hS1 ?_
              · rintro wx ⟨d0, d1, d2, d3, d4⟩
                go_simp
              simp only [Act.put, List.setIfInBounds_toArray, List.set_cons_zero, List.set_cons_succ]
              refine wpAnyH_take (i := 8) (oi := { dst := some 91, op := Go.Op.load 3 (Go.Operand.tmp 16), type := 3, pos := "keeps.go:234", after := #[], guard := none }) (v := .int .i64 ((k : Nat) : Int)) rfl (by kernel_rfl) (by kernel_rfl) (by kernel_rfl) (fun _ _ _ h => h) (Or.inl ⟨by rfl, ?_⟩) hS1 ?_
              · rintro wx ⟨d0, d1, d2, d3, d4⟩
                go_simp
              simp only [Act.put, List.setIfInBounds_toArray, List.set_cons_zero, List.set_cons_succ]
              refine wpAnyH_take (i := 9) (oi := { dst := some 92, op := Go.Op.indexAddr 35 (Go.Operand.tmp 90) (Go.Operand.tmp 91), type := 0, pos := "keeps.go:234", after := #[{ on := 7, ground := Go.Ground.data }, { on := 8, ground := Go.Ground.data }], guard := none }) (v := .pointer (some ⟨b3, o3 + k * 38, none⟩)) rfl (by kernel_rfl) (by kernel_rfl) (by kernel_rfl) (fun _ _ _ h => h) (Or.inl ⟨by rfl, ?_⟩) hS1 ?_
              · rintro wx ⟨d0, d1, d2, d3, d4⟩
                go_simp
              simp only [Act.put, List.setIfInBounds_toArray, List.set_cons_zero, List.set_cons_succ]
              refine wpAnyH_take (i := 10) (oi := { dst := some 93, op := Go.Op.fieldAddr 40 (Go.Operand.tmp 92) 2, type := 0, pos := "keeps.go:234", after := #[{ on := 9, ground := Go.Ground.data }], guard := none }) (v := .pointer (some ⟨b3, o3 + k * 38 + 2, none⟩)) rfl (by kernel_rfl) (by kernel_rfl) (by kernel_rfl) (fun _ _ _ h => h) (Or.inl ⟨by rfl, ?_⟩) hS1 ?_
              · rintro wx ⟨d0, d1, d2, d3, d4⟩
                go_simp
              simp only [Act.put, List.setIfInBounds_toArray, List.set_cons_zero, List.set_cons_succ]
              refine wpAnyH_take (i := 11) (oi := { dst := some 94, op := Go.Op.load 3 (Go.Operand.tmp 93), type := 3, pos := "keeps.go:234", after := #[{ on := 10, ground := Go.Ground.data }], guard := none }) (v := .int .i64 fc) rfl (by kernel_rfl) (by kernel_rfl) (by kernel_rfl) (fun _ _ _ h => h) (Or.inl ⟨by rfl, ?_⟩) hS1 ?_
              · rintro wx ⟨d0, d1, d2, d3, d4⟩
                go_simp
              simp only [Act.put, List.setIfInBounds_toArray, List.set_cons_zero, List.set_cons_succ]
              refine wpAnyH_ready (rs := [6]) (by kernel_rfl) (by simp) ?_
              refine AllReadyH.cons (o := { dst := some 89, op := Go.Op.call { callee := Go.Callee.value (Go.Operand.func 11), args := #[Go.Operand.tmp 88, Go.Operand.const (Go.Value.int Go.IntKind.i64 32)], argTypes := #[3, 3] }, type := 3, pos := "keeps.go:234", after := #[{ on := 5, ground := Go.Ground.data }], guard := none }) rfl (fun K hK => ?_) AllReadyH.nil
              rw [if_pos (by rfl)]
              go_simp
              refine hP1.mono ?_
              rintro e wy ⟨rfl, hwy⟩
              rw [hwy]
              clear hwy
              refine hK.out _ _ hS1 (fun hS2 => ?_)
              clear hK K hP1
              refine wpAnyH_ready (rs := [12]) (by kernel_rfl) (by simp) ?_
              refine AllReadyH.cons (o := { dst := some 95, op := Go.Op.call { callee := Go.Callee.value (Go.Operand.func 11), args := #[Go.Operand.tmp 94, Go.Operand.const (Go.Value.int Go.IntKind.i64 9)], argTypes := #[3, 3] }, type := 3, pos := "keeps.go:234", after := #[{ on := 11, ground := Go.Ground.data }, { on := 6, ground := Go.Ground.chain }], guard := none }) rfl (fun K hK => ?_) AllReadyH.nil
              rw [if_pos (by rfl)]
              go_simp
              refine hP2.mono ?_
              rintro e wy ⟨rfl, hwy⟩
              rw [hwy]
              clear hwy
              refine hK.out _ _ hS1 (fun hS3 => ?_)
              clear hK K hP2
              refine wpAnyH_ready (rs := [13]) (by kernel_rfl) (by simp) ?_
              refine AllReadyH.cons (o := { dst := some 96, op := Go.Op.call { callee := Go.Callee.value (Go.Operand.func 21), args := #[Go.Operand.tmp 83, Go.Operand.tmp 89, Go.Operand.tmp 95], argTypes := #[24, 3, 3] }, type := 27, pos := "keeps.go:234", after := #[{ on := 0, ground := Go.Ground.data }, { on := 6, ground := Go.Ground.data }, { on := 12, ground := Go.Ground.data }, { on := 12, ground := Go.Ground.chain }], guard := none }) rfl (fun K hK => ?_) AllReadyH.nil
              rw [if_pos (by rfl)]
              go_simp
              refine hRo.mono ?_
              rintro e w8 ⟨rfl, g8, c8⟩
              have HG8 : Hid (RgI w w8 b7 (some ⟨b3, o3, none⟩) len3 cap3 b10 B bg (bg + 1) (p : Nat) [] (s'.route l1 c1) ∧ Chg W w8 (fun k => k = B)) := HRT.out w8 g8 c8
              clear g8 c8 hRo
              have hS4 : Sv9 b10 B b7 b3 o3 len3 cap3 b15 k fl fc w8 := HST.out w8 HG8.out.1 HG8.out.2
              refine hK.out _ _ hS4 (fun hS5 => ?_)
              clear hK K hS1 hS2 hS3 hS5
              refine wpAnyH_done (by kernel_rfl) ?_ _
              unfold okEnd
              clear hS4
              have hS6 : Sw9 b10 B b7 b3 o3 len3 cap3 b15 k (F3 k) w8.drew := HSW.out w8 HG8.out.1 HG8.out.2
              have hDo := does_any w8.drew B (s'.route l1 c1) (HG8.out.1.g.kp ((Chg.refl w8 _).drew)) (F3 k) HR.out.2.1
              have hsz := size40 (F3 k)
              generalize (s'.route l1 c1).dsN (F3 k) = rn at *
              generalize (s'.route l1 c1).dsB (F3 k) = rb at *
              gi_wp2_with fail
              refine wpIn_ok ?_
              refine region_round _ _ (Sw9 b10 B b7 b3 o3 len3 cap3 b15 k (F3 k)) hmix okEnd_out (by kernel_rfl) ?_
              refine wpAnyH_take (i := 0) (oi := { dst := some 97, op := Go.Op.load 24 (Go.Operand.tmp 10), type := 24, pos := "keeps.go:235", after := #[], guard := none }) (v := .pointer (some ⟨B, 0, none⟩)) rfl (by kernel_rfl) (by kernel_rfl) (by kernel_rfl) (fun _ _ _ h => h) (Or.inl ⟨by rfl, ?_⟩) hS6 ?_
              · rintro wx ⟨d0, d1, d2, d3⟩
                go_simp
              simp only [Act.put, List.setIfInBounds_toArray, List.set_cons_zero, List.set_cons_succ]
              refine wpAnyH_take (i := 1) (oi := { dst := some 98, op := Go.Op.load 35 (Go.Operand.tmp 7), type := 35, pos := "keeps.go:235", after := #[], guard := none }) (v := .slice (some ⟨b3, o3, none⟩) len3 cap3) rfl (by kernel_rfl) (by kernel_rfl) (by kernel_rfl) (fun _ _ _ h => h) (Or.inl ⟨by rfl, ?_⟩) hS6 ?_
              · rintro wx ⟨d0, d1, d2, d3⟩
                go_simp
              simp only [Act.put, List.setIfInBounds_toArray, List.set_cons_zero, List.set_cons_succ]
              refine wpAnyH_take (i := 2) (oi := { dst := some 99, op := Go.Op.load 3 (Go.Operand.tmp 16), type := 3, pos := "keeps.go:235", after := #[], guard := none }) (v := .int .i64 ((k : Nat) : Int)) rfl (by kernel_rfl) (by kernel_rfl) (by kernel_rfl) (fun _ _ _ h => h) (Or.inl ⟨by rfl, ?_⟩) hS6 ?_
              · rintro wx ⟨d0, d1, d2, d3⟩
                go_simp
              simp only [Act.put, List.setIfInBounds_toArray, List.set_cons_zero, List.set_cons_succ]
              refine wpAnyH_take (i := 3) (oi := { dst := some 100, op := Go.Op.indexAddr 35 (Go.Operand.tmp 98) (Go.Operand.tmp 99), type := 0, pos := "keeps.go:235", after := #[{ on := 1, ground := Go.Ground.data }, { on := 2, ground := Go.Ground.data }], guard := none }) (v := .pointer (some ⟨b3, o3 + k * 38, none⟩)) rfl (by kernel_rfl) (by kernel_rfl) (by kernel_rfl) (fun _ _ _ h => h) (Or.inl ⟨by rfl, ?_⟩) hS6 ?_
              · rintro wx ⟨d0, d1, d2, d3⟩
                go_simp
              simp only [Act.put, List.setIfInBounds_toArray, List.set_cons_zero, List.set_cons_succ]
              refine wpAnyH_take (i := 4) (oi := { dst := some 101, op := Go.Op.load 40 (Go.Operand.tmp 100), type := 40, pos := "keeps.go:235", after := #[{ on := 3, ground := Go.Ground.data }], guard := none }) (v := .agg (ocs (F3 k)).toArray) rfl (by kernel_rfl) (by kernel_rfl) (by kernel_rfl) (fun _ _ _ h => h) (yieldsIf_load_mid (by rfl) 40 _ rfl b3 (o3 + k * 38) rfl (ocs (F3 k)) _ (fun wx hx => hx.2.2.2) Try.underlying40 rfl hsz) hS6 ?_
              simp only [Act.put, List.setIfInBounds_toArray, List.set_cons_zero, List.set_cons_succ]
              refine wpAnyH_ready (rs := [5]) (by kernel_rfl) (by simp) ?_
              refine AllReadyH.cons (o := { dst := some 102, op := Go.Op.call { callee := Go.Callee.value (Go.Operand.func 16), args := #[Go.Operand.tmp 97, Go.Operand.tmp 101], argTypes := #[24, 40] }, type := 32, pos := "keeps.go:235", after := #[{ on := 0, ground := Go.Ground.data }, { on := 4, ground := Go.Ground.data }], guard := none }) rfl (fun K hK => ?_) AllReadyH.nil
              rw [if_pos (by rfl)]
              go_simp
              refine hDo.mono ?_
              rintro e w9 ⟨rfl, g9, c9⟩
              have HG9 : Hid (RgI w w9 b7 (some ⟨b3, o3, none⟩) len3 cap3 b10 B bg (bg + 1) (p : Nat) [] ((s'.route l1 c1).ds (F3 k)) ∧ Chg W w9 (fun k => k = B)) := HRD.out w8 w9 _ HG8.out.1 HG8.out.2 g9 c9
              clear g9 c9 hDo
              have hS7 : Sw9 b10 B b7 b3 o3 len3 cap3 b15 k (F3 k) w9 := HSW2.out w9 HG9.out.1 HG9.out.2
              refine hK.out _ _ hS7 (fun hS8 => ?_)
              clear hK K
              refine wpAnyH_done (by kernel_rfl) ?_ _
              unfold okEnd
              obtain ⟨y10, y7, y16, _⟩ := hS7
              have y16f : w9.frozen? ⟨b15 + 1, 0, none⟩ = false := HFZ.out w9 HG9.out.2
              have KX := HFI.out w9 _ HG9.out.1 HG9.out.2
              clear hS6 hS8 HG8 HG9 HFI HRT HST HRD HSW HSW2 HFZ HR
              gi_wp2
              exact KX.out
          · have hkz : ¬ (k : Int) < (len3 : Int) := by omega
            have KX := HFI.out W s' hR (Chg.refl _ _)
            clear hR hI q1 q2 q3 q4 q5 q6 q7 q8 hs hk HFI eV ek hgB hseq
            generalize lnA f k = ln at *
            gi_wp2
            exact KX.out
        case done =>
          rintro b W hI hD
          obtain ⟨q1, q2, q3, q4, q5, q6, q7, q8⟩ := K0.out
          obtain ⟨s', hR⟩ := hI.rg
          obtain ⟨m1, hm1⟩ : ∃ m1, m1 = w6.heap.size := ⟨_, rfl⟩
          rw [← hm1] at hD ⊢
          have HM1 : Hid (b7 + 1 < m1) := by have h8 := hp_lt q1.x8; have e : b7 + 1 < m1 := (by omega); exact e
          have HS2 : Hid (RgI w W b7 a3 len3 cap3 b10 B bg (bg + 1) (p : Nat) [m1] s') := ⟨fun m hm => (by simp at hm; rw [hm]; exact hD), hR.kp, hR.g, hR.x7, hR.x8, hR.x10, hR.xg, hR.xc⟩
          have e15 : W.cell? ⟨b15, 0, none⟩ = some (.slice va ll vc) := by rw [(cells_at hI.z15 0).1]; rfl
          have e16 : W.cell? ⟨b15 + 1, 0, none⟩ = some (.int .i64 (ll : Nat)) := by rw [(cells_at hI.z16 0).1, q8]; rfl
          have hOw2 := lown_any W B s' hR.g (p : Nat)
          have x10 : W.cell? ⟨b10, 0, none⟩ = some (.pointer (some ⟨B, 0, none⟩)) := by rw [(cells_at hR.x10 0).1]; rfl
          clear hR hI hD q1 q2 q3 q4 q5 q6 q7 q8 hm1 K0 hseq
          generalize va = va0 at *
          generalize vc = vc0 at *
          generalize ll = l0 at *
          go_wp2_with fail
          rw [rounds_succ]
          clear e15 e16
          go_wp2_with fail
          go_at_call 22
          refine hOw2.mono ?_
          rintro e w5 ⟨v, rfl, ho, k5, hn5⟩
          clear hOw2 x10
          obtain ⟨va, vc, rfl⟩ : ∃ va vc, v = .slice va (lns (s'.to (p : Nat))).length vc := by
            rcases ho.at with ⟨h1, h2⟩ | ⟨g, cp, h1, _⟩
            · exact ⟨none, 0, by rw [h1, h2]; rfl⟩
            · exact ⟨_, _, h1⟩
          generalize hll : (lns (s'.to (p : Nat))).length = ll at *
          go_upto_region 18 with fail
          obtain ⟨f, hf⟩ : ∃ f, f = s'.to (p : Nat) := ⟨_, rfl⟩
          rw [← hf] at ho hll
          obtain ⟨w6, hw6⟩ : ∃ w6, w6 = (w5.alloc (.cells #[.slice va ll vc] 22)).alloc (.cells #[.int .i64 0] 3) := ⟨_, rfl⟩
          obtain ⟨b15, hb15⟩ : ∃ b, b = w5.heap.size := ⟨_, rfl⟩
          rw [← hw6, ← hb15]
          have k6 : Kp w5 w6 := by rw [hw6]; exact ((Chg.refl w5 _).alloc _).alloc _
          have s6 : w6.heap.size = b15 + 2 := by rw [hw6, hb15]; simp
          have y15 : w6.heap[b15]? = some (.cells #[.slice va ll vc] 22 (0, 0)) := by rw [hw6, hb15]; exact al_old _ (heap_alloc_new w5 _)
          have y16 : w6.heap[b15 + 1]? = some (.cells #[.int .i64 0] 3 (0, 0)) := by
            have := heap_alloc_new (w5.alloc (.cells #[.slice va ll vc] 22)) (.cells #[.int .i64 0] 3)
            rw [hw6, hb15]; simpa using this
          have h5 := HS2.out.kpt k5
          have h6 := h5.kpt k6
          have hV : ∀ g, (Value.slice va ll vc).ownBlock = some g → g < b15 ∧ W.heap.size ≤ g := fun g hg => ⟨by
            rcases ho.2 with ⟨e, _⟩ | ⟨g', cp, cur, e, _, hgg, _⟩
            · rw [e] at hg; cases hg
            · rw [e] at hg; cases hg; rw [hb15]; exact hp_lt hgg, hn5 g hg⟩
          have hseq := lines_seq w6 1 B bg (bg + 1) s' h6.g (p : Nat) (by rw [(cells_at h6.xg 0).1]; rfl) (by rw [(cells_at h6.xc 0).1]; rfl)
          rw [← hf] at hseq
          have hBz := HS2.out.g.lt
          have K0 : Hid (RgI w w5 b7 a3 len3 cap3 b10 B bg (bg + 1) (p : Nat) [m1] s' ∧ RnI w w5 w6 b7 a3 len3 cap3 b10 B bg p [m1] b15 (.slice va ll vc) (lns f) 0 ∧ b15 = w5.heap.size ∧ w6.heap.size = b15 + 2 ∧ (∀ g, (Value.slice va ll vc).ownBlock = some g → g < b15 ∧ W.heap.size ≤ g) ∧ B < W.heap.size ∧ B < b15 ∧ (lns f).length = ll) := ⟨h5, ⟨⟨s', h6⟩, y15, y16, Chg.owns k6 ho (fun _ _ h => h)⟩, hb15, s6, hV, hBz, by rw [hb15]; exact h5.g.lt, hll⟩
          clear h5 h6 hV hBz y15 y16 k6 s6 hw6 ho hn5 k5 hb15 hf hll HS2
          go_wp2_with fail
          refine (wpIn_wide (n := 4)).1 ?_
          refine range_own (gf := 38) rfl (enters_of Try.func38 (by kernel_rfl) rfl) hseq (fun _ _ => rfl)
            (fun _ k W => RnI w w5 W b7 a3 len3 cap3 b10 B bg p [m1] b15 (.slice va ll vc) (lns f) k) (fun _ _ => False) ?_ (fun _ _ _ h _ => h) ?_ ?_ ?_
            (fun _ k a' W => a' = { tmps := #[Value.slice a len cap, Value.int IntKind.i64 which, Value.slice a2 len2 cap2, Value.slice a3 len3 cap3, undef, undef, undef, Value.pointer (some { block := b7, off := 0 }), Value.pointer (some { block := b7 + 1, off := 0 }), Value.bool true, Value.pointer (some { block := b10, off := 0 }), Value.int IntKind.i64 ↑p, Value.func (Fn.func 38) #[] #[Value.pointer (some { block := bg, off := 0 }), Value.pointer (some { block := bg + 1, off := 0 })], u13, Value.int IntKind.i64 1, Value.pointer (some { block := b15, off := 0 }), Value.pointer (some { block := b15 + 1, off := 0 }), Value.int IntKind.i64 ↑(lnA f k), Value.bool true, Value.slice a len cap, Value.pointer (some { block := B, off := 0 }), Value.bool true, Value.bool false, Value.bool false, Value.pointer (some { block := B, off := 0 }), Value.bool false, Value.bool false, Value.int IntKind.i64 which, Value.int IntKind.i64 ↑p, Value.pointer (some { block := B, off := 0 }), Value.int IntKind.i64 ↑p, Value.func (Fn.func 38) #[] #[Value.pointer (some { block := bg, off := 0 }), Value.pointer (some { block := bg + 1, off := 0 })], Value.func (Fn.func 38) #[] #[Value.pointer (some { block := bg, off := 0 }), Value.pointer (some { block := bg + 1, off := 0 })], Value.bool false, u34, u35, u36, u37, u38, u39, u40, u41, u42, u43, u44, u45, u46, u47, u48, u49, u50, u51, u52, u53, u54, u55, u56, u57, Value.int IntKind.i64 1, Value.bool true, Value.int IntKind.i64 0, Value.int IntKind.i64 1, Value.pointer (some { block := B, off := 0 }), Value.int IntKind.i64 ↑p, Value.slice va ll vc, Value.func (Fn.func 38) #[] #[Value.pointer (some { block := bg, off := 0 }), Value.pointer (some { block := bg + 1, off := 0 })], Value.int IntKind.i64 ↑(lnA f k), undef, undef, undef, undef, undef, undef, undef, undef, undef, undef, undef, undef, undef, undef, undef, undef, undef, undef, undef, undef, undef, undef, undef, undef, undef, undef, undef, undef, undef, undef, undef, undef, undef, undef, undef, undef, undef, undef, Value.int IntKind.i64 ↑l0, Value.slice va0 l0 vc0, Value.int IntKind.i64 ↑l0, Value.bool false], defers := [] }) (fun _ _ _ _ _ h _ => h) ?assign ?body ?done (fun _ _ h => h.elim)
          · rintro _ k A C hA hC
            obtain ⟨q1, q2, q3, q4, q5, q6, q7, q8⟩ := K0.out
            exact RnI.keep q1 q3 (fun g hg => (q5 g hg).1) hA hC (fun i hi e => by rcases e with e | e <;> omega)
          · rintro b A C D hAC hK hb h1
            have hbl : b < A.heap.size := World.block_lt_of_cell? A _ h1
            exact hK hb ((hAC.cell hbl (by rintro (e | e) <;> omega)).trans h1)
          · rintro b A C D hK hCD hb h
            have h1 := hK hb h
            have hbl : b < C.heap.size := World.block_lt_of_cell? C _ h1
            exact (hCD.cell hbl (by rintro (e | e) <;> omega)).trans h1
          · intro b W W1 hW hs hG
            obtain ⟨q1, q2, q3, q4, q5, q6, q7, q8⟩ := K0.out
            exact ⟨RnI.keep q1 q3 (fun g hg => (q5 g hg).1) q2 (Kp.trans hW hG.1) (fun i hi e => e), hG.1⟩
          case assign =>
            rintro b k W K' hk hI hs hK'
            unfold lArgs
            clear hI hk hs
            gi_wp2
            exact hK' _ _ (Chg.refl _ _) rfl
          case body =>
            rintro b k a' W hk hI rfl hs
            obtain ⟨q1, q2, q3, q4, q5, q6, q7, q8⟩ := K0.out
            obtain ⟨s', hR⟩ := hI.rg
            obtain ⟨g, cp, eV, _, hgc⟩ := hI.ow.at.resolve_left (by rintro ⟨_, e⟩; rw [e] at hk; simp at hk)
            have eva : va = some ⟨g, 0, none⟩ := by cases eV; rfl
            have cl := hgc k hk
            have elk : (lns f)[k] = lnA f k := by unfold lnA; rw [List.getD_eq_getElem?_getD, List.getElem?_eq_getElem hk]; rfl
            rw [elk] at cl
            have e15 : W.cell? ⟨b15, 0, none⟩ = some (.slice va ll vc) := by rw [(cells_at hI.z15 0).1]; rfl
            have e16 : W.cell? ⟨b15 + 1, 0, none⟩ = some (.int .i64 (k : Nat)) := by rw [(cells_at hI.z16 0).1]; rfl
            have f16 : W.frozen? ⟨b15 + 1, 0, none⟩ = false := (cells_at hI.z16 0).2
            have e7 : W.cell? ⟨b7, 0, none⟩ = some (.slice a3 len3 cap3) := by rw [(cells_at hR.x7 0).1]; rfl
            have e10 : W.cell? ⟨b10, 0, none⟩ = some (.pointer (some ⟨B, 0, none⟩)) := by rw [(cells_at hR.x10 0).1]; rfl
            have hkl : (k : Int) < (ll : Int) := by omega
            have hkn : ¬ ((ll : Int) ≤ (k : Int)) := by omega
            have hk32 : (k : Int) < 32 := by have : (lns f).length ≤ 32 := (by unfold lns; have := List.length_filter_le f (List.range 32); simpa using this); omega
            have ek : ((k + 1 : Nat) : Int) = (k : Int) + 1 := by omega
            have hgB := (q5 g (by rw [eva]; rfl))
            have HFin : ∀ W1 s1, RgI w W1 b7 a3 len3 cap3 b10 B bg (bg + 1) (p : Nat) [m1] s1 → Chg W W1 (fun i => i = B) → Hid ((∀ i, Two w6.heap.size i → (W1.setCell ⟨b15 + 1, 0, none⟩ (.int .i64 ((k : Int) + 1))).heap[i]? = W.heap[i]?) ∧ RnI w w5 (W1.setCell ⟨b15 + 1, 0, none⟩ (.int .i64 ((k : Int) + 1))) b7 a3 len3 cap3 b10 B bg p [m1] b15 (.slice va ll vc) (lns f) (k + 1) ∧ lKp 2 w6 f b W (W1.setCell ⟨b15 + 1, 0, none⟩ (.int .i64 ((k : Int) + 1)))) := by
              intro W1 s1 h1 c1
              have c2 : Chg W1 (W1.setCell ⟨b15 + 1, 0, none⟩ (.int .i64 ((k : Int) + 1))) (fun i => i = b15 + 1) := Chg.setCell (S := fun i => i = b15 + 1) (Chg.refl _ _) (.inl rfl) _
              have z16' := c1.heap hI.z16 (by omega)
              have c3 : Chg W (W1.setCell ⟨b15 + 1, 0, none⟩ (.int .i64 ((k : Int) + 1))) (fun i => i = B ∨ i = b15 + 1) := (c1.mono (fun _ _ e => .inl e)).trans c2 (fun _ _ e => .inr e)
              refine ⟨fun i hi => c3.block i (by rcases hi with e | e <;> omega) (by rintro (e | e) <;> rcases hi with e' | e' <;> omega), ⟨⟨s1, q1.keep h1 c2 (fun i hi e => by omega)⟩, c3.heap hI.z15 (by rintro (e | e) <;> omega), ?_, Chg.owns c3 hI.ow (fun g' hg' e => ?_)⟩, fun hb h1 => ?_⟩
              · rw [ek]; exact heap_setCell_same W1 (b15 + 1) 0 _ 3 _ z16'
              · have := q5 g' hg'
                rcases e with e | e <;> omega
              · have hbl : b < W.heap.size := World.block_lt_of_cell? W _ h1
                exact (c3.cell hbl (by rintro (e | e) <;> omega)).trans h1
            have HFI : Hid (∀ W1 s1, RgI w W1 b7 a3 len3 cap3 b10 B bg (bg + 1) (p : Nat) [m1] s1 → Chg W W1 (fun i => i = B) → Hid ((∀ i, Two w6.heap.size i → (W1.setCell ⟨b15 + 1, 0, none⟩ (.int .i64 ((k : Int) + 1))).heap[i]? = W.heap[i]?) ∧ RnI w w5 (W1.setCell ⟨b15 + 1, 0, none⟩ (.int .i64 ((k : Int) + 1))) b7 a3 len3 cap3 b10 B bg p [m1] b15 (.slice va ll vc) (lns f) (k + 1) ∧ lKp 2 w6 f b W (W1.setCell ⟨b15 + 1, 0, none⟩ (.int .i64 ((k : Int) + 1))))) := HFin
            clear HFin elk hgc
            subst eva
            by_cases hk3 : k < len3
            · have hkz : (k : Int) < (len3 : Int) := by omega
              have hi3 := H.out.2.2.2.kp hR.kp
              rcases hi3.2.2 with h0 | ⟨b3, o3, rfl, hc3⟩
              · omega
              · have hrg := hc3 k hk3
                have hok := hi3.2.1 k
                have hb3 : b3 < w.heap.size := by
                  rcases H.out.2.2.2.2.2 with h0 | ⟨b', o', e', hc'⟩
                  · omega
                  · cases e'; exact World.block_lt_of_cell? w _ (hc' k hk3 1 _ rfl)
                have xl : W.cell? ⟨b3, o3 + k * 38 + 1, none⟩ = some (.int .i64 (F3 k).line) := hrg 1 _ rfl
                have xc : W.cell? ⟨b3, o3 + k * 38 + 2, none⟩ = some (.int .i64 (F3 k).cell) := hrg 2 _ rfl
                have kd : Kp W W.drew := (Chg.refl W _).drew
                have e10d := Kp.cell kd e10
                have e7d := Kp.cell kd e7
                have e16d := Kp.cell kd e16
                have xld := Kp.cell kd xl
                have xcd := Kp.cell kd xc
                have hP1 : Calls Try.prog 11 #[.int .i64 (F3 k).line, .int .i64 32] W.drew fun e w' => e = .returned (.int .i64 (pk (F3 k).line 32 : Nat)) ∧ w' = W.drew := pick_any W.drew (F3 k).line 32 (by omega) (by omega) hok.line
                have hP2 : Calls Try.prog 11 #[.int .i64 (F3 k).cell, .int .i64 9] W.drew fun e w' => e = .returned (.int .i64 (pk (F3 k).cell 9 : Nat)) ∧ w' = W.drew := pick_any W.drew (F3 k).cell 9 (by omega) (by omega) hok.cell
                have hl32 := pk_lt (F3 k).line 32 (by omega)
                have hc9 := pk_lt (F3 k).cell 9 (by omega)
                have hRo := route_ok W.drew B s' (hR.g.kp kd) (pk (F3 k).line 32) hl32 (pk (F3 k).cell 9) (by omega)
                have HR : Hid (RgI w W b7 (some ⟨b3, o3, none⟩) len3 cap3 b10 B bg (bg + 1) (p : Nat) [m1] s' ∧ (F3 k).ok ∧ b3 < w.heap.size ∧ W.heap[b15 + 1]? = some (.cells #[.int .i64 (k : Nat)] 3 (0, 0)) ∧ B < b15 ∧ W.rangeAt b3 (o3 + k * 38) (ocs (F3 k))) := ⟨hR, hok, hb3, hI.z16, q7, hrg⟩
                generalize pk (F3 k).line 32 = l1 at *
                generalize pk (F3 k).cell 9 = c1 at *
                generalize (F3 k).line = fl at *
                generalize (F3 k).cell = fc at *
                have hmix : Try.prog.follows .mixedOrders = true := by kernel_rfl
                clear hi3 hc3 hR hI hrg hok hb3 q1 q2 q3 q4 q5 q6 q7 q8 hs hk kd eV ek hgB hl32 hc9 hseq
                generalize lnA f k = ln at *
                have HSW2 : Hid (∀ w8, ∀ {s8}, RgI w w8 b7 (some ⟨b3, o3, none⟩) len3 cap3 b10 B bg (bg + 1) (p : Nat) [m1] s8 → Chg W w8 (fun k => k = B) → Sw9 b10 B b7 b3 o3 len3 cap3 b15 k (F3 k) w8) := fun w8 s8 h8 c8 => by
                  have nb : ¬ b3 = B := by have := HB.out; have := HR.out.2.2.1; omega
                  refine ⟨by rw [(cells_at h8.x10 0).1]; rfl, by rw [(cells_at h8.x7 0).1]; rfl, ?_, fun q v hv => (c8.cell (World.block_lt_of_cell? W _ (HR.out.2.2.2.2.2 q v hv)) nb).trans (HR.out.2.2.2.2.2 q v hv)⟩
                  have := c8.heap HR.out.2.2.2.1 (by have := HR.out.2.2.2.2.1; omega)
                  rw [(cells_at this 0).1]; rfl
                have HSW : Hid (∀ w8, ∀ {s8}, RgI w w8 b7 (some ⟨b3, o3, none⟩) len3 cap3 b10 B bg (bg + 1) (p : Nat) [m1] s8 → Chg W w8 (fun k => k = B) → Sw9 b10 B b7 b3 o3 len3 cap3 b15 k (F3 k) w8.drew) := fun w8 s8 h8 c8 => HSW2.out w8.drew (h8.kpt ((Chg.refl w8 _).drew)) c8.drew
                have HFZ : Hid (∀ w8, Chg W w8 (fun k => k = B) → w8.frozen? ⟨b15 + 1, 0, none⟩ = false) := fun w8 c8 => (cells_at (c8.heap HR.out.2.2.2.1 (by have := HR.out.2.2.2.2.1; omega)) 0).2
                have HRD : Hid (∀ w8 w9 s9, ∀ {s8}, RgI w w8 b7 (some ⟨b3, o3, none⟩) len3 cap3 b10 B bg (bg + 1) (p : Nat) [m1] s8 → Chg W w8 (fun k => k = B) → IsG w9 B s9 → Chg w8.drew w9 (fun k => k = B) → RgI w w9 b7 (some ⟨b3, o3, none⟩) len3 cap3 b10 B bg (bg + 1) (p : Nat) [m1] s9 ∧ Chg W w9 (fun k => k = B)) := fun w8 w9 s9 s8 h8 c8 g9 c9 => by
                  have cc : Chg w8 w9 (fun k => k = B) := ((Chg.refl w8 (fun k => k = B)).drew).trans c9 (fun _ _ e => e)
                  exact ⟨h8.gchg HB.out g9 cc, c8.trans cc (fun _ _ e => e)⟩
                have HRT : Hid (∀ w8, IsG w8 B (s'.route l1 c1) → Chg W.drew w8 (fun k => k = B) → RgI w w8 b7 (some ⟨b3, o3, none⟩) len3 cap3 b10 B bg (bg + 1) (p : Nat) [m1] (s'.route l1 c1) ∧ Chg W w8 (fun k => k = B)) := fun w8 g8 c8 => by
                  have cc : Chg W w8 (fun k => k = B) := ((Chg.refl W (fun k => k = B)).drew).trans c8 (fun _ _ e => e)
                  exact ⟨HR.out.1.gchg HB.out g8 cc, cc⟩
                have HST : Hid (∀ w8, ∀ {s8}, RgI w w8 b7 (some ⟨b3, o3, none⟩) len3 cap3 b10 B bg (bg + 1) (p : Nat) [m1] s8 → Chg W w8 (fun k => k = B) → Sv9 b10 B b7 b3 o3 len3 cap3 b15 k fl fc w8) := fun w8 s8 h8 c8 => by
                  have nb : ¬ b3 = B := by have := HB.out; have := HR.out.2.2.1; omega
                  refine ⟨by rw [(cells_at h8.x10 0).1]; rfl, by rw [(cells_at h8.x7 0).1]; rfl, ?_, (c8.cell (World.block_lt_of_cell? W _ xl) nb).trans xl, (c8.cell (World.block_lt_of_cell? W _ xc) nb).trans xc⟩
                  have := c8.heap HR.out.2.2.2.1 (by have := HR.out.2.2.2.2.1; omega)
                  rw [(cells_at this 0).1]; rfl
                have hS1 : Sv9 b10 B b7 b3 o3 len3 cap3 b15 k fl fc W.drew := ⟨e10d, e7d, e16d, xld, xcd⟩
                clear e10d e7d e16d xld xcd
                gi_wp2_with fail
                refine wpIn_ok ?_
                refine region_round _ _ (Sv9 b10 B b7 b3 o3 len3 cap3 b15 k fl fc) hmix okEnd_out (by kernel_rfl) ?_
                refine wpAnyH_take (i := 0) (oi := { dst := some 83, op := Go.Op.load 24 (Go.Operand.tmp 10), type := 24, pos := "keeps.go:234", after := #[], guard := none }) (v := .pointer (some ⟨B, 0, none⟩)) rfl (by kernel_rfl) (by kernel_rfl) (by kernel_rfl) (fun _ _ _ h => h) (Or.inl ⟨by rfl, ?_⟩) hS1 ?_
                · rintro wx ⟨d0, d1, d2, d3, d4⟩
                  go_simp
                simp only [Act.put, List.setIfInBounds_toArray, List.set_cons_zero, List.set_cons_succ]
                refine wpAnyH_take (i := 1) (oi := { dst := some 84, op := Go.Op.load 35 (Go.Operand.tmp 7), type := 35, pos := "keeps.go:234", after := #[], guard := none }) (v := .slice (some ⟨b3, o3, none⟩) len3 cap3) rfl (by kernel_rfl) (by kernel_rfl) (by kernel_rfl) (fun _ _ _ h => h) (Or.inl ⟨by rfl, ?_⟩) hS1 ?_
                · rintro wx ⟨d0, d1, d2, d3, d4⟩
                  go_simp
                simp only [Act.put, List.setIfInBounds_toArray, List.set_cons_zero, List.set_cons_succ]
                refine wpAnyH_take (i := 2) (oi := { dst := some 85, op := Go.Op.load 3 (Go.Operand.tmp 16), type := 3, pos := "keeps.go:234", after := #[], guard := none }) (v := .int .i64 ((k : Nat) : Int)) rfl (by kernel_rfl) (by kernel_rfl) (by kernel_rfl) (fun _ _ _ h => h) (Or.inl ⟨by rfl, ?_⟩) hS1 ?_
                · rintro wx ⟨d0, d1, d2, d3, d4⟩
                  go_simp
                simp only [Act.put, List.setIfInBounds_toArray, List.set_cons_zero, List.set_cons_succ]
                refine wpAnyH_take (i := 3) (oi := { dst := some 86, op := Go.Op.indexAddr 35 (Go.Operand.tmp 84) (Go.Operand.tmp 85), type := 0, pos := "keeps.go:234", after := #[{ on := 1, ground := Go.Ground.data }, { on := 2, ground := Go.Ground.data }], guard := none }) (v := .pointer (some ⟨b3, o3 + k * 38, none⟩)) rfl (by kernel_rfl) (by kernel_rfl) (by kernel_rfl) (fun _ _ _ h => h) (Or.inl ⟨by rfl, ?_⟩) hS1 ?_
                · rintro wx ⟨d0, d1, d2, d3, d4⟩
                  go_simp
                simp only [Act.put, List.setIfInBounds_toArray, List.set_cons_zero, List.set_cons_succ]
                refine wpAnyH_take (i := 4) (oi := { dst := some 87, op := Go.Op.fieldAddr 40 (Go.Operand.tmp 86) 1, type := 0, pos := "keeps.go:234", after := #[{ on := 3, ground := Go.Ground.data }], guard := none }) (v := .pointer (some ⟨b3, o3 + k * 38 + 1, none⟩)) rfl (by kernel_rfl) (by kernel_rfl) (by kernel_rfl) (fun _ _ _ h => h) (Or.inl ⟨by rfl, ?_⟩) hS1 ?_
                · rintro wx ⟨d0, d1, d2, d3, d4⟩
                  go_simp
                simp only [Act.put, List.setIfInBounds_toArray, List.set_cons_zero, List.set_cons_succ]
                refine wpAnyH_take (i := 5) (oi := { dst := some 88, op := Go.Op.load 3 (Go.Operand.tmp 87), type := 3, pos := "keeps.go:234", after := #[{ on := 4, ground := Go.Ground.data }], guard := none }) (v := .int .i64 fl) rfl (by kernel_rfl) (by kernel_rfl) (by kernel_rfl) (fun _ _ _ h => h) (Or.inl ⟨by rfl, ?_⟩) hS1 ?_
                · rintro wx ⟨d0, d1, d2, d3, d4⟩
                  go_simp
                simp only [Act.put, List.setIfInBounds_toArray, List.set_cons_zero, List.set_cons_succ]
                refine wpAnyH_take (i := 7) (oi := { dst := some 90, op := Go.Op.load 35 (Go.Operand.tmp 7), type := 35, pos := "keeps.go:234", after := #[], guard := none }) (v := .slice (some ⟨b3, o3, none⟩) len3 cap3) rfl (by kernel_rfl) (by kernel_rfl) (by kernel_rfl) (fun _ _ _ h => h) (Or.inl ⟨by rfl, ?_⟩) hS1 ?_
                · rintro wx ⟨d0, d1, d2, d3, d4⟩
                  go_simp
                simp only [Act.put, List.setIfInBounds_toArray, List.set_cons_zero, List.set_cons_succ]
                refine wpAnyH_take (i := 8) (oi := { dst := some 91, op := Go.Op.load 3 (Go.Operand.tmp 16), type := 3, pos := "keeps.go:234", after := #[], guard := none }) (v := .int .i64 ((k : Nat) : Int)) rfl (by kernel_rfl) (by kernel_rfl) (by kernel_rfl) (fun _ _ _ h => h) (Or.inl ⟨by rfl, ?_⟩) hS1 ?_
                · rintro wx ⟨d0, d1, d2, d3, d4⟩
                  go_simp
                simp only [Act.put, List.setIfInBounds_toArray, List.set_cons_zero, List.set_cons_succ]
                refine wpAnyH_take (i := 9) (oi := { dst := some 92, op := Go.Op.indexAddr 35 (Go.Operand.tmp 90) (Go.Operand.tmp 91), type := 0, pos := "keeps.go:234", after := #[{ on := 7, ground := Go.Ground.data }, { on := 8, ground := Go.Ground.data }], guard := none }) (v := .pointer (some ⟨b3, o3 + k * 38, none⟩)) rfl (by kernel_rfl) (by kernel_rfl) (by kernel_rfl) (fun _ _ _ h => h) (Or.inl ⟨by rfl, ?_⟩) hS1 ?_
                · rintro wx ⟨d0, d1, d2, d3, d4⟩
                  go_simp
                simp only [Act.put, List.setIfInBounds_toArray, List.set_cons_zero, List.set_cons_succ]
                refine wpAnyH_take (i := 10) (oi := { dst := some 93, op := Go.Op.fieldAddr 40 (Go.Operand.tmp 92) 2, type := 0, pos := "keeps.go:234", after := #[{ on := 9, ground := Go.Ground.data }], guard := none }) (v := .pointer (some ⟨b3, o3 + k * 38 + 2, none⟩)) rfl (by kernel_rfl) (by kernel_rfl) (by kernel_rfl) (fun _ _ _ h => h) (Or.inl ⟨by rfl, ?_⟩) hS1 ?_
                · rintro wx ⟨d0, d1, d2, d3, d4⟩
                  go_simp
                simp only [Act.put, List.setIfInBounds_toArray, List.set_cons_zero, List.set_cons_succ]
                refine wpAnyH_take (i := 11) (oi := { dst := some 94, op := Go.Op.load 3 (Go.Operand.tmp 93), type := 3, pos := "keeps.go:234", after := #[{ on := 10, ground := Go.Ground.data }], guard := none }) (v := .int .i64 fc) rfl (by kernel_rfl) (by kernel_rfl) (by kernel_rfl) (fun _ _ _ h => h) (Or.inl ⟨by rfl, ?_⟩) hS1 ?_
                · rintro wx ⟨d0, d1, d2, d3, d4⟩
                  go_simp
                simp only [Act.put, List.setIfInBounds_toArray, List.set_cons_zero, List.set_cons_succ]
                refine wpAnyH_ready (rs := [6]) (by kernel_rfl) (by simp) ?_
                refine AllReadyH.cons (o := { dst := some 89, op := Go.Op.call { callee := Go.Callee.value (Go.Operand.func 11), args := #[Go.Operand.tmp 88, Go.Operand.const (Go.Value.int Go.IntKind.i64 32)], argTypes := #[3, 3] }, type := 3, pos := "keeps.go:234", after := #[{ on := 5, ground := Go.Ground.data }], guard := none }) rfl (fun K hK => ?_) AllReadyH.nil
                rw [if_pos (by rfl)]
                go_simp
                refine hP1.mono ?_
                rintro e wy ⟨rfl, hwy⟩
                rw [hwy]
                clear hwy
                refine hK.out _ _ hS1 (fun hS2 => ?_)
                clear hK K hP1
                refine wpAnyH_ready (rs := [12]) (by kernel_rfl) (by simp) ?_
                refine AllReadyH.cons (o := { dst := some 95, op := Go.Op.call { callee := Go.Callee.value (Go.Operand.func 11), args := #[Go.Operand.tmp 94, Go.Operand.const (Go.Value.int Go.IntKind.i64 9)], argTypes := #[3, 3] }, type := 3, pos := "keeps.go:234", after := #[{ on := 11, ground := Go.Ground.data }, { on := 6, ground := Go.Ground.chain }], guard := none }) rfl (fun K hK => ?_) AllReadyH.nil
                rw [if_pos (by rfl)]
                go_simp
                refine hP2.mono ?_
                rintro e wy ⟨rfl, hwy⟩
                rw [hwy]
                clear hwy
                refine hK.out _ _ hS1 (fun hS3 => ?_)
                clear hK K hP2
                refine wpAnyH_ready (rs := [13]) (by kernel_rfl) (by simp) ?_
                refine AllReadyH.cons (o := { dst := some 96, op := Go.Op.call { callee := Go.Callee.value (Go.Operand.func 21), args := #[Go.Operand.tmp 83, Go.Operand.tmp 89, Go.Operand.tmp 95], argTypes := #[24, 3, 3] }, type := 27, pos := "keeps.go:234", after := #[{ on := 0, ground := Go.Ground.data }, { on := 6, ground := Go.Ground.data }, { on := 12, ground := Go.Ground.data }, { on := 12, ground := Go.Ground.chain }], guard := none }) rfl (fun K hK => ?_) AllReadyH.nil
                rw [if_pos (by rfl)]
                go_simp
                refine hRo.mono ?_
                rintro e w8 ⟨rfl, g8, c8⟩
                have HG8 : Hid (RgI w w8 b7 (some ⟨b3, o3, none⟩) len3 cap3 b10 B bg (bg + 1) (p : Nat) [m1] (s'.route l1 c1) ∧ Chg W w8 (fun k => k = B)) := HRT.out w8 g8 c8
                clear g8 c8 hRo
                have hS4 : Sv9 b10 B b7 b3 o3 len3 cap3 b15 k fl fc w8 := HST.out w8 HG8.out.1 HG8.out.2
                refine hK.out _ _ hS4 (fun hS5 => ?_)
                clear hK K hS1 hS2 hS3 hS5
                refine wpAnyH_done (by kernel_rfl) ?_ _
                unfold okEnd
                clear hS4
                have hS6 : Sw9 b10 B b7 b3 o3 len3 cap3 b15 k (F3 k) w8.drew := HSW.out w8 HG8.out.1 HG8.out.2
                have hDo := does_any w8.drew B (s'.route l1 c1) (HG8.out.1.g.kp ((Chg.refl w8 _).drew)) (F3 k) HR.out.2.1
                have hsz := size40 (F3 k)
                generalize (s'.route l1 c1).dsN (F3 k) = rn at *
                generalize (s'.route l1 c1).dsB (F3 k) = rb at *
                gi_wp2_with fail
                refine wpIn_ok ?_
                refine region_round _ _ (Sw9 b10 B b7 b3 o3 len3 cap3 b15 k (F3 k)) hmix okEnd_out (by kernel_rfl) ?_
                refine wpAnyH_take (i := 0) (oi := { dst := some 97, op := Go.Op.load 24 (Go.Operand.tmp 10), type := 24, pos := "keeps.go:235", after := #[], guard := none }) (v := .pointer (some ⟨B, 0, none⟩)) rfl (by kernel_rfl) (by kernel_rfl) (by kernel_rfl) (fun _ _ _ h => h) (Or.inl ⟨by rfl, ?_⟩) hS6 ?_
                · rintro wx ⟨d0, d1, d2, d3⟩
                  go_simp
                simp only [Act.put, List.setIfInBounds_toArray, List.set_cons_zero, List.set_cons_succ]
                refine wpAnyH_take (i := 1) (oi := { dst := some 98, op := Go.Op.load 35 (Go.Operand.tmp 7), type := 35, pos := "keeps.go:235", after := #[], guard := none }) (v := .slice (some ⟨b3, o3, none⟩) len3 cap3) rfl (by kernel_rfl) (by kernel_rfl) (by kernel_rfl) (fun _ _ _ h => h) (Or.inl ⟨by rfl, ?_⟩) hS6 ?_
                · rintro wx ⟨d0, d1, d2, d3⟩
                  go_simp
                simp only [Act.put, List.setIfInBounds_toArray, List.set_cons_zero, List.set_cons_succ]
                refine wpAnyH_take (i := 2) (oi := { dst := some 99, op := Go.Op.load 3 (Go.Operand.tmp 16), type := 3, pos := "keeps.go:235", after := #[], guard := none }) (v := .int .i64 ((k : Nat) : Int)) rfl (by kernel_rfl) (by kernel_rfl) (by kernel_rfl) (fun _ _ _ h => h) (Or.inl ⟨by rfl, ?_⟩) hS6 ?_
                · rintro wx ⟨d0, d1, d2, d3⟩
                  go_simp
                simp only [Act.put, List.setIfInBounds_toArray, List.set_cons_zero, List.set_cons_succ]
                refine wpAnyH_take (i := 3) (oi := { dst := some 100, op := Go.Op.indexAddr 35 (Go.Operand.tmp 98) (Go.Operand.tmp 99), type := 0, pos := "keeps.go:235", after := #[{ on := 1, ground := Go.Ground.data }, { on := 2, ground := Go.Ground.data }], guard := none }) (v := .pointer (some ⟨b3, o3 + k * 38, none⟩)) rfl (by kernel_rfl) (by kernel_rfl) (by kernel_rfl) (fun _ _ _ h => h) (Or.inl ⟨by rfl, ?_⟩) hS6 ?_
                · rintro wx ⟨d0, d1, d2, d3⟩
                  go_simp
                simp only [Act.put, List.setIfInBounds_toArray, List.set_cons_zero, List.set_cons_succ]
                refine wpAnyH_take (i := 4) (oi := { dst := some 101, op := Go.Op.load 40 (Go.Operand.tmp 100), type := 40, pos := "keeps.go:235", after := #[{ on := 3, ground := Go.Ground.data }], guard := none }) (v := .agg (ocs (F3 k)).toArray) rfl (by kernel_rfl) (by kernel_rfl) (by kernel_rfl) (fun _ _ _ h => h) (yieldsIf_load_mid (by rfl) 40 _ rfl b3 (o3 + k * 38) rfl (ocs (F3 k)) _ (fun wx hx => hx.2.2.2) Try.underlying40 rfl hsz) hS6 ?_
                simp only [Act.put, List.setIfInBounds_toArray, List.set_cons_zero, List.set_cons_succ]
                refine wpAnyH_ready (rs := [5]) (by kernel_rfl) (by simp) ?_
                refine AllReadyH.cons (o := { dst := some 102, op := Go.Op.call { callee := Go.Callee.value (Go.Operand.func 16), args := #[Go.Operand.tmp 97, Go.Operand.tmp 101], argTypes := #[24, 40] }, type := 32, pos := "keeps.go:235", after := #[{ on := 0, ground := Go.Ground.data }, { on := 4, ground := Go.Ground.data }], guard := none }) rfl (fun K hK => ?_) AllReadyH.nil
                rw [if_pos (by rfl)]
                go_simp
                refine hDo.mono ?_
                rintro e w9 ⟨rfl, g9, c9⟩
                have HG9 : Hid (RgI w w9 b7 (some ⟨b3, o3, none⟩) len3 cap3 b10 B bg (bg + 1) (p : Nat) [m1] ((s'.route l1 c1).ds (F3 k)) ∧ Chg W w9 (fun k => k = B)) := HRD.out w8 w9 _ HG8.out.1 HG8.out.2 g9 c9
                clear g9 c9 hDo
                have hS7 : Sw9 b10 B b7 b3 o3 len3 cap3 b15 k (F3 k) w9 := HSW2.out w9 HG9.out.1 HG9.out.2
                refine hK.out _ _ hS7 (fun hS8 => ?_)
                clear hK K
                refine wpAnyH_done (by kernel_rfl) ?_ _
                unfold okEnd
                obtain ⟨y10, y7, y16, _⟩ := hS7
                have y16f : w9.frozen? ⟨b15 + 1, 0, none⟩ = false := HFZ.out w9 HG9.out.2
                have KX := HFI.out w9 _ HG9.out.1 HG9.out.2
                clear hS6 hS8 HG8 HG9 HFI HRT HST HRD HSW HSW2 HFZ HR
                gi_wp2
                exact KX.out
            · have hkz : ¬ (k : Int) < (len3 : Int) := by omega
              have KX := HFI.out W s' hR (Chg.refl _ _)
              clear hR hI q1 q2 q3 q4 q5 q6 q7 q8 hs hk HFI eV ek hgB hseq
              generalize lnA f k = ln at *
              gi_wp2
              exact KX.out
          case done =>
            rintro b W2 hI hD
            obtain ⟨q1, q2, q3, q4, q5, q6, q7, q8⟩ := K0.out
            obtain ⟨s2, hR⟩ := hI.rg
            obtain ⟨m2, hm2⟩ : ∃ m2, m2 = w6.heap.size := ⟨_, rfl⟩
            rw [← hm2] at hD ⊢
            have e15 : W2.cell? ⟨b15, 0, none⟩ = some (.slice va ll vc) := by rw [(cells_at hI.z15 0).1]; rfl
            have e16 : W2.cell? ⟨b15 + 1, 0, none⟩ = some (.int .i64 (ll : Nat)) := by rw [(cells_at hI.z16 0).1, q8]; rfl
            have e8 : W2.cell? ⟨b7 + 1, 0, none⟩ = some (.bool false) := by rw [(cells_at hR.x8 0).1]; rfl
            have f8 : W2.frozen? ⟨b7 + 1, 0, none⟩ = false := (cells_at hR.x8 0).2
            obtain ⟨W3, hW3⟩ : ∃ W3, W3 = W2.setCell ⟨b7 + 1, 0, none⟩ (.bool true) := ⟨_, rfl⟩
            have HE : Hid (Kp w W3 ∧ W3.heap[b7 + 1]? = some (.cells #[.bool true] 4 (0, 0)) ∧ W3.heap[m2]? = some (.deferred (some [])) ∧ W3.heap[m1]? = some (.deferred (some [])) ∧ m1 ≠ m2 ∧ b7 + 1 < m1 ∧ b7 + 1 < m2 ∧ w.heap.size ≤ b7) := by
              have hm1 := hR.mks m1 (by simp)
              have c3 : Chg W2 W3 (fun k => k = b7 + 1) := by rw [hW3]; exact Chg.setCell (S := fun k => k = b7 + 1) (Chg.refl _ _) (.inl rfl) _
              have x8 := hR.x8
              have n1 : b7 + 1 ≠ m1 := fun e => by rw [← e, x8] at hm1; cases hm1
              have n2 : b7 + 1 ≠ m2 := fun e => by rw [← e, x8] at hD; cases hD
              have l1 := hp_lt (q1.mks m1 (by simp))
              have l8 := hp_lt q1.x8
              refine ⟨Chg.trans hR.kp c3 (fun i hi e => by have := HB7.out; omega), ?_, c3.heap hD (fun e => n2 e.symm), c3.heap hm1 (fun e => n1 e.symm), by omega, ?_, by omega, by have := HB7.out; omega⟩
              · rw [hW3]; exact heap_setCell_same W2 (b7 + 1) 0 _ 4 _ x8
              · exact HM1.out
            clear hR hI hD q1 q2 q3 q4 q5 q6 q7 q8 hm2 K0 hseq
            go_wp2_with fail
            rw [rounds_succ]
            go_wp2
            rw [← hW3]
            obtain ⟨z1, z2, z3, z4, z5, z6, z7, z8⟩ := HE.out
            refine ⟨by simp, .inl ⟨_, _, rfl, run_takeDeferred z3, ?_⟩⟩
            have y4 : (W3.putObj m2 (.deferred none)).heap[m1]? = some (.deferred (some [])) := by rw [World.putObj_heap_other z5]; exact z4
            refine ⟨by simp, .inl ⟨_, _, rfl, run_takeDeferred y4, ?_⟩⟩
            have g8 : ((W3.putObj m2 (.deferred none)).putObj m1 (.deferred none)).heap[b7 + 1]? = some (.cells #[.bool true] 4 (0, 0)) := by rw [World.putObj_heap_other (by omega), World.putObj_heap_other (by omega)]; exact z2
            refine ⟨_, results_cellB rfl _ _ (b7 + 1) true rfl (by rw [(cells_at g8 0).1]; rfl), rfl, ?_⟩
            exact Chg.putObj (Chg.putObj z1 (.inr (by omega)) _) (.inr (by omega)) _
      by_cases hlt : j < len2
      · have h40 : ¬ (j : Int) < 40 := by omega
        have hjz : (j : Int) < (len2 : Int) := by omega
        clear HKk
        go_wp2_with fail

      · have hjz : ¬ (j : Int) < (len2 : Int) := by omega
        clear HKk
        go_wp2_with fail

end Go.Proofs.Ytkndlkcbhpfjoaa
