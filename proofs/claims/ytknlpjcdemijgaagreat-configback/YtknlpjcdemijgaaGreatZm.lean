import Derived.Test.YtknlpjcdemijgaaGreatZl
namespace Go.Proofs.YtknlpjcdemijgaaGreat
open Go.ChangeShapes Go.WideShapes Go.ChangeAt Go.RowKit
set_option linter.unusedVariables false
theorem RdL.all {α : Type} {w : World} {N sz : Nat} {P : World → Nat → Nat → α → Prop} {la : Option Addr} {xs : List α} {Q : α → Prop} (h : RdL w N sz P la xs) (hq : ∀ b o y, P w b o y → Q y) : ∀ x, x ∈ xs → Q x := by
  intro x hx
  obtain ⟨i, hi, rfl⟩ := List.getElem_of_mem hx
  rcases h.2 with e | ⟨b, o, _, _, hc⟩
  · omega
  · exact hq _ _ _ (hc i hi)
theorem IsCf.fit {w : World} {u : Value} {g : Cf} (h : IsCf w u g) : g.fit := by
  obtain ⟨hm, ca, cc, wa, wc, sa, sc, qa, qc, _, h1, h2, h3, h4⟩ := h
  refine ⟨hm, h1.all fun b o y p => ?_, h2.all fun b o y p => p.2⟩
  obtain ⟨he, _, ra, rc, la, lc, _, hr, _⟩ := p
  exact ⟨he, hr.all fun b o y p => p.2⟩
set_option maxRecDepth 100000 in
set_option maxHeartbeats 4000000 in
theorem back_walk (w : World) (u : Value) (g : Cf) (hI : IsCf w u g) :
    Calls Tryz.prog 5 #[u] w fun r w' => r = .returned (.bool true) ∧ Below w.heap.size w w' := by
  have hfit := hI.fit
  have hI0 := hI
  obtain ⟨_, xca, xcc, xwa, xwc, xsa, xsc, xqa, xqc, rfl, _, _, _, _⟩ := hI
  have HI : Hid (IsCf w (cfV g xca xwa xsa xqa xcc xwc xsc xqc) g) := hI0
  clear hI0
  unfold cfV
  obtain ⟨w0, hw0⟩ : ∃ w0, w0 = w.alloc (.cells #[.int .i64 g.m.pg, .int .u32 g.m.ob, .int .i64 g.m.op, .int .i64 g.m.st, .int .i64 g.m.wy, .int .i64 g.m.li, .int .i64 g.m.sl, .int .u64 g.m.mj, .slice xca g.cs.length xcc, .slice xwa g.ws.length xwc, .slice xsa g.ss.length xsc, .slice xqa g.qs.length xqc] 31) := ⟨_, rfl⟩
  have k0 : Kp w w0 := by rw [hw0]; exact Kp.al _ _
  have g0 : w0.heap[w.heap.size]? = some (.cells #[.int .i64 g.m.pg, .int .u32 g.m.ob, .int .i64 g.m.op, .int .i64 g.m.st, .int .i64 g.m.wy, .int .i64 g.m.li, .int .i64 g.m.sl, .int .u64 g.m.mj, .slice xca g.cs.length xcc, .slice xwa g.ws.length xwc, .slice xsa g.ss.length xsc, .slice xqa g.qs.length xqc] 31 (0, 0)) := by rw [hw0]; exact heap_alloc_new w _
  have HK : Hid (Kp w w0 ∧ w0.heap[w.heap.size]? = some (.cells #[.int .i64 g.m.pg, .int .u32 g.m.ob, .int .i64 g.m.op, .int .i64 g.m.st, .int .i64 g.m.wy, .int .i64 g.m.li, .int .i64 g.m.sl, .int .u64 g.m.mj, .slice xca g.cs.length xcc, .slice xwa g.ws.length xwc, .slice xsa g.ss.length xsc, .slice xqa g.qs.length xqc] 31 (0, 0))) := ⟨k0, g0⟩
  clear k0 g0
  go_enter Tryz.func5, Tryz.ntmps5
  go_wp2_with fail
  rw [← hw0]
  clear hw0
  go_at_call 9
  refine (known_any w0).mono ?_
  rintro r w1 ⟨rfl, k1⟩
  have kk1 : Kp w w1 := Kp.trans HK.out.1 k1
  have gg1 := k1.heap HK.out.2
  have A1 := encode_any w1 _ g (HI.out.keep (Keep.of kk1 (fun _ _ e => e)) kk1.size)
  unfold cfV at A1
  have s0 : w1.cell? ⟨w.heap.size, 0, none⟩ = some (.int .i64 g.m.pg) := by simp [World.cell?, gg1]
  have s1 : w1.cell? ⟨w.heap.size, 1, none⟩ = some (.int .u32 g.m.ob) := by simp [World.cell?, gg1]
  have s2 : w1.cell? ⟨w.heap.size, 2, none⟩ = some (.int .i64 g.m.op) := by simp [World.cell?, gg1]
  have s3 : w1.cell? ⟨w.heap.size, 3, none⟩ = some (.int .i64 g.m.st) := by simp [World.cell?, gg1]
  have s4 : w1.cell? ⟨w.heap.size, 4, none⟩ = some (.int .i64 g.m.wy) := by simp [World.cell?, gg1]
  have s5 : w1.cell? ⟨w.heap.size, 5, none⟩ = some (.int .i64 g.m.li) := by simp [World.cell?, gg1]
  have s6 : w1.cell? ⟨w.heap.size, 6, none⟩ = some (.int .i64 g.m.sl) := by simp [World.cell?, gg1]
  have s7 : w1.cell? ⟨w.heap.size, 7, none⟩ = some (.int .u64 g.m.mj) := by simp [World.cell?, gg1]
  have s8 : w1.cell? ⟨w.heap.size, 8, none⟩ = some (.slice xca g.cs.length xcc) := by simp [World.cell?, gg1]
  have s9 : w1.cell? ⟨w.heap.size, 9, none⟩ = some (.slice xwa g.ws.length xwc) := by simp [World.cell?, gg1]
  have s10 : w1.cell? ⟨w.heap.size, 10, none⟩ = some (.slice xsa g.ss.length xsc) := by simp [World.cell?, gg1]
  have s11 : w1.cell? ⟨w.heap.size, 11, none⟩ = some (.slice xqa g.qs.length xqc) := by simp [World.cell?, gg1]
  have H1 : Hid (Kp w w1 ∧ w1.heap[w.heap.size]? = some (.cells #[.int .i64 g.m.pg, .int .u32 g.m.ob, .int .i64 g.m.op, .int .i64 g.m.st, .int .i64 g.m.wy, .int .i64 g.m.li, .int .i64 g.m.sl, .int .u64 g.m.mj, .slice xca g.cs.length xcc, .slice xwa g.ws.length xwc, .slice xsa g.ss.length xsc, .slice xqa g.qs.length xqc] 31 (0, 0))) := ⟨kk1, gg1⟩
  clear k1 kk1 gg1 HK
  go_wp2_with fail
  go_at_call 10
  refine A1.mono ?_
  clear A1 s0 s1 s2 s3 s4 s5 s6 s7 s8 s9 s10 s11
  rintro r w2 ⟨k2, ⟨hok, v2, rfl, ho, _⟩ | ⟨hno, rfl⟩⟩
  · obtain ⟨b1, b2, b3⟩ := back_dec hfit hok
    have hbl : (encB g).length ≤ 140737488355328 := by
      obtain ⟨body, _, hn, hB, _⟩ := enc_form hfit hok
      rw [hB]; simp [le_len, magic]; omega
    obtain ⟨a2, c2, rfl, hle, _, hb2⟩ := ho.shape hbl
    have A1 := decode_any w2 a2 _ c2 (encB g) hb2 hle
    have H2 : Hid (Kp w w2 ∧ w2.heap[w.heap.size]? = some (.cells #[.int .i64 g.m.pg, .int .u32 g.m.ob, .int .i64 g.m.op, .int .i64 g.m.st, .int .i64 g.m.wy, .int .i64 g.m.li, .int .i64 g.m.sl, .int .u64 g.m.mj, .slice xca g.cs.length xcc, .slice xwa g.ws.length xwc, .slice xsa g.ss.length xsc, .slice xqa g.qs.length xqc] 31 (0, 0))) := ⟨Kp.trans H1.out.1 k2, k2.heap H1.out.2⟩
    clear k2 H1 ho hb2
    go_wp2_with fail
    go_at_call 11
    refine A1.mono ?_
    clear A1
    rintro r w3 ⟨k3, hr⟩
    rcases hr with ⟨e, p, he, rfl⟩ | ⟨he, he2, rfl⟩ | ⟨he, he2, u3, rfl, hcf⟩
    · rw [b1] at he; cases he
    · exact absurd b2 he2
    · rw [b3] at hcf
      obtain ⟨_, yca, ycc, ywa, ywc, ysa, ysc, yqa, yqc, rfl, y1, y2, y3, y4⟩ := hcf
      unfold cfV
      obtain ⟨w4, hw4⟩ : ∃ w4, w4 = w3.alloc (.cells #[.int .i64 g.m.pg, .int .u32 g.m.ob, .int .i64 g.m.op, .int .i64 g.m.st, .int .i64 g.m.wy, .int .i64 g.m.li, .int .i64 g.m.sl, .int .u64 g.m.mj, .slice yca g.cs.length ycc, .slice ywa g.ws.length ywc, .slice ysa g.ss.length ysc, .slice yqa g.qs.length yqc] 31) := ⟨_, rfl⟩
      have k4 : Kp w3 w4 := by rw [hw4]; exact Kp.al _ _
      have kw4 : Kp w w4 := Kp.trans H2.out.1 (Kp.trans k3 k4)
      have g4 := (Kp.trans k3 k4).heap H2.out.2
      have g5 : w4.heap[w3.heap.size]? = some (.cells #[.int .i64 g.m.pg, .int .u32 g.m.ob, .int .i64 g.m.op, .int .i64 g.m.st, .int .i64 g.m.wy, .int .i64 g.m.li, .int .i64 g.m.sl, .int .u64 g.m.mj, .slice yca g.cs.length ycc, .slice ywa g.ws.length ywc, .slice ysa g.ss.length ysc, .slice yqa g.qs.length yqc] 31 (0, 0)) := by rw [hw4]; exact heap_alloc_new w3 _
      obtain ⟨_, xca', xcc', xwa', xwc', xsa', xsc', xqa', xqc', hu, x1, x2, x3, x4⟩ := HI.out
      unfold cfV at hu
      simp only [Value.agg.injEq, Array.mk.injEq, List.cons.injEq, Value.slice.injEq, true_and, and_true] at hu
      obtain ⟨⟨rfl, rfl⟩, ⟨rfl, rfl⟩, ⟨rfl, rfl⟩, rfl, rfl⟩ := hu
      have A1 := equal_walk w4 _ _ g g xca xwa xsa xqa yca ywa ysa yqa xcc xwc xsc xqc ycc ywc ysc yqc (CeAts.kp x1 kw4) (WiAts.kp x2 kw4) (SaAts.kp x3 kw4) (QuAts.kp x4 kw4) (CeAts.kp y1 k4) (WiAts.kp y2 k4) (SaAts.kp y3 k4) (QuAts.kp y4 k4) true (by simp)
      have s0 : w4.cell? ⟨w.heap.size, 0, none⟩ = some (.int .i64 g.m.pg) := by simp [World.cell?, g4]
      have s1 : w4.cell? ⟨w.heap.size, 1, none⟩ = some (.int .u32 g.m.ob) := by simp [World.cell?, g4]
      have s2 : w4.cell? ⟨w.heap.size, 2, none⟩ = some (.int .i64 g.m.op) := by simp [World.cell?, g4]
      have s3 : w4.cell? ⟨w.heap.size, 3, none⟩ = some (.int .i64 g.m.st) := by simp [World.cell?, g4]
      have s4 : w4.cell? ⟨w.heap.size, 4, none⟩ = some (.int .i64 g.m.wy) := by simp [World.cell?, g4]
      have s5 : w4.cell? ⟨w.heap.size, 5, none⟩ = some (.int .i64 g.m.li) := by simp [World.cell?, g4]
      have s6 : w4.cell? ⟨w.heap.size, 6, none⟩ = some (.int .i64 g.m.sl) := by simp [World.cell?, g4]
      have s7 : w4.cell? ⟨w.heap.size, 7, none⟩ = some (.int .u64 g.m.mj) := by simp [World.cell?, g4]
      have s8 : w4.cell? ⟨w.heap.size, 8, none⟩ = some (.slice xca g.cs.length xcc) := by simp [World.cell?, g4]
      have s9 : w4.cell? ⟨w.heap.size, 9, none⟩ = some (.slice xwa g.ws.length xwc) := by simp [World.cell?, g4]
      have s10 : w4.cell? ⟨w.heap.size, 10, none⟩ = some (.slice xsa g.ss.length xsc) := by simp [World.cell?, g4]
      have s11 : w4.cell? ⟨w.heap.size, 11, none⟩ = some (.slice xqa g.qs.length xqc) := by simp [World.cell?, g4]
      have t0 : w4.cell? ⟨w3.heap.size, 0, none⟩ = some (.int .i64 g.m.pg) := by simp [World.cell?, g5]
      have t1 : w4.cell? ⟨w3.heap.size, 1, none⟩ = some (.int .u32 g.m.ob) := by simp [World.cell?, g5]
      have t2 : w4.cell? ⟨w3.heap.size, 2, none⟩ = some (.int .i64 g.m.op) := by simp [World.cell?, g5]
      have t3 : w4.cell? ⟨w3.heap.size, 3, none⟩ = some (.int .i64 g.m.st) := by simp [World.cell?, g5]
      have t4 : w4.cell? ⟨w3.heap.size, 4, none⟩ = some (.int .i64 g.m.wy) := by simp [World.cell?, g5]
      have t5 : w4.cell? ⟨w3.heap.size, 5, none⟩ = some (.int .i64 g.m.li) := by simp [World.cell?, g5]
      have t6 : w4.cell? ⟨w3.heap.size, 6, none⟩ = some (.int .i64 g.m.sl) := by simp [World.cell?, g5]
      have t7 : w4.cell? ⟨w3.heap.size, 7, none⟩ = some (.int .u64 g.m.mj) := by simp [World.cell?, g5]
      have t8 : w4.cell? ⟨w3.heap.size, 8, none⟩ = some (.slice yca g.cs.length ycc) := by simp [World.cell?, g5]
      have t9 : w4.cell? ⟨w3.heap.size, 9, none⟩ = some (.slice ywa g.ws.length ywc) := by simp [World.cell?, g5]
      have t10 : w4.cell? ⟨w3.heap.size, 10, none⟩ = some (.slice ysa g.ss.length ysc) := by simp [World.cell?, g5]
      have t11 : w4.cell? ⟨w3.heap.size, 11, none⟩ = some (.slice yqa g.qs.length yqc) := by simp [World.cell?, g5]
      have H4 : Hid (Kp w w4) := kw4
      clear k3 k4 kw4 g4 g5 x1 x2 x3 x4 y1 y2 y3 y4 H2 he he2 b1 b2 b3
      subst hw4
      go_wp2_with fail
      go_at_call 13
      refine A1.mono ?_
      clear A1 s0 t0 s1 t1 s2 t2 s3 t3 s4 t4 s5 t5 s6 t6 s7 t7 s8 t8 s9 t9 s10 t10 s11 t11
      rintro r w5 ⟨rfl, k5⟩
      have H5 : Hid (Kp w w5) := Kp.trans H4.out k5
      clear k5 H4
      go_wp2
      go_ret
      exact ⟨rfl, Chg.below H5.out (Nat.le_refl _) (by simp)⟩
  · have H2 : Hid (Kp w w2) := Kp.trans H1.out.1 k2
    clear k2 H1
    go_wp2
    go_ret
    exact ⟨rfl, Chg.below H2.out (Nat.le_refl _) (by simp)⟩
end Go.Proofs.YtknlpjcdemijgaaGreat
