import Derived.Test.YtknlpjcdemijgaaGreatZl
namespace Go.Proofs.YtknlpjcdemijgaaGreat
open Go.ChangeShapes Go.WideShapes Go.ChangeAt Go.RowKit
set_option linter.unusedVariables false
theorem RdL.all {α : Type} {w : World} {N sz : Nat} {P : World → Nat → Nat → α → Prop} {la : Option Addr} {xs : List α} {Q : α → Prop} (h : RdL w N sz P la xs) (hq : ∀ b o y, P w b o y → Q y) : ∀ x, x ∈ xs → Q x := by
  intro x hx
  obtain ⟨i, hi, rfl⟩ := List.getElem_of_mem hx
  rcases h.2 with e | ⟨b, o, _, _, hc⟩
  · omega
  · exact hq _ _ _ (hc i hi)
theorem IsCf.fit {w : World} {u : Value} {g : Cf} (h : IsCf w u g) : g.fit := by
  obtain ⟨hm, ca, cc, wa, wc, sa, sc, qa, qc, _, h1, h2, h3, h4⟩ := h
  refine ⟨hm, h1.all fun b o y p => ?_, h2.all fun b o y p => p.2⟩
  obtain ⟨he, _, ra, rc, la, lc, _, hr, _⟩ := p
  exact ⟨he, hr.all fun b o y p => p.2⟩
set_option maxRecDepth 100000 in
set_option maxHeartbeats 4000000 in
theorem back_walk (w : World) (u : Value) (g : Cf) (hI : IsCf w u g) :
    Calls Tryz.prog 5 #[u] w fun r w' => r = .returned (.bool true) ∧ Below w.heap.size w w' := by
  have hfit := hI.fit
  have hI0 := hI
  obtain ⟨_, xca, xcc, xwa, xwc, xsa, xsc, xqa, xqc, rfl, _, _, _, _⟩ := hI
  have HI : Hid (IsCf w (cfV g xca xwa xsa xqa xcc xwc xsc xqc) g) := hI0
  clear hI0
  unfold cfV
  obtain ⟨w0, hw0⟩ : ∃ w0, w0 = w.alloc (.cells #[.int .i64 g.m.pg, .int .u32 g.m.ob, .int .i64 g.m.op, .int .i64 g.m.st, .int .i64 g.m.wy, .int .i64 g.m.li, .int .i64 g.m.sl, .int .u64 g.m.mj, .slice xca g.cs.length xcc, .slice xwa g.ws.length xwc, .slice xsa g.ss.length xsc, .slice xqa g.qs.length xqc] 31) := ⟨_, rfl⟩
  have k0 : Kp w w0 := by rw [hw0]; exact Kp.al _ _
  have g0 : w0.heap[w.heap.size]? = some (.cells #[.int .i64 g.m.pg, .int .u32 g.m.ob, .int .i64 g.m.op, .int .i64 g.m.st, .int .i64 g.m.wy, .int .i64 g.m.li, .int .i64 g.m.sl, .int .u64 g.m.mj, .slice xca g.cs.length xcc, .slice xwa g.ws.length xwc, .slice xsa g.ss.length xsc, .slice xqa g.qs.length xqc] 31 (0, 0)) := by rw [hw0]; exact heap_alloc_new w _
  have HK : Hid (Kp w w0 ∧ w0.heap[w.heap.size]? = some (.cells #[.int .i64 g.m.pg, .int .u32 g.m.ob, .int .i64 g.m.op, .int .i64 g.m.st, .int .i64 g.m.wy, .int .i64 g.m.li, .int .i64 g.m.sl, .int .u64 g.m.mj, .slice xca g.cs.length xcc, .slice xwa g.ws.length xwc, .slice xsa g.ss.length xsc, .slice xqa g.qs.length xqc] 31 (0, 0))) := ⟨k0, g0⟩
  clear k0 g0
  go_enter Tryz.func5, Tryz.ntmps5
  go_wp2_with fail
  rw [← hw0]
  clear hw0
  go_at_call 9
  refine (known_any w0).mono ?_
  rintro r w1 ⟨rfl, k1⟩
  have kk1 : Kp w w1 := Kp.trans HK.out.1 k1
  have gg1 := k1.heap HK.out.2
  have A1 := encode_any w1 _ g (HI.out.keep (Keep.of kk1 (fun _ _ e => e)) kk1.size)
  unfold cfV at A1
  have s0 : w1.cell? ⟨w.heap.size, 0, none⟩ = some (.int .i64 g.m.pg) := by simp [World.cell?, gg1]
  have s1 : w1.cell? ⟨w.heap.size, 1, none⟩ = some (.int .u32 g.m.ob) := by simp [World.cell?, gg1]
  have s2 : w1.cell? ⟨w.heap.size, 2, none⟩ = some (.int .i64 g.m.op) := by simp [World.cell?, gg1]
  have s3 : w1.cell? ⟨w.heap.size, 3, none⟩ = some (.int .i64 g.m.st) := by simp [World.cell?, gg1]
  have s4 : w1.cell? ⟨w.heap.size, 4, none⟩ = some (.int .i64 g.m.wy) := by simp [World.cell?, gg1]
  have s5 : w1.cell? ⟨w.heap.size, 5, none⟩ = some (.int .i64 g.m.li) := by simp [World.cell?, gg1]
  have s6 : w1.cell? ⟨w.heap.size, 6, none⟩ = some (.int .i64 g.m.sl) := by simp [World.cell?, gg1]
  have s7 : w1.cell? ⟨w.heap.size, 7, none⟩ = some (.int .u64 g.m.mj) := by simp [World.cell?, gg1]
  have s8 : w1.cell? ⟨w.heap.size, 8, none⟩ = some (.slice xca g.cs.length xcc) := by simp [World.cell?, gg1]
  have s9 : w1.cell? ⟨w.heap.size, 9, none⟩ = some (.slice xwa g.ws.length xwc) := by simp [World.cell?, gg1]
  have s10 : w1.cell? ⟨w.heap.size, 10, none⟩ = some (.slice xsa g.ss.length xsc) := by simp [World.cell?, gg1]
  have s11 : w1.cell? ⟨w.heap.size, 11, none⟩ = some (.slice xqa g.qs.length xqc) := by simp [World.cell?, gg1]
  have H1 : Hid (Kp w w1 ∧ w1.heap[w.heap.size]? = some (.cells #[.int .i64 g.m.pg, .int .u32 g.m.ob, .int .i64 g.m.op, .int .i64 g.m.st, .int .i64 g.m.wy, .int .i64 g.m.li, .int .i64 g.m.sl, .int .u64 g.m.mj, .slice xca g.cs.length xcc, .slice xwa g.ws.length xwc, .slice xsa g.ss.length xsc, .slice xqa g.qs.length xqc] 31 (0, 0))) := ⟨kk1, gg1⟩
  clear k1 kk1 gg1 HK
  go_wp2_with fail
  go_at_call 10
  refine A1.mono ?_
  clear A1 s0 s1 s2 s3 s4 s5 s6 s7 s8 s9 s10 s11
  rintro r w2 ⟨k2, ⟨hok, v2, rfl, ho, _⟩ | ⟨hno, rfl⟩⟩
  · obtain ⟨b1, b2, b3⟩ := back_dec hfit hok
    have hbl : (encB g).length ≤ 140737488355328 := by
      obtain ⟨body, _, hn, hB, _⟩ := enc_form hfit hok
      rw [hB]; simp [le_len, magic]; omega
    obtain ⟨a2, c2, rfl, hle, _, hb2⟩ := ho.shape hbl
    have A1 := decode_any w2 a2 _ c2 (encB g) hb2 hle
    have H2 : Hid (Kp w w2 ∧ w2.heap[w.heap.size]? = some (.cells #[.int .i64 g.m.pg, .int .u32 g.m.ob, .int .i64 g.m.op, .int .i64 g.m.st, .int .i64 g.m.wy, .int .i64 g.m.li, .int .i64 g.m.sl, .int .u64 g.m.mj, .slice xca g.cs.length xcc, .slice xwa g.ws.length xwc, .slice xsa g.ss.length xsc, .slice xqa g.qs.length xqc] 31 (0, 0))) := ⟨Kp.trans H1.out.1 k2, k2.heap H1.out.2⟩
    clear k2 H1 ho hb2
    go_wp2_with fail
    go_at_call 11
    refine A1.mono ?_
    clear A1
    rintro r w3 ⟨k3, hr⟩
    rcases hr with ⟨e, p, he, rfl⟩ | ⟨he, he2, rfl⟩ | ⟨he, he2, u3, rfl, hcf⟩
    · rw [b1] at he; cases he
    · exact absurd b2 he2
    · rw [b3] at hcf
      obtain ⟨_, yca, ycc, ywa, ywc, ysa, ysc, yqa, yqc, rfl, y1, y2, y3, y4⟩ := hcf
      unfold cfV
      obtain ⟨w4, hw4⟩ : ∃ w4, w4 = w3.alloc (.cells #[.int .i64 g.m.pg, .int .u32 g.m.ob, .int .i64 g.m.op, .int .i64 g.m.st, .int .i64 g.m.wy, .int .i64 g.m.li, .int .i64 g.m.sl, .int .u64 g.m.mj, .slice yca g.cs.length ycc, .slice ywa g.ws.length ywc, .slice ysa g.ss.length ysc, .slice yqa g.qs.length yqc] 31) := ⟨_, rfl⟩
      have k4 : Kp w3 w4 := by rw [hw4]; exact Kp.al _ _
      have kw4 : Kp w w4 := Kp.trans H2.out.1 (Kp.trans k3 k4)
      have g4 := (Kp.trans k3 k4).heap H2.out.2
      have g5 : w4.heap[w3.heap.size]? = some (.cells #[.int .i64 g.m.pg, .int .u32 g.m.ob, .int .i64 g.m.op, .int .i64 g.m.st, .int .i64 g.m.wy, .int .i64 g.m.li, .int .i64 g.m.sl, .int .u64 g.m.mj, .slice yca g.cs.length ycc, .slice ywa g.ws.length ywc, .slice ysa g.ss.length ysc, .slice yqa g.qs.length yqc] 31 (0, 0)) := by rw [hw4]; exact heap_alloc_new w3 _
      obtain ⟨_, xca', xcc', xwa', xwc', xsa', xsc', xqa', xqc', hu, x1, x2, x3, x4⟩ := HI.out
      unfold cfV at hu
      simp only [Value.agg.injEq, Array.mk.injEq, List.cons.injEq, Value.slice.injEq, true_and, and_true] at hu
      obtain ⟨⟨rfl, rfl⟩, ⟨rfl, rfl⟩, ⟨rfl, rfl⟩, rfl, rfl⟩ := hu
      have A1 := equal_walk w4 _ _ g g xca xwa xsa xqa yca ywa ysa yqa xcc xwc xsc xqc ycc ywc ysc yqc (CeAts.kp x1 kw4) (WiAts.kp x2 kw4) (SaAts.kp x3 kw4) (QuAts.kp x4 kw4) (CeAts.kp y1 k4) (WiAts.kp y2 k4) (SaAts.kp y3 k4) (QuAts.kp y4 k4) true (by simp)
      have s0 : w4.cell? ⟨w.heap.size, 0, none⟩ = some (.int .i64 g.m.pg) := by simp [World.cell?, g4]
      have s1 : w4.cell? ⟨w.heap.size, 1, none⟩ = some (.int .u32 g.m.ob) := by simp [World.cell?, g4]
      have s2 : w4.cell? ⟨w.heap.size, 2, none⟩ = some (.int .i64 g.m.op) := by simp [World.cell?, g4]
      have s3 : w4.cell? ⟨w.heap.size, 3, none⟩ = some (.int .i64 g.m.st) := by simp [World.cell?, g4]
      have s4 : w4.cell? ⟨w.heap.size, 4, none⟩ = some (.int .i64 g.m.wy) := by simp [World.cell?, g4]
      have s5 : w4.cell? ⟨w.heap.size, 5, none⟩ = some (.int .i64 g.m.li) := by simp [World.cell?, g4]
      have s6 : w4.cell? ⟨w.heap.size, 6, none⟩ = some (.int .i64 g.m.sl) := by simp [World.cell?, g4]
      have s7 : w4.cell? ⟨w.heap.size, 7, none⟩ = some (.int .u64 g.m.mj) := by simp [World.cell?, g4]
      have s8 : w4.cell? ⟨w.heap.size, 8, none⟩ = some (.slice xca g.cs.length xcc) := by simp [World.cell?, g4]
      have s9 : w4.cell? ⟨w.heap.size, 9, none⟩ = some (.slice xwa g.ws.length xwc) := by simp [World.cell?, g4]
      have s10 : w4.cell? ⟨w.heap.size, 10, none⟩ = some (.slice xsa g.ss.length xsc) := by simp [World.cell?, g4]
      have s11 : w4.cell? ⟨w.heap.size, 11, none⟩ = some (.slice xqa g.qs.length xqc) := by simp [World.cell?, g4]
      have t0 : w4.cell? ⟨w3.heap.size, 0, none⟩ = some (.int .i64 g.m.pg) := by simp [World.cell?, g5]
      have t1 : w4.cell? ⟨w3.heap.size, 1, none⟩ = some (.int .u32 g.m.ob) := by simp [World.cell?, g5]
      have t2 : w4.cell? ⟨w3.heap.size, 2, none⟩ = some (.int .i64 g.m.op) := by simp [World.cell?, g5]
      have t3 : w4.cell? ⟨w3.heap.size, 3, none⟩ = some (.int .i64 g.m.st) := by simp [World.cell?, g5]
      have t4 : w4.cell? ⟨w3.heap.size, 4, none⟩ = some (.int .i64 g.m.wy) := by simp [World.cell?, g5]
      have t5 : w4.cell? ⟨w3.heap.size, 5, none⟩ = some (.int .i64 g.m.li) := by simp [World.cell?, g5]
      have t6 : w4.cell? ⟨w3.heap.size, 6, none⟩ = some (.int .i64 g.m.sl) := by simp [World.cell?, g5]
      have t7 : w4.cell? ⟨w3.heap.size, 7, none⟩ = some (.int .u64 g.m.mj) := by simp [World.cell?, g5]
      have t8 : w4.cell? ⟨w3.heap.size, 8, none⟩ = some (.slice yca g.cs.length ycc) := by simp [World.cell?, g5]
      have t9 : w4.cell? ⟨w3.heap.size, 9, none⟩ = some (.slice ywa g.ws.length ywc) := by simp [World.cell?, g5]
      have t10 : w4.cell? ⟨w3.heap.size, 10, none⟩ = some (.slice ysa g.ss.length ysc) := by simp [World.cell?, g5]
      have t11 : w4.cell? ⟨w3.heap.size, 11, none⟩ = some (.slice yqa g.qs.length yqc) := by simp [World.cell?, g5]
      have H4 : Hid (Kp w w4) := kw4
      clear k3 k4 kw4 g4 g5 x1 x2 x3 x4 y1 y2 y3 y4 H2 he he2 b1 b2 b3
      subst hw4
      go_wp2_with fail
      go_at_call 13
      refine A1.mono ?_
      clear A1 s0 t0 s1 t1 s2 t2 s3 t3 s4 t4 s5 t5 s6 t6 s7 t7 s8 t8 s9 t9 s10 t10 s11 t11
      rintro r w5 ⟨rfl, k5⟩
      have H5 : Hid (Kp w w5) := Kp.trans H4.out k5
      clear k5 H4
      go_wp2
      go_ret
      exact ⟨rfl, Chg.below H5.out (Nat.le_refl _) (by simp)⟩
  · have H2 : Hid (Kp w w2) := Kp.trans H1.out.1 k2
    clear k2 H1
    go_wp2
    go_ret
    exact ⟨rfl, Chg.below H2.out (Nat.le_refl _) (by simp)⟩
end Go.Proofs.YtknlpjcdemijgaaGreat
namespace Go.Proofs.YtknlpjcdemijgaaGreat
open Go.ChangeShapes Go.WideShapes Go.ChangeAt Go.RowKit
set_option linter.unusedVariables false

theorem ri41_len (w : World) (a b : Option Addr) (la lb ca cb : Nat) (h : ((la : Int) != (lb : Int)) = true) :
    Calls Tryz.prog 41 #[.slice a la ca, .slice b lb cb] w fun r w' => r = .returned (.bool false) ∧ w' = w := by
  go_enter Tryz.func41, Tryz.ntmps41
  go_wp2
  go_ret
  exact ⟨rfl, rfl⟩

set_option maxHeartbeats 800000 in
theorem ri41_same (w : World) (N N2 : Nat) (a b : Option Addr) (la ca cb : Nat) (xs ys : List Int) (hx : RdI w N a xs) (hy : RdI w N2 b ys) (hlx : xs.length = la) (hly : ys.length = la) :
    Calls Tryz.prog 41 #[.slice a la ca, .slice b la cb] w fun r w' => r = .returned (.bool (sameB xs ys)) ∧ Kp w w' := by
  have hl : la ≤ 140737488355328 := by have := hx.2.1; omega
  have H : Hid (RdI w N a xs ∧ RdI w N2 b ys ∧ xs.length = la ∧ ys.length = la) := ⟨hx, hy, hlx, hly⟩
  clear hx hy hlx hly
  go_enter Tryz.func41, Tryz.ntmps41
  go_wp2
  go_loopw [5] (fun i wr => ∃ k : Nat, k ≤ la ∧ i = .int .i64 k ∧ xs.take k = ys.take k ∧ Kp w wr) (fun i _ => la - (intOf i).toNat)
  case atStart => exact ⟨0, by omega, rfl, rfl, Kp.refl _⟩
  case round =>
    obtain ⟨k, hk, rfl, ht, hC⟩ := hrel
    have HT : Hid (xs.take k = ys.take k ∧ Kp w wr) := ⟨ht, hC⟩
    clear ht hC
    by_cases hlt : k < la
    · obtain ⟨hx, hy, hlx, hly⟩ := H.out
      have hx2 := hx.kp HT.out.2
      have hy2 := hy.kp HT.out.2
      obtain ⟨bx, ox, e1, _, hcx⟩ := hx2.2.2.resolve_left (by omega)
      obtain ⟨by_, oy, e2, _, hcy⟩ := hy2.2.2.resolve_left (by omega)
      have cx := hcx k (by omega)
      have cy := hcy k (by omega)
      have gx : xs[k]'(by omega) = xs.getD k 0 := by simp [List.getD, List.getElem?_eq_getElem (show k < xs.length by omega)]
      have gy : ys[k]'(by omega) = ys.getD k 0 := by simp [List.getD, List.getElem?_eq_getElem (show k < ys.length by omega)]
      rw [gx] at cx
      rw [gy] at cy
      have tx : Hid (xs.take (k + 1) = xs.take k ++ [xs.getD k 0]) := take_snoc xs k (by omega)
      have ty : Hid (ys.take (k + 1) = ys.take k ++ [ys.getD k 0]) := take_snoc ys k (by omega)
      have HN : Hid (xs.getD k 0 ≠ ys.getD k 0 → xs ≠ ys) := getD_ne
      clear gx gy
      obtain ⟨p, hp⟩ : ∃ p, p = xs.getD k 0 := ⟨_, rfl⟩
      obtain ⟨q, hq⟩ : ∃ q, q = ys.getD k 0 := ⟨_, rfl⟩
      rw [← hp] at cx tx HN
      rw [← hq] at cy ty HN
      clear hx hy hx2 hy2 hcx hcy hlx hly hp hq
      subst e1 e2
      by_cases hpq : p = q
      · subst hpq
        have hpp : (p != p) = false := by simp
        go_wp2
        go_quiet (fail)
        go_wp2
        go_roundw
        case rel => exact ⟨k + 1, by omega, by go_num, by rw [tx.out, ty.out, HT.out.1], Chg.drewN HT.out.2 _⟩
        case measure => simp [intOf]; omega
      · have hpp : (p != q) = true := by simpa using hpq
        go_wp2
        go_quiet (fail)
        go_wp2
        go_ret
        exact ⟨by have := HN.out hpq; simp [sameB, this], Chg.drewN HT.out.2 _⟩
    · go_wp2
      go_ret
      refine ⟨?_, HT.out.2⟩
      obtain ⟨hx, hy, hlx, hly⟩ := H.out
      have := HT.out.1
      rw [List.take_of_length_le (by omega), List.take_of_length_le (by omega)] at this
      simp [sameB, this]
/-- The document's ints. -/
theorem ri41_any (w : World) (N N2 : Nat) (a b : Option Addr) (ca cb : Nat) (xs ys : List Int) (hx : RdI w N a xs) (hy : RdI w N2 b ys) :
    Calls Tryz.prog 41 #[.slice a xs.length ca, .slice b ys.length cb] w fun r w' => r = .returned (.bool (sameB xs ys)) ∧ Kp w w' := by
  by_cases h : xs.length = ys.length
  · rw [← h]
    exact ri41_same w N N2 a b xs.length ca cb xs ys hx hy rfl h.symm
  · refine (ri41_len w a b _ _ ca cb (by simp; omega)).mono ?_
    rintro r w' ⟨rfl, rfl⟩
    refine ⟨?_, Kp.refl _⟩
    have : xs ≠ ys := fun e => h (by rw [e])
    simp [sameB, this]
end Go.Proofs.YtknlpjcdemijgaaGreat
namespace Go.Proofs.YtknlpjcdemijgaaGreat
open Go.ChangeShapes Go.WideShapes Go.ChangeAt Go.RowKit
set_option linter.unusedVariables false
theorem hmxR : Tryz.prog.follows .mixedOrders = true := by kernel_rfl
def ops16_26 : Array Oper := #[{ dst := some 178, op := Op.fieldAddr 31 (Operand.tmp 2) 8, type := 0, pos := "ref.go:345", after := #[], guard := none }, { dst := some 179, op := Op.load 28 (Operand.tmp 178), type := 28, pos := "ref.go:345", after := #[{ on := 0, ground := Ground.data }], guard := none }, { dst := some 180, op := Op.move (Operand.tmp 11), type := 3, pos := "ref.go:345", after := #[], guard := none }, { dst := some 181, op := Op.indexAddr 28 (Operand.tmp 179) (Operand.tmp 180), type := 0, pos := "ref.go:345", after := #[{ on := 1, ground := Ground.data }, { on := 2, ground := Ground.data }], guard := none }, { dst := some 182, op := Op.fieldAddr 94 (Operand.tmp 181) 2, type := 0, pos := "ref.go:345", after := #[{ on := 3, ground := Ground.data }], guard := none }, { dst := some 183, op := Op.load 52 (Operand.tmp 182), type := 52, pos := "ref.go:345", after := #[{ on := 4, ground := Ground.data }], guard := none }, { dst := some 184, op := Op.fieldAddr 31 (Operand.tmp 3) 8, type := 0, pos := "ref.go:345", after := #[], guard := none }, { dst := some 185, op := Op.load 28 (Operand.tmp 184), type := 28, pos := "ref.go:345", after := #[{ on := 6, ground := Ground.data }], guard := none }, { dst := some 186, op := Op.move (Operand.tmp 11), type := 3, pos := "ref.go:345", after := #[], guard := none }, { dst := some 187, op := Op.indexAddr 28 (Operand.tmp 185) (Operand.tmp 186), type := 0, pos := "ref.go:345", after := #[{ on := 7, ground := Ground.data }, { on := 8, ground := Ground.data }], guard := none }, { dst := some 188, op := Op.fieldAddr 94 (Operand.tmp 187) 2, type := 0, pos := "ref.go:345", after := #[{ on := 9, ground := Ground.data }], guard := none }, { dst := some 189, op := Op.load 52 (Operand.tmp 188), type := 52, pos := "ref.go:345", after := #[{ on := 10, ground := Ground.data }], guard := none }, { dst := some 190, op := Op.call { callee := Callee.value (Operand.func 41), args := #[Operand.tmp 183, Operand.tmp 189], argTypes := #[52, 52] }, type := 4, pos := "ref.go:345", after := #[{ on := 5, ground := Ground.data }, { on := 11, ground := Ground.data }], guard := none }, { dst := some 12, op := Op.assign (Operand.tmp 190), type := 4, pos := "ref.go:345", after := #[{ on := 12, ground := Ground.data }, { on := 12, ground := Ground.chain }, { on := 0, ground := Ground.phase }, { on := 1, ground := Ground.phase }, { on := 2, ground := Ground.phase }, { on := 3, ground := Ground.phase }, { on := 4, ground := Ground.phase }, { on := 5, ground := Ground.phase }, { on := 6, ground := Ground.phase }, { on := 7, ground := Ground.phase }, { on := 8, ground := Ground.phase }, { on := 9, ground := Ground.phase }, { on := 10, ground := Ground.phase }, { on := 11, ground := Ground.phase }, { on := 12, ground := Ground.phase }], guard := none }]
set_option maxHeartbeats 8000000 in
set_option maxRecDepth 100000 in
theorem reg16_26 (W : World) (B bx ox by_ oy i nS nT xsc ysc nx ny lcx lcy : Nat) (lax lay : Option Addr) (sb : Bool) (hi : i < nS) (hiT : i < nT) (hl : nS ≤ 140737488355328) (hlT : nT ≤ 140737488355328)
    (hS : (fun w' : World => w'.cell? ⟨B, 10, none⟩ = some (.slice (some ⟨bx, ox, none⟩) nS xsc) ∧ w'.cell? ⟨B + 1, 10, none⟩ = some (.slice (some ⟨by_, oy, none⟩) nT ysc) ∧ w'.cell? ⟨bx, ox + i * 3 + 2, none⟩ = some (.slice lax nx lcx) ∧ w'.cell? ⟨by_, oy + i * 3 + 2, none⟩ = some (.slice lay ny lcy)) W.drew) (PO : World → Prop) (hcall : Calls Tryz.prog 41 #[.slice lax nx lcx, .slice lay ny lcy] W.drew fun e w1 => e = .returned (.bool sb) ∧ PO w1) (hS1 : ∀ w1, PO w1 → (fun w' : World => w'.cell? ⟨B, 10, none⟩ = some (.slice (some ⟨bx, ox, none⟩) nS xsc) ∧ w'.cell? ⟨B + 1, 10, none⟩ = some (.slice (some ⟨by_, oy, none⟩) nT ysc) ∧ w'.cell? ⟨bx, ox + i * 3 + 2, none⟩ = some (.slice lax nx lcx) ∧ w'.cell? ⟨by_, oy + i * 3 + 2, none⟩ = some (.slice lay ny lcy)) w1)
    (Q : Exit → Act → World → Prop) (hPan : ∀ c (a : Act) w (d : Option Tmp) v, Q (.panic c) (a.put d v) w → Q (.panic c) a w) {u0 u1 u4 u5 u6 u7 u8 u9 u10 u12 u13 u14 u15 u16 u17 u18 u19 u20 u21 u22 u23 u24 u25 u26 u27 u28 u29 u30 u31 u32 u33 u34 u35 u36 u37 u38 u39 u40 u41 u42 u43 u44 u45 u46 u47 u48 u49 u50 u51 u52 u53 u54 u55 u56 u57 u58 u59 u60 u61 u62 u63 u64 u65 u66 u67 u68 u69 u70 u71 u72 u73 u74 u75 u76 u77 u78 u79 u80 u81 u82 u83 u84 u85 u86 u87 u88 u89 u90 u91 u92 u93 u94 u95 u96 u97 u98 u99 u100 u101 u102 u103 u104 u105 u106 u107 u108 u109 u110 u111 u112 u113 u114 u115 u116 u117 u118 u119 u120 u121 u122 u123 u124 u125 u126 u127 u128 u129 u130 u131 u132 u133 u134 u135 u136 u137 u138 u139 u140 u141 u142 u143 u144 u145 u146 u147 u148 u149 u150 u151 u152 u153 u154 u155 u156 u157 u158 u159 u160 u161 u162 u163 u164 u165 u166 u167 u168 u169 u170 u171 u172 u173 u174 u175 u176 u177 u178 u179 u180 u181 u182 u183 u184 u185 u186 u187 u188 u189 u190 u191 u192 u193 u194 u195 u196 u197 u198 u199 u200 u201 u202 u203 u204 u205 u206 u207 u208 u209 u210 u211 u212 u213 u214 u215 u216 u217 u218 u219 u220 u221 u222 u223 u224 u225 u226 u227 u228 u229 u230 u231 u232 u233 u234 u235 u236 u237 u238 u239 u240 : Value}
    (hQ : ∀ w1, PO w1 → Q .normal ⟨#[u0, u1, .pointer (some ⟨B, 0, none⟩), .pointer (some ⟨(B + 1), 0, none⟩), u4, u5, u6, u7, u8, u9, u10, .int .i64 (i : Nat), .bool sb, u13, u14, u15, u16, u17, u18, u19, u20, u21, u22, u23, u24, u25, u26, u27, u28, u29, u30, u31, u32, u33, u34, u35, u36, u37, u38, u39, u40, u41, u42, u43, u44, u45, u46, u47, u48, u49, u50, u51, u52, u53, u54, u55, u56, u57, u58, u59, u60, u61, u62, u63, u64, u65, u66, u67, u68, u69, u70, u71, u72, u73, u74, u75, u76, u77, u78, u79, u80, u81, u82, u83, u84, u85, u86, u87, u88, u89, u90, u91, u92, u93, u94, u95, u96, u97, u98, u99, u100, u101, u102, u103, u104, u105, u106, u107, u108, u109, u110, u111, u112, u113, u114, u115, u116, u117, u118, u119, u120, u121, u122, u123, u124, u125, u126, u127, u128, u129, u130, u131, u132, u133, u134, u135, u136, u137, u138, u139, u140, u141, u142, u143, u144, u145, u146, u147, u148, u149, u150, u151, u152, u153, u154, u155, u156, u157, u158, u159, u160, u161, u162, u163, u164, u165, u166, u167, u168, u169, u170, u171, u172, u173, u174, u175, u176, u177, .pointer (some ⟨B, 10, none⟩), .slice (some ⟨bx, ox, none⟩) nS xsc, .int .i64 (i : Nat), .pointer (some ⟨bx, ox + i * 3, none⟩), .pointer (some ⟨bx, ox + i * 3 + 2, none⟩), .slice lax nx lcx, .pointer (some ⟨(B + 1), 10, none⟩), .slice (some ⟨by_, oy, none⟩) nT ysc, .int .i64 (i : Nat), .pointer (some ⟨by_, oy + i * 3, none⟩), .pointer (some ⟨by_, oy + i * 3 + 2, none⟩), .slice lay ny lcy, .bool sb, u191, u192, u193, u194, u195, u196, u197, u198, u199, u200, u201, u202, u203, u204, u205, u206, u207, u208, u209, u210, u211, u212, u213, u214, u215, u216, u217, u218, u219, u220, u221, u222, u223, u224, u225, u226, u227, u228, u229, u230, u231, u232, u233, u234, u235, u236, u237, u238, u239, u240], []⟩ w1) :
    Code.wp Tryz.prog (Code.region 26 ops16_26 true) Q ⟨#[u0, u1, .pointer (some ⟨B, 0, none⟩), .pointer (some ⟨(B + 1), 0, none⟩), u4, u5, u6, u7, u8, u9, u10, .int .i64 (i : Nat), u12, u13, u14, u15, u16, u17, u18, u19, u20, u21, u22, u23, u24, u25, u26, u27, u28, u29, u30, u31, u32, u33, u34, u35, u36, u37, u38, u39, u40, u41, u42, u43, u44, u45, u46, u47, u48, u49, u50, u51, u52, u53, u54, u55, u56, u57, u58, u59, u60, u61, u62, u63, u64, u65, u66, u67, u68, u69, u70, u71, u72, u73, u74, u75, u76, u77, u78, u79, u80, u81, u82, u83, u84, u85, u86, u87, u88, u89, u90, u91, u92, u93, u94, u95, u96, u97, u98, u99, u100, u101, u102, u103, u104, u105, u106, u107, u108, u109, u110, u111, u112, u113, u114, u115, u116, u117, u118, u119, u120, u121, u122, u123, u124, u125, u126, u127, u128, u129, u130, u131, u132, u133, u134, u135, u136, u137, u138, u139, u140, u141, u142, u143, u144, u145, u146, u147, u148, u149, u150, u151, u152, u153, u154, u155, u156, u157, u158, u159, u160, u161, u162, u163, u164, u165, u166, u167, u168, u169, u170, u171, u172, u173, u174, u175, u176, u177, u178, u179, u180, u181, u182, u183, u184, u185, u186, u187, u188, u189, u190, u191, u192, u193, u194, u195, u196, u197, u198, u199, u200, u201, u202, u203, u204, u205, u206, u207, u208, u209, u210, u211, u212, u213, u214, u215, u216, u217, u218, u219, u220, u221, u222, u223, u224, u225, u226, u227, u228, u229, u230, u231, u232, u233, u234, u235, u236, u237, u238, u239, u240], []⟩ W := by
  refine wp_region_held_drew (S := (fun w' : World => w'.cell? ⟨B, 10, none⟩ = some (.slice (some ⟨bx, ox, none⟩) nS xsc) ∧ w'.cell? ⟨B + 1, 10, none⟩ = some (.slice (some ⟨by_, oy, none⟩) nT ysc) ∧ w'.cell? ⟨bx, ox + i * 3 + 2, none⟩ = some (.slice lax nx lcx) ∧ w'.cell? ⟨by_, oy + i * 3 + 2, none⟩ = some (.slice lay ny lcy))) hmxR hS (fun HSX => ?_)
  clear hS
  refine wpAnyH_take (i := 0) (oi := { dst := some 178, op := Op.fieldAddr 31 (Operand.tmp 2) 8, type := 0, pos := "ref.go:345", after := #[], guard := none }) (v := .pointer (some ⟨B, 10, none⟩)) rfl (by kernel_rfl) (by kernel_rfl) (by kernel_rfl) (fun _ _ _ h => hPan _ _ _ _ _ h) (Or.inl ⟨by rfl, ?_⟩) HSX ?_
  · intro wx d0
    obtain ⟨s0, s1, s2, s3⟩ := d0
    go_simp
  simp only [Act.put, List.setIfInBounds_toArray, List.set_cons_zero, List.set_cons_succ]
  refine wpAnyH_take (i := 1) (oi := { dst := some 179, op := Op.load 28 (Operand.tmp 178), type := 28, pos := "ref.go:345", after := #[{ on := 0, ground := Ground.data }], guard := none }) (v := .slice (some ⟨bx, ox, none⟩) nS xsc) rfl (by kernel_rfl) (by kernel_rfl) (by kernel_rfl) (fun _ _ _ h => hPan _ _ _ _ _ h) (Or.inl ⟨by rfl, ?_⟩) HSX ?_
  · intro wx d0
    obtain ⟨s0, s1, s2, s3⟩ := d0
    go_simp
  simp only [Act.put, List.setIfInBounds_toArray, List.set_cons_zero, List.set_cons_succ]
  refine wpAnyH_take (i := 2) (oi := { dst := some 180, op := Op.move (Operand.tmp 11), type := 3, pos := "ref.go:345", after := #[], guard := none }) (v := .int .i64 (i : Nat)) rfl (by kernel_rfl) (by kernel_rfl) (by kernel_rfl) (fun _ _ _ h => hPan _ _ _ _ _ h) (Or.inl ⟨by rfl, ?_⟩) HSX ?_
  · intro wx d0
    obtain ⟨s0, s1, s2, s3⟩ := d0
    go_simp
  simp only [Act.put, List.setIfInBounds_toArray, List.set_cons_zero, List.set_cons_succ]
  refine wpAnyH_take (i := 3) (oi := { dst := some 181, op := Op.indexAddr 28 (Operand.tmp 179) (Operand.tmp 180), type := 0, pos := "ref.go:345", after := #[{ on := 1, ground := Ground.data }, { on := 2, ground := Ground.data }], guard := none }) (v := .pointer (some ⟨bx, ox + i * 3, none⟩)) rfl (by kernel_rfl) (by kernel_rfl) (by kernel_rfl) (fun _ _ _ h => hPan _ _ _ _ _ h) (Or.inl ⟨by rfl, ?_⟩) HSX ?_
  · intro wx d0
    obtain ⟨s0, s1, s2, s3⟩ := d0
    go_simp
  simp only [Act.put, List.setIfInBounds_toArray, List.set_cons_zero, List.set_cons_succ]
  refine wpAnyH_take (i := 4) (oi := { dst := some 182, op := Op.fieldAddr 94 (Operand.tmp 181) 2, type := 0, pos := "ref.go:345", after := #[{ on := 3, ground := Ground.data }], guard := none }) (v := .pointer (some ⟨bx, ox + i * 3 + 2, none⟩)) rfl (by kernel_rfl) (by kernel_rfl) (by kernel_rfl) (fun _ _ _ h => hPan _ _ _ _ _ h) (Or.inl ⟨by rfl, ?_⟩) HSX ?_
  · intro wx d0
    obtain ⟨s0, s1, s2, s3⟩ := d0
    go_simp
  simp only [Act.put, List.setIfInBounds_toArray, List.set_cons_zero, List.set_cons_succ]
  refine wpAnyH_take (i := 5) (oi := { dst := some 183, op := Op.load 52 (Operand.tmp 182), type := 52, pos := "ref.go:345", after := #[{ on := 4, ground := Ground.data }], guard := none }) (v := .slice lax nx lcx) rfl (by kernel_rfl) (by kernel_rfl) (by kernel_rfl) (fun _ _ _ h => hPan _ _ _ _ _ h) (Or.inl ⟨by rfl, ?_⟩) HSX ?_
  · intro wx d0
    obtain ⟨s0, s1, s2, s3⟩ := d0
    go_simp
  simp only [Act.put, List.setIfInBounds_toArray, List.set_cons_zero, List.set_cons_succ]
  refine wpAnyH_take (i := 6) (oi := { dst := some 184, op := Op.fieldAddr 31 (Operand.tmp 3) 8, type := 0, pos := "ref.go:345", after := #[], guard := none }) (v := .pointer (some ⟨(B + 1), 10, none⟩)) rfl (by kernel_rfl) (by kernel_rfl) (by kernel_rfl) (fun _ _ _ h => hPan _ _ _ _ _ h) (Or.inl ⟨by rfl, ?_⟩) HSX ?_
  · intro wx d0
    obtain ⟨s0, s1, s2, s3⟩ := d0
    go_simp
  simp only [Act.put, List.setIfInBounds_toArray, List.set_cons_zero, List.set_cons_succ]
  refine wpAnyH_take (i := 7) (oi := { dst := some 185, op := Op.load 28 (Operand.tmp 184), type := 28, pos := "ref.go:345", after := #[{ on := 6, ground := Ground.data }], guard := none }) (v := .slice (some ⟨by_, oy, none⟩) nT ysc) rfl (by kernel_rfl) (by kernel_rfl) (by kernel_rfl) (fun _ _ _ h => hPan _ _ _ _ _ h) (Or.inl ⟨by rfl, ?_⟩) HSX ?_
  · intro wx d0
    obtain ⟨s0, s1, s2, s3⟩ := d0
    go_simp
  simp only [Act.put, List.setIfInBounds_toArray, List.set_cons_zero, List.set_cons_succ]
  refine wpAnyH_take (i := 8) (oi := { dst := some 186, op := Op.move (Operand.tmp 11), type := 3, pos := "ref.go:345", after := #[], guard := none }) (v := .int .i64 (i : Nat)) rfl (by kernel_rfl) (by kernel_rfl) (by kernel_rfl) (fun _ _ _ h => hPan _ _ _ _ _ h) (Or.inl ⟨by rfl, ?_⟩) HSX ?_
  · intro wx d0
    obtain ⟨s0, s1, s2, s3⟩ := d0
    go_simp
  simp only [Act.put, List.setIfInBounds_toArray, List.set_cons_zero, List.set_cons_succ]
  refine wpAnyH_take (i := 9) (oi := { dst := some 187, op := Op.indexAddr 28 (Operand.tmp 185) (Operand.tmp 186), type := 0, pos := "ref.go:345", after := #[{ on := 7, ground := Ground.data }, { on := 8, ground := Ground.data }], guard := none }) (v := .pointer (some ⟨by_, oy + i * 3, none⟩)) rfl (by kernel_rfl) (by kernel_rfl) (by kernel_rfl) (fun _ _ _ h => hPan _ _ _ _ _ h) (Or.inl ⟨by rfl, ?_⟩) HSX ?_
  · intro wx d0
    obtain ⟨s0, s1, s2, s3⟩ := d0
    go_simp
  simp only [Act.put, List.setIfInBounds_toArray, List.set_cons_zero, List.set_cons_succ]
  refine wpAnyH_take (i := 10) (oi := { dst := some 188, op := Op.fieldAddr 94 (Operand.tmp 187) 2, type := 0, pos := "ref.go:345", after := #[{ on := 9, ground := Ground.data }], guard := none }) (v := .pointer (some ⟨by_, oy + i * 3 + 2, none⟩)) rfl (by kernel_rfl) (by kernel_rfl) (by kernel_rfl) (fun _ _ _ h => hPan _ _ _ _ _ h) (Or.inl ⟨by rfl, ?_⟩) HSX ?_
  · intro wx d0
    obtain ⟨s0, s1, s2, s3⟩ := d0
    go_simp
  simp only [Act.put, List.setIfInBounds_toArray, List.set_cons_zero, List.set_cons_succ]
  refine wpAnyH_take (i := 11) (oi := { dst := some 189, op := Op.load 52 (Operand.tmp 188), type := 52, pos := "ref.go:345", after := #[{ on := 10, ground := Ground.data }], guard := none }) (v := .slice lay ny lcy) rfl (by kernel_rfl) (by kernel_rfl) (by kernel_rfl) (fun _ _ _ h => hPan _ _ _ _ _ h) (Or.inl ⟨by rfl, ?_⟩) HSX ?_
  · intro wx d0
    obtain ⟨s0, s1, s2, s3⟩ := d0
    go_simp
  simp only [Act.put, List.setIfInBounds_toArray, List.set_cons_zero, List.set_cons_succ]
  refine wpAnyH_ready (rs := [12]) (by kernel_rfl) (by simp) ?_
  refine AllReadyH.cons (o := { dst := some 190, op := Op.call { callee := Callee.value (Operand.func 41), args := #[Operand.tmp 183, Operand.tmp 189], argTypes := #[52, 52] }, type := 4, pos := "ref.go:345", after := #[{ on := 5, ground := Ground.data }, { on := 11, ground := Ground.data }], guard := none }) rfl (fun K hK => ?_) AllReadyH.nil
  rw [if_pos (by rfl)]
  go_simp
  refine hcall.mono ?_
  rintro e w1 ⟨rfl, hpo⟩
  go_simp
  refine hK.out _ _ (hS1 w1 hpo) (fun HSX => ?_)
  clear hK K
  refine wpAnyH_take (i := 13) (oi := { dst := some 12, op := Op.assign (Operand.tmp 190), type := 4, pos := "ref.go:345", after := #[{ on := 12, ground := Ground.data }, { on := 12, ground := Ground.chain }, { on := 0, ground := Ground.phase }, { on := 1, ground := Ground.phase }, { on := 2, ground := Ground.phase }, { on := 3, ground := Ground.phase }, { on := 4, ground := Ground.phase }, { on := 5, ground := Ground.phase }, { on := 6, ground := Ground.phase }, { on := 7, ground := Ground.phase }, { on := 8, ground := Ground.phase }, { on := 9, ground := Ground.phase }, { on := 10, ground := Ground.phase }, { on := 11, ground := Ground.phase }, { on := 12, ground := Ground.phase }], guard := none }) (v := .bool sb) rfl (by kernel_rfl) (by kernel_rfl) (by kernel_rfl) (fun _ _ _ h => hPan _ _ _ _ _ h) (Or.inl ⟨by rfl, ?_⟩) HSX ?_
  · intro wx d0
    obtain ⟨s0, s1, s2, s3⟩ := d0
    go_simp
  simp only [Act.put, List.setIfInBounds_toArray, List.set_cons_zero, List.set_cons_succ]
  refine wpAnyH_done (by kernel_rfl) ?_ _
  exact hQ w1 hpo
end Go.Proofs.YtknlpjcdemijgaaGreat
