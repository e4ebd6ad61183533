import Derived.Test.YtadpgaaijdpbiaaRf
namespace Go.Proofs.Ytadpgaaijdpbiaa
open Go.ChangeShapes Go.WideShapes Go.ChangeAt Go.RowKit Go.Shelf
set_option linter.unusedVariables false

/-- What a load leaves: nothing new, or one more. -/
def Ld1 (ps ps' : List Pr) : Prop := ps' = ps ∨ ∃ p, ps' = ps ++ [p] ∧ p.l = p.s.slots ∧ p.k ≤ 1000
theorem WI.laterL {W W' : World} {lab lab' : Nat → Nat} {D : Nat} {R : Rows} {ps : List Pr} {hs : List Hd} (h : WI W lab D R ps hs) (hC : Kp W W') (hl : ∀ i, i < W.heap.size → lab' i = lab i) : WI W' lab' D R ps hs := by
  have hD := (Array.getElem?_eq_some_iff.1 h.box).1
  refine ⟨hC.heap h.box, Chg.owns hC h.x (fun _ _ x => x), Chg.owns hC h.y (fun _ _ x => x), Chg.owns hC h.h (fun _ _ x => x), Chg.owns hC h.m (fun _ _ x => x), ?_, ?_, ?_, ?_, ?_, h.p4, ?_, ?_⟩
  · rw [hl _ hD]; exact h.d
  · intro b hb; rw [hl _ (own_lt h.x hb)]; exact h.lx b hb
  · intro b hb; rw [hl _ (own_lt h.y hb)]; exact h.ly b hb
  · intro b hb; rw [hl _ (own_lt h.h hb)]; exact h.lh b hb
  · intro b hb; rw [hl _ (own_lt h.m hb)]; exact h.lm b hb
  · intro i p hi
    have hP := h.ps i p hi
    exact ⟨hP.t.kp hC, hP.r.kp hC, fun b hb => by rw [hl _ (hP.t.lt hb)]; exact hP.ft b hb, fun b hb => by rw [hl _ (hP.r.lt hb)]; exact hP.gt b hb⟩
  · intro x hx
    obtain ⟨a1, a2, a3⟩ := h.hs x hx
    refine ⟨a1, a2, a3.imp_right ?_⟩
    rintro ⟨b, off, e, hb, hlb, hc⟩
    exact ⟨b, off, e, Nat.lt_of_lt_of_le hb hC.size, by rw [hl _ hb]; exact hlb, fun i hi => Kp.cell hC (hc i hi)⟩
/-- What two loads, or two calls of New, gave. -/
def Two2 (w wx : World) (pv qv : Value) : Prop := (pv = .pointer none ∧ qv = .pointer none) ∨
  ∃ B M v m k s C u l z, pv = .pointer (some ⟨B, 0, none⟩) ∧ qv = .pointer (some ⟨C, 0, none⟩) ∧ IsT wx B M v m k s ∧ IsR wx C u m l ∧ l = s.slots ∧ k ≤ 1000 ∧ w.heap.size ≤ z ∧ (∀ i, Ft B M v i → w.heap.size ≤ i ∧ i < z) ∧ (∀ i, Gt C u i → z ≤ i)
theorem more_two (w wx : World) (lab : Nat → Nat) (D : Nat) (R : Rows) (ps : List Pr) (hs : List Hd) (h : WI w lab D R ps hs) (hK : Kp w wx) (pv qv : Value) (hp : Two2 w wx pv qv) :
    Calls Try.prog 25 #[.pointer (some ⟨D, 0, none⟩), pv, qv] wx fun e w' => e = .returned (.bool true) ∧ ∃ lab' R' ps', WI w' lab' D R' ps' hs ∧ Nx w lab w' lab' ∧ Ld1 ps ps' := by
  rcases hp with ⟨rfl, rfl⟩ | ⟨B, M, v, m, k, s, C, u, l, z, rfl, rfl, hT, hR, hl, hk, hz, hF, hG⟩
  · refine (more_nil wx D).mono ?_
    rintro e w' ⟨rfl, rfl⟩
    exact ⟨rfl, _, R, ps, h.later hK, Nx.kp hK 7, .inl rfl⟩
  · obtain ⟨lab', hlab⟩ : ∃ f : Nat → Nat, f = fun b => if b < w.heap.size then lab b else if b < z then 10 + 2 * ps.length else 11 + 2 * ps.length := ⟨_, rfl⟩
    have hold : ∀ i, i < w.heap.size → lab' i = lab i := fun i hi => by rw [hlab]; simp [hi]
    have h2 := h.laterL (lab' := lab') hK hold
    have hNx : Nx w lab wx lab' := ⟨hK.mono (fun _ _ h => h.elim), hold⟩
    by_cases h4 : ps.length = 4
    · refine (more_full wx lab' D R ps hs h2 h4 B C).mono ?_
      rintro e w' ⟨rfl, rfl⟩
      exact ⟨rfl, lab', R, ps, h2, hNx, .inl rfl⟩
    · have hPr : PrIs wx lab' ps.length ⟨B, M, v, m, k, s, C, u, l⟩ := ⟨hT, hR, fun b hb => by
        obtain ⟨q1, q2⟩ := hF b hb
        rw [hlab]; simp only; rw [if_neg (by omega), if_pos q2], fun b hb => by
        have q1 := hG b hb
        rw [hlab]; simp only; rw [if_neg (by omega), if_neg (by omega)]⟩
      refine (more_yes wx lab' D R ps hs h2 (by have := h.p4; omega) ⟨B, M, v, m, k, s, C, u, l⟩ hPr).mono ?_
      rintro e w' ⟨rfl, lab2, R2, hW, hN⟩
      exact ⟨rfl, lab2, R2, _, hW, hNx.trans hN, .inr ⟨_, rfl, hl, hk⟩⟩
set_option maxHeartbeats 4000000 in
set_option maxRecDepth 10000 in
theorem load_any (w : World) (lab : Nat → Nat) (D : Nat) (R : Rows) (ps : List Pr) (hs : List Hd) (h : WI w lab D R ps hs) (n : Int) (hn : InI n)
    (a : Option Addr) (len cap : Nat) (l : List Sl4) (hS : SlotsIn w a len l) (hO : SOk l) (hlen : len ≤ 10000000000000) :
    Calls Try.prog 40 #[.pointer (some ⟨D, 0, none⟩), .int .i64 n, .slice a len cap] w fun e w' => e = .returned (.bool true) ∧
      ∃ lab' R' ps', WI w' lab' D R' ps' hs ∧ Nx w lab w' lab' ∧ Ld1 ps ps' := by
  obtain ⟨i58, z58, h58, hz58, hs58, hb58, hzs58⟩ := info58
  obtain ⟨L, hL⟩ : ∃ L, L = len + 8 := ⟨_, rfl⟩
  have hln := hS.ln
  obtain ⟨W0, hmk, hrow1, hg1⟩ := run_make_full (P := Try.prog) w 0 55 58 i58 z58 4 Try.underlying55 h58 hz58 hs58 .i64 .i64 L (by rw [hb58]; omega) (by simp [maxLen]; omega) (Nat.zero_le _)
  obtain ⟨g, hg⟩ : ∃ g, g = w.heap.size := ⟨_, rfl⟩
  have hk1 : Kp w W0 := Chg.grown (Chg.refl w _) hg1 (fun k h => by cases h)
  rw [← hg] at hrow1 hmk
  rcases hrow1.2 with ⟨h, _⟩ | ⟨g', cap', cur, hv', _, hrow, _, _, hcs, _⟩
  · cases h
  obtain ⟨e1, e2⟩ : g' = g ∧ cap' = L := by
    simp at hv'
    exact ⟨hv'.1.symm, hv'.2.symm⟩
  subst e1 e2
  have KI : Hid (FuS w W0 g' cap' 0 0 l cur) := ⟨hrow, by simpa using hcs, fun q _ hq => by omega, hk1, hg⟩
  have KH : Hid (WI w lab D R ps hs ∧ SlotsIn w a len l ∧ SOk l ∧ len = l.length ∧ cap' = len + 8) := ⟨h, hS, hO, hln, hL⟩
  have hadd : (len : Int) + 8 = (cap' : Int) := by omega
  have hwr : IntKind.i64.wrap ((len : Int) + 8) = (cap' : Int) := by rw [← hadd]; simp [IntKind.wrap, IntKind.bits, IntKind.signed]; omega
  clear hL h hS hO hln hrow1 hg1 hk1 hrow hcs hg h58 hz58 hs58 hb58 hzs58 hv'
  go_enter Try.func40, Try.ntmps40
  go_upto_region 2 with fail
  clear hadd hwr hmk
  go_wp2_with fail
  go_loopw [8] (fun s8 wr => ∃ (j : Nat) (arr : Array Value), s8 = .int .i64 j ∧ j ≤ cap' ∧ Hid (FuS w wr g' cap' 0 j l arr)) (fun s8 _ => cap' - (intOf s8).toNat)
  case atStart => exact ⟨0, cur, rfl, by omega, KI⟩
  case round =>
    obtain ⟨j, arr, rfl, hj, HI⟩ := hrel
    clear KI
    have hcap : cap' ≤ 10000000000008 := by have := KH.out.2.2.2.2; omega
    by_cases hlt : j < cap'
    · have hltz : (j : Int) < (cap' : Int) := by omega
      obtain ⟨⟨z0, c0⟩, ⟨z1, c1⟩, ⟨z2, c2⟩, ⟨z3, c3⟩, f0, f1, f2, f3⟩ := HI.out.cells j hlt
      by_cases hjl : j < len
      · have hjlz : (j : Int) < (len : Int) := by omega
        have hjll : j < l.length := by rw [← KH.out.2.2.2.1]; exact hjl
        obtain ⟨gz, oz, ez, hgz, cz⟩ := KH.out.2.1.src.resolve_left (by omega)
        subst ez
        obtain ⟨W5, hW5⟩ : ∃ W, W = (((wr.setCell ⟨g', j * 4, none⟩ (.int .i64 777)).setCell ⟨g', j * 4 + 1, none⟩ (.int .u32 0)).setCell ⟨g', j * 4 + 2, none⟩ (.int .u32 0)).setCell ⟨g', j * 4 + 3, none⟩ (.int .u8 0) := ⟨_, rfl⟩
        have HA : FuS w W5 g' cap' 0 j l (setA arr j ((777, 0), (0, 0))) := by rw [hW5]; exact HI.out.any ((777, 0), (0, 0))
        obtain ⟨⟨y0, d0⟩, ⟨y1, d1⟩, ⟨y2, d2⟩, ⟨y3, d3⟩, k0, k1, k2, k3⟩ := HA.cells j hlt
        obtain ⟨x, hx⟩ : ∃ x, x = bAt l j := ⟨_, rfl⟩
        obtain ⟨b0, b1, b2, b3⟩ := cz j hjll
        rw [← bAt_get l j hjll, ← hx] at b0 b1 b2 b3
        have m0 := HA.kp.cell b0
        have m1 := HA.kp.cell b1
        have m2 := HA.kp.cell b2
        have m3 := HA.kp.cell b3
        have HK : Hid (FuS w (st4 W5 g' (j * 4) x) g' cap' 0 (j + 1) l (setA (setA arr j ((777, 0), (0, 0))) j x)) := HA.put hlt x (by rw [hx]; simp [fullS, hjll])
        clear cz HA b0 b1 b2 b3 hx
        go_upto_region 6 with fail
        rw [← hW5]
        clear hW5 c0 c1 c2 c3 f0 f1 f2 f3
        unfold st4 at HK
        go_wp2
        exact ⟨⟨j + 1, _, by go_num, by omega, HK⟩, by simp [intOf]; omega⟩
      · have hjlz : ¬ (j : Int) < (len : Int) := by omega
        have HK : Hid (FuS w _ g' cap' 0 (j + 1) l _) := HI.out.put hlt ((777, 0), (0, 0)) (by have := KH.out.2.2.2.1; simp [fullS]; omega)
        unfold st4 at HK
        go_wp2
        exact ⟨⟨j + 1, _, by go_num, by omega, HK⟩, by simp [intOf]; omega⟩
    · have hltz : ¬ (j : Int) < (cap' : Int) := by omega
      have ej : j = cap' := by omega
      subst ej
      have hSl : SlotsIn wr (some ⟨g', 0, none⟩) len l := ⟨KH.out.2.2.2.1, .inr ⟨g', 0, rfl, (Array.getElem?_eq_some_iff.1 HI.out.row).1, fun q hq => by
        have hh := HI.out.slot q (Nat.zero_le _) (by have := KH.out.2.2.2; omega)
        have hf : fullS l q = l[q] := by simp [fullS, hq, bAt_get l q hq]
        rw [hf] at hh
        rw [Nat.zero_add]
        exact hh⟩⟩
      have hc23 := tLoad_all wr n (some ⟨g', 0, none⟩) len j l hSl KH.out.2.2.1
      have hlj : (len : Int) ≤ (j : Int) := by have := KH.out.2.2.2.2; omega
      clear hSl hltz
      go_wp2_with fail
      go_at_call 23
      refine hc23.mono ?_
      intro e W1 h1
      clear hc23
      obtain ⟨pv, ec, he, hk1, J1⟩ : ∃ pv ec, e = .returned (.tuple #[pv, .int .i64 ec]) ∧ Kp wr W1 ∧ ((¬ LG n l ∧ pv = .pointer none ∧ ec = 50) ∨ (LG n l ∧ ec = 0 ∧ ∃ B M v k s, pv = .pointer (some ⟨B, 0, none⟩) ∧ IsT W1 B M v n.toNat k s ∧ s.slots = l ∧ (∀ i, Ft B M v i → wr.heap.size ≤ i) ∧ k ≤ 1000)) := by
        rcases h1 with ⟨q, rfl, hk⟩ | ⟨q, B, M, v, k, s, rfl, hT, hsl, hF, hk, hk2⟩
        · exact ⟨_, _, rfl, hk, .inl ⟨q, rfl, rfl⟩⟩
        · exact ⟨_, _, rfl, hk, .inr ⟨q, rfl, B, M, v, k, s, rfl, hT, hsl, hF, hk2⟩⟩
      subst he
      have K1 : Hid (Kp wr W1 ∧ ((¬ LG n l ∧ pv = .pointer none ∧ ec = 50) ∨ (LG n l ∧ ec = 0 ∧ ∃ B M v k s, pv = .pointer (some ⟨B, 0, none⟩) ∧ IsT W1 B M v n.toNat k s ∧ s.slots = l ∧ (∀ i, Ft B M v i → wr.heap.size ≤ i) ∧ k ≤ 1000))) := ⟨hk1, J1⟩
      have hc54 := rLoad_all W1 n a len cap l (KH.out.2.1.kp (Kp.trans HI.out.kp hk1))
      clear h1 hk1 J1
      go_wp2_with fail
      go_at_call 54
      refine hc54.mono ?_
      intro e W2 h2
      clear hc54
      obtain ⟨qv, he, J2⟩ : ∃ qv, e = .returned (.tuple #[qv, .int .i64 ec]) ∧ Kp w W2 ∧ FuS w W2 g' j 0 j l arr ∧ Kp W1 W2 ∧ Two2 w W2 pv qv ∧ (∀ V, Chg W2 V (fun i => i = g') → Kp w V → Two2 w V pv qv) := by
        obtain ⟨hk1, J1⟩ := K1.out
        have hsz : w.heap.size < wr.heap.size := by have := (Array.getElem?_eq_some_iff.1 HI.out.row).1; have := HI.out.new; omega
        rcases h2 with ⟨q, rfl, hk⟩ | ⟨q, C, u, rfl, hR, hG, hk⟩
        · rcases J1 with ⟨_, rfl, rfl⟩ | ⟨q2, _⟩
          · exact ⟨_, rfl, Kp.trans (Kp.trans HI.out.kp hk1) hk, (HI.out.later hk1).later hk, hk, .inl ⟨rfl, rfl⟩, fun V _ _ => .inl ⟨rfl, rfl⟩⟩
          · exact absurd q2 q
        · rcases J1 with ⟨q2, _⟩ | ⟨_, rfl, B, M, v, k, s, rfl, hT, hsl, hF, hk2⟩
          · exact absurd q q2
          · have key : ∀ V, Chg W2 V (fun i => i = g') → Kp w V → Two2 w V (.pointer (some ⟨B, 0, none⟩)) (.pointer (some ⟨C, 0, none⟩)) := fun V hV _ => by
              have hgn := HI.out.new
              refine .inr ⟨B, M, v, n.toNat, k, s, C, u, l, W1.heap.size, rfl, rfl, (hT.kp hk).kept hV (fun i hi e => by have := hF i hi; omega), hR.kept hV (fun i hi e => by have := hG i hi; have := hk1.size; omega), hsl.symm, hk2, by have := hk1.size; omega, fun i hi => ⟨by have := hF i hi; omega, hT.lt hi⟩, hG⟩
            exact ⟨_, rfl, Kp.trans (Kp.trans HI.out.kp hk1) hk, (HI.out.later hk1).later hk, hk, key W2 (Chg.refl _ _) (Kp.trans (Kp.trans HI.out.kp hk1) hk), key⟩
      subst he
      have K2 : Hid (Kp w W2 ∧ FuS w W2 g' j 0 j l arr ∧ (∀ V, Chg W2 V (fun i => i = g') → Kp w V → Two2 w V pv qv)) := ⟨J2.1, J2.2.1, J2.2.2.2.2⟩
      clear h2 J2 K1 HI
      go_wp2_with fail
      go_loopw [13] (fun s13 wx => ∃ (q : Nat) (ar : Array Value), s13 = .int .i64 q ∧ q ≤ j ∧ Hid (FuS w wx g' j q j l ar ∧ Chg W2 wx (fun i => i = g'))) (fun s13 _ => j - (intOf s13).toNat)
      case atStart => exact ⟨0, arr, rfl, by omega, K2.out.2.1, Chg.refl _ _⟩
      case round =>
        obtain ⟨q, ar, rfl, hq, HX⟩ := hrel
        by_cases hqj : q < j
        · have hqjz : (q : Int) < (j : Int) := by omega
          obtain ⟨s0, s1, s2, s3⟩ := HX.out.1.slot q (Nat.le_refl _) hqj
          obtain ⟨⟨z0, c0⟩, ⟨z1, c1⟩, ⟨z2, c2⟩, ⟨z3, c3⟩, f0, f1, f2, f3⟩ := HX.out.1.cells q hqj
          have hkw := HX.out.1.kp
          have HN : Hid (∀ dn : Nat, FuS w (st4 (wr.drewN dn) g' (q * 4) ((778, 0), (0, 0))) g' j (q + 1) j l (setA ar q ((778, 0), (0, 0))) ∧ Chg W2 (st4 (wr.drewN dn) g' (q * 4) ((778, 0), (0, 0))) (fun i => i = g')) := fun dn => by
            have h1 := HX.out.1.later (Chg.drewN (Chg.refl wr (fun _ => False)) dn)
            exact ⟨h1.over _, Chg.trans (Chg.drewN HX.out.2 dn) (st4_row _ g' (q * 4) ar ((778, 0), (0, 0)) h1.row).2 (fun i _ e => e)⟩
          clear c0 c1 c2 c3
          by_cases hql : q < len
          · have hqlz : (q : Int) < (len : Int) := by omega
            have hqlz2 : ¬ (len : Int) ≤ (q : Int) := by omega
            have hqlz3 : ¬ len ≤ q := by omega
            have hqll : q < l.length := by rw [← KH.out.2.2.2.1]; exact hql
            obtain ⟨gz, oz, ez, hgz, cz⟩ := KH.out.2.1.src.resolve_left (by omega)
            subst ez
            obtain ⟨x, hx⟩ : ∃ x, x = bAt l q := ⟨_, rfl⟩
            obtain ⟨b0, b1, b2, b3⟩ := cz q hqll
            rw [← bAt_get l q hqll, ← hx] at b0 b1 b2 b3
            have m0 := hkw.cell b0
            have m1 := hkw.cell b1
            have m2 := hkw.cell b2
            have m3 := hkw.cell b3
            have hf : fullS l q = x := by rw [hx]; simp [fullS, hqll]
            rw [hf] at s0 s1 s2 s3
            have hq58 := fun W => neqS x x W
            rw [decide_eq_true rfl] at hq58
            clear cz b0 b1 b2 b3 hf hx hkw
            go_wp2_with fail
            go_quiet (fail)
            go_wp2
            exact ⟨⟨q + 1, _, by go_num, by omega, HN.out _⟩, by simp [intOf]; omega⟩
          · have hqlz : ¬ (q : Int) < (len : Int) := by omega
            have hqlz2 : (len : Int) ≤ (q : Int) := by omega
            have hqlz3 : len ≤ q := by omega
            have hf : fullS l q = ((777, 0), (0, 0)) := by have := KH.out.2.2.2.1; unfold fullS; rw [if_neg (by omega)]
            rw [hf] at s0 s1 s2 s3
            simp only at s0
            clear hf hkw
            go_wp2_with fail
            go_quiet (fail)
            go_wp2
            exact ⟨⟨q + 1, _, by go_num, by omega, HN.out _⟩, by simp [intOf]; omega⟩
        · have hqjz : ¬ (q : Int) < (j : Int) := by omega
          have hcm := more_two w wr lab D R ps hs KH.out.1 HX.out.1.kp pv qv (K2.out.2.2 wr HX.out.2 HX.out.1.kp)
          go_wp2_with fail
          go_at_call 25
          refine hcm.mono ?_
          rintro e W9 ⟨rfl, hF⟩
          have KF : Hid (∃ lab' R' ps', WI W9 lab' D R' ps' hs ∧ Nx w lab W9 lab' ∧ Ld1 ps ps') := hF
          clear hcm hF
          go_wp2
          go_ret
          exact ⟨rfl, KF.out⟩
end Go.Proofs.Ytadpgaaijdpbiaa
namespace Go.Proofs.Ytadpgaaijdpbiaa
open Go.ChangeShapes Go.WideShapes Go.ChangeAt Go.RowKit Go.Shelf
set_option linter.unusedVariables false

/-- 'append(v, x)': it stays where it was, or nothing old is written. -/
theorem app_slotP (W : World) (v : Value) (l : List Sl4) (h : SR W v l) (hl : l.length ≤ 1000000) (x : Sl4) :
    ∃ v' W', (Builtin.append_ #[55, 55] 55 #[v, .slice (some ⟨W.heap.size, 0, none⟩) 1 1]).run Try.prog (W.alloc (.cells #[.int .i64 x.1.1, .int .u32 ((x.1.2 : Nat) : Int), .int .u32 ((x.2.1 : Nat) : Int), .int .u8 ((x.2.2 : Nat) : Int)] 58)) = .ok v' W' ∧
      SR W' v' (l ++ [x]) ∧ Chg W W' (fun i => v.ownBlock = some i) ∧ Loc W v v' ∧ (∃ ga ca, v' = .slice (some ⟨ga, 0, none⟩) (l.length + 1) ca) ∧ (v'.ownBlock = v.ownBlock ∨ Kp W W') := by
  obtain ⟨v', W', hr, q1, q2, q3, q4⟩ := app_slot W v l h hl x
  refine ⟨v', W', hr, q1, q2, q3, q4, ?_⟩
  obtain ⟨i58, z58, h58, hz58, hs58, hb58, hzs58⟩ := info58
  have hkA : Kp W (W.alloc (.cells #[.int .i64 x.1.1, .int .u32 ((x.1.2 : Nat) : Int), .int .u32 ((x.2.1 : Nat) : Int), .int .u8 ((x.2.2 : Nat) : Int)] 58)) := (Chg.refl W _).alloc _
  have hnw := heap_alloc_new W (.cells #[.int .i64 x.1.1, .int .u32 ((x.1.2 : Nat) : Int), .int .u32 ((x.2.1 : Nat) : Int), .int .u8 ((x.2.2 : Nat) : Int)] 58)
  have h1 := Chg.owns hkA h (fun _ _ x => x)
  rcases h.2 with ⟨rfl, h0⟩ | ⟨g, cap, cur, rfl, hbg, hg, hnc, hcm, hcs, htake⟩
  · exact .inr (q2.mono (fun i _ e => by cases e))
  · have hnews : ∀ j u, (scs [x])[j]? = some u → (W.alloc (.cells #[.int .i64 x.1.1, .int .u32 ((x.1.2 : Nat) : Int), .int .u32 ((x.2.1 : Nat) : Int), .int .u8 ((x.2.2 : Nat) : Int)] 58)).cell? ((⟨W.heap.size, 0, none⟩ : Addr).add j) = some u := fun j u hu => by
      rw [Addr.add_lit, (cells_at hnw _).1, Nat.zero_add, ← hu]; simp [scs]
    by_cases hroom : l.length + 1 ≤ cap
    · obtain ⟨w', hr2, _, _⟩ := run_append_fits (P := Try.prog) _ 0 55 55 58 i58 4 Try.underlying55 h58 hs58 g l.length cap (scs l) h1 ⟨W.heap.size, 0, none⟩ 1 1 (scs [x]) (by simp [scs]) hnews (scs_one _) hroom
      rw [hr] at hr2
      simp only [Result.ok.injEq] at hr2
      obtain ⟨rfl, _⟩ := hr2
      exact .inl rfl
    · have holds := h1.cells (g := g) rfl
      obtain ⟨v2, w2, hr2, _, h3⟩ := run_append_arg_grows (P := Try.prog) _ 55 55 58 i58 z58 4 24 Try.underlying55 h58 hz58 hs58 hb58 hzs58 (by omega) ⟨g, 0, none⟩ l.length cap (scs l) h1.1 holds ⟨W.heap.size, 0, none⟩ 1 1 (scs [x]) (by simp [scs]) hnews (by omega) (by simp [maxLen]; omega) (by omega)
      rw [hr] at hr2
      simp only [Result.ok.injEq] at hr2
      obtain ⟨rfl, rfl⟩ := hr2
      exact .inr (Chg.grown hkA h3 (fun k e => by cases e))
theorem scs_set (l : List Sl4) (j : Nat) (x : Sl4) (hj : j < l.length) : scs (l.set j x) = (setA (scs l).toArray j x).toList := by
  have hlen := scs_len l
  have hsz : (setA (scs l).toArray j x).size = l.length * 4 := by rw [setA_size]; simp [hlen]
  have hss := scs_len (l.set j x)
  rw [List.length_set] at hss
  apply List.ext_getElem?
  intro y
  rw [show (setA (scs l).toArray j x).toList[y]? = (setA (scs l).toArray j x)[y]? from Array.getElem?_toList]
  by_cases hy : y < l.length * 4
  · obtain ⟨i, c, hi, hc⟩ : ∃ i c, y = i * 4 + c ∧ c < 4 := ⟨y / 4, y % 4, by omega, by omega⟩
    have hil : i < l.length := by omega
    have hA : A54 (setA (scs l).toArray j x) i ((l.set j x)[i]'(by simpa using hil)) := by
      by_cases e : i = j
      · subst e
        simp only [List.getElem_set_self]
        exact setA_same _ _ _ (by simp [hlen]; omega)
      · rw [List.getElem_set_ne (by omega)]
        refine setA_other _ _ _ _ _ e ?_
        obtain ⟨a0, a1, a2, a3⟩ := scs_get l i hil
        exact ⟨by simpa using a0, by simpa using a1, by simpa using a2, by simpa using a3⟩
    obtain ⟨b0, b1, b2, b3⟩ := scs_get (l.set j x) i (by simpa using hil)
    obtain ⟨a0, a1, a2, a3⟩ := hA
    have hc' : c = 0 ∨ c = 1 ∨ c = 2 ∨ c = 3 := by omega
    rcases hc' with rfl | rfl | rfl | rfl
    · rw [hi, Nat.add_zero, b0, a0]
    · rw [hi, b1, a1]
    · rw [hi, b2, a2]
    · rw [hi, b3, a3]
  · rw [List.getElem?_eq_none (by omega), Array.getElem?_eq_none (by omega)]
/-- A slot of a row of one's own is written. -/
theorem SR.put {W : World} {v : Value} {l : List Sl4} (h : SR W v l) {g : Nat} (hg : v.ownBlock = some g) (j : Nat) (hj : j < l.length) (x : Sl4) : SR (st4 W g (j * 4) x) v (l.set j x) := by
  rcases h.2 with ⟨rfl, h0⟩ | ⟨g', cap, cur, rfl, hbg, hgg, hnc, hcm, hcs, htake⟩
  · cases hg
  · cases hg
    obtain ⟨r1, _⟩ := st4_row W g' (j * 4) cur x hgg
    have hlen : (l.set j x).length = l.length := by simp
    refine ⟨by rw [scs_len], .inr ⟨g', cap, setA cur j x, by rw [hlen], hbg, r1, by rw [hlen]; exact hnc, hcm, by rw [setA_size]; exact hcs, ?_⟩⟩
    rw [hlen, scs_set l j x hj]
    apply List.ext_getElem?
    intro y
    rw [show (setA (scs l).toArray j x).toList[y]? = (setA (scs l).toArray j x)[y]? from Array.getElem?_toList]
    have hsc : (scs l).toArray.size = l.length * 4 := by simp [scs_len]
    have hcs' : cur.size = cap * 4 := hcs
    have hle : l.length * 4 ≤ cur.size := by omega
    by_cases hy : y < l.length * 4
    · rw [List.getElem?_take_of_lt hy, Array.getElem?_toList]
      have hb : cur[y]? = (scs l).toArray[y]? := by
        have : (cur.toList.take (l.length * 4))[y]? = (scs l)[y]? := by rw [htake]
        rw [List.getElem?_take_of_lt hy, Array.getElem?_toList] at this
        simpa using this
      unfold setA
      simp only [Array.getElem?_setIfInBounds, Array.size_setIfInBounds, hb, hsc]
      have q0 : j * 4 < cur.size := by omega
      have q1 : j * 4 + 1 < cur.size := by omega
      have q2 : j * 4 + 2 < cur.size := by omega
      have q3 : j * 4 + 3 < cur.size := by omega
      have p0 : j * 4 < l.length * 4 := by omega
      have p1 : j * 4 + 1 < l.length * 4 := by omega
      have p2 : j * 4 + 2 < l.length * 4 := by omega
      have p3 : j * 4 + 3 < l.length * 4 := by omega
      simp only [q0, q1, q2, q3, p0, p1, p2, p3, if_true]
    · rw [List.getElem?_eq_none (by simp; omega), Array.getElem?_eq_none (by rw [setA_size, hsc]; omega)]
end Go.Proofs.Ytadpgaaijdpbiaa
