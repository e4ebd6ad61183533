import Derived.Test.YtfcpkcbiinbmiaaGl
import Derived.Deep.CutRange
namespace Go.Proofs.Ytfcpkcbiinbmiaa
open Go.ChangeShapes Go.WideShapes Go.ChangeAt Go.RowKit
set_option linter.unusedVariables false
theorem Bs.pre {w : World} {a : Option Addr} {len n : Nat} {bs : List Int} (h : Bs w a len bs) (hn : n ≤ len) : Bs w a n (bs.take n) := by
  obtain ⟨h1, h2, h3, h4⟩ := h
  refine ⟨by simp; omega, by omega, fun x hx => h3 x (List.mem_of_mem_take hx), ?_⟩
  rcases h4 with h4 | ⟨b, o, e, hc⟩
  · exact .inl (by omega)
  · refine .inr ⟨b, o, e, fun i hi => ?_⟩
    rw [hc i (by omega)]
    simp [List.getElem?_take_of_lt hi]
/-- What the loop's part with a Part or a read leaves. -/
def Aft (w0 wx : World) (B : Nat) (v : Value) (rd : List (Nat × Nat)) (es hs : List En) (k : Nat) : Prop := ∃ σ' fs', Rd w0 wx σ' B v rd es fs' hs k
set_option maxHeartbeats 8000000 in
set_option maxRecDepth 10000 in
theorem reads_walk (w : World) (a0 : Option Addr) (len0 cap0 : Nat) (bs0 : List Int) (sa : Option Addr) (sc : Nat) (os : List OpV) (hB : Bs w a0 len0 bs0) (hcap : len0 ≤ cap0) (hs : OpsIn w sa os) :
    Calls Try.prog 8 #[.slice a0 len0 cap0, .slice sa os.length sc] w fun e w' => e = .returned (.bool true) ∧ Below w.heap.size w w' := by
  have hlen := hB.2.1
  have hsl := hs.1
  have HS : Hid (OpsIn w sa os) := hs
  have HB : Hid (Bs w a0 len0 bs0) := hB
  clear hs hB
  go_enter Try.func8, Try.ntmps8
  go_wp2_with fail
  go_at_call 9
  refine (known_any w).mono ?_
  rintro e w1 ⟨rfl, hb1⟩
  have HB1 : Hid (Below w.heap.size w w1) := hb1
  clear hb1
  go_upto_if 24 with fail
  go_cut [0] from 25 to 26 (fun s0 wx => ∃ (n : Nat) (bs : List Int), s0 = .slice a0 n cap0 ∧ n ≤ 20000 ∧ n ≤ cap0 ∧ wx = w1 ∧ Hid (Bs w1 a0 n bs))
  case first =>
    by_cases hbig : 20000 < len0
    · have hz : (len0 : Int) > 20000 := by omega
      have hcz : (20000 : Int) ≤ (cap0 : Int) := by omega
      go_wp2
      go_meet
      exact ⟨20000, bs0.take 20000, by simp, by omega, by omega, rfl, (Below.bs HB.out HB1.out).pre (by omega)⟩
    · have hz : ¬ (len0 : Int) > 20000 := by omega
      go_wp2
      go_meet
      exact ⟨len0, bs0, rfl, by omega, by omega, rfl, Below.bs HB.out HB1.out⟩
  case rest =>
    obtain ⟨n, bs, rfl, hn, hnc, hwx, HBs⟩ := hcut
    rw [hwx]
    clear hwx
    clear HB hlen hcap
    obtain rfl : bs.length = n := HBs.out.1
    go_wp2_with fail
    go_at_call 12
    refine (lent_any w1 a0 bs.length cap0 bs HBs.out (by omega)).mono ?_
    rintro e w2 ⟨gl, cl, rfl, o2, hcl, hgl, k2⟩
    have hcz : (bs.length : Int) ≤ (cl : Int) := by omega
    have hlz : (bs.length : Int) ≤ ((bs.length + 2 : Nat) : Int) := by omega
    have hX2 : Bs w2 (some ⟨gl, 0, none⟩) bs.length bs := by
      have hl9 : (bs ++ [90, 165] : List Int).length = bs.length + 2 := by simp
      refine ⟨rfl, by omega, fun x hx => o2.2 x (by simp [hx]), .inr ⟨gl, 0, rfl, fun i hi => ?_⟩⟩
      have o2' : OwnB w2 (.slice (some ⟨gl, 0, none⟩) (bs ++ [90, 165] : List Int).length cl) (bs ++ [90, 165]) := by rw [hl9]; exact o2
      rw [Nat.zero_add, (o2'.cellAt i (by rw [hl9]; omega)).1]
      simp [List.getElem?_append_left hi]
    have HO2 : Hid (OwnB w2 (.slice (some ⟨gl, 0, none⟩) (bs.length + 2) cl) (bs ++ [90, 165]) ∧ Bs w2 (some ⟨gl, 0, none⟩) bs.length bs ∧ w1.heap.size ≤ gl ∧ Kp w1 w2 ∧ gl < w2.heap.size) := ⟨o2, hX2, hgl, k2, o2.lt rfl⟩
    clear o2 hX2 hgl k2
    go_wp2_with fail
    go_at_call 15
    refine (newReader_any w2 (some ⟨gl, 0, none⟩) bs.length _ bs HO2.out.2.1).mono ?_
    rintro e w3 ⟨R, a3, c3, rfl, r3, k3, sR, fa⟩
    have HR : Hid (IsR w3 R a3 c3 bs 0 0 0 ∧ Kp w2 w3 ∧ w2.heap.size ≤ R ∧ ∀ b o, a3 = some ⟨b, o, none⟩ → w2.heap.size ≤ b) := ⟨r3, k3, sR, fa⟩
    clear r3 k3 sR fa
    go_wp2_with fail
    go_at_call 13
    refine (kept_any w3 gl cl bs a0 cap0 (HO2.out.1.chg HR.out.2.1 (by simp)) hcl (by omega) ((HBs.out.chg HO2.out.2.2.2.1 (by simp)).chg HR.out.2.1 (by simp))).mono ?_
    rintro e w4 ⟨rfl, _, k4⟩
    have HA0 : Hid (IsRS w4 R a3 c3 ⟨bs, 0, 0, 0⟩ ∧ Bs w4 a0 bs.length bs ∧ Below w.heap.size w w4 ∧ w.heap.size ≤ R ∧ (∀ b o, a3 = some ⟨b, o, none⟩ → 0 < bs.length → b < w4.heap.size)) := by
      obtain ⟨r3, k3, sR, fa⟩ := HR.out
      obtain ⟨_, _, q3, q4, q5⟩ := HO2.out
      have q0 := HB1.out.size
      have hbel3 : Below w.heap.size w w3 := (HB1.out.trans (Chg.below q4 q0 (by simp))).trans (Chg.below k3 (Nat.le_trans q0 q4.size) (by simp))
      refine ⟨IsRS.other (s := ⟨bs, 0, 0, 0⟩) r3 k4 (fun e => by omega) (fun b o e _ h' => by have := fa b o e; omega), ?_, hbel3.trans (k4.below hbel3.size (fun k hk e => by omega)), by have := q4.size; omega, fun b o e hl => ?_⟩
      · refine ((HBs.out.chg q4 (by simp)).chg k3 (by simp)).chg k4 (fun b o e hl h' => ?_)
        have h9 := HBs.out
        rw [e] at h9
        rcases h9.2.2.2 with h8 | ⟨b', o', e', hc⟩
        · omega
        · have hlt := lt_of_cell (hc 0 hl)
          simp only [Option.some.injEq, Addr.mk.injEq, and_true] at e'
          omega
      · have h9 := r3.bytes
        rw [e] at h9
        rcases h9.2.2.2 with h8 | ⟨b', o', e', hc⟩
        · omega
        · have hlt := lt_of_cell (hc 0 hl)
          simp only [Option.some.injEq, Addr.mk.injEq, and_true] at e'
          have := k4.size
          omega
    clear k4 HR HO2 HBs HB1 hcz hlz
    go_wp2_with fail
    go_at_call 37
    refine (dnew_any w4 a0 bs.length cap0 bs HA0.out.2.1).mono ?_
    rintro e w5 ⟨D, b5, c5, rfl, d5, k5, sD, fb⟩
    have HI : Hid (∃ σ, Rd w ((w5.alloc (.cells #[.pointer (some ⟨R, 0, none⟩), .pointer (some ⟨D, 0, none⟩)] 77)).alloc (.cells #[.slice none 0 0, .slice none 0 0, .slice none 0 0, .slice none 0 0, .slice none 0 0, .slice none 0 0] 64)) σ (w5.heap.size + 1) (.slice (some ⟨w5.heap.size, 0, none⟩) 1 1) [(R, D)] [] [] [] 0) := by
      obtain ⟨r4, b4, bel4, sR, la⟩ := HA0.out
      have k5' : Kp w4 w5 := k5
      have ka : Kp w5 (w5.alloc (.cells #[.pointer (some ⟨R, 0, none⟩), .pointer (some ⟨D, 0, none⟩)] 77)) := Kp.al _ _
      have kb : Kp (w5.alloc (.cells #[.pointer (some ⟨R, 0, none⟩), .pointer (some ⟨D, 0, none⟩)] 77)) ((w5.alloc (.cells #[.pointer (some ⟨R, 0, none⟩), .pointer (some ⟨D, 0, none⟩)] 77)).alloc (.cells #[.slice none 0 0, .slice none 0 0, .slice none 0 0, .slice none 0 0, .slice none 0 0, .slice none 0 0] 64)) := Kp.al _ _
      have kab := ka.trans kb
      have z4 := bel4.size
      have z5 := k5'.size
      have hKz : ((w5.alloc (.cells #[.pointer (some ⟨R, 0, none⟩), .pointer (some ⟨D, 0, none⟩)] 77)).alloc (.cells #[.slice none 0 0, .slice none 0 0, .slice none 0 0, .slice none 0 0, .slice none 0 0, .slice none 0 0] 64)).heap[w5.heap.size + 1]? = some (.cells #[.slice none 0 0, .slice none 0 0, .slice none 0 0, .slice none 0 0, .slice none 0 0, .slice none 0 0] 64 (0, 0)) := by
        have := heap_alloc_new (w5.alloc (.cells #[.pointer (some ⟨R, 0, none⟩), .pointer (some ⟨D, 0, none⟩)] 77)) (.cells #[.slice none 0 0, .slice none 0 0, .slice none 0 0, .slice none 0 0, .slice none 0 0, .slice none 0 0] 64)
        simpa using this
      have bel5 : Below w.heap.size w w5 := bel4.trans (Chg.below k5' z4 (by simp))
      obtain ⟨σ, hW⟩ := WI.init (w0 := w) (bel5.trans (Chg.below kab bel5.size (by simp))) ((r4.kp k5').kp kab) (d5.kp kab) hn (kb.heap (heap_alloc_new w5 _)) hKz sR (by omega) (by omega) (by omega) (fun x o e hl => by have := la x o e hl; omega) (fun x o e hl => by
        have h9 := d5.bytes
        rw [e] at h9
        have := bs_lt h9 hl
        omega)
      exact ⟨σ, hW, by simp, by simp, by simp, by simp, by simp, by simp, by simp⟩
    clear HA0 d5 k5 sD fb
    go_wp2_with fail
    generalize w5.heap.size + 1 = K at *
    go_loopw [9, 11, 12, 13, 14, 15, 16, 17, 18] (fun s9 s11 s12 s13 s14 s15 s16 s17 s18 wr => ∃ (k m : Nat) (a : Option Addr) (c : Nat), s9 = .slice a m c ∧ s11 = .int .i64 k ∧ k ≤ 200 ∧ k ≤ os.length ∧ m ≤ 8 ∧ 1 ≤ m ∧ Hid (∃ σ rd es hs, rd.length = m ∧ Rd w wr σ K (.slice a m c) rd es [] hs k)) (fun _ s11 _ _ _ _ _ _ _ _ => 200 - nI s11)
    case atStart =>
      obtain ⟨σ, hR⟩ := HI.out
      exact ⟨0, 1, _, _, rfl, rfl, by omega, by omega, by omega, by omega, σ, _, _, _, rfl, hR⟩
    case round =>
      obtain ⟨k, m, a, c, rfl, rfl, hk, hk2, hm8, hm1, HR⟩ := hrel
      clear HI
      by_cases hlt : k < os.length ∧ k < 200
      · obtain ⟨hl1, hl2⟩ := hlt
        have h1z : (k : Int) < (os.length : Int) := by omega
        have h2z : (k : Int) < 200 := by omega
        obtain ⟨σ, rd, es, hs, hrm, hR⟩ := HR.out
        obtain ⟨sb, so, hsa, hop⟩ := HS.out.2.2.resolve_left (by omega)
        subst hsa
        obtain ⟨o0, o1, o2, o3, o4⟩ := (hop k hl1).below hR.i.bel
        have hok := HS.out.2.1 os[k] (List.getElem_mem hl1)
        clear hop
        generalize os[k] = ov at *
        obtain ⟨kind, nn, kk, ba, bl, bc, vb, str⟩ := ov
        simp only at o0 o1 o2 o3 o4
        have hkk : kk ≤ 9223372036854775807 := hok.2.2.2
        obtain ⟨r, hr⟩ : ∃ r, nn.tmod 1000003 = r := ⟨_, rfl⟩
        have hrb : 0 ≤ r ∧ r < 1000003 := by
          have h0 : 0 ≤ nn := hok.2.1.1
          rw [← hr]
          exact ⟨Int.tmod_nonneg _ h0, Int.tmod_lt_of_pos _ (by omega)⟩
        have hw1 : IntKind.u64.wrap r = r := by simp [IntKind.wrap, IntKind.bits, IntKind.signed]; omega
        have hw2 : IntKind.i64.wrap r = r := w64 (by omega) (by omega)
        have hpk := fun wx : World => pick_any wx r m (by omega) (by omega) (by omega) (by omega)
        have hjm := pickN_lt r m (by omega)
        generalize pickN r m = j at *
        obtain ⟨q, hq⟩ : ∃ q, rd[j]? = some q := ⟨_, List.getElem?_eq_getElem (by omega)⟩
        obtain ⟨g, c', eg, y0, y1⟩ := hR.i.at hq
        rw [hrm] at eg
        obtain ⟨rfl, rfl⟩ : a = some ⟨g, 0, none⟩ ∧ c = c' := by simpa using eg
        have hmem : q ∈ rd := List.mem_of_getElem? hq
        obtain ⟨R1, D1⟩ := q
        simp only at y0 y1
        clear hq eg hok
        obtain ⟨W1, hW1⟩ : ∃ W1, W1 = wr.alloc (.cells #[.int .i64 kind, .int .u64 nn, .int .i64 kk, .slice ba bl bc, .string str] 44) := ⟨_, rfl⟩
        have kW1 : Kp wr W1 := by rw [hW1]; exact Kp.al _ _
        have z0 := kW1.cell y0
        have z1 := kW1.cell y1
        rw [hW1] at z0 z1
        obtain ⟨W2, hW2⟩ : ∃ W2, W2 = W1.alloc (.cells #[.pointer (some ⟨R1, 0, none⟩), .pointer (some ⟨D1, 0, none⟩)] 77) := ⟨_, rfl⟩
        have kW2 : Kp W1 W2 := by rw [hW2]; exact Kp.al _ _
        have hs1 : W1.heap.size = wr.heap.size + 1 := by rw [hW1]; simp
        have b1 : W2.heap[wr.heap.size]? = some (.cells #[.int .i64 kind, .int .u64 nn, .int .i64 kk, .slice ba bl bc, .string str] 44 (0, 0)) := kW2.heap (by rw [hW1]; exact heap_alloc_new wr _)
        have b2 : W2.heap[wr.heap.size + 1]? = some (.cells #[.pointer (some ⟨R1, 0, none⟩), .pointer (some ⟨D1, 0, none⟩)] 77 (0, 0)) := by rw [hW2, ← hs1]; exact heap_alloc_new W1 _
        have HW : Hid (Rd w W2 σ K (.slice (some ⟨g, 0, none⟩) m c) rd es [] hs k ∧ (R1, D1) ∈ rd ∧ rd.length = m ∧ wr.heap.size + 1 < W2.heap.size ∧ R1 < wr.heap.size ∧ D1 < wr.heap.size) := by
          obtain ⟨_, _, _, _, _, hp⟩ := hR.i.pr _ hmem
          exact ⟨hR.kp (kW1.trans kW2), hmem, hrm, by rw [hW2]; simp [hs1], hp_lt hp.r.box, hp_lt hp.d.box⟩
        clear hR HR hmem hrm kW1 kW2 hs1
        rw [hW1] at hW2
        clear hW1
        go_upto_region 17 with (first | (go_at_call 10; refine (hpk _).mono ?_; rintro e wx ⟨rfl, rfl⟩) | fail)
        clear hpk o0 o1 o2 o3 o4 y0 y1 z0 z1 hr hw1 hw2
        rw [← hW2]
        clear hW2
        generalize wr.heap.size = T1 at *
        have p0 : W2.cell? ⟨T1, 0, none⟩ = some (.int .i64 kind) := by rw [(cells_at b1 _).1]; rfl
        have p1 : W2.cell? ⟨T1, 1, none⟩ = some (.int .u64 nn) := by rw [(cells_at b1 _).1]; rfl
        have p2 : W2.cell? ⟨T1, 2, none⟩ = some (.int .i64 kk) := by rw [(cells_at b1 _).1]; rfl
        have p3 : W2.cell? ⟨T1, 3, none⟩ = some (.slice ba bl bc) := by rw [(cells_at b1 _).1]; rfl
        have p4 : W2.cell? ⟨T1, 4, none⟩ = some (.string str) := by rw [(cells_at b1 _).1]; rfl
        have p5 : W2.cell? ⟨T1 + 1, 0, none⟩ = some (.pointer (some ⟨R1, 0, none⟩)) := by rw [(cells_at b2 _).1]; rfl
        have p6 : W2.cell? ⟨T1 + 1, 1, none⟩ = some (.pointer (some ⟨D1, 0, none⟩)) := by rw [(cells_at b2 _).1]; rfl
        clear b1 b2
        go_upto_if 80 with fail
        go_cut [9, 14, 15] from 80 to 103 (fun s9 s14 s15 wx => ∃ (m' : Nat) (a' : Option Addr) (c' : Nat), s9 = .slice a' m' c' ∧ s14 = .bool true ∧ m' ≤ 8 ∧ 1 ≤ m' ∧ Hid (∃ σ rd fs, rd.length = m' ∧ Rd w wx σ K (.slice a' m' c') rd es fs hs k))
        case first =>
          obtain ⟨hRd, hmem, hrm, hz1, hz2, hz3⟩ := HW.out
          by_cases h8 : kind = 8
          · subst h8
            obtain ⟨a1, b1, ca1, cb1, s1, hp⟩ := hRd.i.pr _ hmem
            have d5 := (Kp.drew W2).cell p5
            have d6 := (Kp.drew W2).cell p6
            have hc1 : Hid (∀ w1, Kp W2 w1 → Calls Try.prog 23 #[.pointer (some ⟨R1, 0, none⟩)] w1 fun e x => ∃ R2 : Nat, e = .returned (.pointer (some ⟨R2, 0, none⟩)) ∧ Chg w1 x (fun k => k = R1) ∧ P1 R1 a1 ca1 s1 w1 x R2) := fun w1 h1 => by
              refine (part_any w1 R1 a1 ca1 s1 (hp.r.kp h1)).mono ?_
              rintro e x ⟨R2, a2, c2, rfl, q1, q2, q3, q4, q5⟩
              exact ⟨R2, rfl, q3, a2, c2, q1, q2, q4, q5⟩
            have hc2 : Hid (∀ w1 x R2 w2, Kp W2 w1 → Chg w1 x (fun k => k = R1) → P1 R1 a1 ca1 s1 w1 x R2 → Kp x w2 → Calls Try.prog 38 #[.pointer (some ⟨D1, 0, none⟩)] w2 fun e y => ∃ D2 : Nat, e = .returned (.pointer (some ⟨D2, 0, none⟩)) ∧ Chg w2 y (fun k => k = D1) ∧ P2 D1 b1 cb1 s1 w2 y D2) := fun w1 x R2 w2 h1 h2 _ h4 => by
              have hd := (((hp.d.kp h1).after (hp.r.kp h1) h2).kp h4)
              refine (dpart_any w2 D1 b1 cb1 s1 hd).mono ?_
              rintro e y ⟨D2, b2, c2, rfl, q1, q2, q3, q4, q5⟩
              exact ⟨D2, rfl, q3, b2, c2, q1, q2, q4, q5⟩
            go_upto_region 18 with fail
            refine reg8_18 W2 (T1 + 1) R1 D1 ⟨d5, d6⟩ hz1 (by omega) (by omega) (by omega) (by omega) (P1 R1 a1 ca1 s1) (P2 D1 b1 cb1 s1) hc1.out hc2.out _ (fun _ _ _ q _ h => by cases q <;> exact h) ?_
            intro w1 x1 w2 x2 w3 R2 D2 qq k1 c1 t1 k2 c2 t2 hqs hqb c3 h9
            obtain ⟨hW3, ⟨a2, b2, ca2, cb2, s2, hp2⟩, hR2, hD2⟩ := hRd.i.part hmem hp k1 c1 t1 k2 c2 t2 hqs hqb c3
            have u0 : w3.cell? ⟨qq, 0, none⟩ = some (.pointer (some ⟨R2, 0, none⟩)) := by rw [(cells_at h9 _).1]; rfl
            have u1 : w3.cell? ⟨qq, 1, none⟩ = some (.pointer (some ⟨D2, 0, none⟩)) := by rw [(cells_at h9 _).1]; rfl
            have HX : Hid (WI w w3 σ K (.slice (some ⟨g, 0, none⟩) m c) rd es [] hs ∧ Pr w3 σ R2 D2 a2 b2 ca2 cb2 s2 ∧ W2.heap.size ≤ R2 ∧ W2.heap.size ≤ D2) := ⟨hW3, hp2, hR2, hD2⟩
            clear hc1 hc2 hW3 hp2 hR2 hD2 k1 c1 t1 k2 c2 t2 hqs hqb c3 h9 hp d5 d6 hRd hmem p0 p1 p2 p3 p4 p5 p6
            go_wp2_with fail
            go_at_call 39
            refine (alike_any w3 R2 D2 a2 b2 ca2 cb2 s2 HX.out.2.1.r HX.out.2.1.d).mono ?_
            rintro e w4 ⟨rfl, k4⟩
            have v0 := k4.cell u0
            have v1 := k4.cell u1
            clear u0 u1
            by_cases hm7 : m < 8
            · have hmz : (m : Int) < 8 := by omega
              have hlt1 : ∀ q, q ∈ rd → q.1 ≠ R2 := fun q hq e => by
                obtain ⟨_, _, _, _, _, hp⟩ := HW.out.1.i.pr q hq
                have := hp_lt hp.r.box
                have := HX.out.2.2.1
                omega
              have hlt2 : ∀ q, q ∈ rd → q.2 ≠ D2 := fun q hq e => by
                obtain ⟨_, _, _, _, _, hp⟩ := HW.out.1.i.pr q hq
                have := hp_lt hp.d.box
                have := HX.out.2.2.2
                omega
              have hsz := HW.out.1.i.sz
              obtain ⟨ax, cx, w6, hrun, σ6, hW6⟩ := (HX.out.1.kp k4).add ⟨a2, b2, ca2, cb2, s2, HX.out.2.1.kp k4⟩ hlt1 hlt2 (by have := HX.out.2.2.1; omega) (by have := HX.out.2.2.2; omega) (by omega)
              rw [hrm] at hrun hW6
              have HF : Hid (∃ σ rd fs, rd.length = m + 1 ∧ Rd w w6 σ K (.slice ax (m + 1) cx) rd es fs hs k) := by
                obtain ⟨h1, h2, h3, h4, h5, h6, h7, h8⟩ := HW.out.1
                exact ⟨σ6, _, [], by simp [hrm], hW6, h2, h3, by simp, h5, by simp, by simp, by simp; omega⟩
              clear hlt1 hlt2 hsz hW6 HX
              go_wp2_with (first | (at_builtin; refine wpList_append_run _ rfl (.tmp 96) (.tmp 98) 78 78 rfl _ _ (.slice ax (m + 1) cx) w6 rfl rfl hrun ?_) | fail)
              go_meet
              exact ⟨m + 1, ax, cx, rfl, rfl, by omega, by omega, HF.out⟩
            · have hmz : ¬ (m : Int) < 8 := by omega
              have HF : Hid (∃ σ rd fs, rd.length = m ∧ Rd w w4 σ K (.slice (some ⟨g, 0, none⟩) m c) rd es fs hs k) := by
                obtain ⟨h1, h2, h3, h4, h5, h6, h7, h8⟩ := HW.out.1
                exact ⟨σ, rd, [], hrm, HX.out.1.kp k4, h2, h3, h4, h5, h6, h7, h8⟩
              clear HX
              go_wp2_with fail
              go_meet
              exact ⟨m, _, _, rfl, rfl, by omega, by omega, HF.out⟩
          · have h8z : (kind == 8) = false := by simpa using h8
            have hrd := reads_any (kd := kind) (n := nn) (k := kk) (v1 := .slice ba bl bc) (v2 := .string str) hRd.i hmem hRd.nh hkk
            clear hRd hmem
            go_wp2_with fail
            go_at_call 40
            refine hrd.mono ?_
            rintro e w4 ⟨rfl, σ', fs', hW, hl, ho⟩
            have HF : Hid (∃ σ rd fs, rd.length = m ∧ Rd w w4 σ K (.slice (some ⟨g, 0, none⟩) m c) rd es fs hs k) := by
              obtain ⟨h1, h2, h3, h4, h5, h6, h7, h8⟩ := HW.out.1
              exact ⟨σ', rd, fs', hrm, hW, h2, h3, hl, h5, ho, h7, h8⟩
            clear hrd hW hl ho p0 p1 p2 p3 p4 p5 p6
            go_wp2_with fail
            go_meet
            exact ⟨m, _, _, rfl, rfl, by omega, by omega, HF.out⟩
        case rest =>
          obtain ⟨m', a', c', rfl, rfl, hm8', hm1', HF⟩ := hcut
          clear HW p0 p1 p2 p3 p4 p5 p6
          obtain ⟨σ', rd', fs', hrm', hR'⟩ := HF.out
          clear HF
          have hlk := hR'.look (by omega)
          clear hR'
          go_wp2_with fail
          go_at_call 35
          refine hlk.mono ?_
          rintro e wL ⟨rfl, σL, esL, hRL⟩
          have HL : Hid (Rd w wL σL K (.slice a' m' c') rd' esL [] fs' (k + 1) ∧ rd'.length = m') := ⟨hRL, hrm'⟩
          clear hlk hRL hrm'
          go_wp2_with fail
          go_loopw [17, 18] (fun s17 s18 wq => ∃ j : Nat, s17 = .int .i64 j ∧ j ≤ m' ∧ Hid (Kp wL wq)) (fun s17 _ _ => m' - nI s17)
          case atStart => exact ⟨0, rfl, by omega, Kp.refl _⟩
          case round =>
            obtain ⟨j, rfl, hj, HK⟩ := hrel
            rename World => wq
            by_cases hjm : j < m'
            · have hjz : (j : Int) < (m' : Int) := by omega
              obtain ⟨hRL, hrm'⟩ := HL.out
              obtain ⟨q, hq⟩ : ∃ q, rd'[j]? = some q := ⟨_, List.getElem?_eq_getElem (by omega)⟩
              obtain ⟨g, c9, eg, y0, y1⟩ := hRL.i.at hq
              rw [hrm'] at eg
              obtain ⟨rfl, rfl⟩ : a' = some ⟨g, 0, none⟩ ∧ c' = c9 := by simpa using eg
              have z0 := HK.out.cell y0
              have z1 := HK.out.cell y1
              obtain ⟨a1, b1, ca1, cb1, s1, hp⟩ := hRL.i.pr q (List.mem_of_getElem? hq)
              have hal := alike_any wq q.1 q.2 a1 b1 ca1 cb1 s1 (hp.r.kp HK.out) (hp.d.kp HK.out)
              clear hRL hrm' hq eg y0 y1 hp
              obtain ⟨R9, D9⟩ := q
              simp only at z0 z1 hal
              go_wp2_with fail
              go_at_call 39
              refine hal.mono ?_
              rintro e wn ⟨rfl, kn⟩
              have HK2 : Hid (Kp wL wn) := HK.out.trans kn
              clear hal kn z0 z1
              go_wp2_with fail
              exact ⟨⟨j + 1, by go_num, by omega, HK2.out⟩, by simp [nI]; omega⟩
            · have hjz : ¬ (j : Int) < (m' : Int) := by omega
              go_wp2_with fail
              exact ⟨⟨k + 1, m', a', c', rfl, by go_num, by omega, by omega, by omega, by omega, σL, rd', esL, fs', HL.out.2, HL.out.1.kp HK.out⟩, by simp [nI]; omega⟩
      · obtain ⟨σ, rd, es, hs, hrm, hR⟩ := HR.out
        have hlk := hR.look (by omega)
        clear HR hR
        by_cases hl1 : k < os.length
        · have h1z : (k : Int) < (os.length : Int) := by omega
          have h2z : ¬ (k : Int) < 200 := by omega
          go_wp2_with fail
          go_at_call 35
          refine hlk.mono ?_
          rintro e wL ⟨rfl, σL, esL, hRL⟩
          have hlk2 := hRL.look (by omega)
          clear hlk hRL
          go_wp2_with fail
          go_at_call 35
          refine hlk2.mono ?_
          rintro e wM ⟨rfl, σM, esM, hRM⟩
          have HE : Hid (Below w.heap.size w wM) := hRM.i.bel
          clear hlk2 hRM
          go_wp2
          go_ret
          exact ⟨rfl, HE.out⟩
        · have h1z : ¬ (k : Int) < (os.length : Int) := by omega
          go_wp2_with fail
          go_at_call 35
          refine hlk.mono ?_
          rintro e wL ⟨rfl, σL, esL, hRL⟩
          have hlk2 := hRL.look (by omega)
          clear hlk hRL
          go_wp2_with fail
          go_at_call 35
          refine hlk2.mono ?_
          rintro e wM ⟨rfl, σM, esM, hRM⟩
          have HE : Hid (Below w.heap.size w wM) := hRM.i.bel
          clear hlk2 hRM
          go_wp2
          go_ret
          exact ⟨rfl, HE.out⟩
end Go.Proofs.Ytfcpkcbiinbmiaa
