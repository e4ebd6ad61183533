import Derived.Test.YtadpgaaijdpbiaaUk
import Derived.Test.YtadpgaaijdpbiaaTt
import Derived.Deep.RegionHeld3
import Derived.Deep.Cut
namespace Go.Proofs.Ytadpgaaijdpbiaa
open Go.ChangeShapes Go.WideShapes Go.ChangeAt Go.RowKit Go.Shelf
set_option linter.unusedVariables false

/-- How the world begins. -/
def lab0 (a b c : Nat) (i : Nat) : Nat := if i < a then 6 else if i = a then 0 else if i < b then 7 else if i < c then 10 else 11
theorem lab0_one {a b c : Nat} : lab0 a b c a = 0 := by simp [lab0]
theorem lab0_six {a b c i : Nat} (h : i < a) : lab0 a b c i = 6 := by simp [lab0, h]
theorem lab0_ten {a b c i : Nat} (h1 : a < b) (h2 : b ≤ i) (h3 : i < c) : lab0 a b c i = 10 := by
  unfold lab0; rw [if_neg (by omega), if_neg (by omega), if_neg (by omega), if_pos h3]
theorem lab0_el {a b c i : Nat} (h1 : a < b) (h2 : b ≤ c) (h3 : c ≤ i) : lab0 a b c i = 11 := by
  unfold lab0; rw [if_neg (by omega), if_neg (by omega), if_neg (by omega), if_neg (by omega)]
theorem WI.none {W : World} {D b c : Nat} (h : W.heap[D]? = some (.cells #[.slice none 0 0, .slice none 0 0, .slice none 0 0, .slice none 0 0] 69 (0, 0))) :
    WI W (lab0 D b c) D ⟨.slice none 0 0, .slice none 0 0, .slice none 0 0, .slice none 0 0⟩ [] [] :=
  ⟨h, World.ownsRow_nil _ 0 26 1, World.ownsRow_nil _ 0 70 1, World.ownsRow_nil _ 0 55 1, World.ownsRow_nil _ 0 3 1, lab0_one, fun _ e => (by cases e), fun _ e => (by cases e), fun _ e => (by cases e), fun _ e => (by cases e), by simp, fun i p e => (by simp at e), fun h e => (by simp at e)⟩
theorem PrIs.first {W2 W3 W4 : World} {D n : Nat} (hD : D < W2.heap.size) (hk : Kp W2 W3) (hT : IsT W3 (W2.heap.size + 1) W2.heap.size (.slice none 0 0) n 0 Sta.none) (hR : IsR W4 W3.heap.size (.slice none 0 0) n []) (hk2 : Kp W3 W4) :
    PrIs W4 (lab0 D W2.heap.size W3.heap.size) 0 ⟨W2.heap.size + 1, W2.heap.size, .slice none 0 0, n, 0, Sta.none, W3.heap.size, .slice none 0 0, []⟩ := by
  refine ⟨hT.kp hk2, hR, fun b hb => ?_, fun b hb => ?_⟩
  · have := hT.lt hb
    rcases hb with e | e | e
    · simp only at e; exact lab0_ten hD (by omega) this
    · simp only at e; exact lab0_ten hD (by omega) this
    · cases e
  · rcases hb with e | e
    · simp only at e; exact lab0_el hD hk.size (by omega)
    · cases e
/-- One TLB at the beginning. -/
theorem GoX.begin {w W4 W5 : World} {D : Nat} {lab lab' : Nat → Nat} {R' : Rows} {p : Pr} (hk : Kp w W4) (h6 : ∀ i, i < w.heap.size → lab i = 6) (h : WI W5 lab' D R' ([] ++ [p]) []) (hn : Nx W4 lab W5 lab') (h1 : p.l = p.s.slots) (h2 : p.k = 0) : GoX w W5 D 0 := by
  obtain ⟨q1, q2⟩ := Nx.six hk h6 hn
  exact ⟨lab', R', [p], [], h, q1, q2, fun q hq => by rw [List.mem_singleton.1 hq]; exact ⟨h1, by omega⟩, by simp, by simp⟩
def Sb8 (D gx gy j np cx cy B C : Nat) (ua : Option Addr) (ul uc : Nat) (w : World) : Prop := w.cell? ⟨D, 0, none⟩ = some (.slice (some ⟨gx, 0, none⟩) np cx) ∧ w.cell? ⟨D, 1, none⟩ = some (.slice (some ⟨gy, 0, none⟩) np cy) ∧ w.cell? ⟨gx, j, none⟩ = some (.pointer (some ⟨B, 0, none⟩)) ∧ w.cell? ⟨gy, j, none⟩ = some (.pointer (some ⟨C, 0, none⟩)) ∧ w.cell? ⟨C, 1, none⟩ = some (.slice ua ul uc)
theorem Sb8.kp {D gx gy j np cx cy B C : Nat} {ua : Option Addr} {ul uc : Nat} {w w' : World} (h : Sb8 D gx gy j np cx cy B C ua ul uc w) (hk : Kp w w') : Sb8 D gx gy j np cx cy B C ua ul uc w' :=
  ⟨Kp.cell hk h.1, Kp.cell hk h.2.1, Kp.cell hk h.2.2.1, Kp.cell hk h.2.2.2.1, Kp.cell hk h.2.2.2.2⟩

set_option maxHeartbeats 8000000 in
set_option maxRecDepth 20000 in
theorem does_walk (w : World) (a0 : Int) (h0 : InI a0) (a : Option Addr) (len cap : Nat) (F : Nat → Opv) (Z : Nat → Nat → Int) (l : Nat → List Sl4) (hS : ScriptIn w a len F Z l) :
    Calls Try.prog 8 #[.int .i64 a0, .slice a len cap] w fun e w' => e = .returned (.bool true) ∧ Kp w w' := by
  have hle := hS.le
  obtain ⟨m, hm⟩ : ∃ m, m = pk a0 64 := ⟨_, rfl⟩
  have hml : m < 64 := by rw [hm]; exact pk_lt a0 64 (by omega)
  have hP : ∀ wx, Calls Try.prog 10 #[.int .i64 a0, .int .i64 64] wx fun e w' => e = .returned (.int .i64 ((m : Nat) : Int)) ∧ w' = wx := by
    intro wx; rw [hm]; exact pick_any wx a0 64 (by omega) (by omega) h0
  clear hm
  have hmz : (1 : Int) + (m : Int) = ((1 + m : Nat) : Int) := by omega
  have hN1 : ∀ wx, _ := fun wx => New_any wx (1 + m) (by omega) (by omega)
  have hN2 : ∀ wx, _ := fun wx => rNew_any wx (1 + m) (by omega) (by omega)
  rw [← hmz] at hN1 hN2
  clear hmz
  have HS : Hid (ScriptIn w a len F Z l) := hS
  clear hS
  obtain ⟨D, hD⟩ : ∃ D, D = w.heap.size := ⟨_, rfl⟩
  obtain ⟨w1, hw1⟩ : ∃ w1, w1 = w.alloc (.cells #[.slice none 0 0, .slice none 0 0, .slice none 0 0, .slice none 0 0] 69) := ⟨_, rfl⟩
  have hk1 : Kp w w1 := by rw [hw1]; exact (Chg.refl _ _).alloc _
  have hx1 : w1.heap[D]? = some (.cells #[.slice none 0 0, .slice none 0 0, .slice none 0 0, .slice none 0 0] 69 (0, 0)) := by rw [hw1, hD]; exact heap_alloc_new w _
  have K1 : Hid (Kp w w1 ∧ w1.heap[D]? = some (.cells #[.slice none 0 0, .slice none 0 0, .slice none 0 0, .slice none 0 0] 69 (0, 0)) ∧ D = w.heap.size) := ⟨hk1, hx1, hD⟩
  clear hk1 hx1
  go_enter Try.func8, Try.ntmps8
  go_upto_region 2 with fail
  rw [← hD, ← hw1]
  clear hw1 hD
  go_wp2_with fail
  go_at_call 9
  refine (works_any w1).mono ?_
  rintro e W2 ⟨rfl, hk2⟩
  have K2 : Hid (Kp w W2 ∧ W2.heap[D]? = some (.cells #[.slice none 0 0, .slice none 0 0, .slice none 0 0, .slice none 0 0] 69 (0, 0)) ∧ D = w.heap.size ∧ D < W2.heap.size) := ⟨Kp.trans K1.out.1 hk2, hk2.heap K1.out.2.1, K1.out.2.2, (Array.getElem?_eq_some_iff.1 (hk2.heap K1.out.2.1)).1⟩
  clear hk2 K1
  go_wp2_with (go_at_call 10; refine (hP _).mono ?_; rintro e wq ⟨rfl, hw⟩; rw [hw]; clear hw wq)
  go_at_call 11
  refine (hN1 W2).mono ?_
  rintro e W3 ⟨rfl, hT3, hk3⟩
  obtain ⟨B, hB⟩ : ∃ B, B = W2.heap.size + 1 := ⟨_, rfl⟩
  have KB : Hid (B = W2.heap.size + 1) := hB
  have K3 : Hid (IsT W3 (W2.heap.size + 1) W2.heap.size (.slice none 0 0) (1 + m) 0 Sta.none ∧ Kp W2 W3) := ⟨hT3, hk3⟩
  rw [← hB]
  clear hT3 hk3 hB hN1
  go_wp2_with (go_at_call 10; refine (hP _).mono ?_; rintro e wq ⟨rfl, hw⟩; rw [hw]; clear hw wq)
  go_at_call 24
  refine (hN2 W3).mono ?_
  rintro e W4 ⟨rfl, hR4, hk4⟩
  have k24 : Kp W2 W4 := Kp.trans K3.out.2 hk4
  have A1 := more_yes W4 (lab0 D W2.heap.size W3.heap.size) D ⟨.slice none 0 0, .slice none 0 0, .slice none 0 0, .slice none 0 0⟩ [] [] (WI.none (k24.heap K2.out.2.1)) (by simp) _ (PrIs.first K2.out.2.2.2 K3.out.2 K3.out.1 hR4 hk4)
  simp only at A1
  rw [← KB.out] at A1
  have k04 : Kp w W4 := Kp.trans K2.out.1 k24
  obtain ⟨C, hC⟩ : ∃ C, C = W3.heap.size := ⟨_, rfl⟩
  rw [← hC] at A1 ⊢
  obtain ⟨u, hu⟩ : ∃ u, u = W2.heap.size := ⟨_, rfl⟩
  rw [← hu] at A1
  have K4 : Hid (Kp w W4 ∧ D = w.heap.size) := ⟨k04, K2.out.2.2.1⟩
  clear hR4 hk4 k24 k04 hC hu K3 K2 KB hN2 hP
  go_wp2_with fail
  go_at_call 25
  refine A1.mono ?_
  rintro e W5 ⟨rfl, lab5, R5, h5, n5⟩
  have HG0 : Hid (GoX w W5 D 0) := GoX.begin K4.out.1 (fun i hi => lab0_six (by rw [K4.out.2]; exact hi)) h5 n5 rfl rfl
  obtain ⟨xa, xc, hxv, _⟩ := row1 h5.x
  obtain ⟨d0, _, _, _⟩ := cells4 h5.box
  rw [hxv] at d0
  simp only [List.nil_append, List.length_cons, List.length_nil, Nat.zero_add] at d0
  clear A1 h5 n5 hxv K4
  have hnum := num26
  go_wp2_with (first
    | (go_at_call 26; refine (hnum _ _).mono ?_; rintro e wq ⟨rfl, hw⟩; rw [hw]; clear hw wq)
    | fail)
  clear d0 hnum
  go_loopw [11, 12, 13] (fun s11 s12 s13 wr => ∃ j : Nat, j ≤ len ∧ j ≤ 300 ∧ s12 = .int .i64 j ∧ Hid (GoX w wr D j)) (fun _ s12 _ _ => 300 - (intOf s12).toNat)
  case atStart => exact ⟨0, by omega, by omega, rfl, HG0⟩
  case round =>
    obtain ⟨j, hj1, hj2, rfl, HG⟩ := hrel
    clear HG0
    rcases (by omega : (j < len ∧ j < 300) ∨ (¬ j < len) ∨ (j < len ∧ ¬ j < 300)) with ⟨hlt, hl3⟩ | hlt | ⟨hlt, hl3⟩
    · have hltz : (j : Int) < (len : Int) := by omega
      have hl3z : (j : Int) < 300 := by omega
      obtain ⟨lab, R, ps, hs, hg⟩ := HG.out
      obtain ⟨b, off, ea, hb, hc⟩ := HS.out.src.resolve_left (by omega)
      subst ea
      have A1 := stepD_any _ lab D R ps hs j hg.wi hg.ne hg.sy hj2 hg.hl (F j) (Z j) (l j) ((HS.out.ok j hlt).old hg.kp hg.six)
      obtain ⟨x, hx⟩ : ∃ x, x = F j := ⟨_, rfl⟩
      have hq := hc j hlt
      rw [← hx] at A1 hq
      clear hc hx
      obtain ⟨kind, T, N, tg, mp, ca, cl, cc, la, ll, lc⟩ := x
      simp only [Opv.cells] at A1 hq
      have z0 : wr.cell? ⟨b, off + j * 9, none⟩ = some (.int .i64 kind) := Kp.cell hg.kp (hq 0 (by omega))
      have z1 : wr.cell? ⟨b, off + j * 9 + 1, none⟩ = some (.int .i64 T) := Kp.cell hg.kp (hq 1 (by omega))
      have z2 : wr.cell? ⟨b, off + j * 9 + 2, none⟩ = some (.int .i64 N) := Kp.cell hg.kp (hq 2 (by omega))
      have z3 : wr.cell? ⟨b, off + j * 9 + 3, none⟩ = some (.int .i64 tg.1) := Kp.cell hg.kp (hq 3 (by omega))
      have z4 : wr.cell? ⟨b, off + j * 9 + 4, none⟩ = some (.int .u32 ((tg.2 : Nat) : Int)) := Kp.cell hg.kp (hq 4 (by omega))
      have z5 : wr.cell? ⟨b, off + j * 9 + 5, none⟩ = some (.int .u32 ((mp.1 : Nat) : Int)) := Kp.cell hg.kp (hq 5 (by omega))
      have z6 : wr.cell? ⟨b, off + j * 9 + 6, none⟩ = some (.int .u8 ((mp.2 : Nat) : Int)) := Kp.cell hg.kp (hq 6 (by omega))
      have z7 : wr.cell? ⟨b, off + j * 9 + 7, none⟩ = some (.slice ca cl cc) := Kp.cell hg.kp (hq 7 (by omega))
      have z8 : wr.cell? ⟨b, off + j * 9 + 8, none⟩ = some (.slice la ll lc) := Kp.cell hg.kp (hq 8 (by omega))
      clear hq
      have HL : Hid (Go5 w wr D j lab R ps hs) := hg
      clear hg
      go_wp2_with fail
      go_at_call 27
      refine A1.mono ?_
      rintro e W7 ⟨rfl, hse⟩
      obtain ⟨lab7, R7, ps7, hs7, hg7⟩ := HL.out.step hse
      have A2 := looks_any W7 lab7 D R7 ps7 hs7 hg7.wi (by have := hg7.hl; omega)
      have HL7 : Hid (Go5 w W7 D (j + 1) lab7 R7 ps7 hs7) := hg7
      clear hg7 hse A1 z0 z1 z2 z3 z4 z5 z6 z7 z8
      go_wp2_with fail
      go_at_call 28
      refine A2.mono ?_
      rintro e W8 ⟨rfl, hk8⟩
      have HG8 : Hid (GoX w W8 D (j + 1)) := ⟨_, _, _, _, HL7.out.later hk8⟩
      clear hk8 A2
      go_wp2
      exact ⟨⟨j + 1, by omega, by omega, by go_num, HG8⟩, by simp [intOf]; omega⟩
    · have hltz : ¬ (j : Int) < (len : Int) := by omega
      rename World => WR
      obtain ⟨lab, R, ps, hs, hg⟩ := HG.out
      have hlen : 0 < ps.length := List.length_pos_iff.2 hg.ne
      have hp4 := hg.wi.p4
      obtain ⟨ax, cx, exv, hrx⟩ := row1 hg.wi.x
      obtain ⟨ay, cy, eyv, hry⟩ := row1 hg.wi.y
      obtain ⟨gx, eax, _, _, hgx⟩ := hrx.resolve_left (by omega)
      obtain ⟨gy, eay, _, _, hgy⟩ := hry.resolve_left (by omega)
      subst eax eay
      obtain ⟨d0, d1, d2, d3⟩ := cells4 hg.wi.box
      rw [exv] at d0
      rw [eyv] at d1
      obtain ⟨np, hnp⟩ : ∃ np, np = ps.length := ⟨_, rfl⟩
      rw [← hnp] at d0 d1 hp4 hlen
      have HT : Hid (Go5 w WR D j lab R ps hs ∧ np = ps.length ∧ WR.cell? ⟨D, 0, none⟩ = some (.slice (some ⟨gx, 0, none⟩) np cx) ∧ WR.cell? ⟨D, 1, none⟩ = some (.slice (some ⟨gy, 0, none⟩) np cy) ∧ (∀ j u, (xL ps)[j]? = some u → WR.cell? ⟨gx, j, none⟩ = some u) ∧ (∀ j u, (yL ps)[j]? = some u → WR.cell? ⟨gy, j, none⟩ = some u)) := ⟨hg, hnp, d0, d1, hgx, hgy⟩
      clear hg exv eyv hrx hry hgx hgy d0 d1 d2 d3 hnp HG
      go_wp2_with fail
      go_loopw [11, 14, 15] (fun s11 s14 s15 wr => ∃ q : Nat, q ≤ np ∧ s14 = .int .i64 q ∧ Hid (Kp WR wr)) (fun _ s14 _ _ => np - (intOf s14).toNat)
      case atStart => exact ⟨0, by omega, rfl, Chg.refl _ _⟩
      case round =>
        obtain ⟨q, hq, rfl, HI⟩ := hrel
        obtain ⟨t1, t2, t3, t4, t5, t6⟩ := HT.out
        by_cases hlq : q < np
        · have hlqz : (q : Int) < (np : Int) := by omega
          obtain ⟨p, hi⟩ : ∃ p, ps[q]? = some p := ⟨_, List.getElem?_eq_getElem (by omega)⟩
          have hPr := t1.wi.ps q p hi
          have hsl := (t1.sy p (List.mem_of_getElem? hi)).1
          obtain ⟨ua, uc, huv⟩ := hPr.r.row.form
          have hbx := hPr.r.box
          rw [huv] at hbx
          have hSl : SlotsIn WR ua p.l.length p.s.slots := by
            have := hPr.r.row
            rw [huv] at this
            have := this.slotsIn rfl
            rwa [hsl] at this ⊢
          obtain ⟨ul, hul⟩ : ∃ ul, ul = p.l.length := ⟨_, rfl⟩
          have hul2 : p.s.l.length = ul := by rw [hul, hsl, p.s.slots_len]
          have hul64 : ul ≤ 64 := by rw [← hul2]; have := hPr.t.ok.len; have := hPr.t.n64; omega
          rw [← hul] at hbx hSl
          have f1 : WR.cell? ⟨p.C, 1, none⟩ = some (.slice ua ul uc) := by rw [(cells_at hbx _).1]; rfl
          have gX : WR.cell? ⟨gx, q, none⟩ = some (.pointer (some ⟨p.B, 0, none⟩)) := t5 q _ (by simp [xL, hi])
          have gY : WR.cell? ⟨gy, q, none⟩ = some (.pointer (some ⟨p.C, 0, none⟩)) := t6 q _ (by simp [yL, hi])
          have hSr : Sb8 D gx gy q np cx cy p.B p.C ua ul uc WR := ⟨t3, t4, gX, gY, f1⟩
          have kdr : Kp WR wr.drew := Kp.trans HI.out (Chg.drew (Chg.refl _ _))
          have A1 := all_any wr.drew p.B p.M p.v p.n p.k p.s (hPr.t.kp kdr) ua ul uc (hSl.kp kdr) (-1) (by unfold InI; omega)
          have hS0 : Sb8 D gx gy q np cx cy p.B p.C ua ul uc wr.drew := hSr.kp kdr
          have hbT := hPr.t.box
          have HP : Hid (WR.heap[p.B]? = some (.cells #[.int .i64 ((p.n : Nat) : Int), .map (some p.M), p.v] 85 (0, 0)) ∧ OR WR p.v p.s.l ∧ p.s.l.length = ul ∧ Sb8 D gx gy q np cx cy p.B p.C ua ul uc WR) := ⟨hbT, hPr.t.ord, hul2, hSr⟩
          have e0 := Kp.cell HI.out t3
          have hmx : Try.prog.follows .mixedOrders = true := by kernel_rfl
          clear t1 t2 t3 t4 t5 t6 hi hPr hsl huv hbx hSl hul hul2 f1 gX gY hSr kdr hbT
          go_upto_region 18 with fail
          clear e0
          refine wp_region_held_drew (S := Sb8 D gx gy q np cx cy p.B p.C ua ul uc) hmx hS0 (fun hS => ?_)
          clear hS0
          refine wpAnyH_take (i := 0) (oi := { dst := some 90, op := Go.Op.move (Go.Operand.tmp 5), type := 65, pos := "law.go:276", after := #[], guard := none }) (v := .pointer (some ⟨D, 0, none⟩)) rfl (by kernel_rfl) (by kernel_rfl) (by kernel_rfl) (fun _ _ _ h => h) (Or.inl ⟨by rfl, ?_⟩) hS ?_
          · rintro wx ⟨x0, x1, x2, x3, x4⟩
            go_simp
          simp only [Act.put, List.setIfInBounds_toArray, List.set_cons_zero, List.set_cons_succ]
          refine wpAnyH_take (i := 1) (oi := { dst := some 91, op := Go.Op.nilCheck (Go.Operand.tmp 90), type := 0, pos := "law.go:276", after := #[{ on := 0, ground := Go.Ground.data }], guard := none }) (v := .pointer (some ⟨D, 0, none⟩)) rfl (by kernel_rfl) (by kernel_rfl) (by kernel_rfl) (fun _ _ _ h => h) (Or.inl ⟨by rfl, ?_⟩) hS ?_
          · rintro wx ⟨x0, x1, x2, x3, x4⟩
            go_simp
          simp only [Act.put, List.setIfInBounds_toArray, List.set_cons_zero, List.set_cons_succ]
          refine wpAnyH_take (i := 2) (oi := { dst := some 92, op := Go.Op.fieldAddr 69 (Go.Operand.tmp 91) 0, type := 0, pos := "law.go:276", after := #[{ on := 1, ground := Go.Ground.data }], guard := none }) (v := .pointer (some ⟨D, 0, none⟩)) rfl (by kernel_rfl) (by kernel_rfl) (by kernel_rfl) (fun _ _ _ h => h) (Or.inl ⟨by rfl, ?_⟩) hS ?_
          · rintro wx ⟨x0, x1, x2, x3, x4⟩
            go_simp
          simp only [Act.put, List.setIfInBounds_toArray, List.set_cons_zero, List.set_cons_succ]
          refine wpAnyH_take (i := 3) (oi := { dst := some 93, op := Go.Op.load 25 (Go.Operand.tmp 92), type := 25, pos := "law.go:276", after := #[{ on := 2, ground := Go.Ground.data }], guard := none }) (v := .slice (some ⟨gx, 0, none⟩) np cx) rfl (by kernel_rfl) (by kernel_rfl) (by kernel_rfl) (fun _ _ _ h => h) (Or.inl ⟨by rfl, ?_⟩) hS ?_
          · rintro wx ⟨x0, x1, x2, x3, x4⟩
            go_simp
          simp only [Act.put, List.setIfInBounds_toArray, List.set_cons_zero, List.set_cons_succ]
          refine wpAnyH_take (i := 4) (oi := { dst := some 94, op := Go.Op.move (Go.Operand.tmp 14), type := 3, pos := "law.go:276", after := #[], guard := none }) (v := .int .i64 ((q : Nat) : Int)) rfl (by kernel_rfl) (by kernel_rfl) (by kernel_rfl) (fun _ _ _ h => h) (Or.inl ⟨by rfl, ?_⟩) hS ?_
          · rintro wx ⟨x0, x1, x2, x3, x4⟩
            go_simp
          simp only [Act.put, List.setIfInBounds_toArray, List.set_cons_zero, List.set_cons_succ]
          refine wpAnyH_take (i := 5) (oi := { dst := some 95, op := Go.Op.indexAddr 25 (Go.Operand.tmp 93) (Go.Operand.tmp 94), type := 0, pos := "law.go:276", after := #[{ on := 3, ground := Go.Ground.data }, { on := 4, ground := Go.Ground.data }], guard := none }) (v := .pointer (some ⟨gx, q, none⟩)) rfl (by kernel_rfl) (by kernel_rfl) (by kernel_rfl) (fun _ _ _ h => h) (Or.inl ⟨by rfl, ?_⟩) hS ?_
          · rintro wx ⟨x0, x1, x2, x3, x4⟩
            go_simp
          simp only [Act.put, List.setIfInBounds_toArray, List.set_cons_zero, List.set_cons_succ]
          refine wpAnyH_take (i := 6) (oi := { dst := some 96, op := Go.Op.load 26 (Go.Operand.tmp 95), type := 26, pos := "law.go:276", after := #[{ on := 5, ground := Go.Ground.data }], guard := none }) (v := .pointer (some ⟨p.B, 0, none⟩)) rfl (by kernel_rfl) (by kernel_rfl) (by kernel_rfl) (fun _ _ _ h => h) (Or.inl ⟨by rfl, ?_⟩) hS ?_
          · rintro wx ⟨x0, x1, x2, x3, x4⟩
            go_simp
          simp only [Act.put, List.setIfInBounds_toArray, List.set_cons_zero, List.set_cons_succ]
          refine wpAnyH_take (i := 7) (oi := { dst := some 97, op := Go.Op.move (Go.Operand.tmp 5), type := 65, pos := "law.go:276", after := #[], guard := none }) (v := .pointer (some ⟨D, 0, none⟩)) rfl (by kernel_rfl) (by kernel_rfl) (by kernel_rfl) (fun _ _ _ h => h) (Or.inl ⟨by rfl, ?_⟩) hS ?_
          · rintro wx ⟨x0, x1, x2, x3, x4⟩
            go_simp
          simp only [Act.put, List.setIfInBounds_toArray, List.set_cons_zero, List.set_cons_succ]
          refine wpAnyH_take (i := 8) (oi := { dst := some 98, op := Go.Op.nilCheck (Go.Operand.tmp 97), type := 0, pos := "law.go:276", after := #[{ on := 7, ground := Go.Ground.data }], guard := none }) (v := .pointer (some ⟨D, 0, none⟩)) rfl (by kernel_rfl) (by kernel_rfl) (by kernel_rfl) (fun _ _ _ h => h) (Or.inl ⟨by rfl, ?_⟩) hS ?_
          · rintro wx ⟨x0, x1, x2, x3, x4⟩
            go_simp
          simp only [Act.put, List.setIfInBounds_toArray, List.set_cons_zero, List.set_cons_succ]
          refine wpAnyH_take (i := 9) (oi := { dst := some 99, op := Go.Op.fieldAddr 69 (Go.Operand.tmp 98) 1, type := 0, pos := "law.go:276", after := #[{ on := 8, ground := Go.Ground.data }], guard := none }) (v := .pointer (some ⟨D, 1, none⟩)) rfl (by kernel_rfl) (by kernel_rfl) (by kernel_rfl) (fun _ _ _ h => h) (Or.inl ⟨by rfl, ?_⟩) hS ?_
          · rintro wx ⟨x0, x1, x2, x3, x4⟩
            go_simp
          simp only [Act.put, List.setIfInBounds_toArray, List.set_cons_zero, List.set_cons_succ]
          refine wpAnyH_take (i := 10) (oi := { dst := some 100, op := Go.Op.load 66 (Go.Operand.tmp 99), type := 66, pos := "law.go:276", after := #[{ on := 9, ground := Go.Ground.data }], guard := none }) (v := .slice (some ⟨gy, 0, none⟩) np cy) rfl (by kernel_rfl) (by kernel_rfl) (by kernel_rfl) (fun _ _ _ h => h) (Or.inl ⟨by rfl, ?_⟩) hS ?_
          · rintro wx ⟨x0, x1, x2, x3, x4⟩
            go_simp
          simp only [Act.put, List.setIfInBounds_toArray, List.set_cons_zero, List.set_cons_succ]
          refine wpAnyH_take (i := 11) (oi := { dst := some 101, op := Go.Op.move (Go.Operand.tmp 14), type := 3, pos := "law.go:276", after := #[], guard := none }) (v := .int .i64 ((q : Nat) : Int)) rfl (by kernel_rfl) (by kernel_rfl) (by kernel_rfl) (fun _ _ _ h => h) (Or.inl ⟨by rfl, ?_⟩) hS ?_
          · rintro wx ⟨x0, x1, x2, x3, x4⟩
            go_simp
          simp only [Act.put, List.setIfInBounds_toArray, List.set_cons_zero, List.set_cons_succ]
          refine wpAnyH_take (i := 12) (oi := { dst := some 102, op := Go.Op.indexAddr 66 (Go.Operand.tmp 100) (Go.Operand.tmp 101), type := 0, pos := "law.go:276", after := #[{ on := 10, ground := Go.Ground.data }, { on := 11, ground := Go.Ground.data }], guard := none }) (v := .pointer (some ⟨gy, q, none⟩)) rfl (by kernel_rfl) (by kernel_rfl) (by kernel_rfl) (fun _ _ _ h => h) (Or.inl ⟨by rfl, ?_⟩) hS ?_
          · rintro wx ⟨x0, x1, x2, x3, x4⟩
            go_simp
          simp only [Act.put, List.setIfInBounds_toArray, List.set_cons_zero, List.set_cons_succ]
          refine wpAnyH_take (i := 13) (oi := { dst := some 103, op := Go.Op.load 70 (Go.Operand.tmp 102), type := 70, pos := "law.go:276", after := #[{ on := 12, ground := Go.Ground.data }], guard := none }) (v := .pointer (some ⟨p.C, 0, none⟩)) rfl (by kernel_rfl) (by kernel_rfl) (by kernel_rfl) (fun _ _ _ h => h) (Or.inl ⟨by rfl, ?_⟩) hS ?_
          · rintro wx ⟨x0, x1, x2, x3, x4⟩
            go_simp
          simp only [Act.put, List.setIfInBounds_toArray, List.set_cons_zero, List.set_cons_succ]
          refine wpAnyH_take (i := 14) (oi := { dst := some 104, op := Go.Op.nilCheck (Go.Operand.tmp 103), type := 0, pos := "law.go:276", after := #[{ on := 13, ground := Go.Ground.data }], guard := none }) (v := .pointer (some ⟨p.C, 0, none⟩)) rfl (by kernel_rfl) (by kernel_rfl) (by kernel_rfl) (fun _ _ _ h => h) (Or.inl ⟨by rfl, ?_⟩) hS ?_
          · rintro wx ⟨x0, x1, x2, x3, x4⟩
            go_simp
          simp only [Act.put, List.setIfInBounds_toArray, List.set_cons_zero, List.set_cons_succ]
          refine wpAnyH_take (i := 15) (oi := { dst := some 105, op := Go.Op.fieldAddr 80 (Go.Operand.tmp 104) 1, type := 0, pos := "law.go:276", after := #[{ on := 14, ground := Go.Ground.data }], guard := none }) (v := .pointer (some ⟨p.C, 1, none⟩)) rfl (by kernel_rfl) (by kernel_rfl) (by kernel_rfl) (fun _ _ _ h => h) (Or.inl ⟨by rfl, ?_⟩) hS ?_
          · rintro wx ⟨x0, x1, x2, x3, x4⟩
            go_simp
          simp only [Act.put, List.setIfInBounds_toArray, List.set_cons_zero, List.set_cons_succ]
          refine wpAnyH_take (i := 16) (oi := { dst := some 106, op := Go.Op.load 55 (Go.Operand.tmp 105), type := 55, pos := "law.go:276", after := #[{ on := 15, ground := Go.Ground.data }], guard := none }) (v := .slice ua ul uc) rfl (by kernel_rfl) (by kernel_rfl) (by kernel_rfl) (fun _ _ _ h => h) (Or.inl ⟨by rfl, ?_⟩) hS ?_
          · rintro wx ⟨x0, x1, x2, x3, x4⟩
            go_simp
          simp only [Act.put, List.setIfInBounds_toArray, List.set_cons_zero, List.set_cons_succ]
          refine wpAnyH_ready (rs := [17]) (by kernel_rfl) (by simp) ?_
          refine AllReadyH.cons (o := { dst := some 107, op := Go.Op.call { callee := Go.Callee.value (Go.Operand.func 29), args := #[Go.Operand.tmp 96, Go.Operand.tmp 106, Go.Operand.const (Go.Value.int Go.IntKind.i64 (-1))], argTypes := #[26, 55, 3] }, type := 4, pos := "law.go:276", after := #[{ on := 6, ground := Go.Ground.data }, { on := 16, ground := Go.Ground.data }], guard := none }) rfl (fun K hK => ?_) AllReadyH.nil
          rw [if_pos (by rfl)]
          go_simp
          refine A1.mono ?_
          rintro e W4 ⟨rfl, hk4⟩
          have hk4' : Kp WR W4 := Kp.trans (Kp.trans HI.out (Chg.drew (Chg.refl _ _))) hk4
          have hS4 : Sb8 D gx gy q np cx cy p.B p.C ua ul uc W4 := hS.kp hk4
          have HI4 : Hid (Kp WR W4) := hk4'
          clear hk4 hk4' A1
          refine hK.out _ _ hS4 (fun hS5 => ?_)
          clear hK K hS hS4
          refine wpAnyH_ready (rs := [18]) (by kernel_rfl) (by simp) ?_
          refine AllReadyH.cons (o := { dst := some 11, op := Go.Op.assign (Go.Operand.tmp 107), type := 4, pos := "law.go:276", after := #[{ on := 17, ground := Go.Ground.data }, { on := 17, ground := Go.Ground.chain }, { on := 0, ground := Go.Ground.phase }, { on := 1, ground := Go.Ground.phase }, { on := 2, ground := Go.Ground.phase }, { on := 3, ground := Go.Ground.phase }, { on := 4, ground := Go.Ground.phase }, { on := 5, ground := Go.Ground.phase }, { on := 6, ground := Go.Ground.phase }, { on := 7, ground := Go.Ground.phase }, { on := 8, ground := Go.Ground.phase }, { on := 9, ground := Go.Ground.phase }, { on := 10, ground := Go.Ground.phase }, { on := 11, ground := Go.Ground.phase }, { on := 12, ground := Go.Ground.phase }, { on := 13, ground := Go.Ground.phase }, { on := 14, ground := Go.Ground.phase }, { on := 15, ground := Go.Ground.phase }, { on := 16, ground := Go.Ground.phase }, { on := 17, ground := Go.Ground.phase }], guard := none }) rfl (fun K hK => ?_) AllReadyH.nil
          rw [if_pos (by rfl)]
          go_simp
          refine hK.out _ _ hS5 (fun hS6 => ?_)
          clear hK K hS5 hS6
          refine wpAnyH_done (by kernel_rfl) ?_ _
          obtain ⟨y0, y1, y2, y3, y4⟩ := HP.out.2.2.2.kp HI4.out
          have A2 := Len_any W4 p.B _ _ p.v p.s.l (HI4.out.heap HP.out.1) (Chg.owns HI4.out HP.out.2.1 (fun _ _ h => h))
          rw [HP.out.2.2.1] at A2
          go_wp2_with (go_at_call 14; refine A2.mono ?_; rintro e wq ⟨rfl, hw⟩; rw [hw]; clear hw wq)
          exact ⟨⟨q + 1, by omega, by go_num, HI4⟩, by simp [intOf]; omega⟩
        · have hlqz : ¬ (q : Int) < (np : Int) := by omega
          have e0 := Kp.cell HI.out t3
          have KE : Hid (Kp w wr) := Kp.trans t1.kp HI.out
          clear t1 t2 t3 t4 t5 t6
          go_wp2
          go_ret
          exact ⟨rfl, KE.out⟩
    · have hltz : (j : Int) < (len : Int) := by omega
      have hl3z : ¬ (j : Int) < 300 := by omega
      rename World => WR
      obtain ⟨lab, R, ps, hs, hg⟩ := HG.out
      have hlen : 0 < ps.length := List.length_pos_iff.2 hg.ne
      have hp4 := hg.wi.p4
      obtain ⟨ax, cx, exv, hrx⟩ := row1 hg.wi.x
      obtain ⟨ay, cy, eyv, hry⟩ := row1 hg.wi.y
      obtain ⟨gx, eax, _, _, hgx⟩ := hrx.resolve_left (by omega)
      obtain ⟨gy, eay, _, _, hgy⟩ := hry.resolve_left (by omega)
      subst eax eay
      obtain ⟨d0, d1, d2, d3⟩ := cells4 hg.wi.box
      rw [exv] at d0
      rw [eyv] at d1
      obtain ⟨np, hnp⟩ : ∃ np, np = ps.length := ⟨_, rfl⟩
      rw [← hnp] at d0 d1 hp4 hlen
      have HT : Hid (Go5 w WR D j lab R ps hs ∧ np = ps.length ∧ WR.cell? ⟨D, 0, none⟩ = some (.slice (some ⟨gx, 0, none⟩) np cx) ∧ WR.cell? ⟨D, 1, none⟩ = some (.slice (some ⟨gy, 0, none⟩) np cy) ∧ (∀ j u, (xL ps)[j]? = some u → WR.cell? ⟨gx, j, none⟩ = some u) ∧ (∀ j u, (yL ps)[j]? = some u → WR.cell? ⟨gy, j, none⟩ = some u)) := ⟨hg, hnp, d0, d1, hgx, hgy⟩
      clear hg exv eyv hrx hry hgx hgy d0 d1 d2 d3 hnp HG
      go_wp2_with fail
      go_loopw [11, 14, 15] (fun s11 s14 s15 wr => ∃ q : Nat, q ≤ np ∧ s14 = .int .i64 q ∧ Hid (Kp WR wr)) (fun _ s14 _ _ => np - (intOf s14).toNat)
      case atStart => exact ⟨0, by omega, rfl, Chg.refl _ _⟩
      case round =>
        obtain ⟨q, hq, rfl, HI⟩ := hrel
        obtain ⟨t1, t2, t3, t4, t5, t6⟩ := HT.out
        by_cases hlq : q < np
        · have hlqz : (q : Int) < (np : Int) := by omega
          obtain ⟨p, hi⟩ : ∃ p, ps[q]? = some p := ⟨_, List.getElem?_eq_getElem (by omega)⟩
          have hPr := t1.wi.ps q p hi
          have hsl := (t1.sy p (List.mem_of_getElem? hi)).1
          obtain ⟨ua, uc, huv⟩ := hPr.r.row.form
          have hbx := hPr.r.box
          rw [huv] at hbx
          have hSl : SlotsIn WR ua p.l.length p.s.slots := by
            have := hPr.r.row
            rw [huv] at this
            have := this.slotsIn rfl
            rwa [hsl] at this ⊢
          obtain ⟨ul, hul⟩ : ∃ ul, ul = p.l.length := ⟨_, rfl⟩
          have hul2 : p.s.l.length = ul := by rw [hul, hsl, p.s.slots_len]
          have hul64 : ul ≤ 64 := by rw [← hul2]; have := hPr.t.ok.len; have := hPr.t.n64; omega
          rw [← hul] at hbx hSl
          have f1 : WR.cell? ⟨p.C, 1, none⟩ = some (.slice ua ul uc) := by rw [(cells_at hbx _).1]; rfl
          have gX : WR.cell? ⟨gx, q, none⟩ = some (.pointer (some ⟨p.B, 0, none⟩)) := t5 q _ (by simp [xL, hi])
          have gY : WR.cell? ⟨gy, q, none⟩ = some (.pointer (some ⟨p.C, 0, none⟩)) := t6 q _ (by simp [yL, hi])
          have hSr : Sb8 D gx gy q np cx cy p.B p.C ua ul uc WR := ⟨t3, t4, gX, gY, f1⟩
          have kdr : Kp WR wr.drew := Kp.trans HI.out (Chg.drew (Chg.refl _ _))
          have A1 := all_any wr.drew p.B p.M p.v p.n p.k p.s (hPr.t.kp kdr) ua ul uc (hSl.kp kdr) (-1) (by unfold InI; omega)
          have hS0 : Sb8 D gx gy q np cx cy p.B p.C ua ul uc wr.drew := hSr.kp kdr
          have hbT := hPr.t.box
          have HP : Hid (WR.heap[p.B]? = some (.cells #[.int .i64 ((p.n : Nat) : Int), .map (some p.M), p.v] 85 (0, 0)) ∧ OR WR p.v p.s.l ∧ p.s.l.length = ul ∧ Sb8 D gx gy q np cx cy p.B p.C ua ul uc WR) := ⟨hbT, hPr.t.ord, hul2, hSr⟩
          have e0 := Kp.cell HI.out t3
          have hmx : Try.prog.follows .mixedOrders = true := by kernel_rfl
          clear t1 t2 t3 t4 t5 t6 hi hPr hsl huv hbx hSl hul hul2 f1 gX gY hSr kdr hbT
          go_upto_region 18 with fail
          clear e0
          refine wp_region_held_drew (S := Sb8 D gx gy q np cx cy p.B p.C ua ul uc) hmx hS0 (fun hS => ?_)
          clear hS0
          refine wpAnyH_take (i := 0) (oi := { dst := some 90, op := Go.Op.move (Go.Operand.tmp 5), type := 65, pos := "law.go:276", after := #[], guard := none }) (v := .pointer (some ⟨D, 0, none⟩)) rfl (by kernel_rfl) (by kernel_rfl) (by kernel_rfl) (fun _ _ _ h => h) (Or.inl ⟨by rfl, ?_⟩) hS ?_
          · rintro wx ⟨x0, x1, x2, x3, x4⟩
            go_simp
          simp only [Act.put, List.setIfInBounds_toArray, List.set_cons_zero, List.set_cons_succ]
          refine wpAnyH_take (i := 1) (oi := { dst := some 91, op := Go.Op.nilCheck (Go.Operand.tmp 90), type := 0, pos := "law.go:276", after := #[{ on := 0, ground := Go.Ground.data }], guard := none }) (v := .pointer (some ⟨D, 0, none⟩)) rfl (by kernel_rfl) (by kernel_rfl) (by kernel_rfl) (fun _ _ _ h => h) (Or.inl ⟨by rfl, ?_⟩) hS ?_
          · rintro wx ⟨x0, x1, x2, x3, x4⟩
            go_simp
          simp only [Act.put, List.setIfInBounds_toArray, List.set_cons_zero, List.set_cons_succ]
          refine wpAnyH_take (i := 2) (oi := { dst := some 92, op := Go.Op.fieldAddr 69 (Go.Operand.tmp 91) 0, type := 0, pos := "law.go:276", after := #[{ on := 1, ground := Go.Ground.data }], guard := none }) (v := .pointer (some ⟨D, 0, none⟩)) rfl (by kernel_rfl) (by kernel_rfl) (by kernel_rfl) (fun _ _ _ h => h) (Or.inl ⟨by rfl, ?_⟩) hS ?_
          · rintro wx ⟨x0, x1, x2, x3, x4⟩
            go_simp
          simp only [Act.put, List.setIfInBounds_toArray, List.set_cons_zero, List.set_cons_succ]
          refine wpAnyH_take (i := 3) (oi := { dst := some 93, op := Go.Op.load 25 (Go.Operand.tmp 92), type := 25, pos := "law.go:276", after := #[{ on := 2, ground := Go.Ground.data }], guard := none }) (v := .slice (some ⟨gx, 0, none⟩) np cx) rfl (by kernel_rfl) (by kernel_rfl) (by kernel_rfl) (fun _ _ _ h => h) (Or.inl ⟨by rfl, ?_⟩) hS ?_
          · rintro wx ⟨x0, x1, x2, x3, x4⟩
            go_simp
          simp only [Act.put, List.setIfInBounds_toArray, List.set_cons_zero, List.set_cons_succ]
          refine wpAnyH_take (i := 4) (oi := { dst := some 94, op := Go.Op.move (Go.Operand.tmp 14), type := 3, pos := "law.go:276", after := #[], guard := none }) (v := .int .i64 ((q : Nat) : Int)) rfl (by kernel_rfl) (by kernel_rfl) (by kernel_rfl) (fun _ _ _ h => h) (Or.inl ⟨by rfl, ?_⟩) hS ?_
          · rintro wx ⟨x0, x1, x2, x3, x4⟩
            go_simp
          simp only [Act.put, List.setIfInBounds_toArray, List.set_cons_zero, List.set_cons_succ]
          refine wpAnyH_take (i := 5) (oi := { dst := some 95, op := Go.Op.indexAddr 25 (Go.Operand.tmp 93) (Go.Operand.tmp 94), type := 0, pos := "law.go:276", after := #[{ on := 3, ground := Go.Ground.data }, { on := 4, ground := Go.Ground.data }], guard := none }) (v := .pointer (some ⟨gx, q, none⟩)) rfl (by kernel_rfl) (by kernel_rfl) (by kernel_rfl) (fun _ _ _ h => h) (Or.inl ⟨by rfl, ?_⟩) hS ?_
          · rintro wx ⟨x0, x1, x2, x3, x4⟩
            go_simp
          simp only [Act.put, List.setIfInBounds_toArray, List.set_cons_zero, List.set_cons_succ]
          refine wpAnyH_take (i := 6) (oi := { dst := some 96, op := Go.Op.load 26 (Go.Operand.tmp 95), type := 26, pos := "law.go:276", after := #[{ on := 5, ground := Go.Ground.data }], guard := none }) (v := .pointer (some ⟨p.B, 0, none⟩)) rfl (by kernel_rfl) (by kernel_rfl) (by kernel_rfl) (fun _ _ _ h => h) (Or.inl ⟨by rfl, ?_⟩) hS ?_
          · rintro wx ⟨x0, x1, x2, x3, x4⟩
            go_simp
          simp only [Act.put, List.setIfInBounds_toArray, List.set_cons_zero, List.set_cons_succ]
          refine wpAnyH_take (i := 7) (oi := { dst := some 97, op := Go.Op.move (Go.Operand.tmp 5), type := 65, pos := "law.go:276", after := #[], guard := none }) (v := .pointer (some ⟨D, 0, none⟩)) rfl (by kernel_rfl) (by kernel_rfl) (by kernel_rfl) (fun _ _ _ h => h) (Or.inl ⟨by rfl, ?_⟩) hS ?_
          · rintro wx ⟨x0, x1, x2, x3, x4⟩
            go_simp
          simp only [Act.put, List.setIfInBounds_toArray, List.set_cons_zero, List.set_cons_succ]
          refine wpAnyH_take (i := 8) (oi := { dst := some 98, op := Go.Op.nilCheck (Go.Operand.tmp 97), type := 0, pos := "law.go:276", after := #[{ on := 7, ground := Go.Ground.data }], guard := none }) (v := .pointer (some ⟨D, 0, none⟩)) rfl (by kernel_rfl) (by kernel_rfl) (by kernel_rfl) (fun _ _ _ h => h) (Or.inl ⟨by rfl, ?_⟩) hS ?_
          · rintro wx ⟨x0, x1, x2, x3, x4⟩
            go_simp
          simp only [Act.put, List.setIfInBounds_toArray, List.set_cons_zero, List.set_cons_succ]
          refine wpAnyH_take (i := 9) (oi := { dst := some 99, op := Go.Op.fieldAddr 69 (Go.Operand.tmp 98) 1, type := 0, pos := "law.go:276", after := #[{ on := 8, ground := Go.Ground.data }], guard := none }) (v := .pointer (some ⟨D, 1, none⟩)) rfl (by kernel_rfl) (by kernel_rfl) (by kernel_rfl) (fun _ _ _ h => h) (Or.inl ⟨by rfl, ?_⟩) hS ?_
          · rintro wx ⟨x0, x1, x2, x3, x4⟩
            go_simp
          simp only [Act.put, List.setIfInBounds_toArray, List.set_cons_zero, List.set_cons_succ]
          refine wpAnyH_take (i := 10) (oi := { dst := some 100, op := Go.Op.load 66 (Go.Operand.tmp 99), type := 66, pos := "law.go:276", after := #[{ on := 9, ground := Go.Ground.data }], guard := none }) (v := .slice (some ⟨gy, 0, none⟩) np cy) rfl (by kernel_rfl) (by kernel_rfl) (by kernel_rfl) (fun _ _ _ h => h) (Or.inl ⟨by rfl, ?_⟩) hS ?_
          · rintro wx ⟨x0, x1, x2, x3, x4⟩
            go_simp
          simp only [Act.put, List.setIfInBounds_toArray, List.set_cons_zero, List.set_cons_succ]
          refine wpAnyH_take (i := 11) (oi := { dst := some 101, op := Go.Op.move (Go.Operand.tmp 14), type := 3, pos := "law.go:276", after := #[], guard := none }) (v := .int .i64 ((q : Nat) : Int)) rfl (by kernel_rfl) (by kernel_rfl) (by kernel_rfl) (fun _ _ _ h => h) (Or.inl ⟨by rfl, ?_⟩) hS ?_
          · rintro wx ⟨x0, x1, x2, x3, x4⟩
            go_simp
          simp only [Act.put, List.setIfInBounds_toArray, List.set_cons_zero, List.set_cons_succ]
          refine wpAnyH_take (i := 12) (oi := { dst := some 102, op := Go.Op.indexAddr 66 (Go.Operand.tmp 100) (Go.Operand.tmp 101), type := 0, pos := "law.go:276", after := #[{ on := 10, ground := Go.Ground.data }, { on := 11, ground := Go.Ground.data }], guard := none }) (v := .pointer (some ⟨gy, q, none⟩)) rfl (by kernel_rfl) (by kernel_rfl) (by kernel_rfl) (fun _ _ _ h => h) (Or.inl ⟨by rfl, ?_⟩) hS ?_
          · rintro wx ⟨x0, x1, x2, x3, x4⟩
            go_simp
          simp only [Act.put, List.setIfInBounds_toArray, List.set_cons_zero, List.set_cons_succ]
          refine wpAnyH_take (i := 13) (oi := { dst := some 103, op := Go.Op.load 70 (Go.Operand.tmp 102), type := 70, pos := "law.go:276", after := #[{ on := 12, ground := Go.Ground.data }], guard := none }) (v := .pointer (some ⟨p.C, 0, none⟩)) rfl (by kernel_rfl) (by kernel_rfl) (by kernel_rfl) (fun _ _ _ h => h) (Or.inl ⟨by rfl, ?_⟩) hS ?_
          · rintro wx ⟨x0, x1, x2, x3, x4⟩
            go_simp
          simp only [Act.put, List.setIfInBounds_toArray, List.set_cons_zero, List.set_cons_succ]
          refine wpAnyH_take (i := 14) (oi := { dst := some 104, op := Go.Op.nilCheck (Go.Operand.tmp 103), type := 0, pos := "law.go:276", after := #[{ on := 13, ground := Go.Ground.data }], guard := none }) (v := .pointer (some ⟨p.C, 0, none⟩)) rfl (by kernel_rfl) (by kernel_rfl) (by kernel_rfl) (fun _ _ _ h => h) (Or.inl ⟨by rfl, ?_⟩) hS ?_
          · rintro wx ⟨x0, x1, x2, x3, x4⟩
            go_simp
          simp only [Act.put, List.setIfInBounds_toArray, List.set_cons_zero, List.set_cons_succ]
          refine wpAnyH_take (i := 15) (oi := { dst := some 105, op := Go.Op.fieldAddr 80 (Go.Operand.tmp 104) 1, type := 0, pos := "law.go:276", after := #[{ on := 14, ground := Go.Ground.data }], guard := none }) (v := .pointer (some ⟨p.C, 1, none⟩)) rfl (by kernel_rfl) (by kernel_rfl) (by kernel_rfl) (fun _ _ _ h => h) (Or.inl ⟨by rfl, ?_⟩) hS ?_
          · rintro wx ⟨x0, x1, x2, x3, x4⟩
            go_simp
          simp only [Act.put, List.setIfInBounds_toArray, List.set_cons_zero, List.set_cons_succ]
          refine wpAnyH_take (i := 16) (oi := { dst := some 106, op := Go.Op.load 55 (Go.Operand.tmp 105), type := 55, pos := "law.go:276", after := #[{ on := 15, ground := Go.Ground.data }], guard := none }) (v := .slice ua ul uc) rfl (by kernel_rfl) (by kernel_rfl) (by kernel_rfl) (fun _ _ _ h => h) (Or.inl ⟨by rfl, ?_⟩) hS ?_
          · rintro wx ⟨x0, x1, x2, x3, x4⟩
            go_simp
          simp only [Act.put, List.setIfInBounds_toArray, List.set_cons_zero, List.set_cons_succ]
          refine wpAnyH_ready (rs := [17]) (by kernel_rfl) (by simp) ?_
          refine AllReadyH.cons (o := { dst := some 107, op := Go.Op.call { callee := Go.Callee.value (Go.Operand.func 29), args := #[Go.Operand.tmp 96, Go.Operand.tmp 106, Go.Operand.const (Go.Value.int Go.IntKind.i64 (-1))], argTypes := #[26, 55, 3] }, type := 4, pos := "law.go:276", after := #[{ on := 6, ground := Go.Ground.data }, { on := 16, ground := Go.Ground.data }], guard := none }) rfl (fun K hK => ?_) AllReadyH.nil
          rw [if_pos (by rfl)]
          go_simp
          refine A1.mono ?_
          rintro e W4 ⟨rfl, hk4⟩
          have hk4' : Kp WR W4 := Kp.trans (Kp.trans HI.out (Chg.drew (Chg.refl _ _))) hk4
          have hS4 : Sb8 D gx gy q np cx cy p.B p.C ua ul uc W4 := hS.kp hk4
          have HI4 : Hid (Kp WR W4) := hk4'
          clear hk4 hk4' A1
          refine hK.out _ _ hS4 (fun hS5 => ?_)
          clear hK K hS hS4
          refine wpAnyH_ready (rs := [18]) (by kernel_rfl) (by simp) ?_
          refine AllReadyH.cons (o := { dst := some 11, op := Go.Op.assign (Go.Operand.tmp 107), type := 4, pos := "law.go:276", after := #[{ on := 17, ground := Go.Ground.data }, { on := 17, ground := Go.Ground.chain }, { on := 0, ground := Go.Ground.phase }, { on := 1, ground := Go.Ground.phase }, { on := 2, ground := Go.Ground.phase }, { on := 3, ground := Go.Ground.phase }, { on := 4, ground := Go.Ground.phase }, { on := 5, ground := Go.Ground.phase }, { on := 6, ground := Go.Ground.phase }, { on := 7, ground := Go.Ground.phase }, { on := 8, ground := Go.Ground.phase }, { on := 9, ground := Go.Ground.phase }, { on := 10, ground := Go.Ground.phase }, { on := 11, ground := Go.Ground.phase }, { on := 12, ground := Go.Ground.phase }, { on := 13, ground := Go.Ground.phase }, { on := 14, ground := Go.Ground.phase }, { on := 15, ground := Go.Ground.phase }, { on := 16, ground := Go.Ground.phase }, { on := 17, ground := Go.Ground.phase }], guard := none }) rfl (fun K hK => ?_) AllReadyH.nil
          rw [if_pos (by rfl)]
          go_simp
          refine hK.out _ _ hS5 (fun hS6 => ?_)
          clear hK K hS5 hS6
          refine wpAnyH_done (by kernel_rfl) ?_ _
          obtain ⟨y0, y1, y2, y3, y4⟩ := HP.out.2.2.2.kp HI4.out
          have A2 := Len_any W4 p.B _ _ p.v p.s.l (HI4.out.heap HP.out.1) (Chg.owns HI4.out HP.out.2.1 (fun _ _ h => h))
          rw [HP.out.2.2.1] at A2
          go_wp2_with (go_at_call 14; refine A2.mono ?_; rintro e wq ⟨rfl, hw⟩; rw [hw]; clear hw wq)
          exact ⟨⟨q + 1, by omega, by go_num, HI4⟩, by simp [intOf]; omega⟩
        · have hlqz : ¬ (q : Int) < (np : Int) := by omega
          have e0 := Kp.cell HI.out t3
          have KE : Hid (Kp w wr) := Kp.trans t1.kp HI.out
          clear t1 t2 t3 t4 t5 t6
          go_wp2
          go_ret
          exact ⟨rfl, KE.out⟩
end Go.Proofs.Ytadpgaaijdpbiaa
