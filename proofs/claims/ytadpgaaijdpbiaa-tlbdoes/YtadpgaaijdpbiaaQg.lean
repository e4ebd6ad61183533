import Derived.Test.YtadpgaaijdpbiaaQf
import Derived.Test.YtadpgaaijdpbiaaAw
namespace Go.Proofs.Ytadpgaaijdpbiaa
open Go.ChangeShapes Go.WideShapes Go.ChangeAt Go.RowKit Go.Shelf
set_option linter.unusedVariables false

theorem filter_more (q : Sl4 → Bool) (l : List Sl4) (j : Nat) (hj : j < l.length) : (l.take (j + 1)).filter q = (l.take j).filter q ++ (if q (bAt l j) then [bAt l j] else []) := by
  rw [take_one l j hj, List.filter_append, List.filter_cons]
  split <;> simp
set_option maxHeartbeats 2000000 in
set_option maxRecDepth 10000 in
theorem rFlushCell_any (w : World) (C : Nat) (v : Value) (n : Nat) (l : List Sl4) (h : IsR w C v n l) (a : Option Addr) (len cap : Nat) (Z : Nat → Int) (hZ : IntsIn w a len Z) :
    Calls Try.prog 58 #[.pointer (some ⟨C, 0, none⟩), .slice a len cap] w fun e w' => e = .returned (.int .i64 (((l.length : Nat) : Int) - (((l.filter (stays Z len)).length : Nat) : Int))) ∧ ∃ v', IsR w' C v' n (l.filter (stays Z len)) ∧ (∀ b, v'.ownBlock = some b → w.heap.size ≤ b) ∧ Chg w w' (fun i => i = C) := by
  obtain ⟨va, vc, rfl⟩ := h.row.form
  obtain ⟨L, hL⟩ : ∃ L, L = l.length := ⟨_, rfl⟩
  rw [← hL] at h ⊢
  obtain ⟨fl, hfl0⟩ : ∃ x, x = (l.filter (stays Z len)).length := ⟨_, rfl⟩
  rw [← hfl0]
  have KL : Hid (fl = (l.filter (stays Z len)).length) := hfl0
  clear hfl0
  have hl64 : L ≤ 64 := by have := h.len; have := h.n64; omega
  have KH : Hid (IsR w C (.slice va L vc) n l ∧ L = l.length ∧ IntsIn w a len Z) := ⟨h, hL, hZ⟩
  have hlen := hZ.le
  clear h hL hZ
  go_enter Try.func58, Try.ntmps58
  go_wp2_with fail
  go_loopw [5, 6, 7, 8] (fun s5 i s7 s8 wr => ∃ (j : Nat) (lv : Value), j ≤ L ∧ i = .int .i64 j ∧ lv = s5 ∧ Hid (Kp w wr ∧ SR wr lv ((l.take j).filter (stays Z len)) ∧ ∀ b, lv.ownBlock = some b → w.heap.size ≤ b)) (fun _ i _ _ _ => L - (intOf i).toNat)
  case atStart => exact ⟨0, .slice none 0 0, by omega, rfl, rfl, ⟨Chg.refl _ _, by rw [List.take_zero]; exact World.ownsRow_nil w 0 58 4, fun b hb => by cases hb⟩⟩
  case round =>
    obtain ⟨j, lv, hj, rfl, rfl, HN⟩ := hrel
    obtain ⟨y1, y2, y3⟩ := HN.out
    have hb := y1.heap KH.out.1.box
    obtain ⟨d0, d1, _, _⟩ := cells2 hb
    by_cases hlt : j < L
    · have hltz : (j : Int) < (L : Int) := by omega
      have hjl : j < l.length := by rw [← KH.out.2.1]; exact hlt
      obtain ⟨x, hx⟩ : ∃ x, x = bAt l j := ⟨_, rfl⟩
      obtain ⟨g1, o1, e1, _, c1⟩ := (KH.out.1.sl KH.out.2.1).src.resolve_left (by omega)
      subst e1
      obtain ⟨c10, c11, c12, c13⟩ := c1 j hjl
      rw [← bAt_get l j hjl, ← hx] at c10 c11 c12 c13
      have HX : Hid (w.cell? ⟨g1, o1 + j * 4, none⟩ = some (.int .i64 x.1.1) ∧ w.cell? ⟨g1, o1 + j * 4 + 1, none⟩ = some (.int .u32 ((x.1.2 : Nat) : Int)) ∧ w.cell? ⟨g1, o1 + j * 4 + 2, none⟩ = some (.int .u32 ((x.2.1 : Nat) : Int)) ∧ w.cell? ⟨g1, o1 + j * 4 + 3, none⟩ = some (.int .u8 ((x.2.2 : Nat) : Int)) ∧ x = bAt l j ∧ j < l.length) := ⟨c10, c11, c12, c13, hx, hjl⟩
      have HNo : Hid (Kp w wr ∧ SR wr lv ((l.take j).filter (stays Z len)) ∧ ∀ b, lv.ownBlock = some b → w.heap.size ≤ b) := ⟨y1, y2, y3⟩
      obtain ⟨lla, llc, hlv⟩ := y2.form
      obtain ⟨wo', hwo⟩ : ∃ W, W = wr := ⟨_, rfl⟩
      rw [← hwo] at HNo
      have HW : Hid (wo' = wr) := hwo
      clear y1 y2 y3 hb c1 c10 c11 c12 c13 hx hjl HN hwo
      generalize ((l.take j).filter (stays Z len)).length = lw at hlv
      subst hlv
      go_upto_block 2 with fail
      go_cut [7, 8] from 19 to 41 (fun s7 s8 wx => s7 = .bool (hasInt Z len x.1.1) ∧ Hid (Kp wo' wx))
      case first =>
        have HS0 : Hid (Kp wo' wr) := by rw [HW.out]; exact Chg.refl _ _
        go_wp2_with fail
        go_loopw [7, 8] (fun s7 s8 wx => ∃ q : Nat, q ≤ len ∧ s8 = .int .i64 q ∧ s7 = .bool (hasInt Z q x.1.1) ∧ Hid (Kp wo' wx)) (fun _ s8 _ => len - (intOf s8).toNat)
        case atStart => exact ⟨0, by omega, rfl, by simp [hasInt], HS0⟩
        case round =>
          obtain ⟨q, hq, rfl, rfl, HI⟩ := hrel
          have hkw := Kp.trans HNo.out.1 HI.out
          by_cases hlq : q < len
          · have hlqz : (q : Int) < (len : Int) := by omega
            have hsu := hasInt_succ Z q x.1.1
            cases hq' : hasInt Z q x.1.1 with
            | true =>
              rw [hq', Bool.true_or] at hsu
              have HS : Hid (hasInt Z (q + 1) x.1.1 = true) := hsu
              clear hsu hq' hkw
              go_wp2_with fail
              go_quiet (fail)
              go_wp2
              exact ⟨⟨q + 1, by omega, by go_num, by rw [HS.out], Chg.drewN HI.out _⟩, by simp [intOf]; omega⟩
            | false =>
              rw [hq', Bool.false_or] at hsu
              obtain ⟨gz, oz, ez, _, cz⟩ := (KH.out.2.2.kept (S := fun _ => False) hkw (fun _ _ h => h)).src.resolve_left (by omega)
              subst ez
              have z0 := cz q hlq
              have c0 := Kp.cell hkw HX.out.1
              obtain ⟨e0, e1, _, _⟩ := cells2 (hkw.heap KH.out.1.box)
              have HS : Hid (hasInt Z (q + 1) x.1.1 = decide (Z q = x.1.1)) := hsu
              clear hsu hq' cz hkw
              generalize Z q = zq at *
              generalize x.1.1 = xc at *
              go_wp2_with fail
              go_quiet (fail)
              go_wp2
              refine ⟨⟨q + 1, by omega, by go_num, ?_, Chg.drewN HI.out _⟩, by simp [intOf]; omega⟩
              rw [HS.out]
              rfl
          · have hlqz : ¬ (q : Int) < (len : Int) := by omega
            have eq : q = len := by omega
            subst eq
            clear hkw
            go_wp2_with fail
            go_meet
            case rel => exact ⟨rfl, HI⟩
      case rest =>
        obtain ⟨rfl, HK⟩ := hcut
        have hkw := Kp.trans HNo.out.1 HK.out
        have hfm := filter_more (stays Z len) l j HX.out.2.2.2.2.2
        have hst : stays Z len (bAt l j) = !hasInt Z len x.1.1 := by rw [← HX.out.2.2.2.2.1]; rfl
        cases hq : hasInt Z len x.1.1 with
        | true =>
          rw [hst, hq] at hfm
          have HI : Hid (Kp w wc ∧ SR wc (.slice lla lw llc) ((l.take (j + 1)).filter (stays Z len)) ∧ ∀ b, (Value.slice lla lw llc).ownBlock = some b → w.heap.size ≤ b) := ⟨hkw, by rw [hfm]; simpa using Chg.owns HK.out HNo.out.2.1 (fun _ _ x => x), HNo.out.2.2⟩
          clear hkw hfm hst hq
          go_wp2
          exact ⟨⟨j + 1, _, by omega, by go_num, rfl, HI⟩, by simp [intOf]; omega⟩
        | false =>
          rw [hst, hq] at hfm
          have hSR := Chg.owns HK.out HNo.out.2.1 (fun _ _ x => x)
          have hwl : ((l.take j).filter (stays Z len)).length ≤ 64 := by
            have h1 := List.length_filter_le (stays Z len) (l.take j)
            have h2 : (l.take j).length ≤ j := by rw [List.length_take]; omega
            omega
          obtain ⟨v', W', hr, q1, q2, q3, q4⟩ := app_slot wc _ _ hSR (by omega) x
          have c0 := Kp.cell hkw HX.out.1
          have c1 := Kp.cell hkw HX.out.2.1
          have c2 := Kp.cell hkw HX.out.2.2.1
          have c3 := Kp.cell hkw HX.out.2.2.2.1
          obtain ⟨e0, e1, _, _⟩ := cells2 (hkw.heap KH.out.1.box)
          have HI : Hid (Kp w W' ∧ SR W' v' ((l.take (j + 1)).filter (stays Z len)) ∧ ∀ b, v'.ownBlock = some b → w.heap.size ≤ b) := by
            refine ⟨Chg.trans hkw q2 (fun i hi e => by have := HNo.out.2.2 i e; omega), by rw [hfm]; simp only [Bool.not_false, if_true]; rw [← HX.out.2.2.2.2.1]; exact q1, fun b hb => ?_⟩
            rcases q3 with e | ⟨i, hi, his⟩
            · exact HNo.out.2.2 b (by rw [← e]; exact hb)
            · rw [hi] at hb; cases hb; exact Nat.le_trans hkw.size his
          obtain ⟨ga, ca, rfl⟩ := q4
          generalize ((l.take j).filter (stays Z len)).length + 1 = lw2 at *
          clear hkw hfm hst hq hSR q1 q2 q3
          go_wp2_with (at_builtin; refine wpList_append_run _ rfl (.tmp 44) (.tmp 52) 55 55 rfl _ _ _ W' rfl rfl hr ?_)
          exact ⟨⟨j + 1, _, by omega, by go_num, rfl, HI⟩, by simp [intOf]; omega⟩
    · have hltz : ¬ (j : Int) < (L : Int) := by omega
      have ej : l.take j = l := List.take_of_length_le (by have := KH.out.2.1; omega)
      rw [ej] at y2
      obtain ⟨lla, llc, hlv⟩ := y2.form
      have hw64 := List.length_filter_le (stays Z len) l
      have hR := KH.out.1.kp y1
      obtain ⟨d0, d1, f0, f1⟩ := cells2 hb
      have hb9 := heap_setCell_same wr C 1 _ 80 lv hb
      have hC9 : Chg wr (wr.setCell ⟨C, 1, none⟩ lv) (fun i => i = C) := Chg.setCell (S := fun i => i = C) (Chg.refl _ _) (.inl rfl) _
      have hCl := KH.out.1.lt (.inl rfl)
      have KF : Hid (IsR (wr.setCell ⟨C, 1, none⟩ lv) C lv n (l.filter (stays Z len)) ∧ (∀ b, lv.ownBlock = some b → w.heap.size ≤ b) ∧ Chg w (wr.setCell ⟨C, 1, none⟩ lv) (fun i => i = C)) :=
        ⟨⟨hb9, Chg.owns hC9 y2 (fun b hb' e => by have := y3 b hb'; omega), hR.n64, Nat.le_trans hw64 hR.len⟩, y3, Chg.trans (y1.mono (fun _ _ h => h.elim)) hC9 (fun i _ e => e)⟩
      subst hlv
      have hfl : (l.filter (stays Z len)).length ≤ L := by rw [KH.out.2.1]; exact hw64
      rw [← KL.out] at hfl KF ⊢
      have hwr : IntKind.i64.wrap ((L : Int) - (fl : Int)) = (L : Int) - (fl : Int) := by simp [IntKind.wrap, IntKind.bits, IntKind.signed]; omega
      clear y1 y2 y3 hb HN hR hb9 hC9 ej
      go_wp2
      go_ret
      exact ⟨rfl, _, KF.out⟩
end Go.Proofs.Ytadpgaaijdpbiaa
