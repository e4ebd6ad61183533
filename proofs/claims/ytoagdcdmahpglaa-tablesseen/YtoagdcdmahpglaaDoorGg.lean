import Derived.Test.YtoagdcdmahpglaaDoorGf
namespace Go.Proofs.YtoagdcdmahpglaaDoor
open Go.ChangeShapes Go.WideShapes Go.ChangeAt Go.RowKit
set_option linter.unusedVariables false
/-- What is walked to. -/
theorem SeJ.to {w W : World} {S A B M t : Nat} {f : Nat → Option Nat} {m : Nat → Nat} {tb : Nat → Option Nat} {ra : Option Addr} {R : List Rv} (h : SeJ w W S A B M t f m tb ra R) {i : Nat} {r : Rv} (hr : R[i]? = some r) {k of : Nat} (hk : k < r.pg.toNat) (ho : of < 4096) (x : Int) :
    ∃ s1 s2, wk 128 m 409600 (r.v + 4096 * k + of) x = (if Ent.alw r.pm x = true then r.ph + 4096 * k + of else 0, [s1, s2], if Ent.alw r.pm x = true then 0 else 5) := by
  obtain ⟨hm, hok, hb⟩ := h.fr.mayok
  have hmem : r ∈ R := List.mem_of_getElem? hr
  obtain ⟨m1, m2, m3, m4, m5, m6⟩ := hm r hmem
  have hb' := hb r hmem
  have hin : pgOf r k ∈ pgs R := by
    unfold pgs
    rw [List.mem_flatMap]
    exact ⟨r, hmem, List.mem_map.2 ⟨k, List.mem_range.2 hk, rfl⟩⟩
  have hp := pgL_at (pgs R) (fun _ _ => none) (pgs_unlike hm h.fr.sorted) _ hin
  have ea : (r.v + 4096 * k + of) / 4096 = r.v / 4096 + k := by omega
  have e3 : (r.v + 4096 * k + of) % 4096 = of := by omega
  have := h.sg.wk_page (v := r.v + 4096 * k + of) (by have := (hok r hmem).1; omega) x (p := r.pm) (fr := r.ph / 4096 + k) (by rw [ea]; exact hp) (by omega)
  rw [e3, show 4096 * (r.ph / 4096 + k) + of = r.ph + 4096 * k + of by omega] at this
  exact this
/-- What lies beside is not mapped. -/
theorem SeJ.out {w W : World} {S A B M t : Nat} {f : Nat → Option Nat} {m : Nat → Nat} {tb : Nat → Option Nat} {ra : Option Addr} {R : List Rv} (h : SeJ w W S A B M t f m tb ra R) {be : Nat} (hbe : be < 4294967296) (hn : ∀ (i : Nat) (r : Rv), R[i]? = some r → ¬ (r.v ≤ be ∧ be < r.v + 4096 * r.pg.toNat)) : (wk 128 m 409600 be 1).2.2 = 3 := by
  have hp : pgL (pgs R) (fun _ _ => none) (be / 4096 / 1024) (be / 4096 % 1024) = none := by
    refine pgL_no _ _ _ _ (fun x hx e => ?_)
    obtain ⟨e1, e2⟩ := e
    unfold pgs at hx
    obtain ⟨r, hr, hx⟩ := List.mem_flatMap.1 hx
    obtain ⟨k, hk, rfl⟩ := List.mem_map.1 hx
    have hk := List.mem_range.1 hk
    obtain ⟨i, hi⟩ := List.getElem?_of_mem hr
    obtain ⟨_, m2, _⟩ := (h.fr.mayok).1 r hr
    refine hn i r hi ?_
    simp only [pgOf] at e1 e2
    have : r.v / 4096 + k = be / 4096 := by omega
    omega
  cases ht : tb (be / 4096 / 1024) with
  | none => rw [h.sg.wk_no hbe 1 ht]
  | some f => rw [h.sg.wk_free hbe 1 ht hp]
theorem SeJ.beside {w W : World} {S A B M t : Nat} {f : Nat → Option Nat} {m : Nat → Nat} {tb : Nat → Option Nat} {ra : Option Addr} {R : List Rv} (h : SeJ w W S A B M t f m tb ra R) {be : Nat} (hbe : be < 4294967296) (bb : Bool) (hn : bb = false → ∀ (i : Nat) (r : Rv), i < R.length → R[i]? = some r → ¬ (r.v ≤ be ∧ be < r.v + 4096 * r.pg.toNat)) :
    Calls Tryd.prog 16 #[.pointer (some ⟨B, 0, none⟩), .int .u32 409600, .int .u32 ((be : Nat) : Int), .int .i64 1] W fun e w' => ∃ (z : Nat) (sv : Value) (F : Int), e = .returned (.tuple #[.int .u32 (z : Int), sv, .int .i64 F]) ∧ Hid (bb = false → F = 3) ∧ Chg W w' (fun _ => False) := by
  have hWk := walk_any W h.pt B M 128 f m h.sp.m 409600 be (by omega) hbe 1 (by unfold Ent.InI; omega)
  refine hWk.mono ?_
  rintro e w' ⟨sv, rfl, hst, hc⟩
  exact ⟨_, sv, _, rfl, fun hb => h.out hbe (fun i r hi => hn hb i r (List.getElem?_eq_some_iff.1 hi).1 hi), hc⟩
/-- The walk itself, as the law sees it. -/
theorem SeJ.walked {w W : World} {S A B M t : Nat} {f : Nat → Option Nat} {m : Nat → Nat} {tb : Nat → Option Nat} {ra : Option Addr} {R : List Rv} (h : SeJ w W S A B M t f m tb ra R) {i : Nat} {r : Rv} (hr : R[i]? = some r) {k of : Nat} (hk : k < r.pg.toNat) (ho : of < 4096) (x : Nat) (hx : x ≤ 5) (hv : r.v + 4096 * k + of < 4294967296) :
    Calls Tryd.prog 16 #[.pointer (some ⟨B, 0, none⟩), .int .u32 409600, .int .u32 ((r.v + 4096 * k + of : Nat) : Int), .int .i64 (x : Int)] W.drew fun e w' => ∃ g, e = .returned (.tuple #[.int .u32 (((if Ent.alw r.pm x = true then r.ph + 4096 * k + of else 0 : Nat)) : Int), .slice (some ⟨g, 0, none⟩) 2 2, .int .i64 (if Ent.alw r.pm x = true then 0 else 5)]) ∧ Chg W.drew w' (fun _ => False) := by
  obtain ⟨s1, s2, hwk⟩ := h.to hr hk ho x
  have hWk := walk_any W.drew (Pt_chg h.pt (Chg.refl _ _).drew) B M 128 f m (h.sp.m.other (Chg.refl _ (fun _ => False)).drew (fun _ _ x => x)) 409600 (r.v + 4096 * k + of) (by omega) hv x (by unfold Ent.InI; omega)
  rw [hwk] at hWk
  refine hWk.mono ?_
  rintro e w' ⟨sv, rfl, hst, hc⟩
  rcases hst with ⟨h0, _⟩ | ⟨g, rfl, _, _⟩
  · cases h0
  · exact ⟨g, rfl, hc⟩
set_option maxHeartbeats 4000000 in
set_option maxRecDepth 10000 in
theorem seen_walk (w : World) (a : Option Addr) (len cap : Nat) (l : List Rv) (hl4 : l.length = min 4 len) (h : RgsIn w a l) (hP : Ent.Pt w) (off be : Nat) (hoff : off < 4294967296) (hbe : be < 4294967296) :
    Calls Tryd.prog 3 #[.slice a len cap, .int .u32 (off : Nat), .int .u32 (be : Nat)] w fun e w' => e = .returned (.bool true) ∧ Chg w w' (fun _ => False) := by
  have hkn := known_any w hP
  have HH : Hid (RgsIn w a l ∧ l.length = min 4 len ∧ Ent.Pt w) := ⟨h, hl4, hP⟩
  clear h hP hl4
  go_enter Tryd.func3, Tryd.ntmps3
  go_wp2_with fail
  go_at_call 9
  refine hkn.mono ?_
  clear hkn
  rintro e w1 ⟨rfl, c1⟩
  have hF := fresh_any w1 128 100 20 (by omega) (by omega) (by omega)
  rw [show (((128 : Nat)) : Int) = 128 from rfl, show (((100 : Nat)) : Int) = 100 from rfl, show (((20 : Nat)) : Int) = 20 from rfl] at hF
  have C1 : Hid (Chg w w1 (fun _ => False)) := c1
  clear c1
  go_wp2_with fail
  go_at_call 10
  refine hF.mono ?_
  rintro e w2 ⟨B, M, A, rfl, m2, a2, b1, b2, b3, c2⟩
  clear hF
  have hN := snew_ok w2 A B M 128 100 20 0 (fun _ => none) (fun _ => 0) a2 m2 (notMf m2 a2.box (by decide) (by decide)) (by omega) (by omega)
  have K2 : Hid (w.heap.size ≤ B ∧ w.heap.size ≤ M ∧ w.heap.size ≤ A ∧ Chg w w2 (fun _ => False)) := by
    have := C1.out.size
    exact ⟨by omega, by omega, by omega, C1.out.tr c2⟩
  clear m2 a2 b1 b2 b3 c2 C1
  go_wp2_with fail
  go_at_call 11
  refine hN.mono ?_
  rintro e w3 ⟨S, rfl, s3, hS3, a3, f3, m3, c3, gr3⟩
  clear hN
  have sp3 : Sp w3 S A 409600 B M 128 100 20 1 false f3 zR := ⟨s3, a3, m3, by omega, by omega⟩
  obtain ⟨k1, k2, k3, k4⟩ := K2.out
  have c3' : Chg w w3 (fun _ => False) := k4.trans c3 (fun q hq e => by
    rcases e with e | e | e | ⟨p, e⟩
    · omega
    · omega
    · omega
    · cases e)
  have hf3 : ∀ j x, f3 j = some x → w.heap.size ≤ x := fun j x e => by
    rcases gr3 j x e with e | e
    · cases e
    · exact Nat.le_trans k4.size e
  have hfw := few_any w3 a len cap l HH.out.2.1 (HH.out.1.chg c3' (fun _ _ _ _ x => x))
  have K3 : Hid (Sp w3 S A 409600 B M 128 100 20 1 false f3 zR ∧ Chg w w3 (fun _ => False) ∧ (∀ j x, f3 j = some x → w.heap.size ≤ x) ∧ w.heap.size ≤ B ∧ w.heap.size ≤ M ∧ w.heap.size ≤ A) := ⟨sp3, c3', hf3, k1, k2, k3⟩
  clear s3 hS3 a3 m3 c3 gr3 sp3 k1 k2 k3 k4 c3' hf3 K2
  go_wp2_with fail
  go_at_call 12
  refine hfw.mono ?_
  clear hfw
  rintro e w4 ⟨vR, R, rfl, hRl, hJ⟩
  obtain ⟨hm, ho, hb⟩ := hJ.fr.mayok
  have hR4 : R.length ≤ 4 := by have := HH.out.2.1; omega
  obtain ⟨ra, rc, ev, hrg, hown⟩ := hJ.own.rgs ho (by omega)
  have hnd := need_few hJ.fr hR4
  have sp4 := K3.out.1.other hJ.chg (fun _ _ x => x)
  have hMp := map_any w4 S A 409600 B M 128 100 20 1 false f3 zR sp4 ra rc R hrg (fun _ => by have := pgs_len (fun r hr => (hb r hr).1); omega) (fun k hk => okW_iff.2 ⟨by omega, by omega⟩) (fun q ⟨h0, o, e⟩ hh => by
    have h1 := hJ.new q (hown q o h0 e)
    have h2 := K3.out.1.lt _ hh
    omega)
  have hp1 : 1 ≤ needM R := by
    obtain ⟨L, ⟨_, _, n3⟩, _⟩ := ndL_ni R hm ho R.length (Nat.le_refl _)
    rw [List.take_length] at n3
    unfold needM
    rw [if_pos (List.all_eq_true.2 (fun r hr => decide_eq_true (hm r hr)) : R.all Rv.mb = true), n3]; omega
  have HMf : Hid (∀ r X, MapR 128 zR 409600 100 20 1 false R r X → r = 0 ∧ ∃ Y, X = some Y ∧ Y.t + 1 = 1 + needM R ∧ ∃ tb, Sg 128 (stPs Y.T (pgs R) Y.m) 409600 tb (pgL (pgs R) (fun _ _ => none))) := fun r X hX =>
    mapped_fresh (Sg.zero (by omega) (by omega) (fun i _ _ => zR_zero i)) hm ho hJ.fr.sorted (by omega) (by omega) (by omega) hp1 hX
  have K4 : Hid (RgsIn w4 ra R ∧ Chg w w4 (fun _ => False) ∧ (∀ j x, f3 j = some x → w.heap.size ≤ x) ∧ w.heap.size ≤ B ∧ w.heap.size ≤ M ∧ w.heap.size ≤ A ∧ FR R ∧ (∀ q o, 0 < R.length → ra = some ⟨q, o, none⟩ → ¬ Sf S A B M f3 q)) := ⟨hrg, K3.out.2.1.tr hJ.chg, K3.out.2.2.1, K3.out.2.2.2.1, K3.out.2.2.2.2.1, K3.out.2.2.2.2.2, hJ.fr, fun q o h0 e hh => by
    have h1 := hJ.new q (hown q o h0 e)
    have h2 := K3.out.1.lt _ hh
    omega⟩
  subst ev
  clear hm ho hb hrg hown hnd sp4 hp1 hJ K3 hRl
  go_wp2_with fail
  go_at_call 13
  refine hMp.mono ?_
  clear hMp
  rintro e w5 ⟨r, X, rfl, hX, hE⟩
  obtain ⟨rfl, Y, rfl, hYt, tb, hSg⟩ := HMf.out _ _ hX
  obtain ⟨f5, sp5, gr5, ch5⟩ := hE
  have c5 : Chg w w5 (fun _ => False) := K4.out.2.1.trans ch5 (fun q hq e => by
    obtain ⟨_, _, k1, k2, k3, k4, _⟩ := K4.out
    rcases e with e | e | e | ⟨p, e⟩
    · omega
    · omega
    · omega
    · have := k1 p q e; omega)
  have hJ5 : SeJ w w5 S A B M Y.t f5 (stPs Y.T (pgs R) Y.m) tb ra R := ⟨sp5, hSg, K4.out.1.chg ch5 (fun q o e h0 x => K4.out.2.2.2.2.2.2.2 q o h0 e (.inr x)), Pt_chg HH.out.2.2 c5, c5, K4.out.2.2.2.2.2.2.1⟩
  have hTk := taken_any w5 A B 100 20 Y.t false sp5.a
  have hNd := need_any w5 ra rc R hJ5.rg (by omega)
  have HJ : Hid (SeJ w w5 S A B M Y.t f5 (stPs Y.T (pgs R) Y.m) tb ra R) := hJ5
  obtain ⟨T, hT⟩ : ∃ T, T = Y.t := ⟨_, rfl⟩
  have hT2 : needM R = T := by omega
  rw [hT2] at hNd
  rw [← hT] at hTk HJ
  generalize stPs Y.T (pgs R) Y.m = m5 at HJ
  clear hJ5 sp5 gr5 ch5 c5 hSg hX hYt K4 HMf hT hT2
  go_wp2_with fail
  go_at_call 14
  refine hTk.mono ?_
  clear hTk
  rintro e w6 ⟨rfl, e6⟩
  rw [e6]
  clear e6
  go_wp2_with fail
  go_at_call 15
  refine hNd.mono ?_
  clear hNd
  rintro e w7 ⟨rfl, c7⟩
  have HJ7 : Hid (SeJ w w7 S A B M T f5 m5 tb ra R) := HJ.out.next c7
  clear c7 HJ
  have hof : off % 4096 < 4096 := by omega
  have eof : ((off : Int) % 4096) = ((off % 4096 : Nat) : Int) := by omega
  go_wp2_with fail
  simp only [eof]
  generalize off % 4096 = of at *
  clear eof
  go_loopw [14, 15, 16, 17, 18, 19, 20] (fun s14 s15 s16 s17 s18 s19 s20 wr => ∃ i : Nat, s14 = .int .i64 i ∧ i ≤ R.length ∧ Hid (SeJ w wr S A B M T f5 m5 tb ra R)) (fun s14 _ _ _ _ _ _ _ => R.length - (intOf s14).toNat)
  case atStart => exact ⟨0, rfl, by omega, HJ7⟩
  case round =>
    obtain ⟨i, rfl, hi, HI⟩ := hrel
    clear HJ7
    by_cases hlt : i < R.length
    · have hiz : (i : Int) < (R.length : Int) := by omega
      obtain ⟨b, o, eb, hr⟩ := HI.out.rg.2.2.resolve_left (by omega)
      subst eb
      have Hr : Hid (R[i]? = some R[i]) := List.getElem?_eq_getElem hlt
      have hat := hr i hlt
      clear hr
      obtain ⟨r, hr⟩ : ∃ r, r = R[i] := ⟨_, rfl⟩
      rw [← hr] at Hr hat
      clear hr
      obtain ⟨rv, rph, rpg, rpm⟩ := r
      obtain ⟨q1, q2, q3, q4, q5, q6⟩ := HI.out.fr i _ Hr.out
      obtain ⟨np, hnp⟩ : ∃ np : Nat, rpg = np := ⟨rpg.toNat, by have := q2.2.2.2.1; simp only at this; omega⟩
      subst hnp
      have HQ : Hid (np ≤ 12 ∧ rv + 4096 * np ≤ 268435456 ∧ rph / 4096 + np ≤ 123 ∧ rv % 4096 = 0 ∧ rph % 4096 = 0 ∧ rpm < 256 ∧ rv < 4294967296 ∧ rph < 4294967296) := by
        obtain ⟨_, m2, m3, _, _, _⟩ := q2
        obtain ⟨o1, o2, _, o4⟩ := q1
        simp only at q3 q4 q5 m2 m3 o1 o2 o4
        refine ⟨by omega, by omega, by split at q4 <;> omega, m2, m3, o4, o1, o2⟩
      clear q1 q2 q3 q4 q5 q6
      have HA : Hid (RgAt wr b (o + i * 4) ⟨rv, rph, (np : Nat), rpm⟩ ∧ SeJ w wr S A B M T f5 m5 tb (some ⟨b, o, none⟩) R) := ⟨hat, HI.out⟩
      have HL : Hid (i < R.length) := hlt
      have hrb : rv ≤ 268435456 ∧ rph ≤ 507904 ∧ np ≤ 12 := by have := HQ.out; omega
      clear HI hat hi hlt
      rename World => W9
      go_wp2_with fail
      go_loopw [15, 16, 17, 18, 19, 20] (fun s15 s16 s17 s18 s19 s20 wr => ∃ k : Nat, s15 = .int .i64 k ∧ k ≤ np ∧ Hid (RgAt wr b (o + i * 4) ⟨rv, rph, (np : Nat), rpm⟩ ∧ SeJ w wr S A B M T f5 m5 tb (some ⟨b, o, none⟩) R)) (fun s15 _ _ _ _ _ _ => np - (intOf s15).toNat)
      case atStart => exact ⟨0, rfl, by omega, HA⟩
      case round =>
        obtain ⟨k, rfl, hk, HK⟩ := hrel
        clear HA
        obtain ⟨x0, x1, x2, x3⟩ := HK.out.1
        simp only at x0 x1 x2 x3
        by_cases hkl : k < np
        · have hkz : (k : Int) < (np : Int) := by omega
          clear x0 x1 x3
          rename World => W10
          go_wp2_with fail
          go_loopw [16, 17, 18, 19, 20] (fun s16 s17 s18 s19 s20 wr => ∃ x : Nat, s16 = .int .i64 x ∧ x ≤ 5 ∧ Hid (RgAt wr b (o + i * 4) ⟨rv, rph, (np : Nat), rpm⟩ ∧ SeJ w wr S A B M T f5 m5 tb (some ⟨b, o, none⟩) R)) (fun s16 _ _ _ _ _ => 5 - (intOf s16).toNat)
          case atStart => exact ⟨0, rfl, by omega, HK⟩
          case round =>
            obtain ⟨x, rfl, hx, HX⟩ := hrel
            clear HK x2
            obtain ⟨x0, x1, x2, x3⟩ := HX.out.1
            simp only at x0 x1 x2 x3
            by_cases hx4 : x ≤ 4
            · have hxz : (x : Int) ≤ 4 := by omega
              have hq := HQ.out
              have hWk := HX.out.2.walked Hr.out (k := k) (of := of) (by simp only; omega) hof x hx (by simp only; omega)
              simp only at hWk
              have hRt := root_any wr.drew S A 409600 (HX.out.2.sp.s.other (Chg.refl _ (fun _ => False)).drew (fun x => x))
              have hwr : IntKind.u32.wrap (IntKind.u32.wrap ((rv : Int) + IntKind.u32.wrap (IntKind.i64.wrap (4096 * (k : Int)))) + (of : Int)) = ((rv + 4096 * k + of : Nat) : Int) := by
                simp [IntKind.wrap, IntKind.bits, IntKind.signed]; omega
              have hwz : Hid (((rph + 4096 * k + of : Nat) : Int) = (rph : Int) + 4096 * (k : Int) + (of : Int)) := by
                show ((rph + 4096 * k + of : Nat) : Int) = (rph : Int) + 4096 * (k : Int) + (of : Int)
                omega
              rw [show (((409600 : Nat)) : Int) = 409600 from rfl] at hRt
              generalize rv + 4096 * k + of = V at hWk hwr
              generalize rph + 4096 * k + of = Z at hWk hwz
              have hAl := fun (w1 : World) (h1 : Ent.Pt w1) => Ent.Allows_any w1 h1 rpm hq.2.2.2.2.2.1 x (by unfold Ent.InI; omega)
              have HK : ∀ W', Chg wr W' (fun _ => False) → W'.cell? ⟨b, o + i * 4, none⟩ = some (.int .u32 (rv : Nat)) := fun W' hc => (HX.out.1.chg hc (fun x => x)).1
              clear x2 hq
              by_cases hal : Ent.alw rpm x = true
              · simp only [hal, if_true] at hWk hAl
                clear x1 x3
                go_upto_region 22 with fail
                go_region_held3 (fun w' => w'.cell? ⟨b, o + i * 4, none⟩ = some (.int .u32 (rv : Nat))) (first | assumption | exact HK _ (Chg.refl _ _).drew | exact HK _ ((Chg.refl _ _).drew.tr (by assumption))) (first | (go_at_call 17; with_reducible refine hRt.mono ?_; rintro e wz ⟨rfl, hwz⟩; rw [hwz]; clear hwz) | (go_at_call 16; with_reducible refine hWk.mono ?_; rintro e wd ⟨g, rfl, kd⟩))
                have c9 : Chg wr wd (fun _ => False) := (Chg.refl _ _).drew.tr kd
                obtain ⟨y0, y1, y2, y3⟩ := HX.out.1.chg c9 (fun x => x)
                simp only at y0 y1 y2 y3
                have hAl2 := hAl wd (Pt_chg HX.out.2.pt c9)
                have HX2 : Hid (RgAt wd b (o + i * 4) ⟨rv, rph, (np : Nat), rpm⟩ ∧ SeJ w wd S A B M T f5 m5 tb (some ⟨b, o, none⟩) R) := ⟨HX.out.1.chg c9 (fun x => x), HX.out.2.next c9⟩
                clear hAl hWk hRt HX HK kd y0 y2 c9
                go_wp2_with fail
                go_at_call 18
                refine hAl2.mono ?_
                rintro e w9 ⟨rfl, e9⟩
                rw [e9]
                clear hAl2 e9
                have hwz := hwz.out
                go_wp2_with fail
                exact ⟨⟨x + 1, by go_num, by omega, HX2⟩, by simp [intOf]; omega⟩
              · have hal : Ent.alw rpm x = false := by simpa using hal
                simp only [hal, Bool.false_eq_true, if_false] at hWk hAl
                clear x1 x3 hwz
                go_upto_region 22 with fail
                go_region_held3 (fun w' => w'.cell? ⟨b, o + i * 4, none⟩ = some (.int .u32 (rv : Nat))) (first | assumption | exact HK _ (Chg.refl _ _).drew | exact HK _ ((Chg.refl _ _).drew.tr (by assumption))) (first | (go_at_call 17; with_reducible refine hRt.mono ?_; rintro e wz ⟨rfl, hwz⟩; rw [hwz]; clear hwz) | (go_at_call 16; with_reducible refine hWk.mono ?_; rintro e wd ⟨g, rfl, kd⟩))
                have c9 : Chg wr wd (fun _ => False) := (Chg.refl _ _).drew.tr kd
                obtain ⟨y0, y1, y2, y3⟩ := HX.out.1.chg c9 (fun x => x)
                simp only at y0 y1 y2 y3
                have hAl2 := hAl wd (Pt_chg HX.out.2.pt c9)
                have HX2 : Hid (RgAt wd b (o + i * 4) ⟨rv, rph, (np : Nat), rpm⟩ ∧ SeJ w wd S A B M T f5 m5 tb (some ⟨b, o, none⟩) R) := ⟨HX.out.1.chg c9 (fun x => x), HX.out.2.next c9⟩
                clear hAl hWk hRt HX HK kd y0 y2 c9
                go_wp2_with fail
                go_at_call 18
                refine hAl2.mono ?_
                rintro e w9 ⟨rfl, e9⟩
                rw [e9]
                clear hAl2 e9
                go_wp2_with fail
                exact ⟨⟨x + 1, by go_num, by omega, HX2⟩, by simp [intOf]; omega⟩
            · have hxz : ¬ (x : Int) ≤ 4 := by omega
              go_wp2_with fail
              exact ⟨⟨k + 1, by go_num, by omega, HX⟩, by simp [intOf]; omega⟩
        · have hkz : ¬ (k : Int) < (np : Int) := by omega
          clear x0 x1 x3
          go_wp2_with fail
          exact ⟨⟨i + 1, by go_num, by have := HL.out; omega, HK.out.2⟩, by have := HL.out; simp [intOf]; omega⟩
    · have hiz : ¬ (i : Int) < (R.length : Int) := by omega
      rename World => W9
      go_wp2_with fail
      go_loopw [21, 22] (fun s21 s22 wr => ∃ (j : Nat) (bb : Bool), s22 = .int .i64 j ∧ s21 = .bool bb ∧ j ≤ R.length ∧ Hid (SeJ w wr S A B M T f5 m5 tb ra R ∧ (bb = false → ∀ (i : Nat) (r : Rv), i < j → R[i]? = some r → ¬ (r.v ≤ be ∧ be < r.v + 4096 * r.pg.toNat)))) (fun _ s22 _ => R.length - (intOf s22).toNat)
      case atStart => exact ⟨0, false, rfl, rfl, by omega, HI.out, fun _ i r hi => absurd hi (by omega)⟩
      case round =>
        obtain ⟨j, bb, rfl, rfl, hj, HJ⟩ := hrel
        clear HI
        by_cases hjl : j < R.length
        · have hjz : (j : Int) < (R.length : Int) := by omega
          obtain ⟨b, o, eb, hr⟩ := HJ.out.1.rg.2.2.resolve_left (by omega)
          subst eb
          have Hr : Hid (R[j]? = some R[j]) := List.getElem?_eq_getElem hjl
          have hat := hr j hjl
          clear hr
          obtain ⟨r, hr⟩ : ∃ r, r = R[j] := ⟨_, rfl⟩
          rw [← hr] at Hr hat
          clear hr
          obtain ⟨rv, rph, rpg, rpm⟩ := r
          obtain ⟨q1, q2, q3, q4, q5, q6⟩ := HJ.out.1.fr j _ Hr.out
          obtain ⟨np, hnp⟩ : ∃ np : Nat, rpg = np := ⟨rpg.toNat, by have := q2.2.2.2.1; simp only at this; omega⟩
          subst hnp
          have hrb : rv ≤ 268435456 ∧ np ≤ 12 := by
            simp only at q3 q5
            omega
          clear q1 q2 q3 q4 q5 q6
          obtain ⟨x0, x1, x2, x3⟩ := hat
          simp only at x0 x2
          clear x1 x3
          have HJ2 : Hid (∀ b2 : Bool, (b2 = false → bb = false ∧ ¬ (rv ≤ be ∧ be < rv + 4096 * np)) → (b2 = false → ∀ (i : Nat) (r : Rv), i < j + 1 → R[i]? = some r → ¬ (r.v ≤ be ∧ be < r.v + 4096 * r.pg.toNat))) := fun b2 hb e i r hi hr => by
            obtain ⟨e1, e2⟩ := hb e
            by_cases hij : i = j
            · subst hij
              rw [Hr.out] at hr
              cases hr
              simpa using e2
            · exact HJ.out.2 e1 i r (by omega) hr
          have HL : Hid (j < R.length) := hjl
          clear hjl hj
          cases bb with
          | true =>
            go_wp2_with fail
            go_quiet (fail)
            go_wp2_with fail
            exact ⟨⟨j + 1, true, by go_num, rfl, by have := HL.out; omega, HJ.out.1.next ((Chg.refl _ _).drewN _), HJ2.out true (fun e => by cases e)⟩, by have := HL.out; simp [intOf]; omega⟩
          | false =>
            by_cases hge : rv ≤ be
            · have hgz : (rv : Int) ≤ (be : Int) := by omega
              by_cases hlt : be < rv + 4096 * np
              · have hlz : (be : Int) - (rv : Int) < 4096 * (np : Int) := by omega
                go_wp2_with fail
                go_quiet (fail)
                go_wp2_with fail
                exact ⟨⟨j + 1, true, by go_num, rfl, by have := HL.out; omega, HJ.out.1.next ((Chg.refl _ _).drewN _), HJ2.out true (fun e => by cases e)⟩, by have := HL.out; simp [intOf]; omega⟩
              · have hlz : ¬ (be : Int) - (rv : Int) < 4096 * (np : Int) := by omega
                go_wp2_with fail
                go_quiet (fail)
                go_wp2_with fail
                exact ⟨⟨j + 1, false, by go_num, by simp only [Value.bool.injEq, decide_eq_false_iff_not]; omega, by have := HL.out; omega, HJ.out.1.next ((Chg.refl _ _).drewN _), HJ2.out false (fun _ => ⟨by simp, fun e => hlt e.2⟩)⟩, by have := HL.out; simp [intOf]; omega⟩
            · have hgz : ¬ (rv : Int) ≤ (be : Int) := by omega
              go_wp2_with fail
              go_quiet (fail)
              go_wp2_with fail
              exact ⟨⟨j + 1, false, by go_num, rfl, by have := HL.out; omega, HJ.out.1.next ((Chg.refl _ _).drewN _), HJ2.out false (fun _ => ⟨by simp, fun e => hge e.1⟩)⟩, by have := HL.out; simp [intOf]; omega⟩
        · have hjz : ¬ (j : Int) < (R.length : Int) := by omega
          have hbs := HJ.out.1.beside hbe bb (fun e i r hi => HJ.out.2 e i r (by omega))
          have hRt := root_any wr S A 409600 HJ.out.1.sp.s
          rw [show (((409600 : Nat)) : Int) = 409600 from rfl] at hRt
          have HC : Hid (Chg w wr (fun _ => False)) := HJ.out.1.chg
          clear HJ
          go_wp2_with fail
          go_at_call 17
          refine hRt.mono ?_
          rintro e wz ⟨rfl, ez⟩
          rw [ez]
          clear ez hRt
          go_wp2_with fail
          go_at_call 16
          refine hbs.mono ?_
          rintro e wx ⟨z, sv, F, rfl, HF, hc⟩
          clear hbs
          cases bb with
          | true =>
            go_wp2_with fail
            go_ret
            exact ⟨rfl, HC.out.tr hc⟩
          | false =>
            have hF := HF.out rfl
            subst hF
            go_wp2_with fail
            go_ret
            exact ⟨rfl, HC.out.tr hc⟩
end Go.Proofs.YtoagdcdmahpglaaDoor
