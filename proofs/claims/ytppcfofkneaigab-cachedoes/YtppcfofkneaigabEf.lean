import Derived.Test.YtppcfofkneaigabEe
import Derived.Test.YtppcfofkneaigabLi
import Derived.Test.YtppcfofkneaigabDf
import Derived.BigQuiet
import Derived.Deep.Cut
import Derived.Deep.CutBlock
import Derived.Deep.CutRange
namespace Go.Proofs.Ytppcfofkneaigab
open Go.ChangeShapes Go.WideShapes Go.ChangeAt Go.RowKit
set_option linter.unusedVariables false

theorem own_sl' {w : World} {T : TypeId} {size : Nat} {v : Value} {n : Nat} {xs : List Value} (h : w.ownsRow 0 T size v n xs) : ∃ a cap, v = .slice a n cap := by
  rcases h.2 with ⟨rfl, h0⟩ | ⟨g, cap, cur, rfl, _⟩
  · exact ⟨none, 0, by rw [h0]⟩
  · exact ⟨_, _, rfl⟩
theorem own_sl {w : World} {T : TypeId} {size : Nat} {v : Value} {n : Nat} {xs : List Value} (h : w.ownsRow 0 T size v n xs) : ∃ a m cap, v = .slice a m cap := by
  obtain ⟨a, cap, e⟩ := own_sl' h
  exact ⟨a, n, cap, e⟩
theorem PrI.kept {w w' : World} {P C R sets ways line : Nat} {st : Nat → List Ln} {v : Value} {L : List HL} {now : Nat} {S : Nat → Prop} (h : PrI w P C R sets ways line st v L now) (hc : Chg w w' S)
    (hS : ∀ k, S k → k < w.heap.size → ∃ cur U x, w.heap[k]? = some (.cells cur U x) ∧ U ≠ 42 ∧ U ≠ 69 ∧ U ≠ 79 ∧ U ≠ 85) : PrI w' P C R sets ways line st v L now := by
  have key : ∀ {k : Nat} {cur : Array Value} {U : TypeId} {x : Nat × Nat}, w.heap[k]? = some (.cells cur U x) → (U = 42 ∨ U = 69 ∨ U = 79 ∨ U = 85) → ¬ S k := by
    intro k cur U x hb hU hs
    obtain ⟨cur', V, x', hb', n1, n2, n3, n4⟩ := hS k hs (Array.getElem?_eq_some_iff.1 hb).1
    rw [hb] at hb'
    simp at hb'
    have := hb'.2.1
    subst this
    rcases hU with q | q | q | q <;> contradiction
  refine ⟨hc.heap h.at_ (key h.at_ (.inl rfl)), ?_, ?_⟩
  · obtain ⟨arr, hb, _⟩ := h.c.ex
    exact h.c.kept hc (key hb (.inr (.inl rfl)))
  · refine h.r.kept hc (key h.r.at_ (.inr (.inr (.inl rfl)))) (fun k hk => ?_)
    obtain ⟨_, cur, hb⟩ := own_at h.r.row hk
    exact key hb (.inr (.inr (.inr rfl)))
theorem PrI.keptF {w w' : World} {P C R sets ways line : Nat} {st : Nat → List Ln} {v : Value} {L : List HL} {now : Nat} (h : PrI w P C R sets ways line st v L now) (hc : Chg w w' (fun _ => False)) : PrI w' P C R sets ways line st v L now := h.kept hc (fun _ hs => hs.elim)
theorem PrI.cells {w : World} {P C R sets ways line : Nat} {st : Nat → List Ln} {v : Value} {L : List HL} {now : Nat} (h : PrI w P C R sets ways line st v L now) : w.cell? ⟨P, 0, none⟩ = some (.pointer (some ⟨C, 0, none⟩)) ∧ w.cell? ⟨P, 1, none⟩ = some (.pointer (some ⟨R, 0, none⟩)) :=
  ⟨by rw [(cells_at h.at_ _).1]; rfl, by rw [(cells_at h.at_ _).1]; rfl⟩
theorem BkI.cells {w : World} {K e : Nat} {hv wv lv mv : Value} {H : List (Value × Value × List (Nat × Ln))} {T : List (Value × Nat × Nat)} (h : BkI w K e hv wv lv mv H T) : w.cell? ⟨K, 0, none⟩ = some hv ∧ w.cell? ⟨K, 1, none⟩ = some wv ∧ w.cell? ⟨K, 2, none⟩ = some lv ∧ w.cell? ⟨K, 3, none⟩ = some mv :=
  ⟨by rw [(cells_at h.at_ _).1]; rfl, by rw [(cells_at h.at_ _).1]; rfl, by rw [(cells_at h.at_ _).1]; rfl, by rw [(cells_at h.at_ _).1]; rfl⟩

set_option maxHeartbeats 8000000 in
set_option maxRecDepth 100000 in
theorem plines_any (w : World) (P C R K e sets ways line : Nat) (st : Nat → List Ln) (v : Value) (L : List HL) (now : Nat) (su : Nat → List HL) (hv wv lv mv : Value) (H : List (Value × Value × List (Nat × Ln))) (T : List (Value × Nat × Nat))
    (hp : PrI w P C R sets ways line st v L now) (hk : BkI w K e hv wv lv mv H T) (r : Rel sets st L now su) (hl : L.length ≤ 2048) (hnow : now ≤ 4611686018427387904) (hn : H.length ≤ 90000)
    (hb : ∀ p ∈ linesN st sets, p.1 < 4294967296 ∧ p.2.1 < 4294967296) :
    Calls Try.prog 10 #[.pointer (some ⟨P, 0, none⟩), .pointer (some ⟨K, 0, none⟩)] w fun x w' => x = .returned (.bool true) ∧ ∃ hv' wv' a b m, BkI w' K e hv' wv' lv mv (H ++ [(a, m, linesN st sets), (b, m, linesN st sets)]) T ∧ Chg w w' (fun k => k = K ∨ hv.ownBlock = some k ∨ wv.ownBlock = some k) ∧ (∀ k, hv'.ownBlock = some k → hv.ownBlock = some k ∨ w.heap.size ≤ k) ∧ (∀ k, wv'.ownBlock = some k → wv.ownBlock = some k ∨ w.heap.size ≤ k) := by
  have hg8 : ∀ k, (st k).length ≤ 8 := fun k => Nat.le_trans (hp.c.good k).le hp.c.sh.w2
  have hln : (linesN st sets).length ≤ 2048 := Nat.le_trans (linesN_len st 8 hg8 sets) (by have := hp.c.sh.s2; omega)
  have KP : Hid (PrI w P C R sets ways line st v L now ∧ BkI w K e hv wv lv mv H T ∧ Rel sets st L now su ∧ L.length ≤ 2048 ∧ (∀ p ∈ linesN st sets, p.1 < 4294967296 ∧ p.2.1 < 4294967296) ∧ badN L = dirtyN st sets) := ⟨hp, hk, r, hl, hb, r.bad hp.c.sh.s1⟩
  obtain ⟨p0, p1⟩ := hp.cells
  have hLn := lines_any w C sets ways line st hp.c
  clear hp hk r hl hb
  generalize hLL : linesN st sets = ll at *
  have KLL : Hid (linesN st sets = ll) := hLL
  clear hLL
  go_enter Try.func10, Try.ntmps10
  go_wp2_with fail
  go_at_call 22
  refine hLn.mono ?_
  rintro x w1 ⟨v1, rfl, l1, C1⟩
  obtain ⟨a1, c1, rfl⟩ := own_len l1.row
  have P1 : Hid (PrI w1 P C R sets ways line st v L now) := KP.out.1.keptF C1
  have hRl := rlines_any w1 R sets ways line v L now P1.out.r KP.out.2.2.2.1 hnow st su KP.out.2.2.1 hg8
  rw [KLL.out] at hRl
  have K1 : Hid (Lv w1 w.heap.size (.slice a1 ll.length c1) ll ∧ Chg w w1 (fun _ => False)) := ⟨l1, C1⟩
  obtain ⟨p0', p1'⟩ := P1.out.cells
  clear hLn l1 C1 p0 p1
  go_wp2_with fail
  go_at_call 17
  refine hRl.mono ?_
  rintro x w2 ⟨vm, rfl, lm, C2⟩
  obtain ⟨am, cm, rfl⟩ := own_len lm.row
  have K2 : Hid (Lv w2 w1.heap.size (.slice am ll.length cm) ll ∧ Chg w1 w2 (fun _ => False)) := ⟨lm, C2⟩
  have hb2 : ∀ p ∈ ll, p.1 < 4294967296 ∧ p.2.1 < 4294967296 := KP.out.2.2.2.2.1
  have KR : Hid (RdL w2 (.slice a1 ll.length c1) ll ∧ RdL w2 (.slice am ll.length cm) ll) := ⟨(K1.out.1.rd hb2).kept C2, lm.rd hb2⟩
  obtain ⟨n, hnn⟩ : ∃ n, n = ll.length := ⟨_, rfl⟩
  rw [← hnn] at hln
  have KN : Hid (n = ll.length) := hnn
  rw [← hnn]
  clear hRl lm C2 p0' p1' hb2 hnn
  go_wp2
  go_loopw [7, 8] (fun s7 s8 wr => ∃ i : Nat, i ≤ n ∧ s7 = .bool true ∧ s8 = .int .i64 i ∧ Hid (Chg w2 wr (fun _ => False))) (fun _ s8 _ => n - (intOf s8).toNat)
  case atStart => exact ⟨0, by omega, rfl, rfl, Chg.refl _ _⟩
  case round =>
    obtain ⟨i, hi, rfl, rfl, HC⟩ := hrel
    rename World => Wi
    by_cases hil : i < n
    · have hilz : (i : Int) < (n : Int) := by omega
      have hiL : i < ll.length := by have := KN.out; omega
      have hnl : ll ≠ [] := by rintro rfl; simp at hiL
      obtain ⟨x1, y1, e1, q1⟩ := KR.out.1.kept HC.out
      obtain ⟨x2, y2, e2, q2⟩ := KR.out.2.kept HC.out
      simp only [Value.slice.injEq] at e1 e2
      obtain ⟨rfl, _, _⟩ := e1
      obtain ⟨rfl, _, _⟩ := e2
      obtain ⟨g1, f1, rfl, hg1, hz1⟩ := q1.src.resolve_left hnl
      obtain ⟨g2, f2, rfl, hg2, hz2⟩ := q2.src.resolve_left hnl
      obtain ⟨t0, t1, t2⟩ := hz1 i hiL
      obtain ⟨u0, u1, u2⟩ := hz2 i hiL
      generalize ll[i] = X at *
      obtain ⟨xs, xt, xd⟩ := X
      simp only at t0 t1 t2 u0 u1 u2
      clear hz1 hz2 hnl q1 q2
      go_wp2_with fail
      go_quiet (fail)
      go_wp2
      exact ⟨⟨i + 1, by omega, rfl, by go_num, HC.out.drewN _⟩, by simp [intOf] <;> omega⟩
    · have hilz : ¬ (i : Int) < (n : Int) := by omega
      have C02 : Chg w Wi (fun _ => False) := (K1.out.2.trans K2.out.2 (fun _ _ h => h)).trans HC.out (fun _ _ h => h)
      have Pi : Hid (PrI Wi P C R sets ways line st v L now) := KP.out.1.keptF C02
      have Bi : Hid (BkI Wi K e hv wv lv mv H T ∧ Chg w Wi (fun _ => False)) := ⟨KP.out.2.1.keptF C02, C02⟩
      obtain ⟨p0, p1⟩ := Pi.out.cells
      have hLn := lines_any Wi C sets ways line st Pi.out.c
      rw [KLL.out] at hLn
      clear C02
      go_wp2_with fail
      go_at_call 22
      refine hLn.mono ?_
      rintro x w3 ⟨v2, rfl, l2, C3⟩
      obtain ⟨a2, c2, rfl⟩ := own_len l2.row
      rw [← KN.out] at l2 ⊢
      have hwi := Bi.out.2.size
      have L1 := K1.out.1.kept (K2.out.2.trans (HC.out.trans C3 (fun _ _ h => h)) (fun _ _ h => h)) (fun _ _ _ h => h)
      have Lm := K2.out.1.kept (HC.out.trans C3 (fun _ _ h => h)) (fun _ _ _ h => h)
      rw [← KN.out] at L1 Lm
      have B3 := Bi.out.1.keptF C3
      have he := KP.out.2.1.e_
      obtain ⟨hv', w4, wv', w5, hr1, z0, f0, z1, hr2, z2, f2, B5, C5, N5, M5⟩ := B3.put hn (.slice a1 n c1) (.slice a2 n c2) (.slice am n cm) ll ⟨L1.row, fun k hk => Nat.le_trans he (L1.fresh k hk)⟩ ⟨l2.row, fun k hk => Nat.le_trans (Nat.le_trans he hwi) (l2.fresh k hk)⟩ ⟨Lm.row, fun k _ => Nat.zero_le k⟩ (by have := KN.out; omega) KP.out.2.2.2.2.1
        (fun x hx k hk => by
          have hk1 := (own_at (KP.out.2.1.hr x hx).1.row hk).1
          exact ⟨fun q => by have := L1.fresh k q; omega, fun q => by have := l2.fresh k q; omega⟩)
        (fun k hk q => by
          have h1 := (own_at K1.out.1.row (by rw [← KN.out]; exact hk)).1
          have h2 := l2.fresh k q
          have h3 := K2.out.2.size
          have h4 := HC.out.size
          omega) rfl rfl rfl
      obtain ⟨k0, k1, _, _⟩ := B3.cells
      obtain ⟨ah, ch, ehv⟩ := own_len B3.h
      obtain ⟨aw, cw, ewv⟩ := own_len B3.m
      have hKl : K < w3.heap.size := (Array.getElem?_eq_some_iff.1 B3.at_).1
      have K5 : Hid (BkI (w5.setCell ⟨K, 1, none⟩ wv') K e hv' wv' lv mv (H ++ [(.slice a1 n c1, .slice am n cm, ll), (.slice a2 n c2, .slice am n cm, ll)]) T ∧ Chg w (w5.setCell ⟨K, 1, none⟩ wv') (fun k => k = K ∨ hv.ownBlock = some k ∨ wv.ownBlock = some k)) := ⟨B5, ((Bi.out.2.mono (T := fun k => k = K ∨ hv.ownBlock = some k ∨ wv.ownBlock = some k) (fun _ _ h => h.elim)).trans (C3.mono (T := fun k => k = K ∨ hv.ownBlock = some k ∨ wv.ownBlock = some k) (fun _ _ h => h.elim)) (fun _ _ h => h)).trans C5 (fun _ _ h => h)⟩
      have P5 : Hid (PrI (w5.setCell ⟨K, 1, none⟩ wv') P C R sets ways line st v L now) := (Pi.out.keptF C3).kept C5 (fun k hs hlt => by
        rcases hs with q | q | q
        · subst q; exact ⟨_, 29, _, B3.at_, by decide, by decide, by decide, by decide⟩
        · obtain ⟨_, cur, hb⟩ := own_at B3.h q; exact ⟨_, 35, _, hb, by decide, by decide, by decide, by decide⟩
        · obtain ⟨_, cur, hb⟩ := own_at B3.m q; exact ⟨_, 35, _, hb, by decide, by decide, by decide, by decide⟩)
      have hw3 : w.heap.size ≤ w3.heap.size := Nat.le_trans hwi C3.size
      have KN5 : Hid ((∀ k, hv'.ownBlock = some k → hv.ownBlock = some k ∨ w.heap.size ≤ k) ∧ (∀ k, wv'.ownBlock = some k → wv.ownBlock = some k ∨ w.heap.size ≤ k)) := ⟨fun k hk => (N5 k hk).imp_right (fun h => Nat.le_trans hw3 h), fun k hk => (M5 k hk).imp_right (fun h => Nat.le_trans hw3 h)⟩
      clear hw3 N5 M5
      obtain ⟨ah', nh', ch', ehv'⟩ := own_sl B5.h
      obtain ⟨aw', nw', cw', ewv'⟩ := own_sl B5.m
      subst ehv' ewv'
      rw [ehv] at hr1 k0 z0
      rw [ewv] at hr2 k1 z1 z2
      simp only [List.length_map] at hr1 k0 z0 hr2 k1 z1 z2
      clear hLn L1 Lm B3 B5 C5 C3 l2 ehv ewv hwi he p0 p1
      obtain ⟨W4, hW4⟩ : ∃ W, W = w4.setCell ⟨K, 0, none⟩ (.slice ah' nh' ch') := ⟨_, rfl⟩
      rw [← hW4] at z1 hr2
      have HW4 : Hid (W4 = w4.setCell ⟨K, 0, none⟩ (.slice ah' nh' ch')) := hW4
      have KZ : Hid (W4.cell? ⟨K, 1, none⟩ = some (.slice aw H.length cw) ∧ (Builtin.append_ #[26, 26] 26 #[.slice aw H.length cw, .slice (some ⟨W4.heap.size, 0, none⟩) 2 2]).run Try.prog (W4.alloc (.cells #[.slice am n cm, .slice am n cm] 35)) = .ok (.slice aw' nw' cw') w5 ∧ w5.cell? ⟨K, 1, none⟩ = some (.slice aw H.length cw) ∧ w5.frozen? ⟨K, 1, none⟩ = false) := ⟨z1, hr2, z2, f2⟩
      clear z1 hr2 z2 f2 hW4
      go_upto_region 10 with (first | (at_builtin; refine wpList_append_run _ rfl (.tmp 54) (.tmp 57) 26 26 rfl _ _ _ w4 rfl rfl hr1 ?_) | fail)
      rw [← HW4.out]
      clear hr1 z0 f0 k0
      have z1 := KZ.out.1
      have hr2 := KZ.out.2.1
      have z2 := KZ.out.2.2.1
      have f2 := KZ.out.2.2.2
      go_upto_region 11 with (first | (at_builtin; refine wpList_append_run _ rfl (.tmp 65) (.tmp 68) 26 26 rfl _ _ _ w5 rfl rfl hr2 ?_) | fail)
      clear z1 hr2 z2 f2
      obtain ⟨V, hV⟩ : ∃ W, W = w5.setCell ⟨K, 1, none⟩ (.slice aw' nw' cw') := ⟨_, rfl⟩
      rw [← hV] at K5 P5 ⊢
      clear hV
      obtain ⟨p0, p1⟩ := P5.out.cells
      have hD := dirty_any V C sets ways line st P5.out.c
      go_wp2_with fail
      go_at_call 23
      refine hD.mono ?_
      rintro x w6 ⟨rfl, C6⟩
      have P6 : Hid (PrI w6 P C R sets ways line st v L now) := P5.out.keptF C6
      have hSh := shape_any w6 C sets ways line st P6.out.c
      obtain ⟨p0', p1'⟩ := P6.out.cells
      have K6 : Hid (Chg V w6 (fun _ => False)) := C6
      clear hD C6 p0 p1
      go_wp2_with fail
      go_at_call 24
      refine hSh.mono ?_
      rintro x w7 ⟨rfl, C7⟩
      have P7 : Hid (PrI w7 P C R sets ways line st v L now) := P6.out.keptF C7
      have K7 : Hid (Chg V w7 (fun _ => False)) := K6.out.trans C7 (fun _ _ h => h)
      obtain ⟨q0, q1⟩ := P7.out.cells
      obtain ⟨r0, r1, r2, _, _, _, _⟩ := P7.out.r.cells
      have hPl : P < w7.heap.size := (Array.getElem?_eq_some_iff.1 P7.out.at_).1
      have hRl : R < w7.heap.size := P7.out.r.lt
      have hS : ∀ X, Chg w7 X (fun _ => False) → Calls Try.prog 25 #[.pointer (some ⟨R, 0, none⟩)] X fun e w' => e = .returned (.int .i64 (dirtyN st sets : Nat)) ∧ w' = X := fun X hX => by
        have := rdirty_any X R sets ways line v L now (P7.out.r.keptF hX) KP.out.2.2.2.1
        rw [KP.out.2.2.2.2.2] at this
        exact this
      generalize dirtyN st sets = dn at *
      clear hSh C7 p0' p1'
      go_wp2_with fail
      go_quiet (first | (go_at_call 25; exact Calls.quiet_of_same (hS _ (by first | exact (Chg.refl _ _).alloc _ | exact ((Chg.refl _ _).alloc _).drew | exact ((Chg.refl _ _).alloc _).drewN _))))
      go_wp2
      go_ret
      exact ⟨rfl, _, _, _, _, _, K5.out.1.keptF (K7.out.trans (((Chg.refl w7 _).alloc _).drewN _) (fun _ _ h => h)), K5.out.2.trans (K7.out.trans (((Chg.refl w7 _).alloc _).drewN _) (fun _ _ h => h)) (fun _ _ h => h.elim), KN5.out.1, KN5.out.2⟩
end Go.Proofs.Ytppcfofkneaigab
