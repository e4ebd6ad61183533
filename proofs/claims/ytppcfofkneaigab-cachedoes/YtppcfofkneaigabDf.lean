import Derived.Test.YtppcfofkneaigabDe
namespace Go.Proofs.Ytppcfofkneaigab
open Go.ChangeShapes Go.WideShapes Go.ChangeAt Go.RowKit
set_option linter.unusedVariables false

def optI : Option Nat → Int
  | none => -1
  | some o => (o : Nat)
theorem Lv.app (w : World) (base : Nat) (v : Value) (l : List (Nat × Ln)) (h : Lv w base v l) (hb : base ≤ w.heap.size) (x : Nat × Ln) (hn : l.length ≤ 2000000) :
    ∃ v' w', (Builtin.append_ #[35, 35] 35 #[v, .slice (some ⟨w.heap.size, 0, none⟩) 1 1]).run Try.prog (w.alloc (.cells #[.int .u32 (x.1 : Nat), .int .u32 (x.2.1 : Nat), .bool x.2.2] 74)) = .ok v' w' ∧ Lv w' base v' (l ++ [x]) ∧ Chg w w' (fun k => v.ownBlock = some k) := by
  obtain ⟨v', w', hr, h1, h2, h3⟩ := run_appL w v l.length _ h.row x hn
  refine ⟨v', w', hr, ⟨?_, ?_⟩, ((Chg.refl w _).alloc _).grown h2 (fun k e => .inl e)⟩
  · rw [flatC_app]; simpa [flatC] using h1
  · intro k hk
    rcases h3 with e | ⟨k', e, hk'⟩
    · rw [e] at hk; exact h.fresh k hk
    · rw [e] at hk
      simp at hk hk'; omega
theorem Lv.typ {w : World} {base : Nat} {v : Value} {l : List (Nat × Ln)} (h : Lv w base v l) {b : Nat} {cur : Array Value} {T : TypeId} {x : Nat × Nat} (hb : w.heap[b]? = some (.cells cur T x)) (hT : T ≠ 74) : v.ownBlock ≠ some b := by
  intro e
  rcases h.row.2 with ⟨rfl, _⟩ | ⟨g', cap, cur', rfl, _, hg, _⟩
  · cases e
  · simp [Value.ownBlock] at e; subst e; rw [hb] at hg; simp at hg; exact hT hg.2.1
/-- The document's cache stays when a list of lines is written. -/
theorem RC.keptL {w w' : World} {B sets ways line : Nat} {v : Value} {L : List HL} {now base : Nat} {lv : Value} {l : List (Nat × Ln)} (h : RC w B sets ways line v L now) (hl : Lv w base lv l) (hc : Chg w w' (fun k => lv.ownBlock = some k)) : RC w' B sets ways line v L now := by
  refine h.kept hc (hl.typ h.at_ (by decide)) (fun k hk hk2 => ?_)
  rcases h.row.2 with ⟨e, _⟩ | ⟨g', cap, cur', e, _, hg, _⟩
  · rw [e] at hk; cases hk
  · rw [e] at hk; simp [Value.ownBlock] at hk; subst hk
    exact hl.typ hg (by decide) hk2

set_option maxHeartbeats 8000000 in
set_option maxRecDepth 100000 in
theorem rlines_any (w : World) (B sets ways line : Nat) (v : Value) (L : List HL) (now : Nat) (h : RC w B sets ways line v L now) (hl : L.length ≤ 2048) (hnow : now ≤ 4611686018427387904) (st : Nat → List Ln) (su : Nat → List HL) (r : Rel sets st L now su) (h8 : ∀ k, (st k).length ≤ 8) :
    Calls Try.prog 17 #[.pointer (some ⟨B, 0, none⟩)] w fun e w' => ∃ v, e = .returned v ∧ Lv w' w.heap.size v (linesN st sets) ∧ Chg w w' (fun _ => False) := by
  obtain ⟨a, cap, rfl⟩ := h.len
  have hs256 := h.sh.s2
  have n1 : ¬ sets = 0 := by have := h.sh.s1; omega
  have x1 : IntKind.u32.wrap (sets : Int) = sets := by rw [wrap_u32]; omega
  have K : Hid (RC w B sets ways line (.slice a L.length cap) L now ∧ Rel sets st L now su) := ⟨h, r⟩
  have KH : Hid ((∀ k, (st k).length ≤ 8) ∧ ∀ n, (linesN st n).length ≤ n * 8) := ⟨h8, linesN_len st 8 h8⟩
  clear h r h8
  go_enter Try.func17, Try.ntmps17
  go_wp2
  go_loopw [3, 4, 5, 6, 7] (fun s3 s4 s5 s6 s7 wr => ∃ (lv : Value) (s : Nat), lv = s3 ∧ s ≤ sets ∧ s4 = .int .u32 s ∧ Hid (Lv wr w.heap.size lv (linesN st s) ∧ Chg w wr (fun _ => False))) (fun _ s4 _ _ _ _ => sets - (intOf s4).toNat)
  case atStart => exact ⟨_, 0, rfl, by omega, rfl, ⟨World.ownsRow_nil _ _ _ _, fun k hk => by cases hk⟩, Chg.refl _ _⟩
  case round =>
    obtain ⟨lv, s, rfl, hs, rfl, HI⟩ := hrel
    obtain ⟨c0, _, _, c3, c4, _, _⟩ := (K.out.1.keptF HI.out.2).cells
    by_cases hlt : s < sets
    · have hltz : (s : Int) < (sets : Int) := by omega
      go_wp2
      rename World => W1
      clear c0 c3 c4
      go_loopw [3, 5, 6, 7] (fun s3 s5 s6 s7 wr => ∃ (lv2 : Value) (j : Nat), lv2 = s3 ∧ j ≤ (su s).length ∧ s5 = .int .i64 (belowJ now (su s) j : Nat) ∧ Hid (Lv wr w.heap.size lv2 (linesN st s ++ ((st s).take j).map (fun x => (s, x))) ∧ Chg w wr (fun _ => False))) (fun _ s5 _ _ _ => (intOf s5).toNat)
      case atStart => exact ⟨_, 0, rfl, by omega, by simp [belowJ], by simpa using HI.out.1, HI.out.2⟩
      case round =>
        obtain ⟨lv2, j, rfl, hj, rfl, HJ⟩ := hrel
        clear HI
        obtain ⟨bel, hbel⟩ : ∃ b, b = belowJ now (su s) j := ⟨_, rfl⟩
        rw [← hbel]
        have KB : Hid (bel = belowJ now (su s) j) := hbel
        clear hbel
        go_wp2
        rename World => W2
        go_loopw [6, 7] (fun s6 s7 wr => ∃ k : Nat, k ≤ L.length ∧ s7 = .int .i64 k ∧ s6 = .int .i64 (optI (scB sets s bel L k)) ∧ Hid (Chg W2 wr (fun _ => False))) (fun _ s7 _ => L.length - (intOf s7).toNat)
        case atStart => exact ⟨0, by omega, rfl, rfl, Chg.refl _ _⟩
        case round =>
          obtain ⟨k, hk, rfl, rfl, HK⟩ := hrel
          have hC := HJ.out.2.trans HK.out (fun _ _ h => h)
          have hR := K.out.1.keptF hC
          obtain ⟨c0, _, _, c3, c4, _, _⟩ := hR.cells
          by_cases hkl : k < L.length
          · have hklz : (k : Int) < (L.length : Int) := by omega
            obtain ⟨g, rfl, _, y0, y1, _, _⟩ := hR.at k hkl
            have hxb := hR.bd _ (List.getElem_mem hkl)
            have hS : ∀ V, Chg wr V (fun _ => False) → Calls Try.prog 33 #[.pointer (some ⟨B, 0, none⟩), .int .u32 (((L[k]).1 : Nat) : Int)] V fun e w' => e = .returned (.int .u32 (((L[k]).1 % sets : Nat) : Int)) ∧ w' = V := fun V hV => setC V B sets ways line _ L now (hR.keptF hV) _ hxb
            have hsc : scB sets s bel L (k + 1) = if (L[k]).1 % sets = s ∧ (L[k]).2.1 < bel then pickB L k (scB sets s bel L k) else scB sets s bel L k := by
              rw [scB, getD_at L k hkl]; simp [inS]
            have hsp := (scB_spec sets s bel L k).2
            have HC : Hid (Chg W2 wr (fun _ => False)) := HK.out
            have hRH : Hid (RC wr B sets ways line (.slice (some ⟨g, 0, none⟩) L.length cap) L now) := hR
            generalize hx0 : (L[k]).1 = x0 at *
            obtain ⟨q, hq⟩ : ∃ q, q = x0 % sets := ⟨_, rfl⟩
            rw [← hq] at hS hsc
            clear hq hxb hC hR HK
            generalize hx1 : (L[k]).2.1 = u1 at *
            by_cases h1 : q = s
            · subst h1
              by_cases h2 : u1 < bel
              · have h2z : (u1 : Int) < (bel : Int) := by omega
                rw [if_pos ⟨rfl, h2⟩] at hsc
                cases hq2 : scB sets q bel L k with
                | none =>
                  rw [hq2] at hsc
                  have KN : Hid (scB sets q bel L (k + 1) = some k) := hsc
                  clear hsc hsp
                  simp only [optI]
                  go_wp2_with fail
                  go_quiet (first | (go_at_call 33; exact Calls.quiet_of_same (hS _ (by first | exact Chg.refl _ _ | exact (Chg.refl _ _).drew | exact (Chg.refl _ _).drewN _))))
                  go_wp2
                  exact ⟨⟨k + 1, by omega, by go_num, by rw [KN.out], HC.out.drewN _⟩, by simp [intOf] <;> omega⟩
                | some o =>
                  rw [hq2] at hsc
                  obtain ⟨ho, _, _⟩ := hsp o hq2
                  have hoz : (o : Int) < (L.length : Int) := by omega
                  have hon : ¬ (o : Int) < 0 := by omega
                  obtain ⟨g', e', _, _, z1, _, _⟩ := hRH.out.at o (by omega)
                  simp only [Option.some.injEq, Addr.mk.injEq] at e'
                  obtain ⟨rfl, _, _⟩ := e'
                  simp only [pickB] at hsc
                  rw [getD_at L k hkl, getD_at L o (by omega), hx1] at hsc
                  generalize (L[o]'(by omega)).2.1 = u2 at *
                  simp only [optI]
                  by_cases h3 : u2 < u1
                  · have h3z : (u2 : Int) < (u1 : Int) := by omega
                    rw [if_pos h3] at hsc
                    have KN : Hid (scB sets q bel L (k + 1) = some k) := hsc
                    clear hsc hsp
                    go_wp2_with fail
                    go_quiet (first | (go_at_call 33; exact Calls.quiet_of_same (hS _ (by first | exact Chg.refl _ _ | exact (Chg.refl _ _).drew | exact (Chg.refl _ _).drewN _))))
                    go_wp2
                    exact ⟨⟨k + 1, by omega, by go_num, by rw [KN.out], HC.out.drewN _⟩, by simp [intOf] <;> omega⟩
                  · have h3z : ¬ (u2 : Int) < (u1 : Int) := by omega
                    rw [if_neg h3] at hsc
                    have KN : Hid (scB sets q bel L (k + 1) = some o) := hsc
                    clear hsc hsp
                    go_wp2_with fail
                    go_quiet (first | (go_at_call 33; exact Calls.quiet_of_same (hS _ (by first | exact Chg.refl _ _ | exact (Chg.refl _ _).drew | exact (Chg.refl _ _).drewN _))))
                    go_wp2
                    exact ⟨⟨k + 1, by omega, by go_num, by rw [KN.out], HC.out.drewN _⟩, by simp [intOf] <;> omega⟩
              · have h2z : ¬ (u1 : Int) < (bel : Int) := by omega
                rw [if_neg (fun h => h2 h.2)] at hsc
                have KN : Hid (scB sets q bel L (k + 1) = scB sets q bel L k) := hsc
                clear hsc hsp
                obtain ⟨ob, hob⟩ : ∃ ob, ob = optI (scB sets q bel L k) := ⟨_, rfl⟩
                rw [← hob]
                have KO : Hid (ob = optI (scB sets q bel L k)) := hob
                clear hob
                go_wp2_with fail
                go_quiet (first | (go_at_call 33; exact Calls.quiet_of_same (hS _ (by first | exact Chg.refl _ _ | exact (Chg.refl _ _).drew | exact (Chg.refl _ _).drewN _))))
                go_wp2
                exact ⟨⟨k + 1, by omega, by go_num, by rw [KN.out, KO.out], HC.out.drewN _⟩, by simp [intOf] <;> omega⟩
            · have h1z : ¬ (q : Int) = (s : Int) := by omega
              have hqb : ((q : Int) == (s : Int)) = false := by simpa using h1z
              rw [if_neg (fun h => h1 h.1)] at hsc
              have KN : Hid (scB sets s bel L (k + 1) = scB sets s bel L k) := hsc
              clear hsc hsp
              obtain ⟨ob, hob⟩ : ∃ ob, ob = optI (scB sets s bel L k) := ⟨_, rfl⟩
              rw [← hob]
              have KO : Hid (ob = optI (scB sets s bel L k)) := hob
              clear hob
              go_wp2_with fail
              go_quiet (first | (go_at_call 33; exact Calls.quiet_of_same (hS _ (by first | exact Chg.refl _ _ | exact (Chg.refl _ _).drew | exact (Chg.refl _ _).drewN _))))
              go_wp2
              exact ⟨⟨k + 1, by omega, by go_num, by rw [KN.out, KO.out], HC.out.drewN _⟩, by simp [intOf] <;> omega⟩
          · have hklz : ¬ (k : Int) < (L.length : Int) := by omega
            have ek : k = L.length := by omega
            have hstl : (su s).length = (st s).length := (K.out.2.len hlt).2
            by_cases hjl : j < (su s).length
            · obtain ⟨o, hso, hol, hLo⟩ := K.out.2.next hlt j hjl
              rw [← KB.out] at hso
              rw [ek, hso]
              simp only [optI]
              obtain ⟨g, rfl, hgl, y0, y1, y2, _⟩ := hR.at o hol
              have hxb := hR.bd _ (List.getElem_mem hol)
              have hbn : belowJ now (su s) (j + 1) = (L[o]).2.1 := by
                rw [hLo]; simp only [belowJ, toH]; rw [getD_at _ _ hjl]
              have hst : ((st s).take (j + 1)).map (fun x => (s, x)) = ((st s).take j).map (fun x => (s, x)) ++ [(s, ((L[o]).1 / sets, (L[o]).2.2))] := by
                have e1 : (st s)[j]? = some ((L[o]).1 / sets, (L[o]).2.2) := by
                  rw [K.out.2.st s hlt, List.getElem?_map, List.getElem?_eq_getElem hjl, hLo]
                  simp only [toH, Option.map_some, toL, own_div hlt]
                rw [List.take_add_one, e1]
                simp
              have hdec : (L[o]).2.1 < bel := by
                have h5 := (scB_spec sets s bel L L.length).2 o hso
                have h6 := h5.2.1.2
                rw [getD_at L o hol] at h6
                exact h6
              obtain ⟨tg, htg⟩ : ∃ tg, tg = (L[o]).1 / sets := ⟨_, rfl⟩
              have htl : tg ≤ (L[o]).1 := by rw [htg]; exact Nat.div_le_self _ _
              have x3 : IntKind.u32.wrap ((((L[o]).1 : Nat) : Int) / (sets : Int)) = (tg : Int) := by
                rw [wrap_u32, show (((L[o]).1 : Nat) : Int) / (sets : Int) = (((L[o]).1 / sets : Nat) : Int) from by simp, ← htg]; omega
              rw [← htg] at hst
              have hLv : Lv wr.drew w.heap.size lv2 (linesN st s ++ ((st s).take j).map (fun x => (s, x))) := HJ.out.1.kept HK.out.drew (fun _ _ _ h => h)
              have hsz := hC.size
              have hlenN := KH.out.2 s
              have h8s := KH.out.1 s
              obtain ⟨v', w', hrun, hL1, hC1⟩ := hLv.app wr.drew w.heap.size lv2 _ (by simpa using hsz) (s, (tg, (L[o]).2.2)) (by simp; omega)
              have hRw := (hR.keptF (Chg.refl wr (fun _ => False)).drew).keptL hLv hC1
              obtain ⟨d0, _, _, d3, _, _, _⟩ := hRw.cells
              obtain ⟨g2, e2, _, z0, _, z2, _⟩ := hRw.at o hol
              simp only [Option.some.injEq, Addr.mk.injEq] at e2
              obtain ⟨rfl, _, _⟩ := e2
              have hoz : (o : Int) < (L.length : Int) := by omega
              have hon : ¬ (o : Int) < 0 := by omega
              have KN : Hid (Lv w' w.heap.size v' (linesN st s ++ ((st s).take (j + 1)).map (fun x => (s, x))) ∧ Chg w w' (fun _ => False) ∧ belowJ now (su s) (j + 1) = (L[o]).2.1) := by
                refine ⟨?_, hC.drew.trans hC1 (fun i hi e => ?_), hbn⟩
                · rw [hst, ← List.append_assoc]; exact hL1
                · have := HJ.out.1.fresh i e; omega
              have hal : ∀ ob : Obj, Chg wr (wr.drew.alloc ob) (fun _ => False) := fun ob => (Chg.refl wr _).drew.alloc ob
              have HS2 : ∀ ob : Obj, (wr.drew.alloc ob).cell? ⟨B, 0, none⟩ = some (.int .i64 ((sets : Nat) : Int)) ∧ (wr.drew.alloc ob).cell? ⟨B, 3, none⟩ = some (.slice (some ⟨g, 0, none⟩) L.length cap) ∧ (wr.drew.alloc ob).cell? ⟨g, o * 3, none⟩ = some (.int .u32 (((L[o]).1 : Nat) : Int)) ∧ (wr.drew.alloc ob).cell? ⟨g, o * 3 + 2, none⟩ = some (.bool (L[o]).2.2) := fun ob =>
                ⟨((hal ob).cell hR.lt (fun h => h)).trans c0, ((hal ob).cell hR.lt (fun h => h)).trans c3, ((hal ob).cell hgl (fun h => h)).trans y0, ((hal ob).cell hgl (fun h => h)).trans y2⟩
              clear hR hRw hLv hC1 hL1 hst hbn hxb hC hsz hlenN h8s htg htl hLo
              generalize (L[o]'hol).1 = x0 at *
              generalize (L[o]'hol).2.1 = u1 at *
              generalize (L[o]'hol).2.2 = dd at *
              go_wp2_with fail
              refine reg17_14 wr B sets s o x0 tg L.length cap g lv2 dd hoz n1 x1 x3 ⟨c0, c3, y0, y2⟩ v' w' hrun (HS2 _) ⟨d0, d3, z0, z2⟩ _ ?pan14 ?_
              case pan14 => exact fun c a w d v h => by cases d <;> exact h
              go_wp2
              exact ⟨⟨_, j + 1, rfl, by omega, by rw [KN.out.2.2], KN.out.1, KN.out.2.1⟩, by simp [intOf]; omega⟩
            · have ejl : j = (su s).length := by omega
              have hno := K.out.2.nomore hlt
              rw [← ejl, ← KB.out] at hno
              rw [ek, hno]
              simp only [optI]
              have hst : linesN st s ++ ((st s).take j).map (fun x => (s, x)) = linesN st (s + 1) := by
                rw [ejl, hstl, List.take_length]; rfl
              have KN : Hid (Lv wr w.heap.size lv2 (linesN st (s + 1)) ∧ Chg w wr (fun _ => False)) := ⟨by rw [← hst]; exact HJ.out.1.kept HK.out (fun _ _ _ h => h), hC⟩
              clear hR hst hno hC
              go_wp2
              exact ⟨⟨_, s + 1, rfl, by omega, by go_num, KN.out⟩, by simp [intOf]; omega⟩
    · have hltz : ¬ (s : Int) < (sets : Int) := by omega
      have e : s = sets := by omega
      subst e
      go_wp2
      go_ret
      exact ⟨_, rfl, HI.out⟩
end Go.Proofs.Ytppcfofkneaigab
