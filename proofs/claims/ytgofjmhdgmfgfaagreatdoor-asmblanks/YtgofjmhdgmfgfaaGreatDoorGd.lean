import Derived.Test.YtgofjmhdgmfgfaaGreatDoorGc
import Derived.Test.YtgofjmhdgmfgfaaGreatDoorDj
namespace Go.Proofs.YtgofjmhdgmfgfaaGreatDoor
open Go.ChangeShapes Go.WideShapes Go.ChangeAt Go.RowKit
set_option linter.unusedVariables false

/-- A list of numbers in memory. -/
def IS (w : World) (v : Value) (l : List Int) : Prop :=
  ∃ a c, v = .slice a l.length c ∧ l.length ≤ c ∧ (l = [] ∨ ∃ g o, a = some ⟨g, o, none⟩ ∧ g < w.heap.size ∧ ∀ i x, l[i]? = some x → w.cell? ⟨g, o + i, none⟩ = some (.int .i64 x))
theorem IS.keep {w w' : World} {v : Value} {l : List Int} (h : IS w v l) (k : Kp w w') : IS w' v l := by
  obtain ⟨a, c, h1, h2, h3⟩ := h
  refine ⟨a, c, h1, h2, ?_⟩
  rcases h3 with h | ⟨g, o, rfl, hg, hx⟩
  · exact .inl h
  · exact .inr ⟨g, o, rfl, Nat.lt_of_lt_of_le hg k.size, fun i x hi => Kp.cell k (hx i x hi)⟩
def posK (x : Int) : Nat := if x < 0 then (-(x + 1)).toNat else x.toNat
def kfL (l : List Int) (n : Nat) : Nat := match l[n % l.length]? with
  | none => 0
  | some x => posK x

theorem fill_cells (m : Nat) (h : m < 3) : (#[Value.string { data := #[32] }, Value.string { data := #[9, 32] }, Value.string { data := #[32, 32, 32] }] : Array Value)[m]? = some (.string (sb (fillB m))) := by
  match m, h with
  | 0, _ => rfl
  | 1, _ => rfl
  | 2, _ => rfl
theorem ends_cells (m : Nat) (h : m < 5) : (#[Value.string { data := #[10] }, Value.string { data := #[32, 35, 32, 104, 97, 108, 116, 10] }, Value.string { data := #[10, 10] }, Value.string { data := #[9, 10, 35, 32, 0, 255, 58, 32, 110, 111, 112, 10] }, Value.string { data := #[10, 35, 10] }] : Array Value)[m]? = some (.string (sb (endsB m))) := by
  match m, h with
  | 0, _ => rfl
  | 1, _ => rfl
  | 2, _ => rfl
  | 3, _ => rfl
  | 4, _ => rfl
theorem fill_len (m : Nat) : (fillB m).length ≤ 12 := by
  match m with
  | 0 => decide
  | 1 => decide
  | m + 2 => show 3 ≤ 12; omega
theorem ends_len (m : Nat) (h : m < 5) : (endsB m).length ≤ 12 := by
  match m, h with
  | 0, _ => decide
  | 1, _ => decide
  | 2, _ => decide
  | 3, _ => decide
  | 4, _ => decide
theorem posK_i (x : Int) (h : -9223372036854775808 ≤ x ∧ x ≤ 9223372036854775807) : posK x ≤ 9223372036854775807 := by
  unfold posK; split <;> omega
theorem tmod_nat (n m : Nat) : (n : Int).tmod (m : Int) = ((n % m : Nat) : Int) := by
  rw [Int.tmod_eq_emod_of_nonneg (by omega)]; omega

set_option maxRecDepth 100000 in
set_option maxHeartbeats 4000000 in
theorem blanks_good (w : World) (org : Nat) (wa la ra : Option Addr) (wn wc ln lc rc : Nat) (raw : List Int) (hr : IS w (.slice ra raw.length rc) raw) (hrl : raw.length < 4611686018427387904) (hri : ∀ x ∈ raw, -9223372036854775808 ≤ x ∧ x ≤ 9223372036854775807)
    (u : List UInt8) (hul : u.length ≤ 4000)
    (hK : ∀ V, Kp w V → Calls Tryz.prog 9 #[] V fun e w' => e = .returned (.bool true) ∧ Kp V w')
    (hD : ∀ V, Kp w V → Calls Tryz.prog 12 #[.agg #[.int .u32 org, .slice wa wn wc, .slice la ln lc]] V fun e w' => e = .returned (.tuple #[.string (sb u), .int .i64 0]) ∧ Kp V w')
    (hA : (blk (kfL raw) 0 false u).length ≤ 20000 → ∀ V, Kp w V → Calls Tryz.prog 11 #[.string (sb (blk (kfL raw) 0 false u))] V fun e w' => ∃ wa' wn' wc' la' ln' lc', e = .returned (.tuple #[.agg #[.int .u32 org, .slice wa' wn' wc', .slice la' ln' lc'], .int .i64 0, .int .i64 0]) ∧ Kp V w' ∧
      ∀ V', Kp w' V' → Calls Tryz.prog 13 #[.agg #[.int .u32 org, .slice wa' wn' wc', .slice la' ln' lc'], .agg #[.int .u32 org, .slice wa wn wc, .slice la ln lc]] V' fun e w'' => e = .returned (.bool true) ∧ Kp V' w'') :
    Calls Tryz.prog 6 #[.agg #[.int .u32 org, .slice wa wn wc, .slice la ln lc], .slice ra raw.length rc] w fun e w' => e = .returned (.bool true) ∧ Kp w w' := by
  obtain ⟨w1, hw1⟩ : ∃ w1, w1 = w.alloc (.cells #[.int .u32 org, .slice wa wn wc, .slice la ln lc] 28) := ⟨_, rfl⟩
  have k1 : Kp w w1 := by rw [hw1]; exact (Chg.refl _ _).alloc _
  have hq : w1.heap[w.heap.size]? = some (.cells #[.int .u32 org, .slice wa wn wc, .slice la ln lc] 28 (0, 0)) := by rw [hw1]; exact heap_alloc_new w _
  have hK1 := hK w1 k1
  have hsz : ((sb u).size : Int) ≤ 4000 := by rw [sb_size]; omega
  obtain ⟨L, hL⟩ : ∃ L, L = raw.length := ⟨_, rfl⟩
  have HR : Hid (IS w (.slice ra raw.length rc) raw ∧ raw.length < 4611686018427387904 ∧ (∀ x ∈ raw, -9223372036854775808 ≤ x ∧ x ≤ 9223372036854775807) ∧ L = raw.length) := ⟨hr, hrl, hri, hL⟩
  rw [← hL]
  rw [← hL] at hrl
  clear hr hri hL
  go_enter Tryz.func6, Tryz.ntmps6
  go_upto_region 1 with fail
  rw [← hw1]
  clear hw1
  go_upto_region 2 with (go_at_call 9; refine hK1.mono ?_; rintro e w2 ⟨rfl, k2⟩)
  obtain ⟨c0, c1, c2, -⟩ := cells3 (Kp.heap k2 hq)
  go_upto_region 3 with (go_at_call 12; refine (hD _ (Kp.trans k1 k2)).mono ?_; rintro e w3 ⟨rfl, k3⟩)
  have H3 : Hid (Kp w w3 ∧ w3.heap[w.heap.size]? = some (.cells #[.int .u32 org, .slice wa wn wc, .slice la ln lc] 28 (0, 0))) := ⟨Kp.trans (Kp.trans k1 k2) k3, Kp.heap (Kp.trans k2 k3) hq⟩
  clear c0 c1 c2 k1 k2 k3 hq hK1 hK hD
  go_upto_region 7 with fail
  obtain ⟨w5, hw5⟩ : ∃ w5, w5 = (w3.alloc (.cells #[Value.string { data := #[32] }, Value.string { data := #[9, 32] }, Value.string { data := #[32, 32, 32] }] 9)).alloc (.cells #[Value.string { data := #[10] }, Value.string { data := #[32, 35, 32, 104, 97, 108, 116, 10] }, Value.string { data := #[10, 10] }, Value.string { data := #[9, 10, 35, 32, 0, 255, 58, 32, 110, 111, 112, 10] }, Value.string { data := #[10, 35, 10] }] 9) := ⟨_, rfl⟩
  rw [← hw5]
  have k35 : Kp w3 w5 := by rw [hw5]; exact ((Chg.refl _ _).alloc _).alloc _
  have b1 : w5.heap[w3.heap.size]? = some (.cells #[Value.string { data := #[32] }, Value.string { data := #[9, 32] }, Value.string { data := #[32, 32, 32] }] 9 (0, 0)) := by
    rw [hw5]
    exact al_old _ (heap_alloc_new w3 _)
  have b2 : w5.heap[w3.heap.size + 1]? = some (.cells #[Value.string { data := #[10] }, Value.string { data := #[32, 35, 32, 104, 97, 108, 116, 10] }, Value.string { data := #[10, 10] }, Value.string { data := #[9, 10, 35, 32, 0, 255, 58, 32, 110, 111, 112, 10] }, Value.string { data := #[10, 35, 10] }] 9 (0, 0)) := by
    rw [hw5]
    have := heap_alloc_new (w3.alloc (.cells #[Value.string { data := #[32] }, Value.string { data := #[9, 32] }, Value.string { data := #[32, 32, 32] }] 9)) (.cells #[Value.string { data := #[10] }, Value.string { data := #[32, 35, 32, 104, 97, 108, 116, 10] }, Value.string { data := #[10, 10] }, Value.string { data := #[9, 10, 35, 32, 0, 255, 58, 32, 110, 111, 112, 10] }, Value.string { data := #[10, 35, 10] }] 9)
    rw [al_size] at this
    exact this
  have HF : Hid (∀ m, m < 3 → w5.cell? ⟨w3.heap.size, m, none⟩ = some (.string (sb (fillB m)))) := fun m hm => by rw [(cells_at b1 m).1]; exact fill_cells m hm
  have HE : Hid (∀ m, m < 5 → w5.cell? ⟨w3.heap.size + 1, m, none⟩ = some (.string (sb (endsB m)))) := fun m hm => by rw [(cells_at b2 m).1]; exact ends_cells m hm
  have H5 : Hid (Kp w w5 ∧ w5.heap[w.heap.size]? = some (.cells #[.int .u32 org, .slice wa wn wc, .slice la ln lc] 28 (0, 0))) := ⟨Kp.trans H3.out.1 k35, Kp.heap k35 H3.out.2⟩
  clear hw5 b1 b2 k35 H3
  generalize w3.heap.size = F at *
  have HA : Hid ((blk (kfL raw) 0 false u).length ≤ 20000 → ∀ V, Kp w V → Calls Tryz.prog 11 #[.string (sb (blk (kfL raw) 0 false u))] V fun e w' => ∃ wa' wn' wc' la' ln' lc', e = .returned (.tuple #[.agg #[.int .u32 org, .slice wa' wn' wc', .slice la' ln' lc'], .int .i64 0, .int .i64 0]) ∧ Kp V w' ∧
      ∀ V', Kp w' V' → Calls Tryz.prog 13 #[.agg #[.int .u32 org, .slice wa' wn' wc', .slice la' ln' lc'], .agg #[.int .u32 org, .slice wa wn wc, .slice la ln lc]] V' fun e w'' => e = .returned (.bool true) ∧ Kp V' w'') := hA
  clear hA
  go_wp2_with fail
  go_loopw [10, 11, 12, 13] (fun s10 s11 s12 s13 wr => ∃ (j n : Nat) (cm : Bool) (t : List UInt8), s10 = .string (sb t) ∧ s11 = .int .i64 n ∧ s12 = .bool cm ∧ s13 = .int .i64 j ∧ j ≤ u.length ∧ n ≤ j ∧ Hid (t ++ blk (kfL raw) n cm (u.drop j) = blk (kfL raw) 0 false u ∧ t.length ≤ 12 * j) ∧ wr = w5) (fun _ _ _ s13 _ => u.length - (intOf s13).toNat)
  case atStart => exact ⟨0, 0, false, [], rfl, rfl, rfl, rfl, by omega, by omega, ⟨rfl, by simp⟩, rfl⟩
  case round =>
    obtain ⟨j, n, cm, t, rfl, rfl, rfl, rfl, hj, hn, HI, rfl⟩ := hrel
    by_cases hlt : j < u.length
    · obtain ⟨c, hc⟩ : ∃ c, u[j]? = some c := ⟨_, List.getElem?_eq_getElem hlt⟩
      have hjs : (j : Int) < ((sb u).size : Nat) := by rw [sb_size]; omega
      go_upto_if 43 with fail
      go_cut [14] from 44 to 50 (fun s14 wx => ∃ x : Int, s14 = .int .i64 x ∧ (-9223372036854775808 ≤ x ∧ x ≤ 9223372036854775807) ∧ Hid (kfL raw n = posK x) ∧ wx = wr)
      case first =>
        obtain ⟨h1, h2, h3, h4⟩ := HR.out
        by_cases h0 : L = 0
        · subst h0
          have hre : raw = [] := List.eq_nil_of_length_eq_zero h4.symm
          clear h1 h2 h3 h4
          go_wp2_with fail
          go_meet
          case rel => exact ⟨0, rfl, by omega, by rw [hre]; rfl, rfl⟩
        · have hz : (0 : Int) < (L : Int) := by omega
          have hz2 : (L : Int) ≠ 0 := by omega
          have hml : n % L < L := Nat.mod_lt _ (by omega)
          have hmz : ((n % L : Nat) : Int) < (L : Int) := by omega
          have htm := tmod_nat n L
          obtain ⟨x, hx⟩ : ∃ x, raw[n % L]? = some x := ⟨_, List.getElem?_eq_getElem (by rw [← h4]; exact hml)⟩
          have hxb := h3 x (List.mem_of_getElem? hx)
          have hkf : Hid (kfL raw n = posK x) := by
            show kfL raw n = posK x
            unfold kfL
            rw [← h4, hx]
          obtain ⟨a, cc, e1, e2, e3⟩ := h1
          rcases e3 with e3 | ⟨g, o, rfl, hg, hcell⟩
          · exact absurd h4 (by rw [e3]; exact h0)
          · have he : ra = some ⟨g, o, none⟩ := by
              injection e1
            have hcx := Kp.cell H5.out.1 (hcell _ x hx)
            subst he
            clear hcell e1 e2 h3 h4 h2 hx
            generalize n % L = r at *
            go_wp2_with fail
            go_meet
            case rel => exact ⟨x, rfl, hxb, hkf, rfl⟩
      case rest =>
        obtain ⟨x, rfl, hxb, HK, hwx⟩ := hcut
        rw [hwx]
        clear hwx
        go_upto_if 52 with fail
        go_cut [14] from 53 to 55 (fun s14 wx => ∃ K : Nat, s14 = .int .i64 K ∧ K ≤ 9223372036854775807 ∧ Hid (kfL raw n = K) ∧ wx = wr)
        case first =>
          have hp := posK_i x hxb
          have hp2 : Hid (posK x = if x < 0 then (-(x + 1)).toNat else x.toNat) := rfl
          by_cases hx0 : x < 0
          · go_wp2_with fail
            go_meet
            case rel =>
              refine ⟨posK x, ?_, hp, HK, rfl⟩
              rw [hp2.out, if_pos hx0, show (((-(x + 1)).toNat : Nat) : Int) = -(x + 1) by omega]
          · go_wp2_with fail
            go_meet
            case rel =>
              refine ⟨posK x, ?_, hp, HK, rfl⟩
              rw [hp2.out, if_neg (by omega), show ((x.toNat : Nat) : Int) = x by omega]
        case rest =>
          obtain ⟨K, rfl, hKb, HKf, hwx⟩ := hcut
          rw [hwx]
          clear hwx HK hxb
          have hg : ∀ h : j < (sb u).size, ((sb u)[j]'h) = c := fun h => sb_get hc h
          have hjz : (j : Int) + 1 ≤ ((sb u).size : Nat) := by omega
          have hdr : Hid (u.drop j = c :: u.drop (j + 1)) := by
            obtain ⟨e1, e2⟩ := List.getElem?_eq_some_iff.1 hc
            show u.drop j = _
            rw [List.drop_eq_getElem_cons e1, e2]
          have hex : (sb u).extract j (j + 1) = sb [c] := by
            rw [sb_ext, List.drop_take, hdr.out, show j + 1 - j = 1 by omega]
            rfl
          have hsl : ∀ V : World, (Instr.slice 9 (.string (sb u)) (some (.int .i64 (j : Int))) (some (.int .i64 ((j : Int) + 1))) none).run Tryz.prog V = .ok (.string (sb [c])) V := fun V => by
            have := run_slice_string (P := Tryz.prog) V 9 (sb u) .i64 .i64 (j : Int) ((j : Int) + 1) Tryz.underlying9 (by omega) (by omega) (by omega)
            rw [this, show (j : Int).toNat = j by omega, show ((j : Int) + 1).toNat = j + 1 by omega, hex]
          clear hc hex
          by_cases h32 : c = 32 ∧ cm = false
          · obtain ⟨rfl, rfl⟩ := h32
            have hm3 : (K : Int).tmod 3 = ((K % 3 : Nat) : Int) := tmod_nat K 3
            have hl3 : K % 3 < 3 := Nat.mod_lt _ (by omega)
            have hm3' : ((K % 3 : Nat) : Int) < 3 := by omega
            have hf := HF.out (K % 3) hl3
            have hss : ¬ 9223372036854775807 < (sb t).size + (sb (fillB (K % 3))).size := by
              rw [sb_size, sb_size]; have := fill_len (K % 3); have := HI.out.2; omega
            have HX : Hid (∀ tt, tt = sb t ++ sb (fillB (K % 3)) → ∃ t', tt = sb t' ∧ t' ++ blk (kfL raw) (n + 1) false (u.drop (j + 1)) = blk (kfL raw) 0 false u ∧ t'.length ≤ 12 * (j + 1)) := by
              intro tt htt
              obtain ⟨i1, i2⟩ := HI.out
              refine ⟨t ++ fillB (K % 3), by rw [htt]; exact (sb_app _ _).2, ?_, ?_⟩
              · rw [← i1, hdr.out, blk, if_pos ⟨rfl, rfl⟩, HKf.out, List.append_assoc]
              · have := fill_len (K % 3); rw [List.length_append]; omega
            clear HI HKf hdr hsl
            generalize K % 3 = m at *
            generalize sb (fillB m) = fs at *
            go_wp2_with fail
            obtain ⟨t', e1, e2, e3⟩ := HX.out _ rfl
            exact ⟨⟨j + 1, n + 1, false, t', by rw [e1], by go_num, rfl, by go_num, by omega, by omega, ⟨e2, e3⟩, trivial⟩, by simp [intOf]; omega⟩
          · by_cases h10 : c = 10
            · subst h10
              have hm3 : (K : Int).tmod 5 = ((K % 5 : Nat) : Int) := tmod_nat K 5
              have hl3 : K % 5 < 5 := Nat.mod_lt _ (by omega)
              have hm3' : ((K % 5 : Nat) : Int) < 5 := by omega
              have hf := HE.out (K % 5) hl3
              have hss : ¬ 9223372036854775807 < (sb t).size + (sb (endsB (K % 5))).size := by
                rw [sb_size, sb_size]; have := ends_len _ (Nat.mod_lt K (show 0 < 5 by omega)); have := HI.out.2; omega
              have HX : Hid (∀ tt, tt = sb t ++ sb (endsB (K % 5)) → ∃ t', tt = sb t' ∧ t' ++ blk (kfL raw) (n + 1) false (u.drop (j + 1)) = blk (kfL raw) 0 false u ∧ t'.length ≤ 12 * (j + 1)) := by
                intro tt htt
                obtain ⟨i1, i2⟩ := HI.out
                refine ⟨t ++ endsB (K % 5), by rw [htt]; exact (sb_app _ _).2, ?_, ?_⟩
                · rw [← i1, hdr.out, blk, if_neg h32, if_pos rfl, HKf.out, List.append_assoc]
                · have := ends_len _ (Nat.mod_lt K (show 0 < 5 by omega)); rw [List.length_append]; omega
              clear HI HKf hdr hsl
              generalize K % 5 = m at *
              generalize sb (endsB m) = fs at *
              clear h32
              cases cm with
              | false =>
                go_wp2_with fail
                obtain ⟨t', e1, e2, e3⟩ := HX.out _ rfl
                exact ⟨⟨j + 1, n + 1, false, t', by rw [e1], by go_num, rfl, by go_num, by omega, by omega, ⟨e2, e3⟩, trivial⟩, by simp [intOf]; omega⟩
              | true =>
                go_wp2_with fail
                obtain ⟨t', e1, e2, e3⟩ := HX.out _ rfl
                exact ⟨⟨j + 1, n + 1, false, t', by rw [e1], by go_num, rfl, by go_num, by omega, by omega, ⟨e2, e3⟩, trivial⟩, by simp [intOf]; omega⟩
            · have hn10 : ¬ (c.toNat : Int) = 10 := fun e => h10 (UInt8.toNat_inj.1 (by rw [show (10 : UInt8).toNat = 10 from rfl]; omega))
              have hss : ¬ 9223372036854775807 < (sb t).size + (sb [c]).size := by
                rw [sb_size, sb_size]; have := HI.out.2; simp only [List.length_cons, List.length_nil]; omega
              have HX : Hid (∀ tt, tt = sb t ++ sb [c] → ∃ t', tt = sb t' ∧ t' ++ blk (kfL raw) n (cm || decide (c = 35)) (u.drop (j + 1)) = blk (kfL raw) 0 false u ∧ t'.length ≤ 12 * (j + 1)) := by
                intro tt htt
                obtain ⟨i1, i2⟩ := HI.out
                refine ⟨t ++ [c], by rw [htt]; exact (sb_app _ _).2, ?_, ?_⟩
                · rw [← i1, hdr.out, blk, if_neg h32, if_neg h10, List.append_assoc]
                  rfl
                · rw [List.length_append]; simp only [List.length_cons, List.length_nil]; omega
              clear HI HKf hdr
              generalize sb [c] = fs at *
              by_cases h35 : c = 35
              · subst h35
                rw [show (cm || decide ((35 : UInt8) = 35)) = true by simp] at HX
                clear h32
                cases cm with
                | false =>
                  go_wp2_with fail
                  obtain ⟨t', e1, e2, e3⟩ := HX.out _ rfl
                  exact ⟨⟨j + 1, n, true, t', by rw [e1], rfl, rfl, by go_num, by omega, by omega, ⟨e2, e3⟩, trivial⟩, by simp [intOf]; omega⟩
                | true =>
                  go_wp2_with fail
                  obtain ⟨t', e1, e2, e3⟩ := HX.out _ rfl
                  exact ⟨⟨j + 1, n, true, t', by rw [e1], rfl, rfl, by go_num, by omega, by omega, ⟨e2, e3⟩, trivial⟩, by simp [intOf]; omega⟩
              · rw [show (cm || decide (c = 35)) = cm by simp [h35]] at HX
                have hn35 : ¬ (c.toNat : Int) = 35 := fun e => h35 (UInt8.toNat_inj.1 (by rw [show (35 : UInt8).toNat = 35 from rfl]; omega))
                cases cm with
                | false =>
                  have hn32 : ¬ (c.toNat : Int) = 32 := fun e => h32 ⟨UInt8.toNat_inj.1 (by rw [show (32 : UInt8).toNat = 32 from rfl]; omega), rfl⟩
                  clear h32 h35 h10
                  go_wp2_with fail
                  obtain ⟨t', e1, e2, e3⟩ := HX.out _ rfl
                  exact ⟨⟨j + 1, n, false, t', by rw [e1], rfl, by simp [hn35], by go_num, by omega, by omega, ⟨e2, e3⟩, trivial⟩, by simp [intOf]; omega⟩
                | true =>
                  clear h32 h35 h10
                  go_wp2_with fail
                  all_goals
                    obtain ⟨t', e1, e2, e3⟩ := HX.out _ rfl
                    exact ⟨⟨j + 1, n, true, t', by rw [e1], rfl, rfl, by go_num, by omega, by omega, ⟨e2, e3⟩, trivial⟩, by simp [intOf]; omega⟩
    · have hjs : ¬ (j : Int) < ((sb u).size : Nat) := by rw [sb_size]; omega
      have hju : j = u.length := by omega
      obtain ⟨h1, h2⟩ := HI.out
      have h3 : t = blk (kfL raw) 0 false u := by rw [← h1, hju, List.drop_length]; simp [blk]
      have hA := HA.out
      rw [← h3, ← sb_size] at hA
      have h2' : (sb t).size ≤ 48000 := by rw [sb_size]; omega
      clear h1 h2 h3 HI HA HF HE hju hlt
      generalize sb t = ts at *
      by_cases hbig : ts.size ≤ 20000
      · have hA' := hA hbig
        have hbz : (ts.size : Int) ≤ 20000 := by omega
        clear hA
        have hk5 := H5.out.1
        have hq5 := H5.out.2
        rename World => WL
        go_upto_region 29 with (go_at_call 11; refine (hA' _ hk5).mono ?_; rintro e w6 ⟨wa', wn', wc', la', ln', lc', rfl, k6, hS⟩)
        obtain ⟨w7, hw7⟩ : ∃ w7, w7 = w6.alloc (.cells #[.int .u32 org, .slice wa' wn' wc', .slice la' ln' lc'] 28) := ⟨_, rfl⟩
        have k7 : Kp w6 w7 := by rw [hw7]; exact (Chg.refl _ _).alloc _
        have hq7 : w7.heap[w6.heap.size]? = some (.cells #[.int .u32 org, .slice wa' wn' wc', .slice la' ln' lc'] 28 (0, 0)) := by rw [hw7]; exact heap_alloc_new w6 _
        rw [← hw7]
        clear hw7
        obtain ⟨c0, c1, c2, -⟩ := cells3 (Kp.heap (Kp.trans k6 k7) hq5)
        obtain ⟨d0, d1, d2, -⟩ := cells3 hq7
        have hS7 := hS w7 k7
        have HK : Hid (Kp w w7) := Kp.trans hk5 (Kp.trans k6 k7)
        clear hS hq7 hq5 k6 k7 hk5 hA' H5
        go_wp2_with (go_at_call 13; refine hS7.mono ?_; rintro e w8 ⟨rfl, k8⟩)
        go_ret
        exact ⟨rfl, Kp.trans HK.out k8⟩
      · have hbz : ¬ (ts.size : Int) ≤ 20000 := by omega
        have hbz' : (20000 : Int) < ts.size := by omega
        have hk5 : Hid (Kp w wr) := H5.out.1
        clear hA H5
        go_wp2_with fail
        go_ret
        exact ⟨rfl, hk5.out⟩
end Go.Proofs.YtgofjmhdgmfgfaaGreatDoor
