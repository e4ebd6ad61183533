import Derived.Test.YtgofjmhdgmfgfaaGreatDoorGd
namespace Go.Proofs.YtgofjmhdgmfgfaaGreatDoor
open Go.ChangeShapes Go.WideShapes Go.ChangeAt Go.RowKit Go.Deep
set_option linter.unusedVariables false

set_option maxRecDepth 100000 in
set_option maxHeartbeats 4000000 in
/-- A refusal, or a long text. -/
theorem blanks_no (w : World) (org : Nat) (wa la : Option Addr) (wn wc ln lc : Nat) (rv : Value) (s : ByteArray) (e : Int) (hse : e ≠ 0 ∨ (4000 : Int) < s.size)
    (hK : ∀ V, Kp w V → Calls Tryz.prog 9 #[] V fun e w' => e = .returned (.bool true) ∧ Kp V w')
    (hD : ∀ V, Kp w V → Calls Tryz.prog 12 #[.agg #[.int .u32 org, .slice wa wn wc, .slice la ln lc]] V fun x w' => x = .returned (.tuple #[.string s, .int .i64 e]) ∧ Kp V w') :
    Calls Tryz.prog 6 #[.agg #[.int .u32 org, .slice wa wn wc, .slice la ln lc], rv] w fun e w' => e = .returned (.bool true) ∧ Kp w w' := by
  obtain ⟨w1, hw1⟩ : ∃ w1, w1 = w.alloc (.cells #[.int .u32 org, .slice wa wn wc, .slice la ln lc] 28) := ⟨_, rfl⟩
  have k1 : Kp w w1 := by rw [hw1]; exact (Chg.refl _ _).alloc _
  have hq : w1.heap[w.heap.size]? = some (.cells #[.int .u32 org, .slice wa wn wc, .slice la ln lc] 28 (0, 0)) := by rw [hw1]; exact heap_alloc_new w _
  have hK1 := hK w1 k1
  by_cases he : e = 0
  · have hs : (4000 : Int) < s.size := hse.resolve_left (fun h => h he)
    subst he
    clear hse
    go_enter Tryz.func6, Tryz.ntmps6
    go_upto_region 1 with fail
    rw [← hw1]
    clear hw1
    go_upto_region 2 with (go_at_call 9; refine hK1.mono ?_; rintro e w2 ⟨rfl, k2⟩)
    obtain ⟨c0, c1, c2, -⟩ := cells3 (Kp.heap k2 hq)
    go_upto_region 3 with (go_at_call 12; refine (hD _ (Kp.trans k1 k2)).mono ?_; rintro e w3 ⟨rfl, k3⟩)
    have H3 : Hid (Kp w w3) := Kp.trans (Kp.trans k1 k2) k3
    clear c0 c1 c2 k1 k2 k3 hq hK1 hK hD
    go_wp2_with fail
    go_ret
    exact ⟨rfl, H3.out⟩
  · clear hse
    go_enter Tryz.func6, Tryz.ntmps6
    go_upto_region 1 with fail
    rw [← hw1]
    clear hw1
    go_upto_region 2 with (go_at_call 9; refine hK1.mono ?_; rintro e w2 ⟨rfl, k2⟩)
    obtain ⟨c0, c1, c2, -⟩ := cells3 (Kp.heap k2 hq)
    go_upto_region 3 with (go_at_call 12; refine (hD _ (Kp.trans k1 k2)).mono ?_; rintro e w3 ⟨rfl, k3⟩)
    have H3 : Hid (Kp w w3) := Kp.trans (Kp.trans k1 k2) k3
    clear c0 c1 c2 k1 k2 k3 hq hK1 hK hD
    go_wp2_with fail
    go_ret
    exact ⟨rfl, H3.out⟩
set_option maxRecDepth 100000 in
theorem blanks_walk (w : World) (h9 : 9 ≤ w.heap.size) (hG : Gs w) (org : Nat) (wv lv rv : Value) (ws : List Nat) (lb : List (List UInt8 × Nat)) (raw : List Int) (hW : WS w wv ws) (hL : LS w lv lb) (hr : IS w rv raw) (hrl : raw.length < 4611686018427387904) (hri : ∀ x ∈ raw, -9223372036854775808 ≤ x ∧ x ≤ 9223372036854775807) (ho1 : org < 4294967296) (hnw : ws.length < 4611686018427387904) (hlb : lb.length ≤ 5864062014805) (hsl : ∀ x, x ∈ lb → x.1.length ≤ 140737488355328) (hat : ∀ x, x ∈ lb → x.2 < 4294967296) (hv : ∀ x ∈ ws, x < 4294967296) :
    Calls Tryz.prog 6 #[.agg #[.int .u32 org, wv, lv], rv] w fun e w' => e = .returned (.bool true) ∧ Kp w w' := by
  obtain ⟨wa, wn, wc, hwv⟩ : ∃ a n c, wv = .slice a n c := by obtain ⟨a, c, h, -⟩ := hW; exact ⟨_, _, _, h⟩
  obtain ⟨la, ln, lc, hlv⟩ : ∃ a n c, lv = .slice a n c := by obtain ⟨a, c, h, -⟩ := hL; exact ⟨_, _, _, h⟩
  obtain ⟨ra, rc, hrv⟩ : ∃ a c, rv = .slice a raw.length c := by obtain ⟨a, c, h, -⟩ := hr; exact ⟨_, _, h⟩
  have hK : ∀ V, Kp w V → Calls Tryz.prog 9 #[] V fun e w' => e = .returned (.bool true) ∧ Kp V w' := fun V k => known_ok V (Nat.le_trans h9 k.size) (hG.keep k)
  by_cases hbad : wmB org ws.length = false ∨ lmM (org + 4 * ws.length) org [] lb = false
  · have hD := fun V (k : Kp w V) => Dis_arg V (hG.keep k) org wv lv ws lb (hW.keep k) (hL.keep k) ho1 hnw hlb hsl hat hbad
    subst hwv
    subst hlv
    exact blanks_no w org _ _ _ _ _ _ rv ⟨#[]⟩ 116 (.inl (by omega)) hK hD
  · have hw : wmB org ws.length = true := by
      cases h : wmB org ws.length with
      | true => rfl
      | false => exact absurd (.inl h) hbad
    have hM : lmM (org + 4 * ws.length) org [] lb = true := by
      cases h : lmM (org + 4 * ws.length) org [] lb with
      | true => rfl
      | false => exact absurd (.inr h) hbad
    have hD := fun V (k : Kp w V) => Dis_src V (hG.keep k) org wv lv ws lb (hW.keep k) (hL.keep k) ho1 hlb hsl hat hv hw hM
    have hw' : (org % 4 = 0 ∧ ws.length ≤ 4096) ∧ org + 4 * ws.length ≤ 4294967296 := by simpa [wmB] using hw
    by_cases hR : (srcM org ws lb).length ≤ 20000
    · have hD' : ∀ V, Kp w V → Calls Tryz.prog 12 #[.agg #[.int .u32 org, wv, lv]] V fun e w' => e = .returned (.tuple #[.string (sb (srcM org ws lb)), .int .i64 0]) ∧ Kp V w' := fun V k => (hD V k).mono (by
        rintro e w' ⟨h | h, k2⟩
        · exact absurd h.1 (by omega)
        · exact ⟨h.2, k2⟩)
      by_cases h4 : (srcM org ws lb).length ≤ 4000
      · have hall := lm_all _ lb _ _ hM
        have hlb2 : lb.length < 1000000 := by
          have h1 := srcW_len ws org lb
          have h2 : (srcW org ws lb).length ≤ (srcM org ws lb).length := by rw [srcM]; simp only [List.length_append]; omega
          omega
        have hS := fun V wv' lv' (k : Kp w V) (h1 : WS V wv' ws) (h2 : LS V lv' lb) => same_ok V org wv' lv' wv lv ws lb h1 h2 (hW.keep k) (hL.keep k) (by have := hw'.1.2; omega) hlb2
        have hA : (blk (kfL raw) 0 false (srcM org ws lb)).length ≤ 20000 → ∀ V, Kp w V → Calls Tryz.prog 11 #[.string (sb (blk (kfL raw) 0 false (srcM org ws lb)))] V fun e w' => ∃ wa' wn' wc' la' ln' lc', e = .returned (.tuple #[.agg #[.int .u32 org, .slice wa' wn' wc', .slice la' ln' lc'], .int .i64 0, .int .i64 0]) ∧ Kp V w' ∧
            ∀ V', Kp w' V' → Calls Tryz.prog 13 #[.agg #[.int .u32 org, .slice wa' wn' wc', .slice la' ln' lc'], .agg #[.int .u32 org, wv, lv]] V' fun e w'' => e = .returned (.bool true) ∧ Kp V' w'' := fun hR2 V k => by
          obtain ⟨ls, st, s1, s2, s3, s4, s5, s6, s7, s8⟩ := src_blk (kfL raw) org ws lb ho1 hw'.1.1 hw'.1.2 hw'.2 hv hM hR hR2
          have h := Assemble_ok V (Nat.le_trans h9 k.size) (hG.keep k) (blk (kfL raw) 0 false (srcM org ws lb)) ls st (ws.map fun (n : Nat) => (n : Int)) s1 hR2 s2 s3 s4 s5 (fun p hp => by rw [s7] at hp; have := hall p hp; omega) (by rw [s6]; exact ho1) s8
          refine h.mono ?_
          rintro e w' ⟨wv', lv', rfl, h1, h2, -, -, k2⟩
          rw [s7] at h2
          have e1 := own_WS ws h1
          have e2 := own_LS h2
          obtain ⟨wa', wn', wc', rfl⟩ : ∃ a n c, wv' = .slice a n c := by obtain ⟨a, c, h, -⟩ := e1; exact ⟨_, _, _, h⟩
          obtain ⟨la', ln', lc', rfl⟩ : ∃ a n c, lv' = .slice a n c := by obtain ⟨a, c, h, -⟩ := e2; exact ⟨_, _, _, h⟩
          exact ⟨wa', wn', wc', la', ln', lc', by rw [s6], k2, fun V' k3 => hS V' _ _ (Kp.trans k (Kp.trans k2 k3)) (e1.keep k3) (e2.keep k3)⟩
        subst hwv
        subst hlv
        subst hrv
        exact blanks_good w org _ _ _ _ _ _ _ _ raw hr hrl hri _ h4 hK hD' hA
      · subst hwv
        subst hlv
        exact blanks_no w org _ _ _ _ _ _ rv _ 0 (.inr (by rw [sb_size]; omega)) hK hD'
    · have hD' : ∀ V, Kp w V → Calls Tryz.prog 12 #[.agg #[.int .u32 org, wv, lv]] V fun e w' => e = .returned (.tuple #[.string ⟨#[]⟩, .int .i64 110]) ∧ Kp V w' := fun V k => (hD V k).mono (by
        rintro e w' ⟨h | h, k2⟩
        · exact ⟨h.2, k2⟩
        · exact absurd h.1 hR)
      subst hwv
      subst hlv
      exact blanks_no w org _ _ _ _ _ _ rv ⟨#[]⟩ 110 (.inl (by omega)) hK hD'
theorem c3' : Tryz.prog.cellsOf 3 = 1 := by kernel_rfl
theorem c38' : Tryz.prog.cellsOf 38 = 1 := by kernel_rfl
theorem b3' : Tryz.prog.bytesOf 3 = 8 := by kernel_rfl
theorem wf_i64q {n : Int} (h : (Lit.int .i64 n).wf = true) : -9223372036854775808 ≤ n ∧ n ≤ 9223372036854775807 := by
  simpa [Lit.wf, IntKind.min, IntKind.max, IntKind.signed, IntKind.bits] using h
/-- Numbers that came in. -/
theorem nums_in {H : Type} {enc : TypeId × Value → H} {W : World} {fuel : Nat} {c : Value} {d : DataW H} {p : List MemPlace}
    (hf : DataW.trod enc Tryz.prog W 0 (fun _ => true) true fuel 38 [c] = some (d, p)) (hw : ∀ n ∈ d.weights Tryz.prog 38, n ≤ reachBytes) :
    ∃ l : List Int, IS W c l ∧ l.length < 4611686018427387904 ∧ ∀ x ∈ l, -9223372036854775808 ≤ x ∧ x ≤ 9223372036854775807 := by
  rcases open_slice Tryz.underlying38 hf with ⟨hcs, hx⟩ | ⟨x, len, cap, m, n, D, Pl, hcs, _, hl, hm, hmm, hx, hel⟩
  · simp at hcs
    subst hcs
    exact ⟨[], ⟨none, 0, rfl, by simp, .inl rfl⟩, by simp, fun x hx => by cases hx⟩
  · simp at hcs
    subst hcs
    simp only [if_true] at hmm
    subst hmm
    simp only [Prod.mk.injEq] at hx
    obtain ⟨hd', _⟩ := hx
    have hreach := hw (((List.range len).map D).length + ((List.range (m - len)).map fun j => D (len + j)).length |> (· * Tryz.prog.bytesOf 3)) (by rw [hd']; simp [DataW.weights, Tryz.underlying38])
    simp only [b3', List.length_map, List.length_range, reachBytes] at hreach
    have hvs : ∀ i, i < len → ∃ v : Int, (∃ cs, W.cells? 0 (x.add (i * 1)) 1 = some cs ∧ cs = [.int .i64 v]) ∧ -9223372036854775808 ≤ v ∧ v ≤ 9223372036854775807 := by
      intro i hi
      obtain ⟨cs', hc, ht'⟩ := hel i (by omega)
      rw [c3'] at hc
      obtain ⟨v, hv, _, hwf⟩ := DataW.trod_int Tryz.underlying3 ht'
      exact ⟨v, ⟨cs', hc, hv⟩, wf_i64q hwf⟩
    obtain ⟨f, hfv⟩ := choose_lt hvs
    refine ⟨(List.range len).map f, ⟨some x, m, by simp, by simpa using hl, ?_⟩, by simp; omega, fun y hy => ?_⟩
    · by_cases h0 : len = 0
      · left; subst h0; rfl
      · right
        obtain ⟨b, off, spot⟩ := x
        have hcell : ∀ i, i < len → W.cell? ((⟨b, off, spot⟩ : Addr).add (i * 1) |>.add 0) = some (.int .i64 (f i)) := by
          intro i hi
          obtain ⟨⟨cs, hc, he'⟩, _⟩ := hfv i hi
          obtain ⟨_, hlen', hcell⟩ := World.cells?_some hc
          rw [hcell 0 (by omega), he']; rfl
        have hspot : spot = none := by
          have := hcell 0 (by omega)
          simpa [Addr.add] using World.cell?_spot this
        subst hspot
        have g : ∀ i, i < len → W.cell? ⟨b, off + i, none⟩ = some (.int .i64 (f i)) := by
          intro i hi
          have := hcell i hi
          rw [Addr.add_lit, Addr.add_lit] at this
          simpa using this
        refine ⟨b, off, rfl, World.block_lt_of_cell? W _ (g 0 (by omega)), fun i y hy => ?_⟩
        have hi : i < len := by
          have := (List.getElem?_eq_some_iff.1 hy).1
          simpa using this
        rw [List.getElem?_map, List.getElem?_range hi] at hy
        cases hy
        exact g i hi
    · obtain ⟨i, hi, rfl⟩ := List.mem_map.1 hy
      exact (hfv i (by simpa using hi)).2
end Go.Proofs.YtgofjmhdgmfgfaaGreatDoor
