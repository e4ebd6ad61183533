import Derived.Test.YtadpgaaijdpbiaaLo
import Derived.Test.YtadpgaaijdpbiaaRi
namespace Go.Proofs.Ytadpgaaijdpbiaa
open Go.ChangeShapes Go.WideShapes Go.ChangeAt Go.RowKit Go.Shelf
set_option linter.unusedVariables false

def hst (F : Nat → Int × Int × Int) : Nat → List (Int × Int × Int)
  | 0 => []
  | i + 1 => F i :: hst F i
/-- The others, in memory. -/
structure OAt (w W : World) (ov : Value) (acc : List Tg) : Prop where
  row : OR W ov acc
  new : ∀ b, ov.ownBlock = some b → w.heap.size ≤ b
  kp : Kp w W
theorem OAt.later {w W W' : World} {ov : Value} {acc : List Tg} (h : OAt w W ov acc) (hk : Kp W W') : OAt w W' ov acc := ⟨Chg.owns hk h.row (fun _ _ x => x), h.new, Kp.trans h.kp hk⟩
theorem OAt.more {w W : World} {ov : Value} {acc : List Tg} (h : OAt w W ov acc) (t : Tg) (hl : acc.length ≤ 100000) :
    ∃ v' W', (Builtin.append_ #[42, 42] 42 #[ov, .slice (some ⟨W.heap.size, 0, none⟩) 1 1]).run Try.prog (W.alloc (.cells #[.int .i64 t.1, .int .u32 ((t.2 : Nat) : Int)] 31)) = .ok v' W' ∧ OAt w W' v' (acc ++ [t]) := by
  obtain ⟨i31, z31, h31, hz31, hs31, hb31, hzs31⟩ := info31
  have hk : Kp W (W.alloc (.cells #[.int .i64 t.1, .int .u32 ((t.2 : Nat) : Int)] 31)) := (Chg.refl W _).alloc _
  have hnw := heap_alloc_new W (.cells #[.int .i64 t.1, .int .u32 ((t.2 : Nat) : Int)] 31)
  obtain ⟨v', W', hr, h1, h2, h3⟩ := run_app (P := Try.prog) (W.alloc (.cells #[.int .i64 t.1, .int .u32 ((t.2 : Nat) : Int)] 31)) 42 42 31 i31 z31 2 16 Try.underlying42 h31 hz31 hs31 hb31 hzs31 (by omega) ov acc.length (tcs acc) (Chg.owns hk h.row (fun _ _ x => x)) (some ⟨W.heap.size, 0, none⟩) 1 1 (tcs [t]) (by simp [tcs]) (.inr ⟨_, _, rfl, fun j u hu => by
    rw [(cells_at hnw _).1, Nat.zero_add, ← hu]; simp [tcs]⟩) (tcs_one _) (by simp [maxLen]; omega) (by omega)
  rw [← tcs_app] at h1
  have hC : Chg (W.alloc (.cells #[.int .i64 t.1, .int .u32 ((t.2 : Nat) : Int)] 31)) W' (fun i => ov.ownBlock = some i) := Chg.grown (Chg.refl _ _) h2 (fun k e => .inl e)
  refine ⟨v', W', hr, ⟨?_, fun b hb => ?_, Chg.trans (Kp.trans h.kp hk) hC (fun i hi e => by have := h.new i e; omega)⟩⟩
  · have : (acc ++ [t]).length = acc.length + 1 := by simp
    show W'.ownsRow 0 31 2 v' (acc ++ [t]).length (tcs (acc ++ [t]))
    rw [this]; exact h1
  · rcases h3 with e | ⟨i, hi, his⟩
    · exact h.new b (by rw [← e]; exact hb)
    · rw [hi] at hb; cases hb
      simp at his
      have := h.kp.size
      omega

theorem g1 (t : Tg) (u : Int × Int × Int) (r : List (Int × Int × Int)) (acc : List Tg) (h : u.2.2 = 1) : sinceG t (u :: r) acc = none := by unfold sinceG; simp [h]
theorem g2 (t : Tg) (u : Int × Int × Int) (r : List (Int × Int × Int)) (acc : List Tg) (h : u.2.2 = 2) : sinceG t (u :: r) acc = if (uTag u).1 = t.1 then none else sinceG t r acc := by rw [sinceG]; simp [h]
theorem g3 (t : Tg) (u : Int × Int × Int) (r : List (Int × Int × Int)) (acc : List Tg) (h : u.2.2 = 3) : sinceG t (u :: r) acc = if uTag u = t then none else sinceG t r acc := by rw [sinceG]; simp [h]
theorem g4 (t : Tg) (u : Int × Int × Int) (r : List (Int × Int × Int)) (acc : List Tg) (h : isUse u) : sinceG t (u :: r) acc = if uTag u = t then some acc else sinceG t r (add1 acc (uTag u)) := by
  obtain ⟨h1, h2, h3⟩ := h
  rw [sinceG]; simp [h1, h2, h3]

set_option maxHeartbeats 4000000 in
set_option maxRecDepth 100000 in
theorem since_any (w : World) (a : Option Addr) (i cap : Nat) (F : Nat → Int × Int × Int) (hU : UsesIn w a i cap F) (t : Tg) (h300 : i ≤ 300) (us : Bool) (o : Nat) (hus : us = (sinceG t (hst F i) []).isSome) (ho : o = ((sinceG t (hst F i) []).getD []).length) :
    Calls Try.prog 19 #[.slice a i cap, tV t] w fun e w' => e = .returned (.tuple #[.bool us, .int .i64 ((o : Nat) : Int)]) ∧ Kp w w' := by
  obtain ⟨W1, hW1⟩ : ∃ W, W = w.alloc (.cells #[.int .i64 t.1, .int .u32 ((t.2 : Nat) : Int)] 31) := ⟨_, rfl⟩
  obtain ⟨b3, hb3⟩ : ∃ b, b = w.heap.size := ⟨_, rfl⟩
  have hk1 : Kp w W1 := by rw [hW1]; exact (Chg.refl w _).alloc _
  have hx3 : W1.heap[b3]? = some (.cells #[.int .i64 t.1, .int .u32 ((t.2 : Nat) : Int)] 31 (0, 0)) := by rw [hW1, hb3]; exact heap_alloc_new w _
  have KU : Hid (UsesIn W1 a i cap F ∧ W1.heap[b3]? = some (.cells #[.int .i64 t.1, .int .u32 ((t.2 : Nat) : Int)] 31 (0, 0)) ∧ Kp w W1) := ⟨hU.kept hk1, hx3, hk1⟩
  have HR : Hid (∀ A, sinceG t (hst F i) [] = A → us = A.isSome ∧ o = (A.getD []).length) := fun A h => by rw [← h]; exact ⟨hus, ho⟩
  clear hU hk1 hx3 hus ho
  unfold tV
  go_enter Try.func19, Try.ntmps19
  go_wp2_with fail
  rw [← hW1, ← hb3]
  clear hW1 hb3
  go_loopw [6, 7] (fun ovv s7 wr => ∃ (ov : Value) (q : Nat) (acc : List Tg), ov = ovv ∧ s7 = .int .i64 ((q : Int) - 1) ∧ q ≤ i ∧ Hid (sinceG t (hst F i) [] = sinceG t (hst F q) acc ∧ acc.length + q ≤ i) ∧ Hid (OAt W1 wr ov acc)) (fun _ s7 _ => (intOf s7 + 1).toNat)
  case atStart => exact ⟨_, i, [], rfl, by go_num, by omega, ⟨rfl, by simp⟩, ⟨World.ownsRow_nil _ 0 31 2, fun b hb => (by cases hb), Chg.refl _ _⟩⟩
  case round =>
    obtain ⟨ov, q, acc, rfl, rfl, hq, HS, HO⟩ := hrel
    cases q with
    | zero =>
      have hfin := HR.out none HS.out.1
      have e1 : us = false := hfin.1
      have e2 : o = 0 := hfin.2
      have HK : Hid (Kp w wr) := Kp.trans KU.out.2.2 HO.out.kp
      have HE : Hid (us = false ∧ o = 0) := ⟨e1, e2⟩
      clear hfin e1 e2
      go_wp2
      go_ret2
      refine ⟨?_, HK.out⟩
      rw [HE.out.1, HE.out.2]
      rfl
    | succ p =>
      have ep : ((p + 1 : Nat) : Int) - 1 = (p : Int) := by omega
      rw [ep]
      obtain ⟨k1, k2, k3⟩ := KU.out
      obtain ⟨b0, off0, hab, hb0, hcells⟩ := (k1.kept HO.out.kp).src.resolve_left (by omega)
      subst hab
      have huo := k1.ok p (by omega)
      obtain ⟨u0, u1, u2⟩ := hcells p (by omega)
      have hTag := tag_any wr (F p) huo
      have hpz : (p : Int) < (i : Int) := by omega
      have hp0 : (0 : Int) ≤ (p : Int) := by omega
      obtain ⟨tg, htg⟩ : ∃ tg, tg = uTag (F p) := ⟨_, rfl⟩
      rw [← htg] at hTag
      obtain ⟨f, hf⟩ : ∃ f, f = (F p).2.2 := ⟨_, rfl⟩
      have hS := HS.out.1
      rw [show hst F (p + 1) = F p :: hst F p from rfl] at hS
      have HG : Hid (tg = uTag (F p) ∧ f = (F p).2.2 ∧ sinceG t (hst F i) [] = sinceG t (F p :: hst F p) acc ∧ acc.length + (p + 1) ≤ i ∧ b0 < wr.heap.size) := ⟨htg, hf, hS, HS.out.2, hb0⟩
      rw [← hf] at u2
      unfold uV tV at hTag
      rw [← hf] at hTag
      clear hcells hf htg hS k1 k2 k3 HS huo hb0
      generalize (F p).1 = y0 at *
      generalize (F p).2.1 = y1 at *
      go_wp2_with fail
      go_at_call 15
      refine hTag.mono ?_
      rintro e W2 ⟨rfl, hk2⟩
      clear hTag
      obtain ⟨W3, hW3⟩ : ∃ W, W = W2.alloc (.cells #[.int .i64 tg.1, .int .u32 ((tg.2 : Nat) : Int)] 31) := ⟨_, rfl⟩
      obtain ⟨b8, hb8⟩ : ∃ b, b = W2.heap.size := ⟨_, rfl⟩
      have hk3 : Kp wr W3 := Kp.trans hk2 (by rw [hW3]; exact (Chg.refl W2 _).alloc _)
      have hx8 : W3.heap[b8]? = some (.cells #[.int .i64 tg.1, .int .u32 ((tg.2 : Nat) : Int)] 31 (0, 0)) := by rw [hW3, hb8]; exact heap_alloc_new W2 _
      have u2' := Kp.cell hk3 u2
      have HO3 : Hid (OAt W1 W3 ov acc) := HO.out.later hk3
      obtain ⟨t0, t1, _, _⟩ := cells2 (HO3.out.kp.heap KU.out.2.1)
      obtain ⟨s0, s1, _, _⟩ := cells2 hx8
      have HX : Hid (W3.heap[b8]? = some (.cells #[.int .i64 tg.1, .int .u32 ((tg.2 : Nat) : Int)] 31 (0, 0)) ∧ W3.heap[b3]? = some (.cells #[.int .i64 t.1, .int .u32 ((t.2 : Nat) : Int)] 31 (0, 0))) := ⟨hx8, HO3.out.kp.heap KU.out.2.1⟩
      have HK : Hid (Kp w W3) := Kp.trans KU.out.2.2 HO3.out.kp
      clear hk3 hx8 u0 u1 u2 hk2
      rw [hW3] at u2'
      go_upto_region 7 with fail
      rw [← hW3, ← hb8]
      clear hW3 hb8 u2'
      by_cases f1 : f = 1
      · subst f1
        have hn : sinceG t (hst F i) [] = none := by rw [HG.out.2.2.1]; exact g1 _ _ _ _ HG.out.2.1.symm
        have HE : Hid (us = false ∧ o = 0) := HR.out none hn
        clear hn
        go_wp2
        go_ret2
        refine ⟨?_, HK.out⟩
        rw [HE.out.1, HE.out.2]
        rfl
      · have f1' : (f == 1) = false := by simp [f1]
        by_cases f2 : f = 2
        · subst f2
          have hn : sinceG t (hst F i) [] = if tg.1 = t.1 then none else sinceG t (hst F p) acc := by rw [HG.out.2.2.1, g2 _ _ _ _ HG.out.2.1.symm, ← HG.out.1]
          by_cases hc : tg.1 = t.1
          · rw [if_pos hc] at hn
            have HE : Hid (us = false ∧ o = 0) := HR.out none hn
            have hc' : (tg.1 == t.1) = true := by simp [hc]
            clear hn hc
            go_wp2
            go_ret2
            refine ⟨?_, HK.out⟩
            rw [HE.out.1, HE.out.2]
            rfl
          · rw [if_neg hc] at hn
            have hc' : (tg.1 == t.1) = false := by simp [hc]
            have HS' : Hid (sinceG t (hst F i) [] = sinceG t (hst F p) acc ∧ acc.length + p ≤ i) := ⟨hn, by have := HG.out.2.2.2.1; omega⟩
            clear hn hc
            go_wp2
            exact ⟨⟨ov, p, acc, rfl, by go_num, by omega, HS', HO3⟩, by simp [intOf]⟩
        · have f2' : (f == 2) = false := by simp [f2]
          have heq : ∀ W, (binOp BinOp.eql 31 (.agg #[.int .i64 tg.1, .int .u32 ((tg.2 : Nat) : Int)]) (.agg #[.int .i64 t.1, .int .u32 ((t.2 : Nat) : Int)])).run Try.prog W = .ok (.bool (decide (tg = t))) W := fun W => by rw [eql31, tag_eq]
          by_cases f3 : f = 3
          · subst f3
            have hn : sinceG t (hst F i) [] = if tg = t then none else sinceG t (hst F p) acc := by rw [HG.out.2.2.1, g3 _ _ _ _ HG.out.2.1.symm, ← HG.out.1]
            by_cases hc : tg = t
            · rw [if_pos hc] at hn
              rw [decide_eq_true hc] at heq
              have HE : Hid (us = false ∧ o = 0) := HR.out none hn
              clear hn hc
              go_wp2
              go_ret2
              refine ⟨?_, HK.out⟩
              rw [HE.out.1, HE.out.2]
              rfl
            · rw [if_neg hc] at hn
              rw [decide_eq_false hc] at heq
              have HS' : Hid (sinceG t (hst F i) [] = sinceG t (hst F p) acc ∧ acc.length + p ≤ i) := ⟨hn, by have := HG.out.2.2.2.1; omega⟩
              clear hn hc
              go_wp2
              exact ⟨⟨ov, p, acc, rfl, by go_num, by omega, HS', HO3⟩, by simp [intOf]⟩
          · have f3' : (f == 3) = false := by simp [f3]
            have hn : sinceG t (hst F i) [] = if tg = t then some acc else sinceG t (hst F p) (add1 acc tg) := by
              rw [HG.out.2.2.1, g4 _ _ _ _ ⟨by rw [← HG.out.2.1]; exact f1, by rw [← HG.out.2.1]; exact f2, by rw [← HG.out.2.1]; exact f3⟩, ← HG.out.1]
            obtain ⟨la, lc, hov⟩ := HO3.out.row.form
            obtain ⟨m, hm⟩ : ∃ m, m = acc.length := ⟨_, rfl⟩
            rw [← hm] at hov
            have HM : Hid (m = acc.length) := hm
            have hm300 : m ≤ 300 := by have := HG.out.2.2.2.1; omega
            clear hm f1 f2 f3
            subst hov
            by_cases hc : tg = t
            · rw [if_pos hc] at hn
              rw [decide_eq_true hc] at heq
              have hE := HR.out (some acc) hn
              have HE : Hid (us = true ∧ o = m) := ⟨hE.1, by rw [HM.out]; exact hE.2⟩
              clear hn hc hE
              go_wp2
              go_ret2
              refine ⟨?_, HK.out⟩
              rw [HE.out.1, HE.out.2]
              rfl
            · rw [if_neg hc] at hn
              rw [decide_eq_false hc] at heq
              have HN : Hid (sinceG t (hst F i) [] = sinceG t (hst F p) (add1 acc tg)) := hn
              clear hn hc
              go_wp2_with fail
              clear heq t0 t1 s0 s1
              go_loopw [9, 10] (fun s9 s10 wq => ∃ k : Nat, s10 = .int .i64 k ∧ k ≤ m ∧ s9 = .bool (decide (tg ∈ acc.take k)) ∧ Kp W3 wq) (fun _ s10 _ => m - (intOf s10).toNat)
              case atStart => exact ⟨0, rfl, by omega, by simp, Chg.refl _ _⟩
              case round =>
                obtain ⟨k, rfl, hkm, rfl, hkq⟩ := hrel
                have HOq : Hid (OAt W1 wr (.slice la m lc) acc) := HO3.out.later hkq
                obtain ⟨s0, s1, _, _⟩ := cells2 (hkq.heap HX.out.1)
                have HKq : Hid (Kp W3 wr) := hkq
                clear hkq
                by_cases hlt : k < m
                · have hltz : (k : Int) < (m : Int) := by omega
                  have hka : k < acc.length := by have := HM.out; omega
                  obtain ⟨g, cap', cur, hla, _⟩ := HOq.out.row.2.resolve_left (by rintro ⟨_, h⟩; omega)
                  have hla' : la = some ⟨g, 0, none⟩ := by cases hla; rfl
                  subst hla'
                  obtain ⟨c0, c1⟩ := OR.cells HOq.out.row k hka
                  have hstep : decide (tg ∈ acc.take (k + 1)) = (decide (tg ∈ acc.take k) || decide (acc[k] = tg)) := by
                    have hm2 : (tg ∈ acc.take k ++ [acc[k]]) ↔ (tg ∈ acc.take k ∨ acc[k] = tg) := by
                      rw [List.mem_append, List.mem_singleton]
                      exact ⟨fun h => h.imp_right Eq.symm, fun h => h.imp_right Eq.symm⟩
                    rw [take_snoc' acc k hka, ← Bool.decide_or]
                    exact decide_eq_decide.2 hm2
                  cases hin : decide (tg ∈ acc.take k) with
                  | true =>
                    rw [hin] at hstep
                    have HB : Hid (decide (tg ∈ acc.take (k + 1)) = true) := hstep
                    clear hstep hin hla
                    go_wp2_with fail
                    go_quiet (fail)
                    go_wp2
                    exact ⟨⟨k + 1, by go_num, by omega, by rw [HB.out], Chg.drewN HKq.out _⟩, by simp [intOf]; omega⟩
                  | false =>
                    rw [hin] at hstep
                    have heq2 : ∀ W, (binOp BinOp.eql 31 (.agg #[.int .i64 (acc[k]).1, .int .u32 (((acc[k]).2 : Nat) : Int)]) (.agg #[.int .i64 tg.1, .int .u32 ((tg.2 : Nat) : Int)])).run Try.prog W = .ok (.bool (decide (acc[k] = tg))) W := fun W => by rw [eql31, tag_eq]
                    have HB : Hid (decide (tg ∈ acc.take (k + 1)) = decide (acc[k] = tg)) := by rw [hstep]; rfl
                    clear hstep hin hla
                    generalize decide (acc[k] = tg) = bk at *
                    generalize (acc[k]).1 = xa at *
                    generalize (((acc[k]).2 : Nat) : Int) = xb at *
                    go_wp2_with fail
                    go_quiet (fail)
                    go_wp2
                    exact ⟨⟨k + 1, by go_num, by omega, by rw [HB.out], Chg.drewN HKq.out _⟩, by simp [intOf]; omega⟩
                · have hltz : ¬ (k : Int) < (m : Int) := by omega
                  have hall : acc.take k = acc := List.take_of_length_le (by have := HM.out; omega)
                  rw [hall]
                  by_cases hin : tg ∈ acc
                  · have HA : Hid (sinceG t (hst F i) [] = sinceG t (hst F p) acc ∧ acc.length + p ≤ i) := ⟨by rw [HN.out, add1, if_pos hin], by have := HG.out.2.2.2.1; omega⟩
                    rw [decide_eq_true hin]
                    clear hin hall
                    go_wp2
                    exact ⟨⟨_, p, acc, rfl, by go_num, by omega, HA, HOq⟩, by simp [intOf]⟩
                  · have HA : Hid (sinceG t (hst F i) [] = sinceG t (hst F p) (acc ++ [tg]) ∧ (acc ++ [tg]).length + p ≤ i) := ⟨by rw [HN.out, add1, if_neg hin], by have := HG.out.2.2.2.1; simp; omega⟩
                    obtain ⟨v', W', hr, hO'⟩ := HOq.out.more tg (by have := HM.out; omega)
                    have HO' : Hid (OAt W1 W' v' (acc ++ [tg])) := hO'
                    rw [decide_eq_false hin]
                    clear hin hall hO'
                    go_wp2_with (at_builtin; refine wpList_append_run _ rfl (.tmp 64) (.tmp 66) 42 42 rfl _ _ v' W' rfl rfl hr ?_)
                    exact ⟨⟨_, p, _, rfl, by go_num, by omega, HA, HO'⟩, by simp [intOf]⟩
end Go.Proofs.Ytadpgaaijdpbiaa
