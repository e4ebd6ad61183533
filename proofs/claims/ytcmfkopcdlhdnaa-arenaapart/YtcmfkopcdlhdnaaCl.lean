import Derived.Test.YtcmfkopcdlhdnaaCe
import Derived.Deep.QuietTactic
import Derived.BigQuiet
import Derived.Deep.Cut
import Derived.Deep.RegionHeld3
namespace Go.Proofs.Ytcmfkopcdlhdnaa
open Go.ChangeShapes Go.WideShapes Go.ChangeAt Go.RowKit Go.Maps
set_option linter.unusedVariables false

def Sp (b : Nat) (PG : Array Value) (w : World) : Prop := w.heap[b]? = some (.cells PG 70 (0, 0))

set_option maxHeartbeats 2000000 in
set_option maxRecDepth 100000 in
theorem clone_any (w : World) (B M n : Nat) (f : Nat → Option Nat) (m : Nat → Nat) (h : IsM w B M n f m) :
    Calls Try.prog 14 #[.pointer (some ⟨B, 0, none⟩)] w fun e w' => ∃ B' M' f', e = .returned (.pointer (some ⟨B', 0, none⟩)) ∧ IsM w' B' M' n f' m ∧ (∀ k, Mf B' M' f' k → w.heap.size ≤ k) ∧ Chg w w' (fun _ => False) := by
  obtain ⟨es, hE1, hE2, hE3⟩ := h.map.ex
  have hEnt : Ent f es := ⟨hE2, hE3⟩
  have hmm := @run_makeMap Try.prog
  have c0 := (cells_at h.box 0).1
  have c1 := (cells_at h.box 1).1
  simp only [List.getElem?_toArray, List.getElem?_cons_zero, List.getElem?_cons_succ] at c0 c1
  have hge := h.ge
  have hle := h.le
  have hB := h.lt B (.inl rfl)
  have hMl := h.lt M (.inr (.inl rfl))
  obtain ⟨w1, hw1⟩ : ∃ w1, w1 = (w.alloc (.map #[] 0)).alloc (.cells #[.int .i64 n, .map (some w.heap.size)] 60 (0, 0)) := ⟨_, rfl⟩
  have s1 : w1.heap.size = w.heap.size + 2 := by rw [hw1]; simp
  have hC1 : Chg w w1 (fun _ => False) := by rw [hw1]; exact ((Chg.refl _ _).alloc _).alloc _
  have hN : IsM w1 (w.heap.size + 1) w.heap.size n (fun _ => none) (fun _ => 0) := by
    have hm := PM.made w
    have hc : Chg (w.alloc (.map #[] 0)) w1 (fun _ => False) := by rw [hw1]; exact (Chg.refl _ _).alloc _
    refine ⟨?_, hm.kept hc (fun h => h), by simp, by simp, by simp, by simp, hge, hle⟩
    rw [hw1]
    have := heap_alloc_new (w.alloc (.map #[] 0)) (.cells #[.int .i64 n, .map (some w.heap.size)] 60 (0, 0))
    simpa using this
  have hO1 : w1.ownsMap Try.prog 22 pageElem M 4096 (.map es) := by
    obtain ⟨es2, clock, q1, r⟩ := hE1
    exact ⟨es2, clock, hC1.heap q1 (fun h => h), r⟩
  have d1 := (cells_at (hC1.heap h.box (fun h => h)) 1).1
  simp only [List.getElem?_toArray, List.getElem?_cons_zero, List.getElem?_cons_succ] at d1
  have H : Hid (IsM w B M n f m ∧ Ent f es ∧ Chg w w1 (fun _ => False) ∧ IsM w1 (w.heap.size + 1) w.heap.size n (fun _ => none) (fun _ => 0)) := ⟨h, hEnt, hC1, hN⟩
  clear h hE1 hE2 hE3 hEnt hC1 hN
  go_enter Try.func14, Try.ntmps14
  go_upto_region 2 with fail
  rw [← hw1]
  clear hw1 c0 c1 hmm
  go_wp2_with (first
    | (at_range; refine wpList_range_own _ rfl _ 58 rfl 22 67 keyed22 Try.underlying58 _ M 4096 _ rfl hO1 ?_; intro w0 hrg0 hg0 hs0)
    | fail)
  go_frame
  obtain ⟨r, hr⟩ : ∃ r, r = w1.heap.size := ⟨_, rfl⟩
  rw [← hr] at hrg0 hs0 ⊢
  have K0 : Hid (w0.ranges Try.prog 22 pageElem M r 4096 (.map es) (Maps.has (.map es)) (Maps.size (.map es)) ∧ w1.grownBy w0 none ∧ r = w.heap.size + 2) := ⟨hrg0, hg0, by omega⟩
  have hB1 : w.heap.size < r := by omega
  clear hrg0 hg0 hs0 hO1 d1 hr s1
  have hEnt := H.out.2.1
  go_loopw [4] (fun _ wr => ∃ (left : Lit → Bool) (cnt : Nat) (f' : Nat → Option Nat), wr.ranges Try.prog 22 pageElem M r 4096 (.map es) left cnt ∧ IsM wr (w.heap.size + 1) w.heap.size n f' (mcl m left) ∧ (∀ k, Mf (w.heap.size + 1) w.heap.size f' k → w.heap.size ≤ k ∧ k ≠ r) ∧ Chg w wr (fun _ => False))
    (fun _ wr => wr.rangeLeft M r)
  case atStart =>
    obtain ⟨q1, q2, q3⟩ := K0.out
    obtain ⟨p1, p2, p3, p4⟩ := H.out
    have hc : Chg w1 w0 (fun _ => False) := (Chg.refl w1 _).grown q2 (fun k hk => by cases hk)
    refine ⟨_, _, fun _ => none, q1, ?_, ?_, p3.trans hc (fun _ _ h => h)⟩
    · rw [mcl_start p1 p2]
      exact p4.other hc (fun _ _ h => h)
    · rintro k (rfl | rfl | ⟨p, hp⟩)
      · omega
      · omega
      · cases hp
  case round =>
    clear K0
    obtain ⟨left, cnt, f', hrg, hI, hF, hC⟩ := hrel
    have KR : Hid (wr.ranges Try.prog 22 pageElem M r 4096 (.map es) left cnt ∧ IsM wr (w.heap.size + 1) w.heap.size n f' (mcl m left) ∧ (∀ k, Mf (w.heap.size + 1) w.heap.size f' k → w.heap.size ≤ k ∧ k ≠ r) ∧ Chg w wr (fun _ => False)) := ⟨hrg, hI, hF, hC⟩
    clear hI hF hC
    go_wp2_with (first
      | (at_next; refine wpList_next_pages rfl _ rfl M r 4096 f es left cnt hEnt rfl hrg ?_ ?_)
      | fail)
    · intro hl0
      go_wp2
      go_ret
      obtain ⟨q1, q2, q3, q4⟩ := KR.out
      rw [mcl_end hl0] at q2
      exact ⟨_, _, f', rfl, q2, fun k hk => (q3 k hk).1, q4⟩
    · intro x b w2 cnt2 hfx hx4 hrg2 hlt hC2 hen
      have K2 : Hid (w2.ranges Try.prog 22 pageElem M r 4096 (.map es) (fun z => left z && !z.sameKey (.int .u32 x)) cnt2 ∧ cnt2 < cnt ∧ Chg wr w2 (fun k => k = r) ∧ f x = some b ∧ x < 4096) := ⟨hrg2, hlt, hC2, hfx, hx4⟩
      clear hrg2 hlt hC2 hfx hx4 hrg hEnt
      go_upto_region 5 with fail
      have hpg : w2.heap[b]? = some (.cells (pageOf m x) 70 (0, 0)) := by
        have h1 := H.out.1.other (KR.out.2.2.2) (fun _ _ h => h)
        refine K2.out.2.2.1.heap (h1.page x b K2.out.2.2.2.1).2 ?_
        have := H.out.1.lt b (.inr (.inr ⟨x, K2.out.2.2.2.1⟩))
        omega
      obtain ⟨bz, hbz⟩ : ∃ bz, bz = !decide (∀ i ∈ List.range 4096, m (4096 * x + i) = (fun _ : Nat => 0) (4096 * 0 + i)) := ⟨_, rfl⟩
      have hne := neq70 m (fun _ => 0) x 0
      rw [← hbz] at hne
      have hbd := build70
      have hrg := page_range hpg
      have hsz := size70 m x
      obtain ⟨PG, hPG⟩ : ∃ PG, PG = pageOf m x := ⟨_, rfl⟩
      obtain ⟨ZG, hZG⟩ : ∃ ZG, ZG = pageOf (fun _ => 0) 0 := ⟨_, rfl⟩
      rw [← hPG] at hne hrg hsz
      rw [← hZG] at hne hbd
      have HP : Hid (PG = pageOf m x ∧ w2.heap[b]? = some (.cells (pageOf m x) 70 (0, 0)) ∧ bz = !decide (∀ i ∈ List.range 4096, m (4096 * x + i) = (fun _ : Nat => 0) (4096 * 0 + i))) := ⟨hPG, hpg, hbz⟩
      clear hPG hZG hpg hbz
      cases bz with
      | false =>
        go_wp2_with (first
          | (refine wpList_load_mid rfl 70 (.tmp 24) rfl b 0 rfl PG.toList _ hrg Try.underlying70 rfl hsz ?_; simp only [Act.put, List.setIfInBounds_toArray, List.set_cons_zero, List.set_cons_succ, Array.toArray_toList]; refine wpList_build_run rfl 70 #[] rfl #[] (by simp) (.agg ZG) (hbd _) ?_; simp only [Act.put, List.setIfInBounds_toArray, List.set_cons_zero, List.set_cons_succ])
          | fail)
        go_roundw
        case rel =>
          obtain ⟨q1, q2, q3, q4⟩ := KR.out
          obtain ⟨x1, x2, x3, x4, x5⟩ := K2.out
          obtain ⟨-, -, hz⟩ := HP.out
          refine ⟨_, cnt2, f', x1, ?_, q3, q4.trans x3 (fun i hi e => by omega)⟩
          rw [mcl_zero (by
            have := congrArg (fun b => !b) hz
            simpa using this)]
          exact q2.other x3 (fun k hk e => (q3 k hk).2 e)
        case measure => rw [K2.out.1.left_eq, KR.out.1.left_eq]; exact K2.out.2.1
      | true =>
        go_wp2_with (first
          | (refine wpList_load_mid rfl 70 (.tmp 24) rfl b 0 rfl PG.toList _ hrg Try.underlying70 rfl hsz ?_; simp only [Act.put, List.setIfInBounds_toArray, List.set_cons_zero, List.set_cons_succ, Array.toArray_toList]; refine wpList_build_run rfl 70 #[] rfl #[] (by simp) (.agg ZG) (hbd _) ?_; simp only [Act.put, List.setIfInBounds_toArray, List.set_cons_zero, List.set_cons_succ])
          | fail)
        have hmx : Try.prog.follows .mixedOrders = true := by kernel_rfl
        have hS2 : Sp b PG w2.drew := by
          obtain ⟨rfl, hh, -⟩ := HP.out
          exact hh
        have hP := page_any w2.drew (w.heap.size + 1) w.heap.size n f' (mcl m left) (KR.out.2.1.other (K2.out.2.2.1.drew) (fun k hk e => (KR.out.2.2.1 k hk).2 e)) x (H.out.1.page x b K2.out.2.2.2.1).1
        refine wp_region_held_drew (S := Sp b PG) hmx hS2 (fun hS => ?_)
        clear hS2
        refine wpAnyH_take (i := 0) (oi := { dst := some 28, op := Op.move (Operand.tmp 3), type := 24, pos := "whole.go:30", after := #[], guard := none }) (v := .pointer (some ⟨w.heap.size + 1, 0, none⟩)) rfl (by kernel_rfl) (by kernel_rfl) (by kernel_rfl) (fun _ _ _ h => h) (Or.inl ⟨by rfl, ?_⟩) hS ?_
        · intro wx hx
          go_simp
        simp only [Act.put, List.setIfInBounds_toArray, List.set_cons_zero, List.set_cons_succ]
        refine wpAnyH_take (i := 1) (oi := { dst := some 29, op := Op.move (Operand.tmp 4), type := 22, pos := "whole.go:30", after := #[], guard := none }) (v := .int .u32 x) rfl (by kernel_rfl) (by kernel_rfl) (by kernel_rfl) (fun _ _ _ h => h) (Or.inl ⟨by rfl, ?_⟩) hS ?_
        · intro wx hx
          go_simp
        simp only [Act.put, List.setIfInBounds_toArray, List.set_cons_zero, List.set_cons_succ]
        refine wpAnyH_take (i := 3) (oi := { dst := some 31, op := Op.move (Operand.tmp 5), type := 67, pos := "whole.go:30", after := #[], guard := none }) (v := .pointer (some ⟨b, 0, none⟩)) rfl (by kernel_rfl) (by kernel_rfl) (by kernel_rfl) (fun _ _ _ h => h) (Or.inl ⟨by rfl, ?_⟩) hS ?_
        · intro wx hx
          go_simp
        simp only [Act.put, List.setIfInBounds_toArray, List.set_cons_zero, List.set_cons_succ]
        refine wpAnyH_take (i := 4) (oi := { dst := some 32, op := Op.nilCheck (Operand.tmp 31), type := 0, pos := "whole.go:30", after := #[{ on := 3, ground := Ground.data }], guard := none }) (v := .pointer (some ⟨b, 0, none⟩)) rfl (by kernel_rfl) (by kernel_rfl) (by kernel_rfl) (fun _ _ _ h => h) (Or.inl ⟨by rfl, ?_⟩) hS ?_
        · intro wx hx
          go_simp
        simp only [Act.put, List.setIfInBounds_toArray, List.set_cons_zero, List.set_cons_succ]
        refine wpAnyH_take (i := 5) (oi := { dst := some 33, op := Op.load 70 (Operand.tmp 32), type := 70, pos := "whole.go:30", after := #[{ on := 4, ground := Ground.data }], guard := none }) (v := .agg PG.toList.toArray) rfl (by kernel_rfl) (by kernel_rfl) (by kernel_rfl) (fun _ _ _ h => h) ?_ hS ?_
        · exact yieldsIf_load_mid (by rfl) 70 _ rfl b 0 rfl PG.toList _ (fun wx hx => page_range hx) Try.underlying70 rfl hsz
        simp only [Act.put, List.setIfInBounds_toArray, List.set_cons_zero, List.set_cons_succ, Array.toArray_toList]
        refine wpAnyH_ready (rs := [2]) (by kernel_rfl) (by simp) ?_
        refine AllReadyH.cons (o := { dst := some 30, op := Op.call { callee := Callee.value (Operand.func 28), args := #[Operand.tmp 28, Operand.tmp 29], argTypes := #[24, 22] }, type := 67, pos := "whole.go:30", after := #[{ on := 0, ground := Ground.data }, { on := 1, ground := Ground.data }], guard := none }) rfl (fun K hK => ?_) AllReadyH.nil
        rw [if_pos (by rfl)]
        go_simp
        refine hP.mono ?_
        rintro e w3 ⟨bp, f2, rfl, hb2, hM2, hC3, hn2⟩
        have hS3 : Sp b PG w3 := Chg.heap hC3 (show w2.drew.heap[b]? = _ from hS) (by
          have := H.out.1.lt b (.inr (.inr ⟨x, K2.out.2.2.2.1⟩)); omega)
        have hst : (storeCells ⟨bp, 0, none⟩ PG.toList).run Try.prog w3 = .ok () (w3.setRow bp PG) := by
          rw [HP.out.1]; exact store_cells w3 bp m x _ (hM2.page x bp hb2).2 (pageOf_size _ _)
        have hps : PG.size = 4096 := by rw [HP.out.1]; exact pageOf_size _ _
        have K3 : Hid (f2 x = some bp ∧ IsM w3 (w.heap.size + 1) w.heap.size n f2 (mcl m left) ∧ Chg w2.drew w3 (fun i => i = w.heap.size) ∧ ∀ j x, f2 j = some x → f' j = some x ∨ w2.drew.heap.size ≤ x) := ⟨hb2, hM2, hC3, hn2⟩
        clear hb2 hM2 hC3 hn2 hP hS
        refine hK.out _ _ hS3 (fun hS => ?_)
        clear hK K hS3
        refine wpAnyH_take (i := 6) (oi := { dst := some 34, op := Op.nilCheck (Operand.tmp 30), type := 0, pos := "whole.go:30", after := #[{ on := 2, ground := Ground.data }, { on := 0, ground := Ground.phase }, { on := 1, ground := Ground.phase }, { on := 2, ground := Ground.phase }, { on := 3, ground := Ground.phase }, { on := 4, ground := Ground.phase }, { on := 5, ground := Ground.phase }], guard := none }) (v := .pointer (some ⟨bp, 0, none⟩)) rfl (by kernel_rfl) (by kernel_rfl) (by kernel_rfl) (fun _ _ _ h => h) (Or.inl ⟨by rfl, ?_⟩) hS ?_
        · intro wx hx
          go_simp
        simp only [Act.put, List.setIfInBounds_toArray, List.set_cons_zero, List.set_cons_succ]
        refine wpAnyH_ready (rs := [7]) (by kernel_rfl) (by simp) ?_
        refine AllReadyH.cons (o := { dst := none, op := Op.store 70 (Operand.tmp 34) (Operand.tmp 33), type := 0, pos := "whole.go:30", after := #[{ on := 6, ground := Ground.data }, { on := 5, ground := Ground.data }, { on := 2, ground := Ground.chain }, { on := 0, ground := Ground.phase }, { on := 1, ground := Ground.phase }, { on := 2, ground := Ground.phase }, { on := 3, ground := Ground.phase }, { on := 4, ground := Ground.phase }, { on := 5, ground := Ground.phase }], guard := none }) rfl (fun K hK => ?_) AllReadyH.nil
        rw [if_pos (by rfl)]
        go_simp
        have hS4 : Sp b PG (w3.setRow bp PG) := by
          have hne : b ≠ bp := by
            rintro rfl
            have h1 := H.out.1.lt b (.inr (.inr ⟨x, K2.out.2.2.2.1⟩))
            have h2 : w.heap.size ≤ b := by
              rcases K3.out.2.2.2 x b K3.out.1 with e | e
              · exact (KR.out.2.2.1 b (.inr (.inr ⟨x, e⟩))).1
              · have h3 := KR.out.2.2.2.size
                have h4 := K2.out.2.2.1.size
                have h5 : w2.drew.heap.size = w2.heap.size := rfl
                omega
            omega
          have hc : Chg w3 (w3.setRow bp PG) (fun k => k = bp) := Chg.setRow (S := fun k => k = bp) (Chg.refl _ _) (.inl rfl) _
          exact hc.heap hS hne
        refine hK.out _ _ hS4 (fun hS => ?_)
        clear hK K hS4
        refine wpAnyH_done (by kernel_rfl) ?_ _
        obtain ⟨w4, hw4⟩ : ∃ w4, w4 = w3.setRow bp PG := ⟨_, rfl⟩
        rw [← hw4]
        go_wp2
        obtain ⟨q1, q2, q3, q4⟩ := KR.out
        obtain ⟨x1, x2, x3, x4, x5⟩ := K2.out
        obtain ⟨y1, y2, y3, y4⟩ := K3.out
        have z1 : Chg w2 w3 (fun i => i = w.heap.size) := ⟨y3.os, y3.tape, y3.output, y3.size, y3.block⟩
        have z2 : Chg w3 w4 (fun k => k = bp) := by rw [hw4]; exact Chg.setRow (S := fun k => k = bp) (Chg.refl _ _) (.inl rfl) _
        have s1 := q4.size
        have s2 := x3.size
        have s3 : w2.drew.heap.size = w2.heap.size := rfl
        have hr2 := x1.lt
        have hbp : w.heap.size ≤ bp ∧ bp ≠ r := by
          rcases y4 x bp y1 with e | e
          · exact q3 bp (.inr (.inr ⟨x, e⟩))
          · exact ⟨by omega, by omega⟩
        have z3 := ranges_chg (ranges_chg x1 z1 (by omega) (by omega)) z2 (by omega) (by omega)
        refine ⟨⟨_, cnt2, f2, z3, ?_, ?_, ?_⟩, ?_⟩
        · rw [mcl_lay]
          have hl : (rdN m (4096 * x) 4096).length = 4096 := rdN_len _ _ _
          have hy := y2.lay y1 0 (rdN m (4096 * x) 4096) (by omega) (fun v hv => by
            simp [rdN] at hv
            obtain ⟨i, _, rfl⟩ := hv
            exact H.out.1.byte _)
          rw [pageOf_lay _ x 0 _ (by omega), pageOf_congr (m' := m) (fun i hi => by
            unfold layN
            rw [hl, if_pos (by omega), rdN_getD _ _ _ _ (by omega)]
            congr 1; omega), ← HP.out.1, ← hw4] at hy
          exact hy
        · rintro k (rfl | rfl | ⟨p, hp⟩)
          · exact q3 _ (.inl rfl)
          · exact q3 _ (.inr (.inl rfl))
          · rcases y4 p k hp with e | e
            · exact q3 _ (.inr (.inr ⟨p, e⟩))
            · exact ⟨by omega, by omega⟩
        · exact ((q4.trans x3 (fun i hi e => by omega)).trans z1 (fun i hi e => by omega)).trans z2 (fun i hi e => by omega)
        · rw [z3.left_eq, q1.left_eq]; exact x2
end Go.Proofs.Ytcmfkopcdlhdnaa
