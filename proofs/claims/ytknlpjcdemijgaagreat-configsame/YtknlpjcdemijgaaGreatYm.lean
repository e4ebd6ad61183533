import Derived.Test.YtknlpjcdemijgaaGreatYl
import Derived.Laws.Tables
namespace Go.Proofs.YtknlpjcdemijgaaGreat
open Go.ChangeShapes Go.WideShapes Go.ChangeAt Go.RowKit
set_option linter.unusedVariables false
def DecR (w : World) (bs : List Int) (r : Ending) (w' : World) : Prop := Kp w w' ∧
 ((∃ e p, opnE bs = some (e, p) ∧ r = .returned (.tuple #[.agg zC, .int .i64 e, .int .i64 p])) ∨
   (opnE bs = none ∧ (decS bs).err ≠ 0 ∧ r = .returned (.tuple #[.agg zC, .int .i64 133, .int .i64 (wrap64 (12 + (decS bs).flaw))])) ∨
   (opnE bs = none ∧ (decS bs).err = 0 ∧ ∃ u, r = .returned (.tuple #[u, .int .i64 0, .int .i64 0]) ∧ IsCf w' u (decG bs)))
theorem cs_lit {cs : Array Value} {g : Cf} {ca wa sa qa : Option Addr} (hsz : cs.size = 12)
  (hc : ∀ i u, (g.m.cells ++ [.slice ca g.cs.length g.cs.length, .slice wa g.ws.length g.ws.length, .slice sa g.ss.length g.ss.length, .slice qa g.qs.length g.qs.length])[i]? = some u → cs[0 + i]? = some u) :
  cs = #[.int .i64 g.m.pg, .int .u32 g.m.ob, .int .i64 g.m.op, .int .i64 g.m.st, .int .i64 g.m.wy, .int .i64 g.m.li, .int .i64 g.m.sl, .int .u64 g.m.mj, .slice ca g.cs.length g.cs.length, .slice wa g.ws.length g.ws.length, .slice sa g.ss.length g.ss.length, .slice qa g.qs.length g.qs.length] := by
 apply Array.ext_getElem?
 intro i
 rcases Nat.lt_or_ge i 12 with hi | hi
 ·have := hc i _ (List.getElem?_eq_getElem (by simp [Mc.cells]; omega))
  rw [Nat.zero_add] at this
  rw [this, ← List.getElem?_eq_getElem]
  simp only [List.getElem?_toArray]
  rfl
 ·rw [Array.getElem?_eq_none (by omega), Array.getElem?_eq_none (by simpa using hi)]
theorem opnE_ne {bs : List Int} {e p : Int} (h : opnE bs = some (e, p)) : (e == 0) = false := by
 unfold opnE at h
 split at h
 ·cases h; rfl
 ·split at h
  ·cases h; rfl
  ·split at h
   ·cases h; rfl
   ·split at h
    ·cases h; rfl
    ·cases h
set_option maxRecDepth 100000 in
set_option maxHeartbeats 4000000 in
theorem decode_any (w : World) (a : Option Addr) (len cap : Nat) (bs : List Int) (hB : Bs w a len bs) (hlc : len ≤ cap) :
  Calls Tryz.prog 11 #[.slice a len cap] w fun r w' => DecR w bs r w' := by
 obtain ⟨w1, hw1⟩ : ∃ w1, w1 = w.alloc (.cells zC 31) := ⟨_, rfl⟩
 have k1 : Kp w w1 := by rw [hw1]; exact Kp.al _ _
 have hT : w1.heap[w.heap.size]? = some (.cells zC 31 (0, 0)) := by rw [hw1]; exact heap_alloc_new w _
 have hrg : rng bs := hB.2.2.1
 have A1 := opened_any w1 a len cap bs (hB.chg k1 (by simp)) hlc
 have H1 : Hid (Kp w w1 ∧ w1.heap[w.heap.size]? = some (.cells zC 31 (0, 0))) := ⟨k1, hT⟩
 clear k1 hT hB
 go_enter Tryz.func11, Tryz.ntmps11
 go_wp2_with fail
 rw [← hw1]
 clear hw1
 go_at_call 30
 refine A1.mono ?_
 clear A1
 obtain ⟨T, hTe⟩ : ∃ T, T = w.heap.size := ⟨_, rfl⟩
 rw [← hTe] at H1 ⊢
 have HT : Hid (T = w.heap.size) := hTe
 clear hTe
 rintro r w2 ⟨k2, hr⟩
 have hT2 : w2.heap[T]? = some (.cells zC 31 (0, 0)) := Kp.heap k2 H1.out.2
 rcases hr with ⟨e, p, he, rfl⟩ | ⟨he, R, a2, cap2, rfl, i2, hR2, ha2⟩
 ·have hne : (e == 0) = false := opnE_ne he
  have HF : Hid (DecR w bs (.returned (.tuple #[.agg zC, .int .i64 e, .int .i64 p])) (w2.setRow T zC) ∧ (w2.setRow T zC).heap[T]? = some (.cells zC 31 (0, 0))) := ⟨⟨Kp.trans H1.out.1 (by rw [setRow_self w2 T zC 31 (0, 0) hT2]; exact k2), .inl ⟨e, p, he, rfl⟩⟩, setRow_heap w2 T _ _ 31 _ hT2⟩
  clear k2 H1
  go_wp2_with (refine wpList_store_row rfl 31 (.tmp 2) (.tmp 20) rfl T zC rfl rfl 31 zC hT2 size31 rfl (by kernel_rfl) ?_)
  exact ⟨rfl, _, res11 _ _ T zC _ _ rfl rfl rfl HF.out.2 rfl, HF.out.1⟩
 ·have kg := Kp.al w2 (.cells zC 31)
  have kk := Kp.al (w2.alloc (.cells zC 31)) (.cells #[.pointer (some ⟨R, 0, none⟩)] 83)
  have hG0 := Kp.heap kk (heap_alloc_new w2 (.cells zC 31))
  have hK0 := heap_alloc_new (w2.alloc (.cells zC 31)) (.cells #[.pointer (some ⟨R, 0, none⟩)] 83)
  obtain ⟨w4, hw4⟩ : ∃ w4, w4 = (w2.alloc (.cells zC 31)).alloc (.cells #[.pointer (some ⟨R, 0, none⟩)] 83) := ⟨_, rfl⟩
  rw [← hw4] at hG0 hK0 kk
  have k4 := Kp.trans kg kk
  have hRl := hp_lt i2.box
  have hal : ∀ x off, a2 = some ⟨x, off, none⟩ → 0 < (rs1 bs).part.1.bs.length → x < w2.heap.size := fun x off e hl => by
   obtain ⟨q1, q2, q3, q4⟩ := i2.bytes
   rcases q4 with q4 | ⟨bb, oo, q4, q5⟩
   ·omega
   ·rw [e] at q4; cases q4
    exact lt_of_cell (q5 0 hl)
  obtain ⟨s0, hs0⟩ : ∃ x, x = (rs1 bs).part.1 := ⟨_, rfl⟩
  rw [← hs0] at i2 hal ha2
  have hTl := hp_lt hT2
  have r4 : R1 w4 R a2 cap2 s0 w2.heap.size zC 31 := ⟨i2.other k4 (fun e => e) (fun _ _ _ _ e => e), hG0, by omega, fun x off e hl => by have := hal x off e hl; omega⟩
  have A1 := rgoOver r4 0 (by simp) (fun k h1 h2 => by
   have : k = 8 ∨ k = 9 ∨ k = 10 ∨ k = 11 := by omega
   rcases this with rfl | rfl | rfl | rfl <;> rfl)
  have cK := (cells_at hK0 0).1
  have HG4 : Hid (w2.heap.size < w4.heap.size) := hp_lt hG0
  have HRw : Hid (w.heap.size ≤ R ∧ w.heap.size ≤ w2.heap.size) := ⟨Nat.le_trans H1.out.1.size hR2, Nat.le_trans H1.out.1.size k2.size⟩
  have eK : (w2.alloc (.cells zC 31)).heap.size = w2.heap.size + 1 := by simp
  rw [eK] at cK
  have hT4 := Kp.heap k4 hT2
  have hrs : rng s0.bs := by
   rw [hs0]; intro x hx; exact i2.rng x (by rw [hs0]; exact hx)
  have HS : Hid (s0 = (rs1 bs).part.1 ∧ Kp w1 w2 ∧ Kp w2 w4 ∧ w4.heap[T]? = some (.cells zC 31 (0, 0))) := ⟨hs0, k2, k4, hT4⟩
  clear hs0 i2 hal ha2 r4 kg kk k4 hG0 hK0 k2 eK hT4 hT2
  go_wp2_with fail
  rw [← hw4]
  clear hw4
  go_at_call 25
  refine A1.mono ?_
  clear A1
  rintro e w5 ⟨rfl, c5, ca, wa, sa, qa, q1, q2, q3, q4, q5, q6, q7, q8, q9⟩
  obtain ⟨G, hGe⟩ : ∃ G, G = w2.heap.size := ⟨_, rfl⟩
  rw [← hGe] at q1 cK HG4 HRw ⊢
  have hGT : T < G ∧ R < G := by omega
  clear hGe hTl hRl
  have cK5 := Chg.cell' q1.2 (b := G + 1) (o := 0) (by omega) cK
  have A1 := end_any w5 R a2 cap2 s0.cf.2 q1.1.rs
  have H5 : Hid (R1 w5 R a2 cap2 s0.cf.2 G c5 31 ∧ Chg w4 w5 (fun k => k = R ∨ k = G) ∧ c5.size = 12 ∧ (∀ i u, (s0.cf.1.m.cells ++ [.slice ca s0.cf.1.cs.length s0.cf.1.cs.length, .slice wa s0.cf.1.ws.length s0.cf.1.ws.length, .slice sa s0.cf.1.ss.length s0.cf.1.ss.length, .slice qa s0.cf.1.qs.length s0.cf.1.qs.length])[i]? = some u → c5[0 + i]? = some u) ∧ RowW (CeW w4.heap.size) w5 ca 4 s0.cf.1.cs ∧ RowAt w4.heap.size w5 wa 3 Wi.cells s0.cf.1.ws ∧ RowW (SaW w4.heap.size) w5 sa 3 s0.cf.1.ss ∧ RowAt w4.heap.size w5 qa 6 Qu.cells s0.cf.1.qs ∧ (∀ k, Rw ca k → w4.heap.size ≤ k) ∧ (∀ k, Rw sa k → w4.heap.size ≤ k)) := ⟨q1.1, q1.2, q2, q3, q4, q5, q6, q7, q8, q9⟩
  clear q1 q2 q3 q4 q5 q6 q7 q8 q9 cK
  go_wp2_with fail
  go_at_call 31
  refine A1.mono ?_
  clear A1
  rintro e w6 ⟨rfl, i6, c6⟩
  have cK6 := Chg.cell' c6 (b := G + 1) (o := 0) (by omega) cK5
  have A1 := flaw_any w6 R a2 cap2 s0.cf.2.end i6
  have H6 : Hid (Chg w5 w6 (fun k => k = R)) := c6
  clear i6 c6 cK5
  go_wp2_with fail
  go_at_call 32
  refine A1.mono ?_
  clear A1 cK6
  rintro e w7 ⟨rfl, k7⟩
  obtain ⟨hs0, k2, k4, hT4⟩ := HS.out
  have hG4 := HG4.out
  have hTw1 : T < w1.heap.size := hp_lt H1.out.2
  have cAll : Chg w4 w7 (fun k => k = R ∨ k = G) := Chg.trans (Chg.trans H5.out.2.1 H6.out (fun _ _ e => .inl e)) k7.any (fun _ _ e => e)
  have hT7 : w7.heap[T]? = some (.cells zC 31 (0, 0)) := cAll.heap hT4 (by omega)
  have hG7 : w7.heap[G]? = some (.cells c5 31 (0, 0)) := Kp.heap k7 (H6.out.heap H5.out.1.bl (by omega))
  have hsz := H5.out.2.2.1
  have hlit := cs_lit H5.out.2.2.1 H5.out.2.2.2.1
  have hone : c5.all (·.oneCell') = true := by rw [hlit]; kernel_rfl
  have hdS : s0.cf.2.end = decS bs := by rw [hs0]; rfl
  have hdG : s0.cf.1 = decG bs := by rw [hs0]; rfl
  have kT : ∀ cs, Kp w (w7.setRow T cs) := fun cs => by
   have c7 : Chg w w7 (fun k => k = R ∨ k = G) := Chg.trans (Chg.trans (Chg.trans H1.out.1.any k2.any (fun _ _ e => e)) k4.any (fun _ _ e => e)) cAll (fun _ _ e => e)
   refine Chg.mono (S := fun k => (k = R ∨ k = G) ∨ k = T) (Chg.setRow (c7.mono (fun _ _ e => .inl e)) (.inl (.inr rfl)) cs) (fun k hk e => ?_)
   have h1 := HT.out
   have h2 := HRw.out
   rcases e with (e | e) | e <;> omega
  rw [hdS]
  by_cases he2 : (decS bs).err = 0
  ·have HF : Hid (DecR w bs (.returned (.tuple #[.agg c5, .int .i64 0, .int .i64 0])) (w7.setRow T c5) ∧ (w7.setRow T c5).heap[T]? = some (.cells c5 31 (0, 0))) := by
    refine ⟨⟨kT c5, .inr (.inr ⟨he, he2, _, rfl, ?_⟩)⟩, setRow_heap w7 T _ _ 31 _ hT7⟩
    have cF : Chg w5 (w7.setRow T c5) (fun k => k = R ∨ k = T) := Chg.setRow (Chg.trans (H6.out.mono (fun _ _ e => .inl e)) k7.any (fun _ _ e => e)) (.inl (.inr rfl)) c5
    obtain ⟨_, _, z1, z2, z3, z4, z5, z6, z7, z8⟩ := H5.out
    have nR : ∀ k, w4.heap.size ≤ k → ¬ (k = R ∨ k = T) := fun k hk e => by rcases e with e | e <;> omega
    rw [hdG] at z2 z3 z4 z5 z6
    exact IsCf.made (M := w4.heap.size) (by rw [← hdG]; exact cf_ok s0 hrs) z1 z2 (z3.mono (fun b o x e p => p.chg cF (nR b (z7 b e)) nR)) (z4.chg cF nR) (z5.mono (fun b o x e p => p.chg cF (nR b (z8 b e)) nR)) (z6.chg cF nR)
   rw [decide_eq_true he2]
   clear hlit hdS hdG kT cAll H5 H6 HS hs0 k2 k4 hT4 k7 H1
   go_wp2_with (first | refine wpList_load_row rfl 31 (.tmp 8) rfl G rfl 31 c5 (0, 0) _ hG7 Tryz.underlying31 rfl (by rw [hsz]; exact size31) ?_ | refine wpList_store_row rfl 31 (.tmp 2) (.tmp 41) rfl T c5 rfl rfl 31 zC hT7 (by rw [hsz]; exact size31) (by rw [hsz]; rfl) hone ?_)
   exact ⟨rfl, _, res11 _ _ T c5 _ _ rfl rfl rfl HF.out.2 hsz, HF.out.1⟩
  ·have HF : Hid (DecR w bs (.returned (.tuple #[.agg zC, .int .i64 133, .int .i64 (wrap64 (12 + (decS bs).flaw))])) (w7.setRow T zC) ∧ (w7.setRow T zC).heap[T]? = some (.cells zC 31 (0, 0))) := ⟨⟨kT zC, .inr (.inl ⟨he, he2, rfl⟩)⟩, setRow_heap w7 T _ _ 31 _ hT7⟩
   rw [decide_eq_false he2]
   clear hlit hdS hdG kT cAll H5 H6 HS hs0 k2 k4 hT4 k7 H1
   go_wp2_with (refine wpList_store_row rfl 31 (.tmp 2) (.tmp 38) rfl T zC rfl rfl 31 zC hT7 size31 rfl (by kernel_rfl) ?_)
   exact ⟨rfl, _, res11 _ _ T zC _ _ rfl rfl rfl HF.out.2 rfl, HF.out.1⟩
end Go.Proofs.YtknlpjcdemijgaaGreat
