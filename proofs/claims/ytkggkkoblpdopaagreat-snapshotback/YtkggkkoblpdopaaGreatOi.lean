import Derived.Test.YtkggkkoblpdopaaGreatOg
namespace Go.Proofs.YtkggkkoblpdopaaGreat
open Go.ChangeShapes Go.WideShapes Go.ChangeAt Go.RowKit
set_option linter.unusedVariables false
theorem IsSt.good {w : World} {u : Value} {z : Ste} (h : IsSt w u z) : z.good := by
 obtain ⟨ht, hg, ba, bc, p1, q1, p2, q2, p3, q3, p4, q4, p5, q5, p6, q6, p7, q7, _, b0, l1, l2, l3, l4, l5, l6, l7⟩ := h
 refine ⟨ht, b0.1.2.2.1, l1.all2 fun b o y p => ?_, l2.all2 fun b o y p => p.2, l3.all2 fun b o y p => p.2, l4.all2 fun b o y p => p.2, hg, l5.all2 fun b o y p => ⟨⟨p.2.1.rng, p.2.1.1⟩, ⟨p.2.2.rng, p.2.2.1⟩⟩, l6.all2 fun b o y p => ?_, l7.all2 fun b o y p => p.2⟩
 ·obtain ⟨h1, a, c, _, h⟩ := p
  exact ⟨h.1.2.2.1, h1⟩
 ·obtain ⟨h1, qa, qc, sa, sc, _, h3, h4⟩ := p
  exact ⟨h1, h3.all2 fun _ _ _ m => ⟨m.rng, m.1⟩, h4.all2 fun _ _ _ m => ⟨m.rng, m.1⟩⟩
set_option maxRecDepth 100000 in
set_option maxHeartbeats 4000000 in
theorem back_walk (w : World) (u : Value) (g : Ste) (hI : IsSt w u g) : Calls Tryz.prog 5 #[u] w fun r w' => r = .returned (.bool true) ∧ Below w.heap.size w w' := by
 have hgood := hI.good
 obtain ⟨C, rfl, hsz⟩ := hI.arr
 obtain ⟨w0, hw0⟩ : ∃ w0, w0 = w.alloc (.cells C 36) := ⟨_, rfl⟩
 have k0 : Kp w w0 := by rw [hw0]; exact Kp.al _ _
 have hG := heap_alloc_new w (.cells C 36)
 rw [← hw0] at hG
 have A1 := known_any w0
 have HI : Hid (IsSt w (.agg C) g ∧ g.good ∧ Kp w w0 ∧ w0.heap[w.heap.size]? = some (.cells C 36 (0, 0))) := ⟨hI, hgood, k0, hG⟩
 clear hI hgood k0 hG
 go_enter Tryz.func5, Tryz.ntmps5
 go_wp2_with fail
 rw [← hw0]
 clear hw0
 go_at_call 8
 refine A1.mono ?_
 clear A1
 rintro r w1 ⟨rfl, k1⟩
 have hG1 := Kp.heap k1 HI.out.2.2.2
 have HK1 : Hid (Kp w w1) := Kp.trans HI.out.2.2.1 k1
 have A1 := encode_any w1 _ g (HI.out.1.kp HK1.out)
 clear k1
 obtain ⟨B, hB⟩ : ∃ B, B = w.heap.size := ⟨_, rfl⟩
 have HB : Hid (B = w.heap.size) := hB
 rw [← hB] at hG1 ⊢
 clear hB
 go_wp2_with (refine wpList_load_row rfl 36 (.tmp 1) rfl B rfl 36 C (0, 0) _ hG1 Tryz.underlying36 rfl (by rw [hsz]; exact size36) ?_)
 go_at_call 9
 refine A1.mono ?_
 clear A1
 rintro r w2 ⟨k2, ⟨hok, v, rfl, ho, _⟩ | ⟨hok, rfl⟩⟩
 ·obtain ⟨o1, o2, o3⟩ := back_dec HI.out.2.1 hok
  obtain ⟨_, _, hn0, _⟩ := enc_form HI.out.2.1.fit hok
  obtain ⟨bs, hbs⟩ : ∃ bs, bs = encB g := ⟨_, rfl⟩
  rw [← hbs] at o1 o2 o3 hn0 ho
  clear hbs
  obtain ⟨a, c, rfl, hlc, _, hb⟩ := ho.shape (by omega)
  have A1 := decode_full w2 a bs.length c bs hb hlc
  have HK2 : Hid (Kp w w2 ∧ Kp w1 w2) := ⟨Kp.trans HK1.out k2, k2⟩
  have HO : Hid (opnE bs = none ∧ (decS bs).err = 0 ∧ decG bs = g) := ⟨o1, o2, o3⟩
  have hG2 := Kp.heap k2 hG1
  clear k2 ho hb hlc o1 o2 o3 hok hG1
  go_wp2_with fail
  go_at_call 10
  refine A1.mono ?_
  clear A1
  rintro r w3 ⟨k3, hr⟩
  rcases hr with ⟨e, he, _⟩ | ⟨_, ⟨he, _⟩ | ⟨_, cs, rfl, hst⟩⟩
  ·rw [HO.out.1] at he; cases he
  ·exact absurd HO.out.2.1 he
  ·rw [HO.out.2.2] at hst
   obtain ⟨hsz2, hone⟩ := hst.one
   have hT := heap_alloc_new w3 (.cells zC 36)
   have kT : Kp w3 ((w3.alloc (.cells zC 36)).setRow w3.heap.size cs) := Chg.setRow (Kp.al w3 (.cells zC 36)) (.inr (Nat.le_refl _)) cs
   have hX := setRow_heap (w3.alloc (.cells zC 36)) w3.heap.size _ cs 36 _ hT
   have hG3 := Kp.heap kT (Kp.heap k3 hG2)
   have A1 := same_st ((w3.alloc (.cells zC 36)).setRow w3.heap.size cs) (.agg C) (.agg cs) g (HI.out.1.kp (Kp.trans HK2.out.1 (Kp.trans k3 kT))) (hst.kp kT)
   have HK : Hid (Kp w ((w3.alloc (.cells zC 36)).setRow w3.heap.size cs)) := Kp.trans HK2.out.1 (Kp.trans k3 kT)
   clear kT k3 hst hG2
   go_wp2_with (first | refine wpList_load_row rfl 36 (.tmp 1) rfl B rfl 36 C (0, 0) _ hG3 Tryz.underlying36 rfl (by rw [hsz]; exact size36) ?_ | refine wpList_load_row rfl 36 (.tmp 6) rfl w3.heap.size rfl 36 cs (0, 0) _ hX Tryz.underlying36 rfl (by rw [hsz2]; exact size36) ?_ | refine wpList_store_row rfl 36 (.tmp 6) (.tmp 30) rfl w3.heap.size cs rfl rfl 36 zC hT (by rw [hsz2]; exact size36) (by rw [hsz2]; rfl) hone ?_)
   obtain ⟨w4, hw4⟩ : ∃ w4, w4 = (w3.alloc (.cells zC 36)).setRow w3.heap.size cs := ⟨_, rfl⟩
   rw [← hw4] at A1 HK ⊢
   clear hw4 hT hX hG3
   go_at_call 12
   refine A1.mono ?_
   clear A1
   rintro r w5 ⟨rfl, k5⟩
   have HK5 : Hid (Kp w w5) := Kp.trans HK.out k5
   clear k5 HK
   go_wp2
   go_ret
   exact ⟨rfl, Chg.below HK5.out (Nat.le_refl _) (by simp)⟩
 ·have HK2 : Hid (Kp w w2) := Kp.trans HK1.out k2
  clear k2 hok hG1
  go_wp2
  go_ret
  exact ⟨rfl, Chg.below HK2.out (Nat.le_refl _) (by simp)⟩
end Go.Proofs.YtkggkkoblpdopaaGreat
