import Derived.Test.YtkggkkoblpdopaaGreatYf
namespace Go.Proofs.YtkggkkoblpdopaaGreat
open Go.ChangeShapes Go.WideShapes Go.ChangeAt Go.RowKit
set_option linter.unusedVariables false
def gi0 : Gi := ⟨List.replicate 32 0, 0, 0⟩
def g0 (t : Int) : Ste := ⟨[], t, false, [], [], [], [], gi0, [], [], []⟩
theorem ok0 : encOk (g0 0) = true := by decide +kernel
theorem ok1 : encOk (g0 515) = true := by decide +kernel
theorem b0 : (encB (g0 0)).length = 100 ∧ (encB (g0 0))[0]? = some 67 ∧ (encB (g0 0))[8]? = some 84 := by decide +kernel
theorem b1 : (encB (g0 515)).length = 100 ∧ opnE (encB (g0 515)) = none ∧ (rs1 (encB (g0 515))).part.1.z12.end.err = 0 ∧ (rs1 (encB (g0 515))).part.1.num 8 = 515 := by decide +kernel
theorem e1 : (rs1 (encB (g0 515))).part.1.empty := ⟨by decide +kernel, by decide +kernel, by decide +kernel, by decide +kernel, by decide +kernel, by decide +kernel, by decide +kernel⟩
theorem gi0_ok : gi0.ok := ⟨rfl, fun n hn => by rw [List.eq_of_mem_replicate hn]; constructor <;> decide, ⟨by decide, by decide⟩, ⟨by decide, by decide⟩⟩
theorem st0 (w : World) (t : Int) (ht : u64ok t) : IsSt w (.agg #[.slice none 0 0, .int .u64 t, .bool false, .slice none 0 0, .slice none 0 0, .slice none 0 0, .slice none 0 0, .int .i64 0, .int .i64 0, .int .i64 0, .int .i64 0, .int .i64 0, .int .i64 0, .int .i64 0, .int .i64 0, .int .i64 0, .int .i64 0, .int .i64 0, .int .i64 0, .int .i64 0, .int .i64 0, .int .i64 0, .int .i64 0, .int .i64 0, .int .i64 0, .int .i64 0, .int .i64 0, .int .i64 0, .int .i64 0, .int .i64 0, .int .i64 0, .int .i64 0, .int .i64 0, .int .i64 0, .int .i64 0, .int .i64 0, .int .i64 0, .int .i64 0, .int .i64 0, .int .u32 0, .int .u32 0, .slice none 0 0, .slice none 0 0, .slice none 0 0]) (g0 t) :=
 ⟨ht, gi0_ok, none, 0, none, 0, none, 0, none, 0, none, 0, none, 0, none, 0, none, 0, rfl, ⟨⟨rfl, by simp [g0], (fun n hn => by cases hn), .inl rfl⟩, fun _ _ e => by cases e⟩, ⟨by simp [g0], .inl rfl⟩, ⟨by simp [g0], .inl rfl⟩, ⟨by simp [g0], .inl rfl⟩, ⟨by simp [g0], .inl rfl⟩, ⟨by simp [g0], .inl rfl⟩, ⟨by simp [g0], .inl rfl⟩, ⟨by simp [g0], .inl rfl⟩⟩
theorem Bs.at_ {w : World} {b o len : Nat} {bs : List Int} (h : Bs w (some ⟨b, o, none⟩) len bs) {i : Nat} {x : Int} (hx : bs[i]? = some x) : w.cell? ⟨b, o + i, none⟩ = some (.int .u8 x) := by
 obtain ⟨h1, h2, h3, h4⟩ := h
 have hi := (List.getElem?_eq_some_iff.1 hx).1
 rcases h4 with h4 | ⟨b', o', e, hc⟩
 ·omega
 ·cases e
  have := hc i (by omega)
  rw [this]
  simp [List.getD, hx]
theorem save_nil (w : World) : Calls Tryz.prog 20 #[.pointer none] w fun r w' => r = .returned (.tuple #[.slice none 0 0, .int .i64 230]) ∧ w' = w := by
 go_enter Tryz.func20, Tryz.ntmps20
 go_wp2
 exact ⟨rfl, _, by simp [results, Tryz.results20, go_sem], rfl, rfl⟩
set_option maxRecDepth 100000 in
set_option maxHeartbeats 4000000 in
theorem known_any (w : World) : Calls Tryz.prog 8 #[] w fun r w' => r = .returned (.bool true) ∧ Kp w w' := by
 go_enter Tryz.func8, Tryz.ntmps8
 go_wp2_with fail
 go_at_call 9
 refine (encode_any w _ (g0 0) (st0 w 0 ⟨by decide, by decide⟩)).mono ?_
 rintro r w1 ⟨k1, ⟨_, v, rfl, ho, _⟩ | ⟨e, _⟩⟩
 ·have hlen := b0.1
  obtain ⟨a, c, rfl, hb⟩ := ho.bs (by omega)
  rw [hlen] at hb ⊢
  have hab : ∃ b o, a = some ⟨b, o, none⟩ := by
   rcases hb.2.2.2 with e | ⟨b, o, e, _⟩
   ·cases e
   ·exact ⟨b, o, e⟩
  obtain ⟨bb, oo, rfl⟩ := hab
  have q0 := hb.at_ b0.2.1
  have q8 := hb.at_ b0.2.2
  rw [Nat.add_zero] at q0
  have HK1 : Hid (Kp w w1) := k1
  clear k1 ho hb hlen
  have A1 := encode_any w1 _ (g0 515) (st0 w1 515 ⟨by decide, by decide⟩)
  go_wp2_with fail
  go_at_call 9
  refine A1.mono ?_
  clear A1 q0 q8
  rintro r w3 ⟨k3, ⟨_, v3, rfl, ho3, _⟩ | ⟨e, _⟩⟩
  ·obtain ⟨a3, c3, rfl, hb3⟩ := ho3.bs (by have := b1.1; omega)
   have hl3 := b1.1
   obtain ⟨a3', c3', e3, hlc, _, _⟩ := ho3.shape (by omega)
   have A1 := decode_any w3 a3 (encB (g0 515)).length c3 (encB (g0 515)) hb3 (by cases e3; exact hlc) (fun _ => e1)
   have he1 := b1.2.1
   have he2 := b1.2.2.1
   have he3 := b1.2.2.2
   have H3 : Hid (Kp w1 w3) := k3
   clear k3 ho3 hb3 e3 hlc
   rw [hl3] at A1 ⊢
   clear hl3
   go_wp2_with fail
   go_at_call 10
   refine A1.mono ?_
   clear A1
   rintro r w4 ⟨k4, hr⟩
   rcases hr with ⟨e, he, _⟩ | ⟨_, ⟨he, _⟩ | ⟨_, cs, rfl, hsz, hone, h1⟩⟩
   ·rw [he1] at he; cases he
   ·exact absurd he2 he
   ·clear he1 he2
    rw [he3] at h1
    have hT := heap_alloc_new w4 (.cells zC 36)
    have hone' : cs.all (·.oneCell') = true := hone
    have kZ : Kp w4 ((w4.alloc (.cells zC 36)).setRow w4.heap.size cs) := Chg.setRow (Kp.al w4 (.cells zC 36)) (.inr (Nat.le_refl _)) cs
    have hX := setRow_heap (w4.alloc (.cells zC 36)) w4.heap.size _ cs 36 _ hT
    go_wp2_with (refine wpList_store_row rfl 36 (.tmp 5) (.tmp 41) rfl w4.heap.size cs rfl rfl 36 zC hT (by rw [hsz]; exact size36) (by rw [hsz]; rfl) hone' ?_)
    obtain ⟨w5, hw5⟩ : ∃ w5, w5 = (w4.alloc (.cells zC 36)).setRow w4.heap.size cs := ⟨_, rfl⟩
    rw [← hw5] at kZ hX ⊢
    clear hw5 hT
    go_at_call 20
    refine (save_nil w5).mono ?_
    rintro r w6 ⟨rfl, hw6⟩
    rw [hw6]
    clear hw6 w6
    have x1 := (cells_at hX 1).1
    rw [h1] at x1
    have HK : Hid (Kp w w5) := Kp.trans HK1.out (Kp.trans H3.out (Kp.trans k4 kZ))
    clear kZ k4 H3 HK1 hX h1 hone hone'
    go_wp2
    go_ret
    exact ⟨rfl, HK.out⟩
  ·rw [ok1] at e; cases e
 ·rw [ok0] at e; cases e
end Go.Proofs.YtkggkkoblpdopaaGreat
