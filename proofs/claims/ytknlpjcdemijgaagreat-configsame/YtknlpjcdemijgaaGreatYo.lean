import Derived.Test.YtknlpjcdemijgaaGreatYm
namespace Go.Proofs.YtknlpjcdemijgaaGreat
open Go.ChangeShapes Go.WideShapes Go.ChangeAt Go.RowKit
set_option linter.unusedVariables false
def m0 : Mc := ⟨0, 0, 0, 0, 0, 0, 0, 0⟩
def g0 : Cf := ⟨m0, [], [], [], []⟩
def g1 : Cf := ⟨m0, [], [⟨3, 7, 9⟩], [], []⟩
theorem ok0 : encOk g0 = true := by decide +kernel
theorem ok1 : encOk g1 = true := by decide +kernel
theorem b0 : (encB g0).length = 48 ∧ (encB g0)[0]? = some 67 ∧ (encB g0)[8]? = some 32 := by decide +kernel
theorem b1 : (encB g1).length = 68 ∧ opnE (encB g1) = none ∧ (decS (encB g1)).err = 0 := by decide +kernel
theorem d1 : (decG (encB g1)).ws.length = 1 := by decide +kernel
theorem d2 : (decG (encB g1)).ws = [⟨3, 7, 9⟩] := by kernel_rfl
theorem m0_ok : m0.ok := by
 refine ⟨⟨?_, ?_⟩, ⟨?_, ?_⟩, ⟨?_, ?_⟩, ⟨?_, ?_⟩, ⟨?_, ?_⟩, ⟨?_, ?_⟩, ⟨?_, ?_⟩, ⟨?_, ?_⟩⟩ <;> decide
theorem cf0 (w : World) : IsCf w (.agg zC) g0 := ⟨m0_ok, none, 0, none, 0, none, 0, none, 0, rfl, ⟨by simp [g0], .inl rfl⟩, ⟨by simp [g0], .inl rfl⟩, ⟨by simp [g0], .inl rfl⟩, ⟨by simp [g0], .inl rfl⟩⟩
end Go.Proofs.YtknlpjcdemijgaaGreat
namespace Go.Proofs.YtknlpjcdemijgaaGreat
open Go.ChangeShapes Go.WideShapes Go.ChangeAt Go.RowKit
set_option linter.unusedVariables false
theorem Bs.at_ {w : World} {b o len : Nat} {bs : List Int} (h : Bs w (some ⟨b, o, none⟩) len bs) {i : Nat} {x : Int} (hx : bs[i]? = some x) : w.cell? ⟨b, o + i, none⟩ = some (.int .u8 x) := by
 obtain ⟨h1, h2, h3, h4⟩ := h
 have hi := (List.getElem?_eq_some_iff.1 hx).1
 rcases h4 with h4 | ⟨b', o', e, hc⟩
 ·omega
 ·cases e
  have := hc i (by omega)
  rw [this]
  simp [List.getD, hx]
theorem wi379 : (⟨3, 7, 9⟩ : Wi).ok := ⟨⟨by decide, by decide⟩, ⟨by decide, by decide⟩, ⟨by decide, by decide⟩⟩
set_option maxRecDepth 100000 in
set_option maxHeartbeats 4000000 in
theorem known_any (w : World) : Calls Tryz.prog 9 #[] w fun r w' => r = .returned (.bool true) ∧ Kp w w' := by
 go_enter Tryz.func9, Tryz.ntmps9
 go_wp2_with fail
 go_at_call 10
 refine (encode_any w _ g0 (cf0 w)).mono ?_
 rintro r w1 ⟨k1, ⟨_, v, rfl, ho, _⟩ | ⟨e, _⟩⟩
 ·have hlen := b0.1
  obtain ⟨a, c, rfl, hb⟩ := ho.bs (by omega)
  rw [hlen] at hb ⊢
  have hab : ∃ b o, a = some ⟨b, o, none⟩ := by
   rcases hb.2.2.2 with e | ⟨b, o, e, _⟩
   ·cases e
   ·exact ⟨b, o, e⟩
  obtain ⟨bb, oo, rfl⟩ := hab
  have q0 := hb.at_ b0.2.1
  have q8 := hb.at_ b0.2.2
  rw [Nat.add_zero] at q0
  have HK1 : Hid (Kp w w1) := k1
  clear k1 ho hb hlen
  have kA := Kp.al w1 (.cells #[.int .i64 3, .int .u64 7, .int .u64 9] 65)
  have kB := Kp.al (w1.alloc (.cells #[.int .i64 3, .int .u64 7, .int .u64 9] 65)) (.cells #[.int .i64 0, .int .u32 0, .int .i64 0, .int .i64 0, .int .i64 0, .int .i64 0, .int .i64 0, .int .u64 0, .slice none 0 0, .slice (some ⟨w1.heap.size, 0, none⟩) 1 1, .slice none 0 0, .slice none 0 0] 31)
  have hV := Kp.heap kB (heap_alloc_new w1 (.cells #[.int .i64 3, .int .u64 7, .int .u64 9] 65))
  have hGB := heap_alloc_new (w1.alloc (.cells #[.int .i64 3, .int .u64 7, .int .u64 9] 65)) (.cells #[.int .i64 0, .int .u32 0, .int .i64 0, .int .i64 0, .int .i64 0, .int .i64 0, .int .i64 0, .int .u64 0, .slice none 0 0, .slice (some ⟨w1.heap.size, 0, none⟩) 1 1, .slice none 0 0, .slice none 0 0] 31)
  obtain ⟨w2, hw2⟩ : ∃ w2, w2 = (w1.alloc (.cells #[.int .i64 3, .int .u64 7, .int .u64 9] 65)).alloc (.cells #[.int .i64 0, .int .u32 0, .int .i64 0, .int .i64 0, .int .i64 0, .int .i64 0, .int .i64 0, .int .u64 0, .slice none 0 0, .slice (some ⟨w1.heap.size, 0, none⟩) 1 1, .slice none 0 0, .slice none 0 0] 31) := ⟨_, rfl⟩
  rw [← hw2] at kB hV hGB
  have eGB : (w1.alloc (.cells #[.int .i64 3, .int .u64 7, .int .u64 9] 65)).heap.size = w1.heap.size + 1 := by simp
  rw [eGB] at hGB
  have hcf : IsCf w2 (.agg #[.int .i64 0, .int .u32 0, .int .i64 0, .int .i64 0, .int .i64 0, .int .i64 0, .int .i64 0, .int .u64 0, .slice none 0 0, .slice (some ⟨w1.heap.size, 0, none⟩) 1 1, .slice none 0 0, .slice none 0 0]) g1 := by
   refine ⟨m0_ok, none, 0, some ⟨w1.heap.size, 0, none⟩, 1, none, 0, none, 0, rfl, ⟨by simp [g1], .inl rfl⟩, ⟨by simp [g1], .inr ⟨w1.heap.size, 0, rfl, hp_lt hV, fun i hi => ?_⟩⟩, ⟨by simp [g1], .inl rfl⟩, ⟨by simp [g1], .inl rfl⟩⟩
   have h0 : i = 0 := by simp [g1] at hi; omega
   subst h0
   refine ⟨fun k u hu => ?_, wi379⟩
   rw [(cells_at hV _).1]
   simpa [g1, Wi.cells] using hu
  have A1 := encode_any w2 _ g1 hcf
  have H2 : Hid (Kp w1 w2 ∧ w2.heap[w1.heap.size]? = some (.cells #[.int .i64 3, .int .u64 7, .int .u64 9] 65 (0, 0)) ∧ w2.heap[w1.heap.size + 1]? = some (.cells #[.int .i64 0, .int .u32 0, .int .i64 0, .int .i64 0, .int .i64 0, .int .i64 0, .int .i64 0, .int .u64 0, .slice none 0 0, .slice (some ⟨w1.heap.size, 0, none⟩) 1 1, .slice none 0 0, .slice none 0 0] 31 (0, 0))) := ⟨Kp.trans kA kB, hV, hGB⟩
  clear kA kB hV hGB eGB hcf
  go_wp2_with fail
  rw [← hw2]
  clear hw2
  go_at_call 10
  refine A1.mono ?_
  clear A1 q0 q8
  rintro r w3 ⟨k3, ⟨_, v3, rfl, ho3, _⟩ | ⟨e, _⟩⟩
  ·obtain ⟨a3, c3, rfl, hb3⟩ := ho3.bs (by have := b1.1; omega)
   have hl3 := b1.1
   obtain ⟨a3', c3', e3, hlc, _, _⟩ := ho3.shape (by omega)
   have A1 := decode_any w3 a3 (encB g1).length c3 (encB g1) hb3 (by cases e3; exact hlc)
   have hd1 := d1
   have hd2 := d2
   have he1 := b1.2.1
   have he2 := b1.2.2
   have H3 : Hid (Kp w2 w3) := k3
   clear k3 ho3 hb3 e3 hlc
   rw [hl3] at A1 ⊢
   clear hl3
   go_wp2_with fail
   go_at_call 11
   refine A1.mono ?_
   clear A1
   rintro r w4 ⟨k4, hr⟩
   rcases hr with ⟨e, p, he, _⟩ | ⟨_, he, _⟩ | ⟨_, _, u, rfl, hcf⟩
   ·rw [he1] at he; cases he
   ·exact absurd he2 he
   ·clear he1 he2
    obtain ⟨_, ca, cc, wa, wc, sa, sc, qa, qc, rfl, _, hws, _, _⟩ := hcf
    generalize decG (encB g1) = gg at *
    unfold cfV
    rw [hd1]
    rw [hd2] at hws
    obtain ⟨_, hws⟩ := hws
    rcases hws with e | ⟨vb, vo, rfl, _, hws⟩
    ·cases e
    ·have hw0 := (hws 0 (by simp)).1
     have x0 := hw0 0 _ rfl
     have x1 := hw0 1 _ rfl
     have x2 := hw0 2 _ rfl
     simp only [Nat.zero_mul, Nat.add_zero, List.getElem_cons_zero] at x0 x1 x2
     have y0 := (cells_at (Kp.heap (Kp.trans H3.out k4) H2.out.2.1) 0).1
     have y1 := (cells_at (Kp.heap (Kp.trans H3.out k4) H2.out.2.1) 1).1
     have y2 := (cells_at (Kp.heap (Kp.trans H3.out k4) H2.out.2.1) 2).1
     have y9 := (cells_at (Kp.heap (Kp.trans H3.out k4) H2.out.2.2) 9).1
     simp only [List.getElem?_toArray, List.getElem?_cons_zero, List.getElem?_cons_succ] at y0 y1 y2 y9
     have HK : Hid (Kp w w4) := Kp.trans HK1.out (Kp.trans H2.out.1 (Kp.trans H3.out k4))
     clear hw0 hws hd1 hd2 k4 H3 H2 HK1
     go_upto_region 7 with fail
     have kZ := Kp.al w4 (.cells #[.int .i64 gg.m.pg, .int .u32 gg.m.ob, .int .i64 gg.m.op, .int .i64 gg.m.st, .int .i64 gg.m.wy, .int .i64 gg.m.li, .int .i64 gg.m.sl, .int .u64 gg.m.mj, .slice ca gg.cs.length cc, .slice (some ⟨vb, vo, none⟩) 1 wc, .slice sa gg.ss.length sc, .slice qa gg.qs.length qc] 31)
     have z9 := (cells_at (heap_alloc_new w4 (.cells #[.int .i64 gg.m.pg, .int .u32 gg.m.ob, .int .i64 gg.m.op, .int .i64 gg.m.st, .int .i64 gg.m.wy, .int .i64 gg.m.li, .int .i64 gg.m.sl, .int .u64 gg.m.mj, .slice ca gg.cs.length cc, .slice (some ⟨vb, vo, none⟩) 1 wc, .slice sa gg.ss.length sc, .slice qa gg.qs.length qc] 31)) 9).1
     simp only [List.getElem?_toArray, List.getElem?_cons_zero, List.getElem?_cons_succ] at z9
     obtain ⟨w5, hw5⟩ : ∃ w5, w5 = w4.alloc (.cells #[.int .i64 gg.m.pg, .int .u32 gg.m.ob, .int .i64 gg.m.op, .int .i64 gg.m.st, .int .i64 gg.m.wy, .int .i64 gg.m.li, .int .i64 gg.m.sl, .int .u64 gg.m.mj, .slice ca gg.cs.length cc, .slice (some ⟨vb, vo, none⟩) 1 wc, .slice sa gg.ss.length sc, .slice qa gg.qs.length qc] 31) := ⟨_, rfl⟩
     rw [← hw5] at kZ z9 ⊢
     clear hw5
     have x0' := kZ.cell x0
     have x1' := kZ.cell x1
     have x2' := kZ.cell x2
     have y0' := kZ.cell y0
     have y1' := kZ.cell y1
     have y2' := kZ.cell y2
     have y9' := kZ.cell y9
     have HK5 : ∀ m, Hid (Kp w (w5.drewN m)) := fun m => Kp.trans HK.out (Kp.trans kZ (Kp.drewN w5 m))
     clear x0 x1 x2 y0 y1 y2 y9 kZ HK
     go_quiet (fail)
     go_wp2
     go_ret
     exact ⟨rfl, (HK5 _).out⟩
  ·rw [ok1] at e; cases e
 ·rw [ok0] at e; cases e
end Go.Proofs.YtknlpjcdemijgaaGreat
