import Derived.Test.YtknlpjcdemijgaaGreatSme
namespace Go.Proofs.YtknlpjcdemijgaaGreat
open Go.ChangeShapes Go.WideShapes Go.ChangeAt Go.RowKit
set_option linter.unusedVariables false
set_option maxRecDepth 100000 in
set_option maxHeartbeats 4000000 in
theorem once_walk (w : World) (a : Option Addr) (len cap : Nat) (bs : List Int) (hB : Bs w a len bs) (hlc : len ≤ cap) :
    Calls Tryz.prog 4 #[.slice a len cap] w fun r w' => r = .returned (.bool true) ∧ Below w.heap.size w w' := by
  have hln := hB.1
  have hle := hB.2.1
  have hrg : rng bs := hB.2.2.1
  have HB : Hid (Bs w a len bs) := hB
  clear hB
  go_enter Tryz.func4, Tryz.ntmps4
  go_wp2_with fail
  go_at_call 9
  refine (known_any w).mono ?_
  rintro r w1 ⟨rfl, k1⟩
  have A1 := decode_any w1 a len cap bs (HB.out.chg k1 (by simp)) hlc
  have H1 : Hid (Kp w w1) := k1
  clear k1
  go_wp2_with fail
  go_at_call 11
  refine A1.mono ?_
  clear A1
  rintro r w2 ⟨k2, hr⟩
  rcases hr with ⟨e, p, he, rfl⟩ | ⟨he, he2, rfl⟩ | ⟨he, he2, u, rfl, hcf⟩
  · obtain ⟨p1, p2⟩ := opn_place he
    have hne := opnE_ne he
    have p2' : p ≤ (len : Int) := by omega
    have HK : Hid (Kp w (w2.alloc (.cells zC 31))) := Kp.trans H1.out (Kp.trans k2 (Kp.al _ _))
    clear k2 H1 he p2
    go_wp2
    go_ret
    exact ⟨rfl, Chg.below HK.out (Nat.le_refl _) (by simp)⟩
  · obtain ⟨p1, p2⟩ := (dec_place hrg he he2).resolve_right (by omega)
    generalize wrap64 (12 + (decS bs).flaw) = p at *
    have p2' : p ≤ (len : Int) := by omega
    have HK : Hid (Kp w (w2.alloc (.cells zC 31))) := Kp.trans H1.out (Kp.trans k2 (Kp.al _ _))
    clear k2 H1 he he2 p2
    go_wp2
    go_ret
    exact ⟨rfl, Chg.below HK.out (Nat.le_refl _) (by simp)⟩
  · obtain ⟨o1, o2⟩ := once_enc hrg he he2
    have hcf0 := hcf
    obtain ⟨_, ca, cc, wa, wc, sa, sc, qa, qc, hu, _, _, _, _⟩ := hcf
    generalize decG bs = gg at *
    subst hu
    unfold cfV at hcf0 ⊢
    obtain ⟨w3, hw3⟩ : ∃ w3, w3 = w2.alloc (.cells #[.int .i64 gg.m.pg, .int .u32 gg.m.ob, .int .i64 gg.m.op, .int .i64 gg.m.st, .int .i64 gg.m.wy, .int .i64 gg.m.li, .int .i64 gg.m.sl, .int .u64 gg.m.mj, .slice ca gg.cs.length cc, .slice wa gg.ws.length wc, .slice sa gg.ss.length sc, .slice qa gg.qs.length qc] 31) := ⟨_, rfl⟩
    have k3 : Kp w2 w3 := by rw [hw3]; exact Kp.al _ _
    have A1 := encode_any w3 _ gg (hcf0.keep (Keep.of k3 (fun _ _ e => e)) k3.size)
    have HK : Hid (Kp w w3) := Kp.trans H1.out (Kp.trans k2 k3)
    clear hcf0 k3 k2 H1 he he2
    go_wp2_with fail
    rw [← hw3]
    clear hw3
    go_at_call 10
    refine A1.mono ?_
    clear A1
    rintro r w4 ⟨k4, ⟨_, v4, rfl, ho4, _⟩ | ⟨ef, _⟩⟩
    · rw [o2] at ho4
      obtain ⟨a4, c4, rfl, hb4⟩ := ho4.bs (by omega)
      have A1 := same_eq w4 a a4 len cap c4 bs bs (HB.out.chg (Kp.trans HK.out k4) (by simp)) (by rw [← hln]; exact hb4)
      have hsb : sameB bs bs = true := by unfold sameB; simp
      rw [hsb] at A1
      have HK4 : Hid (Kp w w4) := Kp.trans HK.out k4
      rw [hln]
      clear k4 ho4 hb4 o2 hsb HK
      go_wp2_with fail
      go_at_call 12
      refine A1.mono ?_
      clear A1
      rintro r w5 ⟨rfl, k5⟩
      have HK5 : Hid (Kp w w5) := Kp.trans HK4.out k5
      clear k5 HK4
      go_wp2
      go_ret
      exact ⟨rfl, Chg.below HK5.out (Nat.le_refl _) (by simp)⟩
    · rw [o1] at ef; cases ef
end Go.Proofs.YtknlpjcdemijgaaGreat
