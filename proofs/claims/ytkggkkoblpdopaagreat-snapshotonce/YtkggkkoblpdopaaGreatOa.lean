import Derived.Test.YtkggkkoblpdopaaGreatSme
import Derived.Test.YtkggkkoblpdopaaGreatYg
import Derived.Test.YtkggkkoblpdopaaGreatYi
namespace Go.Proofs.YtkggkkoblpdopaaGreat
open Go.ChangeShapes Go.WideShapes Go.ChangeAt Go.RowKit
set_option linter.unusedVariables false
theorem IsSt.one {w : World} {cs : Array Value} {z : Ste} (h : IsSt w (.agg cs) z) : cs.size = 44 ∧ cs.all (·.oneCell') = true := by
  obtain ⟨_, h2, ba, bc, p1, q1, p2, q2, p3, q3, p4, q4, p5, q5, p6, q6, p7, q7, e, _⟩ := h
  simp only [Value.agg.injEq] at e
  subst e
  refine ⟨by simp [steC, Gi.len h2], ?_⟩
  simp [steC, Gi.cells, Value.oneCell']
set_option maxRecDepth 100000 in
set_option maxHeartbeats 4000000 in
theorem once_walk (w : World) (a : Option Addr) (len cap : Nat) (bs : List Int) (hB : Bs w a len bs) (hlc : len ≤ cap) :
    Calls Tryz.prog 4 #[.slice a len cap] w fun r w' => r = .returned (.bool true) ∧ Below w.heap.size w w' := by
  have hln := hB.1
  have hle := hB.2.1
  have hrg : rng bs := hB.2.2.1
  have HB : Hid (Bs w a len bs ∧ rng bs ∧ bs.length = len) := ⟨hB, hrg, hln⟩
  clear hB hrg hln
  go_enter Tryz.func4, Tryz.ntmps4
  go_wp2_with fail
  go_at_call 8
  refine (known_any w).mono ?_
  rintro r w1 ⟨rfl, k1⟩
  have A1 := decode_full w1 a len cap bs (HB.out.1.chg k1 (by simp)) hlc
  have H1 : Hid (Kp w w1) := k1
  clear k1
  go_wp2_with fail
  go_at_call 10
  refine A1.mono ?_
  clear A1
  rintro r w2 ⟨k2, hr⟩
  have hT := heap_alloc_new w2 (.cells zC 36)
  have kT : ∀ cs, Kp w2 ((w2.alloc (.cells zC 36)).setRow w2.heap.size cs) := fun cs => Chg.setRow (Kp.al w2 (.cells zC 36)) (.inr (Nat.le_refl _)) cs
  rcases hr with ⟨e, he, rfl⟩ | ⟨he, ⟨he2, rfl⟩ | ⟨he2, cs, rfl, hst⟩⟩
  · have hne := opnE_ne he
    have hen : e = 230 ∨ e = 231 := by
      unfold opnE at he
      repeat' split at he
      all_goals first | (cases he; omega) | cases he
    have HK : Hid (Kp w ((w2.alloc (.cells zC 36)).setRow w2.heap.size zC)) := Kp.trans H1.out (Kp.trans k2 (kT zC))
    clear k2 H1 he kT
    rcases hen with rfl | rfl
    · go_wp2_with (refine wpList_store_row rfl 36 (.tmp 4) (.tmp 13) rfl w2.heap.size zC rfl rfl 36 zC hT size36 rfl (by kernel_rfl) ?_)
      go_ret
      exact ⟨rfl, Chg.below HK.out (Nat.le_refl _) (by simp)⟩
    · go_wp2_with (refine wpList_store_row rfl 36 (.tmp 4) (.tmp 13) rfl w2.heap.size zC rfl rfl 36 zC hT size36 rfl (by kernel_rfl) ?_)
      go_ret
      exact ⟨rfl, Chg.below HK.out (Nat.le_refl _) (by simp)⟩
  · have HK : Hid (Kp w ((w2.alloc (.cells zC 36)).setRow w2.heap.size zC)) := Kp.trans H1.out (Kp.trans k2 (kT zC))
    clear k2 H1 he he2 kT
    go_wp2_with (refine wpList_store_row rfl 36 (.tmp 4) (.tmp 13) rfl w2.heap.size zC rfl rfl 36 zC hT size36 rfl (by kernel_rfl) ?_)
    go_ret
    exact ⟨rfl, Chg.below HK.out (Nat.le_refl _) (by simp)⟩
  · obtain ⟨o1, o2⟩ := once_enc HB.out.2.1 he he2
    obtain ⟨hsz, hone⟩ := hst.one
    have k3 := kT cs
    have hX := setRow_heap (w2.alloc (.cells zC 36)) w2.heap.size _ cs 36 _ hT
    have A1 := encode_any ((w2.alloc (.cells zC 36)).setRow w2.heap.size cs) _ (decG bs) (hst.kp k3)
    generalize decG bs = gg at *
    have HK : Hid (Kp w ((w2.alloc (.cells zC 36)).setRow w2.heap.size cs)) := Kp.trans H1.out (Kp.trans k2 k3)
    have HO : Hid (encOk gg = true ∧ encB gg = bs) := ⟨o1, o2⟩
    clear k3 k2 H1 he he2 kT hst o1 o2
    go_wp2_with (first | refine wpList_load_row rfl 36 (.tmp 4) rfl w2.heap.size rfl 36 cs (0, 0) _ hX Tryz.underlying36 rfl (by rw [hsz]; exact size36) ?_ | refine wpList_store_row rfl 36 (.tmp 4) (.tmp 13) rfl w2.heap.size cs rfl rfl 36 zC hT (by rw [hsz]; exact size36) (by rw [hsz]; rfl) hone ?_)
    obtain ⟨w3, hw3⟩ : ∃ w3, w3 = (w2.alloc (.cells zC 36)).setRow w2.heap.size cs := ⟨_, rfl⟩
    rw [← hw3] at A1 hX HK ⊢
    clear hw3 hT
    go_at_call 9
    refine A1.mono ?_
    clear A1
    rintro r w4 ⟨k4, ⟨_, v4, rfl, ho4, _⟩ | ⟨ef, _⟩⟩
    · rw [HO.out.2] at ho4
      have hln := HB.out.2.2
      obtain ⟨a4, c4, rfl, hb4⟩ := ho4.bs (by omega)
      have A1 := same_eq w4 a a4 len cap c4 bs bs (HB.out.1.chg (Kp.trans HK.out k4) (by simp)) (by rw [← hln]; exact hb4)
      have hsb : sameB bs bs = true := by unfold sameB; simp
      rw [hsb] at A1
      have HK4 : Hid (Kp w w4) := Kp.trans HK.out k4
      rw [hln]
      clear k4 ho4 hb4 hsb HK hX hone hsz HO hln
      go_wp2_with fail
      go_at_call 11
      refine A1.mono ?_
      clear A1
      rintro r w5 ⟨rfl, k5⟩
      have HK5 : Hid (Kp w w5) := Kp.trans HK4.out k5
      clear k5 HK4
      go_wp2
      go_ret
      exact ⟨rfl, Chg.below HK5.out (Nat.le_refl _) (by simp)⟩
    · rw [HO.out.1] at ef; cases ef
end Go.Proofs.YtkggkkoblpdopaaGreat
