import Derived.Test.YtibpbemenjgncaaDa
namespace Go.Proofs.Ytibpbemenjgncaa
open Go.ChangeShapes Go.WideShapes Go.ChangeAt Go.RowKit
set_option linter.unusedVariables false
theorem mayP_eq (pw sz : Int) (l : List Int) : mayP pw sz l = (decide (1 ≤ pw) && decide (pw ≤ 8) && decide (4 ≤ sz) && decide (sz ≤ 256) && decide (sz % 4 = 0) && decide (l ≠ []) && gdR pw l) := by
  unfold mayP mayR szB
  generalize decide (1 ≤ pw) = a
  generalize decide (pw ≤ 8) = b
  generalize decide (4 ≤ sz) = c
  generalize decide (sz ≤ 256) = d
  generalize decide (sz % 4 = 0) = e
  generalize decide (l ≠ []) = f
  generalize gdR pw l = g
  cases a <;> cases b <;> cases c <;> cases d <;> cases e <;> cases f <;> cases g <;> rfl
set_option maxHeartbeats 4000000 in
set_option maxRecDepth 10000 in
theorem may_any (w : World) (pw sz : Int) (v : Value) (l : List Int) (h : RdI w v l) :
    Calls Try.prog 29 #[.agg #[.int .i64 pw, .int .i64 sz, v]] w fun e w' => e = .returned (.bool (mayP pw sz l)) ∧ Kp w w' := by
  obtain ⟨a, cap, rfl, hca⟩ := h.ex
  have hlen := h.len
  have R1 := heap_alloc_new w (.cells #[.int .i64 pw, .int .i64 sz, .slice a l.length cap] 43)
  have kA := Kp.al w (.cells #[.int .i64 pw, .int .i64 sz, .slice a l.length cap] 43)
  have HK : Hid (Kp w (w.alloc (.cells #[.int .i64 pw, .int .i64 sz, .slice a l.length cap] 43)) ∧ (l = [] ∨ ∃ b o, a = some ⟨b, o, none⟩ ∧ ∀ j (h : j < l.length), (w.alloc (.cells #[.int .i64 pw, .int .i64 sz, .slice a l.length cap] 43)).cell? ⟨b, o + j, none⟩ = some (.int .i64 l[j]))) := ⟨kA, by
    rcases hca with e | ⟨b, o, e, hc⟩
    · exact .inl e
    · exact .inr ⟨b, o, e, fun j hj => kA.cell (hc j hj)⟩⟩
  have d0 : (w.alloc (.cells #[.int .i64 pw, .int .i64 sz, .slice a l.length cap] 43)).cell? ⟨w.heap.size, 0, none⟩ = some (.int .i64 pw) := (cells_at R1 0).1
  have d1 : (w.alloc (.cells #[.int .i64 pw, .int .i64 sz, .slice a l.length cap] 43)).cell? ⟨w.heap.size, 1, none⟩ = some (.int .i64 sz) := (cells_at R1 1).1
  have d2 : (w.alloc (.cells #[.int .i64 pw, .int .i64 sz, .slice a l.length cap] 43)).cell? ⟨w.heap.size, 2, none⟩ = some (.slice a l.length cap) := (cells_at R1 2).1
  clear h hca R1 kA
  have HE := mayP_eq pw sz l
  have HMP : Hid (mayP pw sz l = (decide (1 ≤ pw) && decide (pw ≤ 8) && decide (4 ≤ sz) && decide (sz ≤ 256) && decide (sz % 4 = 0) && decide (l ≠ []) && gdR pw l)) := HE
  clear HE
  go_enter Try.func29, Try.ntmps29
  go_upto_region 1 with fail
  generalize w.heap.size = N at *
  generalize w.alloc (.cells #[.int .i64 pw, .int .i64 sz, .slice a l.length cap] 43) = w1 at *
  by_cases h1 : pw < 1
  · have HM : Hid (mayP pw sz l = false) := by
      show mayP pw sz l = false
      have e : ¬ 1 ≤ pw := by omega
      rw [HMP.out]; simp [e]
    clear HMP
    go_wp2_with fail
    go_ret
    exact ⟨by rw [HM.out]; rfl, HK.out.1⟩
  by_cases h2 : 8 < pw
  · have HM : Hid (mayP pw sz l = false) := by
      show mayP pw sz l = false
      have e : ¬ pw ≤ 8 := by omega
      rw [HMP.out]; simp [e]
    clear HMP
    go_wp2_with fail
    go_ret
    exact ⟨by rw [HM.out]; rfl, HK.out.1⟩
  by_cases h3 : sz < 4
  · have HM : Hid (mayP pw sz l = false) := by
      show mayP pw sz l = false
      have e : ¬ 4 ≤ sz := by omega
      rw [HMP.out]; simp [e]
    clear HMP
    go_wp2_with fail
    go_ret
    exact ⟨by rw [HM.out]; rfl, HK.out.1⟩
  by_cases h4 : 256 < sz
  · have HM : Hid (mayP pw sz l = false) := by
      show mayP pw sz l = false
      have e : ¬ sz ≤ 256 := by omega
      rw [HMP.out]; simp [e]
    clear HMP
    go_wp2_with fail
    go_ret
    exact ⟨by rw [HM.out]; rfl, HK.out.1⟩
  by_cases h5 : sz % 4 = 0
  case neg =>
    have g5 : (sz % 4 != 0) = true := by simp [h5]
    have g5' : (sz.tmod 4 != 0) = true := by rw [Int.tmod_eq_emod_of_nonneg (by omega)]; exact g5
    have HM : Hid (mayP pw sz l = false) := by
      show mayP pw sz l = false
      rw [HMP.out]; simp [h5]
    clear HMP h5
    go_wp2_with fail
    go_ret
    exact ⟨by rw [HM.out]; rfl, HK.out.1⟩
  have g5 : (sz % 4 != 0) = false := by simp [h5]
  have g5' : (sz.tmod 4 != 0) = false := by rw [Int.tmod_eq_emod_of_nonneg (by omega)]; exact g5
  by_cases h6 : l = []
  · have HM : Hid (mayP pw sz l = false) := by
      show mayP pw sz l = false
      rw [HMP.out]; simp [h6]
    have g6 : ((l.length : Int) == 0) = true := by simp [h6]
    clear HMP h6 h5
    go_wp2_with fail
    go_ret
    exact ⟨by rw [HM.out]; rfl, HK.out.1⟩
  have g6 : ((l.length : Int) == 0) = false := by simp [h6]
  have HP : Hid (mayP pw sz l = gdR pw l) := by
    show mayP pw sz l = gdR pw l
    have e1 : 1 ≤ pw := by omega
    have e2 : pw ≤ 8 := by omega
    have e3 : 4 ≤ sz := by omega
    have e4 : sz ≤ 256 := by omega
    rw [HMP.out]
    simp [e1, e2, e3, e4, h5, h6]
  obtain ⟨b, o, rfl, hcc⟩ := HK.out.2.resolve_left h6
  have HC : Hid (∀ j (h : j < l.length), w1.cell? ⟨b, o + j, none⟩ = some (.int .i64 l[j])) := hcc
  have HK1 : Hid (Kp w w1) := HK.out.1
  clear HMP h6 h5 hcc HK
  go_wp2_with fail
  go_loopw [3] (fun s3 wr => ∃ i : Nat, s3 = .int .i64 i ∧ i ≤ l.length ∧ wr = w1 ∧ Hid (gdR pw (l.take i) = true)) (fun s3 _ => l.length - nI s3)
  case atStart => exact ⟨0, rfl, by omega, rfl, rfl⟩
  case round =>
    obtain ⟨i, rfl, hi, rfl, HG⟩ := hrel
    by_cases hlt : i < l.length
    · have hiz : (i : Int) < (l.length : Int) := by omega
      have ci := HC.out i hlt
      have hts : l.take (i + 1) = l.take i ++ [l[i]] := List.take_succ_eq_append_getElem hlt
      have HG2 : Hid (gdR pw (l.take (i + 1)) = ((decide (1 ≤ l[i]) && decide (l[i] ≤ 8) && decide (l[i] ≠ pw)) && decide (l[i] ∉ l.take i)) ∧ (gdR pw (l.take (i + 1)) = false → mayP pw sz l = false)) := by
        refine ⟨by rw [hts, gdR_snoc, HG.out]; rfl, fun h => ?_⟩
        cases hm : gdR pw l with
        | false => rw [HP.out, hm]
        | true =>
          rw [gdR_take (i + 1) hm] at h
          cases h
      have HX : Hid (∀ k (hk : k < i), l[k]'(by omega) = l[i] → l[i] ∈ l.take i) := fun k hk e => by
        rw [← e, List.mem_iff_getElem]
        exact ⟨k, by simp; omega, by simp⟩
      have HX2 : Hid (∀ k, l.take k = l.take k) := fun _ => rfl
      clear hts
      have HCk : Hid (∀ k, k < i → ∃ y, wr.cell? ⟨b, o + k, none⟩ = some (.int .i64 y) ∧ (y = l[i] → l[i] ∈ l.take i) ∧ ∀ hk : k < l.length, y = l[k]) := fun k hk => ⟨l[k]'(by omega), HC.out k (by omega), HX.out k hk, fun _ => rfl⟩
      have HMem : Hid (l[i] ∈ l.take i → ∃ k, ∃ hk : k < i, l[k]'(by omega) = l[i]) := fun hm => by
        rw [List.mem_iff_getElem] at hm
        obtain ⟨k, hk, e⟩ := hm
        simp at hk e
        exact ⟨k, by omega, e⟩
      clear HX HX2
      generalize hx : l[i] = x at *
      clear hx
      by_cases e1 : x < 1
      · have HM : Hid (mayP pw sz l = false) := HG2.out.2 (by
          have e : ¬ 1 ≤ x := by omega
          rw [HG2.out.1]; simp [e])
        clear HG2 HCk HMem HG
        go_wp2_with fail
        go_ret
        exact ⟨by rw [HM.out]; rfl, HK1.out⟩
      by_cases e2 : 8 < x
      · have HM : Hid (mayP pw sz l = false) := HG2.out.2 (by
          have e : ¬ x ≤ 8 := by omega
          rw [HG2.out.1]; simp [e])
        clear HG2 HCk HMem HG
        go_wp2_with fail
        go_ret
        exact ⟨by rw [HM.out]; rfl, HK1.out⟩
      by_cases e3 : x = pw
      · have g3 : (x == pw) = true := by simp [e3]
        have HM : Hid (mayP pw sz l = false) := HG2.out.2 (by rw [HG2.out.1]; simp [e3])
        clear HG2 HCk HMem HG e3
        go_wp2_with fail
        go_ret
        exact ⟨by rw [HM.out]; rfl, HK1.out⟩
      have g3 : (x == pw) = false := by simp [e3]
      have HG3 : Hid (gdR pw (l.take (i + 1)) = decide (x ∉ l.take i)) := by
        have e4 : 1 ≤ x := by omega
        have e5 : x ≤ 8 := by omega
        show gdR pw (l.take (i + 1)) = decide (x ∉ l.take i)
        rw [HG2.out.1]; simp [e3, e4, e5]
      clear e3
      go_wp2_with fail
      go_loopw [5] (fun s5 wz => ∃ k : Nat, s5 = .int .i64 k ∧ k ≤ i ∧ wz = wr ∧ Hid (∀ j, j < k → ∀ hj : j < l.length, l[j] ≠ x)) (fun s5 _ => i - nI s5)
      case atStart => exact ⟨0, rfl, by omega, rfl, fun j hj => by omega⟩
      case round =>
        obtain ⟨k, rfl, hk, rfl, HN⟩ := hrel
        by_cases hki : k < i
        · have hkz : (k : Int) < (i : Int) := by omega
          obtain ⟨y, cy, hy, hyl⟩ := HCk.out k hki
          by_cases exy : y = x
          · have gxy : (y == x) = true := by simp [exy]
            have hmem := hy exy
            have HM : Hid (mayP pw sz l = false) := HG2.out.2 (by rw [HG3.out]; simp [hmem])
            clear HG2 HG3 HCk HMem HG exy hy hyl hmem HN
            go_wp2_with fail
            go_ret
            exact ⟨by rw [HM.out]; rfl, HK1.out⟩
          · have gxy : (y == x) = false := by simp [exy]
            have HN2 : Hid (∀ j, j < k + 1 → ∀ hj : j < l.length, l[j] ≠ x) := fun j hj hjl => by
              by_cases ejk : j < k
              · exact HN.out j ejk hjl
              · obtain rfl : j = k := by omega
                rw [← hyl hjl]; exact exy
            clear exy hy hyl
            go_wp2_with fail
            exact ⟨⟨k + 1, by go_num, by omega, by first | rfl | trivial, HN2⟩, by simp [nI]; omega⟩
        · have hkz : ¬ (k : Int) < (i : Int) := by omega
          obtain rfl : k = i := by omega
          have HG4 : Hid (gdR pw (l.take (k + 1)) = true) := by
            show gdR pw (l.take (k + 1)) = true
            rw [HG3.out]
            simp only [decide_eq_true_eq]
            intro hm
            obtain ⟨j, hj, e⟩ := HMem.out hm
            exact HN.out j hj (by omega) e
          go_wp2_with fail
          exact ⟨⟨k + 1, by go_num, by omega, by first | rfl | trivial, HG4⟩, by simp [nI]; omega⟩
    · have hiz : ¬ (i : Int) < (l.length : Int) := by omega
      obtain rfl : i = l.length := by omega
      have HM : Hid (mayP pw sz l = true) := by
        show mayP pw sz l = true
        have := HG.out
        rw [List.take_length] at this
        rw [HP.out, this]
      go_wp2_with fail
      go_ret
      exact ⟨by rw [HM.out]; rfl, HK1.out⟩
end Go.Proofs.Ytibpbemenjgncaa
