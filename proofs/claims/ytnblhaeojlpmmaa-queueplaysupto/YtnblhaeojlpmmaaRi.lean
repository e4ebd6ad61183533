import Derived.Test.YtnblhaeojlpmmaaRh
import Derived.Test.YtnblhaeojlpmmaaQf
namespace Go.Proofs.Ytnblhaeojlpmmaa
open Go.ChangeShapes Go.WideShapes Go.ChangeAt Go.RowKit
set_option linter.unusedVariables false
theorem ld_no1 {d : QD} {x : SV} (h : msB d.sz x.lq = false) : ldB d x = false := by unfold ldB; rw [h]; simp
theorem ld_no2 {d : QD} {x : SV} (h : msB d.sz x.ls = false) : ldB d x = false := by unfold ldB; rw [h]; simp
def addv (ac rc q t lo : Int) (n1 n2 : Nat) : Bool := decide (q = (n1 : Int)) && decide (t = (n2 : Int)) && wiB rc 0 1152921504606846976 && wiB lo 0 1152921504606846976 && decide (ac ≤ 1152921504606846976) && decide (ac = rc + q + t + lo)
theorem ld_yes {d : QD} {x : SV} (h1 : msB d.sz x.lq = true) (h2 : msB d.sz x.ls = true) : ldB d x = (fitB d x.lq.length x.ls.length x.lo && addv x.ac x.rc x.q x.t x.lo x.lq.length x.ls.length) := by
  unfold ldB
  rw [h1, h2]
  simp only [Bool.and_true]
  rfl
theorem addv_no {ac rc q t lo : Int} {n1 n2 : Nat} (h : q ≠ (n1 : Int) ∨ t ≠ (n2 : Int) ∨ rc < 0 ∨ lo < 0 ∨ 1152921504606846976 < rc ∨ 1152921504606846976 < lo ∨ 1152921504606846976 < ac ∨ ac ≠ rc + q + t + lo) : addv ac rc q t lo n1 n2 = false := by
  cases hr : addv ac rc q t lo n1 n2 with
  | false => rfl
  | true =>
    unfold addv wiB at hr
    simp only [Bool.and_eq_true, decide_eq_true_eq] at hr
    omega
theorem addv_yes {ac rc lo : Int} {n1 n2 : Nat} (h3 : 0 ≤ rc) (h4 : 0 ≤ lo) (h5 : rc ≤ 1152921504606846976) (h6 : lo ≤ 1152921504606846976) (h7 : ac ≤ 1152921504606846976) : addv ac rc (n1 : Int) (n2 : Int) lo n1 n2 = decide (ac = rc + (n1 : Int) + (n2 : Int) + lo) := by
  unfold addv wiB
  simp [h3, h4, h5, h6, h7]
set_option maxHeartbeats 16000000 in
set_option maxRecDepth 10000 in
theorem takes_any (w : World) (F : Nat) (vq vs : Value) (s : QS) (h : IsR w F vq vs s) (x : SV) (hx : x.rd w) :
    Calls Try.prog 53 #[.pointer (some ⟨F, 0, none⟩), .agg #[.int .i64 x.ac, .int .i64 x.rc, .int .i64 x.q, .int .i64 x.t, .int .i64 x.lo, x.vq, x.vs]] w fun e w' => e = .returned (.bool (ldB s.d x)) ∧ Kp w w' := by
  obtain ⟨ac, rc, q, t, lo, xq, xs, lq, ls⟩ := x
  obtain ⟨a1, p1, h1⟩ := hx.hq.vshape
  obtain ⟨a2, p2, h2⟩ := hx.hs.vshape
  replace h1 : xq = .slice a1 lq.length p1 := h1
  replace h2 : xs = .slice a2 ls.length p2 := h2
  subst h1
  subst h2
  have l1 := hx.hq.ln
  have l2 := hx.hs.ln
  have hq := hx.hq
  have hs := hx.hs
  simp only at *
  clear hx
  obtain ⟨r, hr⟩ : ∃ r, ldB s.d ⟨ac, rc, q, t, lo, .slice a1 lq.length p1, .slice a2 ls.length p2, lq, ls⟩ = r := ⟨_, rfl⟩
  rw [hr]
  have kA := Kp.al w (.cells #[.int .i64 ac, .int .i64 rc, .int .i64 q, .int .i64 t, .int .i64 lo, .slice a1 lq.length p1, .slice a2 ls.length p2] 64)
  have hb := heap_alloc_new w (.cells #[.int .i64 ac, .int .i64 rc, .int .i64 q, .int .i64 t, .int .i64 lo, .slice a1 lq.length p1, .slice a2 ls.length p2] 64)
  have hF := (h.kp kA).c
  have HL1 : Hid (RdL (w.alloc (.cells #[.int .i64 ac, .int .i64 rc, .int .i64 q, .int .i64 t, .int .i64 lo, .slice a1 lq.length p1, .slice a2 ls.length p2] 64)) (.slice a1 lq.length p1) lq) := hq.kp kA
  have HL2 : Hid (RdL (w.alloc (.cells #[.int .i64 ac, .int .i64 rc, .int .i64 q, .int .i64 t, .int .i64 lo, .slice a1 lq.length p1, .slice a2 ls.length p2] 64)) (.slice a2 ls.length p2) ls) := hs.kp kA
  have HW : Hid (Kp w (w.alloc (.cells #[.int .i64 ac, .int .i64 rc, .int .i64 q, .int .i64 t, .int .i64 lo, .slice a1 lq.length p1, .slice a2 ls.length p2] 64))) := kA
  clear h hq hs kA
  generalize s.d = d at *
  have HR : Hid (ldB d ⟨ac, rc, q, t, lo, .slice a1 lq.length p1, .slice a2 ls.length p2, lq, ls⟩ = r) := hr
  clear hr
  go_enter Try.func53, Try.ntmps53
  go_wp2_with fail
  generalize w.alloc (.cells #[.int .i64 ac, .int .i64 rc, .int .i64 q, .int .i64 t, .int .i64 lo, .slice a1 lq.length p1, .slice a2 ls.length p2] 64) = W at *
  generalize w.heap.size = N at *
  have HF2 : Hid (W.cell? ⟨F, 2, none⟩ = some (.int .i64 d.sz)) := hF.2.2.1
  have HFn : Hid (W.cell? ⟨F, 3, none⟩ = some (.int .i64 d.de) ∧ W.cell? ⟨F, 4, none⟩ = some (.int .i64 d.qu) ∧ W.cell? ⟨F, 5, none⟩ = some (.bool d.fl)) := ⟨hF.2.2.2.1, hF.2.2.2.2.1, hF.2.2.2.2.2.1⟩
  have HB5 : Hid (W.cell? ⟨N, 5, none⟩ = some (.slice a1 lq.length p1)) := (cells_at hb 5).1
  have HB6 : Hid (W.cell? ⟨N, 6, none⟩ = some (.slice a2 ls.length p2)) := (cells_at hb 6).1
  have HBn : Hid (W.cell? ⟨N, 0, none⟩ = some (.int .i64 ac) ∧ W.cell? ⟨N, 1, none⟩ = some (.int .i64 rc) ∧ W.cell? ⟨N, 2, none⟩ = some (.int .i64 q) ∧ W.cell? ⟨N, 3, none⟩ = some (.int .i64 t) ∧ W.cell? ⟨N, 4, none⟩ = some (.int .i64 lo)) := ⟨(cells_at hb 0).1, (cells_at hb 1).1, (cells_at hb 2).1, (cells_at hb 3).1, (cells_at hb 4).1⟩
  clear hF hb
  go_loopw [5, 6] (fun s5 s6 wz => ∃ i : Nat, s5 = .int .i64 i ∧ i ≤ lq.length ∧ Hid (Kp W wz ∧ msB d.sz (lq.take i) = true)) (fun s5 _ _ => lq.length - nI s5)
  case atStart => exact ⟨0, rfl, by omega, Kp.refl _, rfl⟩
  case round =>
    obtain ⟨i, rfl, hi, HK⟩ := hrel
    have y5 : wr.cell? ⟨N, 5, none⟩ = some (.slice a1 lq.length p1) := HK.out.1.cell HB5.out
    by_cases hlt : i < lq.length
    · have hz : (i : Int) < (lq.length : Int) := by omega
      have hrd := HL1.out.kp HK.out.1
      obtain ⟨a9, c9, e9, hx⟩ := hrd.ex
      have hB := hrd.b lq[i] (List.getElem_mem hlt)
      simp only [Value.slice.injEq, true_and] at e9
      obtain ⟨rfl, rfl⟩ := e9
      rcases hx with rfl | ⟨b, o, rfl, hc⟩
      · simp at hlt
      obtain ⟨x0, x1⟩ := hc i hlt
      obtain ⟨ma, mc, hm⟩ := hB.vshape
      have hbl := hB.len
      have e1 : msB d.sz (lq.take (i + 1)) = (decide ((lq[i].bs.length : Int) ≤ d.sz) && decide (lq[i].bs.length % 4 = 0)) := by
        rw [← List.take_append_getElem hlt]
        unfold msB
        rw [List.all_append]
        have := HK.out.2
        unfold msB at this
        rw [this]
        simp
      have e2 : (decide ((lq[i].bs.length : Int) ≤ d.sz) && decide (lq[i].bs.length % 4 = 0)) = false → msB d.sz lq = false := fun hf => by
        unfold msB
        rw [List.all_eq_false]
        exact ⟨lq[i], List.getElem_mem hlt, by rw [hf]; simp⟩
      have y2 : wr.cell? ⟨F, 2, none⟩ = some (.int .i64 d.sz) := HK.out.1.cell HF2.out
      have hck := check_any wr F d.sz y2 lq[i].v lq[i].bs hB
      have HE : Hid ((msB d.sz (lq.take (i + 1)) = (decide ((lq[i].bs.length : Int) ≤ d.sz) && decide (lq[i].bs.length % 4 = 0))) ∧ ((decide ((lq[i].bs.length : Int) ≤ d.sz) && decide (lq[i].bs.length % 4 = 0)) = false → msB d.sz lq = false)) := ⟨e1, e2⟩
      rw [hm] at x0 hck
      clear hm hc hB e1 e2 hrd y2
      generalize lq[i].bs.length = nb at *
      generalize lq[i].tk = tk at *
      go_upto_region 4 with fail
      go_wp2_with fail
      go_at_call 46
      refine hck.mono ?_
      rintro e w3 ⟨rfl, rfl⟩
      clear hck
      by_cases g1 : d.sz < (nb : Int)
      · have ge : ckE d.sz nb = 172 := by unfold ckE; rw [if_pos g1]
        rw [ge]
        go_wp2_with fail
        go_ret
        exact ⟨by rw [← HR.out, ld_no1 (HE.out.2 (by simp; omega))]; rfl, HW.out.trans HK.out.1⟩
      · by_cases g2 : nb % 4 = 0
        · have ge : ckE d.sz nb = 0 := by unfold ckE; rw [if_neg g1, if_neg (by simpa using g2)]
          rw [ge]
          go_wp2_with fail
          refine ⟨⟨i + 1, by go_num, by omega, HK.out.1, ?_⟩, by simp [nI]; omega⟩
          rw [HE.out.1]; simp; omega
        · have ge : ckE d.sz nb = 170 := by unfold ckE; rw [if_neg g1, if_pos g2]
          rw [ge]
          go_wp2_with fail
          go_ret
          exact ⟨by rw [← HR.out, ld_no1 (HE.out.2 (by simp; omega))]; rfl, HW.out.trans HK.out.1⟩
    · have hz : ¬ (i : Int) < (lq.length : Int) := by omega
      have he : lq.take i = lq := List.take_of_length_le (by omega)
      rw [he] at HK
      have HM1 : Hid (msB d.sz lq = true) := HK.out.2
      have HK1 : Hid (Kp W wr) := HK.out.1
      clear HK
      go_wp2_with fail
      go_loopw [7, 8] (fun s7 s8 wz => ∃ i : Nat, s7 = .int .i64 i ∧ i ≤ ls.length ∧ Hid (Kp W wz ∧ msB d.sz (ls.take i) = true)) (fun s7 _ _ => ls.length - nI s7)
      case atStart => exact ⟨0, rfl, by omega, HK1.out, rfl⟩
      case round =>
        clear HK1
        obtain ⟨i, rfl, hi, HK⟩ := hrel
        have y6 : wr.cell? ⟨N, 6, none⟩ = some (.slice a2 ls.length p2) := HK.out.1.cell HB6.out
        by_cases hlt : i < ls.length
        · have hz : (i : Int) < (ls.length : Int) := by omega
          have hrd := HL2.out.kp HK.out.1
          obtain ⟨a9, c9, e9, hx⟩ := hrd.ex
          have hB := hrd.b ls[i] (List.getElem_mem hlt)
          simp only [Value.slice.injEq, true_and] at e9
          obtain ⟨rfl, rfl⟩ := e9
          rcases hx with rfl | ⟨b, o, rfl, hc⟩
          · simp at hlt
          obtain ⟨x0, x1⟩ := hc i hlt
          obtain ⟨ma, mc, hm⟩ := hB.vshape
          have hbl := hB.len
          have e1 : msB d.sz (ls.take (i + 1)) = (decide ((ls[i].bs.length : Int) ≤ d.sz) && decide (ls[i].bs.length % 4 = 0)) := by
            rw [← List.take_append_getElem hlt]
            unfold msB
            rw [List.all_append]
            have := HK.out.2
            unfold msB at this
            rw [this]
            simp
          have e2 : (decide ((ls[i].bs.length : Int) ≤ d.sz) && decide (ls[i].bs.length % 4 = 0)) = false → msB d.sz ls = false := fun hf => by
            unfold msB
            rw [List.all_eq_false]
            exact ⟨ls[i], List.getElem_mem hlt, by rw [hf]; simp⟩
          have y2 : wr.cell? ⟨F, 2, none⟩ = some (.int .i64 d.sz) := HK.out.1.cell HF2.out
          have hck := check_any wr F d.sz y2 ls[i].v ls[i].bs hB
          have HE : Hid ((msB d.sz (ls.take (i + 1)) = (decide ((ls[i].bs.length : Int) ≤ d.sz) && decide (ls[i].bs.length % 4 = 0))) ∧ ((decide ((ls[i].bs.length : Int) ≤ d.sz) && decide (ls[i].bs.length % 4 = 0)) = false → msB d.sz ls = false)) := ⟨e1, e2⟩
          rw [hm] at x0 hck
          clear hm hc hB e1 e2 hrd y2
          generalize ls[i].bs.length = nb at *
          generalize ls[i].tk = tk at *
          go_upto_region 10 with fail
          go_wp2_with fail
          go_at_call 46
          refine hck.mono ?_
          rintro e w3 ⟨rfl, rfl⟩
          clear hck
          by_cases g1 : d.sz < (nb : Int)
          · have ge : ckE d.sz nb = 172 := by unfold ckE; rw [if_pos g1]
            rw [ge]
            go_wp2_with fail
            go_ret
            exact ⟨by rw [← HR.out, ld_no2 (HE.out.2 (by simp; omega))]; rfl, HW.out.trans HK.out.1⟩
          · by_cases g2 : nb % 4 = 0
            · have ge : ckE d.sz nb = 0 := by unfold ckE; rw [if_neg g1, if_neg (by simpa using g2)]
              rw [ge]
              go_wp2_with fail
              refine ⟨⟨i + 1, by go_num, by omega, HK.out.1, ?_⟩, by simp [nI]; omega⟩
              rw [HE.out.1]; simp; omega
            · have ge : ckE d.sz nb = 170 := by unfold ckE; rw [if_neg g1, if_pos g2]
              rw [ge]
              go_wp2_with fail
              go_ret
              exact ⟨by rw [← HR.out, ld_no2 (HE.out.2 (by simp; omega))]; rfl, HW.out.trans HK.out.1⟩
        · have hz : ¬ (i : Int) < (ls.length : Int) := by omega
          have he : ls.take i = ls := List.take_of_length_le (by omega)
          rw [he] at HK
          have HK2 : Hid (Kp W wr) := HK.out.1
          have HR2 : Hid ((fitB d lq.length ls.length lo && addv ac rc q t lo lq.length ls.length) = r) := by
            have h1 := ld_yes (x := ⟨ac, rc, q, t, lo, .slice a1 lq.length p1, .slice a2 ls.length p2, lq, ls⟩) HM1.out HK.out.2
            have h2 := HR.out
            rw [h1] at h2
            exact h2
          clear HK
          have y5 : wr.cell? ⟨N, 5, none⟩ = some (.slice a1 lq.length p1) := HK2.out.cell HB5.out
          have z0 : wr.cell? ⟨N, 0, none⟩ = some (.int .i64 ac) := HK2.out.cell HBn.out.1
          have z1 : wr.cell? ⟨N, 1, none⟩ = some (.int .i64 rc) := HK2.out.cell HBn.out.2.1
          have z2 : wr.cell? ⟨N, 2, none⟩ = some (.int .i64 q) := HK2.out.cell HBn.out.2.2.1
          have z3 : wr.cell? ⟨N, 3, none⟩ = some (.int .i64 t) := HK2.out.cell HBn.out.2.2.2.1
          have z4 : wr.cell? ⟨N, 4, none⟩ = some (.int .i64 lo) := HK2.out.cell HBn.out.2.2.2.2
          have c3 : wr.cell? ⟨F, 3, none⟩ = some (.int .i64 d.de) := HK2.out.cell HFn.out.1
          have c4 : wr.cell? ⟨F, 4, none⟩ = some (.int .i64 d.qu) := HK2.out.cell HFn.out.2.1
          have c5 : wr.cell? ⟨F, 5, none⟩ = some (.bool d.fl) := HK2.out.cell HFn.out.2.2
          clear HM1 HR HL1 HL2 HB5 HB6 HBn HFn HF2 he
          go_upto_region 13 with fail
          clear hz hi
          generalize lq.length = n1 at *
          generalize ls.length = n2 at *
          obtain ⟨dw, dr, dz, de, qu, fl⟩ := d
          simp only at *
          unfold fitB at HR2
          simp only at HR2
          have hw : IntKind.i64.wrap ((n1 : Int) + (n2 : Int)) = (n1 : Int) + (n2 : Int) := w64 (by omega) (by omega)
          by_cases f1 : de < (n1 : Int)
          case pos =>
            have e1 : decide (de < (n1 : Int)) = true := by simp [f1]
            cases fl with
            | true =>
              go_wp2_with fail
              go_ret
              refine ⟨?_, HW.out.trans HK2.out⟩
              rw [← HR2.out]
              have : ¬ (n1 : Int) + (n2 : Int) ≤ de := by omega
              simp [this]
            | false =>
              go_wp2_with fail
              go_ret
              refine ⟨?_, HW.out.trans HK2.out⟩
              rw [← HR2.out]
              have : ¬ (n1 : Int) ≤ de := by omega
              simp [this]
          have o1 : decide (de < (n1 : Int)) = false := by simp; omega
          cases fl with
          | true =>
            by_cases f2 : de < (n1 : Int) + (n2 : Int)
            case pos =>
              have e1 : decide (de < (n1 : Int) + (n2 : Int)) = true := by simp [f2]
              go_wp2_with fail
              go_ret
              refine ⟨?_, HW.out.trans HK2.out⟩
              rw [← HR2.out]
              have : ¬ (n1 : Int) + (n2 : Int) ≤ de := by omega
              simp [this]
            have o2 : decide (de < (n1 : Int) + (n2 : Int)) = false := by simp; omega
            by_cases f3 : lo = 0
            case neg =>
              have e1 : (lo != 0) = true := by simp [f3]
              go_wp2_with fail
              go_ret
              refine ⟨?_, HW.out.trans HK2.out⟩
              rw [← HR2.out]
              simp [f3]
            have o3 : (lo != 0) = false := by simp [f3]
            have HR3 : Hid (addv ac rc q t lo n1 n2 = r) := by
              have h := HR2.out
              have h1 : (n1 : Int) + (n2 : Int) ≤ de := by omega
              simp [h1, f3] at h
              rw [f3]
              exact h
            clear HR2
            by_cases k1 : q = (n1 : Int)
            case neg =>
              have e1 : (q != (n1 : Int)) = true := by simp [k1]
              go_wp2_with fail
              go_ret
              refine ⟨?_, HW.out.trans HK2.out⟩
              rw [← HR3.out]
              rw [addv_no (.inl k1)]; simp
            subst k1
            by_cases k2 : t = (n2 : Int)
            case neg =>
              have e1 : (t != (n2 : Int)) = true := by simp [k2]
              go_wp2_with fail
              go_ret
              refine ⟨?_, HW.out.trans HK2.out⟩
              rw [← HR3.out]
              rw [addv_no (.inr (.inl k2))]; simp
            subst k2
            by_cases k3 : rc < 0
            case pos =>
              have e1 : decide (rc < 0) = true := by simp [k3]
              go_wp2_with fail
              go_ret
              refine ⟨?_, HW.out.trans HK2.out⟩
              rw [← HR3.out]
              rw [addv_no (.inr (.inr (.inl k3)))]; simp
            have j3 : decide (rc < 0) = false := by simp; omega
            by_cases k4 : lo < 0
            case pos =>
              exfalso
              omega
            have j4 : decide (lo < 0) = false := by simp; omega
            by_cases k5 : 1152921504606846976 < rc
            case pos =>
              have e1 : decide (1152921504606846976 < rc) = true := by simp [k5]
              go_wp2_with fail
              go_ret
              refine ⟨?_, HW.out.trans HK2.out⟩
              rw [← HR3.out]
              rw [addv_no (.inr (.inr (.inr (.inr (.inl k5)))))]; simp
            have j5 : decide (1152921504606846976 < rc) = false := by simp; omega
            by_cases k6 : 1152921504606846976 < lo
            case pos =>
              exfalso
              omega
            have j6 : decide (1152921504606846976 < lo) = false := by simp; omega
            by_cases k7 : 1152921504606846976 < ac
            case pos =>
              have e1 : decide (1152921504606846976 < ac) = true := by simp [k7]
              go_wp2_with fail
              go_ret
              refine ⟨?_, HW.out.trans HK2.out⟩
              rw [← HR3.out]
              rw [addv_no (.inr (.inr (.inr (.inr (.inr (.inr (.inl k7)))))))]; simp
            have j7 : decide (1152921504606846976 < ac) = false := by simp; omega
            have v1 : IntKind.i64.wrap (rc + (n1 : Int)) = rc + (n1 : Int) := w64 (by omega) (by omega)
            have v2 : IntKind.i64.wrap (rc + (n1 : Int) + (n2 : Int)) = rc + (n1 : Int) + (n2 : Int) := w64 (by omega) (by omega)
            have v3 : IntKind.i64.wrap (rc + (n1 : Int) + (n2 : Int) + lo) = rc + (n1 : Int) + (n2 : Int) + lo := w64 (by omega) (by omega)
            go_wp2_with fail
            go_ret
            refine ⟨?_, HW.out.trans HK2.out⟩
            rw [← HR3.out]
            rw [addv_yes (by omega) (by omega) (by omega) (by omega) (by omega)]
            by_cases k8 : ac = rc + (n1 : Int) + (n2 : Int) + lo
            · simp [k8]; omega
            · simp [k8]; omega
          | false =>
            by_cases f2 : qu < (n2 : Int)
            case pos =>
              have e1 : decide (qu < (n2 : Int)) = true := by simp [f2]
              go_wp2_with fail
              go_ret
              refine ⟨?_, HW.out.trans HK2.out⟩
              rw [← HR2.out]
              have : ¬ (n2 : Int) ≤ qu := by omega
              simp [this]
            have o2 : decide (qu < (n2 : Int)) = false := by simp; omega
            have HR3 : Hid (addv ac rc q t lo n1 n2 = r) := by
              have h := HR2.out
              have h1 : (n1 : Int) ≤ de := by omega
              have h2 : (n2 : Int) ≤ qu := by omega
              simp [h1, h2] at h
              exact h
            clear HR2
            by_cases k1 : q = (n1 : Int)
            case neg =>
              have e1 : (q != (n1 : Int)) = true := by simp [k1]
              go_wp2_with fail
              go_ret
              refine ⟨?_, HW.out.trans HK2.out⟩
              rw [← HR3.out]
              rw [addv_no (.inl k1)]; simp
            subst k1
            by_cases k2 : t = (n2 : Int)
            case neg =>
              have e1 : (t != (n2 : Int)) = true := by simp [k2]
              go_wp2_with fail
              go_ret
              refine ⟨?_, HW.out.trans HK2.out⟩
              rw [← HR3.out]
              rw [addv_no (.inr (.inl k2))]; simp
            subst k2
            by_cases k3 : rc < 0
            case pos =>
              have e1 : decide (rc < 0) = true := by simp [k3]
              go_wp2_with fail
              go_ret
              refine ⟨?_, HW.out.trans HK2.out⟩
              rw [← HR3.out]
              rw [addv_no (.inr (.inr (.inl k3)))]; simp
            have j3 : decide (rc < 0) = false := by simp; omega
            by_cases k4 : lo < 0
            case pos =>
              have e1 : decide (lo < 0) = true := by simp [k4]
              go_wp2_with fail
              go_ret
              refine ⟨?_, HW.out.trans HK2.out⟩
              rw [← HR3.out]
              rw [addv_no (.inr (.inr (.inr (.inl k4))))]; simp
            have j4 : decide (lo < 0) = false := by simp; omega
            by_cases k5 : 1152921504606846976 < rc
            case pos =>
              have e1 : decide (1152921504606846976 < rc) = true := by simp [k5]
              go_wp2_with fail
              go_ret
              refine ⟨?_, HW.out.trans HK2.out⟩
              rw [← HR3.out]
              rw [addv_no (.inr (.inr (.inr (.inr (.inl k5)))))]; simp
            have j5 : decide (1152921504606846976 < rc) = false := by simp; omega
            by_cases k6 : 1152921504606846976 < lo
            case pos =>
              have e1 : decide (1152921504606846976 < lo) = true := by simp [k6]
              go_wp2_with fail
              go_ret
              refine ⟨?_, HW.out.trans HK2.out⟩
              rw [← HR3.out]
              rw [addv_no (.inr (.inr (.inr (.inr (.inr (.inl k6))))))]; simp
            have j6 : decide (1152921504606846976 < lo) = false := by simp; omega
            by_cases k7 : 1152921504606846976 < ac
            case pos =>
              have e1 : decide (1152921504606846976 < ac) = true := by simp [k7]
              go_wp2_with fail
              go_ret
              refine ⟨?_, HW.out.trans HK2.out⟩
              rw [← HR3.out]
              rw [addv_no (.inr (.inr (.inr (.inr (.inr (.inr (.inl k7)))))))]; simp
            have j7 : decide (1152921504606846976 < ac) = false := by simp; omega
            have v1 : IntKind.i64.wrap (rc + (n1 : Int)) = rc + (n1 : Int) := w64 (by omega) (by omega)
            have v2 : IntKind.i64.wrap (rc + (n1 : Int) + (n2 : Int)) = rc + (n1 : Int) + (n2 : Int) := w64 (by omega) (by omega)
            have v3 : IntKind.i64.wrap (rc + (n1 : Int) + (n2 : Int) + lo) = rc + (n1 : Int) + (n2 : Int) + lo := w64 (by omega) (by omega)
            go_wp2_with fail
            go_ret
            refine ⟨?_, HW.out.trans HK2.out⟩
            rw [← HR3.out]
            rw [addv_yes (by omega) (by omega) (by omega) (by omega) (by omega)]
            by_cases k8 : ac = rc + (n1 : Int) + (n2 : Int) + lo
            · simp [k8]
            · simp [k8]
end Go.Proofs.Ytnblhaeojlpmmaa
