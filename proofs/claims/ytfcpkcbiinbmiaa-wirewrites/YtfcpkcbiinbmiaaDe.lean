import Derived.Test.YtfcpkcbiinbmiaaDd
import Derived.Test.YtfcpkcbiinbmiaaSt
namespace Go.Proofs.Ytfcpkcbiinbmiaa
open Go.ChangeShapes Go.WideShapes Go.ChangeAt Go.RowKit
set_option linter.unusedVariables false
section
variable (bs : List Int) (at_ k most : Nat) (wh : Int)
theorem tk_short (h : bs.length < at_ + k) : RS.take ⟨bs, at_, 0, wh⟩ k = ([], ⟨bs, at_, 11, at_⟩) := by simp [RS.take, h]
theorem tk_ok (h : ¬ bs.length < at_ + k) : RS.take ⟨bs, at_, 0, wh⟩ k = ((bs.drop at_).take k, ⟨bs, at_ + k, 0, wh⟩) := by simp [RS.take, h]
theorem cnt_short (h : bs.length < at_ + k) : RS.counted ⟨bs, at_, 0, wh⟩ k most = ([], ⟨bs, at_, 11, at_⟩) := by
  unfold RS.counted RS.num
  rw [tk_short _ _ _ _ h]
  simp [ofLe, RS.left, RS.take]
theorem cnt_long (h : ¬ bs.length < at_ + k) (h2 : most < ofLe ((bs.drop at_).take k)) : RS.counted ⟨bs, at_, 0, wh⟩ k most = ([], ⟨bs, at_, 15, at_⟩) := by
  unfold RS.counted RS.num
  rw [tk_ok _ _ _ _ h]
  simp only [if_pos h2]
  simp [RS.fail, errOf, whOf, RS.take]
theorem cnt_much (h : ¬ bs.length < at_ + k) (h2 : ¬ most < ofLe ((bs.drop at_).take k)) (h3 : bs.length < at_ + k + ofLe ((bs.drop at_).take k)) : RS.counted ⟨bs, at_, 0, wh⟩ k most = ([], ⟨bs, at_, 11, at_⟩) := by
  unfold RS.counted RS.num
  rw [tk_ok _ _ _ _ h]
  simp only [if_neg h2]
  rw [if_pos (by simp [RS.left]; omega)]
  simp [RS.fail, errOf, whOf, RS.take]
theorem cnt_ok (h : ¬ bs.length < at_ + k) (h2 : ¬ most < ofLe ((bs.drop at_).take k)) (h3 : ¬ bs.length < at_ + k + ofLe ((bs.drop at_).take k)) : RS.counted ⟨bs, at_, 0, wh⟩ k most = ((bs.drop (at_ + k)).take (ofLe ((bs.drop at_).take k)), ⟨bs, at_ + k + ofLe ((bs.drop at_).take k), 0, wh⟩) := by
  unfold RS.counted RS.num
  rw [tk_ok _ _ _ _ h]
  simp only [if_neg h2]
  rw [if_neg (by simp [RS.left]; omega), tk_ok _ _ _ _ h3]
end
theorem IsD.setI {w : World} {R : Nat} {a : Option Addr} {cap : Nat} {s : RS} (h : IsD w R a cap s) (p : Nat) (hp : p ≤ s.bs.length) : IsD (w.setCell ⟨R, 1, none⟩ (.int .i64 p)) R a cap { s with at_ := p } :=
  h.set (chg_set w R 1 _) rfl (by rw [bd_set h.box _]; simp) hp
theorem IsD.setW {w : World} {R : Nat} {a : Option Addr} {cap : Nat} {s : RS} (h : IsD w R a cap s) (p : Int) : IsD (w.setCell ⟨R, 3, none⟩ (.int .i64 p)) R a cap { s with wh := p } :=
  h.set (chg_set w R 3 _) rfl (by rw [bd_set h.box _]; simp) h.at_le
theorem strOf_nil : strOf [] = ByteArray.empty := rfl
theorem num_le (bs : List Int) (at_ k : Nat) (hr : ∀ n ∈ bs, 0 ≤ n ∧ n ≤ 255) : ofLe ((bs.drop at_).take k) < 2 ^ (8 * k) := by
  have h1 := ofLe_lt ((bs.drop at_).take k) (fun n hn => hr n (List.mem_of_mem_drop (List.mem_of_mem_take hn)))
  exact Nat.lt_of_lt_of_le h1 (Nat.pow_le_pow_right (by omega) (by simp; omega))

theorem dtext_bad (w : World) (R : Nat) (err n : Int) (c2 : w.cell? ⟨R, 2, none⟩ = some (.int .i64 err)) (he : (err == 0) = false) :
    Calls Try.prog 78 #[.pointer (some ⟨R, 0, none⟩), .int .i64 n] w fun r w' => r = .returned (.string ByteArray.empty) ∧ w' = w := by
  go_enter Try.func78, Try.ntmps78
  go_wp2
  go_ret
  exact ⟨rfl, rfl⟩
set_option maxHeartbeats 2000000 in
set_option maxRecDepth 10000 in
theorem dtext_ok (w : World) (R : Nat) (a : Option Addr) (cap : Nat) (bs : List Int) (at_ : Nat) (wh : Int) (n : Int) (hn : n ≤ 9223372036854775807) (h : IsD w R a cap ⟨bs, at_, 0, wh⟩) :
    Calls Try.prog 78 #[.pointer (some ⟨R, 0, none⟩), .int .i64 n] w fun r w' => r = .returned (.string (strOf (RS.text ⟨bs, at_, 0, wh⟩ n).1)) ∧ IsD w' R a cap (RS.text ⟨bs, at_, 0, wh⟩ n).2 ∧ Chg w w' (fun k => k = R) := by
  have H : Hid (IsD w R a cap ⟨bs, at_, 0, wh⟩) := h
  obtain ⟨c0, c1, c2, c3, cf⟩ := h.cells
  have hal : at_ ≤ bs.length := h.at_le
  have hbl : bs.length ≤ 140737488355328 := h.bytes.2.1
  have hrg := num_le bs at_ 2 h.bytes.2.2.1
  simp only [show 2 ^ (8 * 2) = 65536 from rfl] at hrg
  simp only at c1 c2
  clear c0 c3 cf h
  by_cases h0 : n < 0
  · have e : RS.text ⟨bs, at_, 0, wh⟩ n = ([], RS.fail ⟨bs, at_, 0, wh⟩ 10 at_) := by simp [RS.text, h0]
    rw [e]
    clear e
    go_enter Try.func78, Try.ntmps78
    go_wp2_with fail
    go_at_call 73
    refine (dfail_any w R a cap ⟨bs, at_, 0, wh⟩ 10 at_ H.out).mono ?_
    rintro r w1 ⟨rfl, K⟩
    go_wp2
    go_ret
    exact ⟨rfl, K⟩
  · have e : RS.text ⟨bs, at_, 0, wh⟩ n = RS.counted ⟨bs, at_, 0, wh⟩ 2 n.toNat := by simp [RS.text, h0]
    rw [e]
    clear e
    have hN := dnum_any w R a cap ⟨bs, at_, 0, wh⟩ 2 (by omega) H.out
    unfold RS.num at hN
    by_cases h1 : bs.length < at_ + 2
    · rw [cnt_short _ _ _ _ _ h1]
      rw [tk_short _ _ _ _ h1] at hN
      simp only [ofLe] at hN
      go_enter Try.func78, Try.ntmps78
      go_wp2_with fail
      go_at_call 74
      refine hN.mono ?_
      rintro r w1 ⟨rfl, k1, k2⟩
      have d2 := k1.cells.2.2.1
      simp only at d2
      have K : Hid (IsD w1 R a cap ⟨bs, at_, 11, at_⟩ ∧ Chg w w1 (fun k => k = R)) := ⟨k1, k2⟩
      clear hN k1 k2 c1 c2
      go_wp2
      go_ret
      exact ⟨rfl, K.out⟩
    · rw [tk_ok _ _ _ _ h1] at hN
      simp only at hN
      by_cases h2 : n.toNat < ofLe ((bs.drop at_).take 2)
      · rw [cnt_long _ _ _ _ _ h1 h2]
        generalize ofLe ((bs.drop at_).take 2) = m at *
        have g1 : n < (m : Int) := by omega
        have gw : IntKind.i64.wrap (m : Int) = m := by rw [IntKind.wrap_i64]; omega
        go_enter Try.func78, Try.ntmps78
        go_wp2_with fail
        go_at_call 74
        refine hN.mono ?_
        rintro r w1 ⟨rfl, k1, k2⟩
        obtain ⟨d0, d1, d2, d3, df⟩ := k1.cells
        have d1f := df 1
        simp only at d1 d2
        have K : Hid (IsD (w1.setCell ⟨R, 1, none⟩ (.int .i64 at_)) R a cap ⟨bs, at_, 0, wh⟩ ∧ Chg w (w1.setCell ⟨R, 1, none⟩ (.int .i64 at_)) (fun k => k = R)) := ⟨k1.setI at_ hal, k2.trans (chg_set w1 R 1 _) (fun _ _ x => x)⟩
        clear hN k1 k2 c1 c2 d0 d3 df
        go_wp2_with fail
        go_at_call 73
        refine (dfail_any _ R a cap ⟨bs, at_, 0, wh⟩ 15 at_ K.out.1).mono ?_
        rintro r w2 ⟨rfl, k1, k2⟩
        have K2 : Hid (IsD w2 R a cap ⟨bs, at_, 15, at_⟩ ∧ Chg w w2 (fun k => k = R)) := ⟨by simpa [RS.fail, errOf, whOf] using k1, K.out.2.trans k2 (fun _ _ x => x)⟩
        clear k1 k2 K d1 d2 d1f
        go_wp2
        go_ret
        exact ⟨rfl, K2.out⟩
      · by_cases h3 : bs.length < at_ + 2 + ofLe ((bs.drop at_).take 2)
        · rw [cnt_much _ _ _ _ _ h1 h2 h3]
          generalize ofLe ((bs.drop at_).take 2) = m at *
          have g1 : ¬ n < (m : Int) := by omega
          have gw : IntKind.i64.wrap (m : Int) = m := by rw [IntKind.wrap_i64]; omega
          go_enter Try.func78, Try.ntmps78
          go_wp2_with fail
          go_at_call 74
          refine hN.mono ?_
          rintro r w1 ⟨rfl, k1, k2⟩
          obtain ⟨d0, d1, d2, d3, df⟩ := k1.cells
          simp only at d1 d2
          have K : Hid (IsD w1 R a cap ⟨bs, at_ + 2, 0, wh⟩ ∧ Chg w w1 (fun k => k = R)) := ⟨k1, k2⟩
          clear hN k1 k2 c1 c2 d0 d3 df
          go_wp2_with fail
          go_at_call 75
          refine (draw_short w1 R a cap ⟨bs, at_ + 2, 0, wh⟩ m (by omega) rfl h3 K.out.1).mono ?_
          rintro r w2 ⟨rfl, k1, k2⟩
          have k1' : IsD w2 R a cap ⟨bs, at_ + 2, 11, (at_ + 2 : Nat)⟩ := by simpa [RS.fail, errOf, whOf] using k1
          obtain ⟨e0, e1, e2, e3, ef⟩ := k1'.cells
          have ef1 := ef 1
          have ef3 := ef 3
          simp only at e1 e2 e3
          have K2 : Hid (IsD ((w2.setCell ⟨R, 1, none⟩ (.int .i64 at_)).setCell ⟨R, 3, none⟩ (.int .i64 at_)) R a cap ⟨bs, at_, 11, at_⟩ ∧ Chg w ((w2.setCell ⟨R, 1, none⟩ (.int .i64 at_)).setCell ⟨R, 3, none⟩ (.int .i64 at_)) (fun k => k = R)) :=
            ⟨(k1'.setI at_ hal).setW at_, ((K.out.2.trans k2 (fun _ _ x => x)).trans (chg_set w2 R 1 _) (fun _ _ x => x)).trans (chg_set _ R 3 _) (fun _ _ x => x)⟩
          clear k1 k1' k2 K d1 d2 e0 ef
          go_wp2
          go_ret
          exact ⟨rfl, K2.out⟩
        · rw [cnt_ok _ _ _ _ _ h1 h2 h3]
          generalize ofLe ((bs.drop at_).take 2) = m at *
          have g1 : ¬ n < (m : Int) := by omega
          have gw : IntKind.i64.wrap (m : Int) = m := by rw [IntKind.wrap_i64]; omega
          go_enter Try.func78, Try.ntmps78
          go_wp2_with fail
          go_at_call 74
          refine hN.mono ?_
          rintro r w1 ⟨rfl, k1, k2⟩
          obtain ⟨d0, d1, d2, d3, df⟩ := k1.cells
          simp only at d1 d2
          have K : Hid (IsD w1 R a cap ⟨bs, at_ + 2, 0, wh⟩ ∧ Chg w w1 (fun k => k = R)) := ⟨k1, k2⟩
          clear hN k1 k2 c1 c2 d0 d3 df
          go_wp2_with fail
          go_at_call 75
          refine (draw_ok w1 R a cap bs (at_ + 2) m wh K.out.1 (by omega)).mono ?_
          rintro r w2 ⟨v, rfl, o1, hF, k1, k2⟩
          obtain ⟨a1, cc, rfl, hc1, hn1, hB⟩ := o1.shape (by simp; omega)
          have e2 := k1.cells.2.2.1
          simp only at e2
          have cs := conv_str w2 a1 _ cc _ hB
          generalize hl : (bs.drop (at_ + 2)).take m = l at *
          have HL : Hid ((bs.drop (at_ + 2)).take m = l) := hl
          clear hl
          have K2 : Hid (IsD w2 R a cap ⟨bs, at_ + 2 + m, 0, wh⟩ ∧ Chg w w2 (fun k => k = R)) := ⟨k1, K.out.2.trans k2 (fun _ _ x => x)⟩
          clear k1 k2 K o1 hF hB hn1 d1 d2
          go_wp2
          go_ret
          exact ⟨by rw [HL.out]; rfl, K2.out⟩
theorem dtext_any (w : World) (R : Nat) (a : Option Addr) (cap : Nat) (s : RS) (n : Int) (hn : n ≤ 9223372036854775807) (h : IsD w R a cap s) :
    Calls Try.prog 78 #[.pointer (some ⟨R, 0, none⟩), .int .i64 n] w fun r w' => r = .returned (.string (strOf (s.text n).1)) ∧ IsD w' R a cap (s.text n).2 ∧ Chg w w' (fun k => k = R) := by
  by_cases he : s.err = 0
  · obtain ⟨bs, at_, err, wh⟩ := s
    simp only at he
    subst he
    exact dtext_ok w R a cap bs at_ wh n hn h
  · rw [s.text_bad n he]
    refine (dtext_bad w R s.err n h.cells.2.2.1 (by simpa using he)).mono ?_
    rintro r w' ⟨rfl, rfl⟩
    exact ⟨rfl, h, Chg.refl _ _⟩
/-- What Part of the document's leaves. -/
def DPart (w w' : World) (R : Nat) (a : Option Addr) (cap : Nat) (s1 s2 : RS) (r : Ending) : Prop :=
  ∃ R' a' cap', r = .returned (.pointer (some ⟨R', 0, none⟩)) ∧ IsD w' R' a' cap' s1 ∧ IsD w' R a cap s2 ∧ Chg w w' (fun k => k = R) ∧ w.heap.size ≤ R' ∧ (∀ b o, a' = some ⟨b, o, none⟩ → w.heap.size ≤ b)
theorem bs_nil (w : World) : Bs w none 0 [] := ⟨rfl, by omega, by simp, .inl rfl⟩
theorem IsD.lt {w : World} {R : Nat} {a : Option Addr} {cap : Nat} {s : RS} (h : IsD w R a cap s) : R < w.heap.size := (Array.getElem?_eq_some_iff.1 h.box).1
set_option maxHeartbeats 2000000 in
set_option maxRecDepth 10000 in
theorem dpart_bad (w : World) (R : Nat) (a : Option Addr) (cap : Nat) (s : RS) (he : s.err ≠ 0) (h : IsD w R a cap s) :
    Calls Try.prog 38 #[.pointer (some ⟨R, 0, none⟩)] w fun r w' => DPart w w' R a cap ⟨[], 0, s.err, 0⟩ s r := by
  have H : Hid (IsD w R a cap s) := h
  have c2 := h.cells.2.2.1
  have he' : (s.err == 0) = false := by simpa using he
  clear h
  go_enter Try.func38, Try.ntmps38
  go_wp2_with fail
  go_at_call 37
  refine (dnew_any w none 0 0 [] (bs_nil w)).mono ?_
  rintro r w1 ⟨R', a', cap', rfl, k1, k2, k3, k4⟩
  have d2 := (k2.cell H.out.lt (b := R) (o := 2) (by simp)).trans c2
  have K : Hid (IsD w1 R' a' cap' ⟨[], 0, 0, 0⟩ ∧ Chg w w1 (fun _ => False) ∧ w.heap.size ≤ R' ∧ (∀ b o, a' = some ⟨b, o, none⟩ → w.heap.size ≤ b)) := ⟨k1, k2, k3, k4⟩
  clear k1 k2 k3 k4
  go_wp2_with fail
  go_at_call 73
  refine (dfail_any w1 R' a' cap' ⟨[], 0, 0, 0⟩ s.err 0 K.out.1).mono ?_
  rintro r w2 ⟨rfl, q1, q2⟩
  have K2 : Hid (DPart w w2 R a cap ⟨[], 0, s.err, 0⟩ s (.returned (.pointer (some ⟨R', 0, none⟩)))) := by
    obtain ⟨k1, k2, k3, k4⟩ := K.out
    have hc : Chg w w2 (fun _ => False) := k2.trans q2 (fun i hi e => by have := e; omega)
    refine ⟨R', a', cap', rfl, ?_, H.out.other hc (by simp) (by simp), hc.weak, k3, k4⟩
    have : RS.fail ⟨[], 0, 0, 0⟩ s.err 0 = ⟨[], 0, s.err, 0⟩ := by simp [RS.fail, errOf, whOf]
    rw [this] at q1
    exact q1
  clear K q1 q2 d2 c2
  go_wp2
  go_ret
  exact K2.out
set_option maxHeartbeats 4000000 in
set_option maxRecDepth 10000 in
theorem dpart_ok (w : World) (R : Nat) (a : Option Addr) (cap : Nat) (bs : List Int) (at_ : Nat) (wh : Int) (h : IsD w R a cap ⟨bs, at_, 0, wh⟩) :
    Calls Try.prog 38 #[.pointer (some ⟨R, 0, none⟩)] w fun r w' => DPart w w' R a cap (RS.part ⟨bs, at_, 0, wh⟩).1 (RS.part ⟨bs, at_, 0, wh⟩).2 r := by
  have H : Hid (IsD w R a cap ⟨bs, at_, 0, wh⟩) := h
  obtain ⟨c0, c1, c2, c3, cf⟩ := h.cells
  have hal : at_ ≤ bs.length := h.at_le
  have hbl : bs.length ≤ 140737488355328 := h.bytes.2.1
  have hrg := num_le bs at_ 4 h.bytes.2.2.1
  simp only [show 2 ^ (8 * 4) = 4294967296 from rfl] at hrg
  simp only at c1 c2
  clear c0 c3 cf h
  have hN := dnum_any w R a cap ⟨bs, at_, 0, wh⟩ 4 (by omega) H.out
  unfold RS.num at hN
  unfold RS.part
  by_cases h1 : bs.length < at_ + 4
  · rw [cnt_short _ _ _ _ _ h1]
    rw [tk_short _ _ _ _ h1] at hN
    simp only [ofLe] at hN ⊢
    go_enter Try.func38, Try.ntmps38
    go_wp2_with fail
    go_at_call 74
    refine hN.mono ?_
    rintro r w1 ⟨rfl, k1, k2⟩
    have d2 := k1.cells.2.2.1
    simp only at d2
    have K : Hid (IsD w1 R a cap ⟨bs, at_, 11, at_⟩ ∧ Chg w w1 (fun k => k = R)) := ⟨k1, k2⟩
    clear hN k1 k2 c1 c2
    go_wp2_with fail
    go_at_call 75
    refine (draw_bad w1 R 11 0 d2 (by rfl)).mono ?_
    rintro r w2 ⟨rfl, rfl⟩
    have K3 : Hid (IsD (w2.setCell ⟨R, 1, none⟩ (.int .i64 at_)) R a cap ⟨bs, at_, 11, at_⟩ ∧ Chg w (w2.setCell ⟨R, 1, none⟩ (.int .i64 at_)) (fun k => k = R)) := ⟨K.out.1.setI at_ hal, K.out.2.trans (chg_set w2 R 1 _) (fun _ _ x => x)⟩
    obtain ⟨e0, e1, e2, e3, ef⟩ := K.out.1.cells
    have ef1 := ef 1
    simp only at e1 e2 e3
    clear e0 ef d2 K
    go_wp2_with fail
    go_at_call 37
    generalize w2.setCell ⟨R, 1, none⟩ (.int .i64 at_) = w3 at *
    refine (dnew_any w3 none 0 0 [] (bs_nil w3)).mono ?_
    rintro r w4 ⟨R', a', cap', rfl, k1, k2, k3, k4⟩
    have f2 := (K3.out.1.other k2 (by simp) (by simp)).cells.2.2.1
    simp only at f2
    have K : Hid (IsD w4 R' a' cap' ⟨[], 0, 0, 0⟩ ∧ Chg w3 w4 (fun _ => False) ∧ w3.heap.size ≤ R' ∧ (∀ b o, a' = some ⟨b, o, none⟩ → w3.heap.size ≤ b)) := ⟨k1, k2, k3, k4⟩
    clear k1 k2 k3 k4 e1 e2 e3 ef1
    go_wp2_with fail
    go_at_call 73
    refine (dfail_any w4 R' a' cap' ⟨[], 0, 0, 0⟩ 11 0 K.out.1).mono ?_
    rintro r w5 ⟨rfl, q1, q2⟩
    have K2 : Hid (DPart w w5 R a cap ⟨[], 0, 11, 0⟩ ⟨bs, at_, 11, at_⟩ (.returned (.pointer (some ⟨R', 0, none⟩)))) := by
      obtain ⟨k1, k2, k3, k4⟩ := K.out
      have hc : Chg w3 w5 (fun _ => False) := k2.trans q2 (fun i hi e => by have := e; omega)
      have hs := K3.out.2.size
      exact ⟨R', a', cap', rfl, q1, K3.out.1.other hc (by simp) (by simp), K3.out.2.trans hc (fun _ _ x => x.elim), by omega, fun b o e => Nat.le_trans hs (k4 b o e)⟩
    clear K q1 q2 f2 K3
    go_wp2
    go_ret
    exact K2.out
  · rw [tk_ok _ _ _ _ h1] at hN
    simp only at hN
    have h2 : ¬ 4294967295 < ofLe ((bs.drop at_).take 4) := by omega
    by_cases h3 : bs.length < at_ + 4 + ofLe ((bs.drop at_).take 4)
    · rw [cnt_much _ _ _ _ _ h1 h2 h3]
      generalize ofLe ((bs.drop at_).take 4) = m at *
      simp only
      have gw : IntKind.i64.wrap (m : Int) = m := by rw [IntKind.wrap_i64]; omega
      go_enter Try.func38, Try.ntmps38
      go_wp2_with fail
      go_at_call 74
      refine hN.mono ?_
      rintro r w1 ⟨rfl, k1, k2⟩
      have K : Hid (IsD w1 R a cap ⟨bs, at_ + 4, 0, wh⟩ ∧ Chg w w1 (fun k => k = R)) := ⟨k1, k2⟩
      clear hN k1 k2 c1 c2
      go_wp2_with fail
      go_at_call 75
      refine (draw_short w1 R a cap ⟨bs, at_ + 4, 0, wh⟩ m (by omega) rfl h3 K.out.1).mono ?_
      rintro r w2 ⟨rfl, k1, k2⟩
      have k1' : IsD w2 R a cap ⟨bs, at_ + 4, 11, (at_ + 4 : Nat)⟩ := by simpa [RS.fail, errOf, whOf] using k1
      obtain ⟨e0, e1, e2, e3, ef⟩ := k1'.cells
      have ef1 := ef 1
      have ef3 := ef 3
      simp only at e1 e2 e3
      have gt : (at_ : Int) < ((at_ + 4 : Nat) : Int) := by omega
      have K3 : Hid (IsD ((w2.setCell ⟨R, 3, none⟩ (.int .i64 at_)).setCell ⟨R, 1, none⟩ (.int .i64 at_)) R a cap ⟨bs, at_, 11, at_⟩ ∧ Chg w ((w2.setCell ⟨R, 3, none⟩ (.int .i64 at_)).setCell ⟨R, 1, none⟩ (.int .i64 at_)) (fun k => k = R)) :=
        ⟨(k1'.setW at_).setI at_ hal, ((K.out.2.trans k2 (fun _ _ x => x)).trans (chg_set w2 R 3 _) (fun _ _ x => x)).trans (chg_set _ R 1 _) (fun _ _ x => x)⟩
      clear k1 k1' k2 K e0 ef
      go_wp2_with fail
      go_at_call 37
      generalize (w2.setCell ⟨R, 3, none⟩ (.int .i64 at_)).setCell ⟨R, 1, none⟩ (.int .i64 at_) = w3 at *
      refine (dnew_any w3 none 0 0 [] (bs_nil w3)).mono ?_
      rintro r w4 ⟨R', a', cap', rfl, k1, k2, k3, k4⟩
      have f2 := (K3.out.1.other k2 (by simp) (by simp)).cells.2.2.1
      simp only at f2
      have K : Hid (IsD w4 R' a' cap' ⟨[], 0, 0, 0⟩ ∧ Chg w3 w4 (fun _ => False) ∧ w3.heap.size ≤ R' ∧ (∀ b o, a' = some ⟨b, o, none⟩ → w3.heap.size ≤ b)) := ⟨k1, k2, k3, k4⟩
      clear k1 k2 k3 k4 e1 e2 e3 ef1 ef3
      go_wp2_with fail
      go_at_call 73
      refine (dfail_any w4 R' a' cap' ⟨[], 0, 0, 0⟩ 11 0 K.out.1).mono ?_
      rintro r w5 ⟨rfl, q1, q2⟩
      have K2 : Hid (DPart w w5 R a cap ⟨[], 0, 11, 0⟩ ⟨bs, at_, 11, at_⟩ (.returned (.pointer (some ⟨R', 0, none⟩)))) := by
        obtain ⟨k1, k2, k3, k4⟩ := K.out
        have hc : Chg w3 w5 (fun _ => False) := k2.trans q2 (fun i hi e => by have := e; omega)
        have hs := K3.out.2.size
        exact ⟨R', a', cap', rfl, q1, K3.out.1.other hc (by simp) (by simp), K3.out.2.trans hc (fun _ _ x => x.elim), by omega, fun b o e => Nat.le_trans hs (k4 b o e)⟩
      clear K q1 q2 f2 K3
      go_wp2
      go_ret
      exact K2.out
    · rw [cnt_ok _ _ _ _ _ h1 h2 h3]
      generalize ofLe ((bs.drop at_).take 4) = m at *
      simp only
      have gw : IntKind.i64.wrap (m : Int) = m := by rw [IntKind.wrap_i64]; omega
      go_enter Try.func38, Try.ntmps38
      go_wp2_with fail
      go_at_call 74
      refine hN.mono ?_
      rintro r w1 ⟨rfl, k1, k2⟩
      have K : Hid (IsD w1 R a cap ⟨bs, at_ + 4, 0, wh⟩ ∧ Chg w w1 (fun k => k = R)) := ⟨k1, k2⟩
      clear hN k1 k2 c1 c2
      go_wp2_with fail
      go_at_call 75
      refine (draw_ok w1 R a cap bs (at_ + 4) m wh K.out.1 (by omega)).mono ?_
      rintro r w2 ⟨v, rfl, o1, hF, k1, k2⟩
      obtain ⟨a1, cc, rfl, hc1, hn1, hB⟩ := o1.shape (by simp; omega)
      have e2 := k1.cells.2.2.1
      simp only at e2
      have hlm : ((bs.drop (at_ + 4)).take m).length = m := by simp; omega
      rw [hlm] at hB hc1 ⊢
      have K2 : Hid (IsD w2 R a cap ⟨bs, at_ + 4 + m, 0, wh⟩ ∧ Chg w w2 (fun k => k = R) ∧ Bs w2 a1 m ((bs.drop (at_ + 4)).take m)) := ⟨k1, K.out.2.trans k2 (fun _ _ x => x), hB⟩
      clear k1 k2 K o1 hF hB hn1 hlm
      go_wp2_with fail
      go_at_call 37
      refine (dnew_any w2 a1 m cc _ K2.out.2.2).mono ?_
      rintro r w3 ⟨R', a', cap', rfl, k1, k2, k3, k4⟩
      have K3 : Hid (DPart w w3 R a cap ⟨(bs.drop (at_ + 4)).take m, 0, 0, 0⟩ ⟨bs, at_ + 4 + m, 0, wh⟩ (.returned (.pointer (some ⟨R', 0, none⟩)))) := by
        have hs := K2.out.2.1.size
        exact ⟨R', a', cap', rfl, k1, K2.out.1.other k2 (by simp) (by simp), K2.out.2.1.trans k2 (fun _ _ x => x.elim), by omega, fun b o e => Nat.le_trans hs (k4 b o e)⟩
      clear k1 k2 k3 k4 K2 e2
      go_wp2
      go_ret
      exact K3.out
theorem dpart_any (w : World) (R : Nat) (a : Option Addr) (cap : Nat) (s : RS) (h : IsD w R a cap s) :
    Calls Try.prog 38 #[.pointer (some ⟨R, 0, none⟩)] w fun r w' => DPart w w' R a cap s.part.1 s.part.2 r := by
  by_cases he : s.err = 0
  · obtain ⟨bs, at_, err, wh⟩ := s
    simp only at he
    subst he
    exact dpart_ok w R a cap bs at_ wh h
  · rw [s.part_bad he]
    exact dpart_bad w R a cap s he h
end Go.Proofs.Ytfcpkcbiinbmiaa
