import Derived.Test.YtfcpkcbiinbmiabDd
import Derived.Test.YtfcpkcbiinbmiabSt
namespace Go.Proofs.Ytfcpkcbiinbmiab
open Go.ChangeShapes Go.WideShapes Go.ChangeAt Go.RowKit
set_option linter.unusedVariables false
section
variable (bs : List Int) (at_ k most : Nat) (wh : Int)
theorem tk_short (h : bs.length < at_ + k) : RS.take ⟨bs, at_, 0, wh⟩ k = ([], ⟨bs, at_, 11, at_⟩) := by simp [RS.take, h]
theorem tk_ok (h : ¬ bs.length < at_ + k) : RS.take ⟨bs, at_, 0, wh⟩ k = ((bs.drop at_).take k, ⟨bs, at_ + k, 0, wh⟩) := by simp [RS.take, h]
theorem cnt_short (h : bs.length < at_ + k) : RS.counted ⟨bs, at_, 0, wh⟩ k most = ([], ⟨bs, at_, 11, at_⟩) := by
  unfold RS.counted RS.num
  rw [tk_short _ _ _ _ h]
  simp [ofLe, RS.left, RS.take]
theorem cnt_long (h : ¬ bs.length < at_ + k) (h2 : most < ofLe ((bs.drop at_).take k)) : RS.counted ⟨bs, at_, 0, wh⟩ k most = ([], ⟨bs, at_, 15, at_⟩) := by
  unfold RS.counted RS.num
  rw [tk_ok _ _ _ _ h]
  simp only [if_pos h2]
  simp [RS.fail, errOf, whOf, RS.take]
theorem cnt_much (h : ¬ bs.length < at_ + k) (h2 : ¬ most < ofLe ((bs.drop at_).take k)) (h3 : bs.length < at_ + k + ofLe ((bs.drop at_).take k)) : RS.counted ⟨bs, at_, 0, wh⟩ k most = ([], ⟨bs, at_, 11, at_⟩) := by
  unfold RS.counted RS.num
  rw [tk_ok _ _ _ _ h]
  simp only [if_neg h2]
  rw [if_pos (by simp [RS.left]; omega)]
  simp [RS.fail, errOf, whOf, RS.take]
theorem cnt_ok (h : ¬ bs.length < at_ + k) (h2 : ¬ most < ofLe ((bs.drop at_).take k)) (h3 : ¬ bs.length < at_ + k + ofLe ((bs.drop at_).take k)) : RS.counted ⟨bs, at_, 0, wh⟩ k most = ((bs.drop (at_ + k)).take (ofLe ((bs.drop at_).take k)), ⟨bs, at_ + k + ofLe ((bs.drop at_).take k), 0, wh⟩) := by
  unfold RS.counted RS.num
  rw [tk_ok _ _ _ _ h]
  simp only [if_neg h2]
  rw [if_neg (by simp [RS.left]; omega), tk_ok _ _ _ _ h3]
end
theorem IsD.setI {w : World} {R : Nat} {a : Option Addr} {cap : Nat} {s : RS} (h : IsD w R a cap s) (p : Nat) (hp : p ≤ s.bs.length) : IsD (w.setCell ⟨R, 1, none⟩ (.int .i64 p)) R a cap { s with at_ := p } :=
  h.set (chg_set w R 1 _) rfl (by rw [bd_set h.box _]; simp) hp
theorem IsD.setW {w : World} {R : Nat} {a : Option Addr} {cap : Nat} {s : RS} (h : IsD w R a cap s) (p : Int) : IsD (w.setCell ⟨R, 3, none⟩ (.int .i64 p)) R a cap { s with wh := p } :=
  h.set (chg_set w R 3 _) rfl (by rw [bd_set h.box _]; simp) h.at_le
theorem strOf_nil : strOf [] = ByteArray.empty := rfl
theorem num_le (bs : List Int) (at_ k : Nat) (hr : ∀ n ∈ bs, 0 ≤ n ∧ n ≤ 255) : ofLe ((bs.drop at_).take k) < 2 ^ (8 * k) := by
  have h1 := ofLe_lt ((bs.drop at_).take k) (fun n hn => hr n (List.mem_of_mem_drop (List.mem_of_mem_take hn)))
  exact Nat.lt_of_lt_of_le h1 (Nat.pow_le_pow_right (by omega) (by simp; omega))

theorem dtext_bad (w : World) (R : Nat) (err n : Int) (c2 : w.cell? ⟨R, 2, none⟩ = some (.int .i64 err)) (he : (err == 0) = false) :
    Calls Try.prog 49 #[.pointer (some ⟨R, 0, none⟩), .int .i64 n] w fun r w' => r = .returned (.string ByteArray.empty) ∧ w' = w := by
  go_enter Try.func49, Try.ntmps49
  go_wp2
  go_ret
  exact ⟨rfl, rfl⟩
set_option maxHeartbeats 2000000 in
set_option maxRecDepth 10000 in
theorem dtext_ok (w : World) (R : Nat) (a : Option Addr) (cap : Nat) (bs : List Int) (at_ : Nat) (wh : Int) (n : Int) (hn : n ≤ 9223372036854775807) (h : IsD w R a cap ⟨bs, at_, 0, wh⟩) :
    Calls Try.prog 49 #[.pointer (some ⟨R, 0, none⟩), .int .i64 n] w fun r w' => r = .returned (.string (strOf (RS.text ⟨bs, at_, 0, wh⟩ n).1)) ∧ IsD w' R a cap (RS.text ⟨bs, at_, 0, wh⟩ n).2 ∧ Chg w w' (fun k => k = R) := by
  have H : Hid (IsD w R a cap ⟨bs, at_, 0, wh⟩) := h
  obtain ⟨c0, c1, c2, c3, cf⟩ := h.cells
  have hal : at_ ≤ bs.length := h.at_le
  have hbl : bs.length ≤ 140737488355328 := h.bytes.2.1
  have hrg := num_le bs at_ 2 h.bytes.2.2.1
  simp only [show 2 ^ (8 * 2) = 65536 from rfl] at hrg
  simp only at c1 c2
  clear c0 c3 cf h
  by_cases h0 : n < 0
  · have e : RS.text ⟨bs, at_, 0, wh⟩ n = ([], RS.fail ⟨bs, at_, 0, wh⟩ 10 at_) := by simp [RS.text, h0]
    rw [e]
    clear e
    go_enter Try.func49, Try.ntmps49
    go_wp2_with fail
    go_at_call 80
    refine (dfail_any w R a cap ⟨bs, at_, 0, wh⟩ 10 at_ H.out).mono ?_
    rintro r w1 ⟨rfl, K⟩
    go_wp2
    go_ret
    exact ⟨rfl, K⟩
  · have e : RS.text ⟨bs, at_, 0, wh⟩ n = RS.counted ⟨bs, at_, 0, wh⟩ 2 n.toNat := by simp [RS.text, h0]
    rw [e]
    clear e
    have hN := dnum_any w R a cap ⟨bs, at_, 0, wh⟩ 2 (by omega) H.out
    unfold RS.num at hN
    by_cases h1 : bs.length < at_ + 2
    · rw [cnt_short _ _ _ _ _ h1]
      rw [tk_short _ _ _ _ h1] at hN
      simp only [ofLe] at hN
      go_enter Try.func49, Try.ntmps49
      go_wp2_with fail
      go_at_call 42
      refine hN.mono ?_
      rintro r w1 ⟨rfl, k1, k2⟩
      have d2 := k1.cells.2.2.1
      simp only at d2
      have K : Hid (IsD w1 R a cap ⟨bs, at_, 11, at_⟩ ∧ Chg w w1 (fun k => k = R)) := ⟨k1, k2⟩
      clear hN k1 k2 c1 c2
      go_wp2
      go_ret
      exact ⟨rfl, K.out⟩
    · rw [tk_ok _ _ _ _ h1] at hN
      simp only at hN
      by_cases h2 : n.toNat < ofLe ((bs.drop at_).take 2)
      · rw [cnt_long _ _ _ _ _ h1 h2]
        generalize ofLe ((bs.drop at_).take 2) = m at *
        have g1 : n < (m : Int) := by omega
        have gw : IntKind.i64.wrap (m : Int) = m := by rw [IntKind.wrap_i64]; omega
        go_enter Try.func49, Try.ntmps49
        go_wp2_with fail
        go_at_call 42
        refine hN.mono ?_
        rintro r w1 ⟨rfl, k1, k2⟩
        obtain ⟨d0, d1, d2, d3, df⟩ := k1.cells
        have d1f := df 1
        simp only at d1 d2
        have K : Hid (IsD (w1.setCell ⟨R, 1, none⟩ (.int .i64 at_)) R a cap ⟨bs, at_, 0, wh⟩ ∧ Chg w (w1.setCell ⟨R, 1, none⟩ (.int .i64 at_)) (fun k => k = R)) := ⟨k1.setI at_ hal, k2.trans (chg_set w1 R 1 _) (fun _ _ x => x)⟩
        clear hN k1 k2 c1 c2 d0 d3 df
        go_wp2_with fail
        go_at_call 80
        refine (dfail_any _ R a cap ⟨bs, at_, 0, wh⟩ 15 at_ K.out.1).mono ?_
        rintro r w2 ⟨rfl, k1, k2⟩
        have K2 : Hid (IsD w2 R a cap ⟨bs, at_, 15, at_⟩ ∧ Chg w w2 (fun k => k = R)) := ⟨by simpa [RS.fail, errOf, whOf] using k1, K.out.2.trans k2 (fun _ _ x => x)⟩
        clear k1 k2 K d1 d2 d1f
        go_wp2
        go_ret
        exact ⟨rfl, K2.out⟩
      · by_cases h3 : bs.length < at_ + 2 + ofLe ((bs.drop at_).take 2)
        · rw [cnt_much _ _ _ _ _ h1 h2 h3]
          generalize ofLe ((bs.drop at_).take 2) = m at *
          have g1 : ¬ n < (m : Int) := by omega
          have gw : IntKind.i64.wrap (m : Int) = m := by rw [IntKind.wrap_i64]; omega
          go_enter Try.func49, Try.ntmps49
          go_wp2_with fail
          go_at_call 42
          refine hN.mono ?_
          rintro r w1 ⟨rfl, k1, k2⟩
          obtain ⟨d0, d1, d2, d3, df⟩ := k1.cells
          simp only at d1 d2
          have K : Hid (IsD w1 R a cap ⟨bs, at_ + 2, 0, wh⟩ ∧ Chg w w1 (fun k => k = R)) := ⟨k1, k2⟩
          clear hN k1 k2 c1 c2 d0 d3 df
          go_wp2_with fail
          go_at_call 46
          refine (draw_short w1 R a cap ⟨bs, at_ + 2, 0, wh⟩ m (by omega) rfl h3 K.out.1).mono ?_
          rintro r w2 ⟨rfl, k1, k2⟩
          have k1' : IsD w2 R a cap ⟨bs, at_ + 2, 11, (at_ + 2 : Nat)⟩ := by simpa [RS.fail, errOf, whOf] using k1
          obtain ⟨e0, e1, e2, e3, ef⟩ := k1'.cells
          have ef1 := ef 1
          have ef3 := ef 3
          simp only at e1 e2 e3
          have K2 : Hid (IsD ((w2.setCell ⟨R, 1, none⟩ (.int .i64 at_)).setCell ⟨R, 3, none⟩ (.int .i64 at_)) R a cap ⟨bs, at_, 11, at_⟩ ∧ Chg w ((w2.setCell ⟨R, 1, none⟩ (.int .i64 at_)).setCell ⟨R, 3, none⟩ (.int .i64 at_)) (fun k => k = R)) :=
            ⟨(k1'.setI at_ hal).setW at_, ((K.out.2.trans k2 (fun _ _ x => x)).trans (chg_set w2 R 1 _) (fun _ _ x => x)).trans (chg_set _ R 3 _) (fun _ _ x => x)⟩
          clear k1 k1' k2 K d1 d2 e0 ef
          go_wp2
          go_ret
          exact ⟨rfl, K2.out⟩
        · rw [cnt_ok _ _ _ _ _ h1 h2 h3]
          generalize ofLe ((bs.drop at_).take 2) = m at *
          have g1 : ¬ n < (m : Int) := by omega
          have gw : IntKind.i64.wrap (m : Int) = m := by rw [IntKind.wrap_i64]; omega
          go_enter Try.func49, Try.ntmps49
          go_wp2_with fail
          go_at_call 42
          refine hN.mono ?_
          rintro r w1 ⟨rfl, k1, k2⟩
          obtain ⟨d0, d1, d2, d3, df⟩ := k1.cells
          simp only at d1 d2
          have K : Hid (IsD w1 R a cap ⟨bs, at_ + 2, 0, wh⟩ ∧ Chg w w1 (fun k => k = R)) := ⟨k1, k2⟩
          clear hN k1 k2 c1 c2 d0 d3 df
          go_wp2_with fail
          go_at_call 46
          refine (draw_ok w1 R a cap bs (at_ + 2) m wh K.out.1 (by omega)).mono ?_
          rintro r w2 ⟨v, rfl, o1, hF, k1, k2⟩
          obtain ⟨a1, cc, rfl, hc1, hn1, hB⟩ := o1.shape (by simp; omega)
          have e2 := k1.cells.2.2.1
          simp only at e2
          have cs := conv_str w2 a1 _ cc _ hB
          generalize hl : (bs.drop (at_ + 2)).take m = l at *
          have HL : Hid ((bs.drop (at_ + 2)).take m = l) := hl
          clear hl
          have K2 : Hid (IsD w2 R a cap ⟨bs, at_ + 2 + m, 0, wh⟩ ∧ Chg w w2 (fun k => k = R)) := ⟨k1, K.out.2.trans k2 (fun _ _ x => x)⟩
          clear k1 k2 K o1 hF hB hn1 d1 d2
          go_wp2
          go_ret
          exact ⟨by rw [HL.out]; rfl, K2.out⟩
theorem dtext_any (w : World) (R : Nat) (a : Option Addr) (cap : Nat) (s : RS) (n : Int) (hn : n ≤ 9223372036854775807) (h : IsD w R a cap s) :
    Calls Try.prog 49 #[.pointer (some ⟨R, 0, none⟩), .int .i64 n] w fun r w' => r = .returned (.string (strOf (s.text n).1)) ∧ IsD w' R a cap (s.text n).2 ∧ Chg w w' (fun k => k = R) := by
  by_cases he : s.err = 0
  · obtain ⟨bs, at_, err, wh⟩ := s
    simp only at he
    subst he
    exact dtext_ok w R a cap bs at_ wh n hn h
  · rw [s.text_bad n he]
    refine (dtext_bad w R s.err n h.cells.2.2.1 (by simpa using he)).mono ?_
    rintro r w' ⟨rfl, rfl⟩
    exact ⟨rfl, h, Chg.refl _ _⟩
/-- What Part of the document's leaves. -/
def DPart (w w' : World) (R : Nat) (a : Option Addr) (cap : Nat) (s1 s2 : RS) (r : Ending) : Prop :=
  ∃ R' a' cap', r = .returned (.pointer (some ⟨R', 0, none⟩)) ∧ IsD w' R' a' cap' s1 ∧ IsD w' R a cap s2 ∧ Chg w w' (fun k => k = R) ∧ w.heap.size ≤ R' ∧ (∀ b o, a' = some ⟨b, o, none⟩ → w.heap.size ≤ b)
theorem bs_nil (w : World) : Bs w none 0 [] := ⟨rfl, by omega, by simp, .inl rfl⟩
theorem IsD.lt {w : World} {R : Nat} {a : Option Addr} {cap : Nat} {s : RS} (h : IsD w R a cap s) : R < w.heap.size := (Array.getElem?_eq_some_iff.1 h.box).1
end Go.Proofs.Ytfcpkcbiinbmiab
namespace Go.Proofs.Ytfcpkcbiinbmiab
open Go.ChangeShapes Go.WideShapes Go.ChangeAt Go.RowKit
set_option linter.unusedVariables false
theorem padN_zero (p t : Nat) (h : 0 < t) : (p + padN p t) % t = 0 := by
  unfold padN
  have h1 := Nat.mod_lt p h
  by_cases h0 : p % t = 0
  · rw [h0]; simp [h0]
  · have : (t - p % t) % t = t - p % t := Nat.mod_eq_of_lt (by omega)
    rw [this]
    have h2 := Nat.div_add_mod p t
    have : p + (t - p % t) = t * (p / t + 1) := by rw [Nat.mul_add]; omega
    rw [this]; simp
theorem padN_not (p t n : Nat) (h : 0 < t) (hn : n < padN p t) : (p + n) % t ≠ 0 := by
  unfold padN at hn
  have h1 := Nat.mod_lt p h
  have h2 : p % t ≠ 0 := by
    intro h0; rw [h0] at hn; simp at hn
  have h3 : (t - p % t) % t = t - p % t := Nat.mod_eq_of_lt (by omega)
  rw [h3] at hn
  rw [Nat.add_mod, Nat.mod_eq_of_lt (a := n) (by omega), Nat.mod_eq_of_lt (by omega)]
  omega
theorem dpad_bad (w : World) (R : Nat) (err n : Int) (c2 : w.cell? ⟨R, 2, none⟩ = some (.int .i64 err)) (he : (err == 0) = false) :
    Calls Try.prog 51 #[.pointer (some ⟨R, 0, none⟩), .int .i64 n] w fun r w' => r = .returned (.tuple #[]) ∧ w' = w := by
  go_enter Try.func51, Try.ntmps51
  go_wp2
  refine bodyPost_ret (results_none rfl _ _ _) rfl ?_
  exact ⟨rfl, rfl⟩
set_option maxRecDepth 10000 in
theorem dpad_arg (w : World) (R : Nat) (a : Option Addr) (cap : Nat) (s : RS) (n : Int) (he : s.err = 0) (hn : n < 1 ∨ 4096 < n) (h : IsD w R a cap s) :
    Calls Try.prog 51 #[.pointer (some ⟨R, 0, none⟩), .int .i64 n] w fun r w' => r = .returned (.tuple #[]) ∧ IsD w' R a cap (s.fail 10 s.at_) ∧ Chg w w' (fun k => k = R) := by
  obtain ⟨c0, c1, c2, c3, cf⟩ := h.cells
  rw [he] at c2
  have H : Hid (IsD w R a cap s) := h
  clear h cf c0 c3
  by_cases h1 : n < 1
  · go_enter Try.func51, Try.ntmps51
    go_wp2_with fail
    go_at_call 80
    refine (dfail_any w R a cap s 10 s.at_ H.out).mono ?_
    rintro r w1 ⟨rfl, K⟩
    go_wp2
    refine bodyPost_ret (results_none rfl _ _ _) rfl ?_
    exact ⟨rfl, K⟩
  · have h2 : 4096 < n := by omega
    go_enter Try.func51, Try.ntmps51
    go_wp2_with fail
    go_at_call 80
    refine (dfail_any w R a cap s 10 s.at_ H.out).mono ?_
    rintro r w1 ⟨rfl, K⟩
    go_wp2
    refine bodyPost_ret (results_none rfl _ _ _) rfl ?_
    exact ⟨rfl, K⟩
set_option maxHeartbeats 4000000 in
set_option maxRecDepth 10000 in
theorem dpad_ok (w : World) (R : Nat) (a : Option Addr) (cap : Nat) (bs : List Int) (at_ : Nat) (wh : Int) (t : Nat) (h1 : 1 ≤ t) (h2 : t ≤ 4096) (h : IsD w R a cap ⟨bs, at_, 0, wh⟩) :
    Calls Try.prog 51 #[.pointer (some ⟨R, 0, none⟩), .int .i64 t] w fun r w' => r = .returned (.tuple #[]) ∧ IsD w' R a cap (RS.padded ⟨bs, at_, 0, wh⟩ (RS.take ⟨bs, at_, 0, wh⟩ (padN at_ t))) ∧ Chg w w' (fun k => k = R) := by
  have H : Hid (IsD w R a cap ⟨bs, at_, 0, wh⟩) := h
  obtain ⟨c0, c1, c2, c3, cf⟩ := h.cells
  have hal : at_ ≤ bs.length := h.at_le
  have hbl : bs.length ≤ 140737488355328 := h.bytes.2.1
  have cf1 := cf 1
  simp only at c0 c1 c2
  have hp1 := padN_zero at_ t (by omega)
  have hp2 : ∀ n, n < padN at_ t → (at_ + n) % t ≠ 0 := fun n hn => padN_not at_ t n (by omega) hn
  have hp3 := padN_lt at_ t (by omega)
  generalize padN at_ t = P at *
  have HP : Hid (((at_ + P) % t = 0) ∧ ∀ n, n < P → (at_ + n) % t ≠ 0) := ⟨hp1, hp2⟩
  clear c3 cf h hp1 hp2
  have g1 : ¬ (t : Int) < 1 := by omega
  have g2 : ¬ 4096 < (t : Int) := by omega
  have gt : ((t : Int) == 0) = false := by simp; omega
  have gt2 : ((t : Int) == -1) = false := by simp
  go_enter Try.func51, Try.ntmps51
  go_wp2_with fail
  go_loopw [4] (fun i wr => ∃ j : Nat, j ≤ P ∧ i = .int .i64 j ∧ w = wr) (fun i _ => P - (intOf i).toNat)
  case atStart => exact ⟨0, by omega, rfl, rfl⟩
  case round =>
    obtain ⟨j, hj, rfl, rfl⟩ := hrel
    have hrem : ((at_ : Int) + (j : Int)) % (t : Int) = ((at_ + j) % t : Nat) := by
      rw [show (at_ : Int) + (j : Int) = ((at_ + j : Nat) : Int) by omega]; rfl
    by_cases hlt : j < P
    · have hq : (((at_ : Int) + (j : Int)) % (t : Int) != 0) = true := by
        have := HP.out.2 j hlt
        rw [hrem]
        simp only [bne_iff_ne, ne_eq]
        omega
      clear hrem
      go_wp2
      go_roundw
      case rel => exact ⟨j + 1, by omega, by go_num, by first | trivial | rfl⟩
      case measure => simp [intOf]; omega
    · have hjP : j = P := by omega
      subst hjP
      have hq : (((at_ : Int) + (j : Int)) % (t : Int) != 0) = false := by
        rw [hrem, HP.out.1]; rfl
      clear hrem HP
      by_cases hs : bs.length < at_ + j
      · have e : RS.padded ⟨bs, at_, 0, wh⟩ (RS.take ⟨bs, at_, 0, wh⟩ j) = RS.fail ⟨bs, at_, 0, wh⟩ 11 at_ := by
          rw [tk_short _ _ _ _ hs, RS.padded_none _ _ (by simp)]
          simp [RS.fail, errOf, whOf]
        have HE : Hid (RS.padded ⟨bs, at_, 0, wh⟩ (RS.take ⟨bs, at_, 0, wh⟩ j) = RS.fail ⟨bs, at_, 0, wh⟩ 11 at_) := e
        clear e
        have hs2 : (bs.length : Int) - (at_ : Int) < j := by omega
        go_wp2_with fail
        go_quiet (fail)
        rename_i nq
        have H1 := H.out.drewN nq
        have hk : Hid (Chg w (w.drewN nq) (fun _ => False)) := (Chg.refl _ _).drewN _
        generalize w.drewN nq = wq at *
        have d1 := H1.cells.2.1
        simp only at d1
        have H2 : Hid (IsD wq R a cap ⟨bs, at_, 0, wh⟩) := H1
        clear H1 c0 c1 c2 cf1
        go_wp2_with fail
        go_at_call 80
        refine (dfail_any wq R a cap ⟨bs, at_, 0, wh⟩ 11 at_ H2.out).mono ?_
        rintro r w1 ⟨rfl, k1, k2⟩
        have K : Hid (IsD w1 R a cap (RS.fail ⟨bs, at_, 0, wh⟩ 11 at_) ∧ Chg w w1 (fun k => k = R)) := ⟨k1, Chg.trans hk.out.weak k2 (fun _ _ x => x)⟩
        clear k1 k2 hk H2
        go_wp2
        refine bodyPost_ret (results_none rfl _ _ _) rfl ?_
        rw [HE.out]
        exact ⟨rfl, K.out⟩
      · have hs2 : ¬ (bs.length : Int) - (at_ : Int) < j := by omega
        have HE : Hid (RS.take ⟨bs, at_, 0, wh⟩ j = ((bs.drop at_).take j, ⟨bs, at_ + j, 0, wh⟩)) := tk_ok _ _ _ _ hs
        have hgl : ∀ x, x < j → ((bs.drop at_).take j).getD x 0 = bs.getD (at_ + x) 0 := fun x hx => by
          simp [List.getD_eq_getElem?_getD, List.getElem?_drop, hx]
        have hll : ((bs.drop at_).take j).length = j := by simp; omega
        have HG : Hid ((∀ x, x < j → ((bs.drop at_).take j).getD x 0 = bs.getD (at_ + x) 0) ∧ ((bs.drop at_).take j).length = j) := ⟨hgl, hll⟩
        clear hgl hll hs
        go_wp2_with fail
        go_quiet (fail)
        rename_i nq
        go_wp2_with fail
        go_loopw [5] (fun i w2 => ∃ y : Nat, y ≤ j ∧ i = .int .i64 y ∧ Chg w w2 (fun _ => False) ∧ ∀ x, x < y → bs.getD (at_ + x) 0 = 0) (fun i _ => j - (intOf i).toNat)
        case atStart => exact ⟨0, by omega, rfl, (Chg.refl _ _).drewN _, fun x hx => by omega⟩
        case round =>
          obtain ⟨y, hy, rfl, hC, hz⟩ := hrel
          have H1 : IsD wr R a cap ⟨bs, at_, 0, wh⟩ := H.out.other hC (by simp) (by simp)
          have Hz : Hid (∀ x, x < y → bs.getD (at_ + x) 0 = 0) := hz
          have HC : Hid (Chg w wr (fun _ => False)) := hC
          obtain ⟨d0, d1, d2, d3, df⟩ := H1.cells
          simp only at d0 d1
          have df1 := df 1
          clear hz hC d2 d3 df
          by_cases hlt : y < j
          · have hltz : (y : Int) < (j : Int) := by omega
            obtain ⟨q1, q2, q3, q4⟩ := H1.bytes
            simp only at q1 q2 q3 q4
            obtain ⟨b, o, e1, hc⟩ := q4.resolve_left (by omega)
            have cx := hc (at_ + y) (by omega)
            have cx' : wr.cell? ⟨b, o + (at_ + y), none⟩ = some (.int .u8 (bs.getD (at_ + y) 0)) := cx
            obtain ⟨p, hp⟩ : ∃ p, p = bs.getD (at_ + y) 0 := ⟨_, rfl⟩
            rw [← hp] at cx cx'
            have Hp : Hid (p = bs.getD (at_ + y) 0) := hp
            have H2 : Hid (IsD wr R a cap ⟨bs, at_, 0, wh⟩) := H1
            have i1 : (at_ : Int) + (y : Int) < (bs.length : Int) := by omega
            have i2 : at_ + y < bs.length := by omega
            clear H1 q1 q2 q3 q4 hc hp
            subst e1
            by_cases hp0 : p = 0
            · have hpb : (p != 0) = false := by simpa using hp0
              go_wp2_with fail
              go_quiet (fail)
              go_wp2
              go_roundw
              case rel => exact ⟨y + 1, by omega, by go_num, HC.out.drewN _, fun x hx => by
                by_cases hxy : x = y
                · rw [hxy, ← Hp.out]; exact hp0
                · exact Hz.out x (by omega)⟩
              case measure => simp [intOf]; omega
            · have hpb : (p != 0) = true := by simpa using hp0
              have HF : Hid (RS.padded ⟨bs, at_, 0, wh⟩ (RS.take ⟨bs, at_, 0, wh⟩ j) = RS.fail ⟨bs, at_, 0, wh⟩ 13 (at_ + y : Nat)) := by
                show _ = _
                rw [HE.out, RS.padded_some _ _ y (findIdx_some (by rw [HG.out.2]; exact hlt) (fun x hx => by rw [HG.out.1 x (by omega)]; exact Hz.out x hx) (by rw [HG.out.1 y hlt, ← Hp.out]; exact hp0))]
              go_wp2_with fail
              go_quiet (fail)
              have H3 := H2.out.drewN nq
              have hk : Hid (Chg w (wr.drewN nq) (fun _ => False)) := HC.out.drewN _
              generalize wr.drewN nq = wq at *
              have e1 := H3.cells.2.1
              simp only at e1
              have H4 : Hid (IsD wq R (some ⟨b, o, none⟩) cap ⟨bs, at_, 0, wh⟩) := H3
              clear H3 d0 d1 cx cx' c0 c1 c2 cf1 df1
              go_wp2_with fail
              go_at_call 80
              refine (dfail_any wq R (some ⟨b, o, none⟩) cap ⟨bs, at_, 0, wh⟩ 13 _ H4.out).mono ?_
              rintro r w1 ⟨rfl, k1, k2⟩
              have K : Hid (IsD w1 R (some ⟨b, o, none⟩) cap (RS.fail ⟨bs, at_, 0, wh⟩ 13 (at_ + y : Nat)) ∧ Chg w w1 (fun k => k = R)) := ⟨by simpa using k1, Chg.trans hk.out.weak k2 (fun _ _ x => x)⟩
              clear k1 k2 hk H4
              go_wp2
              refine bodyPost_ret (results_none rfl _ _ _) rfl ?_
              rw [HF.out]
              exact ⟨rfl, K.out⟩
          · have hyj : y = j := by omega
            subst hyj
            have hltz : ¬ (y : Int) < (y : Int) := by omega
            have HF : Hid (RS.padded ⟨bs, at_, 0, wh⟩ (RS.take ⟨bs, at_, 0, wh⟩ y) = ⟨bs, at_ + y, 0, wh⟩) := by
              show _ = _
              rw [HE.out, RS.padded_none _ _ (findIdx_none (fun x hx => by rw [HG.out.2] at hx; rw [HG.out.1 x hx]; exact Hz.out x hx))]
            have hN : at_ + y ≤ bs.length := by omega
            have K : Hid (IsD (wr.setCell ⟨R, 1, none⟩ (.int .i64 (at_ + y : Nat))) R a cap ⟨bs, at_ + y, 0, wh⟩ ∧ Chg w (wr.setCell ⟨R, 1, none⟩ (.int .i64 (at_ + y : Nat))) (fun k => k = R)) := ⟨H1.setI (at_ + y) hN, Chg.trans HC.out.weak (chg_set wr R 1 _) (fun _ _ x => x)⟩
            clear H1 HC
            go_wp2
            go_end0
            rw [HF.out]
            have k := K.out
            simp only [Int.natCast_add] at k
            exact ⟨rfl, k⟩
theorem dpad_any (w : World) (R : Nat) (a : Option Addr) (cap : Nat) (s : RS) (n : Int) (h : IsD w R a cap s) :
    Calls Try.prog 51 #[.pointer (some ⟨R, 0, none⟩), .int .i64 n] w fun r w' => r = .returned (.tuple #[]) ∧ IsD w' R a cap (s.pad n) ∧ Chg w w' (fun k => k = R) := by
  by_cases he : s.err = 0
  · by_cases hn : 1 ≤ n ∧ n ≤ 4096
    · obtain ⟨bs, at_, err, wh⟩ := s
      simp only at he
      subst he
      obtain ⟨t, rfl⟩ : ∃ t : Nat, n = t := ⟨n.toNat, by omega⟩
      have e : RS.pad ⟨bs, at_, 0, wh⟩ t = RS.padded ⟨bs, at_, 0, wh⟩ (RS.take ⟨bs, at_, 0, wh⟩ (padN at_ t)) := by unfold RS.pad; rw [if_pos hn]; simp
      rw [e]
      exact dpad_ok w R a cap bs at_ wh t (by omega) (by omega) h
    · have e : s.pad n = s.fail 10 s.at_ := by unfold RS.pad; rw [if_neg hn]
      rw [e]
      exact dpad_arg w R a cap s n he (by omega) h
  · rw [s.pad_bad n he]
    refine (dpad_bad w R s.err n h.cells.2.2.1 (by simpa using he)).mono ?_
    rintro r w' ⟨rfl, rfl⟩
    exact ⟨rfl, h, Chg.refl _ _⟩
end Go.Proofs.Ytfcpkcbiinbmiab
