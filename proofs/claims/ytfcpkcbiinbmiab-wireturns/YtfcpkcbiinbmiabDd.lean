import Derived.Test.YtfcpkcbiinbmiabDb
namespace Go.Proofs.Ytfcpkcbiinbmiab
open Go.ChangeShapes Go.WideShapes Go.ChangeAt Go.RowKit
set_option linter.unusedVariables false
theorem loc_fresh {w w' : World} {v : Value} {ys : List Int} (l : Loc w (.slice none 0 0) v) : Fresh w.heap.size v := by
  intro k hk
  rcases l with e | ⟨k', e, hk'⟩
  · rw [e] at hk; cases hk
  · rw [e] at hk; simp at hk; omega
/-- NewReader of the document's. -/
theorem dnew_any (w : World) (a : Option Addr) (len cap : Nat) (bs : List Int) (hb : Bs w a len bs) :
    Calls Try.prog 9 #[.slice a len cap] w fun e w' => ∃ R a' cap', e = .returned (.pointer (some ⟨R, 0, none⟩)) ∧ IsD w' R a' cap' ⟨bs, 0, 0, 0⟩ ∧ Chg w w' (fun _ => False) ∧ w.heap.size ≤ R ∧ (∀ b o, a' = some ⟨b, o, none⟩ → w.heap.size ≤ b) := by
  obtain ⟨v1, w1, hr1, o1, g1, l1⟩ := run_appB w (.slice none 0 0) [] (OwnB.nil w) a len cap bs hb (by have := hb.2.1; simp; omega) 22
  simp only [List.nil_append] at o1
  have hC1 : Chg w w1 (fun _ => False) := (Chg.refl _ _).grown g1 (by simp [Value.ownBlock])
  have hF : Fresh w.heap.size v1 := loc_fresh (w' := w1) (ys := bs) l1
  obtain ⟨a1, c1, e1, k1, k2, k3⟩ := o1.shape (by rw [hb.1]; exact hb.2.1)
  subst e1
  have K : Hid (Bs w1 a1 bs.length bs ∧ Fresh w.heap.size (.slice a1 bs.length c1) ∧ Chg w w1 (fun _ => False) ∧ (a1 = none → bs.length = 0 ∧ c1 = 0) ∧ bs.length ≤ c1) := ⟨k3, hF, hC1, k2, k1⟩
  clear o1 g1 l1 hC1 hF k1 k2 k3 hb
  go_enter Try.func9, Try.ntmps9
  go_wp2_with (at_builtin; refine wpList_append_run _ rfl (.tmp 4) (.tmp 5) 22 22 rfl _ _ (.slice a1 bs.length c1) w1 rfl rfl hr1 ?_)
  go_ret
  obtain ⟨h3, hf, hc, h2, h1⟩ := K.out
  refine ⟨w1.heap.size, a1, c1, rfl, ⟨heap_alloc_new w1 _, h3.chg (S := fun _ => False) ((Chg.refl _ _).alloc _) (by simp), by simp, h1, fun e => (h2 e).2⟩, hc.alloc _, hc.size, ?_⟩
  rintro b o rfl
  exact hf b rfl

set_option maxHeartbeats 1000000 in
set_option maxRecDepth 10000 in
theorem draw_ok (w : World) (R : Nat) (a : Option Addr) (cap : Nat) (bs : List Int) (at_ n : Nat) (wh : Int) (h : IsD w R a cap ⟨bs, at_, 0, wh⟩) (hn : at_ + n ≤ bs.length) :
    Calls Try.prog 46 #[.pointer (some ⟨R, 0, none⟩), .int .i64 n] w fun r w' => ∃ v, r = .returned v ∧ OwnB w' v ((bs.drop at_).take n) ∧ Fresh w.heap.size v ∧ IsD w' R a cap ⟨bs, at_ + n, 0, wh⟩ ∧ Chg w w' (fun k => k = R) := by
  have hb := h.bytes.2.1
  have hcap := h.cap_le
  simp only at hb hcap
  have H : Hid (IsD w R a cap ⟨bs, at_, 0, wh⟩) := h
  obtain ⟨c0, c1, c2, c3, cf⟩ := h.cells
  simp only at c0 c1 c2
  clear c3 cf
  have hsh : (n : Int) ≤ (bs.length : Int) - (at_ : Int) := by omega
  have hsh2 : ¬ ((bs.length : Int) - (at_ : Int) < (n : Int)) := by omega
  clear h
  go_enter Try.func46, Try.ntmps46
  go_wp2_with fail
  go_quiet (fail)
  rename_i nq
  have H1 := H.out.drewN nq
  have hk : Chg w (w.drewN nq) (fun _ => False) := (Chg.refl _ _).drewN _
  generalize w.drewN nq = wq at *
  clear c0 c1 c2
  obtain ⟨c0, c1, c2, c3, cf⟩ := H1.cells
  simp only at c0 c1 c2
  go_wp2_with fail
  have hkd : Chg w wq.drew (fun _ => False) := hk.drew
  have H2 : IsD wq.drew R a cap ⟨bs, at_, 0, wh⟩ := H1.other (S := fun _ => False) ((Chg.refl _ _).drew) (by simp) (by simp)
  obtain ⟨b0, b1, _⟩ := H2.cells
  simp only at b0 b1
  have key : ∀ (v : Value) (w2 : World), OwnB w2 v ((bs.drop at_).take n) → Fresh w.heap.size v → Chg wq.drew w2 (fun _ => False) → Hid (OwnB w2 v ((bs.drop at_).take n) ∧ Fresh w.heap.size v ∧ IsD w2 R a cap ⟨bs, at_, 0, wh⟩ ∧ Chg w w2 (fun _ => False)) := fun v w2 k1 k2 k3 => ⟨k1, k2, H2.other k3 (by simp) (by simp), hkd.trans k3 (fun _ _ x => x)⟩
  have fin : ∀ (v : Value) (w2 : World), Hid (OwnB w2 v ((bs.drop at_).take n) ∧ Fresh w.heap.size v ∧ IsD w2 R a cap ⟨bs, at_, 0, wh⟩ ∧ Chg w w2 (fun _ => False)) → OwnB (w2.setCell ⟨R, 1, none⟩ (.int .i64 ((at_ : Int) + n))) v ((bs.drop at_).take n) ∧ IsD (w2.setCell ⟨R, 1, none⟩ (.int .i64 ((at_ : Int) + n))) R a cap ⟨bs, at_ + n, 0, wh⟩ ∧ Chg w (w2.setCell ⟨R, 1, none⟩ (.int .i64 ((at_ : Int) + n))) (fun k => k = R) := fun v w2 k => by
    obtain ⟨k1, k2, k3, k4⟩ := k.out
    have hC := chg_set w2 R 1 (.int .i64 ((at_ : Int) + n))
    refine ⟨k1.chg hC (fun b hb e => ?_), k3.set hC rfl ?_ hn, Chg.trans (k4.weak) hC (fun _ _ x => x)⟩
    · have h1 := k2 b hb
      have h2 := (Array.getElem?_eq_some_iff.1 H.out.box).1
      omega
    · rw [bd_set k3.box _]; simp
  have fz : ∀ (v : Value) (w2 : World), Hid (OwnB w2 v ((bs.drop at_).take n) ∧ Fresh w.heap.size v ∧ IsD w2 R a cap ⟨bs, at_, 0, wh⟩ ∧ Chg w w2 (fun _ => False)) → (w2.cell? ⟨R, 0, none⟩ = some (.slice a bs.length cap) ∧ w2.cell? ⟨R, 1, none⟩ = some (.int .i64 (at_ : Nat))) ∧ w2.frozen? ⟨R, 1, none⟩ = false := fun v w2 k => by
    obtain ⟨d0, d1, d2, d3, df⟩ := k.out.2.2.1.cells
    exact ⟨⟨d0, d1⟩, df 1⟩
  by_cases hc : cap = at_
  · have h0 : n = 0 := by omega
    subst h0
    have hB : Bs wq.drew a 0 [] := ⟨rfl, by omega, by simp, .inl rfl⟩
    obtain ⟨v, w2, hr, o2, g2, l2⟩ := run_appB wq.drew (.slice none 0 0) [] (OwnB.nil _) a (at_ + 0 - at_) 0 [] (by simpa using hB) (by simp) 22
    have KK := key v w2 (by simpa using o2) (fun k hk' => Nat.le_trans hkd.size (loc_fresh (w' := w2) (ys := bs) l2 k hk')) ((Chg.refl _ _).grown g2 (by simp [Value.ownBlock]))
    obtain ⟨⟨d0, d1⟩, df⟩ := fz v w2 KK
    have FF := fin v w2 KK
    have F1 := KK.out.2.1
    clear KK fz fin key o2 g2 l2 hB H1 H2 hk hkd H b0 b1 cf c3
    refine reg75_10a wq w2 R bs.length cap at_ 0 (at_ + 0) rfl a v hn hcap hb hc ⟨c0, c1⟩ hr ⟨d0, d1⟩ _ (fun _ _ _ q _ h => by cases q <;> exact h) ?_
    have FH : Hid (OwnB (w2.setCell ⟨R, 1, none⟩ (.int .i64 ((at_ : Int) + 0))) v ((bs.drop at_).take 0) ∧ IsD (w2.setCell ⟨R, 1, none⟩ (.int .i64 ((at_ : Int) + 0))) R a cap ⟨bs, at_ + 0, 0, wh⟩ ∧ Chg w (w2.setCell ⟨R, 1, none⟩ (.int .i64 ((at_ : Int) + 0))) (fun k => k = R)) := FF
    clear FF hr c0 c1 c2
    go_wp2
    go_ret
    have F := FH.out
    simp only [Int.add_zero, Nat.add_zero, hc] at F
    exact ⟨v, rfl, F.1, F1, F.2⟩
  · have hB := H2.bytes.sub at_ n hn
    obtain ⟨v, w2, hr, o2, g2, l2⟩ := run_appB wq.drew (.slice none 0 0) [] (OwnB.nil _) (a.map (·.add at_)) (at_ + n - at_) (cap - at_) _ (by simpa using hB) (by simp; omega) 22
    have KK := key v w2 (by simpa using o2) (fun k hk' => Nat.le_trans hkd.size (loc_fresh (w' := w2) (ys := bs) l2 k hk')) ((Chg.refl _ _).grown g2 (by simp [Value.ownBlock]))
    obtain ⟨⟨d0, d1⟩, df⟩ := fz v w2 KK
    have FF := fin v w2 KK
    have F1 := KK.out.2.1
    clear KK fz fin key o2 g2 l2 hB H1 H2 hk hkd H b0 b1 cf c3
    refine reg75_10b wq w2 R bs.length cap at_ n (at_ + n) rfl a v hn hcap hb hc ⟨c0, c1⟩ hr ⟨d0, d1⟩ _ (fun _ _ _ q _ h => by cases q <;> exact h) ?_
    have FH : Hid (OwnB (w2.setCell ⟨R, 1, none⟩ (.int .i64 ((at_ : Int) + n))) v ((bs.drop at_).take n) ∧ IsD (w2.setCell ⟨R, 1, none⟩ (.int .i64 ((at_ : Int) + n))) R a cap ⟨bs, at_ + n, 0, wh⟩ ∧ Chg w (w2.setCell ⟨R, 1, none⟩ (.int .i64 ((at_ : Int) + n))) (fun k => k = R)) := FF
    clear FF hr c0 c1 c2
    go_wp2
    go_ret
    have F := FH.out
    exact ⟨v, rfl, F.1, F1, F.2⟩
theorem draw_bad (w : World) (R : Nat) (err n : Int) (c2 : w.cell? ⟨R, 2, none⟩ = some (.int .i64 err)) (he : (err == 0) = false) :
    Calls Try.prog 46 #[.pointer (some ⟨R, 0, none⟩), .int .i64 n] w fun r w' => r = .returned (.slice none 0 0) ∧ w' = w := by
  go_enter Try.func46, Try.ntmps46
  go_wp2
  go_ret
  exact ⟨rfl, rfl⟩
theorem draw_neg (w : World) (R : Nat) (a : Option Addr) (cap : Nat) (s : RS) (n : Int) (he : s.err = 0) (hn : n < 0) (h : IsD w R a cap s) :
    Calls Try.prog 46 #[.pointer (some ⟨R, 0, none⟩), .int .i64 n] w fun r w' => r = .returned (.slice none 0 0) ∧ IsD w' R a cap (s.fail 10 s.at_) ∧ Chg w w' (fun k => k = R) := by
  obtain ⟨c0, c1, c2, c3, cf⟩ := h.cells
  rw [he] at c2
  have H : Hid (IsD w R a cap s) := h
  clear h cf c0 c3
  go_enter Try.func46, Try.ntmps46
  go_wp2_with fail
  go_at_call 80
  refine (dfail_any w R a cap s 10 s.at_ H.out).mono ?_
  rintro r w1 ⟨rfl, K⟩
  go_wp2
  go_ret
  exact ⟨rfl, K⟩
theorem draw_short (w : World) (R : Nat) (a : Option Addr) (cap : Nat) (s : RS) (n : Nat) (hm : n ≤ 9223372036854775807) (he : s.err = 0) (hn : s.bs.length < s.at_ + n) (h : IsD w R a cap s) :
    Calls Try.prog 46 #[.pointer (some ⟨R, 0, none⟩), .int .i64 n] w fun r w' => r = .returned (.slice none 0 0) ∧ IsD w' R a cap (s.fail 11 s.at_) ∧ Chg w w' (fun k => k = R) := by
  obtain ⟨c0, c1, c2, c3, cf⟩ := h.cells
  have hb := h.bytes.2.1
  have hl := h.at_le
  rw [he] at c2
  have H : Hid (IsD w R a cap s) := h
  have hsh : (s.bs.length : Int) - (s.at_ : Int) < n := by omega
  clear h cf c3
  go_enter Try.func46, Try.ntmps46
  go_wp2_with fail
  go_quiet (fail)
  rename_i nq
  have H1 := H.out.drewN nq
  have hk : Hid (Chg w (w.drewN nq) (fun _ => False)) := (Chg.refl _ _).drewN _
  generalize w.drewN nq = wq at *
  clear c0 c1 c2
  obtain ⟨c0, c1, c2, c3, cf⟩ := H1.cells
  have H2 : Hid (IsD wq R a cap s) := H1
  clear H1 cf c3 c0
  go_wp2_with fail
  go_at_call 80
  refine (dfail_any wq R a cap s 11 s.at_ H2.out).mono ?_
  rintro r w1 ⟨rfl, k1, k2⟩
  go_wp2
  go_ret
  exact ⟨rfl, k1, Chg.trans hk.out.weak k2 (fun _ _ x => x)⟩
/-- Raw of the document's. -/
theorem draw_any (w : World) (R : Nat) (a : Option Addr) (cap : Nat) (s : RS) (n : Int) (hn : n ≤ 9223372036854775807) (h : IsD w R a cap s) :
    Calls Try.prog 46 #[.pointer (some ⟨R, 0, none⟩), .int .i64 n] w fun r w' => ∃ v, r = .returned v ∧ OwnB w' v (s.raw n).1 ∧ Fresh w.heap.size v ∧ IsD w' R a cap (s.raw n).2 ∧ Chg w w' (fun k => k = R) := by
  by_cases he : s.err = 0
  · by_cases h0 : n < 0
    · have e : s.raw n = ([], s.fail 10 s.at_) := by simp [RS.raw, h0]
      rw [e]
      refine (draw_neg w R a cap s n he h0 h).mono ?_
      rintro r w' ⟨rfl, k⟩
      exact ⟨_, rfl, OwnB.nil _, (by intro k hk; cases hk), k⟩
    · obtain ⟨m, rfl⟩ : ∃ m : Nat, n = m := ⟨n.toNat, by omega⟩
      by_cases h1 : s.bs.length < s.at_ + m
      · have e : s.raw m = ([], s.fail 11 s.at_) := by simp [RS.raw, RS.take, he, h1, RS.fail, errOf, whOf]
        rw [e]
        refine (draw_short w R a cap s m (by omega) he h1 h).mono ?_
        rintro r w' ⟨rfl, k⟩
        exact ⟨_, rfl, OwnB.nil _, (by intro k hk; cases hk), k⟩
      · obtain ⟨bs, at_, err, wh⟩ := s
        simp only at he h1
        subst he
        have e : RS.raw ⟨bs, at_, 0, wh⟩ m = ((bs.drop at_).take m, ⟨bs, at_ + m, 0, wh⟩) := by unfold RS.raw; rw [if_neg h0]; simp [RS.take, h1]
        rw [e]
        exact draw_ok w R a cap bs at_ m wh h (by omega)
  · have e : s.raw n = ([], s) := by
      unfold RS.raw RS.take RS.fail errOf whOf
      by_cases h0 : n < 0 <;> simp [h0, he]
    rw [e]
    refine (draw_bad w R s.err n h.cells.2.2.1 (by simpa using he)).mono ?_
    rintro r w' ⟨rfl, rfl⟩
    exact ⟨_, rfl, OwnB.nil _, (by intro k hk; cases hk), h, Chg.refl _ _⟩
end Go.Proofs.Ytfcpkcbiinbmiab
namespace Go.Proofs.Ytfcpkcbiinbmiab
open Go.ChangeShapes Go.WideShapes Go.ChangeAt Go.RowKit
set_option linter.unusedVariables false
theorem ofLe_drop (l : List Int) (j : Nat) (h : j < l.length) : ofLe (l.drop j) = (l.getD j 0).toNat + 256 * ofLe (l.drop (j + 1)) := by
  rw [List.drop_eq_getElem_cons h, List.getD_eq_getElem?_getD, List.getElem?_eq_getElem h]
  rfl
theorem ofLe_small (l : List Int) (h : ∀ n ∈ l, 0 ≤ n ∧ n ≤ 255) (hl : l.length ≤ 8) (j : Nat) : ofLe (l.drop j) < 18446744073709551616 := by
  have h1 := ofLe_lt (l.drop j) (fun n hn => h n (List.mem_of_mem_drop hn))
  refine Nat.lt_of_lt_of_le h1 ?_
  have : 2 ^ (8 * (l.drop j).length) ≤ 2 ^ 64 := Nat.pow_le_pow_right (by omega) (by simp; omega)
  simpa using this
set_option maxHeartbeats 1000000 in
set_option maxRecDepth 10000 in
/-- Number of the document's. -/
theorem dnum_any (w : World) (R : Nat) (a : Option Addr) (cap : Nat) (s : RS) (k : Nat) (hk : k ≤ 8) (h : IsD w R a cap s) :
    Calls Try.prog 42 #[.pointer (some ⟨R, 0, none⟩), .int .i64 k] w fun r w' => r = .returned (.int .u64 (s.num k : Nat)) ∧ IsD w' R a cap (s.take k).2 ∧ Chg w w' (fun k => k = R) := by
  have hlen := s.take_len k
  have hR := draw_any w R a cap s k (by omega) h
  have e : s.raw k = s.take k := by unfold RS.raw; rw [if_neg (by omega)]; simp
  rw [e] at hR
  unfold RS.num
  generalize s.take k = q at *
  clear e h
  obtain ⟨l, s1⟩ := q
  simp only at hR hlen ⊢
  go_enter Try.func42, Try.ntmps42
  go_wp2_with fail
  go_at_call 46
  refine hR.mono ?_
  rintro r w1 ⟨v, rfl, o1, hF, hI, hC⟩
  obtain ⟨a1, c1, rfl, hc1, hn1, hB⟩ := o1.shape (by omega)
  have K : Hid (IsD w1 R a cap s1 ∧ Chg w w1 (fun k => k = R) ∧ Bs w1 a1 l.length l) := ⟨hI, hC, hB⟩
  have hl8 : l.length ≤ 8 := by omega
  clear hR o1 hF hI hC hB hn1 hlen
  go_wp2_with fail
  go_loopw [6, 7] (fun n i wr => ∃ j : Nat, j ≤ l.length ∧ n = .int .u64 (ofLe (l.drop j) : Nat) ∧ i = .int .i64 ((j : Int) - 1) ∧ wr = w1) (fun n i _ => (intOf i + 1).toNat)
  case atStart => exact ⟨l.length, by omega, by simp [ofLe], rfl, rfl⟩
  case round =>
    obtain ⟨j, hj, rfl, rfl, rfl⟩ := hrel
    cases j with
    | zero =>
      simp only [List.drop_zero]
      go_wp2
      go_ret
      exact ⟨rfl, K.out.1, K.out.2.1⟩
    | succ j =>
      have ej : ((j + 1 : Nat) : Int) - 1 = (j : Nat) := by omega
      rw [ej]
      obtain ⟨q1, q2, q3, q4⟩ := K.out.2.2
      obtain ⟨b, o, e1, hc⟩ := q4.resolve_left (by omega)
      have cx := hc j (by omega)
      have d1 := ofLe_drop l j (by omega)
      have d2 := ofLe_small l q3 hl8 j
      have d3 := getD_range q3 j
      obtain ⟨x, hx⟩ : ∃ x, x = l.getD j 0 := ⟨_, rfl⟩
      rw [← hx] at cx d1 d3
      obtain ⟨y, hy⟩ : ∃ y, y = ofLe (l.drop (j + 1)) := ⟨_, rfl⟩
      rw [← hy] at d1
      obtain ⟨z, hz⟩ : ∃ z, z = ofLe (l.drop j) := ⟨_, rfl⟩
      rw [← hz] at d1 d2
      have HZ : Hid (z = ofLe (l.drop j)) := hz
      rw [← hy]
      clear hx hy hz hc q1 q2 q3 ej
      subst e1
      have w1' : IntKind.u64.wrap (256 * (y : Int)) = 256 * (y : Int) := by rw [IntKind.wrap_u64]; omega
      have w2' : IntKind.u64.wrap x = x := by rw [IntKind.wrap_u64]; omega
      have w3' : IntKind.u64.wrap (256 * (y : Int) + x) = (z : Int) := by rw [IntKind.wrap_u64]; omega
      go_wp2
      go_roundw
      case rel => exact ⟨j, by omega, (by rw [← HZ.out]; refine congrArg _ ?_; omega), by rfl, trivial⟩
      case measure => simp [intOf]
end Go.Proofs.Ytfcpkcbiinbmiab
