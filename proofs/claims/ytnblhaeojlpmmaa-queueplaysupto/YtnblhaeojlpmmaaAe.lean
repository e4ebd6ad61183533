import Derived.Test.YtnblhaeojlpmmaaAd
namespace Go.Proofs.Ytnblhaeojlpmmaa
open Go.ChangeShapes Go.WideShapes Go.ChangeAt Go.RowKit
set_option linter.unusedVariables false
/-- Is a port full? -/
def QS.fu (s : QS) : Bool := decide (1152921504606846976 ≤ s.ac) || ((s.d.fl && decide (s.d.de ≤ (s.qd.length : Int) + (s.st.length : Int))) || (!s.d.fl && decide (s.d.qu ≤ (s.st.length : Int))))
set_option maxHeartbeats 1000000 in
theorem full_any (w : World) (B : Nat) (vq vs : Value) (s : QS) (h : IsQ w B vq vs s) :
    Calls Try.prog 25 #[.pointer (some ⟨B, 0, none⟩)] w fun e w' => e = .returned (.bool s.fu) ∧ ∃ m, w' = w.drewN m := by
  obtain ⟨c0, c1, c2, c3, c4, c5, c6, c7, c8, c9, c10⟩ := h.c
  obtain ⟨e0, e1, e2, e3, e4, e5, e6, e7, e8, e9, e10⟩ := (h.kp (Kp.drew w)).c
  obtain ⟨hl1, hl2⟩ := h.len
  obtain ⟨a1, p1, rfl⟩ := h.q.shape
  obtain ⟨a2, p2, rfl⟩ := h.t.shape
  have hF : s.fu = (decide (1152921504606846976 ≤ s.ac) || ((s.d.fl && decide (s.d.de ≤ (s.qd.length : Int) + (s.st.length : Int))) || (!s.d.fl && decide (s.d.qu ≤ (s.st.length : Int))))) := rfl
  rw [hF]
  have hok := h.ok.a
  clear h hF
  obtain ⟨⟨wr, rd, sz, de, qu, fl⟩, ac, rc, lo, qd, st⟩ := s
  simp only at *
  generalize qd.length = n1 at *
  generalize st.length = n2 at *
  by_cases h1 : 1152921504606846976 ≤ ac
  · simp only [h1, decide_true, Bool.true_or]
    go_enter Try.func25, Try.ntmps25
    go_wp2_with fail
    go_ret
    exact ⟨rfl, 0, rfl⟩
  · have g1 : decide (1152921504606846976 ≤ ac) = false := by simp [h1]
    rw [g1]
    simp only [Bool.false_or]
    have hw : IntKind.i64.wrap ((n1 : Int) + (n2 : Int)) = (n1 : Int) + (n2 : Int) := w64 (by omega) (by omega)
    cases fl with
    | true =>
      simp only [Bool.true_and, Bool.not_true, Bool.false_and, Bool.or_false]
      go_enter Try.func25, Try.ntmps25
      go_upto_region 4 with fail
      go_quiet (fail)
      go_wp2_with fail
      go_ret
      exact ⟨by first | rfl | simp, _, rfl⟩
    | false =>
      simp only [Bool.true_and, Bool.not_false, Bool.false_and, Bool.false_or]
      go_enter Try.func25, Try.ntmps25
      go_upto_region 5 with fail
      go_quiet (fail)
      go_wp2_with fail
      go_ret
      exact ⟨by first | rfl | simp, _, rfl⟩
/-- What Send answers. -/
def QS.sE (s : QS) (c : Int) (n : Nat) : Int := if c ≠ s.d.wr then 171 else if s.d.sz < (n : Int) then 172 else if n % 4 ≠ 0 then 170 else if s.fu = true then 173 else 0
/-- What it leaves. -/
def QS.push (s : QS) (m : Mg) : QS := ⟨s.d, s.ac + 1, s.rc, s.lo, s.qd, s.st ++ [m]⟩
def QS.send (s : QS) (c : Int) (m : Mg) : QS := if s.sE c m.bs.length = 0 then s.push m else s
theorem sE_ok {s : QS} {c : Int} {n : Nat} : s.sE c n = 0 ↔ c = s.d.wr ∧ (n : Int) ≤ s.d.sz ∧ n % 4 = 0 ∧ s.fu = false := by
  unfold QS.sE
  by_cases h1 : c = s.d.wr
  · by_cases h2 : s.d.sz < (n : Int)
    · simp [h1, h2]; omega
    · by_cases h3 : n % 4 = 0
      · by_cases h4 : s.fu = true
        · simp [h1, h2, h3, h4]
        · simp [h1, h2, h3, h4]; omega
      · simp [h1, h2, h3]
  · simp [h1]
theorem rws_app (a b : List Mg) : rws (a ++ b) = rws a ++ rws b := by simp [rws]
theorem rws_lt {w : World} {l : List Mg} (h : MB w l) {k : Nat} (hk : k ∈ rws l) : k < w.heap.size := by
  obtain ⟨m, hm, e⟩ := List.mem_filterMap.1 hk
  exact (h m hm).lt e
theorem rws_snoc {w : World} {l : List Mg} (h : MB w l) (hn : (rws l).Nodup) {m : Mg} (hw : Nw w m.v) : (rws (l ++ [m])).Nodup := by
  rw [rws_app]
  unfold rws at *
  cases e : m.v.ownBlock with
  | none => simpa [e] using hn
  | some k =>
    have := hw k e
    simp only [List.filterMap_cons, e, List.filterMap_nil]
    refine List.nodup_append.2 ⟨hn, by simp, fun a ha b hb => ?_⟩
    simp at hb
    subst hb
    have := rws_lt h ha
    omega
theorem send_ok_ok {s : QS} (h : s.ok) (hf : s.fu = false) {m : Mg} (h1 : (m.bs.length : Int) ≤ s.d.sz) (h2 : m.bs.length % 4 = 0) : (s.push m).ok := by
  unfold QS.fu at hf
  have hm := may_ok h.d
  have := h.a; have := h.e; have := h.q
  simp at hf
  refine ⟨h.d, ?_, h.r, h.l, ?_, h.q, ?_, ?_, fun x hx => ?_⟩
  · simp [QS.push]; omega
  · simp [QS.push]; omega
  · intro hh
    have hh : s.d.fl = true := hh
    have a1 := h.f hh
    have a2 := hf.2.1 hh
    simp [QS.push]; omega
  · intro hh
    have hh : s.d.fl = false := hh
    have a2 := hf.2.2 hh
    simp [QS.push]; omega
  · simp [QS.push] at hx
    rcases hx with hx | hx | hx
    · exact h.m x (by simp [hx])
    · exact h.m x (by simp [hx])
    · subst hx; exact ⟨h1, h2⟩
/-- A message is staged. -/
theorem IsQ.push {w w1 w2 : World} {B : Nat} {vq vs : Value} {s : QS} (h : IsQ w B vq vs s) (k1 : Kp w w1) {m : Mg} (hb : OB w1 m.v m.bs) (hn : Nw w m.v) (hf : s.fu = false) (hs1 : (m.bs.length : Int) ≤ s.d.sz) (hs2 : m.bs.length % 4 = 0) {v' : Value}
    (ho : OM w2 v' (s.st ++ [m])) (hc : Chg w1 w2 (fun i => vs.ownBlock = some i)) (hL : v'.ownBlock = vs.ownBlock ∨ ∃ k, v'.ownBlock = some k ∧ w1.heap.size ≤ k) :
    IsQ ((w2.setCell ⟨B, 10, none⟩ v').setCell ⟨B, 6, none⟩ (.int .i64 (s.ac + 1))) B vq v' (s.push m) ∧ Chg w ((w2.setCell ⟨B, 10, none⟩ v').setCell ⟨B, 6, none⟩ (.int .i64 (s.ac + 1))) (Ft B vq vs) ∧ (∀ k, Ft B vq v' k → Ft B vq vs k ∨ w.heap.size ≤ k) ∧ w2.heap[B]? = some (.cells (pcs s vq vs) 71 (0, 0)) := by
  have h1 := h.kp k1
  have sz1 := k1.size
  have b2 : w2.heap[B]? = some (.cells (pcs s vq vs) 71 (0, 0)) := hc.heap h1.box (fun e => h.ns e)
  have cB : Chg w2 ((w2.setCell ⟨B, 10, none⟩ v').setCell ⟨B, 6, none⟩ (.int .i64 (s.ac + 1))) (fun k => k = B) := Chg.setCell (S := fun k => k = B) (Chg.setCell (S := fun k => k = B) (Chg.refl w2 _) (.inl rfl) _) (.inl rfl) _
  have b3 : ((w2.setCell ⟨B, 10, none⟩ v').setCell ⟨B, 6, none⟩ (.int .i64 (s.ac + 1))).heap[B]? = some (.cells (pcs (s.push m) vq v') 71 (0, 0)) := by
    rw [heap_setCell_same _ B 6 _ 71 _ (heap_setCell_same w2 B 10 _ 71 _ b2)]
    rfl
  have c12 : Chg w1 ((w2.setCell ⟨B, 10, none⟩ v').setCell ⟨B, 6, none⟩ (.int .i64 (s.ac + 1))) (Ft B vq vs) := Chg.trans (hc.mono (fun _ _ e => .inr (.inr e))) cB (fun _ _ e => .inl e)
  have tp : ∀ k, Ft B vq vs k → ∃ cs T, w1.heap[k]? = some (.cells cs T (0, 0)) ∧ T ≠ 5 := fun k hk => by
    obtain ⟨cs, T, a, b, _⟩ := h1.tp hk
    exact ⟨cs, T, a, b⟩
  have nB : ∀ k, v'.ownBlock = some k → k ≠ B := fun k hk e => ho.no b2 (by decide) (by rw [hk, e])
  refine ⟨⟨b3, ?_, ?_, ?_, ?_, ?_, send_ok_ok h.ok hf hs1 hs2⟩, Chg.trans k1.any c12 (fun _ _ e => e), ?_, b2⟩
  · exact cB.owns (hc.owns h1.q (fun k hk e => h.ap k hk e)) (fun k hk e => h.nq (by rw [hk, e]))
  · exact cB.owns ho (fun k hk e => nB k hk e)
  · have hM : MB w1 ((s.qd ++ s.st) ++ [m]) := h1.b.app (fun x hx => by simp at hx; subst hx; exact hb)
    have := hM.chg c12 tp
    simpa [QS.push] using this
  · intro k hk hk'
    rcases hL with e | ⟨k2, e, hk2⟩
    · rw [e] at hk'; exact h.ap k hk hk'
    · rw [e] at hk'
      have := h.q.lt hk
      simp at hk'
      omega
  · have := rws_snoc h.b h.nd hn
    simpa [QS.push] using this
  · intro k hk
    rcases hk with e | e | e
    · exact .inl (.inl e)
    · exact .inl (.inr (.inl e))
    · rcases hL with e' | ⟨k2, e', hk2⟩
      · exact .inl (.inr (.inr (by rw [← e']; exact e)))
      · rw [e'] at e; simp at e; exact .inr (by omega)
set_option maxHeartbeats 1000000 in
theorem send_no (w : World) (B : Nat) (vq vs : Value) (s : QS) (h : IsQ w B vq vs s) (c tk : Int) (v : Value) (bs : List Int) (hv : Bs w v bs) (hE : s.sE c bs.length ≠ 0) :
    Calls Try.prog 14 #[.pointer (some ⟨B, 0, none⟩), .int .i64 c, .int .u64 tk, v] w fun e w' => e = .returned (.int .i64 (s.sE c bs.length)) ∧ ∃ m, w' = w.drewN m := by
  obtain ⟨a, cp, rfl⟩ := hv.vshape
  have hl := hv.len
  obtain ⟨c0, c1, c2, c3, c4, c5, c6, c7, c8, c9, c10⟩ := h.c
  have hF := full_any w B vq vs s h
  have HE : Hid (s.sE c bs.length ≠ 0) := hE
  have hU : s.sE c bs.length = if c ≠ s.d.wr then 171 else if s.d.sz < (bs.length : Int) then 172 else if bs.length % 4 ≠ 0 then 170 else if s.fu = true then 173 else 0 := rfl
  rw [hU] at hE ⊢
  clear c1 c3 c4 c5 c6 c7 c8 c9 c10 h hv hU
  generalize s.d.wr = pw at *
  generalize s.d.sz = ps at *
  by_cases h1 : c = pw
  · have g1 : (c != pw) = false := by simp [h1]
    by_cases h2 : ps < (bs.length : Int)
    · simp only [h1, h2, ne_eq, not_true, if_false, if_true]
      subst h1
      clear hE HE hF
      go_enter Try.func14, Try.ntmps14
      go_wp2
      go_ret
      exact ⟨rfl, 0, rfl⟩
    · by_cases h3 : bs.length % 4 = 0
      · have h4 : s.fu = true := by
          cases h4 : s.fu with
          | true => rfl
          | false => simp [h1, h2, h3, h4] at hE
        simp only [h1, h2, h3, h4, ne_eq, not_true, if_false, if_true]
        rw [h4] at hF
        subst h1
        have g3 : ((bs.length : Int) % 4 != 0) = false := by simp; omega
        clear hE HE h3 h4
        generalize bs.length = n at *
        go_enter Try.func14, Try.ntmps14
        go_wp2_with fail
        go_at_call 25
        refine hF.mono ?_
        rintro e w1 ⟨rfl, m, rfl⟩
        go_wp2_with fail
        go_ret
        exact ⟨rfl, m, rfl⟩
      · simp only [h1, h2, h3, ne_eq, not_true, not_false_eq_true, if_false, if_true]
        subst h1
        have g3 : ((bs.length : Int) % 4 != 0) = true := by simp; omega
        clear hE HE h3 hF
        generalize bs.length = n at *
        go_enter Try.func14, Try.ntmps14
        go_wp2
        go_ret
        exact ⟨rfl, 0, rfl⟩
  · have g1 : (c != pw) = true := by simp [h1]
    simp only [h1, ne_eq, not_false_eq_true, if_true]
    clear hE HE hF
    go_enter Try.func14, Try.ntmps14
    go_wp2
    go_ret
    exact ⟨rfl, 0, rfl⟩
set_option maxHeartbeats 2000000 in
theorem send_ok (w : World) (B : Nat) (vq vs : Value) (s : QS) (h : IsQ w B vq vs s) (c tk : Int) (v : Value) (bs : List Int) (hv : Bs w v bs) (hE : s.sE c bs.length = 0) :
    Calls Try.prog 14 #[.pointer (some ⟨B, 0, none⟩), .int .i64 c, .int .u64 tk, v] w fun e w' => e = .returned (.int .i64 0) ∧ ∃ v' vs', IsQ w' B vq vs' (s.push ⟨v', bs, tk⟩) ∧ Chg w w' (Ft B vq vs) ∧ (∀ k, Ft B vq vs' k → Ft B vq vs k ∨ w.heap.size ≤ k) ∧ Nw w v' := by
  obtain ⟨a, cp, rfl⟩ := hv.vshape
  have hl := hv.len
  obtain ⟨h1, h2, h3, h4⟩ := sE_ok.1 hE
  obtain ⟨c0, c1, c2, c3, c4, c5, c6, c7, c8, c9, c10⟩ := h.c
  have hF := full_any w B vq vs s h
  rw [h4] at hF
  have HH : Hid (IsQ w B vq vs s ∧ Bs w (.slice a bs.length cp) bs ∧ (bs.length : Int) ≤ s.d.sz ∧ bs.length % 4 = 0 ∧ s.fu = false ∧ s.ac + 1 ≤ 1152921504606846976) := ⟨h, hv, h2, h3, h4, by
    have := (send_ok_ok (m := ⟨.slice none 0 0, bs, tk⟩) h.ok h4 h2 h3).a
    simpa [QS.push] using this⟩
  have HR : Hid (0 ≤ s.ac) := by
    have := h.ok.e; have := h.ok.r; have := h.ok.l
    show 0 ≤ s.ac
    omega
  clear h hv hE h4
  subst h1
  have g1 : (s.d.wr != s.d.wr) = false := by simp
  have g3 : ((bs.length : Int) % 4 != 0) = false := by simp; omega
  clear h3 c1 c3 c4 c5 c6 c7 c8 c9 c10
  obtain ⟨sa, sc, hvs⟩ := HH.out.1.t.shape
  subst hvs
  generalize hpw : s.d.wr = pw at *
  generalize hps : s.d.sz = ps at *
  have HP : Hid (s.d.sz = ps) := hps
  clear hpw hps
  go_enter Try.func14, Try.ntmps14
  go_wp2_with fail
  go_at_call 25
  refine hF.mono ?_
  rintro e w0 ⟨rfl, m0, rfl⟩
  have k0 := Kp.drewN w m0
  have HI : Hid (IsQ (w.drewN m0) B vq (.slice sa s.st.length sc) s) := HH.out.1.kp k0
  have HB : Hid (Bs (w.drewN m0) (.slice a bs.length cp) bs) := HH.out.2.1.kp k0
  have HS : Hid ((w.drewN m0).heap.size = w.heap.size) := rfl
  have HK0 : Hid (Kp w (w.drewN m0)) := k0
  have z10 := HI.out.c.2.2.2.2.2.2.2.2.2.2
  clear hF c0 c2 k0
  go_upto_region 9 with fail
  generalize w.drewN m0 = wa at *
  have hCp : Calls Try.prog 26 #[.agg #[.slice a bs.length cp, .int .u64 tk]] wa.drew fun e w1 => ∃ la ln lc a2 n2 c2 w2, e = .returned (.agg #[.slice la ln lc, .int .u64 tk]) ∧ w1.cell? ⟨B, 10, none⟩ = some (.slice sa s.st.length sc) ∧ (w1.alloc (.cells #[.slice la ln lc, .int .u64 tk] 75)).cell? ⟨B, 10, none⟩ = some (.slice sa s.st.length sc) ∧ (Builtin.append_ #[62, 62] 62 #[.slice sa s.st.length sc, .slice (some ⟨w1.heap.size, 0, none⟩) 1 1]).run Try.prog (w1.alloc (.cells #[.slice la ln lc, .int .u64 tk] 75)) = .ok (.slice a2 n2 c2) w2 ∧ (∃ z, w2.cell? ⟨B, 10, none⟩ = some z) ∧ w2.frozen? ⟨B, 10, none⟩ = false ∧ (Kp w w1 ∧ OB w1 (.slice la ln lc) bs ∧ Nw w (.slice la ln lc) ∧ OM w2 (.slice a2 n2 c2) (s.st ++ [⟨.slice la ln lc, bs, tk⟩]) ∧ Chg w1 w2 (fun i => (Value.slice sa s.st.length sc).ownBlock = some i) ∧ ((Value.slice a2 n2 c2).ownBlock = (Value.slice sa s.st.length sc).ownBlock ∨ ∃ k, (Value.slice a2 n2 c2).ownBlock = some k ∧ w1.heap.size ≤ k)) := by
    refine (copied_any wa.drew _ bs (HB.out.kp (Kp.drew _)) tk).mono ?_
    rintro e w1 ⟨v', rfl, ho, k1, nw⟩
    have I1 := HI.out.kp ((Kp.drew wa).trans k1)
    obtain ⟨a', cp', rfl⟩ := ho.shape
    obtain ⟨v2, w2, hr, ho2, hc2, hL⟩ := run_appM1 w1 (.slice sa s.st.length sc) s.st I1.t ⟨.slice a' bs.length cp', bs, tk⟩ rfl (by have := I1.len.2; omega) 62
    obtain ⟨a2, c2, rfl⟩ := ho2.shape
    have kw : Kp w w1 := HK0.out.trans ((Kp.drew wa).trans k1)
    have b2 : w2.heap[B]? = some (.cells (pcs s vq (.slice sa s.st.length sc)) 71 (0, 0)) := hc2.heap I1.box (fun e => I1.ns e)
    refine ⟨_, _, _, a2, _, c2, w2, rfl, I1.c.2.2.2.2.2.2.2.2.2.2, (I1.kp (Kp.al _ _)).c.2.2.2.2.2.2.2.2.2.2, hr, ⟨_, (cells_at b2 10).1⟩, (cells_at b2 10).2, kw, ho, fun k hk => ?_, ho2, hc2, hL⟩
    have := nw k hk
    have := HS.out
    simp at *
    omega
  refine reg14_9 wa B s.st.length sc bs.length cp sa a tk z10 _ hCp _ (fun _ _ _ q _ h => by cases q <;> exact h) ?_
  intro la ln lc a2 n2 c2 w1 w2 hR
  obtain ⟨r1, r2, r3, r4, r5, r6⟩ := hR
  obtain ⟨I2,C2,F2, b2⟩ := HH.out.1.push r1 (m := ⟨.slice la ln lc, bs, tk⟩) r2 r3 HH.out.2.2.2.2.1 (by rw [HP.out]; exact HH.out.2.2.1) HH.out.2.2.2.1 r4 r5 r6
  have KK : Hid (IsQ ((w2.setCell ⟨B, 10, none⟩ (.slice a2 n2 c2)).setCell ⟨B, 6, none⟩ (.int .i64 (s.ac + 1))) B vq (.slice a2 n2 c2) (s.push ⟨.slice la ln lc, bs, tk⟩) ∧ Chg w ((w2.setCell ⟨B, 10, none⟩ (.slice a2 n2 c2)).setCell ⟨B, 6, none⟩ (.int .i64 (s.ac + 1))) (Ft B vq (.slice sa s.st.length sc)) ∧ (∀ k, Ft B vq (.slice a2 n2 c2) k → Ft B vq (.slice sa s.st.length sc) k ∨ w.heap.size ≤ k) ∧ Nw w (.slice la ln lc)) := ⟨I2,C2,F2, r3⟩
  have b3 := heap_setCell_same w2 B 10 _ 71 (.slice a2 n2 c2) b2
  have y6 : (w2.setCell ⟨B, 10, none⟩ (.slice a2 n2 c2)).cell? ⟨B, 6, none⟩ = some (.int .i64 s.ac) := (cells_at b3 6).1
  have f6 : (w2.setCell ⟨B, 10, none⟩ (.slice a2 n2 c2)).frozen? ⟨B, 6, none⟩ = false := (cells_at b3 6).2
  have hw : IntKind.i64.wrap (s.ac + 1) = s.ac + 1 := w64 (by have := HR.out; omega) (by have := HH.out.2.2.2.2.2; omega)
  clear I2 C2 F2 b2 r1 r2 r3 r4 r5 r6 b3 z10 hCp HI HB HK0 HS HH HR
  generalize w2.setCell ⟨B, 10, none⟩ (.slice a2 n2 c2) = w3 at *
  generalize s.ac = ac at *
  go_wp2_with fail
  go_ret
  exact ⟨rfl, _, _, KK.out.1, KK.out.2.1, KK.out.2.2.1, KK.out.2.2.2⟩
theorem send_any (w : World) (B : Nat) (vq vs : Value) (s : QS) (h : IsQ w B vq vs s) (c tk : Int) (v : Value) (bs : List Int) (hv : Bs w v bs) :
    Calls Try.prog 14 #[.pointer (some ⟨B, 0, none⟩), .int .i64 c, .int .u64 tk, v] w fun e w' => e = .returned (.int .i64 (s.sE c bs.length)) ∧ ∃ v' vs', IsQ w' B vq vs' (s.send c ⟨v', bs, tk⟩) ∧ Chg w w' (Ft B vq vs) ∧ (∀ k, Ft B vq vs' k → Ft B vq vs k ∨ w.heap.size ≤ k) ∧ Nw w v' := by
  by_cases hE : s.sE c bs.length = 0
  · refine (send_ok w B vq vs s h c tk v bs hv hE).mono ?_
    rintro e w' ⟨he, v', vs', h1, h2, h3, h4⟩
    refine ⟨by rw [hE]; exact he, v', vs', ?_, h2, h3, h4⟩
    unfold QS.send
    rw [if_pos hE]
    exact h1
  · refine (send_no w B vq vs s h c tk v bs hv hE).mono ?_
    rintro e w' ⟨he, m, rfl⟩
    refine ⟨he, .slice none 0 0, vs, ?_, (Kp.drewN w m).any, fun k hk => .inl hk, fun k hk => by simp [Value.ownBlock] at hk⟩
    unfold QS.send
    rw [if_neg hE]
    exact h.kp (Kp.drewN w m)
end Go.Proofs.Ytnblhaeojlpmmaa
