import Derived.Test.YtnblhaeojlpmmaaAj
namespace Go.Proofs.Ytnblhaeojlpmmaa
open Go.ChangeShapes Go.WideShapes Go.ChangeAt Go.RowKit
set_option linter.unusedVariables false
/-- Messages of any size that can be read. -/
structure RdL (w : World) (v : Value) (l : List Mg) : Prop where
  ex : ∃ a cap, v = .slice a l.length cap ∧ (l = [] ∨ ∃ b o, a = some ⟨b, o, none⟩ ∧ ∀ i (h : i < l.length), w.cell? ⟨b, o + i * 2, none⟩ = some l[i].v ∧ w.cell? ⟨b, o + i * 2 + 1, none⟩ = some (.int .u64 l[i].tk))
  b : ∀ m, m ∈ l → Bs w m.v m.bs
  ln : l.length ≤ 140737488351232
theorem RdL.kp {w w' : World} {v : Value} {l : List Mg} (h : RdL w v l) (hc : Kp w w') : RdL w' v l := by
  obtain ⟨a, cap, hv, hx⟩ := h.ex
  subst hv
  refine ⟨?_, fun m hm => (h.b m hm).kp hc, h.ln⟩
  rcases hx with h1 | ⟨b, o, ha, h1⟩
  · exact ⟨a, cap, rfl, .inl h1⟩
  · subst ha
    exact ⟨_, cap, rfl, .inr ⟨b, o, rfl, fun j hj => ⟨hc.cell (h1 j hj).1, hc.cell (h1 j hj).2⟩⟩⟩
theorem RdL.vshape {w : World} {v : Value} {l : List Mg} (h : RdL w v l) : ∃ a cap, v = .slice a l.length cap := by
  obtain ⟨a, c, e, _⟩ := h.ex
  exact ⟨a, c, e⟩
/-- Messages of one's own can be read. -/
theorem OM.rd {w : World} {v : Value} {l : List Mg} (h : OM w v l) (hb : MB w l) (hl : l.length ≤ 1000) (hs : ∀ m, m ∈ l → m.bs.length ≤ 1000) : RdL w v l := by
  refine ⟨?_, fun m hm => (hb m hm).bs (by have := hs m hm; omega), by omega⟩
  rcases h.at with ⟨rfl, rfl⟩ | ⟨g, cap, cur, rfl, hg, hn, hm, hsz, hcu⟩
  · exact ⟨_, _, rfl, .inl rfl⟩
  · refine ⟨_, _, rfl, .inr ⟨g, 0, rfl, fun i hi => ?_⟩⟩
    have := mcs_at l i _ (List.getElem?_eq_getElem hi)
    rw [Nat.zero_add, (cells_at hg _).1, (cells_at hg _).1, hcu _ (by omega), hcu _ (by omega)]
    exact this
/-- The same messages, in other rows. -/
def Sm (l l' : List Mg) : Prop := l'.map (fun m => (m.bs, m.tk)) = l.map (fun m => (m.bs, m.tk))
theorem Sm.len {l l' : List Mg} (h : Sm l l') : l'.length = l.length := by have := congrArg List.length h; simpa using this
theorem Sm.refl (l : List Mg) : Sm l l := rfl
theorem Sm.trans {a b c : List Mg} (h : Sm a b) (k : Sm b c) : Sm a c := Eq.trans k h
theorem Sm.symm {a b : List Mg} (h : Sm a b) : Sm b a := Eq.symm h
/-- What is copied. -/
structure Cpd (w w' : World) (v : Value) (l l' : List Mg) : Prop where
  o : OM w' v l'
  b : MB w' l'
  k : Kp w w'
  n : Nw w v
  nr : ∀ k, k ∈ rws l' → w.heap.size ≤ k
  nd : (rws l').Nodup
  s : Sm l l'
theorem Cpd.step {w w1 w2 w3 : World} {v v' : Value} {l l' : List Mg} {m m' : Mg} (h : Cpd w w1 v l l') (k2 : Kp w1 w2) (hb : OB w2 m'.v m'.bs) (hn : Nw w1 m'.v) (he : (m'.bs, m'.tk) = (m.bs, m.tk)) (ho : OM w3 v' (l' ++ [m'])) (hc : Chg w2 w3 (fun i => v.ownBlock = some i)) (hL : v'.ownBlock = v.ownBlock ∨ ∃ k, v'.ownBlock = some k ∧ w2.heap.size ≤ k) : Cpd w w3 v' (l ++ [m]) (l' ++ [m']) := by
  have s1 := h.k.size
  have s2 := k2.size
  have o2 : OM w2 v l' := Chg.owns k2 h.o (fun _ _ h => h)
  have tp : ∀ k, v.ownBlock = some k → ∃ cs T, w2.heap[k]? = some (.cells cs T (0, 0)) ∧ T ≠ 5 := fun k hk => by
    obtain ⟨cur, hg⟩ := own_tp o2 hk
    exact ⟨_, _, hg, by decide⟩
  have hb2 : MB w2 (l' ++ [m']) := (h.b.kp k2).app (fun x hx => by simp at hx; subst hx; exact hb)
  refine ⟨ho, hb2.chg hc tp, Chg.trans (h.k.trans k2) hc (fun i hi e => by have := h.n i e; omega), fun k hk => ?_, fun k hk => ?_, ?_, ?_⟩
  · rcases hL with e | ⟨k', e, h'⟩
    · rw [e] at hk; exact h.n k hk
    · rw [e] at hk; simp at hk; omega
  · rw [rws_app] at hk
    rcases List.mem_append.1 hk with hk | hk
    · exact h.nr k hk
    · obtain ⟨x, hx, e⟩ := List.mem_filterMap.1 hk
      simp at hx
      subst hx
      have := hn k e
      omega
  · exact rws_snoc h.b h.nd hn
  · have := h.s
    unfold Sm at *
    simp only [List.map_append, List.map_cons, List.map_nil, this, he]
set_option maxHeartbeats 2000000 in
theorem copiedAll_any (w : World) (v : Value) (l : List Mg) (h : RdL w v l) (hl : l.length ≤ 1000) :
    Calls Try.prog 51 #[v] w fun e w' => ∃ v' l', e = .returned v' ∧ Cpd w w' v' l l' := by
  obtain ⟨a, cap, rfl, hx⟩ := h.ex
  have HH : Hid (RdL w (.slice a l.length cap) l) := h
  clear h
  go_enter Try.func51, Try.ntmps51
  go_wp2_with fail
  go_loopw [3, 5, 8] (fun s3 s5 s8 wr => ∃ (i : Nat) (l' : List Mg), s8 = .int .i64 i ∧ i ≤ l.length ∧ Hid (Cpd w wr s3 (l.take i) l')) (fun _ _ s8 _ => l.length - nI s8)
  case atStart => exact ⟨0, [], rfl, by omega, ⟨OM.nil _, fun m hm => by simp at hm, Kp.refl _, fun k hk => by simp [Value.ownBlock] at hk, fun k hk => by simp [rws] at hk, by simp [rws], rfl⟩⟩
  case round =>
    obtain ⟨i, l', rfl, hi, HC⟩ := hrel
    obtain ⟨oa, oc, rfl⟩ := HC.out.o.shape
    have HL' : Hid (l'.length = i) := by have h0 : l'.length = i := (by have := HC.out.s.len; simp at this; omega); exact h0
    by_cases hlt : i < l.length
    · have hz : (i : Int) < (l.length : Int) := by omega
      rcases hx with rfl | ⟨b, o, rfl, hc⟩
      · simp at hlt
      obtain ⟨x0, x1⟩ := hc i hlt
      have x0 := HC.out.k.cell x0
      have x1 := HC.out.k.cell x1
      have hB := (HH.out.b l[i] (List.getElem_mem hlt)).kp HC.out.k
      obtain ⟨ma, mc, hm⟩ := hB.vshape
      have HB : Hid (Bs wr l[i].v l[i].bs ∧ l.take (i + 1) = l.take i ++ [l[i]]) := ⟨hB, (List.take_append_getElem hlt).symm⟩
      have HMV : Hid (l[i].v = .slice ma l[i].bs.length mc) := hm
      rw [hm] at x0
      clear hm hc hB
      generalize hM : l[i] = m at *
      clear hM
      have k1 := Kp.al wr (.cells #[.slice ma m.bs.length mc, .int .u64 m.tk] 75)
      have b1 := heap_alloc_new wr (.cells #[.slice ma m.bs.length mc, .int .u64 m.tk] 75)
      go_upto_region 5 with fail
      have hcp := copied_any (wr.alloc (.cells #[.slice ma m.bs.length mc, .int .u64 m.tk] 75)) (.slice ma m.bs.length mc) m.bs (by have := HB.out.1.kp k1; rw [HMV.out] at this; exact this) m.tk
      have z0 : (wr.alloc (.cells #[.slice ma m.bs.length mc, .int .u64 m.tk] 75)).cell? ⟨wr.heap.size, 0, none⟩ = some (.slice ma m.bs.length mc) := (cells_at b1 0).1
      have z1 : (wr.alloc (.cells #[.slice ma m.bs.length mc, .int .u64 m.tk] 75)).cell? ⟨wr.heap.size, 1, none⟩ = some (.int .u64 m.tk) := (cells_at b1 1).1
      have HK1 : Hid (Kp wr (wr.alloc (.cells #[.slice ma m.bs.length mc, .int .u64 m.tk] 75))) := k1
      clear k1 b1 x0 x1
      generalize wr.alloc (.cells #[.slice ma m.bs.length mc, .int .u64 m.tk] 75) = w1 at *
      generalize wr.heap.size = N at *
      go_wp2_with fail
      go_at_call 26
      refine hcp.mono ?_
      rintro e w2 ⟨v2, rfl, o2, k2, n2⟩
      obtain ⟨a2, c2, rfl⟩ := o2.shape
      have kk := HK1.out.trans k2
      obtain ⟨v3, w3, hr, ho, hc3, hL3⟩ := run_appM1 w2 (.slice oa l'.length oc) l' (Chg.owns kk HC.out.o (fun _ _ h => h)) ⟨.slice a2 m.bs.length c2, m.bs, m.tk⟩ rfl (by have := HL'.out; omega) 62
      obtain ⟨l2, hl2⟩ : ∃ l2 : List Mg, l2 = l' ++ [⟨.slice a2 m.bs.length c2, m.bs, m.tk⟩] := ⟨_, rfl⟩
      rw [← hl2] at ho
      obtain ⟨a3, c3, rfl⟩ := ho.shape
      have HN : Hid (Cpd w w3 (.slice a3 l2.length c3) (l.take (i + 1)) l2) := by
        rw [hl2] at ho hL3 ⊢
        rw [HB.out.2]
        exact HC.out.step kk (m' := ⟨.slice a2 m.bs.length c2, m.bs, m.tk⟩) o2 (fun k hk => by have := n2 k hk; have := HK1.out.size; omega) rfl ho hc3 hL3
      clear o2 k2 n2 kk ho hc3 hL3 HC HB HK1 hcp z0 z1 HMV
      clear hl2
      go_wp2_with (first | (at_builtin; refine wpList_append_run _ rfl _ _ 62 62 rfl _ _ _ w3 rfl rfl hr ?_) | fail)
      exact ⟨⟨i + 1, l2, by go_num, by omega, HN⟩, by simp [nI]; omega⟩
    · have hz : ¬ (i : Int) < (l.length : Int) := by omega
      have he : l.take i = l := List.take_of_length_le (by omega)
      go_wp2_with fail
      go_ret
      exact ⟨_, rfl, l', by have := HC.out; rw [he] at this; exact this⟩
end Go.Proofs.Ytnblhaeojlpmmaa
namespace Go.Proofs.Ytnblhaeojlpmmaa
open Go.ChangeShapes Go.WideShapes Go.ChangeAt Go.RowKit
set_option linter.unusedVariables false
/-- A state that is loaded. -/
structure SV where
  ac : Int
  rc : Int
  q : Int
  t : Int
  lo : Int
  vq : Value
  vs : Value
  lq : List Mg
  ls : List Mg
def SV.cs (s : SV) : Array Value := #[.int .i64 s.ac, .int .i64 s.rc, .int .i64 s.q, .int .i64 s.t, .int .i64 s.lo, s.vq, s.vs]
/-- What it reads. -/
structure SV.rd (w : World) (s : SV) : Prop where
  hq : RdL w s.vq s.lq
  hs : RdL w s.vs s.ls
  ra : -9223372036854775808 ≤ s.ac ∧ s.ac ≤ 9223372036854775807
  rr : -9223372036854775808 ≤ s.rc ∧ s.rc ≤ 9223372036854775807
  rl : -9223372036854775808 ≤ s.lo ∧ s.lo ≤ 9223372036854775807
/-- Can a port have so many? -/
def fitB (d : QD) (n m : Nat) (lo : Int) : Bool := if d.fl = true then decide ((n : Int) + (m : Int) ≤ d.de) && decide (lo = 0) else decide ((n : Int) ≤ d.de) && decide ((m : Int) ≤ d.qu)
def msB (sz : Int) (l : List Mg) : Bool := l.all (fun m => decide ((m.bs.length : Int) ≤ sz) && decide (m.bs.length % 4 = 0))
def addB (s : SV) : Bool := decide (s.q = (s.lq.length : Int)) && decide (s.t = (s.ls.length : Int)) && wiB s.rc 0 1152921504606846976 && wiB s.lo 0 1152921504606846976 && decide (s.ac ≤ 1152921504606846976) && decide (s.ac = s.rc + s.q + s.t + s.lo)
set_option maxHeartbeats 2000000 in
theorem fits_any (w : World) (B : Nat) (vq vs : Value) (s : QS) (h : IsQ w B vq vs s) (x : SV) (hx : x.rd w) :
    Calls Try.prog 48 #[.pointer (some ⟨B, 0, none⟩), .agg #[.int .i64 x.ac, .int .i64 x.rc, .int .i64 x.q, .int .i64 x.t, .int .i64 x.lo, x.vq, x.vs]] w fun e w' => e = .returned (.bool (fitB s.d x.lq.length x.ls.length x.lo)) ∧ Kp w w' := by
  obtain ⟨a1, p1, h1⟩ := hx.hq.vshape
  obtain ⟨a2, p2, h2⟩ := hx.hs.vshape
  have l1 := hx.hq.ln
  have l2 := hx.hs.ln
  rw [h1, h2]
  have kA := Kp.al w (.cells #[.int .i64 x.ac, .int .i64 x.rc, .int .i64 x.q, .int .i64 x.t, .int .i64 x.lo, .slice a1 x.lq.length p1, .slice a2 x.ls.length p2] 64)
  have hb := heap_alloc_new w (.cells #[.int .i64 x.ac, .int .i64 x.rc, .int .i64 x.q, .int .i64 x.t, .int .i64 x.lo, .slice a1 x.lq.length p1, .slice a2 x.ls.length p2] 64)
  have HA : Hid (Kp w (w.alloc (.cells #[.int .i64 x.ac, .int .i64 x.rc, .int .i64 x.q, .int .i64 x.t, .int .i64 x.lo, .slice a1 x.lq.length p1, .slice a2 x.ls.length p2] 64)) ∧ IsQ (w.alloc (.cells #[.int .i64 x.ac, .int .i64 x.rc, .int .i64 x.q, .int .i64 x.t, .int .i64 x.lo, .slice a1 x.lq.length p1, .slice a2 x.ls.length p2] 64)) B vq vs s) := ⟨kA, h.kp kA⟩
  clear h kA hx h1 h2
  generalize x.lq.length = n1 at *
  generalize x.ls.length = n2 at *
  obtain ⟨r, hr⟩ : ∃ r, fitB s.d n1 n2 x.lo = r := ⟨_, rfl⟩
  have HR : Hid (fitB s.d n1 n2 x.lo = r) := hr
  rw [hr]
  clear hr
  go_enter Try.func48, Try.ntmps48
  go_upto_region 1 with fail
  generalize w.alloc (.cells #[.int .i64 x.ac, .int .i64 x.rc, .int .i64 x.q, .int .i64 x.t, .int .i64 x.lo, .slice a1 n1 p1, .slice a2 n2 p2] 64) = W at *
  generalize w.heap.size = N at *
  have z4 : W.cell? ⟨N, 4, none⟩ = some (.int .i64 x.lo) := (cells_at hb 4).1
  have z5 : W.cell? ⟨N, 5, none⟩ = some (.slice a1 n1 p1) := (cells_at hb 5).1
  have z6 : W.cell? ⟨N, 6, none⟩ = some (.slice a2 n2 p2) := (cells_at hb 6).1
  have HB : Hid (W.heap[N]? = some (.cells #[.int .i64 x.ac, .int .i64 x.rc, .int .i64 x.q, .int .i64 x.t, .int .i64 x.lo, .slice a1 n1 p1, .slice a2 n2 p2] 64 (0, 0))) := hb
  clear hb
  go_quiet (fail)
  go_upto_region 2 with fail
  have HA2 : Hid (Kp w (W.drewN nq)) := HA.out.1.trans (Kp.drewN W nq)
  obtain ⟨c0, c1, c2, c3, c4, c5, c6, c7, c8, c9, c10⟩ := (HA.out.2.kp (Kp.drewN W nq)).c
  have y4 : (W.drewN nq).cell? ⟨N, 4, none⟩ = some (.int .i64 x.lo) := (cells_at HB.out 4).1
  clear z4 z5 z6 HA HB c0 c1 c2 c6 c7 c8 c9 c10
  generalize W.drewN nq = W2 at *
  generalize s.d = d at *
  obtain ⟨wr, rd, sz, de, qu, fl⟩ := d
  unfold fitB at HR
  simp only at *
  generalize x.lo = lo at *
  have hw : IntKind.i64.wrap ((n1 : Int) + (n2 : Int)) = (n1 : Int) + (n2 : Int) := w64 (by omega) (by omega)
  cases fl with
  | true =>
    by_cases g1 : (n1 : Int) + (n2 : Int) ≤ de
    · go_wp2_with fail
      go_ret
      refine ⟨?_, HA2.out⟩
      rw [← HR.out]
      by_cases g2 : lo = 0
      · simp [g1, g2]
      · simp [g1, g2]
    · go_wp2_with fail
      go_ret
      refine ⟨?_, HA2.out⟩
      rw [← HR.out]
      have g2 : decide ((n1 : Int) + (n2 : Int) ≤ de) = false := by simp; omega
      simp only [if_true, g2, Bool.false_and]
      rfl
  | false =>
    by_cases g1 : (n1 : Int) ≤ de
    · go_wp2_with fail
      go_ret
      refine ⟨?_, HA2.out⟩
      rw [← HR.out]
      simp [g1]
    · go_wp2_with fail
      go_ret
      refine ⟨?_, HA2.out⟩
      rw [← HR.out]
      have g2 : decide ((n1 : Int) ≤ de) = false := by simp; omega
      simp only [Bool.false_eq_true, if_false, g2, Bool.false_and]
      rfl
set_option maxHeartbeats 2000000 in
theorem areMsgs_any (w : World) (B : Nat) (vq vs : Value) (s : QS) (h : IsQ w B vq vs s) (v : Value) (l : List Mg) (hx : RdL w v l) :
    Calls Try.prog 49 #[.pointer (some ⟨B, 0, none⟩), v] w fun e w' => e = .returned (.bool (msB s.d.sz l)) ∧ Kp w w' := by
  obtain ⟨a, cap, rfl, hc⟩ := hx.ex
  have hl := hx.ln
  have HH : Hid (RdL w (.slice a l.length cap) l ∧ IsQ w B vq vs s) := ⟨hx, h⟩
  clear hx h
  go_enter Try.func49, Try.ntmps49
  go_wp2_with fail
  go_loopw [6, 9] (fun s6 s9 wr => ∃ i : Nat, s9 = .int .i64 i ∧ i ≤ l.length ∧ Hid (Kp w wr ∧ msB s.d.sz (l.take i) = true)) (fun _ s9 _ => l.length - nI s9)
  case atStart => exact ⟨0, rfl, by omega, Kp.refl _, rfl⟩
  case round =>
    obtain ⟨i, rfl, hi, HK⟩ := hrel
    by_cases hlt : i < l.length
    · have hz : (i : Int) < (l.length : Int) := by omega
      rcases hc with rfl | ⟨b, o, rfl, hc⟩
      · simp at hlt
      obtain ⟨x0, x1⟩ := hc i hlt
      have x0 := HK.out.1.cell x0
      have x1 := HK.out.1.cell x1
      have hB := HH.out.1.b l[i] (List.getElem_mem hlt)
      obtain ⟨ma, mc, hm⟩ := hB.vshape
      have hbl := hB.len
      have e1 : msB s.d.sz (l.take (i + 1)) = (decide ((l[i].bs.length : Int) ≤ s.d.sz) && decide (l[i].bs.length % 4 = 0)) := by
        rw [← List.take_append_getElem hlt]
        unfold msB
        rw [List.all_append]
        have := HK.out.2
        unfold msB at this
        rw [this]
        simp
      have e2 : (decide ((l[i].bs.length : Int) ≤ s.d.sz) && decide (l[i].bs.length % 4 = 0)) = false → msB s.d.sz l = false := fun hf => by
        unfold msB
        rw [List.all_eq_false]
        exact ⟨l[i], List.getElem_mem hlt, by rw [hf]; simp⟩
      have HE : Hid (msB s.d.sz (l.take (i + 1)) = (decide ((l[i].bs.length : Int) ≤ s.d.sz) && decide (l[i].bs.length % 4 = 0)) ∧ ((decide ((l[i].bs.length : Int) ≤ s.d.sz) && decide (l[i].bs.length % 4 = 0)) = false → msB s.d.sz l = false)) := ⟨e1, e2⟩
      rw [hm] at x0
      clear hm hc hB e1 e2
      generalize l[i].bs.length = nb at *
      generalize l[i].tk = tk at *
      have k1 := Kp.al wr (.cells #[.slice ma nb mc, .int .u64 tk] 75)
      have b1 := heap_alloc_new wr (.cells #[.slice ma nb mc, .int .u64 tk] 75)
      have HK1 : Hid (Kp w (wr.alloc (.cells #[.slice ma nb mc, .int .u64 tk] 75)) ∧ (wr.alloc (.cells #[.slice ma nb mc, .int .u64 tk] 75)).heap[wr.heap.size]? = some (.cells #[.slice ma nb mc, .int .u64 tk] 75 (0, 0))) := ⟨HK.out.1.trans k1, b1⟩
      clear k1 b1 HK
      go_upto_region 4 with fail
      generalize wr.alloc (.cells #[.slice ma nb mc, .int .u64 tk] 75) = w1 at *
      generalize wr.heap.size = N at *
      clear x0 x1
      have z0 : w1.cell? ⟨N, 0, none⟩ = some (.slice ma nb mc) := (cells_at HK1.out.2 0).1
      have y2 := (HH.out.2.kp HK1.out.1).c.2.2.1
      generalize hps : s.d.sz = ps at *
      have HPS : Hid (s.d.sz = ps) := hps
      clear hps
      by_cases g1 : ps < (nb : Int)
      · have gd : decide (ps < (nb : Int)) = true := by simp [g1]
        go_quiet (fail)
        go_wp2_with fail
        go_ret
        exact ⟨by rw [HPS.out, HE.out.2 (by simp; omega)]; rfl, HK1.out.1.trans (Kp.drewN _ _)⟩
      · have gd : decide (ps < (nb : Int)) = false := by simp [g1]
        by_cases g2 : nb % 4 = 0
        · have g3 : ((nb : Int) % 4 != 0) = false := by simp; omega
          go_quiet (fail)
          go_wp2_with fail
          refine ⟨⟨i + 1, by go_num, by omega, HK1.out.1.trans (Kp.drewN _ _), ?_⟩, by simp [nI]; omega⟩
          rw [HPS.out, HE.out.1]; simp; omega
        · have g3 : ((nb : Int) % 4 != 0) = true := by simp; omega
          go_quiet (fail)
          go_wp2_with fail
          go_ret
          exact ⟨by rw [HPS.out, HE.out.2 (by simp; omega)]; rfl, HK1.out.1.trans (Kp.drewN _ _)⟩
    · have hz : ¬ (i : Int) < (l.length : Int) := by omega
      have he : l.take i = l := List.take_of_length_le (by omega)
      have HK2 : Hid (Kp w wr ∧ msB s.d.sz l = true) := ⟨HK.out.1, by have := HK.out.2; rw [he] at this; exact this⟩
      clear HK
      go_wp2_with fail
      go_ret
      exact ⟨by rw [HK2.out.2]; rfl, HK2.out.1⟩
end Go.Proofs.Ytnblhaeojlpmmaa
namespace Go.Proofs.Ytnblhaeojlpmmaa
open Go.ChangeShapes Go.WideShapes Go.ChangeAt Go.RowKit
set_option linter.unusedVariables false
set_option maxHeartbeats 4000000 in
theorem addUp_any (w : World) (x : SV) (hx : x.rd w) :
    Calls Try.prog 50 #[.agg #[.int .i64 x.ac, .int .i64 x.rc, .int .i64 x.q, .int .i64 x.t, .int .i64 x.lo, x.vq, x.vs]] w fun e w' => e = .returned (.bool (addB x)) ∧ Kp w w' := by
  obtain ⟨a1, p1, h1⟩ := hx.hq.vshape
  obtain ⟨a2, p2, h2⟩ := hx.hs.vshape
  have l1 := hx.hq.ln
  have l2 := hx.hs.ln
  rw [h1, h2]
  obtain ⟨r, hr⟩ : ∃ r, addB x = r := ⟨_, rfl⟩
  have HR0 : addB x = r := hr
  rw [hr]
  clear hr h1 h2 hx
  unfold addB at HR0
  obtain ⟨ac, rc, q, t, lo, vq, vs, lq, ls⟩ := x
  simp only at *
  generalize lq.length = n1 at *
  generalize ls.length = n2 at *
  have HR : Hid ((decide (q = (n1 : Int)) && decide (t = (n2 : Int)) && wiB rc 0 1152921504606846976 && wiB lo 0 1152921504606846976 && decide (ac ≤ 1152921504606846976) && decide (ac = rc + q + t + lo)) = r) := HR0
  have hc3 : ∀ W, Calls Try.prog 44 #[.int .i64 rc, .int .i64 0, .int .i64 1152921504606846976] W fun e w' => e = .returned (.bool (wiB rc 0 1152921504606846976)) ∧ w' = W := fun W => within_any W rc 0 1152921504606846976
  have hc4 : ∀ W, Calls Try.prog 44 #[.int .i64 lo, .int .i64 0, .int .i64 1152921504606846976] W fun e w' => e = .returned (.bool (wiB lo 0 1152921504606846976)) ∧ w' = W := fun W => within_any W lo 0 1152921504606846976
  clear HR0
  have kA := Kp.al w (.cells #[.int .i64 ac, .int .i64 rc, .int .i64 q, .int .i64 t, .int .i64 lo, .slice a1 n1 p1, .slice a2 n2 p2] 64)
  have hb := heap_alloc_new w (.cells #[.int .i64 ac, .int .i64 rc, .int .i64 q, .int .i64 t, .int .i64 lo, .slice a1 n1 p1, .slice a2 n2 p2] 64)
  have kB := Kp.al (w.alloc (.cells #[.int .i64 ac, .int .i64 rc, .int .i64 q, .int .i64 t, .int .i64 lo, .slice a1 n1 p1, .slice a2 n2 p2] 64)) (.cells #[.int .i64 ac, .int .i64 rc, .int .i64 q, .int .i64 t, .int .i64 lo] 48)
  have hb2 := heap_alloc_new (w.alloc (.cells #[.int .i64 ac, .int .i64 rc, .int .i64 q, .int .i64 t, .int .i64 lo, .slice a1 n1 p1, .slice a2 n2 p2] 64)) (.cells #[.int .i64 ac, .int .i64 rc, .int .i64 q, .int .i64 t, .int .i64 lo] 48)
  have HA2 : Hid (Kp w ((w.alloc (.cells #[.int .i64 ac, .int .i64 rc, .int .i64 q, .int .i64 t, .int .i64 lo, .slice a1 n1 p1, .slice a2 n2 p2] 64)).alloc (.cells #[.int .i64 ac, .int .i64 rc, .int .i64 q, .int .i64 t, .int .i64 lo] 48))) := kA.trans kB
  have hbo := kB.heap hb
  have z0 : (w.alloc (.cells #[.int .i64 ac, .int .i64 rc, .int .i64 q, .int .i64 t, .int .i64 lo, .slice a1 n1 p1, .slice a2 n2 p2] 64)).cell? ⟨w.heap.size, 0, none⟩ = some (.int .i64 ac) := (cells_at hb 0).1
  clear kA kB z0
  go_enter Try.func50, Try.ntmps50
  go_upto_region 2 with fail
  have hsz : (w.alloc (.cells #[.int .i64 ac, .int .i64 rc, .int .i64 q, .int .i64 t, .int .i64 lo, .slice a1 n1 p1, .slice a2 n2 p2] 64)).heap.size = w.heap.size + 1 := by simp
  rw [hsz] at hb2
  clear hsz hb
  generalize (w.alloc (.cells #[.int .i64 ac, .int .i64 rc, .int .i64 q, .int .i64 t, .int .i64 lo, .slice a1 n1 p1, .slice a2 n2 p2] 64)).alloc (.cells #[.int .i64 ac, .int .i64 rc, .int .i64 q, .int .i64 t, .int .i64 lo] 48) = W at *
  generalize w.heap.size = N at *
  have y5 : W.cell? ⟨N, 5, none⟩ = some (.slice a1 n1 p1) := (cells_at hbo 5).1
  have y6 : W.cell? ⟨N, 6, none⟩ = some (.slice a2 n2 p2) := (cells_at hbo 6).1
  have z0 : W.cell? ⟨N + 1, 0, none⟩ = some (.int .i64 ac) := (cells_at hb2 0).1
  have z1 : W.cell? ⟨N + 1, 1, none⟩ = some (.int .i64 rc) := (cells_at hb2 1).1
  have z2 : W.cell? ⟨N + 1, 2, none⟩ = some (.int .i64 q) := (cells_at hb2 2).1
  have z3 : W.cell? ⟨N + 1, 3, none⟩ = some (.int .i64 t) := (cells_at hb2 3).1
  have z4 : W.cell? ⟨N + 1, 4, none⟩ = some (.int .i64 lo) := (cells_at hb2 4).1
  clear hbo hb2
  by_cases g1 : q = (n1 : Int)
  case neg =>
    have e1 : (q == (n1 : Int)) = false := by simp [g1]
    have e2 : decide (q = (n1 : Int)) = false := by simp [g1]
    go_wp2_with fail
    go_ret
    refine ⟨?_, HA2.out⟩
    rw [← HR.out]
    rw [e2]
    rfl
  subst g1
  by_cases g2 : t = (n2 : Int)
  case neg =>
    have e1 : (t == (n2 : Int)) = false := by simp [g2]
    have e2 : decide (t = (n2 : Int)) = false := by simp [g2]
    go_wp2_with fail
    go_ret
    refine ⟨?_, HA2.out⟩
    rw [← HR.out]
    rw [e2]
    simp
  subst g2
  go_wp2_with fail
  go_at_call 44
  refine (hc3 _).mono ?_
  rintro e w3 ⟨rfl, rfl⟩
  cases h3 : wiB rc 0 1152921504606846976 with
  | false =>
    rw [h3] at HR
    clear h3
    go_wp2_with fail
    go_ret
    refine ⟨?_, HA2.out⟩
    rw [← HR.out]
    simp
  | true =>
  have b3 : 0 ≤ rc ∧ rc ≤ 1152921504606846976 := by unfold wiB at h3; simp at h3; exact h3
  rw [h3] at HR
  clear h3
  go_wp2_with fail
  go_at_call 44
  refine (hc4 _).mono ?_
  rintro e w3 ⟨rfl, rfl⟩
  cases h4 : wiB lo 0 1152921504606846976 with
  | false =>
    rw [h4] at HR
    clear h4
    go_wp2_with fail
    go_ret
    refine ⟨?_, HA2.out⟩
    rw [← HR.out]
    simp
  | true =>
  have b4 : 0 ≤ lo ∧ lo ≤ 1152921504606846976 := by unfold wiB at h4; simp at h4; exact h4
  rw [h4] at HR
  clear h4
  by_cases g5 : ac ≤ 1152921504606846976
  case neg =>
    have e2 : decide (ac ≤ 1152921504606846976) = false := by simp; omega
    go_wp2_with fail
    go_ret
    refine ⟨?_, HA2.out⟩
    rw [← HR.out]
    rw [e2]
    simp
  have v1 : IntKind.i64.wrap (rc + (n1 : Int)) = rc + (n1 : Int) := w64 (by omega) (by omega)
  have v2 : IntKind.i64.wrap (rc + (n1 : Int) + (n2 : Int)) = rc + (n1 : Int) + (n2 : Int) := w64 (by omega) (by omega)
  have v3 : IntKind.i64.wrap (rc + (n1 : Int) + (n2 : Int) + lo) = rc + (n1 : Int) + (n2 : Int) + lo := w64 (by omega) (by omega)
  go_wp2_with fail
  go_ret
  refine ⟨?_, HA2.out⟩
  rw [← HR.out]
  by_cases g6 : ac = rc + (n1 : Int) + (n2 : Int) + lo
  · simp [g6]
    omega
  · simp [g6]
end Go.Proofs.Ytnblhaeojlpmmaa
