import Derived.Test.YtfmiicbaooaheaaDoorOa
namespace Go.Proofs.YtfmiicbaooaheaaDoor
open Go.ChangeShapes Go.WideShapes Go.ChangeAt Go.RowKit Go.Shelf
set_option linter.unusedVariables false
attribute [local go_sem] Oper.semAt_some
/-- A cell's observations. -/
def own (c : Int) (L : List Ob) : List Ob := L.filter (fun x => decide (x.c = c))
theorem own_take {c : Int} {L : List Ob} {i : Nat} (hi : i < L.length) : own c (L.take (i + 1)) = own c (L.take i) ++ (if L[i].c = c then [L[i]] else []) := by
  unfold own
  rw [List.take_add_one, List.filter_append, List.getElem?_eq_getElem hi]
  congr 1
  by_cases h : L[i].c = c <;> simp [h]
theorem own_split (c : Int) (L : List Ob) (i : Nat) : own c L = own c (L.take i) ++ own c (L.drop i) := by
  unfold own
  rw [← List.filter_append, List.take_append_drop]
theorem own_at {c : Int} {L : List Ob} {i : Nat} (hi : i < L.length) (h : L[i].c = c) : ∃ h2 : (own c (L.take i)).length < (own c L).length, (own c L)[(own c (L.take i)).length] = L[i] := by
  have e : own c L = own c (L.take i) ++ (L[i] :: own c (L.drop (i + 1))) := by
    rw [own_split c L i]
    congr 1
    unfold own
    rw [List.drop_eq_getElem_cons hi, List.filter_cons]
    simp [h]
  have h2 : (own c (L.take i)).length < (own c L).length := by
    have := congrArg List.length e
    rw [List.length_append, List.length_cons] at this
    omega
  refine ⟨h2, ?_⟩
  have h3 : (own c L)[(own c (L.take i)).length]? = some L[i] := by
    rw [e, List.getElem?_append_right (by simp)]
    simp
  rw [List.getElem?_eq_getElem h2] at h3
  exact Option.some.inj h3
/-- What the iterator holds to: its two boxes and its list, below s. -/
structure oBx (s0 s bA bC : Nat) (c : Int) (L : List Ob) (a : Option Addr) (cap : Nat) (W : World) : Prop where
  lA : s0 ≤ bA ∧ bA < s
  lC : s0 ≤ bC ∧ bC < s
  ok : ∀ x ∈ L, x.ok
  ln : L.length ≤ 1000000
  le : L.length ≤ cap
  cc : W.cell? ⟨bC, 0, none⟩ = some (.int .i64 c)
  ca : W.cell? ⟨bA, 0, none⟩ = some (.slice a L.length cap)
  rd : L = [] ∨ ∃ b o, a = some ⟨b, o, none⟩ ∧ (s0 ≤ b ∧ b < s) ∧ RdO W b o L
theorem oBx.chg {s0 s bA bC : Nat} {c : Int} {L : List Ob} {a : Option Addr} {cap : Nat} {W W' : World} {S : Nat → Prop} (x : oBx s0 s bA bC c L a cap W) (hc : Chg W W' S) (hS : ∀ k, s0 ≤ k → k < s → ¬ S k) : oBx s0 s bA bC c L a cap W' := by
  refine ⟨x.lA, x.lC, x.ok, x.ln, x.le, hc.cell' (hS _ x.lC.1 x.lC.2) x.cc, hc.cell' (hS _ x.lA.1 x.lA.2) x.ca, ?_⟩
  rcases x.rd with h3 | ⟨b, o, e, hb, hr⟩
  · exact .inl h3
  · exact .inr ⟨b, o, e, hb, hr.chg hc (hS _ hb.1 hb.2)⟩
theorem oBx.kp {s0 s bA bC : Nat} {c : Int} {L : List Ob} {a : Option Addr} {cap : Nat} {W W' : World} (x : oBx s0 s bA bC c L a cap W) (k : Kp W W') : oBx s0 s bA bC c L a cap W' := x.chg k (fun _ _ _ e => e)
theorem oBx.two {s0 s bA bC : Nat} {c : Int} {L : List Ob} {a : Option Addr} {cap : Nat} {W W' : World} (x : oBx s0 s bA bC c L a cap W) (hc : Chg W W' (Two s)) : oBx s0 s bA bC c L a cap W' := x.chg hc (by rintro k _ hk (e | e) <;> omega)
def oKp (s0 s bA bC : Nat) (c : Int) (L : List Ob) (a : Option Addr) (cap : Nat) (_ : Unit) (A C : World) : Prop := oBx s0 s bA bC c L a cap A → oBx s0 s bA bC c L a cap C
def oGood (_ : Unit) (W W1 : World) : Prop := Kp W W1
def zOb : Ob := ⟨0, 0, 0, 0, 0, 0⟩
/-- The k-th one. -/
def nth (l : List Ob) (k : Nat) : Ob := l.getD k zOb
theorem nth_eq {l : List Ob} {k : Nat} (h : k < l.length) : nth l k = l[k] := by
  unfold nth; rw [List.getD_eq_getElem?_getD, List.getElem?_eq_getElem h]; rfl
def oArgs (c : Int) (L : List Ob) (_ : Unit) (k : Nat) : Array Value := #[(nth (own c L) k).v]
set_option maxHeartbeats 1000000 in
/-- Of. -/
theorem of_any (w : World) (c : Int) (a : Option Addr) (L : List Ob) (cap : Nat) (hL : ObI w a L) (hb : L.length ≤ 1000000) (hok : ∀ x ∈ L, x.ok) :
    Calls Tryd.prog 10 #[.int .i64 c, .slice a L.length cap] w fun e w' => ∃ bA bC a1 cap1, e = .returned (.func (.func 17) #[] #[.pointer (some ⟨bA, 0, none⟩), .pointer (some ⟨bC, 0, none⟩)]) ∧ oBx w.heap.size w'.heap.size bA bC c L a1 cap1 w' ∧ Kp w w' := by
  have A1 := clone_obs (w.alloc (.cells #[.int .i64 c] 3)) a L cap (hL.kp (Kp.al _ _)) hb
  generalize hn : L.length = n at A1 ⊢
  go_enter Tryd.func10, Tryd.ntmps10
  go_wp2_with fail
  go_at_call 16
  refine A1.mono ?_
  rintro e w1 ⟨v, rfl, ho, k1, hnw⟩
  have c1 := k1.cell (cells_at (heap_alloc_new w (.cells #[.int .i64 c] 3)) 0).1
  have kk : Kp w w1 := (Kp.al _ _).trans k1
  have hI1' : ∀ b o, ∀ a1 n1 cap1, v = .slice a1 n1 cap1 → a1 = some ⟨b, o, none⟩ → w.heap.size ≤ b := fun b o a1 n1 cap1 e e2 => by
    have hw : w.heap.size ≤ (w.alloc (.cells #[.int .i64 c] 3)).heap.size := by simp
    have := hnw b (by rw [e, e2]; simp [Value.ownBlock])
    omega
  obtain ⟨a1, cap1, rfl, hc1, hI1⟩ := ho.sh
  have HF : Hid (∃ bA bC a2 cap2, (Ending.returned (.func (.func 17) #[] #[.pointer (some ⟨w1.heap.size, 0, none⟩), .pointer (some ⟨w.heap.size, 0, none⟩)])) = .returned (.func (.func 17) #[] #[.pointer (some ⟨bA, 0, none⟩), .pointer (some ⟨bC, 0, none⟩)]) ∧ oBx w.heap.size (w1.alloc (.cells #[.slice a1 L.length cap1] 25)).heap.size bA bC c L a2 cap2 (w1.alloc (.cells #[.slice a1 L.length cap1] 25)) ∧ Kp w (w1.alloc (.cells #[.slice a1 L.length cap1] 25))) := by
    have k2 := Kp.al w1 (.cells #[.slice a1 L.length cap1] 25)
    have hsz := kk.size
    have h1 : w.heap.size < w1.heap.size := by
      have := k1.size
      simp at this
      omega
    refine ⟨_, _, a1, cap1, rfl, ⟨⟨kk.size, by simp⟩, ⟨Nat.le_refl _, by simp; omega⟩, hok, hb, hc1, k2.cell c1, (cells_at (heap_alloc_new w1 _) 0).1, ?_⟩, kk.trans k2⟩
    rcases hI1 with e | ⟨b, o, e, hr⟩
    · exact .inl e
    · by_cases h0 : L = []
      · exact .inl h0
      · have hlt : 0 < L.length := List.length_pos_iff.2 h0
        have := lt_of_cell (hr.c 0 hlt).1
        exact .inr ⟨b, o, e, ⟨hI1' b o _ _ _ rfl e, by simp; omega⟩, hr.kp k2⟩
  clear A1 ho k1 hnw c1 kk hI1 hL hI1'
  rw [hn] at HF ⊢
  go_wp2
  go_ret
  exact HF.out
set_option maxHeartbeats 4000000 in
set_option maxRecDepth 10000 in
/-- A range over it. -/
theorem of_seq (w : World) (lo s m bA bC : Nat) (c : Int) (L : List Ob) (a : Option Addr) (cap : Nat) (x : oBx lo s bA bC c L a cap w) :
    Seq Tryd.prog (m + 1) 17 #[.pointer (some ⟨bA, 0, none⟩), .pointer (some ⟨bC, 0, none⟩)] (own c L).length (oArgs c L) oGood (oKp lo s bA bC c L a cap) w := by
  intro l J Jx W hC hsz hJ h0 hY
  have hx := x.kp hC
  have ca := hx.ca
  have hcap := hx.le
  have hln := x.ln
  have HJ : Hid (∀ t k A B, J t k A → Chg A B (fun _ => False) → J t k B) := hJ
  have HY : Hid (∀ (t : Unit) (k : Nat) (W1 : World), k < (own c L).length → J t k W1 → YieldAt Fence.wide (m + 1 - 1) Tryd.prog l (oArgs c L t k) W1 fun e W' => (e = .returned (.bool true) ∧ J t (k + 1) W' ∧ oKp lo s bA bC c L a cap t W1 W') ∨ (e = .returned (.bool false) ∧ Jx W')) := hY
  have HP : Hid (J () (own c (L.take 0)).length W ∧ oBx lo s bA bC c L a cap W) := ⟨by simpa [own] using h0 () W (Kp.refl W), hx⟩
  clear hJ h0 hY x hC hsz hx
  obtain ⟨n, hn⟩ : ∃ n, n = L.length := ⟨_, rfl⟩
  rw [← hn] at ca hcap hln
  refine callsIn_of_wp Tryd.func17 rfl trivial ?_ rfl
  simp only [Tryd.ntmps17, List.size_toArray, List.length_cons, List.length_nil, Nat.reduceAdd, Nat.reduceSub, Array.replicate_succ, Array.replicate_zero, List.push_toArray, List.append_toArray, List.nil_append, List.cons_append]
  gi_wp2_with fail
  gi_loopw [8] (fun s8 wr => ∃ i : Nat, s8 = .int .i64 (i : Nat) ∧ i ≤ n ∧ Hid (J () (own c (L.take i)).length wr ∧ oBx lo s bA bC c L a cap wr)) (fun s8 _ => n - (intOf s8).toNat)
  case atStart => exact ⟨0, rfl, by omega, HP⟩
  case round =>
    obtain ⟨i, rfl, hi, HI⟩ := hrel
    clear HP
    by_cases hlt : i < n
    · have hltz : (i : Int) < n := by omega
      have hiL : i < L.length := by omega
      obtain ⟨b, o, rfl, hbs, hrd⟩ : ∃ b o, a = some ⟨b, o, none⟩ ∧ (lo ≤ b ∧ b < s) ∧ RdO wr b o L := by
        rcases HI.out.2.rd with e | e
        · rw [e] at hiL; simp at hiL
        · exact e
      obtain ⟨s0, s1, s2, s3, s4, s5⟩ := hrd.c i hiL
      have cc := HI.out.2.cc
      obtain ⟨wn, hwn⟩ : ∃ wn, wn = wr.alloc (.cells #[.int .u64 L[i].t, .int .i64 L[i].c, .int .i64 L[i].k, .int .u32 L[i].p, .int .u32 L[i].a, .int .u32 L[i].b] 31) := ⟨_, rfl⟩
      have kn : Kp wr wn := by rw [hwn]; exact Kp.al _ _
      have gn : wn.heap[wr.heap.size]? = some (.cells #[.int .u64 L[i].t, .int .i64 L[i].c, .int .i64 L[i].k, .int .u32 L[i].p, .int .u32 L[i].a, .int .u32 L[i].b] 31 (0, 0)) := by rw [hwn]; exact heap_alloc_new _ _
      have cn := kn.cell cc
      have t0 := (cells_at gn 0).1
      have t1 := (cells_at gn 1).1
      have t2 := (cells_at gn 2).1
      have t3 := (cells_at gn 3).1
      have t4 := (cells_at gn 4).1
      have t5 := (cells_at gn 5).1
      simp only [List.getElem?_toArray, List.getElem?_cons_zero, List.getElem?_cons_succ] at t0 t1 t2 t3 t4 t5
      by_cases hcx : L[i].c = c
      · have hcb : (L[i].c == c) = true := by simp [hcx]
        obtain ⟨hj, hjv⟩ := own_at hiL hcx
        have hnx : (own c (L.take (i + 1))).length = (own c (L.take i)).length + 1 := by rw [own_take hiL, if_pos hcx]; simp
        obtain ⟨fn, tm, asg, bd, hy, hRR⟩ : ∃ fn tmps assign body, (Instr.yield l #[.agg #[.int .u64 L[i].t, .int .i64 L[i].c, .int .i64 L[i].k, .int .u32 L[i].p, .int .u32 L[i].a, .int .u32 L[i].b]]).run Tryd.prog wn = .ok (.round l fn tmps assign body) wn ∧ RoundIn Fence.wide (m + 1 - 1) Tryd.prog l fn tmps assign body wn fun e W'' => ∃ bb, e = .returned (.bool bb) ∧ Hid ((bb = true → J () (own c (L.take (i + 1))).length W'' ∧ oBx lo s bA bC c L (some ⟨b, o, none⟩) cap W'') ∧ (bb = false → Jx W'')) := by
          obtain ⟨fn, tmps, assign, body, hy, hR⟩ := HY.out () _ wn hj (HJ.out _ _ _ _ HI.out.1 kn)
          unfold oArgs at hy
          rw [nth_eq hj, hjv] at hy
          refine ⟨fn, tmps, assign, body, hy, hR.mono ?_⟩
          rintro e W'' (⟨rfl, h1, hk⟩ | ⟨rfl, h1⟩)
          · exact ⟨true, rfl, ⟨fun _ => ⟨by rw [hnx]; exact h1, hk (HI.out.2.kp kn)⟩, fun h => (by cases h)⟩⟩
          · exact ⟨false, rfl, ⟨fun h => (by cases h), fun _ => h1⟩⟩
        clear hj hjv hnx kn gn hrd HJ HY hcx
        generalize L[i].t = xt at *
        generalize L[i].c = xc at *
        generalize L[i].k = xk at *
        generalize L[i].p = xp at *
        generalize L[i].a = xa at *
        generalize L[i].b = xb at *
        subst hwn
        gi_wp2
        refine RoundIn.mono (show RoundIn Fence.wide m Tryd.prog l fn tm asg bd _ _ from hRR) ?_
        rintro e W5 ⟨bb, rfl, H5⟩
        clear hRR hy HI s0 s1 s2 s3 s4 s5 t0 t1 t2 t3 t4 t5 cn cc
        cases bb
        · gi_wp2
          refine bodyPost_ret (results_none rfl _ _ _) rfl ?_
          exact ⟨⟨_, rfl⟩, .inr (H5.out.2 (by trivial))⟩
        · have HN : Hid (J () (own c (L.take (i + 1))).length W5 ∧ oBx lo s bA bC c L (some ⟨b, o, none⟩) cap W5) := H5.out.1 (by trivial)
          clear H5
          gi_wp2
          exact ⟨⟨i + 1, by go_num, by omega, HN⟩, by simp [intOf]; omega⟩
      · have hcb : (L[i].c == c) = false := by simp [hcx]
        have hnx : own c (L.take (i + 1)) = own c (L.take i) := by rw [own_take hiL, if_neg hcx]; simp
        have HN : Hid (J () (own c (L.take (i + 1))).length wn ∧ oBx lo s bA bC c L (some ⟨b, o, none⟩) cap wn) := ⟨by rw [hnx]; exact HJ.out _ _ _ _ HI.out.1 kn, HI.out.2.kp kn⟩
        clear hnx kn gn hrd HJ HY HI hcx
        generalize L[i].t = xt at *
        generalize L[i].c = xc at *
        generalize L[i].k = xk at *
        generalize L[i].p = xp at *
        generalize L[i].a = xa at *
        generalize L[i].b = xb at *
        subst hwn
        gi_wp2_with fail
        refine ⟨(fun _ h => by simp at h), ?_⟩
        gi_wp2
        exact ⟨⟨i + 1, by go_num, by omega, HN⟩, by simp [intOf]; omega⟩
    · have hltz : ¬ (i : Int) < n := by omega
      have KF : Hid (∃ t, J t (own c L).length wr) := ⟨(), by
        have e1 : i = L.length := by omega
        have := HI.out.1
        rw [e1, List.take_length] at this
        exact this⟩
      gi_wp2
      go_end0
      exact ⟨⟨_, rfl⟩, .inl KF.out⟩
end Go.Proofs.YtfmiicbaooaheaaDoor
