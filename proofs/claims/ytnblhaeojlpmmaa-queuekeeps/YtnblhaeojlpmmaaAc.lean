import Derived.Test.YtnblhaeojlpmmaaAb
namespace Go.Proofs.Ytnblhaeojlpmmaa
open Go.ChangeShapes Go.WideShapes Go.ChangeAt Go.RowKit
set_option linter.unusedVariables false
def wiB (n a b : Int) : Bool := decide (a ≤ n) && decide (n ≤ b)
theorem within_any (w : World) (n a b : Int) : Calls Try.prog 44 #[.int .i64 n, .int .i64 a, .int .i64 b] w fun e w' => e = .returned (.bool (wiB n a b)) ∧ w' = w := by
  unfold wiB
  go_enter Try.func44, Try.ntmps44
  by_cases h1 : a ≤ n
  · go_wp2
    go_ret
    simp [h1]
  · go_wp2
    go_ret
    simp; omega
theorem isCell_any (w : World) (n : Int) : Calls Try.prog 42 #[.int .i64 n] w fun e w' => e = .returned (.bool (wiB n 1 8)) ∧ w' = w := by
  have h := within_any w n 1 8
  generalize wiB n 1 8 = b at *
  go_enter Try.func42, Try.ntmps42
  go_wp2_with (first | (go_at_call 44; refine h.mono ?_; rintro e w1 ⟨rfl, rfl⟩) | fail)
  go_ret
  exact ⟨rfl, rfl⟩
/-- May a port be so great? -/
def szB (n : Int) : Bool := wiB n 4 256 && decide (n % 4 = 0)
theorem isSize_any (w : World) (n : Int) : Calls Try.prog 43 #[.int .i64 n] w fun e w' => e = .returned (.bool (szB n)) ∧ w' = w := by
  have h := within_any w n 4 256
  cases hb : wiB n 4 256 with
  | false =>
    rw [hb] at h
    have hs : szB n = false := by unfold szB; rw [hb]; rfl
    rw [hs]
    clear hb hs
    go_enter Try.func43, Try.ntmps43
    go_wp2_with (first | (go_at_call 44; refine h.mono ?_; rintro e w1 ⟨rfl, rfl⟩) | fail)
    go_ret
    exact ⟨rfl, rfl⟩
  | true =>
    rw [hb] at h
    have h4 : 4 ≤ n := by unfold wiB at hb; simp at hb; omega
    have h3 : n.tmod 4 = n % 4 := Int.tmod_eq_emod_of_nonneg (by omega)
    have hs : szB n = (n % 4 == 0) := by
      unfold szB; rw [hb]
      by_cases h : n % 4 = 0
      · simp [h]
      · simp [h]
    rw [hs]
    clear hb hs
    go_enter Try.func43, Try.ntmps43
    go_wp2_with (first | (go_at_call 44; refine h.mono ?_; rintro e w1 ⟨rfl, rfl⟩) | fail)
    go_ret
    exact ⟨by first | rfl | simp [h3], rfl⟩
/-- How a port is declared. -/
structure QD where
  wr : Int
  rd : Int
  sz : Int
  de : Int
  qu : Int
  fl : Bool
def QD.may (d : QD) : Bool := wiB d.wr 1 8 && wiB d.rd 1 8 && (d.wr != d.rd) && szB d.sz && wiB d.de 1 32 && wiB d.qu 1 16
def QD.cs (d : QD) : Array Value := #[.int .i64 d.wr, .int .i64 d.rd, .int .i64 d.sz, .int .i64 d.de, .int .i64 d.qu, .bool d.fl]
theorem may_ok {d : QD} (h : d.may = true) : 1 ≤ d.wr ∧ d.wr ≤ 8 ∧ 1 ≤ d.rd ∧ d.rd ≤ 8 ∧ d.wr ≠ d.rd ∧ 4 ≤ d.sz ∧ d.sz ≤ 256 ∧ d.sz % 4 = 0 ∧ 1 ≤ d.de ∧ d.de ≤ 32 ∧ 1 ≤ d.qu ∧ d.qu ≤ 16 := by
  unfold QD.may szB wiB at h
  simp at h
  omega
set_option maxHeartbeats 2000000 in
theorem mayBe_any (w : World) (wr rd sz de qu : Int) (fl : Bool) :
    Calls Try.prog 21 #[.agg #[.int .i64 wr, .int .i64 rd, .int .i64 sz, .int .i64 de, .int .i64 qu, .bool fl]] w fun e w' => e = .returned (.bool (QD.may ⟨wr, rd, sz, de, qu, fl⟩)) ∧ Kp w w' := by
  have h1 : ∀ W, Calls Try.prog 42 #[.int .i64 wr] W fun e w' => e = .returned (.bool (wiB wr 1 8)) ∧ w' = W := fun W => isCell_any W wr
  have h2 : ∀ W, Calls Try.prog 42 #[.int .i64 rd] W fun e w' => e = .returned (.bool (wiB rd 1 8)) ∧ w' = W := fun W => isCell_any W rd
  have h4 : ∀ W, Calls Try.prog 43 #[.int .i64 sz] W fun e w' => e = .returned (.bool (szB sz)) ∧ w' = W := fun W => isSize_any W sz
  have h5 : ∀ W, Calls Try.prog 44 #[.int .i64 de, .int .i64 1, .int .i64 32] W fun e w' => e = .returned (.bool (wiB de 1 32)) ∧ w' = W := fun W => within_any W de 1 32
  have h6 : ∀ W, Calls Try.prog 44 #[.int .i64 qu, .int .i64 1, .int .i64 16] W fun e w' => e = .returned (.bool (wiB qu 1 16)) ∧ w' = W := fun W => within_any W qu 1 16
  have hM : QD.may ⟨wr, rd, sz, de, qu, fl⟩ = (wiB wr 1 8 && wiB rd 1 8 && (wr != rd) && szB sz && wiB de 1 32 && wiB qu 1 16) := rfl
  rw [hM]
  clear hM
  have kA := Kp.al w (.cells #[.int .i64 wr, .int .i64 rd, .int .i64 sz, .int .i64 de, .int .i64 qu, .bool fl] 23)
  have hb := heap_alloc_new w (.cells #[.int .i64 wr, .int .i64 rd, .int .i64 sz, .int .i64 de, .int .i64 qu, .bool fl] 23)
  have KA : Hid (Kp w (w.alloc (.cells #[.int .i64 wr, .int .i64 rd, .int .i64 sz, .int .i64 de, .int .i64 qu, .bool fl] 23))) := kA
  clear kA
  generalize wiB wr 1 8 = c1 at *
  generalize wiB rd 1 8 = c2 at *
  generalize hc3 : (wr != rd) = c3 at *
  generalize szB sz = c4 at *
  generalize wiB de 1 32 = c5 at *
  generalize wiB qu 1 16 = c6 at *
  go_enter Try.func21, Try.ntmps21
  go_upto_region 1 with fail
  generalize w.alloc (.cells #[.int .i64 wr, .int .i64 rd, .int .i64 sz, .int .i64 de, .int .i64 qu, .bool fl] 23) = W at *
  generalize w.heap.size = N at *
  have d0 : W.cell? ⟨N, 0, none⟩ = some (.int .i64 wr) := (cells_at hb 0).1
  have d1 : W.cell? ⟨N, 1, none⟩ = some (.int .i64 rd) := (cells_at hb 1).1
  have d2 : W.cell? ⟨N, 2, none⟩ = some (.int .i64 sz) := (cells_at hb 2).1
  have d3 : W.cell? ⟨N, 3, none⟩ = some (.int .i64 de) := (cells_at hb 3).1
  have d4 : W.cell? ⟨N, 4, none⟩ = some (.int .i64 qu) := (cells_at hb 4).1
  clear hb
  go_wp2_with fail
  go_at_call 42
  refine (h1 _).mono ?_
  rintro e w1 ⟨rfl, rfl⟩
  cases c1 with
  | false =>
    go_wp2_with fail
    go_ret
    exact ⟨rfl, KA.out⟩
  | true =>
  go_wp2_with fail
  go_at_call 42
  refine (h2 _).mono ?_
  rintro e w1 ⟨rfl, rfl⟩
  cases c2 with
  | false =>
    go_wp2_with fail
    go_ret
    exact ⟨rfl, KA.out⟩
  | true =>
  cases c3 with
  | false =>
    go_wp2_with fail
    go_ret
    exact ⟨rfl, KA.out⟩
  | true =>
  go_wp2_with fail
  go_at_call 43
  refine (h4 _).mono ?_
  rintro e w1 ⟨rfl, rfl⟩
  cases c4 with
  | false =>
    go_wp2_with fail
    go_ret
    exact ⟨rfl, KA.out⟩
  | true =>
  go_wp2_with fail
  go_at_call 44
  refine (h5 _).mono ?_
  rintro e w1 ⟨rfl, rfl⟩
  cases c5 with
  | false =>
    go_wp2_with fail
    go_ret
    exact ⟨rfl, KA.out⟩
  | true =>
  go_wp2_with fail
  go_at_call 44
  refine (h6 _).mono ?_
  rintro e w1 ⟨rfl, rfl⟩
  go_wp2_with fail
  go_ret
  exact ⟨rfl, KA.out⟩
/-- What a port has. -/
structure QS where
  d : QD
  ac : Int
  rc : Int
  lo : Int
  qd : List Mg
  st : List Mg
def pcs (s : QS) (vq vs : Value) : Array Value := #[.int .i64 s.d.wr, .int .i64 s.d.rd, .int .i64 s.d.sz, .int .i64 s.d.de, .int .i64 s.d.qu, .bool s.d.fl, .int .i64 s.ac, .int .i64 s.rc, .int .i64 s.lo, vq, vs]
/-- A state that a port may have. -/
structure QS.ok (s : QS) : Prop where
  d : s.d.may = true
  a : s.ac ≤ 1152921504606846976
  r : 0 ≤ s.rc
  l : 0 ≤ s.lo
  e : s.ac = s.rc + (s.qd.length : Int) + (s.st.length : Int) + s.lo
  q : (s.qd.length : Int) ≤ s.d.de
  f : s.d.fl = true → (s.qd.length : Int) + (s.st.length : Int) ≤ s.d.de ∧ s.lo = 0
  o : s.d.fl = false → (s.st.length : Int) ≤ s.d.qu
  m : ∀ m, m ∈ s.qd ++ s.st → (m.bs.length : Int) ≤ s.d.sz ∧ m.bs.length % 4 = 0
/-- The rows of messages' bytes. -/
def rws (l : List Mg) : List Nat := l.filterMap fun m => m.v.ownBlock
/-- A port in memory. -/
structure IsQ (w : World) (B : Nat) (vq vs : Value) (s : QS) : Prop where
  box : w.heap[B]? = some (.cells (pcs s vq vs) 71 (0, 0))
  q : OM w vq s.qd
  t : OM w vs s.st
  b : MB w (s.qd ++ s.st)
  ap : ∀ k, vq.ownBlock = some k → vs.ownBlock ≠ some k
  nd : (rws (s.qd ++ s.st)).Nodup
  ok : s.ok
/-- Its blocks, but for bytes. -/
def Ft (B : Nat) (vq vs : Value) (k : Nat) : Prop := k = B ∨ vq.ownBlock = some k ∨ vs.ownBlock = some k
section
variable {w w' : World} {B : Nat} {vq vs : Value} {s : QS}
theorem IsQ.lt (h : IsQ w B vq vs s) : B < w.heap.size := hp_lt h.box
theorem IsQ.nq (h : IsQ w B vq vs s) : vq.ownBlock ≠ some B := h.q.no h.box (by decide)
theorem IsQ.ns (h : IsQ w B vq vs s) : vs.ownBlock ≠ some B := h.t.no h.box (by decide)
theorem IsQ.tp (h : IsQ w B vq vs s) {k : Nat} (hk : Ft B vq vs k) : ∃ cs T, w.heap[k]? = some (.cells cs T (0, 0)) ∧ T ≠ 5 ∧ (T = 71 ∨ T = 75) := by
  rcases hk with rfl | hk | hk
  · exact ⟨_, _, h.box, by decide, .inl rfl⟩
  · obtain ⟨cur, hg⟩ := own_tp h.q hk; exact ⟨_, _, hg, by decide, .inr rfl⟩
  · obtain ⟨cur, hg⟩ := own_tp h.t hk; exact ⟨_, _, hg, by decide, .inr rfl⟩
theorem IsQ.chg {S : Nat → Prop} (h : IsQ w B vq vs s) (hc : Chg w w' S) (hn : ∀ k, Ft B vq vs k → ¬ S k) (hT : ∀ k, S k → ∃ cs T, w.heap[k]? = some (.cells cs T (0, 0)) ∧ T ≠ 5) : IsQ w' B vq vs s :=
  ⟨hc.heap h.box (hn B (.inl rfl)), hc.owns h.q (fun k hk => hn k (.inr (.inl hk))), hc.owns h.t (fun k hk => hn k (.inr (.inr hk))), h.b.chg hc hT, h.ap, h.nd, h.ok⟩
theorem IsQ.kp (h : IsQ w B vq vs s) (hc : Kp w w') : IsQ w' B vq vs s := h.chg hc (fun _ _ x => x) (fun _ x => x.elim)
theorem IsQ.fr (h : IsQ w B vq vs s) (i : Nat) : w.frozen? ⟨B, i, none⟩ = false := (cells_at h.box i).2
theorem IsQ.len (h : IsQ w B vq vs s) : s.qd.length ≤ 32 ∧ s.st.length ≤ 32 := by
  have h1 := may_ok h.ok.d
  have h2 := h.ok.q
  refine ⟨by omega, ?_⟩
  cases hf : s.d.fl with
  | true => have := (h.ok.f hf).1; omega
  | false => have := h.ok.o hf; omega
/-- The cells that are read. -/
theorem IsQ.c (h : IsQ w B vq vs s) : w.cell? ⟨B, 0, none⟩ = some (.int .i64 s.d.wr) ∧ w.cell? ⟨B, 1, none⟩ = some (.int .i64 s.d.rd) ∧ w.cell? ⟨B, 2, none⟩ = some (.int .i64 s.d.sz) ∧ w.cell? ⟨B, 3, none⟩ = some (.int .i64 s.d.de) ∧ w.cell? ⟨B, 4, none⟩ = some (.int .i64 s.d.qu) ∧ w.cell? ⟨B, 5, none⟩ = some (.bool s.d.fl) ∧ w.cell? ⟨B, 6, none⟩ = some (.int .i64 s.ac) ∧ w.cell? ⟨B, 7, none⟩ = some (.int .i64 s.rc) ∧ w.cell? ⟨B, 8, none⟩ = some (.int .i64 s.lo) ∧ w.cell? ⟨B, 9, none⟩ = some vq ∧ w.cell? ⟨B, 10, none⟩ = some vs :=
  ⟨(cells_at h.box 0).1, (cells_at h.box 1).1, (cells_at h.box 2).1, (cells_at h.box 3).1, (cells_at h.box 4).1, (cells_at h.box 5).1, (cells_at h.box 6).1, (cells_at h.box 7).1, (cells_at h.box 8).1, (cells_at h.box 9).1, (cells_at h.box 10).1⟩
end
/-- A port that has nothing. -/
def QS.mt (d : QD) : QS := ⟨d, 0, 0, 0, [], []⟩
theorem mt_ok {d : QD} (h : d.may = true) : (QS.mt d).ok := by
  have := may_ok h
  exact ⟨h, by simp [QS.mt], by simp [QS.mt], by simp [QS.mt], by simp [QS.mt], by simp [QS.mt]; omega, by simp [QS.mt]; omega, by simp [QS.mt]; omega, by simp [QS.mt]⟩
set_option maxHeartbeats 2000000 in
theorem new_any (w : World) (wr rd sz de qu : Int) (fl : Bool) :
    Calls Try.prog 8 #[.agg #[.int .i64 wr, .int .i64 rd, .int .i64 sz, .int .i64 de, .int .i64 qu, .bool fl]] w fun e w' => Kp w w' ∧ (QD.may ⟨wr, rd, sz, de, qu, fl⟩ = false ∧ e = .returned (.tuple #[.pointer none, .int .i64 170]) ∨ QD.may ⟨wr, rd, sz, de, qu, fl⟩ = true ∧ ∃ B, e = .returned (.tuple #[.pointer (some ⟨B, 0, none⟩), .int .i64 0]) ∧ w.heap.size ≤ B ∧ IsQ w' B (.slice none 0 0) (.slice none 0 0) (QS.mt ⟨wr, rd, sz, de, qu, fl⟩)) := by
  have kA := Kp.al w (.cells #[.int .i64 wr, .int .i64 rd, .int .i64 sz, .int .i64 de, .int .i64 qu, .bool fl] 23)
  have hb := heap_alloc_new w (.cells #[.int .i64 wr, .int .i64 rd, .int .i64 sz, .int .i64 de, .int .i64 qu, .bool fl] 23)
  have KA : Hid (Kp w (w.alloc (.cells #[.int .i64 wr, .int .i64 rd, .int .i64 sz, .int .i64 de, .int .i64 qu, .bool fl] 23)) ∧ (w.alloc (.cells #[.int .i64 wr, .int .i64 rd, .int .i64 sz, .int .i64 de, .int .i64 qu, .bool fl] 23)).heap[w.heap.size]? = some (.cells #[.int .i64 wr, .int .i64 rd, .int .i64 sz, .int .i64 de, .int .i64 qu, .bool fl] 23 (0, 0))) := ⟨kA, hb⟩
  clear kA
  go_enter Try.func8, Try.ntmps8
  go_upto_region 1 with fail
  generalize w.alloc (.cells #[.int .i64 wr, .int .i64 rd, .int .i64 sz, .int .i64 de, .int .i64 qu, .bool fl] 23) = W at *
  generalize hN : w.heap.size = N at *
  have HN : Hid (w.heap.size = N) := hN
  clear hN
  have d0 : W.cell? ⟨N, 0, none⟩ = some (.int .i64 wr) := (cells_at hb 0).1
  have d1 : W.cell? ⟨N, 1, none⟩ = some (.int .i64 rd) := (cells_at hb 1).1
  have d2 : W.cell? ⟨N, 2, none⟩ = some (.int .i64 sz) := (cells_at hb 2).1
  have d3 : W.cell? ⟨N, 3, none⟩ = some (.int .i64 de) := (cells_at hb 3).1
  have d4 : W.cell? ⟨N, 4, none⟩ = some (.int .i64 qu) := (cells_at hb 4).1
  have d5 : W.cell? ⟨N, 5, none⟩ = some (.bool fl) := (cells_at hb 5).1
  clear hb
  go_wp2_with fail
  go_at_call 21
  refine (mayBe_any W wr rd sz de qu fl).mono ?_
  rintro e w1 ⟨rfl, k1⟩
  have HM : Hid (QD.may ⟨wr, rd, sz, de, qu, fl⟩ = QD.may ⟨wr, rd, sz, de, qu, fl⟩) := rfl
  have hb := k1.heap KA.out.2
  have K1 : Hid (Kp w w1) := KA.out.1.trans k1
  have d0 : w1.cell? ⟨N, 0, none⟩ = some (.int .i64 wr) := (cells_at hb 0).1
  have d1 : w1.cell? ⟨N, 1, none⟩ = some (.int .i64 rd) := (cells_at hb 1).1
  have d2 : w1.cell? ⟨N, 2, none⟩ = some (.int .i64 sz) := (cells_at hb 2).1
  have d3 : w1.cell? ⟨N, 3, none⟩ = some (.int .i64 de) := (cells_at hb 3).1
  have d4 : w1.cell? ⟨N, 4, none⟩ = some (.int .i64 qu) := (cells_at hb 4).1
  have d5 : w1.cell? ⟨N, 5, none⟩ = some (.bool fl) := (cells_at hb 5).1
  clear hb k1 KA
  cases hm : QD.may ⟨wr, rd, sz, de, qu, fl⟩ with
  | false =>
    have HM2 : Hid (QD.may ⟨wr, rd, sz, de, qu, fl⟩ = false) := hm
    clear hm HM
    go_wp2_with fail
    go_ret2
    exact ⟨K1.out, .inl ⟨HM2.out, rfl⟩⟩
  | true =>
    have HM2 : Hid (QD.may ⟨wr, rd, sz, de, qu, fl⟩ = true) := hm
    clear hm HM
    go_wp2_with fail
    go_ret2
    have hsz := K1.out.size
    refine ⟨Chg.alloc K1.out _, .inr ⟨HM2.out, _, rfl, hsz, ⟨?_, OM.nil _, OM.nil _, fun m hm => by simp [QS.mt] at hm, fun k hk => by simp [Value.ownBlock] at hk, by simp [QS.mt, rws], mt_ok HM2.out⟩⟩⟩
    exact heap_alloc_new _ _
end Go.Proofs.Ytnblhaeojlpmmaa
