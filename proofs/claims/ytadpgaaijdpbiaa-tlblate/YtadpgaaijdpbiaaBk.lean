import Derived.Test.YtadpgaaijdpbiaaSl
namespace Go.Proofs.Ytadpgaaijdpbiaa
open Go.ChangeShapes Go.WideShapes Go.ChangeAt Go.RowKit Go.Shelf
set_option linter.unusedVariables false
attribute [local go_sem] Oper.semAt_some

/-- Slots that can be read. -/
structure SlotsIn (w : World) (a : Option Addr) (len : Nat) (l : List Sl4) : Prop where
  ln : len = l.length
  src : len = 0 ∨ ∃ b off, a = some ⟨b, off, none⟩ ∧ b < w.heap.size ∧ ∀ i (h : i < l.length), w.cell? ⟨b, off + i * 4, none⟩ = some (.int .i64 (l[i]).1.1) ∧ w.cell? ⟨b, off + i * 4 + 1, none⟩ = some (.int .u32 (((l[i]).1.2 : Nat) : Int)) ∧ w.cell? ⟨b, off + i * 4 + 2, none⟩ = some (.int .u32 (((l[i]).2.1 : Nat) : Int)) ∧ w.cell? ⟨b, off + i * 4 + 3, none⟩ = some (.int .u8 (((l[i]).2.2 : Nat) : Int))
theorem SlotsIn.kept {w w' : World} {a : Option Addr} {len : Nat} {l : List Sl4} {S : Nat → Prop} (h : SlotsIn w a len l) (hc : Chg w w' S) (hS : ∀ x : Addr, a = some x → ¬ S x.block) : SlotsIn w' a len l := by
  refine ⟨h.ln, h.src.imp_right ?_⟩
  rintro ⟨b, off, rfl, hb, hh⟩
  have hn := hS _ rfl
  exact ⟨b, off, rfl, Nat.lt_of_lt_of_le hb hc.size, fun i hi => ⟨(hc.cell hb hn).trans (hh i hi).1, (hc.cell hb hn).trans (hh i hi).2.1, (hc.cell hb hn).trans (hh i hi).2.2.1, (hc.cell hb hn).trans (hh i hi).2.2.2⟩⟩
theorem SlotsIn.kp {w w' : World} {a : Option Addr} {len : Nat} {l : List Sl4} (h : SlotsIn w a len l) (hc : Kp w w') : SlotsIn w' a len l := h.kept hc (fun _ _ x => x)
theorem SR.slotsIn {w : World} {va : Option Addr} {n cap : Nat} {l : List Sl4} (h : SR w (.slice va n cap) l) (hn : n = l.length) : SlotsIn w va n l := by
  refine ⟨hn, ?_⟩
  rcases h.2 with ⟨h1, h0⟩ | ⟨g, cap', cur, h1, _, hg, _⟩
  · exact .inl (by omega)
  · simp at h1
    obtain ⟨rfl, rfl, rfl⟩ := h1
    refine .inr ⟨g, 0, rfl, (Array.getElem?_eq_some_iff.1 hg).1, fun i hi => ?_⟩
    have := SR.cells h i hi
    simpa using this
def bAt (l : List Sl4) (k : Nat) : Sl4 := l.getD k ((0, 0), (0, 0))
theorem bAt_get (l : List Sl4) (k : Nat) (h : k < l.length) : bAt l k = l[k] := by
  unfold bAt
  rw [List.getD_eq_getElem?_getD, List.getElem?_eq_getElem h]; rfl
def bArgs (l : List Sl4) (_ : Unit) (k : Nat) : Array Value := #[.int .i64 ((l.length : Int) - 1 - (k : Int)), .agg #[.int .i64 (bAt l (l.length - 1 - k)).1.1, .int .u32 (((bAt l (l.length - 1 - k)).1.2 : Nat) : Int), .int .u32 (((bAt l (l.length - 1 - k)).2.1 : Nat) : Int), .int .u8 (((bAt l (l.length - 1 - k)).2.2 : Nat) : Int)]]
def bKp (b : Nat) (a : Option Addr) (len cap : Nat) (l : List Sl4) (_ : Unit) (A C : World) : Prop := A.cell? ⟨b, 0, none⟩ = some (.slice a len cap) ∧ SlotsIn A a len l → C.cell? ⟨b, 0, none⟩ = some (.slice a len cap) ∧ SlotsIn C a len l

theorem Backward_any (w : World) (v : Value) (a : Option Addr) (len cap : Nat) (hv : v = .slice a len cap) :
    Calls Try.prog 39 #[v] w fun e w' => e = .returned (.func (.func 53) #[] #[.pointer (some ⟨w.heap.size, 0, none⟩)]) ∧ w' = w.alloc (.cells #[.slice a len cap] 55) := by
  subst hv
  go_enter Try.func39, Try.ntmps39
  go_wp2
  go_ret
  exact ⟨rfl, rfl⟩

set_option maxHeartbeats 1000000 in
set_option maxRecDepth 10000 in
theorem back_seq (w : World) (m b : Nat) (a : Option Addr) (len cap : Nat) (l : List Sl4) (hS : SlotsIn w a len l) (hb : w.cell? ⟨b, 0, none⟩ = some (.slice a len cap)) (h64 : len ≤ 1000) :
    Seq Try.prog (m + 1) 53 #[.pointer (some ⟨b, 0, none⟩)] len (bArgs l) (fun _ W W1 => Kp W W1) (bKp b a len cap l) w := by
  intro lo J Jx W hC hsz hJ h0 hY
  have cB : W.cell? ⟨b, 0, none⟩ = some (.slice a len cap) := Kp.cell hC hb
  have KI : Hid (J () 0 W ∧ W.cell? ⟨b, 0, none⟩ = some (.slice a len cap) ∧ SlotsIn W a len l) := ⟨h0 () W (Chg.refl _ _), cB, hS.kp hC⟩
  have HY : Hid (∀ (t : Unit) (k : Nat) (W1 : World), k < len → J t k W1 → YieldAt Fence.wide (m + 1 - 1) Try.prog lo (bArgs l t k) W1 fun e W' => (e = .returned (.bool true) ∧ J t (k + 1) W' ∧ bKp b a len cap l t W1 W') ∨ (e = .returned (.bool false) ∧ Jx W')) := hY
  clear hJ h0 hY hb hC hS
  refine callsIn_of_wp Try.func53 rfl trivial ?_ rfl
  simp only [Try.ntmps53, List.size_toArray, List.length_cons, List.length_nil, Nat.reduceAdd, Nat.reduceSub, Array.replicate_succ, Array.replicate_zero, List.push_toArray, List.append_toArray, List.nil_append, List.cons_append]
  gi_wp2
  gi_loopw [3] (fun s3 wr => ∃ j : Nat, s3 = .int .i64 ((len : Int) - 1 - (j : Int)) ∧ j ≤ len ∧ Hid (J () j wr ∧ wr.cell? ⟨b, 0, none⟩ = some (.slice a len cap) ∧ SlotsIn wr a len l)) (fun s3 _ => (intOf s3 + 1).toNat)
  case atStart => exact ⟨0, by go_num, by omega, KI⟩
  case round =>
    obtain ⟨j, rfl, hj, HI⟩ := hrel
    by_cases hlt : j < len
    · obtain ⟨p, hp⟩ : ∃ p : Nat, p = len - 1 - j := ⟨_, rfl⟩
      have ep : (len : Int) - 1 - (j : Int) = (p : Int) := by omega
      have hpl : p < l.length := by have := HI.out.2.2.ln; omega
      have hp0 : (0 : Int) ≤ (p : Int) := by omega
      have hpz : (p : Int) < (len : Int) := by omega
      obtain ⟨bb, off, hab, _, hh⟩ := HI.out.2.2.src.resolve_left (by omega)
      subst hab
      obtain ⟨x, hx⟩ : ∃ x, x = bAt l p := ⟨_, rfl⟩
      obtain ⟨c0, c1, c2, c3⟩ := hh p hpl
      rw [← bAt_get l p hpl, ← hx] at c0 c1 c2 c3
      have cb := HI.out.2.1
      obtain ⟨fn, tmps, assign, body, hy, hR⟩ := HY.out () j wr hlt HI.out.1
      unfold bArgs at hy
      have e2 : (l.length : Int) - 1 - (j : Int) = (p : Int) := by have := HI.out.2.2.ln; omega
      have e3 : l.length - 1 - j = p := by have := HI.out.2.2.ln; omega
      rw [e2, e3, ← hx] at hy
      have HP : Hid (p = len - 1 - j) := hp
      rw [ep]
      clear hp ep e2 e3 hh hx hpl
      gi_wp2
      refine RoundIn.mono (show RoundIn Fence.wide m Try.prog lo fn tmps assign body _ _ from hR) ?_
      rintro e W3 (⟨rfl, hJ3, hK3⟩ | ⟨rfl, hJx3⟩)
      · have HN : Hid (J () (j + 1) W3 ∧ W3.cell? ⟨b, 0, none⟩ = some (.slice (some ⟨bb, off, none⟩) len cap) ∧ SlotsIn W3 (some ⟨bb, off, none⟩) len l) := ⟨hJ3, hK3 HI.out.2⟩
        clear hR hy hJ3 hK3 c0 c1 c2 c3 cb
        gi_wp2
        refine ⟨⟨j + 1, by have := HP.out; go_num, by omega, HN⟩, by simp [intOf]⟩
      · clear hR hy
        gi_wp2
        refine bodyPost_ret (results_none rfl _ _ _) rfl ?_
        exact ⟨⟨_, rfl⟩, .inr hJx3⟩
    · have ej : (len : Int) - 1 - (j : Int) = -1 := by omega
      have KF : Hid (∃ t, J t len wr) := ⟨(), by
        have hj2 : j = len := by omega
        rw [← hj2]; exact HI.out.1⟩
      rw [ej]
      clear ej
      gi_wp2
      go_end0
      exact ⟨⟨_, rfl⟩, .inl KF.out⟩
end Go.Proofs.Ytadpgaaijdpbiaa
