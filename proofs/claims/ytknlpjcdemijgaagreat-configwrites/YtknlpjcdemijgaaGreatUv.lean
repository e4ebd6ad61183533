import Derived.Test.YtknlpjcdemijgaaGreatUi
import Derived.Test.YtknlpjcdemijgaaGreatUk
namespace Go.Proofs.YtknlpjcdemijgaaGreat
open Go.ChangeShapes Go.WideShapes Go.ChangeAt Go.RowKit
set_option linter.unusedVariables false
theorem run_appK (w : World) (v : Value) (xs : List Int) (hown : OwnB w v xs) (x : Int) (hx : 0 ≤ x ∧ x ≤ 255) (hb : xs.length + 1 ≤ 140737488355328) (ty : TypeId) :
  ∃ v' w', (Builtin.append_ #[33, 33] ty #[v, .slice (some ⟨w.heap.size, 0, none⟩) 1 1]).run Tryz.prog (w.alloc (.cells #[.int .u8 x] 5)) = .ok v' w' ∧ OwnB w' v' (xs ++ [x]) ∧ Chg w w' (fun k => v.ownBlock = some k) ∧ (v'.ownBlock = v.ownBlock ∨ (Kp w w' ∧ ∃ k, v'.ownBlock = some k ∧ w.heap.size ≤ k)) := by
 obtain ⟨i0, hi, hz0, hz1, hz2⟩ := info_parts info5
 have k1 := Kp.al w (.cells #[.int .u8 x] 5)
 have hs1 : (w.alloc (.cells #[.int .u8 x] 5)).heap.size = w.heap.size + 1 := by simp
 have hc : ∀ j u, [Value.int .u8 x][j]? = some u → (w.alloc (.cells #[.int .u8 x] 5)).cell? ((⟨w.heap.size, 0, none⟩ : Addr).add j) = some u := fun j u hu => by
  rw [Addr.add_lit, Nat.zero_add, (cells_at (heap_alloc_new w _) _).1]
  simpa using hu
 have hO : OwnB (w.alloc (.cells #[.int .u8 x] 5)) v xs := hown.chg k1 (fun _ _ e => e)
 have hone : ∀ u ∈ [Value.int .u8 x], u.oneCell' = true := by intro u hu; simp at hu; rw [hu]; rfl
 have fin : ∀ v' w', w'.ownsRow 0 5 1 v' (xs.length + 1) (xs.map (Value.int .u8) ++ [.int .u8 x]) → OwnB w' v' (xs ++ [x]) := fun v' w' h => by
  refine ⟨?_, fun n hn => ?_⟩
  ·rw [List.length_append, List.map_append]; exact h
  ·rcases List.mem_append.1 hn with h | h
   ·exact hown.2 n h
   ·simp at h; rw [h]; exact hx
 generalize w.alloc (.cells #[.int .u8 x] 5) = W at *
 rcases hO.1.2 with ⟨rfl, h0⟩ | ⟨g, cap, cur, rfl, hbg, hg, hnc, hcm, hcs, htake⟩
 ·obtain rfl : xs = [] := List.eq_nil_of_length_eq_zero h0
  obtain ⟨v', w', hr, h2, h3, h4⟩ := run_append_own (P := Tryz.prog) W W.heap.size 33 ty 5 i0 (.int .u8 0) 1 1 Tryz.underlying33 hi hz0 hz1 hz2 rfl (by decide) (.slice none 0 0) 0 [] (World.ownsRow_nil W _ 5 1) ⟨w.heap.size, 0, none⟩ 1 1 [.int .u8 x] rfl hc hone (by simp [maxLen]) (by omega) (Nat.le_refl _)
  obtain ⟨q1, q2⟩ := loc_new (v := .slice none 0 0) h2 (fun _ => rfl)
  have hk : Kp w w' := Chg.trans k1 (Chg.grown (Chg.refl W (fun _ => False)) h3 (fun k hk => by cases hk)) (fun _ _ e => e)
  refine ⟨v', w', hr, fin v' w' q1, Kp.any hk, ?_⟩
  rcases q2 with e | ⟨k, e, hk'⟩
  ·exact .inl e
  ·exact .inr ⟨hk, k, e, by omega⟩
 ·by_cases hroom : xs.length + 1 ≤ cap
  ·obtain ⟨w', hr, h2, h3⟩ := run_append_fits (P := Tryz.prog) W 0 33 ty 5 i0 1 Tryz.underlying33 hi hz1 g xs.length cap _ hO.1 ⟨w.heap.size, 0, none⟩ 1 1 [.int .u8 x] rfl hc hone hroom
   exact ⟨_, w', hr, fin _ w' h2, Chg.trans (Kp.any k1) (Chg.grown (Chg.refl W _) h3 (fun k hk => .inl hk)) (fun _ _ e => e), .inl rfl⟩
  ·have holds := hO.1.cells (g := g) rfl
   obtain ⟨v', w', hr, h2, h3⟩ := run_append_arg_grows (P := Tryz.prog) W 33 ty 5 i0 (.int .u8 0) 1 1 Tryz.underlying33 hi hz0 hz1 hz2 rfl (by decide) ⟨g, 0, none⟩ xs.length cap _ hO.1.1 holds ⟨w.heap.size, 0, none⟩ 1 1 [.int .u8 x] rfl hc (by omega) (by simp [maxLen]; omega) (by omega)
   rcases h2.2 with ⟨_, h0⟩ | ⟨g', cap', cur', rfl, hb', r'⟩
   ·omega
   ·have hk : Kp w w' := Chg.trans k1 (Chg.grown (Chg.refl W (fun _ => False)) (show W.grownBy w' none from ⟨h3.os, h3.tape, h3.output, h3.size, fun k hk _ => h3.block k hk (by simp)⟩) (fun k hk => by cases hk)) (fun _ _ e => e)
    exact ⟨_, w', hr, fin _ w' ⟨h2.1, .inr ⟨g', cap', cur', rfl, Nat.zero_le _, r'⟩⟩, Kp.any hk, .inr ⟨hk, g', rfl, by omega⟩⟩
def peB (g : Cf) : List Int := if encOk g then encB g else []
def peC (g : Cf) : Int := if encOk g then 0 else 130
structure PeE (w : World) (g : Cf) (r : Ending) (w' : World) (a : Option Addr) (c : Nat) : Prop where
 kp : Kp w w'
 r : r = .returned (.tuple #[.slice a (peB g).length c, .int .i64 (peC g)])
 ow : OwnB w' (.slice a (peB g).length c) (peB g)
 nw : ∀ k, Value.ownBlock (.slice a (peB g).length c) = some k → w.heap.size ≤ k
theorem EncE.pe {w w' : World} {g : Cf} {r : Ending} (h : EncE w g r w') : ∃ a c, PeE w g r w' a c := by
 obtain ⟨k, ⟨ho, v, hr, hw, hf⟩ | ⟨ho, hr⟩⟩ := h
 ·obtain ⟨a, c, rfl⟩ := own_sl hw.1
  have e : peB g = encB g := by unfold peB; rw [ho]; rfl
  refine ⟨a, c, k, by rw [hr, e]; unfold peC; rw [ho]; rfl, by rw [e]; exact hw, by rw [e]; exact hf⟩
 ·have e : peB g = [] := by unfold peB; rw [ho]; rfl
  exact ⟨none, 0, k, by rw [hr, e]; unfold peC; rw [ho]; rfl, by rw [e]; exact OwnB.nil _, by rw [e]; intro k hk; cases hk⟩
theorem REnc.pe {w w' : World} {g : Cf} {r : Ending} (h : REnc w g r w') : ∃ a c, PeE w g r w' a c := by
 obtain ⟨k, ⟨ho, hr⟩ | ⟨ho, a, c, hr, hw, hf⟩⟩ := h
 ·have e : peB g = [] := by unfold peB; rw [ho]; rfl
  exact ⟨none, 0, k, by rw [hr, e]; unfold peC; rw [ho]; rfl, by rw [e]; exact OwnB.nil _, by rw [e]; intro k hk; cases hk⟩
 ·have e : peB g = encB g := by unfold peB; rw [ho]; rfl
  exact ⟨a, c, k, by rw [hr, e]; unfold peC; rw [ho]; rfl, by rw [e]; exact hw, by rw [e]; exact hf⟩
end Go.Proofs.YtknlpjcdemijgaaGreat
namespace Go.Proofs.YtknlpjcdemijgaaGreat
open Go.ChangeShapes Go.WideShapes Go.ChangeAt Go.RowKit
set_option linter.unusedVariables false
structure BR where
 a : Option Addr
 c : Nat
 n : Nat
def BR.v (x : BR) : Value := .slice x.a x.n x.c
def mkd (i m j n : Nat) : Nat := if j < i then n else if j = i then m else 0
structure LQ (wb w : World) (G : Nat) (R : List BR) (i m : Nat) : Prop where
 kp : Kp wb w
 hG : wb.heap.size ≤ G
 box : w.heap[G]? = some (.cells (R.map BR.v).toArray 33 (0, 0))
 ow : ∀ (j : Nat) (x : BR), R[j]? = some x → ∃ bs : List Int, bs.length = x.n ∧ x.n ≤ 2000000 ∧ OwnB w x.v bs ∧ ∀ q, q < mkd i m j x.n → bs[q]? = some ((j : Int) + 1)
 nw : ∀ (j : Nat) (x : BR) (k : Nat), R[j]? = some x → x.v.ownBlock = some k → wb.heap.size ≤ k
 ne : ∀ (j l : Nat) (x y : BR) (k : Nat), R[j]? = some x → R[l]? = some y → j ≠ l → x.v.ownBlock = some k → y.v.ownBlock ≠ some k
section
variable {wb w : World} {G : Nat} {R : List BR} {i m : Nat}
theorem LQ.cell (h : LQ wb w G R i m) (j : Nat) (x : BR) (hx : R[j]? = some x) : w.cell? ⟨G, j, none⟩ = some (.slice x.a x.n x.c) := by
 rw [(cells_at h.box j).1]
 simp [hx, BR.v]
theorem LQ.next (h : LQ wb w G R i m) (x : BR) (hx : R[i]? = some x) (hm : m = x.n) : LQ wb w G R (i + 1) 0 := by
 refine ⟨h.kp, h.hG, h.box, fun j y hy => ?_, h.nw, h.ne⟩
 obtain ⟨bs, h1, h0, h2, h3⟩ := h.ow j y hy
 refine ⟨bs, h1, h0, h2, fun q hq => h3 q ?_⟩
 unfold mkd at hq ⊢
 by_cases hj : j < i
 ·rw [if_pos hj]; rw [if_pos (by omega)] at hq; exact hq
 ·rw [if_neg hj]
  by_cases hj2 : j = i
  ·subst hj2
   rw [hx] at hy; cases hy
   rw [if_pos rfl]; rw [if_pos (by omega)] at hq; omega
  ·rw [if_neg (by omega)] at hq
   split at hq <;> omega
theorem LQ.at_ (h : LQ wb w G R i m) (hi : i < 4) (x : BR) (hx : R[i]? = some x) (hm : m < x.n) : ∃ g, x.a = some ⟨g, 0, none⟩ ∧ (∃ z, w.cell? ⟨g, m, none⟩ = some z) ∧ w.frozen? ⟨g, m, none⟩ = false ∧ LQ wb (w.setCell ⟨g, m, none⟩ (.int .u8 ((i : Int) + 1))) G R i (m + 1) := by
 obtain ⟨bs, h1, h0, h2, h3⟩ := h.ow i x hx
 have h2' : OwnB w (.slice x.a bs.length x.c) bs := by rw [h1]; exact h2
 obtain ⟨g, hg, hcap, hob⟩ := own_some h2'.1 (by omega)
 obtain ⟨cu, hcu⟩ := own_tp h2'.1 hob
 rw [hg] at h2' hob
 have hxv : x.v = .slice (some ⟨g, 0, none⟩) bs.length x.c := by rw [h1, ← hg]; rfl
 have hgb : x.v.ownBlock = some g := by rw [hxv]; rfl
 have d : Chg w (w.setCell ⟨g, m, none⟩ (.int .u8 ((i : Int) + 1))) (fun k => k = g) := Chg.setCell (Chg.refl _ (fun k => k = g)) (.inl rfl) _
 refine ⟨g, hg, ⟨_, (h2'.cellAt m (by omega)).1⟩, (cells_at hcu m).2, ⟨Chg.trans h.kp d (fun k hk e => by subst e; have := h.nw i x k hx hgb; omega), h.hG, d.heap h.box (fun e => by subst e; exact absurd (tp_ne h.box hcu) (by decide)), fun j y hy => ?_, h.nw, h.ne⟩⟩
 by_cases hj : j = i
 ·subst hj
  rw [hx] at hy; cases hy
  refine ⟨bs.set m ((j : Int) + 1), by simpa using h1, h0, by rw [hxv]; exact h2'.set m ((j : Int) + 1) (by omega), fun q hq => ?_⟩
  have hq' : q < m + 1 := by unfold mkd at hq; rw [if_neg (by omega), if_pos rfl] at hq; exact hq
  by_cases hqm : q = m
  ·subst hqm
   rw [List.getElem?_set_self (by omega)]
  ·rw [List.getElem?_set_ne (by omega)]
   exact h3 q (by unfold mkd; rw [if_neg (by omega), if_pos rfl]; omega)
 ·obtain ⟨cs, e1, e0, e2, e3⟩ := h.ow j y hy
  refine ⟨cs, e1, e0, e2.chg d (fun k hk e => ?_), fun q hq => e3 q ?_⟩
  ·subst e; exact h.ne i j x y k hx hy (by omega) hgb hk
  ·unfold mkd at hq ⊢
   by_cases hji : j < i
   ·rw [if_pos hji] at hq ⊢; exact hq
   ·rw [if_neg hji, if_neg hj] at hq; omega
end
end Go.Proofs.YtknlpjcdemijgaaGreat
namespace Go.Proofs.YtknlpjcdemijgaaGreat
open Go.ChangeShapes Go.WideShapes Go.ChangeAt Go.RowKit
set_option linter.unusedVariables false
def cT : Ce := ⟨{ data := #[116, 117, 114, 110, 101, 100] }, 0, [], []⟩
def wT : Wi := ⟨-99, 0, 0⟩
def sT : Sa := ⟨0, -99, []⟩
def qT : Qu := ⟨0, 0, -99, 0, 0, false⟩
def Cf.turned (g : Cf) : Cf := ⟨g.m, List.replicate g.cs.length cT, List.replicate g.ws.length wT, List.replicate g.ss.length sT, List.replicate g.qs.length qT⟩
theorem Cf.turned_fine {g : Cf} (h : g.fine) : g.turned.fine := by
 refine ⟨h.m, fun c hc => ?_, fun c hc => ?_, fun c hc => ?_, fun c hc => ?_, ?_, ?_, ?_, ?_⟩
 ·rw [List.eq_of_mem_replicate hc]
  exact ⟨by decide, by decide, (fun r hr => by cases hr), (fun r hr => by cases hr), by simp [cT], by simp [cT]⟩
 ·rw [List.eq_of_mem_replicate hc]
  exact ⟨by decide, by decide, by decide⟩
 ·rw [List.eq_of_mem_replicate hc]
  exact ⟨by unfold i64ok; decide, by unfold i64ok; decide, (fun r hr => by cases hr), by simp [sT]⟩
 ·rw [List.eq_of_mem_replicate hc]
  exact ⟨by decide, by decide, by decide, by decide, by decide⟩
 ·simpa [Cf.turned] using h.cl
 ·simpa [Cf.turned] using h.wl
 ·simpa [Cf.turned] using h.sl
 ·simpa [Cf.turned] using h.ql
theorem Ful.rdl {α : Type} {w : World} {b sz n k N : Nat} {cs : List Value} {x : α} {P : World → Nat → Nat → α → Prop} (h : Ful w b sz cs k) (hk : n < k) (hn : n ≤ 140737488355328) (h0 : ∃ u, cs[0]? = some u) (hN : w.heap.size ≤ N) (hP : ∀ o, At w b o cs → P w b o x) : RdL w N sz P (some ⟨b, 0, none⟩) (List.replicate n x) := by
 refine ⟨by simpa using hn, .inr ⟨b, 0, rfl, ?_, fun i hi => ?_⟩⟩
 ·obtain ⟨u, hu⟩ := h0
  have := lt_of_cell (h 0 (by omega) 0 u hu)
  omega
 ·have hi' : i < n := by simpa using hi
  rw [List.getElem_replicate, Nat.zero_add]
  exact hP _ (h i (by omega))
theorem KT.isCf {w : World} {X : Nat} {g : Cf} {v : LV} (h : KT w X g v) (hf : g.fine) (hL : v.L.length = g.cs.length) (hM : v.M.length = g.ss.length) : IsCf w (cfV g v.ca v.wa v.sa v.qa v.cc v.wc v.sc v.qc) g.turned := by
 obtain ⟨_, gC, gW, gS, gQ, eC, eW, eS, eQ, fC, fW, fS, fQ⟩ := h
 have hl : RdI w w.heap.size none [] := ⟨(fun n hn => by cases hn), by simp, .inl rfl⟩
 have hr : RdL w w.heap.size 4 RgAt none [] := ⟨by simp, .inl rfl⟩
 refine ⟨hf.m, v.ca, v.cc, v.wa, v.wc, v.sa, v.sc, v.qa, v.qc, by simp [cfV, Cf.turned], ?_, ?_, ?_, ?_⟩
 ·rw [eC]
  exact fC.rdl (by omega) (by have := hf.cl; omega) ⟨_, rfl⟩ (Nat.le_refl _) (fun o ha => ⟨by decide, by decide, none, 0, none, 0, ha, hr, hl⟩)
 ·rw [eW]
  exact fW.rdl (by omega) (by have := hf.wl; omega) ⟨_, rfl⟩ (Nat.le_refl _) (fun o ha => ⟨ha, by decide, by decide, by decide⟩)
 ·rw [eS]
  exact fS.rdl (by omega) (by have := hf.sl; omega) ⟨_, rfl⟩ (Nat.le_refl _) (fun o ha => ⟨by unfold i64ok; decide, by unfold i64ok; decide, none, 0, ha, hl⟩)
 ·rw [eQ]
  exact fQ.rdl (by omega) (by have := hf.ql; omega) ⟨_, rfl⟩ (Nat.le_refl _) (fun o ha => ⟨ha, by decide, by decide, by decide, by decide, by decide⟩)
end Go.Proofs.YtknlpjcdemijgaaGreat
namespace Go.Proofs.YtknlpjcdemijgaaGreat
open Go.ChangeShapes Go.WideShapes Go.ChangeAt Go.RowKit
set_option linter.unusedVariables false
theorem tl63 : TL 63 33 1 24 := by
 have hz : (Tryz.prog.info? 33).map (fun i => (i.zero, i.size, i.bytes)) = some (some (.slice none 0 0), 1, 24) := by kernel_rfl
 refine ⟨Tryz.underlying63, ?_, by omega, by omega⟩
 cases hq : Tryz.prog.info? 33 with
 | none => rw [hq] at hz; cases hz
 | some i =>
  rw [hq] at hz
  have hz2 : i.zero = some (.slice none 0 0) ∧ i.size = 1 ∧ i.bytes = 24 := by simpa using hz
  exact ⟨i, _, rfl, hz2.1, hz2.2.1, hz2.2.2, rfl⟩
structure Mk8 (w : World) (y : BR) (x : Int) : Prop where
 le : y.n ≤ 3000000
 at_ : y.n = 0 ∨ ∃ b, y.a = some ⟨b, 0, none⟩ ∧ (∃ cur, w.heap[b]? = some (.cells cur 5 (0, 0))) ∧ ∀ q, q < y.n → w.cell? ⟨b, q, none⟩ = some (.int .u8 x)
theorem Mk8.of {w : World} {a : Option Addr} {c n : Nat} {x : Int} (h : OwnB w (.slice a n c) (List.replicate n x)) (hn : n ≤ 3000000) : Mk8 w ⟨a, c, n⟩ x := by
 refine ⟨hn, ?_⟩
 by_cases h0 : n = 0
 ·exact .inl h0
 ·have h' : OwnB w (.slice a (List.replicate n x).length c) (List.replicate n x) := by rw [List.length_replicate]; exact h
  obtain ⟨g, rfl, _, hg⟩ := own_some h'.1 (by rw [List.length_replicate]; omega)
  refine .inr ⟨g, rfl, own_tp h'.1 hg, fun q hq => ?_⟩
  have := (h'.cellAt q (by rw [List.length_replicate]; exact hq)).1
  rw [this]
  simp [List.getD_eq_getElem?_getD, hq]
theorem Mk8.chg {w w' : World} {y : BR} {x : Int} {S : Nat → Prop} (h : Mk8 w y x) (hc : Chg w w' S) (hS : ∀ b, y.a = some ⟨b, 0, none⟩ → 0 < y.n → ¬ S b) : Mk8 w' y x := by
 refine ⟨h.le, ?_⟩
 rcases h.at_ with h0 | ⟨b, ha, ⟨cur, ht⟩, hq⟩
 ·exact .inl h0
 ·by_cases h0 : y.n = 0
  ·exact .inl h0
  ·have hn := hS b ha (by omega)
   exact .inr ⟨b, ha, ⟨cur, hc.heap ht hn⟩, fun q hlt => hc.cell' hn (hq q hlt)⟩
structure LP (wb w : World) (la : Option Addr) (lc : Nat) (R E : List BR) (s : Nat) : Prop where
 kp : Kp wb w
 ls : OL wb.heap.size 33 1 w la (4 + E.length) lc ((R ++ E).map BR.v)
 lR : R.length = 4
 ow : ∀ (j : Nat) (x : BR), R[j]? = some x → s ≤ j → OwnB w x.v (List.replicate x.n ((j : Int) + 1))
 nw : ∀ (j : Nat) (x : BR) (k : Nat), R[j]? = some x → x.v.ownBlock = some k → wb.heap.size ≤ k
 sm : ∀ (j : Nat) (x : BR), R[j]? = some x → x.n ≤ 2000000
 rd : ∀ (t : Nat) (y : BR), (R ++ E)[t]? = some y → Mk8 w y (((t % 4 : Nat) : Int) + 1)
 ap : ∀ (t : Nat) (y : BR) (j : Nat) (x : BR) (b : Nat), (R ++ E)[t]? = some y → R[j]? = some x → s ≤ j → t ≠ j → y.a = some ⟨b, 0, none⟩ → 0 < y.n → x.v.ownBlock ≠ some b
structure LG (wb w : World) (la : Option Addr) (lc : Nat) (R E : List BR) (i : Nat) (x : BR) (a : Option Addr) (c m : Nat) : Prop where
 lp : LP wb w la lc R E (i + 1)
 ow : OwnB w (.slice a (x.n + m) c) (List.replicate (x.n + m) ((i : Int) + 1))
 nw : ∀ k, Value.ownBlock (.slice a (x.n + m) c) = some k → wb.heap.size ≤ k
 al : ∀ (t : Nat) (y : BR) (b : Nat), (R ++ E)[t]? = some y → t ≠ i → y.a = some ⟨b, 0, none⟩ → 0 < y.n → Value.ownBlock (.slice a (x.n + m) c) ≠ some b
 ar : ∀ (j : Nat) (y : BR) (k : Nat), R[j]? = some y → i + 1 ≤ j → y.v.ownBlock = some k → Value.ownBlock (.slice a (x.n + m) c) ≠ some k
theorem LP.start {wb w : World} {la : Option Addr} {lc : Nat} {R E : List BR} {i : Nat} (h : LP wb w la lc R E i) (x : BR) (hx : R[i]? = some x) (hne : ∀ (j l : Nat) (x y : BR) (k : Nat), R[j]? = some x → R[l]? = some y → j ≠ l → x.v.ownBlock = some k → y.v.ownBlock ≠ some k) : LG wb w la lc R E i x x.a x.c 0 := by
 have hl : (R ++ E)[i]? = some x := by rw [List.getElem?_append_left (List.getElem?_eq_some_iff.1 hx).1]; exact hx
 refine ⟨⟨h.kp, h.ls, h.lR, fun j y hy hj => h.ow j y hy (by omega), h.nw, h.sm, h.rd, fun t y j z b h1 h2 h3 h4 h5 h6 => h.ap t y j z b h1 h2 (by omega) h4 h5 h6⟩, h.ow i x hx (Nat.le_refl _), fun k hk => h.nw i x k hx hk, fun t y b h1 h2 h3 h4 => h.ap t y i x b h1 hx (Nat.le_refl _) h2 h3 h4, fun j y k h1 h2 h3 e => hne i j x y k hx h1 (by omega) e h3⟩
end Go.Proofs.YtknlpjcdemijgaaGreat
namespace Go.Proofs.YtknlpjcdemijgaaGreat
open Go.ChangeShapes Go.WideShapes Go.ChangeAt Go.RowKit
set_option linter.unusedVariables false
section
variable {wb w : World} {la : Option Addr} {lc : Nat} {R E : List BR} {i : Nat} {x : BR} {a : Option Addr} {c m : Nat}
theorem LG.step (h : LG wb w la lc R E i x a c m) (hi : i < 4) (hx : R[i]? = some x) (hm : m < 64) :
  ∃ a' c' w', (Builtin.append_ #[33, 33] 33 #[.slice a (x.n + m) c, .slice (some ⟨w.heap.size, 0, none⟩) 1 1]).run Tryz.prog (w.alloc (.cells #[.int .u8 ((i : Int) + 1)] 5)) = .ok (.slice a' (x.n + m + 1) c') w' ∧ LG wb w' la lc R E i x a' c' (m + 1) := by
 have hsm := h.lp.sm i x hx
 obtain ⟨v', w', hr, ho, hc, hl⟩ := run_appK w _ _ h.ow ((i : Int) + 1) (by omega) (by rw [List.length_replicate]; omega) 33
 have he : List.replicate (x.n + m) ((i : Int) + 1) ++ [(i : Int) + 1] = List.replicate (x.n + (m + 1)) ((i : Int) + 1) := by
  rw [show x.n + (m + 1) = (x.n + m) + 1 by omega, List.replicate_succ']
 rw [he] at ho
 have ho1 := ho.1
 rw [List.length_replicate] at ho1
 obtain ⟨a', c', rfl⟩ := own_sl ho1
 refine ⟨a', c', w', hr, ?_⟩
 have hwb := h.lp.kp.size
 have hsz := hc.size
 have hnew : ∀ k, Value.ownBlock (.slice a' (x.n + (m + 1)) c') = some k → (Value.ownBlock (.slice a (x.n + m) c) = some k) ∨ w.heap.size ≤ k := fun k hk => by
  rcases hl with e | ⟨_, q, e, hq⟩
  ·exact .inl (by rw [← e]; exact hk)
  ·rw [e] at hk; cases hk; exact .inr hq
 have hlt : ∀ (t : Nat) (y : BR) (b : Nat), (R ++ E)[t]? = some y → y.a = some ⟨b, 0, none⟩ → 0 < y.n → b < w.heap.size := fun t y b h1 h2 h3 => by
  rcases (h.lp.rd t y h1).at_ with h0 | ⟨b', hb', ⟨cu, hcu⟩, _⟩
  ·omega
  ·rw [h2] at hb'; cases hb'; exact hp_lt hcu
 refine ⟨⟨?_, ?_, h.lp.lR, ?_, h.lp.nw, h.lp.sm, ?_, h.lp.ap⟩, ho, ?_, ?_, ?_⟩
 ·exact Chg.trans h.lp.kp hc (fun k hk e => by have := h.nw k e; omega)
 ·refine h.lp.ls.chg hc (fun k _ e cur q => ?_)
  obtain ⟨cu, q'⟩ := own_tp h.ow.1 e
  exact absurd (tp_ne q q') (by decide)
 ·intro j y hy hj
  exact (h.lp.ow j y hy hj).chg hc (fun k hk e => h.ar j y k hy hj hk e)
 ·intro t y hy
  by_cases ht : t = i
  ·subst ht
   have hyx : y = x := by
    rw [List.getElem?_append_left (List.getElem?_eq_some_iff.1 hx).1, hx] at hy
    exact (Option.some.inj hy).symm
   subst hyx
   have h0 := h.lp.rd t y hy
   rcases hl with e | ⟨hk, _⟩
   ·refine ⟨h0.le, ?_⟩
    rcases h0.at_ with q | ⟨b, hb, ⟨cu, hcu⟩, hq⟩
    ·exact .inl q
    ·by_cases hb2 : Value.ownBlock (.slice a (y.n + m) c) = some b
     ·have hb3 : Value.ownBlock (.slice a' (y.n + (m + 1)) c') = some b := by rw [← hb2]; exact e
      have h1 : OwnB w' (.slice a' (List.replicate (y.n + (m + 1)) ((t : Int) + 1)).length c') (List.replicate (y.n + (m + 1)) ((t : Int) + 1)) := by rw [List.length_replicate]; exact ho
      obtain ⟨g, hg, _, hgb⟩ := own_some h1.1 (by rw [List.length_replicate]; omega)
      rw [List.length_replicate] at hgb
      rw [hgb] at hb3
      cases hb3
      rw [hg] at h1
      refine .inr ⟨b, hb, own_tp h1.1 rfl, fun q hlt => ?_⟩
      rw [(h1.cellAt q (by rw [List.length_replicate]; omega)).1]
      rw [Nat.mod_eq_of_lt hi]
      simp [List.getD_eq_getElem?_getD, show q < y.n + (m + 1) by omega]
     ·exact .inr ⟨b, hb, ⟨cu, hc.heap hcu hb2⟩, fun q hlt => hc.cell' hb2 (hq q hlt)⟩
   ·exact h0.chg hk (fun _ _ _ e => e)
  ·exact (h.lp.rd t y hy).chg hc (fun b hb hn e => h.al t y b hy ht hb hn e)
 ·intro k hk
  rcases hnew k hk with e | e
  ·exact h.nw k e
  ·omega
 ·intro t y b h1 h2 h3 h4 e
  rcases hnew b e with q | q
  ·exact h.al t y b h1 h2 h3 h4 q
  ·have := hlt t y b h1 h3 h4; omega
 ·intro j y k h1 h2 h3 e
  rcases hnew k e with q | q
  ·exact h.ar j y k h1 h2 h3 q
  ·have := ownR_lt (h.lp.ow j y h1 h2).1 h3; omega
theorem LG.tell (h : LG wb w la lc R E i x a c m) (hi : i < 4) (hE : E.length = i) (hx : R[i]? = some x) (hm : m = 64) :
  ∃ a' c' w', (Builtin.append_ #[63, 63] 63 #[.slice la (4 + i) lc, .slice (some ⟨w.heap.size, 0, none⟩) 1 1]).run Tryz.prog (w.alloc (.cells #[.slice a (x.n + m) c] 33)) = .ok (.slice a' (4 + i + 1) c') w' ∧ LP wb w' a' c' R (E ++ [⟨a, c, x.n + m⟩]) (i + 1) := by
 subst hm
 have hsm := h.lp.sm i x hx
 have hls := h.lp.ls
 rw [hE] at hls
 obtain ⟨v', w', hr, ho, hc, hl⟩ := tl63.one w _ (4 + i) _ hls.ow [.slice a (x.n + 64) c] rfl (by intro u hu; simp at hu; rw [hu]; rfl) (by omega) (by omega) 63
 obtain ⟨a', c', rfl⟩ := own_sl ho
 refine ⟨a', c', w', hr, ?_⟩
 have hwb := h.lp.kp.size
 have no5 : ∀ b cur, w.heap[b]? = some (.cells cur 5 (0, 0)) → ¬ Value.ownBlock (.slice la (4 + i) lc) = some b := fun b cur q e => by
  obtain ⟨cu, q'⟩ := own_tp hls.ow e
  exact absurd (tp_ne q q') (by decide)
 have keep : ∀ {y : BR} {z : Int}, Mk8 w y z → Mk8 w' y z := fun {y z} hy => hy.chg hc (fun b hb hn => by
  rcases hy.at_ with q | ⟨b', hb', ⟨cu, hcu⟩, _⟩
  ·omega
  ·rw [hb] at hb'; cases hb'; exact no5 b cu hcu)
 have hlen : (R ++ E).length = 4 + i := by rw [List.length_append, h.lp.lR, hE]
 have hget : ∀ (t : Nat) (y : BR), (R ++ (E ++ [⟨a, c, x.n + 64⟩]))[t]? = some y → (R ++ E)[t]? = some y ∨ (t = 4 + i ∧ y = ⟨a, c, x.n + 64⟩) := fun t y hy => by
  rw [← List.append_assoc] at hy
  by_cases ht : t < (R ++ E).length
  ·rw [List.getElem?_append_left ht] at hy; exact .inl hy
  ·rw [List.getElem?_append_right (by omega)] at hy
   have h0 : t - (R ++ E).length = 0 := by
    have := (List.getElem?_eq_some_iff.1 hy).1
    simp at this; simp; omega
   rw [h0] at hy
   simp at hy
   exact .inr ⟨by omega, hy.symm⟩
 refine ⟨?_, ?_, h.lp.lR, ?_, h.lp.nw, h.lp.sm, ?_, ?_⟩
 ·exact Chg.trans h.lp.kp hc (fun k hk e => by have := hls.nw k e; omega)
 ·have e1 : 4 + (E ++ [(⟨a, c, x.n + 64⟩ : BR)]).length = 4 + i + 1 := by simp [hE]; omega
  rw [e1, ← List.append_assoc, List.map_append]
  refine ⟨ho, fun k hk => ?_⟩
  rcases hl with e | ⟨q, e, hq⟩
  ·exact hls.nw k (by rw [← e]; exact hk)
  ·rw [e] at hk; cases hk; omega
 ·intro j y hy hj
  refine (h.lp.ow j y hy hj).chg hc (fun k hk e => ?_)
  obtain ⟨cu, q⟩ := own_tp (h.lp.ow j y hy hj).1 hk
  exact no5 k cu q e
 ·intro t y hy
  rcases hget t y hy with q | ⟨rfl, rfl⟩
  ·exact keep (h.lp.rd t y q)
  ·have e : (4 + i) % 4 = i := by omega
   rw [e]
   exact keep (Mk8.of h.ow (by omega))
 ·intro t y j z b h1 h2 h3 h4 h5 h6 e
  rcases hget t y h1 with q | ⟨rfl, rfl⟩
  ·exact h.lp.ap t y j z b q h2 h3 h4 h5 h6 e
  ·refine h.ar j z b h2 h3 e ?_
   have h5' : a = some ⟨b, 0, none⟩ := h5
   rw [h5']; rfl
end
end Go.Proofs.YtknlpjcdemijgaaGreat
namespace Go.Proofs.YtknlpjcdemijgaaGreat
open Go.ChangeShapes Go.WideShapes Go.ChangeAt Go.RowKit
set_option linter.unusedVariables false
theorem LQ.lp {wb w : World} {G : Nat} {R : List BR} (h : LQ wb w G R 4 0) (hR : R.length = 4) : LP wb w (some ⟨G, 0, none⟩) 4 R [] 0 := by
 have hw : ∀ (j : Nat) (x : BR), R[j]? = some x → OwnB w x.v (List.replicate x.n ((j : Int) + 1)) ∧ x.n ≤ 2000000 := fun j x hx => by
  obtain ⟨bs, h1, h0, h2, h3⟩ := h.ow j x hx
  have hj : j < 4 := by rw [← hR]; exact (List.getElem?_eq_some_iff.1 hx).1
  have e : bs = List.replicate x.n ((j : Int) + 1) := by
   apply List.ext_getElem?
   intro q
   by_cases hq : q < x.n
   ·rw [h3 q (by unfold mkd; rw [if_pos hj]; exact hq)]
    simp [hq]
   ·rw [List.getElem?_eq_none (by omega), List.getElem?_eq_none (by simp; omega)]
  rw [← e]
  exact ⟨h2, h0⟩
 refine ⟨h.kp, ⟨⟨?_, .inr ⟨G, 4, _, rfl, Nat.zero_le _, h.box, Nat.le_refl _, ?_, ?_, ?_⟩⟩, fun k hk => ?_⟩, hR, fun j x hx _ => (hw j x hx).1, h.nw, fun j x hx => (hw j x hx).2, fun t y hy => ?_, fun t y j x b h1 h2 _ h4 h5 h6 e => ?_⟩
 ·simp [hR]
 ·simp [maxLen]
 ·simp [hR]
 ·simp
  rw [List.take_of_length_le (by simp [hR])]
 ·cases hk; exact h.hG
 ·rw [List.append_nil] at hy
  have hj : t < 4 := by rw [← hR]; exact (List.getElem?_eq_some_iff.1 hy).1
  rw [Nat.mod_eq_of_lt hj]
  have := hw t y hy
  exact Mk8.of this.1 (by have := this.2; omega)
 ·rw [List.append_nil] at h1
  refine h.ne t j y x b h1 h2 h4 ?_ e
  show Value.ownBlock (.slice y.a y.n y.c) = some b
  rw [h5]
  rfl
theorem LP.look {wb w : World} {la : Option Addr} {lc : Nat} {R E : List BR} {s : Nat} (h : LP wb w la lc R E s) (t : Nat) (y : BR) (hy : (R ++ E)[t]? = some y) : (∃ g, la = some ⟨g, 0, none⟩ ∧ w.cell? ⟨g, t, none⟩ = some (.slice y.a y.n y.c)) ∧ ∀ q, q < y.n → ∃ b, y.a = some ⟨b, 0, none⟩ ∧ w.cell? ⟨b, q, none⟩ = some (.int .u8 (((t % 4 : Nat) : Int) + 1)) := by
 refine ⟨?_, fun q hq => ?_⟩
 ·rcases h.ls.rd with e | ⟨g, hg, _, hc⟩
  ·omega
  ·refine ⟨g, hg, ?_⟩
   have := hc t y.v (by rw [List.getElem?_map, hy]; rfl)
   rw [Nat.zero_add] at this
   exact this
 ·rcases (h.rd t y hy).at_ with e | ⟨b, hb, _, hc⟩
  ·omega
  ·exact ⟨b, hb, hc q hq⟩
theorem LP.kpp {wb w w' : World} {la : Option Addr} {lc : Nat} {R E : List BR} {s : Nat} (h : LP wb w la lc R E s) (q : Kp w w') : LP wb w' la lc R E s :=
 ⟨h.kp.trans q, h.ls.kp q, h.lR, fun j x hx hj => (h.ow j x hx hj).chg q (fun _ _ e => e), h.nw, h.sm, fun t y hy => (h.rd t y hy).chg q (fun _ _ _ e => e), h.ap⟩
end Go.Proofs.YtknlpjcdemijgaaGreat
namespace Go.Proofs.YtknlpjcdemijgaaGreat
open Go.ChangeShapes Go.WideShapes Go.ChangeAt Go.RowKit
set_option linter.unusedVariables false
theorem IsCf.kpp {w w' : World} {u : Value} {g : Cf} (h : IsCf w u g) (k : Kp w w') : IsCf w' u g :=
 h.keep (Keep.of k (fun _ _ e => e)) k.size
theorem kept_turned (lo : Nat) (w : World) (X : Nat) (g : Cf) (v : LV) (h : LF lo w X g v) (hf : g.fine) (hL : v.L.length = g.cs.length) (hM : v.M.length = g.ss.length) :
  Calls Tryz.prog 15 #[.pointer (some ⟨X, 0, none⟩)] w fun r w' => r = .returned (.bool true) ∧ Chg w w' (v.blk g) ∧ w'.heap[X]? = some (.cells (v.bx g) 49 (0, 0)) ∧ ∃ t : Cf, t.fine ∧ t.fit ∧ IsCf w' (cfV g v.ca v.wa v.sa v.qa v.cc v.wc v.sc v.qc) t := by
 refine (kept_walk2 lo w X g v h).mono ?_
 rintro r w' ⟨hr, hc, hk⟩
 have hi := hk.isCf hf hL hM
 exact ⟨hr, hc, hk.1, g.turned, Cf.turned_fine hf, hi.fit, hi⟩
theorem renc_t (w : World) (g t : Cf) (ca wa sa qa : Option Addr) (cc wc sc qc : Nat) (h : IsCf w (cfV g ca wa sa qa cc wc sc qc) t) (f : t.fine) :
  Calls Tryz.prog 21 #[cfV g ca wa sa qa cc wc sc qc] w fun r w' => ∃ a c, PeE w t r w' a c := by
 have hfit := h.fit
 obtain ⟨hm, ca', cc', wa', wc', sa', sc', qa', qc', e, h1, h2, h3, h4⟩ := h
 rw [e]
 exact (renc_walk w w.heap.size t f hfit _ _ _ _ _ _ _ _ h1 h2 h3 h4).mono fun _ _ hE => hE.pe
end Go.Proofs.YtknlpjcdemijgaaGreat
