import Derived.Test.YtfolnmmlhknmiaaGreatDoorTe
import Derived.Test.YtfolnmmlhknmiaaGreatDoorTc
namespace Go.Proofs.YtfolnmmlhknmiaaGreatDoor
open Go.ChangeShapes Go.WideShapes Go.ChangeAt Go.RowKit Go.Shelf
set_option linter.unusedVariables false
attribute [local go_sem] Oper.semAt_some

/-- A space, its arena, its memory. -/
structure Sp (w : World) (S A root B M n p0 pages taken : Nat) (sealed : Bool) (f : Nat → Option Nat) (m : Nat → Nat) : Prop where
  s : IsS w S A root
  a : IsA w A B p0 pages taken sealed
  m : IsM w B M n f m
  rt : root < 4294967296
  inn : p0 + pages ≤ n
def Sf (S A B M : Nat) (f : Nat → Option Nat) (q : Nat) : Prop := q = S ∨ q = A ∨ Mf B M f q
theorem Sp.other {w w' : World} {S A root B M n p0 pages taken : Nat} {sealed : Bool} {f : Nat → Option Nat} {m : Nat → Nat} {T : Nat → Prop} (h : Sp w S A root B M n p0 pages taken sealed f m) (hc : Chg w w' T) (hT : ∀ q, Sf S A B M f q → ¬ T q) : Sp w' S A root B M n p0 pages taken sealed f m :=
  ⟨h.s.other hc (hT _ (.inl rfl)), h.a.other hc (hT _ (.inr (.inl rfl))), h.m.other hc (fun q hq => hT q (.inr (.inr hq))), h.rt, h.inn⟩
theorem IsM.ltM {w : World} {B M n : Nat} {f : Nat → Option Nat} {m : Nat → Nat} (h : IsM w B M n f m) : ∀ q, Mf B M f q → q < w.heap.size := by
  rintro q (e | e | ⟨p, e⟩)
  · rw [e]; exact (Array.getElem?_eq_some_iff.1 h.box).1
  · obtain ⟨es, c, hh⟩ := h.map.heap
    rw [e]; exact (Array.getElem?_eq_some_iff.1 hh).1
  · exact (Array.getElem?_eq_some_iff.1 (h.page p q e).2).1
theorem Sp.lt {w : World} {S A root B M n p0 pages taken : Nat} {sealed : Bool} {f : Nat → Option Nat} {m : Nat → Nat} (h : Sp w S A root B M n p0 pages taken sealed f m) : ∀ q, Sf S A B M f q → q < w.heap.size := by
  rintro q (e | e | e)
  · rw [e]; exact (Array.getElem?_eq_some_iff.1 h.s).1
  · rw [e]; exact h.a.lt
  · exact h.m.ltM q e

/-- What 'plan' makes of pages. -/
def plS (n : Nat) (m : Nat → Nat) (root : Nat) : List Pgv → PS → (Nat × Nat → Bool) → Option PS
  | [], st, _ => some st
  | x :: r, st, g => if g (x.a, x.b) = true then none
    else if (askM n m root st x.a).1 = false then none
    else if freeM n m (((askM n m root st x.a).2.T x.a).getD e0) x.b = false then none
    else plS n m root r (askM n m root st x.a).2 (addP g (x.a, x.b))
theorem plS_cons (n : Nat) (m : Nat → Nat) (root : Nat) (x : Pgv) (r : List Pgv) (st : PS) (g : Nat × Nat → Bool) : plS n m root (x :: r) st g = if g (x.a, x.b) = true then none else if (askM n m root st x.a).1 = false then none else if freeM n m (((askM n m root st x.a).2.T x.a).getD e0) x.b = false then none else plS n m root r (askM n m root st x.a).2 (addP g (x.a, x.b)) := rfl
theorem plS_nil (n : Nat) (m : Nat → Nat) (root : Nat) (st : PS) (g : Nat × Nat → Bool) : plS n m root [] st g = some st := rfl
def TOk (T : Nat → Option En) : Prop := ∀ k, ((T k).getD e0).f < 1048576
theorem askM_ok {n : Nat} {m : Nat → Nat} (hm : ∀ a, m a < 256) {root : Nat} {st : PS} (h : TOk st.T) (k : Nat) : TOk (askM n m root st k).2.T := by
  have hs : ∀ W, W < 4294967296 → TOk (setT st.T k (enW W)) := by
    intro W hW j
    unfold setT
    split
    · show Ent.df W < 1048576
      unfold Ent.df; omega
    · exact h j
  have hW := wdW_lt (n := n) hm root k
  unfold askM
  split
  · exact h
  · unfold askW
    split
    · exact h
    · split
      · exact hs _ hW
      · split
        · exact h
        · exact hs _ hW
theorem askM_len (n : Nat) (m : Nat → Nat) (root : Nat) (st : PS) (k : Nat) : (askM n m root st k).2.wl.length ≤ st.wl.length + 1 := by
  unfold askM askW
  repeat' split
  all_goals simp
/-- The blocks of 'plan' under way. -/
def Gf (s S A B M : Nat) (f : Nat → Option Nat) (vW : Value) (q : Nat) : Prop := (s ≤ q ∧ q < s + 7) ∨ vW.ownBlock = some q ∨ Sf S A B M f q
/-- While 'plan' goes through the pages. -/
structure PlI (s S A root B M n p0 pages taken : Nat) (sealed : Bool) (f : Nat → Option Nat) (m : Nat → Nat) (all : List Pgv) (k : Nat) (vW : Value) (st : PS) (g : Nat × Nat → Bool) (W : World) : Prop where
  b0 : W.heap[s]? = some (.cells #[.pointer (some ⟨S, 0, none⟩)] 97 (0, 0))
  b1 : W.heap[s + 1]? = some (.cells #[.map none, .slice none 0 0] 181 (0, 0))
  b2 : W.heap[s + 2]? = some (.cells #[.bool false] 4 (0, 0))
  p : ∃ c, IsP W (s + 4) (s + 3) c st.T vW st.wl ∧ c ≤ k
  b6 : W.heap[s + 6]? = some (.cells #[.map (some (s + 5))] 270 (0, 0))
  sm : ∃ c, SM W (s + 5) c g ∧ c ≤ k
  sp : Sp W S A root B M n p0 pages taken sealed f m
  ln : st.wl.length ≤ k
  ok : TOk st.T
  eq : plS n m root all ⟨fun _ => none, []⟩ (fun _ => false) = plS n m root (all.drop k) st g
  old : ∀ q, Sf S A B M f q → q < s
  vw : ∀ q, vW.ownBlock = some q → s + 10 ≤ q ∧ q < W.heap.size
theorem PlI.other {s S A root B M n p0 pages taken : Nat} {sealed : Bool} {f : Nat → Option Nat} {m : Nat → Nat} {all : List Pgv} {k : Nat} {vW : Value} {st : PS} {g : Nat × Nat → Bool} {W W' : World} {T : Nat → Prop} (h : PlI s S A root B M n p0 pages taken sealed f m all k vW st g W) (hc : Chg W W' T) (hT : ∀ q, Gf s S A B M f vW q → ¬ T q) : PlI s S A root B M n p0 pages taken sealed f m all k vW st g W' := by
  have ht : ∀ i, i < 7 → ¬ T (s + i) := fun i hi => hT _ (.inl ⟨by omega, by omega⟩)
  obtain ⟨c, hp, hc1⟩ := h.p
  obtain ⟨c', hs, hc2⟩ := h.sm
  refine ⟨hc.heap h.b0 (ht 0 (by omega)), hc.heap h.b1 (ht 1 (by omega)), hc.heap h.b2 (ht 2 (by omega)), ⟨c, hp.other hc ?_, hc1⟩, hc.heap h.b6 (ht 6 (by omega)), ⟨c', hs.kept hc (ht 5 (by omega)), hc2⟩, h.sp.other hc (fun q hq => hT q (.inr (.inr hq))), h.ln, h.ok, h.eq, h.old, fun q hq => ⟨(h.vw q hq).1, Nat.lt_of_lt_of_le (h.vw q hq).2 hc.size⟩⟩
  rintro q (e | e | e)
  · rw [e]; exact ht 4 (by omega)
  · rw [e]; exact ht 3 (by omega)
  · exact hT q (.inr (.inl e))
/-- As a loop's law. -/
def PlJ (s S A root B M n p0 pages taken : Nat) (sealed : Bool) (f : Nat → Option Nat) (m : Nat → Nat) (w0 : World) (all : List Pgv) (k : Nat) (F : Nat → Prop) (W : World) : Prop := ∃ vW st g, PlI s S A root B M n p0 pages taken sealed f m all k vW st g W ∧ (∀ q, F q ↔ (Gf s S A B M f vW q)) ∧ Chg w0 W (fun _ => False)
theorem PlJ.stab (s S A root B M n p0 pages taken : Nat) (sealed : Bool) (f : Nat → Option Nat) (m : Nat → Nat) (w0 : World) (b : Nat) (hw0 : w0.heap.size ≤ b) (all : List Pgv) : Stab b (PlJ s S A root B M n p0 pages taken sealed f m w0 all) := by
  rintro k F C D T ⟨vW, st, g, h1, h2, h3⟩ hc hT hb
  exact ⟨vW, st, g, h1.other hc (fun q hq => hT q ((h2 q).2 hq)), h2, h3.trans hc (fun q hq x => by have := hb q x; omega)⟩
theorem TT.madeAt {w : World} {k : Nat} (h : k = w.heap.size) : TT (w.alloc (.map #[] 0)) k 0 (fun _ => none) := by rw [h]; exact TT.made w
theorem SM.madeAt {w : World} {k : Nat} (h : k = w.heap.size) : SM (w.alloc (.map #[] 0)) k 0 (fun _ => false) := by rw [h]; exact SM.made w
theorem al_idx {w : World} {o : Obj} {k : Nat} (h : k = w.heap.size) : (w.alloc o).heap[k]? = some o := by rw [h]; exact heap_alloc_new w o

theorem fail_box {W V : World} {s : Nat} (r1 : W.heap[s + 1]? = some (.cells #[.map none, .slice none 0 0] 181 (0, 0))) (r2 : W.heap[s + 2]? = some (.cells #[.bool false] 4 (0, 0))) (hV : V = (((W.setCell ⟨s + 1, 0, none⟩ (.map none)).setCell ⟨s + 1, 1, none⟩ (.slice none 0 0)).setCell ⟨s + 2, 0, none⟩ (.bool false))) :
    V.heap[s + 1]? = some (.cells #[.map none, .slice none 0 0] 181 (0, 0)) ∧ V.heap[s + 2]? = some (.cells #[.bool false] 4 (0, 0)) ∧ Chg W V (fun q => q = s + 1 ∨ q = s + 2) := by
  obtain ⟨V1, hV1⟩ : ∃ V1, V1 = ((W.setCell ⟨s + 1, 0, none⟩ (.map none)).setCell ⟨s + 1, 1, none⟩ (.slice none 0 0)) := ⟨_, rfl⟩
  obtain ⟨q1, -, q3⟩ := box2 r1 _ _ hV1
  rw [← hV1] at hV
  have c2 : Chg V1 V (fun q => q = s + 2) := by rw [hV]; exact Chg.setCell (S := fun q => q = s + 2) (Chg.refl _ _) (.inl rfl) _
  have q2 := q3.heap r2 (by omega)
  refine ⟨c2.heap q1 (by omega), ?_, (q3.mono (fun _ _ e => .inl e)).trans c2 (fun _ _ e => .inr e)⟩
  rw [hV, heap_setCell_same V1 (s + 2) 0 _ 4 _ q2]; rfl
/-- A round that is left. -/
theorem plan_fail {w w8 W W2 V : World} {s n root : Nat} {m : Nat → Nat} {l : List Rv} {F : Nat → Prop} {Q : Prop} (hc0 : Chg w W (fun _ => False)) (h8 : w8.heap.size + 2 ≤ W.heap.size) (hv : V.heap[s + 1]? = some (.cells #[.map none, .slice none 0 0] 181 (0, 0)) ∧ V.heap[s + 2]? = some (.cells #[.bool false] 4 (0, 0)) ∧ Chg W2 V (fun q => q = s + 1 ∨ q = s + 2)) (hc2 : Chg W W2 F) (hF : ∀ q, Two w8.heap.size q → ¬ F q) (hF2 : ∀ q, F q → q < w.heap.size → False) (heq : plS n m root (pgs l) ⟨fun _ => none, []⟩ (fun _ => false) = none) (hs : w8.heap.size = s + 8 ∧ s = w.heap.size) :
    (∀ i, Two w8.heap.size i → V.heap[i]? = W.heap[i]?) ∧ (Code.ret = Code.ret ∧ plS n m root (pgs l) ⟨fun _ => none, []⟩ (fun _ => false) = none ∧ V.heap[s + 1]? = some (.cells #[.map none, .slice none 0 0] 181 (0, 0)) ∧ V.heap[s + 2]? = some (.cells #[.bool false] 4 (0, 0)) ∧ Chg w V (fun _ => False)) := by
  have hcV : Chg W V (fun q => F q ∨ q = s + 1 ∨ q = s + 2) := (hc2.mono (fun _ _ x => .inl x)).trans hv.2.2 (fun _ _ x => .inr x)
  refine ⟨fun i hi => hcV.block i (by rcases hi with e | e <;> omega) ?_, rfl, heq, hv.1, hv.2.1, hc0.trans hcV (fun q hq x => ?_)⟩
  · rintro (x | x | x)
    · exact hF i hi x
    · rcases hi with e | e <;> omega
    · rcases hi with e | e <;> omega
  · rcases x with x | x | x
    · exact hF2 q x hq
    · omega
    · omega
/-- What 'plan' answers. -/
def PlanEnd (w w' : World) (n : Nat) (m : Nat → Nat) (root : Nat) (l : List Rv) (e : Ending) : Prop :=
  (plS n m root (pgs l) ⟨fun _ => none, []⟩ (fun _ => false) = none ∧ e = .returned (.tuple #[.agg #[.map none, .slice none 0 0], .bool false]) ∧ Chg w w' (fun _ => False)) ∨
  ∃ st vW MT c, plS n m root (pgs l) ⟨fun _ => none, []⟩ (fun _ => false) = some st ∧ e = .returned (.tuple #[.agg #[.map (some MT), vW], .bool true]) ∧ TT w' MT c st.T ∧ OwnU w' vW st.wl ∧ Chg w w' (fun _ => False) ∧ w.heap.size ≤ MT ∧ (∀ q, vW.ownBlock = some q → w.heap.size ≤ q) ∧ c ≤ (pgs l).length ∧ st.wl.length ≤ (pgs l).length ∧ TOk st.T
set_option maxHeartbeats 4000000 in
set_option maxRecDepth 10000 in
theorem plan_any (w : World) (S A root B M n p0 pages taken : Nat) (sealed : Bool) (f : Nat → Option Nat) (m : Nat → Nat) (h : Sp w S A root B M n p0 pages taken sealed f m) (a : Option Addr) (cap : Nat) (l : List Rv) (hl : RgsIn w a l) (hm : ∀ r ∈ l, r.may) (hln : (pgs l).length ≤ 2000000) (hpx : ∀ x ∈ pgs l, x.a < 1048576 ∧ x.b < 1048576) (hap : ∀ q, (0 < l.length ∧ ∃ o, a = some ⟨q, o, none⟩) → ¬ Sf S A B M f q) :
    Calls Tryz.prog 78 #[.pointer (some ⟨S, 0, none⟩), .slice a l.length cap] w fun e w' => PlanEnd w w' n m root l e := by
  have hmm := @run_makeMap Tryz.prog
  have H : Hid (Sp w S A root B M n p0 pages taken sealed f m ∧ RgsIn w a l ∧ (∀ r ∈ l, r.may) ∧ (pgs l).length ≤ 2000000) := ⟨h, hl, hm, hln⟩
  have HPX : Hid (∀ x ∈ pgs l, x.a < 1048576 ∧ x.b < 1048576) := hpx
  have HUN : Hid (∀ q, (0 < l.length ∧ ∃ o, a = some ⟨q, o, none⟩) → ¬ Sf S A B M f q) := hap
  clear h hl hm hln hap hpx
  refine (callsIn_wide (n := 3)).1 ?_
  refine callsIn_of_wp_marks Tryz.func78 rfl trivial ?_ rfl
  simp only [Tryz.ntmps78, List.size_toArray, List.length_cons, List.length_nil, Nat.reduceAdd, Nat.reduceSub, Array.replicate_succ, Array.replicate_zero, List.push_toArray, List.append_toArray, List.nil_append, List.cons_append]
  gi_wp2_with (refine ⟨trivial, ?_⟩; gi_at_call 81; refine (callsIn_wide.2 (pagesOf_any _ _ _ _)).mono ?_; rintro e w' ⟨rfl, rfl⟩)
  obtain ⟨s, hs⟩ : ∃ s, s = w.heap.size := ⟨_, rfl⟩
  obtain ⟨w8, hw8⟩ : ∃ w8, w8 = ((((((((w.alloc (.cells #[.pointer (some ⟨S, 0, none⟩)] 97)).alloc (.cells #[.map none, .slice none 0 0] 181)).alloc (.cells #[.bool false] 4)).alloc (.map #[] 0)).alloc (.cells #[.map (some (w.heap.size + 1 + 1 + 1)), .slice none 0 0] 181)).alloc (.map #[] 0)).alloc (.cells #[.map (some (w.heap.size + 1 + 1 + 1 + 1 + 1))] 270)).alloc (.cells #[.slice a l.length cap] 30)) := ⟨_, rfl⟩
  have s8 : w8.heap.size = s + 8 := by rw [hw8, hs]; simp
  have c8 : Chg w w8 (fun _ => False) := by rw [hw8]; exact ((((((((Chg.refl w _).alloc _).alloc _).alloc _).alloc _).alloc _).alloc _).alloc _).alloc _
  have hI0 : PlI s S A root B M n p0 pages taken sealed f m (pgs l) 0 (.slice none 0 0) ⟨fun _ => none, []⟩ (fun _ => false) w8 := by
    refine ⟨?_, ?_, ?_, ⟨0, ⟨?_, ?_, OwnU.nil _⟩, by omega⟩, ?_, ⟨0, ?_, by omega⟩, H.out.1.other c8 (fun _ _ x => x), by simp, fun k => by simp [e0], by simp, fun q hq => by rw [hs]; exact H.out.1.lt q hq, fun q e => by cases e⟩
    · rw [hw8]; exact Ent.al_old _ (Ent.al_old _ (Ent.al_old _ (Ent.al_old _ (Ent.al_old _ (Ent.al_old _ (Ent.al_old _ (al_idx (by first | exact hs | (rw [hs]; simp)))))))))
    · rw [hw8]; exact Ent.al_old _ (Ent.al_old _ (Ent.al_old _ (Ent.al_old _ (Ent.al_old _ (Ent.al_old _ (al_idx (by first | exact hs | (rw [hs]; simp))))))))
    · rw [hw8]; exact Ent.al_old _ (Ent.al_old _ (Ent.al_old _ (Ent.al_old _ (Ent.al_old _ (al_idx (by first | exact hs | (rw [hs]; simp)))))))
    · rw [hw8, hs]; exact Ent.al_old _ (Ent.al_old _ (Ent.al_old _ (al_idx (by simp))))
    · rw [hw8, hs]
      exact ((((TT.madeAt (by simp)).kept (S := fun _ => False) ((Chg.refl _ _).alloc _) (fun x => x)).kept (S := fun _ => False) ((Chg.refl _ _).alloc _) (fun x => x)).kept (S := fun _ => False) ((Chg.refl _ _).alloc _) (fun x => x)).kept (S := fun _ => False) ((Chg.refl _ _).alloc _) (fun x => x)
    · rw [hw8, hs]; exact Ent.al_old _ (al_idx (by simp))
    · rw [hw8, hs]
      exact ((SM.madeAt (by simp)).kept (S := fun _ => False) ((Chg.refl _ _).alloc _) (fun x => x)).kept (S := fun _ => False) ((Chg.refl _ _).alloc _) (fun x => x)
  have hBl : w8.cell? ⟨s + 7, 0, none⟩ = some (.slice a l.length cap) := by
    have : w8.heap[s + 7]? = some (.cells #[.slice a l.length cap] 30 (0, 0)) := by rw [hw8]; exact al_idx (by first | exact hs | (rw [hs]; simp))
    rw [(cells_at this 0).1]; rfl
  have hseq := pages_seq w8 1 (s + 7) a cap l hBl (H.out.2.1.chg c8 (fun _ _ _ _ x => x)) H.out.2.2.1
  rw [← hw8, ← hs]
  have K : Hid (Chg w w8 (fun _ => False) ∧ PlI s S A root B M n p0 pages taken sealed f m (pgs l) 0 (.slice none 0 0) ⟨fun _ => none, []⟩ (fun _ => false) w8 ∧ w8.heap.size = s + 8 ∧ s = w.heap.size) := ⟨c8, hI0, s8, hs⟩
  clear hI0 hBl hw8 hmm c8
  have hU2 : ∀ q, (0 < l.length ∧ ∃ o, a = some ⟨q, o, none⟩) → q < w.heap.size := by
    rintro q ⟨h0, o, e⟩
    obtain ⟨b', o', e', hr⟩ := H.out.2.1.2.2.resolve_left (by omega)
    rw [e] at e'
    cases e'
    exact World.block_lt_of_cell? w _ (hr 0 h0).1
  have hU : ∀ q, Ub (s + 7) a l.length q → q < w8.heap.size := by
    rintro q (e | e)
    · omega
    · have := hU2 q e; omega
  have HU2 : Hid (∀ q, (0 < l.length ∧ ∃ o, a = some ⟨q, o, none⟩) → q < w.heap.size) := hU2
  clear hs s8 hU2
  refine range_fp (gf := 141) rfl (enters_of Tryz.func141 (by kernel_rfl) rfl) hseq hU (fun k => ?_)
    (PlJ s S A root B M n p0 pages taken sealed f m w (pgs l)) (fun c W => c = .ret ∧ plS n m root (pgs l) ⟨fun _ => none, []⟩ (fun _ => false) = none ∧ W.heap[s + 1]? = some (.cells #[.map none, .slice none 0 0] 181 (0, 0)) ∧ W.heap[s + 2]? = some (.cells #[.bool false] 4 (0, 0)) ∧ Chg w W (fun _ => False))
    (PlJ.stab _ _ _ _ _ _ _ _ _ _ _ _ _ _ _ K.out.1.size _) ?ix (Gf s S A B M f (.slice none 0 0)) ⟨_, _, _, K.out.2.1, fun _ => Iff.rfl, K.out.1⟩ ?f0
    (fun k a' W => ∃ Bx, w8.heap.size + 2 ≤ Bx ∧ Bx < W.heap.size ∧ ∃ x : Pgv, (pgs l)[k]? = some x ∧ W.heap[Bx]? = some (.cells #[.int .u32 (x.a : Nat), .int .u32 (x.b : Nat)] 190 (0, 0)) ∧
      a' = { tmps := #[Value.pointer (some { block := S, off := 0 }), Value.slice a l.length cap,
          Value.pointer (some { block := s, off := 0 }), undef,
          Value.pointer (some { block := s + 1, off := 0 }),
          Value.pointer (some { block := s + 2, off := 0 }),
          Value.pointer (some { block := s + 4, off := 0 }),
          Value.pointer (some { block := s + 6, off := 0 }), Value.pointer (some { block := Bx, off := 0 }), undef, undef,
          Value.map (some (s + 3)),
          Value.agg #[Value.map (some (s + 3)), Value.slice none 0 0],
          Value.map (some (s + 5)), Value.slice a l.length cap,
          Value.func (Fn.func 141) #[]
            #[Value.pointer (some { block := s + 7, off := 0 })],
          plV (x.a, x.b), eV ⟨1, x.p, x.f⟩, undef, undef, undef, undef, undef, undef, undef, undef, undef, undef, undef, undef, undef,
          undef, undef, undef, undef, undef, undef, undef, undef, undef, undef, undef, undef, undef, undef, undef,
          undef, undef, undef], defers := [] }) ?ax ?assign ?body ?done ?stop
  case ix =>
    rintro c C D ⟨rfl, h1, h2, h3, h4⟩ hc
    have := K.out.2.2
    exact ⟨rfl, h1, hc.heap h2 (by rintro (e | e) <;> omega), hc.heap h3 (by rintro (e | e) <;> omega), h4.trans hc (fun q hq e => by rcases e with e | e <;> omega)⟩
  case f0 =>
    rintro q (⟨h1, h2⟩ | h | h)
    · have := K.out.2.2
      refine ⟨by omega, ?_⟩
      rintro (e | e)
      · omega
      · have := HU2.out q e; omega
    · cases h
    · have h1 := K.out.2.1.old q h
      have := K.out.2.2
      refine ⟨by omega, ?_⟩
      rintro (e | e)
      · omega
      · exact HUN.out q e h
  case ax =>
    rintro k b C D ⟨Bx, h1, h2, x, h3, h4, h5⟩ hc
    exact ⟨Bx, h1, Nat.lt_of_lt_of_le h2 hc.size, x, h3, hc.heap h4 (by rintro (e | e) <;> omega), h5⟩
  case assign =>
    rintro k W K' hk hs' hK'
    obtain ⟨x, hx⟩ : ∃ x, (pgs l)[k]? = some x := ⟨_, List.getElem?_eq_getElem hk⟩
    have ea : pgArgs l k = #[plV (x.a, x.b), eV ⟨1, x.p, x.f⟩] := by unfold pgArgs; rw [hx]
    rw [ea]
    unfold plV eV
    simp only
    gi_wp2
    refine hK' _ _ ((Chg.refl _ _).alloc _) ⟨W.heap.size, hs', by simp, x, hx, heap_alloc_new W _, rfl⟩
  case body =>
    rintro k F b W hk ⟨vW, st, g, hI, hF, hc0⟩ ⟨Bx, hBx1, hBx2, x, hx, gB, rfl⟩ hs' hT2
    obtain ⟨hsz, hsw⟩ := K.out.2.2
    have hdrop : (pgs l).drop k = x :: (pgs l).drop (k + 1) := by
      obtain ⟨h1, h2⟩ := List.getElem?_eq_some_iff.1 hx
      rw [← h2]; exact List.drop_eq_getElem_cons h1
    have hxa : x.a < 1048576 ∧ x.b < 1048576 := HPX.out x (List.mem_of_getElem? hx)
    obtain ⟨xa, xb, xp, xf⟩ := x
    simp only at hxa gB
    obtain ⟨z0, z1, -, -⟩ := cells2 gB
    have y0 := (cells_at hI.b0 0).1
    have y6 := (cells_at hI.b6 0).1
    simp only [List.getElem?_toArray, List.getElem?_cons_zero] at y0 y6
    obtain ⟨cS, hSM, hcS⟩ := hI.sm
    obtain ⟨cP, hPP, hcP⟩ := hI.p
    have hlk := hSM.look (xa, xb) ⟨by omega, by omega⟩
    unfold plV at hlk ⊢
    unfold eV
    simp only at hlk ⊢
    have heq := hI.eq
    rw [hdrop, plS_cons] at heq
    simp only at heq
    -- the world behind region 5
    obtain ⟨W1, hW1⟩ : ∃ W1, W1 = W.alloc (.cells #[] 271) := ⟨_, rfl⟩
    have cW1 : Chg W W1 (fun _ => False) := by rw [hW1]; exact (Chg.refl _ _).alloc _
    have KI : Hid (PlI s S A root B M n p0 pages taken sealed f m (pgs l) k vW st g W ∧ (∀ q, F q ↔ (Gf s S A B M f vW q)) ∧ Chg w W (fun _ => False)) := ⟨hI, hF, hc0⟩
    have nB : ¬ F Bx := fun h => by
      rcases (hF Bx).1 h with ⟨h1, h2⟩ | h | h
      · omega
      · rcases hPP.own.2 with ⟨hh, _⟩ | ⟨gg, cap', cur, hh, _, hg', _⟩
        · rw [hh] at h; cases h
        · rw [hh] at h
          have e2 : gg = Bx := by simpa [Value.ownBlock] using h
          rw [e2, gB] at hg'; cases hg'
      · have := hI.old Bx h; omega
    have hGF : ∀ q, Pf (s + 4) (s + 3) vW q → F q := fun q hq => (hF q).2 (by
      rcases hq with e | e | e
      · exact .inl ⟨by omega, by omega⟩
      · exact .inl ⟨by omega, by omega⟩
      · exact .inr (.inl e))
    have KB : Hid (W.heap[Bx]? = some (.cells #[.int .u32 (xa : Nat), .int .u32 (xb : Nat)] 190 (0, 0)) ∧ ¬ F Bx ∧ (∀ q, Pf (s + 4) (s + 3) vW q → F q) ∧ (∀ q, Two w8.heap.size q → ¬ F q) ∧ w8.heap.size + 2 ≤ W.heap.size) := ⟨gB, nB, hGF, hT2, hs'⟩
    have hI1 := hI.other cW1 (fun _ _ x => x)
    have y0' := (cells_at hI1.b0 0).1
    simp only [List.getElem?_toArray, List.getElem?_cons_zero] at y0'
    obtain ⟨z0', z1', -, -⟩ := cells2 (cW1.heap gB (fun x => x))
    have hP1 := hPP.other cW1 (fun _ _ x => x)
    have hAsk := ask_any W1 S A root B M n p0 pages taken sealed f m hI1.sp.s hI1.sp.a hI1.sp.m hI1.sp.rt (s + 4) (s + 3) cP st.T vW st.wl hP1 xa hxa.1 (by have := H.out.2.2.2; omega) (by have := hI.ln; have := H.out.2.2.2; omega)
    have hln := hI.ln
    have hkl : k < 2000000 := by have := H.out.2.2.2; omega
    have KK : Hid (SM W (s + 5) cS g ∧ cS ≤ k ∧ cP ≤ k ∧ Chg W W1 (fun _ => False)) := ⟨hSM, hcS, hcP, cW1⟩
    have r1 := hI1.b1
    have r2 := hI1.b2
    clear hI hF hc0 hI1 hPP hP1 hSM hcS hcP gB nB hGF hT2 hsz hsw
    by_cases hg : g (xa, xb) = true
    · rw [if_pos hg] at heq
      rw [hg] at hlk
      obtain ⟨V, hV⟩ : ∃ V, V = (((W1.setCell ⟨s + 1, 0, none⟩ (.map none)).setCell ⟨s + 1, 1, none⟩ (.slice none 0 0)).setCell ⟨s + 2, 0, none⟩ (.bool false)) := ⟨_, rfl⟩
      have KV : Hid (V.heap[s + 1]? = some (.cells #[.map none, .slice none 0 0] 181 (0, 0)) ∧ V.heap[s + 2]? = some (.cells #[.bool false] 4 (0, 0)) ∧ Chg W1 V (fun q => q = s + 1 ∨ q = s + 2)) := fail_box r1 r2 hV
      have v1 := (cells2 r1)
      have v2 := (cells_at r2 0)
      obtain ⟨v10, v11, v12, v13⟩ := v1
      obtain ⟨v20, v21⟩ := v2
      simp only [List.getElem?_toArray, List.getElem?_cons_zero] at v20
      clear hAsk z0' z1' y0' r1 r2
      subst hW1
      gi_wp2_with (refine ⟨trivial, ?_⟩)
      rw [← hV]
      exact plan_fail (w8 := w8) (Q := True) KI.out.2.2 KB.out.2.2.2.2 KV.out KK.out.2.2.2 (fun _ _ x => x) (fun _ x _ => x) heq K.out.2.2
    · rw [if_neg hg] at heq
      have hg0 : g (xa, xb) = false := by simpa using hg
      rw [hg0] at hlk
      clear hg r1 r2
      change Calls Tryz.prog 138 _ W1 (fun r w' => r = .returned (.bool (askM n m root st xa).1) ∧ AskEnd W1 w' (s + 4) (s + 3) cP vW (askM n m root st xa)) at hAsk
      obtain ⟨R, hR⟩ : ∃ R, R = askM n m root st xa := ⟨_, rfl⟩
      rw [← hR] at hAsk heq
      have HR : Hid (R = askM n m root st xa) := hR
      clear hR
      obtain ⟨Rb, st2⟩ := R
      simp only at hAsk heq
      subst hW1
      gi_wp2_with fail
      refine ⟨trivial, ?_⟩
      gi_at_call 138
      refine (CallsIn.inRound _ (callsIn_wide.2 hAsk)).mono ?_
      rintro e W2 ⟨rfl, vW2, c2, hP2, cA, hL, hc2⟩
      clear hAsk y0' z0' z1'
      simp only at hP2
      have cF : Chg W W2 F := KK.out.2.2.2.weak.trans cA (fun q _ hq => KB.out.2.2.1 q hq)
      have hFs : ∀ q, F q → q < w.heap.size → Sf S A B M f q := fun q hq hl => by
        rcases (KI.out.2.1 q).1 hq with ⟨h1, _⟩ | h | h
        · have := K.out.2.2; omega
        · have := (KI.out.1.vw q h).1; have := K.out.2.2; omega
        · exact h
      have cFn : Chg W W2 (fun q => s ≤ q ∧ ¬ (q = s + 1 ∨ q = s + 2 ∨ q = s ∨ q = s + 5 ∨ q = s + 6) ∧ F q) := KK.out.2.2.2.weak.trans cA (fun q _ hq => by
        refine ⟨?_, ?_, KB.out.2.2.1 q hq⟩
        · rcases hq with e | e | e
          · omega
          · omega
          · have := (KI.out.1.vw q e).1; omega
        · rcases hq with e | e | e
          · omega
          · omega
          · have := (KI.out.1.vw q e).1; omega)
      have nT : ∀ q, (s ≤ q ∧ ¬ (q = s + 1 ∨ q = s + 2 ∨ q = s ∨ q = s + 5 ∨ q = s + 6) ∧ F q) → q < w.heap.size → False := fun q hq hl => by have := K.out.2.2; omega
      have sp2 : Sp W2 S A root B M n p0 pages taken sealed f m := KI.out.1.sp.other cFn (fun q hq x => by have := KI.out.1.old q hq; omega)
      have q1 := cFn.heap KI.out.1.b1 (fun x => by omega)
      have q2 := cFn.heap KI.out.1.b2 (fun x => by omega)
      have q0 := cFn.heap KI.out.1.b0 (fun x => by omega)
      have q6 := cFn.heap KI.out.1.b6 (fun x => by omega)
      have qS := KK.out.1.kept cFn (fun x => by omega)
      have qB := cFn.heap KB.out.1 (fun x => KB.out.2.1 x.2.2)
      have KW : Hid (Chg W W2 (fun q => s ≤ q ∧ ¬ (q = s + 1 ∨ q = s + 2 ∨ q = s ∨ q = s + 5 ∨ q = s + 6) ∧ F q) ∧ (∀ q, (s ≤ q ∧ ¬ (q = s + 1 ∨ q = s + 2 ∨ q = s ∨ q = s + 5 ∨ q = s + 6) ∧ F q) → q < w.heap.size → False)) := ⟨cFn, nT⟩
      cases Rb
      · rw [if_pos rfl] at heq
        obtain ⟨V, hV⟩ : ∃ V, V = (((W2.setCell ⟨s + 1, 0, none⟩ (.map none)).setCell ⟨s + 1, 1, none⟩ (.slice none 0 0)).setCell ⟨s + 2, 0, none⟩ (.bool false)) := ⟨_, rfl⟩
        have KV : Hid (V.heap[s + 1]? = some (.cells #[.map none, .slice none 0 0] 181 (0, 0)) ∧ V.heap[s + 2]? = some (.cells #[.bool false] 4 (0, 0)) ∧ Chg W2 V (fun q => q = s + 1 ∨ q = s + 2)) := fail_box q1 q2 hV
        obtain ⟨v10, v11, v12, v13⟩ := cells2 q1
        obtain ⟨v20, v21⟩ := cells_at q2 0
        simp only [List.getElem?_toArray, List.getElem?_cons_zero] at v20
        clear q1 q2
        clear cF hFs cFn nT sp2 q0 q6 qS qB hP2 cA hL hc2
        gi_wp2_with (refine ⟨trivial, ?_⟩)
        rw [← hV]
        exact plan_fail (w8 := w8) (Q := True) KI.out.2.2 KB.out.2.2.2.2 KV.out KW.out.1 (fun q hq x => KB.out.2.2.2.1 q hq x.2.2) KW.out.2 heq K.out.2.2
      · rw [if_neg (by simp)] at heq
        have hlk2 := hP2.map.look xa (by omega)
        have hok2 : TOk st2.T := by
          have := askM_ok (n := n) (root := root) KI.out.1.sp.m.byte KI.out.1.ok xa
          rw [← HR.out] at this; exact this
        have hlen2 : st2.wl.length ≤ st.wl.length + 1 := by
          have := askM_len n m root st xa
          rw [← HR.out] at this; exact this
        have hef := hok2 xa
        obtain ⟨ee, hee⟩ : ∃ ee, ee = (st2.T xa).getD e0 := ⟨_, rfl⟩
        rw [← hee] at hlk2 hef heq
        have hFr := free_any W2 S A root B M n p0 pages taken sealed f m sp2.s sp2.a sp2.m ee hef xb (by omega)
        obtain ⟨fb, hfb⟩ : ∃ fb, fb = freeM n m ee xb := ⟨_, rfl⟩
        rw [← hfb] at hFr heq
        clear hee hfb
        obtain ⟨ek, ep, ef⟩ := ee
        unfold eV at hlk2 hFr
        simp only at hlk2 hFr
        have u0 := (cells_at q0 0).1
        have u6 := (cells2 hP2.box).1
        obtain ⟨uB0, uB1, -, -⟩ := cells2 qB
        simp only [List.getElem?_toArray, List.getElem?_cons_zero] at u0
        have K2 : Hid (Sp W2 S A root B M n p0 pages taken sealed f m ∧ IsP W2 (s + 4) (s + 3) c2 st2.T vW2 st2.wl ∧ Loc (W.alloc (.cells #[] 271)) vW vW2 ∧ c2 ≤ cP + 1 ∧ SM W2 (s + 5) cS g ∧ TOk st2.T ∧ st2.wl.length ≤ st.wl.length + 1 ∧ W2.heap[s]? = some (.cells #[.pointer (some ⟨S, 0, none⟩)] 97 (0, 0)) ∧ W2.heap[s + 6]? = some (.cells #[.map (some (s + 5))] 270 (0, 0)) ∧ W2.heap[s + 1]? = some (.cells #[.map none, .slice none 0 0] 181 (0, 0)) ∧ W2.heap[s + 2]? = some (.cells #[.bool false] 4 (0, 0)) ∧ W2.heap[Bx]? = some (.cells #[.int .u32 (xa : Nat), .int .u32 (xb : Nat)] 190 (0, 0)) ∧ Chg (W.alloc (.cells #[] 271)) W2 (Pf (s + 4) (s + 3) vW)) := ⟨sp2, hP2, hL, hc2, qS, hok2, hlen2, q0, q6, q1, q2, qB, cA⟩
        clear sp2 hP2 hL hc2 qS hok2 hlen2 q0 q6 q1 q2 qB cA cF hFs cFn nT hef
        gi_wp2_with fail
        refine ⟨trivial, ?_⟩
        gi_at_call 139
        refine (CallsIn.inRound _ (callsIn_wide.2 hFr)).mono ?_
        rintro e W3 ⟨rfl, c3⟩
        clear hFr hlk2 u0 u6 uB0 uB1
        obtain ⟨sp2, hP2, hL, hc2, qS, hok2, hlen2, q0, q6, q1, q2, qB, cA⟩ := K2.out
        have cFn3 := KW.out.1.trans c3 (fun _ _ x => x.elim)
        cases fb
        · rw [if_pos rfl] at heq
          replace q1 := c3.heap q1 (fun x => x)
          replace q2 := c3.heap q2 (fun x => x)
          have K3 : Hid (Chg W W3 (fun q => s ≤ q ∧ ¬ (q = s + 1 ∨ q = s + 2 ∨ q = s ∨ q = s + 5 ∨ q = s + 6) ∧ F q)) := cFn3
          obtain ⟨V, hV⟩ : ∃ V, V = (((W3.setCell ⟨s + 1, 0, none⟩ (.map none)).setCell ⟨s + 1, 1, none⟩ (.slice none 0 0)).setCell ⟨s + 2, 0, none⟩ (.bool false)) := ⟨_, rfl⟩
          have KV : Hid (V.heap[s + 1]? = some (.cells #[.map none, .slice none 0 0] 181 (0, 0)) ∧ V.heap[s + 2]? = some (.cells #[.bool false] 4 (0, 0)) ∧ Chg W3 V (fun q => q = s + 1 ∨ q = s + 2)) := fail_box q1 q2 hV
          obtain ⟨v10, v11, v12, v13⟩ := cells2 q1
          obtain ⟨v20, v21⟩ := cells_at q2 0
          simp only [List.getElem?_toArray, List.getElem?_cons_zero] at v20
          clear q1 q2
          clear sp2 hP2 hL hc2 qS hok2 hlen2 q0 q6 qB cA cFn3 c3
          gi_wp2
          rw [← hV]
          exact plan_fail (w8 := w8) (Q := True) KI.out.2.2 KB.out.2.2.2.2 KV.out K3.out (fun q hq x => KB.out.2.2.2.1 q hq x.2.2) KW.out.2 heq K.out.2.2
        · rw [if_neg (by simp)] at heq
          have qS3 := qS.kept c3 (fun x => x)
          obtain ⟨W4, hr4, t4, g4⟩ := qS3.store (xa, xb) ⟨by omega, by omega⟩ (by have := KK.out.2.1; omega)
          have c4 : Chg W3 W4 (fun q => q = s + 5) := (Chg.refl _ _).grown g4 (fun q e => .inl (by cases e; rfl))
          obtain ⟨uB0, uB1, -, -⟩ := cells2 (c3.heap qB (fun x => x))
          have u6 := (cells_at (c3.heap q6 (fun x => x)) 0).1
          simp only [List.getElem?_toArray, List.getElem?_cons_zero] at u6
          unfold plV at hr4
          simp only at hr4
          have HE : Hid ((∀ i, Two w8.heap.size i → W4.heap[i]? = W.heap[i]?) ∧ RoundF (PlJ s S A root B M n p0 pages taken sealed f m w (pgs l)) k F W W4) := by
            have c24 : Chg W2 W4 (fun q => q = s + 5) := c3.weak.trans c4 (fun _ _ x => x)
            have cW4 : Chg W W4 F := (KW.out.1.mono (fun q _ x => x.2.2)).trans c24 (fun q _ e => by rw [e]; exact (KI.out.2.1 _).2 (.inl ⟨by omega, by omega⟩))
            have hvw : ∀ q, vW2.ownBlock = some q → (s + 10 ≤ q ∧ q < W2.heap.size) ∧ (F q ∨ W.heap.size ≤ q) := by
              intro q hq
              have hql : q < W2.heap.size := by
                obtain ⟨_, _, _, _, h3, _⟩ := hP2.own.shape
                exact h3 q hq
              rcases hL with e | ⟨j, e, hj⟩
              · rw [e] at hq
                exact ⟨⟨(KI.out.1.vw q hq).1, hql⟩, .inl ((KI.out.2.1 q).2 (.inr (.inl hq)))⟩
              · rw [e] at hq; cases hq
                have h1 := KK.out.2.2.2.size
                have := KB.out.2.2.2.2
                have := K.out.2.2
                exact ⟨⟨by omega, hql⟩, .inr (by omega)⟩
            refine ⟨fun i hi => cW4.block i (by have := KB.out.2.2.2.2; rcases hi with e | e <;> omega) (KB.out.2.2.2.1 i hi), Gf s S A B M f vW2, ⟨vW2, st2, addP g (xa, xb), ?_, fun _ => Iff.rfl, ?_⟩, ?_, cW4⟩
            · have nn : ∀ i, i < 7 → i ≠ 5 → ¬ (s + i = s + 5) := fun i _ h => by omega
              refine ⟨c24.heap q0 (nn 0 (by omega) (by omega)), c24.heap q1 (nn 1 (by omega) (by omega)), c24.heap q2 (nn 2 (by omega) (by omega)), ⟨c2, hP2.other c24 ?_, by have := KK.out.2.2.1; omega⟩, c24.heap q6 (nn 6 (by omega) (by omega)), ⟨_, t4, by have := KK.out.2.1; omega⟩, sp2.other c24 (fun q hq e => by have := KI.out.1.old q hq; omega), by omega, hok2, heq, KI.out.1.old, fun q hq => ⟨(hvw q hq).1.1, Nat.lt_of_lt_of_le (hvw q hq).1.2 c24.size⟩⟩
              rintro q (e | e | e) e'
              · omega
              · omega
              · have := (hvw q e).1.1; omega
            · exact KI.out.2.2.trans ((KW.out.1.mono (T := fun q => s ≤ q) (fun q _ x => x.1)).trans c24 (fun q _ e => by omega)) (fun q hq x => by have := K.out.2.2; omega)
            · rintro q (h | h | h)
              · exact .inl ((KI.out.2.1 q).2 (.inl h))
              · rcases (hvw q h).2 with h1 | h1
                · exact .inl h1
                · exact .inr ⟨h1, Nat.lt_of_lt_of_le (hvw q h).1.2 c24.size⟩
              · exact .inl ((KI.out.2.1 q).2 (.inr (.inr h)))
          clear sp2 hP2 hL hc2 qS hok2 hlen2 q0 q6 q1 q2 qB cA cFn3 c3 c4 t4 g4 qS3
          gi_wp2
          exact HE.out
  case done =>
    rintro F W ⟨vW, st, g, hI, hF, hc⟩ hTw hD
    clear hTw
    obtain ⟨hsz, hsw⟩ := K.out.2.2
    obtain ⟨cP, hPP, hcP⟩ := hI.p
    have heq := hI.eq
    rw [List.drop_length, plS_nil] at heq
    obtain ⟨a7, cap7, e7, -, -, -⟩ := hPP.own.shape
    generalize st.wl.length = len7 at e7
    subst e7
    obtain ⟨p0', p1', -, -⟩ := cells2 hPP.box
    obtain ⟨v10, v11, v12, v13⟩ := cells2 hI.b1
    obtain ⟨v20, v21⟩ := cells_at hI.b2 0
    simp only [List.getElem?_toArray, List.getElem?_cons_zero] at v20
    obtain ⟨V1, hV1⟩ : ∃ V1, V1 = ((W.setCell ⟨s + 1, 0, none⟩ (.map (some (s + 3)))).setCell ⟨s + 1, 1, none⟩ (.slice a7 len7 cap7)) := ⟨_, rfl⟩
    obtain ⟨q1, -, q3⟩ := box2 hI.b1 _ _ hV1
    obtain ⟨V, hV⟩ : ∃ V, V = V1.setCell ⟨s + 2, 0, none⟩ (.bool true) := ⟨_, rfl⟩
    have c2 : Chg V1 V (fun q => q = s + 2) := by rw [hV]; exact Chg.setCell (S := fun q => q = s + 2) (Chg.refl _ _) (.inl rfl) _
    have q2 : V.heap[s + 2]? = some (.cells #[.bool true] 4 (0, 0)) := by rw [hV, heap_setCell_same V1 (s + 2) 0 _ 4 _ (q3.heap hI.b2 (by omega))]; rfl
    have q1' := c2.heap q1 (by omega)
    have cWV : Chg W V (fun q => q = s + 1 ∨ q = s + 2) := (q3.mono (fun _ _ e => .inl e)).trans c2 (fun _ _ e => .inr e)
    have hDV := cWV.heap hD (by omega)
    have c3 : Chg V (V.putObj w8.heap.size (.deferred none)) (Two w8.heap.size) := Chg.putObj (Chg.refl _ _) (.inl (.inl rfl)) _
    have cF := cWV.mono (T := fun q => q = s + 1 ∨ q = s + 2 ∨ Two w8.heap.size q) (fun q _ e => by rcases e with e | e; exact .inl e; exact .inr (.inl e)) |>.trans c3 (fun _ _ e => .inr (.inr e))
    obtain ⟨r0, r1, -, -⟩ := cells2 (c3.heap q1' (by rintro (e | e) <;> omega))
    have r2 := (cells_at (c3.heap q2 (by rintro (e | e) <;> omega)) 0).1
    simp only [List.getElem?_toArray, List.getElem?_cons_zero] at r2
    have nF : ∀ q, (q = s + 1 ∨ q = s + 2 ∨ Two w8.heap.size q) → s + 1 ≤ q ∧ q ≠ s + 3 ∧ q ≠ s + 4 := fun q e => by rcases e with e | e | e | e <;> omega
    have hTT := hPP.map.kept cF (fun e => (nF _ e).2.1 rfl)
    have hvT : ∀ q, (Value.slice a7 len7 cap7).ownBlock = some q → ¬ (q = s + 1 ∨ q = s + 2 ∨ Two w8.heap.size q) := fun q hq e => by
      have h1 := hI.vw q hq
      rcases e with e | e | e
      · omega
      · omega
      · rcases e with e | e <;> omega
    have hOU := hPP.own.chg cF hvT
    have hcE : Chg w (V.putObj w8.heap.size (.deferred none)) (fun _ => False) := hc.trans cF (fun q hq e => by have := (nF q e).1; omega)
    have HEnd : Hid (PlanEnd w (V.putObj w8.heap.size (.deferred none)) n m root l (.returned (.tuple #[.agg #[.map (some (s + 3)), .slice a7 len7 cap7], .bool true]))) := .inr ⟨st, _, s + 3, cP, heq, rfl, hTT, hOU, hcE, by omega, fun q hq => by have := (hI.vw q hq).1; omega, hcP, hI.ln, hI.ok⟩
    clear hTT hOU hcE hvT nF cF c3 cWV c2 q1 q3 q2 q1' hI hF hc hPP heq hsz hsw
    gi_wp2
    rw [← hV1, ← hV]
    refine ⟨by simp, .inl ⟨_, _, rfl, run_takeDeferred hDV, ?_⟩⟩
    exact ⟨_, (by simp [results, Tryz.results78, go_sem, r0, r1, r2]), HEnd.out⟩
  case stop =>
    rintro c W ⟨rfl, h1, h2, h3, h4⟩ hD
    obtain ⟨hsz, hsw⟩ := K.out.2.2
    have c3 : Chg W (W.putObj w8.heap.size (.deferred none)) (Two w8.heap.size) := Chg.putObj (Chg.refl _ _) (.inl (.inl rfl)) _
    obtain ⟨r0, r1, -, -⟩ := cells2 (c3.heap h2 (by rintro (e | e) <;> omega))
    have r2 := (cells_at (c3.heap h3 (by rintro (e | e) <;> omega)) 0).1
    simp only [List.getElem?_toArray, List.getElem?_cons_zero] at r2
    have HEnd : Hid (PlanEnd w (W.putObj w8.heap.size (.deferred none)) n m root l (.returned (.tuple #[.agg #[.map none, .slice none 0 0], .bool false]))) := .inl ⟨h1, rfl, h4.trans c3 (fun q hq e => by rcases e with e | e <;> omega)⟩
    clear c3 h2 h3 h4 hsz hsw
    gi_wp2
    refine ⟨by simp, .inl ⟨_, _, rfl, run_takeDeferred hD, ?_⟩⟩
    exact ⟨_, (by simp [results, Tryz.results78, go_sem, r0, r1, r2]), HEnd.out⟩
  · unfold pgArgs
    split <;> rfl
end Go.Proofs.YtfolnmmlhknmiaaGreatDoor
