import Derived.Test.YtfolnmmlhknmiaaGreatDoorTb
import Derived.DeepKeys4
import Derived.Maps.OwnSet
namespace Go.Proofs.YtfolnmmlhknmiaaGreatDoor
open Go.ChangeShapes Go.WideShapes Go.ChangeAt Go.RowKit
set_option linter.unusedVariables false

theorem laidOut' : laidOutB Tryz.prog = true := by kernel_rfl
theorem keyed114 : Maps.Keyed Tryz.prog 190 := Maps.Keyed.of_law (deep_law_laid laidOut' (m := 3) (by omega) (of_decide_eq_true (by kernel_rfl)) (by kernel_rfl) (by kernel_rfl))
theorem cells114 : Tryz.prog.cellsOf 190 = 2 := by kernel_rfl
theorem cells23' : Tryz.prog.cellsOf 22 = 1 := by kernel_rfl
/-- A place: both indexes. -/
def plV (p : Nat × Nat) : Value := .agg #[.int .u32 ((p.1 : Nat) : Int), .int .u32 ((p.2 : Nat) : Int)]
def plL (p : Nat × Nat) : Lit := .string (keyBytes [.int .u32 ((p.1 : Nat) : Int), .int .u32 ((p.2 : Nat) : Int)])
def PlOk (p : Nat × Nat) : Prop := p.1 < 4294967296 ∧ p.2 < 4294967296
theorem wf32 (n : Int) : (Lit.int .u32 n).wf = true ↔ 0 ≤ n ∧ n ≤ 4294967295 := by
  simp [Lit.wf, IntKind.min, IntKind.max, IntKind.signed, IntKind.bits]
theorem lits23 (d : Nat) (n : Int) (hn : (Lit.int .u32 n).wf = true) : Tryz.prog.keyLits (d + 1) 22 [.int .u32 n] = some [.int .u32 n] := by
  unfold Program.keyLits
  simp [Tryz.underlying22, hn]
theorem PlOk.wf {p : Nat × Nat} (h : PlOk p) : (Lit.int .u32 ((p.1 : Nat) : Int)).wf = true ∧ (Lit.int .u32 ((p.2 : Nat) : Int)).wf = true :=
  ⟨(wf32 _).2 (by have := h.1; omega), (wf32 _).2 (by have := h.2; omega)⟩
theorem lits114 (d : Nat) (p : Nat × Nat) (h : PlOk p) : Tryz.prog.keyLits (d + 1 + 1) 190 [.int .u32 ((p.1 : Nat) : Int), .int .u32 ((p.2 : Nat) : Int)] = some [.int .u32 ((p.1 : Nat) : Int), .int .u32 ((p.2 : Nat) : Int)] := by
  have h1 := lits23 d ((p.1 : Nat) : Int) h.wf.1
  have h2 := lits23 d ((p.2 : Nat) : Int) h.wf.2
  rw [Program.keyLits.eq_def]
  simp [Tryz.underlying190, cells114, cells23', h1, h2]
theorem typesN : Tryz.prog.types.size = Tryz.prog.types.size - 1 + 1 := by kernel_rfl
theorem key114 (p : Nat × Nat) (h : PlOk p) : keyOf Tryz.prog 190 (plV p) = some (plL p) := by
  have h1 : Tryz.prog.keyType 190 = true := by kernel_rfl
  have hsz := typesN
  have hl := lits114 (Tryz.prog.types.size - 1) p h
  rw [← hsz] at hl
  have hf : (plV p).formed Tryz.prog 190 = true := by simp [plV, Value.formed, Tryz.underlying190, cells114]
  have hc : (plV p).cells.toList = [.int .u32 ((p.1 : Nat) : Int), .int .u32 ((p.2 : Nat) : Int)] := rfl
  unfold keyOf
  rw [Tryz.underlying190]
  simp only [h1, hf, Bool.and_self, if_true, hc, hl, Option.map_some, plL]
theorem plV_inj {a b : Nat × Nat} (h : plV a = plV b) : a = b := by
  simp [plV] at h
  exact Prod.ext (by omega) (by omega)
theorem plL_inj {a b : Nat × Nat} (ha : PlOk a) (hb : PlOk b) (h : plL a = plL b) : a = b := by
  have h1 := key114 a ha
  have h2 := key114 b hb
  rw [← h] at h2
  exact plV_inj (keyed114.inj h1 h2)
/-- How nothing reads. -/
def uElem : Value → Option (DataW Unit × List MemPlace)
  | .agg a => if a.toList = [] then some (.agg [], []) else none
  | _ => none
theorem uElem_V : uElem (.agg #[]) = some (.agg [], []) := rfl
theorem uElem_inv {v : Value} {y : DataW Unit × List MemPlace} (h : uElem v = some y) : v = .agg #[] := by
  unfold uElem at h
  split at h
  · rename_i a
    split at h
    · rename_i hl
      congr 1
      exact Array.toList_inj.1 hl
    · cases h
  · cases h
theorem zero156 (w : World) : (zeroValue 271).run Tryz.prog w = .ok (.agg #[]) w := by kernel_rfl
/-- Block M is the set of the places that were seen. -/
structure SM (w : World) (M n : Nat) (g : Nat × Nat → Bool) : Prop where
  ex : ∃ es, w.ownsMap Tryz.prog 190 uElem M n (.map es) ∧ ∀ p, PlOk p → Maps.has (DataW.map es) (plL p) = g p
theorem SM.made (w : World) : SM (w.alloc (.map #[] 0)) w.heap.size 0 (fun _ => false) :=
  ⟨[], World.ownsMap_made w Tryz.prog 190 uElem, fun t _ => rfl⟩
theorem SM.look {w : World} {M n : Nat} {g : Nat × Nat → Bool} (h : SM w M n g) (p : Nat × Nat) (hp : PlOk p) : (Instr.lookup 270 (.map (some M)) (plV p) true).run Tryz.prog w = .ok (.tuple #[.agg #[], .bool (g p)]) w := by
  obtain ⟨es, h1, h2⟩ := h.ex
  obtain ⟨v, ps, hr, hv⟩ := h1.look_ok keyed114 Tryz.underlying270 (zero156 w) (zd := .agg []) (zp := []) uElem_V (key114 p hp)
  rw [hr, uElem_inv hv, h2 p hp]
def addP (g : Nat × Nat → Bool) (p : Nat × Nat) (x : Nat × Nat) : Bool := if x = p then true else g x
theorem SM.store {w : World} {M n : Nat} {g : Nat × Nat → Bool} (h : SM w M n g) (p : Nat × Nat) (hp : PlOk p) (hn : n ≤ 2000000000) :
    ∃ w', (Instr.mapUpdate 270 (.map (some M)) (plV p) (.agg #[])).run Tryz.prog w = .ok () w' ∧ SM w' M (n + 1) (addP g p) ∧ w.grownBy w' (some M) := by
  obtain ⟨es, h1, h2⟩ := h.ex
  obtain ⟨w', hr, h4, h5⟩ := h1.update keyed114 Tryz.underlying270 (by simp [maxLen]; omega) (key114 p hp) uElem_V
  have hm := h1.isMap
  have hD : (DataW.map es).put (plL p) (.agg []) = .map (DataW.insert (plL p, .agg []) (es.filter fun q => !q.1.sameKey (plL p))) := rfl
  refine ⟨w', hr, ⟨_, by rw [hD] at h4; exact h4, ?_⟩, h5⟩
  intro a ha
  rw [← hD]
  unfold addP
  by_cases e : a = p
  · subst e
    rw [if_pos rfl]
    exact Maps.has_put_same hm (keyed114.key (key114 a ha)) _
  · rw [if_neg e]
    have hne : plL a ≠ plL p := fun h => e (plL_inj ha hp h)
    rw [Maps.has_put_other hne]
    exact h2 a ha
theorem SM.kept {w w' : World} {M n : Nat} {g : Nat × Nat → Bool} {S : Nat → Prop} (h : SM w M n g) (hc : Chg w w' S) (hM : ¬ S M) : SM w' M n g := by
  obtain ⟨es, ⟨es2, clock, q1, r⟩, h2⟩ := h.ex
  exact ⟨es, ⟨es2, clock, hc.heap q1 hM, r⟩, h2⟩
theorem SM.heap {w : World} {M n : Nat} {g : Nat × Nat → Bool} (h : SM w M n g) : ∃ es c, w.heap[M]? = some (.map es c) := by
  obtain ⟨es, ⟨es2, clock, q1, r⟩, _⟩ := h.ex
  exact ⟨_, _, q1⟩

/-- An entry. -/
structure En where
  k : Int
  p : Nat
  f : Nat
def eV (e : En) : Value := .agg #[.int .i64 e.k, .int .u8 ((e.p : Nat) : Int), .int .u32 ((e.f : Nat) : Int)]
def enElem : Value → Option (DataW Unit × List MemPlace)
  | .agg a => match a.toList with
    | [.int .i64 k, .int .u8 (.ofNat p), .int .u32 (.ofNat f)] => some (.agg [.lit (.int .i64 k), .lit (.int .u8 (.ofNat p)), .lit (.int .u32 (.ofNat f))], [])
    | _ => none
  | _ => none
def eD (e : En) : DataW Unit := .agg [.lit (.int .i64 e.k), .lit (.int .u8 ((e.p : Nat) : Int)), .lit (.int .u32 ((e.f : Nat) : Int))]
def e0 : En := ⟨0, 0, 0⟩
theorem enElem_V (e : En) : enElem (eV e) = some (eD e, []) := rfl
theorem enElem_inv {v : Value} {y : DataW Unit × List MemPlace} (h : enElem v = some y) : ∃ e, v = eV e ∧ y = (eD e, []) := by
  unfold enElem at h
  split at h
  · rename_i a
    split at h
    · rename_i k p f hl
      refine ⟨⟨k, p, f⟩, ?_, (Option.some.inj h).symm⟩
      unfold eV
      congr 1
      apply Array.toList_inj.1
      rw [hl]
      rfl
    · cases h
  · cases h
theorem eD_inj {a b : En} (h : eD a = eD b) : a = b := by
  obtain ⟨a1, a2, a3⟩ := a
  obtain ⟨b1, b2, b3⟩ := b
  simp [eD] at h
  obtain ⟨h1, h2, h3⟩ := h
  have e2 : a2 = b2 := by omega
  have e3 : a3 = b3 := by omega
  rw [h1, e2, e3]
theorem enElem_at {v : Value} {e : En} {ps : List MemPlace} (h : enElem v = some (eD e, ps)) : v = eV e := by
  obtain ⟨e', rfl, h2⟩ := enElem_inv h
  rw [eD_inj (Prod.mk.inj h2).1]
theorem zero55 (w : World) : (zeroValue 193).run Tryz.prog w = .ok (eV e0) w := by kernel_rfl
/-- Block M is the map of the tables. -/
structure TT (w : World) (M n : Nat) (f : Nat → Option En) : Prop where
  ex : ∃ es, w.ownsMap Tryz.prog 22 enElem M n (.map es) ∧ ∀ k : Nat, k ≤ 4294967295 → (DataW.map es).atKey (.int .u32 k) (eD e0) = eD ((f k).getD e0) ∧ Maps.has (DataW.map es) (.int .u32 k) = (f k).isSome
theorem TT.made (w : World) : TT (w.alloc (.map #[] 0)) w.heap.size 0 (fun _ => none) :=
  ⟨[], World.ownsMap_made w Tryz.prog 22 enElem, fun t _ => ⟨rfl, rfl⟩⟩
theorem TT.look {w : World} {M n : Nat} {f : Nat → Option En} (h : TT w M n f) (k : Nat) (hk : k ≤ 4294967295) : (Instr.lookup 179 (.map (some M)) (.int .u32 k) false).run Tryz.prog w = .ok (eV ((f k).getD e0)) w := by
  obtain ⟨es, h1, h2⟩ := h.ex
  obtain ⟨v, ps, hr, hv⟩ := h1.lookup keyed22 Tryz.underlying179 (zero55 w) (zd := eD e0) (zp := []) (enElem_V e0) (key22 k hk)
  rw [(h2 k hk).1] at hv
  rw [hr, enElem_at hv]
theorem TT.lookOk {w : World} {M n : Nat} {f : Nat → Option En} (h : TT w M n f) (k : Nat) (hk : k ≤ 4294967295) : (Instr.lookup 179 (.map (some M)) (.int .u32 k) true).run Tryz.prog w = .ok (.tuple #[eV ((f k).getD e0), .bool (f k).isSome]) w := by
  obtain ⟨es, h1, h2⟩ := h.ex
  obtain ⟨v, ps, hr, hv⟩ := h1.look_ok keyed22 Tryz.underlying179 (zero55 w) (zd := eD e0) (zp := []) (enElem_V e0) (key22 k hk)
  rw [(h2 k hk).1] at hv
  rw [hr, enElem_at hv, (h2 k hk).2]
def setT (f : Nat → Option En) (k : Nat) (e : En) (x : Nat) : Option En := if x = k then some e else f x
theorem TT.store {w : World} {M n : Nat} {f : Nat → Option En} (h : TT w M n f) (k : Nat) (hk : k ≤ 4294967295) (e : En) (hn : n ≤ 2000000000) :
    ∃ w', (Instr.mapUpdate 179 (.map (some M)) (.int .u32 k) (eV e)).run Tryz.prog w = .ok () w' ∧ TT w' M (n + 1) (setT f k e) ∧ w.grownBy w' (some M) := by
  obtain ⟨es, h1, h2⟩ := h.ex
  obtain ⟨w', hr, h4, h5⟩ := h1.update keyed22 Tryz.underlying179 (by simp [maxLen]; omega) (key22 k hk) (enElem_V e)
  have hm := h1.isMap
  have hD : (DataW.map es).put (.int .u32 k) (eD e) = .map (DataW.insert (.int .u32 k, eD e) (es.filter fun p => !p.1.sameKey (.int .u32 k))) := rfl
  refine ⟨w', hr, ⟨_, by rw [hD] at h4; exact h4, ?_⟩, h5⟩
  intro a ha
  rw [← hD]
  unfold setT
  by_cases h : a = k
  · subst h
    rw [if_pos rfl]
    exact ⟨Maps.atKey_put_same hm (keyed22.key (key22 a ha)) _ _, Maps.has_put_same hm (keyed22.key (key22 a ha)) _⟩
  · rw [if_neg h]
    have hne : (Lit.int .u32 (a : Int)) ≠ .int .u32 (k : Int) := by intro e; simp at e; omega
    rw [Maps.atKey_put_other hne, Maps.has_put_other hne]
    exact h2 a ha
theorem TT.kept {w w' : World} {M n : Nat} {f : Nat → Option En} {S : Nat → Prop} (h : TT w M n f) (hc : Chg w w' S) (hM : ¬ S M) : TT w' M n f := by
  obtain ⟨es, ⟨es2, clock, q1, r⟩, h2⟩ := h.ex
  exact ⟨es, ⟨es2, clock, hc.heap q1 hM, r⟩, h2⟩
theorem TT.heap {w : World} {M n : Nat} {f : Nat → Option En} (h : TT w M n f) : ∃ es c, w.heap[M]? = some (.map es c) := by
  obtain ⟨es, ⟨es2, clock, q1, r⟩, _⟩ := h.ex
  exact ⟨_, _, q1⟩

theorem info23 : (Tryz.prog.info? 22).map (fun i => (i.zero, i.size, i.bytes)) = some (some (.int .u32 0), 1, 4) := by kernel_rfl
theorem info_parts {P : Program} {t : TypeId} {z : Value} {s b : Nat} (h : (P.info? t).map (fun i => (i.zero, i.size, i.bytes)) = some (some z, s, b)) : ∃ i, P.info? t = some i ∧ i.zero = some z ∧ i.size = s ∧ i.bytes = b := by
  cases hi : P.info? t with
  | none => rw [hi] at h; cases h
  | some i =>
    rw [hi] at h
    simp at h
    exact ⟨i, rfl, h.1, h.2.1, h.2.2⟩
/-- Numbers in a row of one's own. -/
def OwnU (w : World) (v : Value) (l : List Nat) : Prop := w.ownsRow 0 22 1 v l.length (l.map fun (x : Nat) => Value.int .u32 (x : Int))
theorem OwnU.nil (w : World) : OwnU w (.slice none 0 0) [] := World.ownsRow_nil _ _ _ _
theorem run_appU (w : World) (v : Value) (l : List Nat) (h : OwnU w v l) (x b c : Nat) (hx : w.cell? ⟨b, 0, none⟩ = some (.int .u32 (x : Nat))) (hb : l.length ≤ 2000000) (ty : TypeId) :
    ∃ v' w', (Builtin.append_ #[68, 68] ty #[v, .slice (some ⟨b, 0, none⟩) 1 c]).run Tryz.prog w = .ok v' w' ∧ OwnU w' v' (l ++ [x]) ∧ w.grownBy w' v.ownBlock ∧ Loc w v v' := by
  obtain ⟨i0, hi, hz0, hz1, hz2⟩ := info_parts info23
  obtain ⟨v', w', hr, k1, k2, k3⟩ := run_app (P := Tryz.prog) w 68 ty 22 i0 _ 1 4 Tryz.underlying68 hi hz0 hz1 hz2 rfl (by decide) v l.length _ h (some ⟨b, 0, none⟩) 1 c [.int .u32 (x : Nat)] rfl
    (.inr ⟨b, 0, rfl, fun j u hu => by
      cases j with
      | zero => simp at hu; rw [← hu]; exact hx
      | succ j => simp at hu⟩) (by simp [Value.oneCell']) (by simp [maxLen]; omega) (by omega)
  refine ⟨v', w', hr, ?_, k2, k3⟩
  unfold OwnU
  simpa using k1
theorem OwnU.chg {w w' : World} {v : Value} {l : List Nat} {S : Nat → Prop} (h : OwnU w v l) (hc : Chg w w' S) (hn : ∀ k, v.ownBlock = some k → ¬ S k) : OwnU w' v l := hc.owns h hn
theorem OwnU.shape {w : World} {v : Value} {l : List Nat} (h : OwnU w v l) : ∃ a cap, v = .slice a l.length cap ∧ l.length ≤ cap ∧ (∀ k, v.ownBlock = some k → k < w.heap.size) ∧ (∀ i (hi : i < l.length), ∃ g, a = some ⟨g, 0, none⟩ ∧ v.ownBlock = some g ∧ w.cell? ⟨g, i, none⟩ = some (.int .u32 ((l[i] : Nat) : Int))) := by
  rcases h.2 with ⟨rfl, h0⟩ | ⟨g, cap, cur, rfl, _, hg, hnc, hcm, hcs, ht⟩
  · exact ⟨none, 0, by rw [h0], by omega, fun k e => (by cases e), fun i hi => (by omega)⟩
  · refine ⟨_, cap, rfl, hnc, fun k e => ?_, fun i hi => ⟨g, rfl, rfl, ?_⟩⟩
    · cases e; exact (Array.getElem?_eq_some_iff.1 hg).1
    · have := h.cells (g := g) rfl i (.int .u32 ((l[i] : Nat) : Int)) (by rw [List.getElem?_map, List.getElem?_eq_getElem hi]; rfl)
      rw [Addr.add_lit, Nat.zero_add] at this
      exact this
end Go.Proofs.YtfolnmmlhknmiaaGreatDoor
