import Derived.Test.YthgpcmickgcdhaaSo
import Derived.DeepKeys4
import Derived.Maps.OwnSet
import Derived.Shelf.SlIter.Collect
namespace Go.Proofs.Ythgpcmickgcdhaa
open Go.ChangeShapes Go.WideShapes Go.ChangeAt Go.RowKit
set_option linter.unusedVariables false

theorem laidOut' : laidOutB Try.prog = true := by kernel_rfl
theorem keyed41 : Maps.Keyed Try.prog 41 := Maps.Keyed.of_law (deep_law_laid laidOut' (m := 3) (by omega) (of_decide_eq_true (by kernel_rfl)) (by kernel_rfl) (by kernel_rfl))
theorem cells41 : Try.prog.cellsOf 41 = 2 := by kernel_rfl
theorem cells3' : Try.prog.cellsOf 3 = 1 := by kernel_rfl
structure Ed where
  a : Int
  b : Int
deriving DecidableEq
def EOk (t : Ed) : Prop := (Lit.int .i64 t.a).wf = true ∧ (Lit.int .i64 t.b).wf = true
def eV (t : Ed) : Value := .agg #[.int .i64 t.a, .int .i64 t.b]
/-- An edge's key. -/
def kL (t : Ed) : Lit := .string (keyBytes [.int .i64 t.a, .int .i64 t.b])
theorem wf64 (n : Int) : (Lit.int .i64 n).wf = true ↔ -9223372036854775808 ≤ n ∧ n ≤ 9223372036854775807 := by
  simp [Lit.wf, IntKind.min, IntKind.max, IntKind.signed, IntKind.bits]
theorem lits3 (d : Nat) (n : Int) (hn : (Lit.int .i64 n).wf = true) : Try.prog.keyLits (d + 1) 3 [.int .i64 n] = some [.int .i64 n] := by
  unfold Program.keyLits
  simp [Try.underlying3, hn]
theorem lits41 (d : Nat) (t : Ed) (h : EOk t) : Try.prog.keyLits (d + 1 + 1) 41 [.int .i64 t.a, .int .i64 t.b] = some [.int .i64 t.a, .int .i64 t.b] := by
  have h1 := lits3 d t.a h.1
  have h2 := lits3 d t.b h.2
  rw [Program.keyLits.eq_def]
  simp [Try.underlying41, cells41, cells3', h1, h2]
theorem typesN : Try.prog.types.size = Try.prog.types.size - 1 + 1 := by kernel_rfl
theorem key41 (t : Ed) (h : EOk t) : keyOf Try.prog 41 (eV t) = some (kL t) := by
  have h1 : Try.prog.keyType 41 = true := by kernel_rfl
  have hsz := typesN
  have hl := lits41 (Try.prog.types.size - 1) t h
  rw [← hsz] at hl
  have hf : (eV t).formed Try.prog 41 = true := by simp [eV, Value.formed, Try.underlying41, cells41]
  have hc : (eV t).cells.toList = [.int .i64 t.a, .int .i64 t.b] := rfl
  unfold keyOf
  rw [Try.underlying41]
  simp only [h1, hf, Bool.and_self, if_true, hc, hl, Option.map_some, kL]
theorem lits_int_inv {P : Program} {t : TypeId} {q : IntKind} (hu : P.underlying t = some (.int q)) (d : Nat) (v : Value) (ls : List Lit) (h : P.keyLits (d + 1) t [v] = some ls) : ∃ n, v = .int q n ∧ (Lit.int q n).wf = true := by
  unfold Program.keyLits at h
  rw [hu] at h
  cases v <;> simp at h
  obtain ⟨⟨rfl, hw⟩, _⟩ := h
  exact ⟨_, rfl, hw⟩
theorem two_of {α : Type} : ∀ (l : List α), l.length = 2 → ∃ a b, l = [a, b]
  | [a, b], _ => ⟨a, b, rfl⟩
/-- What reads as a key of a struct of two integers. -/
theorem key2_inv {P : Program} {k t1 t2 : TypeId} {q1 q2 : IntKind} {f1 f2 : Field} {m : Nat} (hu : P.underlying k = some (.struct #[f1, f2])) (hc : P.cellsOf k = 2) (h1 : f1.type = t1) (h2 : f2.type = t2) (o1 : f1.offset = 0) (o2 : f2.offset = 1)
    (c1 : P.cellsOf t1 = 1) (c2 : P.cellsOf t2 = 1) (u1 : P.underlying t1 = some (.int q1)) (u2 : P.underlying t2 = some (.int q2)) (hs : P.types.size = m + 1) {v : Value} {kl : Lit} (h : keyOf P k v = some kl) :
    ∃ a b, v = .agg #[.int q1 a, .int q2 b] ∧ (Lit.int q1 a).wf = true ∧ (Lit.int q2 b).wf = true := by
  unfold keyOf at h
  rw [hu] at h
  simp only at h
  split at h
  · rename_i hcond
    obtain ⟨_, hf⟩ := Bool.and_eq_true_iff.1 hcond
    cases v with
    | agg cs =>
      have hsz : cs.size = 2 := by simpa [Value.formed, hu, hc] using hf
      obtain ⟨a, b, hab⟩ := two_of cs.toList (by simpa using hsz)
      have hcl : (Value.agg cs).cells.toList = [a, b] := hab
      rw [hcl, hs] at h
      rw [Program.keyLits.eq_def] at h
      simp only [hu, hc, List.length_cons, List.length_nil] at h
      simp [h1, h2, o1, o2, c1, c2, Option.bind_eq_some_iff] at h
      obtain ⟨ls, ⟨_, x, hx, y, hy, _⟩, _⟩ := h
      obtain ⟨p, rfl, hp⟩ := lits_int_inv u1 m a x hx
      obtain ⟨z, hz, _⟩ := hy
      obtain ⟨q, rfl, hq⟩ := lits_int_inv u2 m b z hz
      refine ⟨p, q, ?_, hp, hq⟩
      congr 1
      apply Array.toList_inj.1
      rw [hab]
    | _ => simp [Value.formed, hu] at hf
  · cases h
theorem key41_inv {v : Value} {kl : Lit} (h : keyOf Try.prog 41 v = some kl) : ∃ t, EOk t ∧ v = eV t ∧ kl = kL t := by
  obtain ⟨a, b, rfl, ha, hb⟩ := key2_inv (t1 := 3) (t2 := 3) (q1 := .i64) (q2 := .i64) Try.underlying41 cells41 rfl rfl rfl rfl cells3' cells3' Try.underlying3 Try.underlying3 typesN h
  refine ⟨⟨a, b⟩, ⟨ha, hb⟩, rfl, ?_⟩
  have := key41 ⟨a, b⟩ ⟨ha, hb⟩
  rw [show Value.agg #[.int .i64 a, .int .i64 b] = eV ⟨a, b⟩ from rfl, this] at h
  exact (Option.some.inj h).symm
theorem eV_inj {a b : Ed} (h : eV a = eV b) : a = b := by
  simp [eV] at h
  obtain ⟨a1, a2⟩ := a
  obtain ⟨b1, b2⟩ := b
  simp at h
  simp [h]
theorem kL_inj {a b : Ed} (ha : EOk a) (hb : EOk b) (h : kL a = kL b) : a = b := by
  have h1 := key41 a ha
  have h2 := key41 b hb
  rw [← h] at h2
  exact eV_inj (keyed41.inj h1 h2)
/-- How nothing reads. -/
def niE : Value → Option (DataW Unit × List MemPlace)
  | .agg a => match a.toList with
    | [] => some (.agg [], [])
    | _ => none
  | _ => none
theorem niE_inv {v : Value} {y : DataW Unit × List MemPlace} (h : niE v = some y) : v = .agg #[] := by
  unfold niE at h
  split at h
  · rename_i a
    split at h
    · rename_i hl
      congr 1
      apply Array.toList_inj.1
      rw [hl]
    · cases h
  · cases h
/-- Block M is the map of edges. -/
structure EM (w : World) (M n : Nat) (f : Ed → Bool) : Prop where
  ex : ∃ es, w.ownsMap Try.prog 41 niE M n (.map es) ∧ ∀ t, EOk t → Maps.has (DataW.map es) (kL t) = f t
theorem EM.made (w : World) : EM (w.alloc (.map #[] 0)) w.heap.size 0 (fun _ => false) :=
  ⟨[], World.ownsMap_made w Try.prog 41 niE, fun t _ => rfl⟩
theorem EM.store {w : World} {M n : Nat} {f : Ed → Bool} (h : EM w M n f) (t : Ed) (ht : EOk t) (hn : n ≤ 2000000) :
    ∃ w', (Instr.mapUpdate 75 (.map (some M)) (eV t) (.agg #[])).run Try.prog w = .ok () w' ∧ EM w' M (n + 1) (fun a => f a || decide (a = t)) ∧ w.grownBy w' (some M) := by
  obtain ⟨es, h1, h2⟩ := h.ex
  obtain ⟨w', hr, h4, h5⟩ := h1.update keyed41 Try.underlying75 (by simp [maxLen]; omega) (key41 t ht) (show niE (.agg #[]) = some (.agg [], []) from rfl)
  have hm := h1.isMap
  have hD : (DataW.map es).put (kL t) (.agg []) = .map (DataW.insert (kL t, .agg []) (es.filter fun p => !p.1.sameKey (kL t))) := rfl
  refine ⟨w', hr, ⟨_, by rw [hD] at h4; exact h4, ?_⟩, h5⟩
  intro a ha
  rw [← hD]
  by_cases e : a = t
  · subst e
    rw [Maps.has_put_same hm (keyed41.key (key41 a ha)) _]; simp
  · have hne : kL a ≠ kL t := fun h => e (kL_inj ha ht h)
    rw [Maps.has_put_other hne, h2 a ha]; simp [e]
theorem EM.kept {w w' : World} {M n : Nat} {f : Ed → Bool} {S : Nat → Prop} (h : EM w M n f) (hc : Chg w w' S) (hM : ¬ S M) : EM w' M n f := by
  obtain ⟨es, ⟨es2, clock, q1, r⟩, h2⟩ := h.ex
  exact ⟨es, ⟨es2, clock, hc.heap q1 hM, r⟩, h2⟩
theorem EM.ext {w : World} {M n : Nat} {f g : Ed → Bool} (h : EM w M n f) (e : ∀ t, EOk t → f t = g t) : EM w M n g := by
  obtain ⟨es, h1, h2⟩ := h.ex
  exact ⟨es, h1, fun t ht => (h2 t ht).trans (e t ht)⟩
theorem EM.lt {w : World} {M n : Nat} {f : Ed → Bool} (h : EM w M n f) : M < w.heap.size := by
  obtain ⟨es, ⟨es2, clock, q1, r⟩, _⟩ := h.ex
  exact hp_lt q1
theorem EM.map {w : World} {M n : Nat} {f : Ed → Bool} (h : EM w M n f) : ∃ es c, w.heap[M]? = some (.map es c) := by
  obtain ⟨es, ⟨es2, clock, q1, r⟩, _⟩ := h.ex
  exact ⟨_, _, q1⟩
/-- What has come of the map's keys. -/
def ColE (D0 : DataW Unit) (left : Lit → Bool) (ss : List Ed) : Prop := ss.Nodup ∧ (∀ x, x ∈ ss → EOk x) ∧ ∀ x, EOk x → (x ∈ ss ↔ (Maps.has D0 (kL x) = true ∧ left (kL x) = false))
theorem ColE.start (D0 : DataW Unit) : ColE D0 (Maps.has D0) [] := ⟨List.nodup_nil, fun x h => (by cases h), fun x _ => (by cases Maps.has D0 (kL x) <;> simp)⟩
theorem ColE.step {D0 : DataW Unit} {left : Lit → Bool} {ss : List Ed} (h : ColE D0 left ss) {x : Ed} (hx : EOk x) {y : DataW Unit} (hlk : left (kL x) = true) (hat : ∀ zd, D0.atKey (kL x) zd = y) : ColE D0 (fun z => left z && !z.sameKey (kL x)) (ss ++ [x]) := by
  have hhas : Maps.has D0 (kL x) = true := Maps.has_true_of_atKey hat
  have hnew : x ∉ ss := fun hm => by have := ((h.2.2 x hx).1 hm).2; rw [hlk] at this; cases this
  refine ⟨List.nodup_append.2 ⟨h.1, by simp, fun a ha b hb => by simp at hb; subst hb; exact fun e => hnew (e ▸ ha)⟩, fun z hz => ?_, fun z hz => ?_⟩
  · rcases List.mem_append.1 hz with h1 | h1
    · exact h.2.1 z h1
    · simp at h1; subst h1; exact hx
  · by_cases e : z = x
    · subst e; rw [hhas]; simp [kL, Lit.sameKey]
    · have hne : kL z ≠ kL x := fun h => e (kL_inj hz hx h)
      have hs : (kL z).sameKey (kL x) = false := by
        cases hq : (kL z).sameKey (kL x) with
        | false => rfl
        | true => exfalso; apply hne; simp [kL, Lit.sameKey] at hq ⊢; exact hq
      simp [h.2.2 z hz, e, hs]
end Go.Proofs.Ythgpcmickgcdhaa
