import Derived.Test.YtppcfofkneaigabEp
import Derived.Test.YtppcfofkneaigabDn
import Derived.Test.YtppcfofkneaigabDq
namespace Go.Proofs.Ytppcfofkneaigab
open Go.ChangeShapes Go.WideShapes Go.ChangeAt Go.RowKit
set_option linter.unusedVariables false
/-- An access to the document's cache, whole. -/
theorem racc_any (w : World) (B sets ways line : Nat) (v : Value) (L : List HL) (now : Nat) (h : RC w B sets ways line v L now) (hl : L.length ≤ 2048) (hnow : now ≤ 4611686018427387904) (st : Nat → List Ln) (su : Nat → List HL) (r : Rel sets st L now su) (hg : ∀ k, Good (st k) ways) (a : Nat) (ha : a < 4294967296) (wr : Bool) :
    Calls Try.prog 19 #[.pointer (some ⟨B, 0, none⟩), .int .u32 (a : Nat), .bool wr] w fun e w' => e = .returned (.agg #[.bool (hitA sets line st a), .bool (backA sets ways line st a), .int .i64 (cyc (hitA sets line st a) (backA sets ways line st a))]) ∧ AcR w w' B sets ways line v (accS sets ways line st a wr) (now + 1) := by
  have hs : setOf sets line a < sets := Nat.mod_lt _ h.sh.s1
  have hn : a / line = tagOf sets line a * sets + setOf sets line a := (Nat.div_add_mod' _ _).symm
  have hiff := r.at_iff (t := tagOf sets line a) hs
  rw [← hn] at hiff
  by_cases hh : atH L (a / line) < L.length
  · have hit : hitA sets line st a = true := by simp only [hitA, hitL, decide_eq_true_eq]; exact hiff.1 hh
    have hb : backA sets ways line st a = false := by
      have : hitL (st (setOf sets line a)) (tagOf sets line a) = true := hit
      simp [backA, backL, this]
    rw [hit, hb]
    exact racc_hit w B sets ways line v L now h hl hnow st su r hg a ha wr hh
  · have hit : hitA sets line st a = false := by simp only [hitA, hitL, decide_eq_false_iff_not]; exact fun x => hh (hiff.2 x)
    rw [hit]
    exact racc_miss w B sets ways line v L now h hl hnow st su r hg a ha wr hh

/-- A pair: the cache and the document's one know the same. -/
structure PSt (w : World) (P C R sets ways line : Nat) (st : Nat → List Ln) (v : Value) (now : Nat) : Prop where
  ex : ∃ L su, PrI w P C R sets ways line st v L now ∧ Rel sets st L now su ∧ Bd sets line st ∧ L.length ≤ 2048
  pw : Pow line
def fp (P C R : Nat) (v : Value) (k : Nat) : Prop := k = P ∨ k = C ∨ k = R ∨ v.ownBlock = some k
def PNew (w : World) (v v' : Value) : Prop := v'.ownBlock = v.ownBlock ∨ ∀ k, v'.ownBlock = some k → w.heap.size ≤ k
theorem PSt.kept {w w' : World} {P C R sets ways line : Nat} {st : Nat → List Ln} {v : Value} {now : Nat} {S : Nat → Prop} (h : PSt w P C R sets ways line st v now) (hc : Chg w w' S)
    (hS : ∀ k, S k → k < w.heap.size → ∃ cur U x, w.heap[k]? = some (.cells cur U x) ∧ U ≠ 42 ∧ U ≠ 69 ∧ U ≠ 79 ∧ U ≠ 85) : PSt w' P C R sets ways line st v now := by
  obtain ⟨L, su, hp, r⟩ := h.ex
  exact ⟨⟨L, su, hp.kept hc hS, r⟩, h.pw⟩
theorem PSt.keptF {w w' : World} {P C R sets ways line : Nat} {st : Nat → List Ln} {v : Value} {now : Nat} (h : PSt w P C R sets ways line st v now) (hc : Chg w w' (fun _ => False)) : PSt w' P C R sets ways line st v now := h.kept hc (fun _ hs => hs.elim)
/-- .. where blocks that are none of its own change. -/
theorem PSt.keptN {w w' : World} {P C R sets ways line : Nat} {st : Nat → List Ln} {v : Value} {now : Nat} {S : Nat → Prop} (h : PSt w P C R sets ways line st v now) (hc : Chg w w' S) (hS : ∀ k, fp P C R v k → ¬ S k) : PSt w' P C R sets ways line st v now := by
  obtain ⟨L, su, hp, r⟩ := h.ex
  exact ⟨⟨L, su, ⟨hc.heap hp.at_ (hS P (.inl rfl)), hp.c.kept hc (hS C (.inr (.inl rfl))), hp.r.kept hc (hS R (.inr (.inr (.inl rfl)))) (fun k hk => hS k (.inr (.inr (.inr hk))))⟩, r⟩, h.pw⟩
theorem PSt.ty {w : World} {P C R sets ways line : Nat} {st : Nat → List Ln} {v : Value} {now : Nat} (h : PSt w P C R sets ways line st v now) {k : Nat} (hk : fp P C R v k) : k < w.heap.size ∧ ∃ cur U, w.heap[k]? = some (.cells cur U (0, 0)) ∧ (U = 42 ∨ U = 69 ∨ U = 79 ∨ U = 85) := by
  obtain ⟨L, su, hp, r⟩ := h.ex
  rcases hk with rfl | rfl | rfl | hk
  · exact ⟨(Array.getElem?_eq_some_iff.1 hp.at_).1, _, 42, hp.at_, .inl rfl⟩
  · obtain ⟨arr, hb, _⟩ := hp.c.ex
    exact ⟨(Array.getElem?_eq_some_iff.1 hb).1, _, 69, hb, .inr (.inl rfl)⟩
  · exact ⟨hp.r.lt, _, 79, hp.r.at_, .inr (.inr (.inl rfl))⟩
  · obtain ⟨h1, cur, hb⟩ := own_at hp.r.row hk
    exact ⟨h1, cur, 85, hb, .inr (.inr (.inr rfl))⟩
theorem PSt.nb {w : World} {P C R sets ways line : Nat} {st : Nat → List Ln} {v : Value} {now : Nat} (h : PSt w P C R sets ways line st v now) {b k : Nat} (hk : fp P C R v k) : ¬ Bty b w k := by
  obtain ⟨_, cur, U, hb, hU⟩ := h.ty hk
  rintro ⟨_, cur', U', hb', hU'⟩
  rw [hb] at hb'
  simp only [Option.some.injEq, Obj.cells.injEq] at hb'
  obtain ⟨_, rfl, _⟩ := hb'
  rcases hU with rfl | rfl | rfl | rfl <;> rcases hU' with h | h | h | h <;> exact absurd h (by decide)
theorem PSt.ne {w : World} {P C R sets ways line : Nat} {st : Nat → List Ln} {v : Value} {now : Nat} (h : PSt w P C R sets ways line st v now) : P ≠ C ∧ P ≠ R ∧ C ≠ R ∧ v.ownBlock ≠ some P ∧ v.ownBlock ≠ some C ∧ v.ownBlock ≠ some R := by
  obtain ⟨L, su, hp, r⟩ := h.ex
  obtain ⟨arr, hb, _⟩ := hp.c.ex
  refine ⟨?_, ?_, ?_, own_typ hp.r.row hp.at_ (by decide), own_typ hp.r.row hb (by decide), own_typ hp.r.row hp.r.at_ (by decide)⟩
  · rintro rfl; have := hp.at_; rw [hb] at this; simp at this
  · rintro rfl; have := hp.at_; rw [hp.r.at_] at this; simp at this
  · rintro rfl; have := hp.r.at_; rw [hb] at this; simp at this
/-- What is written in a list of one kind is none of the Book's. -/
theorem BkI.keptP {w w' : World} {K e : Nat} {hv wv lv mv : Value} {H : List (Value × Value × List (Nat × Ln))} {T : List (Value × Nat × Nat)} {P C R sets ways line : Nat} {st : Nat → List Ln} {v : Value} {now : Nat} (h : BkI w K e hv wv lv mv H T) (hp : PSt w P C R sets ways line st v now) (hc : Chg w w' (fp P C R v)) : BkI w' K e hv wv lv mv H T :=
  h.kept hc (fun k hs _ => by
    obtain ⟨_, cur, U, hb, hU⟩ := hp.ty hs
    rcases hU with rfl | rfl | rfl | rfl <;> exact ⟨cur, _, _, hb, by decide, by decide, by decide, by decide⟩)
theorem Bd.nil (sets line : Nat) : Bd sets line (fun _ => []) := fun k x hx => by cases hx
theorem Bd.add {sets ways line : Nat} {p : Nat × Ln} {S : Nat → List Ln} (h : CanAdd sets ways line S p) (hb : Bd sets line S) : Bd sets line (addS S p) := fun k x hx => by
  simp only [addS, setS] at hx
  split at hx
  · rename_i e
    subst e
    rcases List.mem_append.1 hx with q | q
    · exact hb _ x q
    · simp at q
      subst q
      exact ⟨h.set, h.bd, h.t32⟩
  · exact hb k x hx
theorem Bd.ld {sets ways line : Nat} : ∀ (l : List (Nat × Ln)) (S : Nat → List Ln), OkFrom sets ways line S l → Bd sets line S → Bd sets line (ldS S l)
  | [], S, _, h => h
  | p :: r, S, h, hb => Bd.ld (ways := ways) r (addS S p) h.2 (Bd.add h.1 hb)
end Go.Proofs.Ytppcfofkneaigab
