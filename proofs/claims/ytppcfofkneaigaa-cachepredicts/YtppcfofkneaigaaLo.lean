import Derived.Test.YtppcfofkneaigaaAd
namespace Go.Proofs.Ytppcfofkneaigaa
open Go.ChangeShapes Go.WideShapes Go.ChangeAt Go.RowKit
set_option linter.unusedVariables false

/-! Loading a list. -/
def addS (S : Nat → List Ln) (p : Nat × Ln) : Nat → List Ln := setS S p.1 (S p.1 ++ [p.2])
def ldS (S : Nat → List Ln) (L : List (Nat × Ln)) : Nat → List Ln := L.foldl addS S
structure CanAdd (sets ways line : Nat) (S : Nat → List Ln) (p : Nat × Ln) : Prop where
  set : p.1 < sets
  bd : p.2.1 * sets + p.1 < 4294967296 / line
  t32 : p.2.1 < 4294967296
  new : ¬ atT (S p.1) p.2.1 < (S p.1).length
  room : (S p.1).length < ways
def OkFrom (sets ways line : Nat) : (Nat → List Ln) → List (Nat × Ln) → Prop
  | _, [] => True
  | S, p :: r => CanAdd sets ways line S p ∧ OkFrom sets ways line (addS S p) r
theorem OkFrom.app {sets ways line : Nat} : ∀ {a b : List (Nat × Ln)} {S : Nat → List Ln}, OkFrom sets ways line S a → OkFrom sets ways line (ldS S a) b → OkFrom sets ways line S (a ++ b)
  | [], b, S, _, h => h
  | p :: a, b, S, h1, h2 => ⟨h1.1, OkFrom.app h1.2 h2⟩
theorem OkFrom.at {sets ways line : Nat} : ∀ {L : List (Nat × Ln)} {S : Nat → List Ln}, OkFrom sets ways line S L → ∀ j (h : j < L.length), CanAdd sets ways line (ldS S (L.take j)) (L[j])
  | p :: L, S, h, 0, _ => h.1
  | p :: L, S, h, j + 1, hj => OkFrom.at h.2 j (by simpa using hj)
theorem ldS_take (S : Nat → List Ln) (L : List (Nat × Ln)) (j : Nat) (h : j < L.length) : ldS S (L.take (j + 1)) = addS (ldS S (L.take j)) (L[j]) := by
  rw [List.take_add_one, List.getElem?_eq_getElem h]
  simp only [ldS, List.foldl_append, Option.toList_some, List.foldl_cons, List.foldl_nil]
theorem ldS_app (S : Nat → List Ln) (a b : List (Nat × Ln)) : ldS S (a ++ b) = ldS (ldS S a) b := by simp [ldS, List.foldl_append]

/-- Tags of which addresses are. -/
def Bd (sets line : Nat) (st : Nat → List Ln) : Prop := ∀ k, ∀ x ∈ st k, k < sets ∧ x.1 * sets + k < 4294967296 / line ∧ x.1 < 4294967296

theorem ok_set {sets ways line : Nat} (m : Nat) : ∀ (l : List Ln) (S : Nat → List Ln), (∀ x ∈ l, m < sets ∧ x.1 * sets + m < 4294967296 / line ∧ x.1 < 4294967296) → (tags (S m ++ l)).Nodup → (S m ++ l).length ≤ ways →
    OkFrom sets ways line S (l.map (fun x => (m, x))) ∧ ldS S (l.map (fun x => (m, x))) = setS S m (S m ++ l)
  | [], S, _, _, _ => ⟨trivial, by simp only [List.map_nil, ldS, List.foldl_nil, List.append_nil]; funext i; unfold setS; split <;> simp_all⟩
  | x :: l, S, hb, hn, hl => by
    have e : addS S (m, x) m = S m ++ [x] := by simp [addS, setS]
    have ha : addS S (m, x) m ++ l = S m ++ x :: l := by rw [e]; simp
    obtain ⟨h1, h2⟩ := ok_set m l (addS S (m, x)) (fun y hy => hb y (by simp [hy])) (by rw [ha]; exact hn) (by rw [ha]; exact hl)
    obtain ⟨b1, b2, b3⟩ := hb x (by simp)
    refine ⟨⟨⟨b1, b2, b3, ?_, ?_⟩, h1⟩, ?_⟩
    · simp only
      intro hlt
      have hg := atT_get (S m) x.1 hlt
      simp only [tags, List.map_append, List.map_cons] at hn
      have := (List.nodup_append.1 hn).2.2 (S m)[atT (S m) x.1].1 (List.mem_map.2 ⟨_, List.getElem_mem hlt, rfl⟩) x.1 (by simp)
      exact this hg
    · simp at hl ⊢; omega
    · show ldS (addS S (m, x)) (l.map fun x => (m, x)) = _
      rw [h2, ha]
      funext i
      unfold setS addS setS
      split
      · rfl
      · rfl

theorem ok_lines {sets ways line : Nat} {st : Nat → List Ln} (hb : Bd sets line st) (hg : ∀ k, Good (st k) ways) : ∀ n, n ≤ sets →
    OkFrom sets ways line (fun _ => []) (linesN st n) ∧ ldS (fun _ => []) (linesN st n) = fun k => if k < n then st k else []
  | 0, _ => ⟨trivial, by simp [linesN, ldS]⟩
  | n + 1, hn => by
    obtain ⟨h1, h2⟩ := ok_lines hb hg n (by omega)
    have e0 : ldS (fun _ => []) (linesN st n) n = [] := by rw [h2]; simp
    obtain ⟨h3, h4⟩ := ok_set (sets := sets) (ways := ways) (line := line) n (st n) (ldS (fun _ => []) (linesN st n)) (fun x hx => hb n x hx) (by rw [e0]; simpa using (hg n).nd) (by rw [e0]; simpa using (hg n).le)
    refine ⟨OkFrom.app h1 h3, ?_⟩
    rw [linesN, ldS_app, h4, e0, h2]
    funext k
    unfold setS
    by_cases e : k = n
    · subst e; simp
    · by_cases e2 : k < n
      · simp [e, e2, show k < n + 1 by omega]
      · simp [e, e2, show ¬ k < n + 1 by omega]

theorem ok_all {sets ways line : Nat} {st : Nat → List Ln} (hb : Bd sets line st) (hg : ∀ k, Good (st k) ways) : OkFrom sets ways line (fun _ => []) (linesN st sets) ∧ ldS (fun _ => []) (linesN st sets) = st := by
  obtain ⟨h1, h2⟩ := ok_lines hb hg sets (Nat.le_refl _)
  refine ⟨h1, ?_⟩
  rw [h2]
  funext k
  by_cases e : k < sets
  · simp [e]
  · simp only [e, if_false]
    symm
    apply List.eq_nil_iff_forall_not_mem.2
    intro x hx
    exact e (hb k x hx).1

theorem addr_bd (line a : Nat) (hp : Pow line) (ha : a < 4294967296) : a / line < 4294967296 / line := by
  rcases hp with rfl | rfl | rfl | rfl | rfl | rfl | rfl | rfl | rfl <;> omega
theorem Bd.acc {sets ways line : Nat} {st : Nat → List Ln} (h : Bd sets line st) (hs : 1 ≤ sets) (hp : Pow line) (a : Nat) (ha : a < 4294967296) (wr : Bool) : Bd sets line (accS sets ways line st a wr) := by
  intro k x hx
  unfold accS setS at hx
  split at hx
  · rename_i e
    have hm : x.1 ∈ tags (useL (st (setOf sets line a)) (tagOf sets line a) ways wr) := List.mem_map.2 ⟨x, hx, rfl⟩
    rcases useL_mem hm with e1 | e1
    · have e2 : tagOf sets line a * sets + setOf sets line a = a / line := by
        unfold tagOf setOf
        rw [Nat.mul_comm]; exact Nat.div_add_mod _ _
      have h1 := addr_bd line a hp ha
      have h2 : tagOf sets line a ≤ a := by
        unfold tagOf
        exact Nat.le_trans (Nat.div_le_self _ _) (Nat.div_le_self _ _)
      rw [e1, e]
      exact ⟨by unfold setOf; exact Nat.mod_lt _ (by omega), by rw [e2]; exact h1, by omega⟩
    · obtain ⟨y, hy, e2⟩ := List.mem_map.1 e1
      have := h _ y hy
      rw [← e2, e]
      exact this
  · exact h k x hx
theorem Bd.run {sets ways line : Nat} {st : Nat → List Ln} (h : Bd sets line st) (hs : 1 ≤ sets) (hp : Pow line) (F : Nat → Nat × Bool) : ∀ n, (∀ i, i < n → (F i).1 < 4294967296) → Bd sets line (runS sets ways line st F n)
  | 0, _ => h
  | n + 1, hF => (Bd.run h hs hp F n (fun i hi => hF i (by omega))).acc hs hp _ (hF n (by omega)) _
end Go.Proofs.Ytppcfofkneaigaa
