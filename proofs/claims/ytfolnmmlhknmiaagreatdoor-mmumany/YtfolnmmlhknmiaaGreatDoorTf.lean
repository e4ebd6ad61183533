import Derived.Test.YtfolnmmlhknmiaaGreatDoorRg
namespace Go.Proofs.YtfolnmmlhknmiaaGreatDoor
open Go.ChangeShapes Go.WideShapes Go.ChangeAt Go.RowKit
set_option linter.unusedVariables false

/-! A range over a function that has boxes of its own which it changes between the rounds. J k F W: what holds ahead of the k-th round, F: the blocks that it speaks of. -/

/-- What a round leaves. -/
def RoundF (J : Nat → (Nat → Prop) → World → Prop) (k : Nat) (F : Nat → Prop) (W W' : World) : Prop := ∃ F', J (k + 1) F' W' ∧ (∀ q, F' q → F q ∨ (W.heap.size ≤ q ∧ q < W'.heap.size)) ∧ Chg W W' F
/-- What others do to new blocks that are not spoken of does not matter. -/
def Stab (b : Nat) (J : Nat → (Nat → Prop) → World → Prop) : Prop := ∀ k F A B S, J k F A → Chg A B S → (∀ q, F q → ¬ S q) → (∀ q, S q → b ≤ q) → J k F B
/-- The iterator's word: U: the blocks that it reads. -/
def SeqF (P : Program) (m gf : Nat) (lb : Array Value) (N : Nat) (args : Nat → Array Value) (U : Nat → Prop) (w : World) : Prop :=
  ∀ (l : Nat) (J : Nat → (Nat → Prop) → World → Prop) (Jx : World → Prop) (W : World), Chg w W (fun _ => False) → Stab w.heap.size J →
    (∀ k F W1, k < N → J k F W1 → YieldAt Fence.wide (m - 1) P l (args k) W1 fun e W' => (e = .returned (.bool true) ∧ RoundF J k F W1 W') ∨ (e = .returned (.bool false) ∧ Jx W')) →
    ∀ F0, J 0 F0 W → (∀ q, F0 q → q < W.heap.size ∧ ¬ U q) →
    CallsIn Fence.wide m P gf (#[.func (.yield l) #[] #[]] ++ lb) W fun e W' => (∃ v, e = .returned v) ∧ ((∃ F, J N F W') ∨ Jx W')

theorem range_fp {P : Program} {m : Nat} {g : Operand} {ps : Array Tmp} {assign body : Code} {Q : Exit → Act → World → Prop} {a : Act} {w : World} {gf : Nat} {lb : Array Value}
    (hg : a.eval g = .func (.func gf) #[] lb) (eg : ∀ args w, (callFunc gf args).run P w = .ok (.enter gf args) w)
    {N : Nat} {args : Nat → Array Value} {U : Nat → Prop} (hseq : SeqF P (m - 1) gf lb N args U w) (hU : ∀ q, U q → q < w.heap.size)
    (hps : ∀ k, (args k).size = ps.size)
    (I : Nat → (Nat → Prop) → World → Prop) (Ix : Code → World → Prop) (hI : Stab w.heap.size I) (hIx : ∀ c A B, Ix c A → Chg A B (Two w.heap.size) → Ix c B)
    (F0 : Nat → Prop) (h0 : I 0 F0 w) (hF0 : ∀ q, F0 q → q < w.heap.size ∧ ¬ U q)
    (Ax : Nat → Act → World → Prop) (hAx : ∀ k b A B, Ax k b A → Chg A B (Two w.heap.size) → Ax k b B)
    (hassign : ∀ (k : Nat) (W : World) (K : Act → World → Prop), k < N → w.heap.size + 2 ≤ W.heap.size → (∀ b W1, Chg W W1 (fun _ => False) → Ax k b W1 → K b W1) →
      assign.wpIn (Fence.wide.inRound (w.heap.size + 1)) (m - 1 - 1) P (Exit.then K (fun _ _ _ => False)) { tmps := (ps.zip (args k)).foldl (fun t (p, v) => t.setIfInBounds p v) a.tmps, defers := [] } W)
    (hbody : ∀ (k : Nat) (F : Nat → Prop) (b : Act) (W : World), k < N → I k F W → Ax k b W → w.heap.size + 2 ≤ W.heap.size → (∀ q, Two w.heap.size q → ¬ F q) →
      body.wpIn (Fence.wide.inRound (w.heap.size + 1)) (m - 1 - 1) P (bodyEnd w.heap.size W (fun W' => RoundF I k F W W') Ix) b W)
    (hdone : ∀ (F : Nat → Prop) (W : World), I N F W → (∀ q, Two w.heap.size q → ¬ F q) → W.heap[w.heap.size]? = some (.deferred (some [])) → Q .normal { a with defers := { target := .collected w.heap.size, args := #[] } :: a.defers } W)
    (hstop : ∀ (c : Code) (W : World), Ix c W → W.heap[w.heap.size]? = some (.deferred (some [])) → c.wpIn Fence.wide m P Q { a with defers := { target := .collected w.heap.size, args := #[] } :: a.defers } W) :
    (Code.rangeFunc g ps assign body).wpIn Fence.wide m P Q a w := by
  refine wpIn_rangeFunc fun fn hfn => ?_
  let rec_ : LoopState → Option Code → Loop := fun st pe => { state := st, pending := pe, fn := fn, tmps := a.tmps, params := ps, assign := assign, body := body, defers := w.heap.size }
  have hrun := run_enterLoop_outer (P := P) (w := w) fn a.tmps ps assign body
  obtain ⟨W0, hW0⟩ : ∃ W0, W0 = (w.alloc (.deferred (some []))).alloc (.loop (rec_ .ready none)) := ⟨_, rfl⟩
  have hc0 : Chg w W0 (fun _ => False) := by rw [hW0]; exact ((Chg.refl w _).alloc _).alloc _
  have hs0 : W0.heap.size = w.heap.size + 2 := by rw [hW0]; simp
  have hd0 : W0.heap[w.heap.size]? = some (.deferred (some [])) := by
    rw [hW0, Below.heap_alloc _ _ _ (by simp)]; exact heap_alloc_new w _
  have hl0 : W0.heap[w.heap.size + 1]? = some (.loop (rec_ .ready none)) := by
    have := heap_alloc_new (w.alloc (.deferred (some []))) (.loop (rec_ .ready none))
    rw [hW0]; simpa using this
  let Bk : LoopState → Option Code → World → Prop := fun st pe W => w.heap.size + 2 ≤ W.heap.size ∧ W.heap[w.heap.size]? = some (.deferred (some [])) ∧ W.heap[w.heap.size + 1]? = some (.loop (rec_ st pe))
  have hput : ∀ (A : World) (o : Obj), Chg A (A.putObj (w.heap.size + 1) o) (Two w.heap.size) := fun A o => Chg.putObj (Chg.refl A _) (.inl (.inr rfl)) o
  have hT2 : ∀ q, Two w.heap.size q → w.heap.size ≤ q := fun q hq => by rcases hq with e | e <;> omega
  -- what holds, with the loop's own two blocks
  let J : Nat → (Nat → Prop) → World → Prop := fun k G W => ∃ F, (∀ q, G q ↔ (F q ∨ Two w.heap.size q)) ∧ (∀ q, Two w.heap.size q → ¬ F q) ∧ I k F W ∧ Bk .ready none W
  refine ⟨w.heap.size + 1, [{ target := .collected w.heap.size, args := #[] }], W0, { target := .fn (.func gf) lb, args := #[.func (.yield (w.heap.size + 1)) #[] #[]] }, W0, gf,
    #[.func (.yield (w.heap.size + 1)) #[] #[]] ++ lb, W0, ?_, ?_, fun _ _ => trivial, ?_, fun h => by simp [Fence.wide] at h, ?_⟩
  · rw [hW0]; exact hrun
  · simp only [resolve, hg]
    simp [go_sem]
  · simp [invoke, go_sem, eg]
  refine (hseq (w.heap.size + 1) J (fun W => ∃ c, Ix c W ∧ Bk .done (some c) W) W0 hc0 ?_ ?_ (fun q => F0 q ∨ Two w.heap.size q) ?_ ?_).mono ?_
  · rintro k G A B S ⟨F, e1, e2, h1, h2⟩ hc hS hb
    have nS : ∀ q, Two w.heap.size q → ¬ S q := fun q hq => hS q ((e1 q).2 (.inr hq))
    exact ⟨F, e1, e2, hI k F A B S h1 hc (fun q hq => hS q ((e1 q).2 (.inl hq))) hb, Nat.le_trans h2.1 hc.size, hc.heap h2.2.1 (nS _ (.inl rfl)), hc.heap h2.2.2 (nS _ (.inr rfl))⟩
  · rintro k G W1 hk ⟨F, e1, e2, hi, hsz, hd, hl⟩
    have hy := run_yield (P := P) (args := args k) hl (hps k)
    refine ⟨fn, _, assign, body, hy, roundIn_of_wpIn hfn (hassign k W1 _ hk hsz (fun b W2 hc2 hax => ?_))⟩
    have hsz2 : w.heap.size + 2 ≤ W2.heap.size := Nat.le_trans hsz hc2.size
    have hd2 := hc2.heap hd (fun x => x)
    have hl2 := hc2.heap hl (fun x => x)
    have hi2 := hI k F W1 W2 _ hi hc2 (fun _ _ x => x) (fun _ x => x.elim)
    obtain ⟨W3, hW3⟩ : ∃ W3, W3 = W2.putObj (w.heap.size + 1) (.loop { rec_ .ready none with state := .busy }) := ⟨_, rfl⟩
    refine ⟨W3, by rw [hW3]; exact run_beginRound hl2 rfl, ?_⟩
    have hc3 : Chg W2 W3 (Two w.heap.size) := by rw [hW3]; exact hput _ _
    have hsz3 : w.heap.size + 2 ≤ W3.heap.size := Nat.le_trans hsz2 hc3.size
    have hd3 : W3.heap[w.heap.size]? = some (.deferred (some [])) := by rw [hW3, World.putObj_heap_other (by omega)]; exact hd2
    have hl3 : W3.heap[w.heap.size + 1]? = some (.loop { rec_ .ready none with state := .busy }) := by rw [hW3]; exact World.putObj_heap_same (by omega)
    have hc13 : Chg W1 W3 (Two w.heap.size) := (hc2.mono (fun _ _ h => h.elim)).trans hc3 (fun _ _ h => h)
    have hi3 := hI k F W2 W3 _ hi2 hc3 (fun q hq x => e2 q x hq) hT2
    refine wpIn_mono (hbody k F b W3 hk hi3 (hAx k b W2 W3 hax hc3) hsz3 e2) ?_
    have fin : ∀ (jump : Option Code) (W4 : World), (∀ i, Two w.heap.size i → W4.heap[i]? = W3.heap[i]?) →
        ∃ W5, (Instr.endRound (w.heap.size + 1) jump).run P W4 = .ok (.bool jump.isNone) W5 ∧ Chg W4 W5 (Two w.heap.size) ∧ Bk (if jump.isNone then .ready else .done) jump W5 := by
      intro jump W4 hsame
      have hl4 := (hsame _ (.inr rfl)).trans hl3
      have hd4 := (hsame _ (.inl rfl)).trans hd3
      have hsz4 : w.heap.size + 1 < W4.heap.size := (Array.getElem?_eq_some_iff.1 hl4).1
      refine ⟨_, run_endRound jump hl4, hput _ _, by simp [World.putObj]; omega, ?_, World.putObj_heap_same hsz4⟩
      rw [World.putObj_heap_other (by omega)]; exact hd4
    intro e a4 W4 hp
    have leave : ∀ c, (∀ i, Two w.heap.size i → W4.heap[i]? = W3.heap[i]?) ∧ Ix c W4 → ∃ v w', (Instr.endRound (w.heap.size + 1) (some c)).run P W4 = .ok v w' ∧
        ((Ending.returned v = .returned (.bool true) ∧ RoundF J k G W1 w') ∨ (Ending.returned v = .returned (.bool false) ∧ ∃ c, Ix c w' ∧ Bk .done (some c) w')) := by
      rintro c ⟨hsame, hix⟩
      obtain ⟨W5, hr, hc5, hb5⟩ := fin (some c) W4 hsame
      exact ⟨_, W5, hr, .inr ⟨rfl, c, hIx c W4 W5 hix hc5, hb5⟩⟩
    cases e with
    | normal =>
      obtain ⟨hsame, F', hi4, hF4, hk4⟩ := hp
      obtain ⟨W5, hr, hc5, hb5⟩ := fin none W4 hsame
      have e3 : ∀ q, Two w.heap.size q → ¬ F' q := by
        intro q hq hf
        rcases hF4 q hf with h | h
        · exact e2 q hq h
        · rcases hq with e | e <;> omega
      refine ⟨_, W5, hr, .inl ⟨rfl, fun q => F' q ∨ Two w.heap.size q, ⟨F', fun _ => Iff.rfl, e3, hI (k + 1) F' W4 W5 _ hi4 hc5 (fun q hq x => e3 q x hq) hT2, hb5⟩, ?_, ?_⟩⟩
      · rintro q (h | h)
        · rcases hF4 q h with h | h
          · exact .inl ((e1 q).2 (.inl h))
          · exact .inr ⟨Nat.le_trans hc13.size h.1, Nat.lt_of_lt_of_le h.2 hc5.size⟩
        · exact .inl ((e1 q).2 (.inr h))
      · exact ((hc13.mono (fun q _ h => (e1 q).2 (.inr h))).trans hk4 (fun q _ h => (e1 q).2 (.inl h))).trans hc5 (fun q _ h => (e1 q).2 (.inr h))
    | ret => exact leave .ret hp
    | exit id => exact leave (.exit id) hp
    | goto t => exact leave (.goto t) hp
    | panic ch => exact hp.elim
    | outgrown => exact hp.elim
  · refine ⟨F0, fun _ => Iff.rfl, fun q hq hf => ?_, hI 0 F0 w W0 _ h0 hc0 (fun _ _ x => x) (fun _ x => x.elim), by omega, hd0, hl0⟩
    have := (hF0 q hf).1
    rcases hq with e | e <;> omega
  · rintro q (h | h)
    · have := hF0 q h; exact ⟨by omega, this.2⟩
    · exact ⟨by rcases h with e | e <;> omega, fun hu => by have := hU q hu; rcases h with e | e <;> omega⟩
  · rintro e W2 ⟨⟨v, rfl⟩, (⟨G, F, e1, e2, hi, hsz, hd, hl⟩ | ⟨c, hi, hsz, hd, hl⟩)⟩
    · exact ⟨none, _, run_endLoop hl (by simp [rec_]), hdone F _ (hI N F _ _ _ hi (hput _ _) (fun q hq x => e2 q x hq) hT2) e2 (by rw [World.putObj_heap_other (by omega)]; exact hd)⟩
    · exact ⟨some c, _, run_endLoop hl (by simp [rec_]), hstop c _ (hIx c _ _ hi (hput _ _)) (by rw [World.putObj_heap_other (by omega)]; exact hd)⟩
end Go.Proofs.YtfolnmmlhknmiaaGreatDoor
