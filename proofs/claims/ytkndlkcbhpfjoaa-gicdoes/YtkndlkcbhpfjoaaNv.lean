import Derived.Test.YtkndlkcbhpfjoaaNu
namespace Go.Proofs.Ytkndlkcbhpfjoaa
open Go.ChangeShapes Go.WideShapes Go.ChangeAt Go.RowKit Go.Shelf
set_option linter.unusedVariables false
attribute [local go_sem] Oper.semAt_some

/-! A range over a function whose body is told of its own loop's record, and one within a round. -/

/-- The one block of a loop within a round. -/
def One (s : Nat) (k : Nat) : Prop := k = s
/-- The iterator's word, where the loop has laid d blocks. -/
def SeqD (d : Nat) (P : Program) (m gf : Nat) (lb : Array Value) {θ : Type} (N : Nat) (args : θ → Nat → Array Value) (Good : θ → World → World → Prop) (Kp : θ → World → World → Prop) (w : World) : Prop :=
  ∀ (l : Nat) (J : θ → Nat → World → Prop) (Jx : World → Prop) (W : World), Chg w W (fun _ => False) → w.heap.size + d ≤ W.heap.size →
    (∀ t k A B, J t k A → Chg A B (fun _ => False) → J t k B) →
    (∀ t W1, Good t W W1 → J t 0 W1) →
    (∀ t k W1, k < N → J t k W1 → YieldAt Fence.wide (m - 1) P l (args t k) W1 fun e W' => (e = .returned (.bool true) ∧ J t (k + 1) W' ∧ Kp t W1 W') ∨ (e = .returned (.bool false) ∧ Jx W')) →
    CallsIn Fence.wide m P gf (#[.func (.yield l) #[] #[]] ++ lb) W fun e W' => (∃ v, e = .returned v) ∧ ((∃ t, J t N W') ∨ Jx W')
/-- How a round's body may be left, within a round. -/
def bodyEnd1 (s : Nat) (W : World) (R : World → Prop) (Ix : Code → World → Prop) : Exit → Act → World → Prop
  | .normal, _, W' => (∀ i, One s i → W'.heap[i]? = W.heap[i]?) ∧ R W'
  | .ret, _, W' => (∀ i, One s i → W'.heap[i]? = W.heap[i]?) ∧ Ix .ret W'
  | .exit id, _, W' => (∀ i, One s i → W'.heap[i]? = W.heap[i]?) ∧ Ix (.exit id) W'
  | .goto t, _, W' => (∀ i, One s i → W'.heap[i]? = W.heap[i]?) ∧ Ix (.goto t) W'
  | .panic _, _, _ => False
  | .outgrown, _, _ => False

theorem range_ownH {P : Program} {m : Nat} {g : Operand} {ps : Array Tmp} {assign body : Code} {Q : Exit → Act → World → Prop} {a : Act} {w : World} {gf : Nat} {lb : Array Value}
    (hg : a.eval g = .func (.func gf) #[] lb) (eg : ∀ args w, (callFunc gf args).run P w = .ok (.enter gf args) w)
    {θ : Type} {N : Nat} {args : θ → Nat → Array Value} {Good : θ → World → World → Prop} {Kp : θ → World → World → Prop} (hseq : SeqD 2 P (m - 1) gf lb N args Good Kp w)
    (hps : ∀ t k, (args t k).size = ps.size)
    (I : θ → Nat → World → Prop) (Ix : Code → World → Prop)
    (hI : ∀ t k A B, I t k A → Chg A B (Two w.heap.size) → I t k B) (hIx : ∀ c A B, Ix c A → Chg A B (Two w.heap.size) → Ix c B)
    (hK1 : ∀ t A B C, Chg A B (Two w.heap.size) → Kp t B C → Kp t A C) (hK2 : ∀ t A B C, Kp t A B → Chg B C (Two w.heap.size) → Kp t A C)
    (h0 : ∀ t W W1, Chg w W (fun _ => False) → w.heap.size + 2 ≤ W.heap.size → Good t W W1 → I t 0 W1 ∧ Chg W W1 (fun _ => False))
    (Ax : θ → Nat → Act → World → Prop) (hAx : ∀ t k b A B, Ax t k b A → Chg A B (Two w.heap.size) → Ax t k b B)
    (hassign : ∀ (t : θ) (k : Nat) (W : World) (K : Act → World → Prop), k < N → I t k W → w.heap.size + 2 ≤ W.heap.size → (∀ b W1, Chg W W1 (fun _ => False) → Ax t k b W1 → K b W1) →
      assign.wpIn (Fence.wide.inRound (w.heap.size + 1)) (m - 1 - 1) P (Exit.then K (fun _ _ _ => False)) { tmps := (ps.zip (args t k)).foldl (fun t (p, v) => t.setIfInBounds p v) a.tmps, defers := [] } W)
    (hbody : ∀ (t : θ) (k : Nat) (b : Act) (W : World), k < N → (∃ r, W.heap[w.heap.size + 1]? = some (.loop r)) → I t k W → Ax t k b W → w.heap.size + 2 ≤ W.heap.size →
      body.wpIn (Fence.wide.inRound (w.heap.size + 1)) (m - 1 - 1) P (bodyEnd w.heap.size W (fun W' => I t (k + 1) W' ∧ Kp t W W') Ix) b W)
    (hdone : ∀ (t : θ) (W : World), I t N W → W.heap[w.heap.size]? = some (.deferred (some [])) → Q .normal { a with defers := { target := .collected w.heap.size, args := #[] } :: a.defers } W)
    (hstop : ∀ (c : Code) (W : World), Ix c W → W.heap[w.heap.size]? = some (.deferred (some [])) → c.wpIn Fence.wide m P Q { a with defers := { target := .collected w.heap.size, args := #[] } :: a.defers } W) :
    (Code.rangeFunc g ps assign body).wpIn Fence.wide m P Q a w := by
  refine wpIn_rangeFunc fun fn hfn => ?_
  -- the loop's record, in each of its states
  let rec_ : LoopState → Option Code → Loop := fun st pe => { state := st, pending := pe, fn := fn, tmps := a.tmps, params := ps, assign := assign, body := body, defers := w.heap.size }
  have hrun := run_enterLoop_outer (P := P) (w := w) fn a.tmps ps assign body
  obtain ⟨W0, hW0⟩ : ∃ W0, W0 = (w.alloc (.deferred (some []))).alloc (.loop (rec_ .ready none)) := ⟨_, rfl⟩
  have hc0 : Chg w W0 (fun _ => False) := by rw [hW0]; exact ((Chg.refl w _).alloc _).alloc _
  have hs0 : W0.heap.size = w.heap.size + 2 := by rw [hW0]; simp
  have hd0 : W0.heap[w.heap.size]? = some (.deferred (some [])) := by
    rw [hW0, Below.heap_alloc _ _ _ (by simp)]; exact heap_alloc_new w _
  have hl0 : W0.heap[w.heap.size + 1]? = some (.loop (rec_ .ready none)) := by
    have := heap_alloc_new (w.alloc (.deferred (some []))) (.loop (rec_ .ready none))
    rw [hW0]; simpa using this
  -- what lies in the two blocks while the iterator runs
  let Bk : LoopState → Option Code → World → Prop := fun st pe W => w.heap.size + 2 ≤ W.heap.size ∧ W.heap[w.heap.size]? = some (.deferred (some [])) ∧ W.heap[w.heap.size + 1]? = some (.loop (rec_ st pe))
  have bkChg : ∀ st pe A B, Bk st pe A → Chg A B (fun _ => False) → Bk st pe B := fun st pe A B h hc =>
    ⟨Nat.le_trans h.1 hc.size, hc.heap h.2.1 (fun x => x), hc.heap h.2.2 (fun x => x)⟩
  have hput : ∀ (A : World) (o : Obj), Chg A (A.putObj (w.heap.size + 1) o) (Two w.heap.size) := fun A o => Chg.putObj (Chg.refl A _) (.inl (.inr rfl)) o
  refine ⟨w.heap.size + 1, [{ target := .collected w.heap.size, args := #[] }], W0, { target := .fn (.func gf) lb, args := #[.func (.yield (w.heap.size + 1)) #[] #[]] }, W0, gf,
    #[.func (.yield (w.heap.size + 1)) #[] #[]] ++ lb, W0, ?_, ?_, fun _ _ => trivial, ?_, fun h => by simp [Fence.wide] at h, ?_⟩
  · rw [hW0]; exact hrun
  · simp only [resolve, hg]
    simp [go_sem]
  · simp [invoke, go_sem, eg]
  refine (hseq (w.heap.size + 1) (fun t k W => I t k W ∧ Bk .ready none W) (fun W => ∃ c, Ix c W ∧ Bk .done (some c) W) W0 hc0 (by omega) ?_ ?_ ?_).mono ?_
  · rintro t k A B ⟨h1, h2⟩ hc
    exact ⟨hI t k A B h1 (hc.mono (fun _ _ h => h.elim)), bkChg _ _ A B h2 hc⟩
  · intro t W1 hG
    obtain ⟨q1, q2⟩ := h0 t W0 W1 hc0 (by omega) hG
    exact ⟨q1, bkChg _ _ W0 W1 ⟨by omega, hd0, hl0⟩ q2⟩
  · rintro t k W1 hk ⟨hi, hsz, hd, hl⟩
    have hy := run_yield (P := P) (args := args t k) hl (hps t k)
    refine ⟨fn, _, assign, body, hy, roundIn_of_wpIn hfn (hassign t k W1 _ hk hi hsz (fun b W2 hc2 hax => ?_))⟩
    have hb2 := bkChg .ready none W1 W2 ⟨hsz, hd, hl⟩ hc2
    obtain ⟨hsz2, hd2, hl2⟩ := hb2
    have hi2 := hI t k W1 W2 hi (hc2.mono (fun _ _ h => h.elim))
    obtain ⟨W3, hW3⟩ : ∃ W3, W3 = W2.putObj (w.heap.size + 1) (.loop { rec_ .ready none with state := .busy }) := ⟨_, rfl⟩
    refine ⟨W3, by rw [hW3]; exact run_beginRound hl2 rfl, ?_⟩
    have hc3 : Chg W2 W3 (Two w.heap.size) := by rw [hW3]; exact hput _ _
    have hsz3 : w.heap.size + 2 ≤ W3.heap.size := Nat.le_trans hsz2 hc3.size
    have hd3 : W3.heap[w.heap.size]? = some (.deferred (some [])) := by rw [hW3, World.putObj_heap_other (by omega)]; exact hd2
    have hl3 : W3.heap[w.heap.size + 1]? = some (.loop { rec_ .ready none with state := .busy }) := by rw [hW3]; exact World.putObj_heap_same (by omega)
    have hc13 : Chg W1 W3 (Two w.heap.size) := (hc2.mono (fun _ _ h => h.elim)).trans hc3 (fun _ _ h => h)
    refine wpIn_mono (hbody t k b W3 hk ⟨_, hl3⟩ (hI t k W2 W3 hi2 hc3) (hAx t k b W2 W3 hax hc3) hsz3) ?_
    -- the end of the round
    have fin : ∀ (jump : Option Code) (W4 : World), (∀ i, Two w.heap.size i → W4.heap[i]? = W3.heap[i]?) →
        ∃ W5, (Instr.endRound (w.heap.size + 1) jump).run P W4 = .ok (.bool jump.isNone) W5 ∧ Chg W4 W5 (Two w.heap.size) ∧ Bk (if jump.isNone then .ready else .done) jump W5 := by
      intro jump W4 hsame
      have hl4 := (hsame _ (.inr rfl)).trans hl3
      have hd4 := (hsame _ (.inl rfl)).trans hd3
      have hsz4 : w.heap.size + 1 < W4.heap.size := (Array.getElem?_eq_some_iff.1 hl4).1
      refine ⟨_, run_endRound jump hl4, hput _ _, by simp [World.putObj]; omega, ?_, World.putObj_heap_same hsz4⟩
      rw [World.putObj_heap_other (by omega)]; exact hd4
    intro e a4 W4 hp
    have leave : ∀ c, (∀ i, Two w.heap.size i → W4.heap[i]? = W3.heap[i]?) ∧ Ix c W4 → ∃ v w', (Instr.endRound (w.heap.size + 1) (some c)).run P W4 = .ok v w' ∧
        ((Ending.returned v = .returned (.bool true) ∧ (I t (k + 1) w' ∧ Bk .ready none w') ∧ Kp t W1 w') ∨ (Ending.returned v = .returned (.bool false) ∧ ∃ c, Ix c w' ∧ Bk .done (some c) w')) := by
      rintro c ⟨hsame, hix⟩
      obtain ⟨W5, hr, hc5, hb5⟩ := fin (some c) W4 hsame
      exact ⟨_, W5, hr, .inr ⟨rfl, c, hIx c W4 W5 hix hc5, hb5⟩⟩
    cases e with
    | normal =>
      obtain ⟨hsame, hi4, hk4⟩ := hp
      obtain ⟨W5, hr, hc5, hb5⟩ := fin none W4 hsame
      exact ⟨_, W5, hr, .inl ⟨rfl, ⟨hI t (k + 1) W4 W5 hi4 hc5, hb5⟩, hK2 t W1 W4 W5 (hK1 t W1 W3 W4 hc13 hk4) hc5⟩⟩
    | ret => exact leave .ret hp
    | exit id => exact leave (.exit id) hp
    | goto t => exact leave (.goto t) hp
    | panic ch => exact hp.elim
    | outgrown => exact hp.elim
  · rintro e W2 ⟨⟨v, rfl⟩, (⟨t, hi, hsz, hd, hl⟩ | ⟨c, hi, hsz, hd, hl⟩)⟩
    · exact ⟨none, _, run_endLoop hl (by simp [rec_]), hdone t _ (hI t N _ _ hi (hput _ _)) (by rw [World.putObj_heap_other (by omega)]; exact hd)⟩
    · exact ⟨some c, _, run_endLoop hl (by simp [rec_]), hstop c _ (hIx c _ _ hi (hput _ _)) (by rw [World.putObj_heap_other (by omega)]; exact hd)⟩

theorem range_in {P : Program} {m : Nat} {g : Operand} {ps : Array Tmp} {assign body : Code} {Q : Exit → Act → World → Prop} {a : Act} {w : World} {gf : Nat} {lb : Array Value} {l₀ : Nat} {r₀ : Loop} (hl₀ : w.heap[l₀]? = some (.loop r₀))
    (hg : a.eval g = .func (.func gf) #[] lb) (eg : ∀ args w, (callFunc gf args).run P w = .ok (.enter gf args) w)
    {θ : Type} {N : Nat} {args : θ → Nat → Array Value} {Good : θ → World → World → Prop} {Kp : θ → World → World → Prop} (hseq : SeqD 1 P (m - 1) gf lb N args Good Kp w)
    (hps : ∀ t k, (args t k).size = ps.size)
    (I : θ → Nat → World → Prop) (Ix : Code → World → Prop)
    (hI : ∀ t k A B, I t k A → Chg A B (One w.heap.size) → I t k B) (hIx : ∀ c A B, Ix c A → Chg A B (One w.heap.size) → Ix c B)
    (hK1 : ∀ t A B C, Chg A B (One w.heap.size) → Kp t B C → Kp t A C) (hK2 : ∀ t A B C, Kp t A B → Chg B C (One w.heap.size) → Kp t A C)
    (h0 : ∀ t W W1, Chg w W (fun _ => False) → w.heap.size + 1 ≤ W.heap.size → Good t W W1 → I t 0 W1 ∧ Chg W W1 (fun _ => False))
    (Ax : θ → Nat → Act → World → Prop) (hAx : ∀ t k b A B, Ax t k b A → Chg A B (One w.heap.size) → Ax t k b B)
    (hassign : ∀ (t : θ) (k : Nat) (W : World) (K : Act → World → Prop), k < N → I t k W → w.heap.size + 1 ≤ W.heap.size → (∀ b W1, Chg W W1 (fun _ => False) → Ax t k b W1 → K b W1) →
      assign.wpIn (Fence.wide.inRound w.heap.size) (m - 1 - 1) P (Exit.then K (fun _ _ _ => False)) { tmps := (ps.zip (args t k)).foldl (fun t (p, v) => t.setIfInBounds p v) a.tmps, defers := [] } W)
    (hbody : ∀ (t : θ) (k : Nat) (b : Act) (W : World), k < N → (∃ r, W.heap[w.heap.size]? = some (.loop r)) → I t k W → Ax t k b W → w.heap.size + 1 ≤ W.heap.size →
      body.wpIn (Fence.wide.inRound w.heap.size) (m - 1 - 1) P (bodyEnd1 w.heap.size W (fun W' => I t (k + 1) W' ∧ Kp t W W') Ix) b W)
    (hdone : ∀ (t : θ) (W : World), I t N W → Q .normal a W)
    (hstop : ∀ (c : Code) (W : World), Ix c W → c.wpIn (Fence.wide.inRound l₀) m P Q a W) :
    (Code.rangeFunc g ps assign body).wpIn (Fence.wide.inRound l₀) m P Q a w := by
  refine wpIn_rangeFunc fun fn hfn => ?_
  let rec_ : LoopState → Option Code → Loop := fun st pe => { state := st, pending := pe, fn := fn, tmps := a.tmps, params := ps, assign := assign, body := body, defers := r₀.defers }
  have hrun := run_enterLoop_inner (P := P) (w := w) hl₀ fn a.tmps ps assign body
  obtain ⟨W0, hW0⟩ : ∃ W0, W0 = w.alloc (.loop (rec_ .ready none)) := ⟨_, rfl⟩
  have hc0 : Chg w W0 (fun _ => False) := by rw [hW0]; exact (Chg.refl w _).alloc _
  have hs0 : W0.heap.size = w.heap.size + 1 := by rw [hW0]; simp
  have hl0 : W0.heap[w.heap.size]? = some (.loop (rec_ .ready none)) := by rw [hW0]; exact heap_alloc_new w _
  let Bk : LoopState → Option Code → World → Prop := fun st pe W => w.heap.size + 1 ≤ W.heap.size ∧ W.heap[w.heap.size]? = some (.loop (rec_ st pe))
  have bkChg : ∀ st pe A B, Bk st pe A → Chg A B (fun _ => False) → Bk st pe B := fun st pe A B h hc =>
    ⟨Nat.le_trans h.1 hc.size, hc.heap h.2 (fun x => x)⟩
  have hput : ∀ (A : World) (o : Obj), Chg A (A.putObj w.heap.size o) (One w.heap.size) := fun A o => Chg.putObj (S := One w.heap.size) (Chg.refl A _) (.inl (show w.heap.size = w.heap.size from rfl)) o
  refine ⟨w.heap.size, [], W0, { target := .fn (.func gf) lb, args := #[.func (.yield w.heap.size) #[] #[]] }, W0, gf,
    #[.func (.yield w.heap.size) #[] #[]] ++ lb, W0, ?_, ?_, fun _ _ => trivial, ?_, fun h => by simp [Fence.wide, Fence.inRound] at h, ?_⟩
  · rw [hW0]; exact hrun
  · simp only [resolve, hg]
    simp [go_sem]
  · simp [invoke, go_sem, eg]
  refine CallsIn.inRound _ ((hseq w.heap.size (fun t k W => I t k W ∧ Bk .ready none W) (fun W => ∃ c, Ix c W ∧ Bk .done (some c) W) W0 hc0 (by omega) ?_ ?_ ?_).mono ?_)
  · rintro t k A B ⟨h1, h2⟩ hc
    exact ⟨hI t k A B h1 (hc.mono (fun _ _ h => h.elim)), bkChg _ _ A B h2 hc⟩
  · intro t W1 hG
    obtain ⟨q1, q2⟩ := h0 t W0 W1 hc0 (by omega) hG
    exact ⟨q1, bkChg _ _ W0 W1 ⟨by omega, hl0⟩ q2⟩
  · rintro t k W1 hk ⟨hi, hsz, hl⟩
    have hy := run_yield (P := P) (args := args t k) hl (hps t k)
    refine ⟨fn, _, assign, body, hy, roundIn_of_wpIn hfn (hassign t k W1 _ hk hi hsz (fun b W2 hc2 hax => ?_))⟩
    have hb2 := bkChg .ready none W1 W2 ⟨hsz, hl⟩ hc2
    obtain ⟨hsz2, hl2⟩ := hb2
    have hi2 := hI t k W1 W2 hi (hc2.mono (fun _ _ h => h.elim))
    obtain ⟨W3, hW3⟩ : ∃ W3, W3 = W2.putObj w.heap.size (.loop { rec_ .ready none with state := .busy }) := ⟨_, rfl⟩
    refine ⟨W3, by rw [hW3]; exact run_beginRound hl2 rfl, ?_⟩
    have hc3 : Chg W2 W3 (One w.heap.size) := by rw [hW3]; exact hput _ _
    have hsz3 : w.heap.size + 1 ≤ W3.heap.size := Nat.le_trans hsz2 hc3.size
    have hl3 : W3.heap[w.heap.size]? = some (.loop { rec_ .ready none with state := .busy }) := by rw [hW3]; exact World.putObj_heap_same (by omega)
    have hc13 : Chg W1 W3 (One w.heap.size) := (hc2.mono (fun _ _ h => h.elim)).trans hc3 (fun _ _ h => h)
    refine wpIn_mono (hbody t k b W3 hk ⟨_, hl3⟩ (hI t k W2 W3 hi2 hc3) (hAx t k b W2 W3 hax hc3) hsz3) ?_
    have fin : ∀ (jump : Option Code) (W4 : World), (∀ i, One w.heap.size i → W4.heap[i]? = W3.heap[i]?) →
        ∃ W5, (Instr.endRound w.heap.size jump).run P W4 = .ok (.bool jump.isNone) W5 ∧ Chg W4 W5 (One w.heap.size) ∧ Bk (if jump.isNone then .ready else .done) jump W5 := by
      intro jump W4 hsame
      have hl4 := (hsame _ rfl).trans hl3
      have hsz4 : w.heap.size < W4.heap.size := (Array.getElem?_eq_some_iff.1 hl4).1
      exact ⟨_, run_endRound jump hl4, hput _ _, by simp [World.putObj]; omega, World.putObj_heap_same hsz4⟩
    intro e a4 W4 hp
    have leave : ∀ c, (∀ i, One w.heap.size i → W4.heap[i]? = W3.heap[i]?) ∧ Ix c W4 → ∃ v w', (Instr.endRound w.heap.size (some c)).run P W4 = .ok v w' ∧
        ((Ending.returned v = .returned (.bool true) ∧ (I t (k + 1) w' ∧ Bk .ready none w') ∧ Kp t W1 w') ∨ (Ending.returned v = .returned (.bool false) ∧ ∃ c, Ix c w' ∧ Bk .done (some c) w')) := by
      rintro c ⟨hsame, hix⟩
      obtain ⟨W5, hr, hc5, hb5⟩ := fin (some c) W4 hsame
      exact ⟨_, W5, hr, .inr ⟨rfl, c, hIx c W4 W5 hix hc5, hb5⟩⟩
    cases e with
    | normal =>
      obtain ⟨hsame, hi4, hk4⟩ := hp
      obtain ⟨W5, hr, hc5, hb5⟩ := fin none W4 hsame
      exact ⟨_, W5, hr, .inl ⟨rfl, ⟨hI t (k + 1) W4 W5 hi4 hc5, hb5⟩, hK2 t W1 W4 W5 (hK1 t W1 W3 W4 hc13 hk4) hc5⟩⟩
    | ret => exact leave .ret hp
    | exit id => exact leave (.exit id) hp
    | goto t => exact leave (.goto t) hp
    | panic ch => exact hp.elim
    | outgrown => exact hp.elim
  · rintro e W2 ⟨⟨v, rfl⟩, (⟨t, hi, hsz, hl⟩ | ⟨c, hi, hsz, hl⟩)⟩
    · exact ⟨none, _, run_endLoop hl (by simp [rec_]), hdone t _ (hI t N _ _ hi (hput _ _))⟩
    · exact ⟨some c, _, run_endLoop hl (by simp [rec_]), hstop c _ (hIx c _ _ hi (hput _ _))⟩

set_option maxHeartbeats 4000000 in
set_option maxRecDepth 10000 in
theorem lines_seqD (d : Nat) (w : World) (m B bg bc : Nat) (s : GS) (h : IsG w B s) (c : Int) (hg : w.cell? ⟨bg, 0, none⟩ = some (.pointer (some ⟨B, 0, none⟩))) (hc : w.cell? ⟨bc, 0, none⟩ = some (.int .i64 c)) :
    SeqD d Try.prog (m + 2) 38 #[.pointer (some ⟨bg, 0, none⟩), .pointer (some ⟨bc, 0, none⟩)] (lns (s.to c)).length (lArgs (s.to c)) (lGood (s.to c)) (lKp d w (s.to c)) w := by
  intro l J Jx W hC hsz hJ h0 hY
  have cg : W.cell? ⟨bg, 0, none⟩ = some (.pointer (some ⟨B, 0, none⟩)) := Kp.cell hC hg
  have cc : W.cell? ⟨bc, 0, none⟩ = some (.int .i64 c) := Kp.cell hC hc
  have hR := routed_any W B s (h.kp hC) c
  obtain ⟨f, hf⟩ : ∃ f, f = s.to c := ⟨_, rfl⟩
  rw [← hf] at hR h0 hY ⊢
  have hE := each_any W (sw f : Nat)
  obtain ⟨W1, hW1⟩ : ∃ W1, W1 = W.alloc (.cells #[.int .u32 (sw f : Nat)] 30) := ⟨_, rfl⟩
  rw [← hW1] at hE
  have kW1 : Kp W W1 := by rw [hW1]; exact (Chg.refl W _).alloc _
  have hb1 : eBox f W.heap.size W1 := by
    have : W1.heap[W.heap.size]? = some (.cells #[.int .u32 (sw f : Nat)] 30 (0, 0)) := by rw [hW1]; exact heap_alloc_new W _
    unfold eBox; rw [(cells_at this 0).1]; rfl
  have hcore := each_core W1 m W.heap.size f hb1 l (fun _ k A => J W.heap.size k A ∧ eBox f W.heap.size A) Jx (fun _ k A D hA hD => ⟨hJ _ _ _ _ hA.1 hD, Kp.cell hD hA.2⟩) ⟨h0 W.heap.size W1 ⟨kW1, Nat.le_refl _, hb1⟩, hb1⟩ (fun _ k A hk hA => by
    refine yieldAt_any rfl _ (YieldAt.mono (hY W.heap.size k A hk hA.1) ?_)
    rintro e A' (⟨rfl, q1, q2⟩ | ⟨rfl, q1⟩)
    · have := q2 hsz hA.2
      exact .inl ⟨rfl, ⟨q1, this⟩, fun _ => this⟩
    · exact .inr ⟨rfl, q1⟩)
  have HC : Hid (∀ e A', ((∃ v, e = .returned v) ∧ ((∃ t : Unit, J W.heap.size (lns f).length A' ∧ eBox f W.heap.size A') ∨ Jx A')) → (∃ v, e = Ending.returned v) ∧ ((∃ t, J t (lns f).length A') ∨ Jx A')) := by
    rintro e A' ⟨q1, ⟨_, q2, _⟩ | q2⟩
    · exact ⟨q1, .inl ⟨_, q2⟩⟩
    · exact ⟨q1, .inr q2⟩
  clear hJ h0 hY hg hc hC hsz h kW1 hb1
  refine callsIn_of_wp Try.func38 rfl trivial ?_ rfl
  simp only [Try.ntmps38, List.size_toArray, List.length_cons, List.length_nil, Nat.reduceAdd, Nat.reduceSub, Array.replicate_succ, Array.replicate_zero, List.push_toArray, List.append_toArray, List.nil_append, List.cons_append]
  have HF : Hid (f = s.to c) := hf
  clear hf
  gi_wp2_with fail
  refine ⟨trivial, ?_⟩
  gi_at_call 39
  refine (callsIn_wide.2 hR).mono ?_
  rintro e wz ⟨rfl, hwz⟩
  rw [hwz]
  clear hR hwz
  gi_wp2_with fail
  refine ⟨trivial, ?_⟩
  gi_at_call 37
  refine (callsIn_wide.2 hE).mono ?_
  rintro e wz ⟨rfl, hwz⟩
  rw [hwz]
  clear hE hwz hW1
  gi_wp2_with fail
  refine ⟨trivial, ?_⟩
  refine CallsIn.mono (show CallsIn Fence.wide (m + 1) Try.prog 52 #[.func (.yield l) #[] #[], .pointer (some ⟨W.heap.size, 0, none⟩)] W1 _ from hcore) ?_
  rintro e W2 ⟨⟨v, rfl⟩, hx⟩
  have HE : Hid ((∃ t, J t (lns f).length W2) ∨ Jx W2) := (HC.out (.returned v) W2 ⟨⟨v, rfl⟩, hx⟩).2
  clear hcore hx HC
  gi_wp2
  go_end0
  exact ⟨⟨_, rfl⟩, HE.out⟩
end Go.Proofs.Ytkndlkcbhpfjoaa
