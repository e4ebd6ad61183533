import Derived.Test.YtfolnmmlhknmiaaGreatDoorZl
namespace Go.Proofs.YtfolnmmlhknmiaaGreatDoor
open Go.ChangeShapes Go.WideShapes Go.ChangeAt Go.RowKit
set_option linter.unusedVariables false

def ptrTo (X : Nat) : Value := .pointer (some ⟨X, 0, none⟩)
def frm (j : Nat) : Nat := 1 + j % 30
def vJ (v j : Nat) : Nat := (v + j) % 4294967296
/-- What the j-th set holds. -/
def MnI (v j : Nat) (x : Ms) : Prop := x.pages = 64 ∧ x.rt 1 = some 163840 ∧ x.s.f (1, 1024) = none ∧ OneT x.m 1024 (frm j) 1 ∧ ldN x.m (4096 * frm j + 8) 4 = vJ v j
/-- A set's place: its box, its blocks, what it holds. -/
structure Pl8 where
  X : Nat
  b : Bl
  x : Ms
def Pl8.all (q : Pl8) (i : Nat) : Prop := i = q.X ∨ q.b.all i
/-- Many sets, in a list. -/
structure Mn (w W : World) (v : Nat) (lv : Value) (a n : Nat) (T : Nat → Pl8) : Prop where
  t : ∀ j, a ≤ j → j < n → St8 w W (T j).X (T j).b (T j).x ∧ MnI v j (T j).x ∧ (T j).b.k ≤ 5
  d : ∀ j j', a ≤ j → j < n → a ≤ j' → j' < n → j ≠ j' → ∀ i, (T j).all i → ¬ (T j').all i
  g : ∀ j, a ≤ j → j < n → ∀ k, lv.ownBlock = some k → ¬ (T j).all k
  row : W.ownsRow 0 25 1 lv n ((List.range n).map fun j => ptrTo (T j).X)
  fresh : ∀ k, lv.ownBlock = some k → w.heap.size ≤ k
  kp : Chg w W (fun _ => False)
theorem row_lt {w : World} {lv : Value} {n e : Nat} {xs : List Value} (h : w.ownsRow 0 e 1 lv n xs) {k : Nat} (hk : lv.ownBlock = some k) : ∃ cur, w.heap[k]? = some (.cells cur e (0, 0)) := by
  rcases h.2 with ⟨rfl, _⟩ | ⟨g, cap, cur, rfl, _, hg, _⟩
  · cases hk
  · cases hk; exact ⟨cur, hg⟩
theorem St8.lt {w0 w : World} {X : Nat} {b : Bl} {x : Ms} (h : St8 w0 w X b x) {i : Nat} (hi : i = X ∨ b.all i) : i < w.heap.size := by
  rcases hi with e | e
  · rw [e]; exact (Array.getElem?_eq_some_iff.1 h.box).1
  · exact h.u.lt e
theorem St8.kept {w0 w w' : World} {X : Nat} {b : Bl} {x : Ms} {S : Nat → Prop} (h : St8 w0 w X b x) (hc : Chg w w' S) (hS : ∀ i, (i = X ∨ b.all i) → ¬ S i) (hn : ∀ i, i < w0.heap.size → ¬ S i) : St8 w0 w' X b x :=
  ⟨hc.heap h.box (hS _ (.inl rfl)), h.u.kept hc (fun i hi => hS i (.inr hi)), h.nx, h.c.trans hc (fun i hi e => absurd e (hn i hi)), h.new, h.newX⟩
theorem Mn.kept {w W W' : World} {v : Nat} {lv : Value} {a n : Nat} {T : Nat → Pl8} (h : Mn w W v lv a n T) (hk : Chg W W' (fun _ => False)) : Mn w W' v lv a n T :=
  ⟨fun j h1 h2 => ⟨(h.t j h1 h2).1.later hk, (h.t j h1 h2).2⟩, h.d, h.g, hk.owns h.row (fun _ _ x => x), h.fresh, h.kp.tr hk⟩
theorem Mn.loaded {w W W' : World} {v : Nat} {lv : Value} {a n : Nat} {T : Nat → Pl8} (h : Mn w W v lv a n T) (ha : a < n) (hC : Chg W W' (T a).b.all) : Mn w W' v lv (a + 1) n T := by
  refine ⟨fun j h1 h2 => ⟨(h.t j (by omega) h2).1.kept hC (fun i hi e => h.d j a (by omega) h2 (Nat.le_refl _) ha (by omega) i hi (.inr e)) (fun i hi e => ?_), (h.t j (by omega) h2).2⟩, fun j j' h1 h2 h3 h4 => h.d j j' (by omega) h2 (by omega) h4, fun j h1 h2 => h.g j (by omega) h2, hC.owns h.row (fun k hk e => h.g a (Nat.le_refl _) ha k hk (.inr e)), h.fresh, h.kp.trans hC (fun i hi e => ?_)⟩
  · have := (h.t a (Nat.le_refl _) ha).1.new i e; omega
  · have := (h.t a (Nat.le_refl _) ha).1.new i e; omega
theorem info25 : ∃ i z, Tryz.prog.info? 25 = some i ∧ i.zero = some z ∧ i.size = 1 ∧ i.bytes = 8 ∧ z.cells.size = 1 := by
  cases h : Tryz.prog.info? 25 with
  | none => have : (Tryz.prog.info? 25).isSome = true := by kernel_rfl
            rw [h] at this; cases this
  | some i =>
    have h1 : (Tryz.prog.info? 25).map (·.size) = some 1 := by kernel_rfl
    rw [h] at h1
    have h2 : (Tryz.prog.info? 25).map (·.bytes) = some 8 := by kernel_rfl
    rw [h] at h2
    have h3 : ((Tryz.prog.info? 25).bind (·.zero)).map (·.cells.size) = some 1 := by kernel_rfl
    rw [h] at h3
    simp only [Option.bind_some] at h3
    cases hz : i.zero with
    | none => rw [hz] at h3; cases h3
    | some z =>
      rw [hz] at h3
      simp at h1 h2 h3
      exact ⟨i, z, rfl, hz, h1, h2, h3⟩
def setAt {α : Type} (g : Nat → α) (n : Nat) (x : α) : Nat → α := fun i => if i = n then x else g i
theorem setAt_lt {α : Type} {g : Nat → α} {n : Nat} {x : α} {i : Nat} (h : i < n) : setAt g n x i = g i := by simp [setAt]; omega
theorem setAt_same {α : Type} (g : Nat → α) (n : Nat) (x : α) : setAt g n x n = x := by simp [setAt]
/-- One more. -/
theorem Mn.more {w W V : World} {v : Nat} {lv : Value} {n : Nat} {T : Nat → Pl8} (h : Mn w W v lv 0 n T) (hn : n ≤ 1000000) {X : Nat} {b : Bl} {x : Ms} (hF : St8 W V X b x) (hI : MnI v n x) (hk5 : b.k ≤ 5) :
    ∃ v' w', (Builtin.append_ #[46, 46] 46 #[lv, .slice (some ⟨V.heap.size, 0, none⟩) 1 1]).run Tryz.prog (V.alloc (.cells #[ptrTo X] 25)) = .ok v' w' ∧ Mn w w' v v' 0 (n + 1) (setAt T n ⟨X, b, x⟩) := by
  obtain ⟨i26, z26, h26, hz26, hs26, hb26, hzs26⟩ := info25
  have hV := h.kept hF.c
  have hk : Chg V (V.alloc (.cells #[ptrTo X] 25)) (fun _ => False) := (Chg.refl V _).alloc _
  have hA := hV.kept hk
  have hT := hF.later hk
  obtain ⟨v', w', hr, h1, h2, h3⟩ := run_app (P := Tryz.prog) (V.alloc (.cells #[ptrTo X] 25)) 46 46 25 i26 z26 1 8 Tryz.underlying46 h26 hz26 hs26 hb26 hzs26 (by omega) lv n _ hA.row (some ⟨V.heap.size, 0, none⟩) 1 1 [ptrTo X] (by simp) (.inr ⟨_, _, rfl, fun j x hx => by
    rw [(Cac.cells_at (heap_alloc_new V _) _).1, Nat.zero_add, ← hx]; simp⟩) (fun x hx => by simp at hx; rw [hx]; rfl) (by simp [maxLen]; omega) (by omega)
  have hC : Chg (V.alloc (.cells #[ptrTo X] 25)) w' (fun k => lv.ownBlock = some k) := Chg.grown (Chg.refl _ _) h2 (fun k e => .inl e)
  have hold : ∀ j, j < n → ∀ i, (T j).all i → i < W.heap.size := fun j hj i hi => (h.t j (Nat.zero_le _) hj).1.lt hi
  have hnew : ∀ i, (i = X ∨ b.all i) → W.heap.size ≤ i := fun i hi => by
    rcases hi with e | e
    · have := hF.newX; omega
    · exact hF.new i e
  have hlo : ∀ k, lv.ownBlock = some k → k < W.heap.size := fun k e => by
    obtain ⟨cur, hc⟩ := row_lt h.row e
    exact (Array.getElem?_eq_some_iff.1 hc).1
  have hzV := hF.c.size
  have hzw := h.kp.size
  have hfr : ∀ i, i < w.heap.size → ¬ lv.ownBlock = some i := fun i hi e => by have := h.fresh i e; omega
  have hTw : St8 w (V.alloc (.cells #[ptrTo X] 25)) X b x := ⟨hT.box, hT.u, hT.nx, hA.kp, fun i hi => Nat.le_trans hzw (hF.new i hi), Nat.le_trans hzw hF.newX⟩
  have hvb : ∀ k, v'.ownBlock = some k → lv.ownBlock = some k ∨ (V.alloc (.cells #[ptrTo X] 25)).heap.size ≤ k := fun k e => by
    rcases h3 with q | ⟨k', q, hk'⟩
    · exact .inl (q ▸ e)
    · rw [q] at e; cases e; exact .inr hk'
  refine ⟨v', w', hr, ⟨fun j _ hj => ?_, fun j j' _ hj _ hj' hne i => ?_, fun j _ hj k hkk i => ?_, ?_, ?_, ?_⟩⟩
  · by_cases e : j = n
    · subst e
      simp only [setAt_same]
      exact ⟨hTw.kept hC (fun i hi e => by have := hnew i hi; have := hlo i e; omega) hfr, hI, hk5⟩
    · have hlt : j < n := by omega
      simp only [setAt_lt hlt]
      exact ⟨(hA.t j (Nat.zero_le _) hlt).1.kept hC (fun i hi e => h.g j (Nat.zero_le _) hlt i e hi) hfr, (hA.t j (Nat.zero_le _) hlt).2⟩
  · by_cases e : j = n
    · have hlt : j' < n := by omega
      subst e
      rw [setAt_same, setAt_lt hlt]
      intro h1 h2
      have := hnew i h1
      have := hold j' hlt i h2
      omega
    · have hlt : j < n := by omega
      by_cases e' : j' = n
      · subst e'
        rw [setAt_same, setAt_lt hlt]
        intro h1 h2
        have := hnew i h2
        have := hold j hlt i h1
        omega
      · have hlt' : j' < n := by omega
        rw [setAt_lt hlt', setAt_lt hlt]
        exact h.d j j' (Nat.zero_le _) hlt (Nat.zero_le _) hlt' hne i
  · have hzz := hk.size
    by_cases e : j = n
    · subst e
      rw [setAt_same] at i
      rcases hvb k hkk with q | q
      · have := hnew k i; have := hlo k q; omega
      · have := hTw.lt i; omega
    · have hlt : j < n := by omega
      rw [setAt_lt hlt] at i
      rcases hvb k hkk with q | q
      · exact h.g j (Nat.zero_le _) hlt k q i
      · have := hold j hlt k i; omega
  · have e : (List.range (n + 1)).map (fun j => ptrTo (setAt T n (⟨X, b, x⟩ : Pl8) j).X) = ((List.range n).map fun j => ptrTo (T j).X) ++ [ptrTo X] := by
      have e1 : (List.range n).map (fun j => ptrTo (setAt T n (⟨X, b, x⟩ : Pl8) j).X) = (List.range n).map fun j => ptrTo (T j).X := by
        apply List.map_congr_left
        intro j hj
        rw [setAt_lt (by simpa using hj)]
      rw [List.range_succ, List.map_append, e1, List.map_singleton, setAt_same]
    rw [e]; exact h1
  · intro k hk'
    rcases hvb k hk' with q | q
    · exact h.fresh k q
    · have := hk.size; omega
  · exact hA.kp.trans hC (fun i hi e => absurd e (hfr i hi))
end Go.Proofs.YtfolnmmlhknmiaaGreatDoor
