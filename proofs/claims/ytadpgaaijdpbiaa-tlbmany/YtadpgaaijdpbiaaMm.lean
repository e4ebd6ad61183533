import Derived.Test.YtadpgaaijdpbiaaWk
namespace Go.Proofs.Ytadpgaaijdpbiaa
open Go.ChangeShapes Go.WideShapes Go.ChangeAt Go.RowKit Go.Shelf
set_option linter.unusedVariables false

def ptrTo (B : Nat) : Value := .pointer (some ⟨B, 0, none⟩)
def F (T : Nat → Nat × Nat × Value) (j i : Nat) : Prop := Ft (T j).1 (T j).2.1 (T j).2.2 i
def mtag : Tg := (1, 7)
def S1 (v j : Nat) : Sta := Sta.none.put (1 + j % 64) mtag ((v + j) % 4294967296, 0)
theorem S1_f (v j : Nat) : (S1 v j).f mtag = some ((v + j) % 4294967296, 0) := by
  simp [S1, Sta.put, Sta.room, Sta.none, Sta.set]
theorem S1_len (v j : Nat) : ((S1 v j).look mtag).l.length = 1 := by
  have h := S1_f v j
  unfold Sta.look
  rw [if_pos (by rw [h]; rfl)]
  have h0 : 0 < 1 + j % 64 := by omega
  simp [S1, Sta.put, Sta.room, Sta.none, Sta.set, mv, h0]

/-- Many TLBs, in a list. -/
structure Ms (w W : World) (v : Nat) (lv : Value) (a n : Nat) (T : Nat → Nat × Nat × Value) : Prop where
  t : ∀ j, a ≤ j → j < n → IsT W (T j).1 (T j).2.1 (T j).2.2 (1 + j % 64) 1 (S1 v j)
  d : ∀ j j', a ≤ j → j < n → a ≤ j' → j' < n → j ≠ j' → ∀ i, F T j i → ¬ F T j' i
  new : ∀ j, a ≤ j → j < n → ∀ i, F T j i → w.heap.size ≤ i
  row : W.ownsRow 0 26 1 lv n ((List.range n).map fun j => ptrTo (T j).1)
  fresh : ∀ k, lv.ownBlock = some k → w.heap.size ≤ k
  kp : Kp w W
theorem IsT.no26 {w : World} {B M : Nat} {v : Value} {n k : Nat} {s : Sta} (h : IsT w B M v n k s) {g : Nat} {cur : Array Value} (hg : w.heap[g]? = some (.cells cur 26 (0, 0))) : ¬ Ft B M v g := by
  rintro (rfl | rfl | e)
  · have := h.box; rw [hg] at this; simp at this
  · obtain ⟨es, c, hh⟩ := h.map.heap; rw [hh] at hg; cases hg
  · obtain ⟨c, hc⟩ := h.ord.row e; rw [hg] at hc; simp at hc
theorem row_lt {w : World} {lv : Value} {n e : Nat} {xs : List Value} (h : w.ownsRow 0 e 1 lv n xs) {k : Nat} (hk : lv.ownBlock = some k) : ∃ cur, w.heap[k]? = some (.cells cur e (0, 0)) := by
  rcases h.2 with ⟨rfl, _⟩ | ⟨g, cap, cur, rfl, _, hg, _⟩
  · cases hk
  · cases hk; exact ⟨cur, hg⟩
theorem Ms.kept {w W W' : World} {v : Nat} {lv : Value} {a n : Nat} {T : Nat → Nat × Nat × Value} (h : Ms w W v lv a n T) (hk : Kp W W') : Ms w W' v lv a n T :=
  ⟨fun j h1 h2 => (h.t j h1 h2).kp hk, h.d, h.new, Chg.owns hk h.row (fun _ _ x => x), h.fresh, Kp.trans h.kp hk⟩
theorem Ms.looked {w W W' : World} {v : Nat} {lv : Value} {a n : Nat} {T : Nat → Nat × Nat × Value} (h : Ms w W v lv a n T) (ha : a < n) (hC : Chg W W' (F T a)) : Ms w W' v lv (a + 1) n T := by
  refine ⟨fun j h1 h2 => (h.t j (by omega) h2).kept hC (fun i hi => h.d j a (by omega) h2 (Nat.le_refl _) ha (by omega) i hi), fun j j' h1 h2 h3 h4 => h.d j j' (by omega) h2 (by omega) h4, fun j h1 h2 => h.new j (by omega) h2, Chg.owns hC h.row (fun k hk => ?_), h.fresh, Chg.trans h.kp hC (fun i hi e => ?_)⟩
  · obtain ⟨cur, hc⟩ := row_lt h.row hk
    exact (h.t a (Nat.le_refl _) ha).no26 hc
  · have := h.new a (Nat.le_refl _) ha i e
    omega
theorem info26 : ∃ i z, Try.prog.info? 26 = some i ∧ i.zero = some z ∧ i.size = 1 ∧ i.bytes = 8 ∧ z.cells.size = 1 := by
  cases h : Try.prog.info? 26 with
  | none => have : (Try.prog.info? 26).isSome = true := by kernel_rfl
            rw [h] at this; cases this
  | some i =>
    have h1 : (Try.prog.info? 26).map (·.size) = some 1 := by kernel_rfl
    rw [h] at h1
    have h2 : (Try.prog.info? 26).map (·.bytes) = some 8 := by kernel_rfl
    rw [h] at h2
    have h3 : ((Try.prog.info? 26).bind (·.zero)).map (·.cells.size) = some 1 := by kernel_rfl
    rw [h] at h3
    simp only [Option.bind_some] at h3
    cases hz : i.zero with
    | none => rw [hz] at h3; cases h3
    | some z =>
      rw [hz] at h3
      simp at h1 h2 h3
      exact ⟨i, z, rfl, hz, h1, h2, h3⟩
def setAt {α : Type} (g : Nat → α) (n : Nat) (x : α) : Nat → α := fun i => if i = n then x else g i
theorem setAt_lt {α : Type} {g : Nat → α} {n : Nat} {x : α} {i : Nat} (h : i < n) : setAt g n x i = g i := by simp [setAt]; omega
theorem setAt_same {α : Type} (g : Nat → α) (n : Nat) (x : α) : setAt g n x n = x := by simp [setAt]

/-- One more. -/
theorem Ms.more {w W V : World} {v : Nat} {lv : Value} {n : Nat} {T : Nat → Nat × Nat × Value} (h : Ms w W v lv 0 n T) (hn : n ≤ 1000000) {B M : Nat} {u : Value} (hF : Fr W V B M u (1 + n % 64) 1 (S1 v n)) :
    ∃ v' w', (Builtin.append_ #[25, 25] 25 #[lv, .slice (some ⟨V.heap.size, 0, none⟩) 1 1]).run Try.prog (V.alloc (.cells #[ptrTo B] 26)) = .ok v' w' ∧ Ms w w' v v' 0 (n + 1) (setAt T n (B, M, u)) := by
  obtain ⟨i26, z26, h26, hz26, hs26, hb26, hzs26⟩ := info26
  have hV := h.kept hF.kp
  have hk : Kp V (V.alloc (.cells #[ptrTo B] 26)) := (Chg.refl V _).alloc _
  have hA := hV.kept hk
  have hT := hF.t.kp hk
  obtain ⟨v', w', hr, h1, h2, h3⟩ := run_app (P := Try.prog) (V.alloc (.cells #[ptrTo B] 26)) 25 25 26 i26 z26 1 8 Try.underlying25 h26 hz26 hs26 hb26 hzs26 (by omega) lv n _ hA.row (some ⟨V.heap.size, 0, none⟩) 1 1 [ptrTo B] (by simp) (.inr ⟨_, _, rfl, fun j x hx => by
    rw [(cells_at (heap_alloc_new V _) _).1, Nat.zero_add, ← hx]; simp⟩) (fun x hx => by simp at hx; rw [hx]; rfl) (by simp [maxLen]; omega) (by omega)
  have hC : Chg (V.alloc (.cells #[ptrTo B] 26)) w' (fun k => lv.ownBlock = some k) := Chg.grown (Chg.refl _ _) h2 (fun k e => .inl e)
  have keep : ∀ {B' M' : Nat} {u' : Value} {n' k' : Nat} {s' : Sta}, IsT (V.alloc (.cells #[ptrTo B] 26)) B' M' u' n' k' s' → IsT w' B' M' u' n' k' s' := by
    intro B' M' u' n' k' s' hI
    refine hI.kept hC (fun i hi e => ?_)
    obtain ⟨cur, hc⟩ := row_lt hA.row e
    exact hI.no26 hc hi
  have hold : ∀ j, j < n → ∀ i, F T j i → i < W.heap.size := fun j hj i hi => (h.t j (Nat.zero_le _) hj).lt hi
  refine ⟨v', w', hr, ⟨fun j _ hj => ?_, fun j j' _ hj _ hj' hne i => ?_, fun j _ hj i => ?_, ?_, ?_, ?_⟩⟩
  · by_cases e : j = n
    · subst e; simp only [setAt_same]; exact keep hT
    · have hlt : j < n := by omega
      simp only [setAt_lt hlt]
      exact keep (hA.t j (Nat.zero_le _) hlt)
  · by_cases e : j = n
    · have hlt : j' < n := by omega
      subst e
      unfold F
      rw [setAt_same, setAt_lt hlt]
      intro h1 h2
      have := hF.new i h1
      have := hold j' hlt i h2
      omega
    · have hlt : j < n := by omega
      by_cases e' : j' = n
      · subst e'
        unfold F
        rw [setAt_same, setAt_lt hlt]
        intro h1 h2
        have := hF.new i h2
        have := hold j hlt i h1
        omega
      · have hlt' : j' < n := by omega
        unfold F
        rw [setAt_lt hlt', setAt_lt hlt]
        exact h.d j j' (Nat.zero_le _) hlt (Nat.zero_le _) hlt' hne i
  · by_cases e : j = n
    · subst e
      unfold F
      rw [setAt_same]
      intro h1
      exact Nat.le_trans h.kp.size (hF.new i h1)
    · have hlt : j < n := by omega
      unfold F
      rw [setAt_lt hlt]
      exact h.new j (Nat.zero_le _) hlt i
  · have e : (List.range (n + 1)).map (fun j => ptrTo (setAt T n (B, M, u) j).1) = ((List.range n).map fun j => ptrTo (T j).1) ++ [ptrTo B] := by
      have e1 : (List.range n).map (fun j => ptrTo (setAt T n (B, M, u) j).1) = (List.range n).map fun j => ptrTo (T j).1 := by
        apply List.map_congr_left
        intro j hj
        rw [setAt_lt (by simpa using hj)]
      rw [List.range_succ, List.map_append, e1, List.map_singleton, setAt_same]
    rw [e]; exact h1
  · intro k hk
    rcases h3 with e | ⟨k', e, hk'⟩
    · rw [e] at hk; exact h.fresh k hk
    · rw [e] at hk; cases hk
      have := hV.kp.size
      simp at hk'
      omega
  · exact Chg.trans hA.kp hC (fun i hi e => by have := h.fresh i e; omega)
end Go.Proofs.Ytadpgaaijdpbiaa
