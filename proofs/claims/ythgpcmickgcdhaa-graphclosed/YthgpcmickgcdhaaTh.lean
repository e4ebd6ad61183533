import Derived.Test.YthgpcmickgcdhaaRows
namespace Go.Proofs.Ythgpcmickgcdhaa
set_option linter.unusedVariables false

/-- x bears on c by D's edges. -/
inductive Rch (D : Nat → Nat → Prop) (c : Nat) : Nat → Prop
  | refl : Rch D c c
  | step {x y : Nat} : D x y → Rch D c y → Rch D c x

def upd {α : Type} (f : Nat → α) (i : Nat) (v : α) : Nat → α := fun j => if j = i then v else f j
theorem upd_same {α : Type} (f : Nat → α) (i : Nat) (v : α) : upd f i v i = v := by simp [upd]
theorem upd_other {α : Type} (f : Nat → α) {i j : Nat} (v : α) (h : j ≠ i) : upd f i v j = f j := by simp [upd, h]

/-- What a walk holds to. -/
structure WInv (D : Nat → Nat → Prop) (A0 : Nat → List Nat) (n c : Nat) (been : Nat → Bool) (ahead : Nat → List Nat) (path left : List Nat) : Prop where
  bp : ∀ x, been x = true ↔ x ∈ path ∨ x ∈ left
  nd : (path ++ left).Nodup
  rc : ∀ x, x ∈ path ∨ x ∈ left → Rch D c x
  cl : ∀ x, x ∈ left → ahead x = []
  got : ∀ x y, y ∈ A0 x → y ∈ ahead x ∨ been y = true
  sub : ∀ x y, y ∈ ahead x → y ∈ A0 x
  cin : c ∈ path ∨ c ∈ left
  rg : ∀ x, x ∈ path ∨ x ∈ left → 1 ≤ x ∧ x ≤ n

section
variable {D : Nat → Nat → Prop} {A0 : Nat → List Nat} {n c : Nat} {been : Nat → Bool} {ahead : Nat → List Nat} {path left : List Nat}

theorem WInv.start (hc : 1 ≤ c ∧ c ≤ n) : WInv D A0 n c (upd (fun _ => false) c true) A0 [c] [] where
  bp x := by by_cases h : x = c <;> simp [upd, h]
  nd := by simp
  rc x h := by simp at h; subst h; exact .refl
  cl x h := by simp at h
  got x y h := .inl h
  sub x y h := h
  cin := by simp
  rg x h := by simp at h; subst h; exact hc

theorem WInv.skip {p : List Nat} {h y : Nat} {ys : List Nat} (W : WInv D A0 n c been ahead (p ++ [h]) left) (ha : ahead h = y :: ys) (hb : been y = true) : WInv D A0 n c been (upd ahead h ys) (p ++ [h]) left where
  bp := W.bp
  nd := W.nd
  rc := W.rc
  cl x hx := by
    by_cases e : x = h
    · subst e; have := W.cl x hx; rw [ha] at this; cases this
    · rw [upd_other _ _ e]; exact W.cl x hx
  got x z hz := by
    rcases W.got x z hz with h1 | h1
    · by_cases e : x = h
      · subst e; rw [ha] at h1; rw [upd_same]
        rcases List.mem_cons.1 h1 with rfl | h2
        · exact .inr hb
        · exact .inl h2
      · rw [upd_other _ _ e]; exact .inl h1
    · exact .inr h1
  sub x z hz := by
    by_cases e : x = h
    · subst e; rw [upd_same] at hz; exact W.sub x z (by rw [ha]; exact List.mem_cons_of_mem _ hz)
    · rw [upd_other _ _ e] at hz; exact W.sub x z hz
  cin := W.cin
  rg := W.rg

theorem WInv.enter {p : List Nat} {h y : Nat} {ys : List Nat} (W : WInv D A0 n c been ahead (p ++ [h]) left) (ha : ahead h = y :: ys) (hb : been y = false)
    (hD : ∀ x z, z ∈ A0 x → D z x) (hr : ∀ x z, z ∈ A0 x → 1 ≤ z ∧ z ≤ n) : WInv D A0 n c (upd been y true) (upd ahead h ys) (p ++ [h] ++ [y]) left where
  bp x := by
    by_cases e : x = y
    · subst e; simp [upd_same]
    · rw [upd_other _ _ e, W.bp x]; simp [e]
  nd := by
    have hn : y ∉ p ++ [h] ∧ y ∉ left := by
      refine ⟨fun hx => ?_, fun hx => ?_⟩
      · have := (W.bp y).2 (.inl hx); rw [hb] at this; cases this
      · have := (W.bp y).2 (.inr hx); rw [hb] at this; cases this
    have := W.nd
    rw [List.append_assoc (p ++ [h]) [y] left]
    have hp : ((p ++ [h]) ++ ([y] ++ left)).Perm ([y] ++ ((p ++ [h]) ++ left)) := by
      rw [← List.append_assoc, ← List.append_assoc]
      exact List.Perm.append_right left (List.perm_append_comm)
    rw [hp.nodup_iff]
    simp only [List.singleton_append, List.nodup_cons]
    refine ⟨?_, this⟩
    rw [List.mem_append]; exact fun h => h.elim hn.1 hn.2
  rc x hx := by
    by_cases e : x = y
    · subst e
      have h1 : Rch D c h := W.rc h (.inl (by simp))
      exact .step (hD h x (W.sub h x (by rw [ha]; simp))) h1
    · refine W.rc x ?_
      rcases hx with hx | hx
      · left; rcases List.mem_append.1 hx with h1 | h1
        · exact h1
        · simp at h1; exact absurd h1 e
      · exact .inr hx
  cl x hx := by
    by_cases e : x = h
    · subst e; have := W.cl x hx; rw [ha] at this; cases this
    · rw [upd_other _ _ e]; exact W.cl x hx
  got x z hz := by
    by_cases ez : z = y
    · subst ez; exact .inr (upd_same _ _ _)
    · rw [upd_other been _ ez]
      rcases W.got x z hz with h1 | h1
      · by_cases e : x = h
        · subst e; rw [ha] at h1; rw [upd_same]
          rcases List.mem_cons.1 h1 with h2 | h2
          · exact absurd h2 ez
          · exact .inl h2
        · rw [upd_other _ _ e]; exact .inl h1
      · exact .inr h1
  sub x z hz := by
    by_cases e : x = h
    · subst e; rw [upd_same] at hz; exact W.sub x z (by rw [ha]; exact List.mem_cons_of_mem _ hz)
    · rw [upd_other _ _ e] at hz; exact W.sub x z hz
  cin := by rcases W.cin with h1 | h1; exact .inl (List.mem_append_left _ h1); exact .inr h1
  rg x hx := by
    by_cases e : x = y
    · subst e; exact hr h x (W.sub h x (by rw [ha]; simp))
    · refine W.rg x ?_
      rcases hx with hx | hx
      · left; rcases List.mem_append.1 hx with h1 | h1
        · exact h1
        · simp at h1; exact absurd h1 e
      · exact .inr hx

theorem WInv.leave {p : List Nat} {h : Nat} (W : WInv D A0 n c been ahead (p ++ [h]) left) (ha : ahead h = []) : WInv D A0 n c been ahead p (left ++ [h]) where
  bp x := by rw [W.bp x]; simp only [List.mem_append, List.mem_singleton]; exact ⟨fun h => by rcases h with (h | h) | h <;> simp [h], fun h => by rcases h with h | h | h <;> simp [h]⟩
  nd := by
    have hp : (p ++ (left ++ [h])).Perm ((p ++ [h]) ++ left) := by
      rw [List.append_assoc]; exact List.Perm.append_left p List.perm_append_comm
    rw [hp.nodup_iff]; exact W.nd
  rc x hx := W.rc x (by rcases hx with h1 | h1; exact .inl (List.mem_append_left _ h1); rcases List.mem_append.1 h1 with h2 | h2; exact .inr h2; exact .inl (List.mem_append_right _ h2))
  cl x hx := by rcases List.mem_append.1 hx with h2 | h2; exact W.cl x h2; simp at h2; subst h2; exact ha
  got := W.got
  sub := W.sub
  cin := by rcases W.cin with h1 | h1; rcases List.mem_append.1 h1 with h2 | h2; exact .inl h2; exact .inr (List.mem_append_right _ h2); exact .inr (List.mem_append_left _ h1)
  rg x hx := W.rg x (by rcases hx with h1 | h1; exact .inl (List.mem_append_left _ h1); rcases List.mem_append.1 h1 with h2 | h2; exact .inr h2; exact .inl (List.mem_append_right _ h2))

theorem WInv.done (W : WInv D A0 n c been ahead [] left) (hA : ∀ x y, x ∈ left → D y x → y ∈ A0 x) : left.Nodup ∧ (∀ x, x ∈ left ↔ Rch D c x) ∧ ∀ x, x ∈ left → 1 ≤ x ∧ x ≤ n := by
  refine ⟨by simpa using W.nd, fun x => ⟨fun h => W.rc x (.inr h), fun h => ?_⟩, fun x h => W.rg x (.inr h)⟩
  induction h with
  | refl => simpa using W.cin
  | @step x y hd _ ih =>
    rcases W.got y x (hA y x ih hd) with h1 | h1
    · rw [W.cl y ih] at h1; cases h1
    · simpa using (W.bp x).1 h1
end

/-- How much is ahead, in all. -/
def sumA {α : Type} (ahead : Nat → List α) : Nat → Nat
  | 0 => 0
  | m + 1 => sumA ahead m + (ahead m).length
theorem sumA_other {α : Type} (ahead : Nat → List α) (h : Nat) (ys : List α) : ∀ m, m ≤ h → sumA (upd ahead h ys) m = sumA ahead m := by
  intro m hm
  induction m with
  | zero => rfl
  | succ m ih => simp only [sumA]; rw [ih (by omega), upd_other _ _ (by omega)]
theorem sumA_less {α : Type} (ahead : Nat → List α) (h : Nat) (y : α) (ys : List α) (ha : ahead h = y :: ys) : ∀ m, h < m → sumA (upd ahead h ys) m + 1 = sumA ahead m := by
  intro m hm
  induction m with
  | zero => omega
  | succ m ih =>
    simp only [sumA]
    by_cases e : m = h
    · subst e; rw [sumA_other _ _ _ _ (Nat.le_refl _), upd_same, ha]; simp; omega
    · rw [← ih (by omega), upd_other _ _ e]; omega

/-- Two rows in order that have the same numbers are the same. -/
theorem sorted_ext {l l' : List Nat} (h : l.Pairwise (· < ·)) (h' : l'.Pairwise (· < ·)) (he : ∀ x, x ∈ l ↔ x ∈ l') : l = l' := by
  have hn : l.Nodup := h.imp (fun {a b} hab => by omega)
  have hn' : l'.Nodup := h'.imp (fun {a b} hab => by omega)
  refine List.Perm.eq_of_pairwise (le := fun a b => a < b) (fun a b _ _ h1 h2 => by omega) h h' ?_
  exact (List.perm_ext_iff_of_nodup hn hn').2 he

/-- Rows of edges in order. -/
def eLt (a b : Nat × Nat) : Prop := a.1 < b.1 ∨ (a.1 = b.1 ∧ a.2 < b.2)
theorem edges_ext {l l' : List (Nat × Nat)} (h : l.Pairwise eLt) (h' : l'.Pairwise eLt) (he : ∀ x, x ∈ l ↔ x ∈ l') : l = l' := by
  have hi : ∀ a : Nat × Nat, ¬ eLt a a := fun a h => by unfold eLt at h; omega
  have hn : l.Nodup := h.imp (fun {a b} hab e => by subst e; exact hi _ hab)
  have hn' : l'.Nodup := h'.imp (fun {a b} hab e => by subst e; exact hi _ hab)
  refine List.Perm.eq_of_pairwise (le := eLt) (fun a b _ _ h1 h2 => ?_) h h' ?_
  · unfold eLt at h1 h2; omega
  · exact (List.perm_ext_iff_of_nodup hn hn').2 he

/-- The law's own rows: who bears on one, round by round. -/
def rstep (r : List Nat) (e : Nat × Nat) : List Nat := if e.2 ∈ r ∧ e.1 ∉ r then r ++ [e.1] else r
def rround (l : List (Nat × Nat)) (r : List Nat) : List Nat := l.foldl rstep r
def rrounds (l : List (Nat × Nat)) : Nat → List Nat → List Nat
  | 0, r => r
  | k + 1, r => rround l (rrounds l k r)

/-- All of it is good. -/
structure RG (D : Nat → Nat → Prop) (n c : Nat) (r : List Nat) : Prop where
  nd : r.Nodup
  cin : c ∈ r
  rc : ∀ x, x ∈ r → Rch D c x
  rg : ∀ x, x ∈ r → 1 ≤ x ∧ x ≤ n
theorem RG.step {D : Nat → Nat → Prop} {n c : Nat} {r : List Nat} (h : RG D n c r) {e : Nat × Nat} (hd : D e.1 e.2) (hr : 1 ≤ e.1 ∧ e.1 ≤ n) : RG D n c (rstep r e) := by
  unfold rstep
  split
  · rename_i k
    refine ⟨?_, by simp [h.cin], fun x hx => ?_, fun x hx => ?_⟩
    · rw [List.nodup_append]; exact ⟨h.nd, by simp, fun a ha b hb => by simp at hb; subst hb; exact fun e => k.2 (e ▸ ha)⟩
    · rcases List.mem_append.1 hx with h1 | h1
      · exact h.rc x h1
      · simp at h1; subst h1; exact .step hd (h.rc _ k.1)
    · rcases List.mem_append.1 hx with h1 | h1
      · exact h.rg x h1
      · simp at h1; subst h1; exact hr
  · exact h
theorem RG.round {D : Nat → Nat → Prop} {n c : Nat} {l : List (Nat × Nat)} (hl : ∀ e, e ∈ l → D e.1 e.2 ∧ 1 ≤ e.1 ∧ e.1 ≤ n) : ∀ {r : List Nat}, RG D n c r → RG D n c (rround l r) := by
  unfold rround
  induction l with
  | nil => intro r h; exact h
  | cons e l ih => intro r h; exact ih (fun x hx => hl x (List.mem_cons_of_mem _ hx)) (h.step (hl e (by simp)).1 (hl e (by simp)).2)
theorem RG.rounds {D : Nat → Nat → Prop} {n c : Nat} {l : List (Nat × Nat)} (hl : ∀ e, e ∈ l → D e.1 e.2 ∧ 1 ≤ e.1 ∧ e.1 ≤ n) {r : List Nat} (h : RG D n c r) : ∀ k, RG D n c (rrounds l k r) := by
  intro k
  induction k with
  | zero => exact h
  | succ k ih => exact RG.round hl ih
theorem rstep_len (r : List Nat) (e : Nat × Nat) : r.length ≤ (rstep r e).length := by unfold rstep; split <;> simp
theorem rround_len (l : List (Nat × Nat)) : ∀ r : List Nat, r.length ≤ (rround l r).length := by
  unfold rround
  induction l with
  | nil => intro r; exact Nat.le_refl _
  | cons e l ih => intro r; exact Nat.le_trans (rstep_len r e) (ih _)
theorem rround_same (l : List (Nat × Nat)) : ∀ r : List Nat, (rround l r).length = r.length → rround l r = r ∧ ∀ e, e ∈ l → e.2 ∈ r → e.1 ∈ r := by
  induction l with
  | nil => intro r _; exact ⟨rfl, fun e h => by cases h⟩
  | cons e l ih =>
    intro r h
    have h0 : rround (e :: l) r = rround l (rstep r e) := rfl
    have h1 := rround_len l (rstep r e)
    have h2 := rstep_len r e
    rw [h0] at h
    have h3 : rstep r e = r := by
      unfold rstep at h1 h ⊢
      split
      · rename_i k; rw [if_pos k] at h1 h; simp at h1; omega
      · rfl
    rw [h3] at h
    obtain ⟨q1, q2⟩ := ih r h
    refine ⟨by rw [h0, h3, q1], fun x hx hx2 => ?_⟩
    rcases List.mem_cons.1 hx with rfl | hx
    · by_cases k : x.1 ∈ r
      · exact k
      · unfold rstep at h3
        rw [if_pos ⟨hx2, k⟩] at h3
        have := congrArg List.length h3; simp at this
    · exact q2 x hx hx2
theorem rrounds_grow (l : List (Nat × Nat)) (r : List Nat) (hr : 1 ≤ r.length) : ∀ k, k + 1 ≤ (rrounds l k r).length ∨ rround l (rrounds l k r) = rrounds l k r := by
  intro k
  induction k with
  | zero => exact .inl hr
  | succ k ih =>
    rcases ih with ih | ih
    · by_cases e : (rround l (rrounds l k r)).length = (rrounds l k r).length
      · right
        have h := (rround_same l _ e).1
        show rround l (rround l (rrounds l k r)) = rround l (rrounds l k r)
        rw [h, h]
      · left
        have := rround_len l (rrounds l k r)
        show k + 1 + 1 ≤ (rround l (rrounds l k r)).length
        omega
    · right
      show rround l (rround l (rrounds l k r)) = rround l (rrounds l k r)
      rw [ih, ih]
theorem nodup_le : ∀ {n : Nat} {l : List Nat}, l.Nodup → (∀ x, x ∈ l → 1 ≤ x ∧ x ≤ n) → l.length ≤ n := by
  intro n
  induction n with
  | zero =>
    intro l _ hr
    cases l with
    | nil => simp
    | cons a l => have := hr a (by simp); omega
  | succ n ih =>
    intro l h hr
    by_cases hm : n + 1 ∈ l
    · have h1 := ih (l := l.erase (n + 1)) (h.erase _) (fun x hx => by
        have hx' := (h.mem_erase_iff).1 hx
        have := hr x hx'.2; have := hx'.1; omega)
      rw [List.length_erase_of_mem hm] at h1; omega
    · have h1 := ih (l := l) h (fun x hx => by
        have := hr x hx
        have : x ≠ n + 1 := fun e => hm (e ▸ hx)
        omega)
      omega
/-- Behind n rounds all that bear on it are there. -/
theorem rrounds_all {D : Nat → Nat → Prop} {n c : Nat} {l : List (Nat × Nat)} (hl : ∀ e : Nat × Nat, e ∈ l ↔ D e.1 e.2) (hn : ∀ x y, D x y → 1 ≤ x ∧ x ≤ n) (hc : 1 ≤ c ∧ c ≤ n) :
    (rrounds l n [c]).Nodup ∧ ∀ x, x ∈ rrounds l n [c] ↔ Rch D c x := by
  have h0 : RG D n c [c] := ⟨by simp, by simp, fun x hx => by simp at hx; subst hx; exact .refl, fun x hx => by simp at hx; subst hx; exact hc⟩
  have hG := RG.rounds (l := l) (fun e he => ⟨(hl e).1 he, hn _ _ ((hl e).1 he)⟩) h0 n
  refine ⟨hG.nd, fun x => ⟨hG.rc x, fun h => ?_⟩⟩
  have hs : rround l (rrounds l n [c]) = rrounds l n [c] := by
    rcases rrounds_grow l [c] (by simp) n with h1 | h1
    · have := nodup_le hG.nd hG.rg; omega
    · exact h1
  have hcl := (rround_same l _ (by rw [hs])).2
  induction h with
  | refl => exact hG.cin
  | @step x y hd _ ih => exact hcl (x, y) ((hl (x, y)).2 hd) ih
end Go.Proofs.Ythgpcmickgcdhaa
