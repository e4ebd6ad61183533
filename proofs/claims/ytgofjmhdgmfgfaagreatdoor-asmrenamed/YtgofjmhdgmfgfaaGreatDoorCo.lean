import Derived.Test.YtgofjmhdgmfgfaaGreatDoorCi
namespace Go.Proofs.YtgofjmhdgmfgfaaGreatDoor
open Go.ChangeShapes Go.WideShapes Go.ChangeAt Go.RowKit
set_option linter.unusedVariables false

theorem rg_chars : ∀ r : Fin 16, ∀ c ∈ rgT r.val, isWd c.toNat = true ∧ c ≠ 10 ∧ c ≠ 35 := by decide +kernel
/-- A register ahead of what is no word. -/
theorem first_rg (k : Nat) (hk : k < 16) (r : List UInt8) (hr : ∀ x, r.head? = some x → isWd x.toNat = false) : firstT (rgT k ++ r) = some ⟨1, rgT k, 0⟩ :=
  first_wd (c := 114) (l := Lib.itoa (k : Int)) (r := r) (by decide) (by decide) (by decide) (fun c hc => (rg_chars ⟨k, hk⟩ c hc).1) hr
theorem nm_chars : ∀ k : Fin 49, 0 < k.val → ∃ c l, nmTab.getD k.val [] = c :: l ∧ Lib.indexByte [44, 58, 40, 41] c < 0 ∧ c ≠ 45 ∧ isDg c.toNat = false ∧ ∀ x ∈ c :: l, isWd x.toNat = true ∧ x ≠ 10 ∧ x ≠ 35 := by
  have h : ∀ k : Fin 49, 0 < k.val → (match nmTab.getD k.val [] with
      | [] => false
      | c :: l => decide (Lib.indexByte [44, 58, 40, 41] c < 0) && decide (c ≠ 45) && !isDg c.toNat && (c :: l).all (fun x => isWd x.toNat && decide (x ≠ 10) && decide (x ≠ 35))) = true := by decide +kernel
  intro k hk
  have h1 := h k hk
  split at h1
  · cases h1
  next c l e =>
    simp only [Bool.and_eq_true, decide_eq_true_eq, Bool.not_eq_true', List.all_eq_true] at h1
    obtain ⟨⟨⟨a, b⟩, d⟩, f⟩ := h1
    exact ⟨c, l, e, a, b, d, fun x hx => ⟨(f x hx).1.1, (f x hx).1.2, (f x hx).2⟩⟩
/-- A name ahead of what is no word. -/
theorem first_nm (k : Nat) (h0 : 0 < k) (hk : k < 49) (r : List UInt8) (hr : ∀ x, r.head? = some x → isWd x.toNat = false) : firstT (nmTab.getD k [] ++ r) = some ⟨1, nmTab.getD k [], 0⟩ := by
  obtain ⟨c, l, e, a, b, d, f⟩ := nm_chars ⟨k, hk⟩ h0
  rw [show nmTab.getD k [] = c :: l from e]
  exact first_wd a b d (fun x hx => (f x hx).1) hr
end Go.Proofs.YtgofjmhdgmfgfaaGreatDoor
namespace Go.Proofs.YtgofjmhdgmfgfaaGreatDoor
open Go.ChangeShapes Go.WideShapes Go.ChangeAt Go.RowKit
set_option linter.unusedVariables false

theorem rgF_rg : ∀ r : Fin 16, rgF (rgT r.val) = some r.val := by decide +kernel
/-- What stands at a line's end once the comment is cut away. -/
def isTl (r : List UInt8) : Prop := r = [] ∨ r = [32]
theorem isTl.wd {r : List UInt8} (h : isTl r) : ∀ x, r.head? = some x → isWd x.toNat = false := by
  rcases h with rfl | rfl
  · intro x h; cases h
  · intro x h
    obtain rfl : 32 = x := by simpa using h
    decide
theorem isTl.trim {r : List UInt8} (h : isTl r) : Lib.trimLeftS r [32, 9] = [] := by
  rcases h with rfl | rfl <;> rfl
theorem rg_ne (k : Nat) : rgT k ≠ [] := by intro h; cases h
theorem it_ne (n : Int) : Lib.itoa n ≠ [] := by
  unfold Lib.itoa
  split
  · intro h; cases h
  · obtain ⟨c, l, e, -⟩ := dec_head n.toNat
    rw [e]; intro h; cases h
theorem tok_rg_end (k : Nat) (hk : k < 16) (r : List UInt8) (hr : isTl r) : TokOf (rgT k ++ r) [⟨1, rgT k, 0⟩] :=
  TokOf.cons (rg_ne k) (first_rg k hk r hr.wd) rfl (by rw [hr.trim]; exact TokOf.nil)
theorem tok_nu_end (n : Int) (h0 : -1099511627776 ≤ n) (h1 : n ≤ 1099511627776) (r : List UInt8) (hr : isTl r) : TokOf (Lib.itoa n ++ r) [⟨2, Lib.itoa n, n⟩] :=
  TokOf.cons (it_ne n) (first_num n h0 h1 r hr.wd) rfl (by rw [hr.trim]; exact TokOf.nil)
/-- A sign ahead. -/
theorem tok_sg {c : UInt8} (hs : 0 ≤ Lib.indexByte [44, 58, 40, 41] c) {r r' : List UInt8} {ts : List Tk} (e : Lib.trimLeftS r [32, 9] = r') (h : TokOf r' ts) : TokOf ([c] ++ r) (⟨3, [c], 0⟩ :: ts) :=
  TokOf.cons (by simp) (first_sg hs) rfl (by rw [e]; exact h)
/-- A register, a comma. -/
theorem tok_rg (k : Nat) (hk : k < 16) (r : List UInt8) (ts : List Tk) (hr : Lib.trimLeftS r [32, 9] = r) (h : TokOf r ts) : TokOf (rgT k ++ ([44] ++ (32 :: r))) (⟨1, rgT k, 0⟩ :: ⟨3, [44], 0⟩ :: ts) := by
  refine TokOf.cons (rg_ne k) (first_rg k hk _ (fun x h => ?_)) rfl ?_
  · obtain rfl : 44 = x := by simpa using h
    decide
  · have e : Lib.trimLeftS ([44] ++ (32 :: r)) [32, 9] = [44] ++ (32 :: r) := rfl
    rw [e]
    refine tok_sg (by decide) ?_ h
    show Lib.trimLeftS r [32, 9] = r
    exact hr
end Go.Proofs.YtgofjmhdgmfgfaaGreatDoor
namespace Go.Proofs.YtgofjmhdgmfgfaaGreatDoor
open Go.ChangeShapes Go.WideShapes Go.ChangeAt Go.RowKit
set_option linter.unusedVariables false

theorem trim_rg (k : Nat) (r : List UInt8) : Lib.trimLeftS (rgT k ++ r) [32, 9] = rgT k ++ r := rfl
theorem trim_it (n : Int) (r : List UInt8) : Lib.trimLeftS (Lib.itoa n ++ r) [32, 9] = Lib.itoa n ++ r := by
  have key : ∃ c l, Lib.itoa n = c :: l ∧ ([32, 9] : List UInt8).contains c = false := by
    unfold Lib.itoa
    split
    · exact ⟨_, _, rfl, by decide⟩
    · obtain ⟨c, l, e, -⟩ := dec_head n.toNat
      refine ⟨c, l, e, ?_⟩
      have hc := (dec_chars n.toNat c (by rw [e]; simp)).2.1
      cases hq : ([32, 9] : List UInt8).contains c with
      | false => rfl
      | true =>
        have : c = 32 ∨ c = 9 := by simpa using hq
        rcases this with rfl | rfl <;> revert hc <;> decide
  obtain ⟨c, l, e, hc⟩ := key
  rw [e]
  show List.dropWhile (fun x => ([32, 9] : List UInt8).contains x) (c :: (l ++ r)) = c :: (l ++ r)
  rw [List.dropWhile_cons_of_neg (by rw [hc]; decide)]
/-- A place in memory. -/
theorem tok_mb (a : Nat) (ha : a < 16) (n : Int) (h0 : -1099511627776 ≤ n) (h1 : n ≤ 1099511627776) (r : List UInt8) (hr : isTl r) :
    TokOf (Lib.itoa n ++ ([40] ++ (rgT a ++ ([41] ++ r)))) [⟨2, Lib.itoa n, n⟩, ⟨3, [40], 0⟩, ⟨1, rgT a, 0⟩, ⟨3, [41], 0⟩] := by
  refine TokOf.cons (it_ne n) (first_num n h0 h1 _ (fun x h => ?_)) rfl ?_
  · obtain rfl : 40 = x := by simpa using h
    decide
  · rw [show Lib.trimLeftS ([40] ++ (rgT a ++ ([41] ++ r))) [32, 9] = [40] ++ (rgT a ++ ([41] ++ r)) from rfl]
    refine tok_sg (by decide) (trim_rg a _) ?_
    refine TokOf.cons (rg_ne a) (first_rg a ha _ (fun x h => ?_)) rfl ?_
    · obtain rfl : 41 = x := by simpa using h
      decide
    · rw [show Lib.trimLeftS ([41] ++ r) [32, 9] = [41] ++ r from rfl]
      exact tok_sg (by decide) hr.trim TokOf.nil
end Go.Proofs.YtgofjmhdgmfgfaaGreatDoor
namespace Go.Proofs.YtgofjmhdgmfgfaaGreatDoor
open Go.ChangeShapes Go.WideShapes Go.ChangeAt Go.RowKit
set_option linter.unusedVariables false

def tR (k : Nat) : Tk := ⟨1, rgT k, 0⟩
def tC : Tk := ⟨3, [44], 0⟩
def tN (n : Int) : Tk := ⟨2, Lib.itoa n, n⟩
def tM (a : Nat) (n : Int) : List Tk := [⟨2, Lib.itoa n, n⟩, ⟨3, [40], 0⟩, ⟨1, rgT a, 0⟩, ⟨3, [41], 0⟩]
/-- The operands' tokens. -/
def otF (f t : Nat) (d a b : Nat) (n : Int) : List Tk :=
  if f = 1 then [tR d, tC, tR a, tC, tR b] else if f = 2 then (if t = 2 then tR d :: tC :: tM a n else [tR d, tC, tR a, tC, tN n]) else if f = 3 then (if t = 2 then tR b :: tC :: tM a n else [tR a, tC, tR b, tC, tN n])
  else if f = 4 then [tR d, tC, tN n] else if f = 5 then [tR d] else if f = 6 then [tR a] else if f = 7 then [tN n] else []
theorem tok_ops (f t d a b : Nat) (n : Int) (hd : d < 16) (ha : a < 16) (hb : b < 16) (h0 : -1099511627776 ≤ n) (h1 : n ≤ 1099511627776) (r : List UInt8) (hr : isTl r) (hne : olF f t d a b n ≠ []) :
    TokOf (Lib.join (olF f t d a b n) [44, 32] ++ r) (otF f t d a b n) := by
  have j3 : ∀ x y z : List UInt8, Lib.join [x, y, z] [44, 32] ++ r = x ++ ([44] ++ (32 :: (y ++ ([44] ++ (32 :: (z ++ r)))))) := fun x y z => by simp [Lib.join, List.intercalate]
  have j2 : ∀ x y : List UInt8, Lib.join [x, y] [44, 32] ++ r = x ++ ([44] ++ (32 :: (y ++ r))) := fun x y => by simp [Lib.join, List.intercalate]
  have j1 : ∀ x : List UInt8, Lib.join [x] [44, 32] ++ r = x ++ r := fun x => by simp [Lib.join, List.intercalate]
  have jm : mbT a n ++ r = Lib.itoa n ++ ([40] ++ (rgT a ++ ([41] ++ r))) := by simp [mbT]
  unfold olF at hne ⊢
  unfold otF
  split
  · rw [j3]; exact tok_rg d hd _ _ (trim_rg a _) (tok_rg a ha _ _ (trim_rg b _) (tok_rg_end b hb r hr))
  split
  · split
    · rw [j2, jm]; exact tok_rg d hd _ _ (trim_it n _) (tok_mb a ha n h0 h1 r hr)
    · rw [j3]; exact tok_rg d hd _ _ (trim_rg a _) (tok_rg a ha _ _ (trim_it n _) (tok_nu_end n h0 h1 r hr))
  split
  · split
    · rw [j2, jm]; exact tok_rg b hb _ _ (trim_it n _) (tok_mb a ha n h0 h1 r hr)
    · rw [j3]; exact tok_rg a ha _ _ (trim_rg b _) (tok_rg b hb _ _ (trim_it n _) (tok_nu_end n h0 h1 r hr))
  split
  · rw [j2]; exact tok_rg d hd _ _ (trim_it n _) (tok_nu_end n h0 h1 r hr)
  split
  · rw [j1]; exact tok_rg_end d hd r hr
  split
  · rw [j1]; exact tok_rg_end a ha r hr
  split
  · rw [j1]; exact tok_nu_end n h0 h1 r hr
  · simp_all
end Go.Proofs.YtgofjmhdgmfgfaaGreatDoor
namespace Go.Proofs.YtgofjmhdgmfgfaaGreatDoor
open Go.ChangeShapes Go.WideShapes Go.ChangeAt Go.RowKit
set_option linter.unusedVariables false

/-- Operands open with no blank. -/
theorem trim_ops (f t d a b : Nat) (n : Int) (r : List UInt8) (hne : olF f t d a b n ≠ []) : Lib.trimLeftS (Lib.join (olF f t d a b n) [44, 32] ++ r) [32, 9] = Lib.join (olF f t d a b n) [44, 32] ++ r := by
  have j3 : ∀ x y z : List UInt8, Lib.join [x, y, z] [44, 32] ++ r = x ++ ([44] ++ (32 :: (y ++ ([44] ++ (32 :: (z ++ r)))))) := fun x y z => by simp [Lib.join, List.intercalate]
  have j2 : ∀ x y : List UInt8, Lib.join [x, y] [44, 32] ++ r = x ++ ([44] ++ (32 :: (y ++ r))) := fun x y => by simp [Lib.join, List.intercalate]
  have j1 : ∀ x : List UInt8, Lib.join [x] [44, 32] ++ r = x ++ r := fun x => by simp [Lib.join, List.intercalate]
  unfold olF at hne ⊢
  split
  · rw [j3]; exact trim_rg d _
  split
  · split
    · rw [j2]; exact trim_rg d _
    · rw [j3]; exact trim_rg d _
  split
  · split
    · rw [j2]; exact trim_rg b _
    · rw [j3]; exact trim_rg a _
  split
  · rw [j2]; exact trim_rg d _
  split
  · rw [j1]; exact trim_rg d _
  split
  · rw [j1]; exact trim_rg a _
  split
  · rw [j1]; exact trim_it n _
  · simp_all
theorem ot_nil (f t d a b : Nat) (n : Int) (h : olF f t d a b n = []) : otF f t d a b n = [] := by
  unfold olF at h
  unfold otF
  by_cases f1 : f = 1
  · rw [if_pos f1] at h; cases h
  rw [if_neg f1] at h ⊢
  by_cases f2 : f = 2
  · rw [if_pos f2] at h; split at h <;> cases h
  rw [if_neg f2] at h ⊢
  by_cases f3 : f = 3
  · rw [if_pos f3] at h; split at h <;> cases h
  rw [if_neg f3] at h ⊢
  by_cases f4 : f = 4
  · rw [if_pos f4] at h; cases h
  rw [if_neg f4] at h ⊢
  by_cases f5 : f = 5
  · rw [if_pos f5] at h; cases h
  rw [if_neg f5] at h ⊢
  by_cases f6 : f = 6
  · rw [if_pos f6] at h; cases h
  rw [if_neg f6] at h ⊢
  by_cases f7 : f = 7
  · rw [if_pos f7] at h; cases h
  rw [if_neg f7]
/-- The tokens of an instruction's text. -/
theorem tok_tx (op : Int) (d a b : Nat) (n : Int) (h : ck op d a b n = 0) (r : List UInt8) (hr : isTl r) : TokOf (tx op d a b n ++ r) (⟨1, nm op, 0⟩ :: otF (fo op) (tk op) d a b n) := by
  obtain ⟨h0, h1, h2⟩ := ck_zero h
  have hop := (isO_iff op).1 h0
  obtain ⟨hd, ha, hb⟩ := ck_regs h
  obtain ⟨n0, n1⟩ := ck_imm h
  have hk0 : 0 < op.toNat := by omega
  have hk1 : op.toNat < 49 := by omega
  unfold tx
  rw [if_pos h, List.append_assoc]
  show TokOf (nmTab.getD op.toNat [] ++ (opT (ol op d a b n) ++ r)) (⟨1, nmTab.getD op.toNat [], 0⟩ :: otF (fo op) (tk op) d a b n)
  have hne : nmTab.getD op.toNat [] ≠ [] := by
    obtain ⟨c, l, e, _⟩ := nm_chars ⟨op.toNat, hk1⟩ hk0
    rw [show nmTab.getD op.toNat [] = c :: l from e]
    simp
  unfold opT ol
  by_cases hz : olF (fo op) (tk op) d a b n = []
  · rw [if_pos hz, ot_nil _ _ _ _ _ _ hz, List.nil_append]
    exact TokOf.cons hne (first_nm op.toNat hk0 hk1 _ hr.wd) rfl (by rw [hr.trim]; exact TokOf.nil)
  · rw [if_neg hz]
    refine TokOf.cons hne (first_nm op.toNat hk0 hk1 _ (fun x hx => ?_)) rfl ?_
    · obtain rfl : 32 = x := by simpa using hx
      decide
    · rw [show Lib.trimLeftS (32 :: Lib.join (olF (fo op) (tk op) d a b n) [44, 32] ++ r) [32, 9] = Lib.trimLeftS (Lib.join (olF (fo op) (tk op) d a b n) [44, 32] ++ r) [32, 9] from rfl, trim_ops _ _ _ _ _ _ _ hz]
      exact tok_ops _ _ _ _ _ _ hd ha hb (by omega) (by omega) r hr hz
/-! No sign of a comment, no newline. -/
def Pl (l : List UInt8) : Prop := ∀ c ∈ l, c ≠ 10 ∧ c ≠ 35
theorem Pl.nil : Pl [] := fun c h => by cases h
theorem Pl.app {l r : List UInt8} (hl : Pl l) (hr : Pl r) : Pl (l ++ r) := fun c hc => by
  rcases List.mem_append.1 hc with h | h
  · exact hl c h
  · exact hr c h
theorem Pl.cons {c : UInt8} {r : List UInt8} (h : c ≠ 10 ∧ c ≠ 35) (hr : Pl r) : Pl (c :: r) := fun x hx => by
  rcases List.mem_cons.1 hx with rfl | hx
  · exact h
  · exact hr x hx
theorem pl_rg (k : Nat) (hk : k < 16) : Pl (rgT k) := fun c hc => (rg_chars ⟨k, hk⟩ c hc).2
theorem pl_it (n : Int) : Pl (Lib.itoa n) := by
  unfold Lib.itoa
  split
  · exact Pl.cons (by decide) (fun c hc => (dec_chars _ c hc).2.2)
  · exact fun c hc => (dec_chars _ c hc).2.2
theorem pl_mb (a : Nat) (ha : a < 16) (n : Int) : Pl (mbT a n) :=
  Pl.app (Pl.app (Pl.app (pl_it n) (Pl.cons (by decide) Pl.nil)) (pl_rg a ha)) (Pl.cons (by decide) Pl.nil)
theorem pl_ops (f t d a b : Nat) (n : Int) (hd : d < 16) (ha : a < 16) (hb : b < 16) : Pl (Lib.join (olF f t d a b n) [44, 32]) := by
  have j3 : ∀ x y z : List UInt8, Pl x → Pl y → Pl z → Pl (Lib.join [x, y, z] [44, 32]) := fun x y z hx hy hz => by
    have : Lib.join [x, y, z] [44, 32] = x ++ (44 :: (32 :: (y ++ (44 :: (32 :: z))))) := by simp [Lib.join, List.intercalate]
    rw [this]
    exact hx.app (Pl.cons (by decide) (Pl.cons (by decide) (hy.app (Pl.cons (by decide) (Pl.cons (by decide) hz)))))
  have j2 : ∀ x y : List UInt8, Pl x → Pl y → Pl (Lib.join [x, y] [44, 32]) := fun x y hx hy => by
    have : Lib.join [x, y] [44, 32] = x ++ (44 :: (32 :: y)) := by simp [Lib.join, List.intercalate]
    rw [this]
    exact hx.app (Pl.cons (by decide) (Pl.cons (by decide) hy))
  have j1 : ∀ x : List UInt8, Pl x → Pl (Lib.join [x] [44, 32]) := fun x hx => by
    have : Lib.join [x] [44, 32] = x := by simp [Lib.join, List.intercalate]
    rw [this]
    exact hx
  unfold olF
  split
  · exact j3 _ _ _ (pl_rg d hd) (pl_rg a ha) (pl_rg b hb)
  split
  · split
    · exact j2 _ _ (pl_rg d hd) (pl_mb a ha n)
    · exact j3 _ _ _ (pl_rg d hd) (pl_rg a ha) (pl_it n)
  split
  · split
    · exact j2 _ _ (pl_rg b hb) (pl_mb a ha n)
    · exact j3 _ _ _ (pl_rg a ha) (pl_rg b hb) (pl_it n)
  split
  · exact j2 _ _ (pl_rg d hd) (pl_it n)
  split
  · exact j1 _ (pl_rg d hd)
  split
  · exact j1 _ (pl_rg a ha)
  split
  · exact j1 _ (pl_it n)
  · exact Pl.nil
theorem pl_tx (op : Int) (d a b : Nat) (n : Int) (h : ck op d a b n = 0) : Pl (tx op d a b n) := by
  obtain ⟨h0, h1, h2⟩ := ck_zero h
  have hop := (isO_iff op).1 h0
  obtain ⟨hd, ha, hb⟩ := ck_regs h
  have hk0 : 0 < op.toNat := by omega
  have hk1 : op.toNat < 49 := by omega
  obtain ⟨c, l, e, _, _, _, f⟩ := nm_chars ⟨op.toNat, hk1⟩ hk0
  unfold tx
  rw [if_pos h]
  refine Pl.app ?_ ?_
  · show Pl (nmTab.getD op.toNat [])
    rw [show nmTab.getD op.toNat [] = c :: l from e]
    exact fun x hx => (f x hx).2
  · unfold opT
    split
    · exact Pl.nil
    · exact Pl.cons (by decide) (pl_ops _ _ _ _ _ _ hd ha hb)
theorem idx_at (l r : List UInt8) (c : UInt8) (h : c ∉ l) : Lib.index (l ++ c :: r) [c] = (l.length : Int) := by
  induction l with
  | nil => simp [Lib.index, List.isPrefixOf]
  | cons b l ih =>
    simp only [List.mem_cons, not_or] at h
    have := ih h.2
    show Lib.index (b :: (l ++ c :: r)) [c] = _
    rw [Lib.index, if_neg (by simpa [List.isPrefixOf] using h.1), this, if_neg (by simp)]
    simp
theorem cut_at (l r : List UInt8) (h : (35 : UInt8) ∉ l) : (Lib.cut (l ++ 35 :: r) [35]).1 = l := by
  have e := idx_at l r 35 h
  unfold Lib.cut
  rw [e, if_pos (by omega)]
  show List.take ((l.length : Int)).toNat (l ++ 35 :: r) = l
  rw [Int.toNat_natCast, List.take_left]
theorem trim_tx (op : Int) (d a b : Nat) (n : Int) (h : ck op d a b n = 0) (r : List UInt8) : Lib.trimLeftS (tx op d a b n ++ r) [32, 9] = tx op d a b n ++ r := by
  obtain ⟨h0, h1, h2⟩ := ck_zero h
  have hop := (isO_iff op).1 h0
  have hk0 : 0 < op.toNat := by omega
  have hk1 : op.toNat < 49 := by omega
  obtain ⟨c, l, e, _, _, _, f⟩ := nm_chars ⟨op.toNat, hk1⟩ hk0
  have hc := (f c (List.mem_cons_self)).1
  have hq : ([32, 9] : List UInt8).contains c = false := by
    cases hq : ([32, 9] : List UInt8).contains c with
    | false => rfl
    | true =>
      have : c = 32 ∨ c = 9 := by simpa using hq
      rcases this with rfl | rfl <;> revert hc <;> decide
  unfold tx
  rw [if_pos h]
  show Lib.trimLeftS (nmTab.getD op.toNat [] ++ opT (ol op d a b n) ++ r) [32, 9] = nmTab.getD op.toNat [] ++ opT (ol op d a b n) ++ r
  rw [show nmTab.getD op.toNat [] = c :: l from e]
  show List.dropWhile (fun x => ([32, 9] : List UInt8).contains x) (c :: (l ++ opT (ol op d a b n) ++ r)) = c :: (l ++ opT (ol op d a b n) ++ r)
  rw [List.dropWhile_cons_of_neg (by rw [hq]; decide)]
/-- The tokens of the line of an instruction. -/
theorem line_tx (op : Int) (d a b : Nat) (n : Int) (h : ck op d a b n = 0) : lineT (tx op d a b n) = some (⟨1, nm op, 0⟩ :: otF (fo op) (tk op) d a b n) := by
  unfold lineT
  rw [cut_none _ (fun hc => (pl_tx op d a b n h 35 hc).2 rfl)]
  have h1 := trim_tx op d a b n h []
  have h2 := tok_tx op d a b n h [] (.inl rfl)
  rw [List.append_nil] at h1 h2
  rw [h1]
  exact h2 _ (Nat.le_refl _)
theorem line_txc (op : Int) (d a b : Nat) (n : Int) (h : ck op d a b n = 0) (q : List UInt8) : lineT (tx op d a b n ++ [32, 35, 32] ++ q) = some (⟨1, nm op, 0⟩ :: otF (fo op) (tk op) d a b n) := by
  unfold lineT
  have e : tx op d a b n ++ [32, 35, 32] ++ q = (tx op d a b n ++ [32]) ++ 35 :: (32 :: q) := by simp
  have hp : Pl (tx op d a b n ++ [32]) := (pl_tx op d a b n h).app (Pl.cons (by decide) Pl.nil)
  rw [e, cut_at _ _ (fun hc => (hp 35 hc).2 rfl), trim_tx op d a b n h [32]]
  exact tok_tx op d a b n h [32] (.inr rfl) _ (by simp only [List.length_append]; omega)
end Go.Proofs.YtgofjmhdgmfgfaaGreatDoor
namespace Go.Proofs.YtgofjmhdgmfgfaaGreatDoor
open Go.ChangeShapes Go.WideShapes Go.ChangeAt Go.RowKit
set_option linter.unusedVariables false

theorem shp_tab : ∀ k : Fin 49, shp (k.val : Int) = if tkTab.getD k.val 0 = 2 then (if fmTab.getD k.val 0 = 2 then [68, 44, 86, 40, 65, 41] else [66, 44, 86, 40, 65, 41]) else shTb.getD (fmTab.getD k.val 0) [] := by decide +kernel
theorem nm_stat : ∀ k : Fin 49, 0 < k.val → nmTab.getD k.val [] ≠ [46, 111, 114, 103] ∧ nmTab.getD k.val [] ≠ [46, 119, 111, 114, 100] ∧ stF (nmTab.getD k.val []) = none ∧ opNum (nmTab.getD k.val []) = some k.val := by decide +kernel
theorem ck_parts {op : Int} {d a b : Nat} {n : Int} (h : ck op d a b n = 0) : (lD (fo op) = 0 → d = 0) ∧ (lA (fo op) = 0 → a = 0) ∧ (lB (fo op) = 0 → b = 0) := by
  obtain ⟨_, h1, _⟩ := ck_zero h
  have hm : (rm d (lD (fo op)) = true ∧ rm a (lA (fo op)) = true) ∧ rm b (lB (fo op)) = true := by simpa [rms] using h1
  have key : ∀ r p, rm r p = true → p = 0 → r = 0 := fun r p hr hp => by
    unfold rm at hr
    rw [if_pos hp] at hr
    simpa using hr
  exact ⟨key _ _ hm.1.1, key _ _ hm.1.2, key _ _ hm.2⟩
theorem ck_num {op : Int} {d a b : Nat} {n : Int} (h : ck op d a b n = 0) (ht : tk op = 0) : n = 0 := by
  obtain ⟨_, _, h2⟩ := ck_zero h
  have hn : lo op ≤ n ∧ n ≤ hi op := by simpa [im] using h2
  simp [lo, loF, hi, hiF, ht] at hn
  omega
theorem rg_ok (k : Nat) (hk : k < 16) : rgF (rgT k) = some k := rgF_rg ⟨k, hk⟩
/-- Operands that are read as they were written. -/
theorem ops_ok (op : Int) (d a b : Nat) (n : Int) (h : ck op d a b n = 0) : opsM (shp op) 0 0 0 ([], 0) (otF (fo op) (tk op) d a b n) = some (d, a, b, ([], n), []) := by
  obtain ⟨h0, h1, h2⟩ := ck_zero h
  have hop := (isO_iff op).1 h0
  obtain ⟨hd, ha, hb⟩ := ck_regs h
  obtain ⟨zd, za, zb⟩ := ck_parts h
  have zn := ck_num h
  have hs : shp op = if tk op = 2 then (if fo op = 2 then [68, 44, 86, 40, 65, 41] else [66, 44, 86, 40, 65, 41]) else shTb.getD (fo op) [] := by
    have := shp_tab ⟨op.toNat, by omega⟩
    rw [show (((⟨op.toNat, by omega⟩ : Fin 49).val : Nat) : Int) = op by show ((op.toNat : Nat) : Int) = op; omega] at this
    exact this
  rw [hs]
  have rd := rg_ok d hd
  have ra := rg_ok a ha
  have rb := rg_ok b hb
  have hp := op_pairs h0
  unfold PP at hp
  rcases hp with ⟨hf, ht⟩ | ⟨hf, ht⟩ | ⟨hf, ht⟩ | ⟨hf, ht⟩ | ⟨hf, ht⟩ | ⟨hf, ht⟩ | ⟨hf, ht⟩ | ⟨hf, ht⟩ | ⟨hf, ht⟩ | ⟨hf, ht⟩ | ⟨hf, ht⟩ | ⟨hf, ht⟩ | ⟨hf, ht⟩
  all_goals
    rw [hf] at zd za zb
    rw [ht] at zn
    simp [lD, lA, lB, lDTab, lATab, lBTab] at zd za zb zn
    rw [hf, ht]
    simp [otF, shTb, opsM, tR, tC, tN, tM, valT, rd, ra, rb, zd, za, zb, zn]
theorem it_colon (n : Int) : Lib.itoa n ≠ [58] := by
  intro e
  have h := first_num n
  unfold Lib.itoa at e
  split at e
  · cases e
  · have := (dec_chars n.toNat 58 (by rw [e]; simp)).1
    revert this
    decide
theorem rg_colon (k : Nat) : rgT k ≠ [58] := by intro e; cases e
theorem ot_colon (f t d a b : Nat) (n : Int) : otF f t d a b n = [] ∨ ∃ y r, otF f t d a b n = y :: r ∧ y.t ≠ [58] := by
  unfold otF
  split
  · exact .inr ⟨_, _, rfl, rg_colon d⟩
  split
  · split
    · exact .inr ⟨_, _, rfl, rg_colon d⟩
    · exact .inr ⟨_, _, rfl, rg_colon d⟩
  split
  · split
    · exact .inr ⟨_, _, rfl, rg_colon b⟩
    · exact .inr ⟨_, _, rfl, rg_colon a⟩
  split
  · exact .inr ⟨_, _, rfl, rg_colon d⟩
  split
  · exact .inr ⟨_, _, rfl, rg_colon d⟩
  split
  · exact .inr ⟨_, _, rfl, rg_colon a⟩
  split
  · exact .inr ⟨_, _, rfl, it_colon n⟩
  · exact .inl rfl
theorem ot_len (f t d a b : Nat) (n : Int) : (otF f t d a b n).length ≤ 6 := by
  unfold otF
  repeat' split
  all_goals simp [tM]
theorem lb_none (x : Tk) (ts : List Tk) (h : ts = [] ∨ ∃ y r, ts = y :: r ∧ y.t ≠ [58]) : lbN (x :: ts) = some ([], x :: ts) := by
  rcases h with rfl | ⟨y, r, rfl, h⟩
  · rfl
  · rw [lbN, if_neg h]
theorem st_tx (mv : Bool) (nd nl nn : Nat) (op : Int) (d a b : Nat) (n : Int) (h : ck op d a b n = 0) : stM mv nd nl nn (⟨1, nm op, 0⟩ :: otF (fo op) (tk op) d a b n) = some (false, 0, [⟨0, 3, op, d, a, b, 0, [], n⟩]) := by
  obtain ⟨h0, _, _⟩ := ck_zero h
  have hop := (isO_iff op).1 h0
  obtain ⟨e1, e2, e3, e4⟩ := nm_stat ⟨op.toNat, by omega⟩ (show 0 < op.toNat by omega)
  have e3' : stF (nm op) = none := e3
  have e4' : opNum (nm op) = some op.toNat := e4
  have hk : ((op.toNat : Nat) : Int) = op := by omega
  have e1' : ¬ nm op = [46, 111, 114, 103] := e1
  have e2' : ¬ nm op = [46, 119, 111, 114, 100] := e2
  unfold stM
  dsimp only
  rw [if_neg e1', if_neg e2', if_pos e3']
  show (match opNum (nm op) with
    | some k => match opsM (shp k) 0 0 0 ([], 0) (otF (fo op) (tk op) d a b n) with
      | some (d, a, b, v, []) => some (false, 0, [(⟨0, 3, k, d, a, b, 0, v.1, v.2⟩ : Dr)])
      | _ => none
    | none => none) = _
  rw [e4']
  show (match opsM (shp ((op.toNat : Nat) : Int)) 0 0 0 ([], 0) (otF (fo op) (tk op) d a b n) with
      | some (d, a, b, v, []) => some (false, 0, [(⟨0, 3, ((op.toNat : Nat) : Int), d, a, b, 0, v.1, v.2⟩ : Dr)])
      | _ => none) = _
  rw [hk, ops_ok op d a b n h]
/-- An instruction's line, read back. -/
theorem run_tx (op : Int) (d a b : Nat) (n : Int) (h : ck op d a b n = 0) (l : List UInt8) (hl : lineT l = some (⟨1, nm op, 0⟩ :: otF (fo op) (tk op) d a b n)) : runL 1 ⟨false, 0, [], []⟩ [l] = some ⟨false, 0, [⟨1, 3, op, d, a, b, 0, [], n⟩], []⟩ := by
  have hb := lb_none ⟨1, nm op, 0⟩ _ (ot_colon (fo op) (tk op) d a b n)
  have hs := st_tx false 0 0 0 op d a b n h
  have hlen := ot_len (fo op) (tk op) d a b n
  have h1 : lnM 1 ⟨false, 0, [], []⟩ l = some ⟨false, 0, [⟨1, 3, op, d, a, b, 0, [], n⟩], []⟩ := by
    simp only [lnM, hl, hb, List.length_nil, hs, entL]
    have hl7 : (⟨1, nm op, 0⟩ :: otF (fo op) (tk op) d a b n).length < 1000000 := by simp only [List.length_cons]; omega
    rw [if_pos (by refine ⟨?_, ?_, ?_, hl7, ?_, ?_⟩ <;> simp)]
    rfl
  simp only [runL, h1]
theorem img_tx (op : Int) (d a b : Nat) (n : Int) (h : ck op d a b n = 0) (v : Nat) (hv : wd op d a b n = v) : imgM [] 0 0 [⟨1, 3, op, d, a, b, 0, [], n⟩] = some [(v : Int)] := by
  obtain ⟨n0, n1⟩ := ck_imm h
  have h1 : meanM [] 0 0 ⟨1, 3, op, d, a, b, 0, [], n⟩ = some n := rfl
  have h2 : wordM ⟨1, 3, op, d, a, b, 0, [], n⟩ n = some (v : Int) := by
    rw [wordM, if_pos rfl, if_pos ⟨by omega, by omega, h⟩]
    unfold ew
    rw [if_pos h, hv]
  simp only [imgM, h1, h2]
  rfl
/-- Each word's line: one line, and the word again. -/
theorem line_back (v at_ : Nat) (hv : v < 4294967296) : (10 : UInt8) ∉ lineM v at_ ∧ ∃ x : Dr, runL 1 ⟨false, 0, [], []⟩ [lineM v at_] = some ⟨false, 0, [x], []⟩ ∧ imgM [] 0 0 [x] = some [(v : Int)] := by
  unfold lineM
  by_cases hd : de v = 0
  · rw [if_pos hd]
    obtain ⟨hc, hw⟩ := enc_dec hd
    have hp := pl_tx _ _ _ _ _ hc
    cases hg : gbd (dO v) with
    | true =>
      rw [if_pos rfl]
      refine ⟨fun h10 => ?_, _, run_tx _ _ _ _ _ hc _ (line_txc _ _ _ _ _ hc _), img_tx _ _ _ _ _ hc v hw⟩
      have hb : (((at_ : Int) + 4 * dI v) % 4294967296).toNat < 4294967296 := by omega
      rcases List.mem_append.1 h10 with h | h
      · rcases List.mem_append.1 h with h | h
        · exact (hp 10 h).1 rfl
        · revert h; decide
      · exact (hex8_word _ hb 10 h).2.1 rfl
    | false =>
      rw [if_neg (by decide)]
      exact ⟨fun h10 => (hp 10 h10).1 rfl, _, run_tx _ _ _ _ _ hc _ (line_tx _ _ _ _ _ hc), img_tx _ _ _ _ _ hc v hw⟩
  · rw [if_neg hd]
    exact ⟨word_nl v hv, _, run_word v hv, img_word v hv⟩
end Go.Proofs.YtgofjmhdgmfgfaaGreatDoor
