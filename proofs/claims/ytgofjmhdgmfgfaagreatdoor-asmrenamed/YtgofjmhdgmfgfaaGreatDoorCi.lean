import Derived.Test.YtgofjmhdgmfgfaaGreatDoorBx
import Derived.Test.YtgofjmhdgmfgfaaGreatDoorAz
namespace Go.Proofs.YtgofjmhdgmfgfaaGreatDoor
open Go.ChangeShapes Go.WideShapes Go.ChangeAt Go.RowKit
set_option linter.unusedVariables false

theorem hx_idx : ∀ m : Fin 16, Lib.indexByte (nums.take 16) (hx m.val) = (m.val : Int) := by decide +kernel
/-- Digits that are written are read so. -/
theorem dgs_e8 (k : Nat) : ∀ n s, n < 16 ^ k → n ≤ 1099511627776 → dgs 16 (e8 k n s) 0 = dgs 16 s n := by
  induction k with
  | zero =>
    intro n s h _
    obtain rfl : n = 0 := by simpa using h
    rfl
  | succ k ih =>
    intro n s h hb
    have h2 : n / 16 < 16 ^ k := by
      rw [Nat.pow_succ] at h
      exact Nat.div_lt_of_lt_mul (by rw [Nat.mul_comm]; exact h)
    have hi : Lib.indexByte (nums.take 16) (hx (n % 16)) = ((n % 16 : Nat) : Int) := hx_idx ⟨n % 16, Nat.mod_lt _ (by omega)⟩
    rw [e8, ih _ _ h2 (by omega), dgs, hi, if_neg (by omega), Int.toNat_natCast]
    congr 1
    omega
theorem num_hex8 (v : Nat) (hv : v < 4294967296) : numM (hex8 v) = some v := by
  rw [← e8_hex8 v hv]
  have hne : ((([48, 120] : List UInt8) ++ e8 8 v []).drop 2).isEmpty = false := by
    have := e8_len 8 v []
    cases h : e8 8 v [] with
    | nil => rw [h] at this; simp at this
    | cons c l => rfl
  unfold numM
  rw [if_pos (by simp [Lib.hasPrefix]), if_neg (by rw [hne]; decide)]
  have : dgs 16 (e8 8 v []) 0 = dgs 16 [] v := dgs_e8 8 v [] (by simpa using hv) (by omega)
  simpa [dgs] using this
/-- A text without a newline is one line. -/
theorem split_one (l : List UInt8) (h : (10 : UInt8) ∉ l) : Lib.splitB (sb [10]) 0 (Lib.countB (sb l) (sb [10])) (sb l) = [l].map sb := by
  have hi : Lib.indexB (sb l) (sb [10]) = -1 := by
    show Lib.index (sb l).data.toList (sb [10]).data.toList = -1
    rw [show (sb l).data.toList = l by simp [sb], show (sb [10]).data.toList = [10] from rfl]
    induction l with
    | nil => rfl
    | cons b l ih =>
      simp only [List.mem_cons, not_or] at h
      rw [Lib.index, if_neg (by simpa [List.isPrefixOf] using h.1), ih h.2]
      rfl
  rw [Lib.splitB_miss _ _ _ _ hi]
  rfl
theorem hx_word : ∀ m : Fin 16, isWd (hx m.val).toNat = true ∧ hx m.val ≠ 10 ∧ hx m.val ≠ 35 := by decide +kernel
theorem e8_word (k : Nat) : ∀ n s, (∀ c ∈ s, isWd c.toNat = true ∧ c ≠ 10 ∧ c ≠ 35) → ∀ c ∈ e8 k n s, isWd c.toNat = true ∧ c ≠ 10 ∧ c ≠ 35 := by
  induction k with
  | zero => intro n s h; exact h
  | succ k ih =>
    intro n s h
    refine ih _ _ fun c hc => ?_
    rcases List.mem_cons.1 hc with rfl | hc
    · exact hx_word ⟨n % 16, Nat.mod_lt _ (by omega)⟩
    · exact h c hc
theorem hex8_word (v : Nat) (hv : v < 4294967296) : ∀ c ∈ hex8 v, isWd c.toNat = true ∧ c ≠ 10 ∧ c ≠ 35 := by
  rw [← e8_hex8 v hv]
  intro c hc
  rcases List.mem_append.1 hc with h | h
  · have : c = 48 ∨ c = 120 := by simpa using h
    rcases this with rfl | rfl <;> decide +kernel
  · exact e8_word 8 v [] (fun c h => by simp at h) c h
end Go.Proofs.YtgofjmhdgmfgfaaGreatDoor
namespace Go.Proofs.YtgofjmhdgmfgfaaGreatDoor
open Go.ChangeShapes Go.WideShapes Go.ChangeAt Go.RowKit
set_option linter.unusedVariables false

theorem idx_none (l : List UInt8) (c : UInt8) (h : c ∉ l) : Lib.index l [c] = -1 := by
  induction l with
  | nil => rfl
  | cons b l ih =>
    simp only [List.mem_cons, not_or] at h
    rw [Lib.index, if_neg (by simpa [List.isPrefixOf] using h.1), ih h.2]
    rfl
theorem cut_none (l : List UInt8) (h : (35 : UInt8) ∉ l) : (Lib.cut l [35]).1 = l := by
  simp [Lib.cut, idx_none l 35 h]
theorem wl_all (l r : List UInt8) (h : ∀ c ∈ l, isWd c.toNat = true) (hr : ∀ c, r.head? = some c → isWd c.toNat = false) : wlN (l ++ r) = l.length := by
  unfold wlN
  rw [List.takeWhile_append_of_pos (by simpa using h)]
  cases r with
  | nil => simp
  | cons c r => rw [List.takeWhile_cons_of_neg (by rw [hr c rfl]; decide)]; simp
theorem hex8_cons (v : Nat) (hv : v < 4294967296) : ∃ t, hex8 v = 48 :: 120 :: t := by
  rw [← e8_hex8 v hv]
  exact ⟨_, rfl⟩
theorem first_hex8 (v : Nat) (hv : v < 4294967296) : firstT (hex8 v) = some ⟨2, hex8 v, v⟩ := by
  have hw : wlN (hex8 v) = (hex8 v).length := by
    have := wl_all (hex8 v) [] (fun c hc => (hex8_word v hv c hc).1) (fun c h => by simp at h)
    simpa using this
  have hn := num_hex8 v hv
  obtain ⟨t, ht⟩ := hex8_cons v hv
  rw [ht] at hw hn ⊢
  rw [firstT, if_neg (by decide), if_pos (Or.inr (by decide)), numTok, if_neg (by simp [Lib.hasPrefix])]
  rw [hw, List.take_length, hn]
  rfl
theorem line_word (v : Nat) (hv : v < 4294967296) : lineT ([46, 119, 111, 114, 100, 32] ++ hex8 v) = some [⟨1, [46, 119, 111, 114, 100], 0⟩, ⟨2, hex8 v, v⟩] := by
  have h35 : (35 : UInt8) ∉ [46, 119, 111, 114, 100, 32] ++ hex8 v := by
    intro h
    rcases List.mem_append.1 h with h | h
    · revert h; decide
    · exact (hex8_word v hv 35 h).2.2 rfl
  have hw : wlN ([46, 119, 111, 114, 100, 32] ++ hex8 v) = 5 := wl_all [46, 119, 111, 114, 100] (32 :: hex8 v) (by decide) (fun c h => by simp at h; subst h; decide)
  have hf := first_hex8 v hv
  have hl := hex8_len hv
  obtain ⟨t, ht⟩ := hex8_cons v hv
  unfold lineT
  rw [cut_none _ h35]
  have hlen : (([46, 119, 111, 114, 100, 32] : List UInt8) ++ hex8 v).length = 14 + 1 + 1 := by rw [List.length_append, hl]; rfl
  rw [hlen]
  clear hlen
  rw [ht] at hw hf ⊢
  have h1 : firstT ([46, 119, 111, 114, 100, 32] ++ 48 :: 120 :: t) = some ⟨1, [46, 119, 111, 114, 100], 0⟩ := by
    show firstT (46 :: ([119, 111, 114, 100, 32] ++ 48 :: 120 :: t)) = _
    rw [firstT, if_neg (by decide), if_neg (by decide), if_pos (by decide)]
    show some (⟨1, List.take (wlN ([46, 119, 111, 114, 100, 32] ++ 48 :: 120 :: t)) ([46, 119, 111, 114, 100, 32] ++ 48 :: 120 :: t), 0⟩ : Tk) = _
    rw [hw]
    rfl
  have e0 : Lib.trimLeftS ([46, 119, 111, 114, 100, 32] ++ 48 :: 120 :: t) [32, 9] = 46 :: ([119, 111, 114, 100, 32] ++ 48 :: 120 :: t) := rfl
  have e1 : Lib.trimLeftS ((46 :: ([119, 111, 114, 100, 32] ++ 48 :: 120 :: t)).drop 5) [32, 9] = 48 :: 120 :: t := rfl
  have h1' : firstT (46 :: ([119, 111, 114, 100, 32] ++ 48 :: 120 :: t)) = some ⟨1, [46, 119, 111, 114, 100], 0⟩ := h1
  have e2 : Lib.trimLeftS ((48 :: 120 :: t).drop (48 :: 120 :: t : List UInt8).length) [32, 9] = [] := by rw [List.drop_length]; rfl
  rw [e0, toksT, h1']
  show (match toksT (14 + 1) (Lib.trimLeftS ((46 :: ([119, 111, 114, 100, 32] ++ 48 :: 120 :: t)).drop 5) [32, 9]) with
    | none => none
    | some r => some (_ :: r)) = _
  rw [e1, toksT, hf]
  show (match (match toksT 14 (Lib.trimLeftS ((48 :: 120 :: t).drop (48 :: 120 :: t : List UInt8).length) [32, 9]) with
    | none => none
    | some r => some (_ :: r)) with
    | none => none
    | some r => some (_ :: r)) = _
  rw [e2]
  rfl
end Go.Proofs.YtgofjmhdgmfgfaaGreatDoor
namespace Go.Proofs.YtgofjmhdgmfgfaaGreatDoor
open Go.ChangeShapes Go.WideShapes Go.ChangeAt Go.RowKit
set_option linter.unusedVariables false

/-- A word that is no instruction, read back. -/
theorem run_word (v : Nat) (hv : v < 4294967296) : runL 1 ⟨false, 0, [], []⟩ [[46, 119, 111, 114, 100, 32] ++ hex8 v] = some ⟨false, 0, [⟨1, 0, 0, 0, 0, 0, 0, [], v⟩], []⟩ := by
  have hl := line_word v hv
  have hb : lbN [⟨1, [46, 119, 111, 114, 100], 0⟩, ⟨2, hex8 v, v⟩] = some ([], [⟨1, [46, 119, 111, 114, 100], 0⟩, ⟨2, hex8 v, v⟩]) := by
    obtain ⟨t, ht⟩ := hex8_cons v hv
    rw [lbN, if_neg (by rw [ht]; simp)]
  have hs : stM false 0 0 0 [⟨1, [46, 119, 111, 114, 100], 0⟩, ⟨2, hex8 v, v⟩] = some (false, 0, [wdD ([], v)]) := by
    rw [stM, if_neg (by simp), if_pos rfl, if_pos (by simp)]
    rfl
  have h1 : lnM 1 ⟨false, 0, [], []⟩ ([46, 119, 111, 114, 100, 32] ++ hex8 v) = some ⟨false, 0, [⟨1, 0, 0, 0, 0, 0, 0, [], v⟩], []⟩ := by
    simp only [lnM, hl, hb, List.length_nil, hs, entL]
    rfl
  simp only [runL, h1]
theorem img_word (v : Nat) (hv : v < 4294967296) : imgM [] 0 0 [⟨1, 0, 0, 0, 0, 0, 0, [], v⟩] = some [(v : Int)] := by
  have h1 : meanM [] 0 0 ⟨1, 0, 0, 0, 0, 0, 0, [], v⟩ = some (v : Int) := rfl
  have h2 : wordM ⟨1, 0, 0, 0, 0, 0, 0, [], v⟩ (v : Int) = some (v : Int) := by
    rw [wordM, if_neg (by simp), if_pos rfl, if_pos (by omega)]
    congr 1
    omega
  simp only [imgM, h1, h2]
  rfl
theorem word_nl (v : Nat) (hv : v < 4294967296) : (10 : UInt8) ∉ [46, 119, 111, 114, 100, 32] ++ hex8 v := by
  intro h
  rcases List.mem_append.1 h with h | h
  · revert h; decide
  · exact (hex8_word v hv 10 h).2.1 rfl
end Go.Proofs.YtgofjmhdgmfgfaaGreatDoor
namespace Go.Proofs.YtgofjmhdgmfgfaaGreatDoor
open Go.ChangeShapes Go.WideShapes Go.ChangeAt Go.RowKit
set_option linter.unusedVariables false

/-- These are the tokens of a text that opens with no blank. -/
def TokOf (l : List UInt8) (ts : List Tk) : Prop := ∀ f, l.length ≤ f → toksT f l = some ts
theorem TokOf.nil : TokOf [] [] := fun f _ => by cases f <;> rfl
theorem TokOf.cons {l r : List UInt8} {x : Tk} {ts : List Tk} (hl : l ≠ []) (hf : firstT (l ++ r) = some x) (hx : x.t.length = l.length) (h : TokOf (Lib.trimLeftS r [32, 9]) ts) : TokOf (l ++ r) (x :: ts) := by
  intro f hlen
  obtain ⟨c, l', rfl⟩ : ∃ c l', l = c :: l' := by cases l with
    | nil => exact absurd rfl hl
    | cons c l' => exact ⟨c, l', rfl⟩
  cases f with
  | zero => simp at hlen
  | succ f =>
    have hf' : firstT (c :: (l' ++ r)) = some x := hf
    have hd : (c :: (l' ++ r)).drop x.t.length = r := by
      rw [hx]
      exact List.drop_left
    have hr := h f (by
      have := trimL_len r [32, 9]
      simp only [List.length_append, List.length_cons] at hlen
      omega)
    show toksT (f + 1) (c :: (l' ++ r)) = _
    rw [toksT, hf']
    show (match toksT f (Lib.trimLeftS ((c :: (l' ++ r)).drop x.t.length) [32, 9]) with
      | none => none
      | some r => some (x :: r)) = _
    rw [hd, hr]
/-- A word ahead of what is none. -/
theorem first_wd {c : UInt8} {l r : List UInt8} (hs : Lib.indexByte [44, 58, 40, 41] c < 0) (hc : c ≠ 45) (hd : isDg c.toNat = false) (h : ∀ x ∈ c :: l, isWd x.toNat = true) (hr : ∀ x, r.head? = some x → isWd x.toNat = false) : firstT ((c :: l) ++ r) = some ⟨1, c :: l, 0⟩ := by
  have hw := wl_all (c :: l) r h hr
  show firstT (c :: (l ++ r)) = _
  rw [firstT, if_neg (by omega), if_neg (by simp [hc, hd]), if_pos (h c (List.mem_cons_self))]
  show some (⟨1, List.take (wlN ((c :: l) ++ r)) ((c :: l) ++ r), 0⟩ : Tk) = _
  rw [hw, List.take_left]
theorem first_sg {c : UInt8} {r : List UInt8} (hs : 0 ≤ Lib.indexByte [44, 58, 40, 41] c) : firstT ([c] ++ r) = some ⟨3, [c], 0⟩ := by
  show firstT (c :: r) = _
  rw [firstT, if_pos hs]
end Go.Proofs.YtgofjmhdgmfgfaaGreatDoor
namespace Go.Proofs.YtgofjmhdgmfgfaaGreatDoor
open Go.ChangeShapes Go.WideShapes Go.ChangeAt Go.RowKit
set_option linter.unusedVariables false

theorem dgs_append (b : Nat) (l r : List UInt8) : ∀ n, dgs b (l ++ r) n = (dgs b l n).bind (dgs b r) := by
  induction l with
  | nil => intro n; rfl
  | cons c l ih =>
    intro n
    show dgs b (c :: (l ++ r)) n = _
    rw [dgs, dgs]
    split
    · rfl
    · exact ih _
theorem dec_idx : ∀ m : Fin 10, Lib.indexByte (nums.take 10) (UInt8.ofNat (48 + m.val)) = (m.val : Int) := by decide +kernel
theorem dec_wd : ∀ m : Fin 10, isDg (UInt8.ofNat (48 + m.val)).toNat = true ∧ isWd (UInt8.ofNat (48 + m.val)).toNat = true ∧ UInt8.ofNat (48 + m.val) ≠ 10 ∧ UInt8.ofNat (48 + m.val) ≠ 35 := by decide +kernel
theorem dec_nz : ∀ m : Fin 10, m.val ≠ 0 → UInt8.ofNat (48 + m.val) ≠ 48 := by decide +kernel
theorem dec_ge {u : Nat} (h : ¬ u < 10) : Lib.decDigits u = Lib.decDigits (u / 10) ++ [UInt8.ofNat (48 + u % 10)] := by rw [Lib.decDigits, dif_neg h]
theorem dec_strong {P : Nat → Prop} (h0 : ∀ u, u < 10 → P u) (h1 : ∀ u, ¬ u < 10 → P (u / 10) → P u) (u : Nat) : P u := by
  induction u using Nat.strongRecOn with
  | _ u ih =>
    by_cases h : u < 10
    · exact h0 u h
    · exact h1 u h (ih (u / 10) (by omega))
theorem dgs_one (m n : Nat) (h : m < 10) : dgs 10 [UInt8.ofNat (48 + m)] n = some (min (n * 10 + m) 1099511627776) := by
  rw [dgs, dec_idx ⟨m, h⟩, if_neg (by omega)]
  rfl
theorem dgs_dec (u : Nat) : u ≤ 1099511627776 → dgs 10 (Lib.decDigits u) 0 = some u := by
  refine dec_strong (P := fun u => u ≤ 1099511627776 → dgs 10 (Lib.decDigits u) 0 = some u) ?_ ?_ u
  · intro u h _
    rw [Lib.decDigits_one h, dgs_one u 0 h]
    congr 1
    omega
  · intro u h ih hb
    rw [dec_ge h, dgs_append, ih (by omega)]
    show dgs 10 [UInt8.ofNat (48 + u % 10)] (u / 10) = _
    rw [dgs_one _ _ (Nat.mod_lt _ (by omega))]
    congr 1
    omega
theorem dec_chars (u : Nat) : ∀ c ∈ Lib.decDigits u, isDg c.toNat = true ∧ isWd c.toNat = true ∧ c ≠ 10 ∧ c ≠ 35 := by
  refine dec_strong (P := fun u => ∀ c ∈ Lib.decDigits u, isDg c.toNat = true ∧ isWd c.toNat = true ∧ c ≠ 10 ∧ c ≠ 35) ?_ ?_ u
  · intro u h c hc
    rw [Lib.decDigits_one h] at hc
    obtain rfl : c = UInt8.ofNat (48 + u) := by simpa using hc
    exact dec_wd ⟨u, h⟩
  · intro u h ih c hc
    rw [dec_ge h] at hc
    rcases List.mem_append.1 hc with hc | hc
    · exact ih c hc
    · obtain rfl : c = UInt8.ofNat (48 + u % 10) := by simpa using hc
      exact dec_wd ⟨u % 10, Nat.mod_lt _ (by omega)⟩
theorem dec_head (u : Nat) : ∃ c l, Lib.decDigits u = c :: l ∧ (u ≠ 0 → c ≠ 48) := by
  refine dec_strong (P := fun u => ∃ c l, Lib.decDigits u = c :: l ∧ (u ≠ 0 → c ≠ 48)) ?_ ?_ u
  · intro u h
    exact ⟨_, [], Lib.decDigits_one h, fun hu => dec_nz ⟨u, h⟩ hu⟩
  · intro u h ⟨c, l, e, hc⟩
    exact ⟨c, l ++ [UInt8.ofNat (48 + u % 10)], by rw [dec_ge h, e]; rfl, fun _ => hc (by omega)⟩
/-- A decimal number is read as it was written. -/
theorem num_dec (u : Nat) (hu : u ≤ 1099511627776) : numM (Lib.decDigits u) = some u := by
  have hd := dgs_dec u hu
  have hch := dec_chars u
  obtain ⟨c, l, e, hc⟩ := dec_head u
  have hx : ¬ Lib.hasPrefix (c :: l) [48, 120] = true := by
    intro h
    cases l with
    | nil => simp [Lib.hasPrefix] at h
    | cons y l =>
      have hy : y = 120 := by
        simp [Lib.hasPrefix, List.isPrefixOf] at h
        exact h.2.symm
      have := (hch y (by rw [e]; simp)).1
      rw [hy] at this
      revert this
      decide
  rw [e] at hd hch ⊢
  unfold numM
  rw [if_neg hx, if_neg (by simp)]
  by_cases h0 : u = 0
  · subst h0
    have : Lib.decDigits 0 = [48] := Lib.decDigits_one (by omega)
    rw [this] at e
    have hl : l = [] := by have := List.cons.inj e; exact this.2.symm
    subst hl
    rw [if_neg (by simp)]
    exact hd
  · rw [if_neg (by simp [hc h0])]
    exact hd
end Go.Proofs.YtgofjmhdgmfgfaaGreatDoor
namespace Go.Proofs.YtgofjmhdgmfgfaaGreatDoor
open Go.ChangeShapes Go.WideShapes Go.ChangeAt Go.RowKit
set_option linter.unusedVariables false

theorem dg_sign : ∀ m : Fin 256, isDg m.val = true → Lib.indexByte [44, 58, 40, 41] (UInt8.ofNat m.val) < 0 ∧ UInt8.ofNat m.val ≠ 45 := by decide +kernel
theorem dg_sign' (c : UInt8) (h : isDg c.toNat = true) : Lib.indexByte [44, 58, 40, 41] c < 0 ∧ c ≠ 45 := by
  have := dg_sign ⟨c.toNat, c.toNat_lt⟩ h
  simpa using this
/-- A number ahead of what is no word. -/
theorem first_num (n : Int) (h0 : -1099511627776 ≤ n) (h1 : n ≤ 1099511627776) (r : List UInt8) (hr : ∀ x, r.head? = some x → isWd x.toNat = false) : firstT (Lib.itoa n ++ r) = some ⟨2, Lib.itoa n, n⟩ := by
  unfold Lib.itoa
  by_cases hn : n < 0
  · rw [if_pos hn]
    have hw := wl_all (Lib.decDigits n.natAbs) r (fun c hc => (dec_chars _ c hc).2.1) hr
    have hm := num_dec n.natAbs (by omega)
    have hq : (Lib.decDigits n.natAbs ++ r).take (Lib.decDigits n.natAbs).length = Lib.decDigits n.natAbs := List.take_left
    have ht : (45 :: (Lib.decDigits n.natAbs ++ r)).take (1 + (Lib.decDigits n.natAbs).length) = 45 :: Lib.decDigits n.natAbs := by
      rw [Nat.add_comm, List.take_succ_cons, List.take_left]
    show firstT (45 :: (Lib.decDigits n.natAbs ++ r)) = _
    rw [firstT, if_neg (by decide), if_pos (.inl rfl), numTok, if_pos (by simp [Lib.hasPrefix, List.isPrefixOf])]
    show (numM ((Lib.decDigits n.natAbs ++ r).take (wlN (Lib.decDigits n.natAbs ++ r)))).map (fun (m : Nat) => (⟨2, (45 :: (Lib.decDigits n.natAbs ++ r)).take (1 + ((Lib.decDigits n.natAbs ++ r).take (wlN (Lib.decDigits n.natAbs ++ r))).length), -(m : Int)⟩ : Tk)) = _
    rw [hw, hq, hm, ht]
    show some (⟨2, 45 :: Lib.decDigits n.natAbs, -((n.natAbs : Nat) : Int)⟩ : Tk) = _
    rw [show -((n.natAbs : Nat) : Int) = n by omega]
  · rw [if_neg hn]
    have hw := wl_all (Lib.decDigits n.toNat) r (fun c hc => (dec_chars _ c hc).2.1) hr
    have hm := num_dec n.toNat (by omega)
    obtain ⟨c, l, e, -⟩ := dec_head n.toNat
    have hc := (dec_chars n.toNat c (by rw [e]; simp)).1
    obtain ⟨s1, s2⟩ := dg_sign' c hc
    rw [e] at hw hm ⊢
    have hq : ((c :: l) ++ r).take (c :: l).length = c :: l := List.take_left
    have hp : ¬ Lib.hasPrefix (c :: (l ++ r)) [45] = true := by
      intro h
      simp [Lib.hasPrefix, List.isPrefixOf] at h
      exact s2 h.symm
    show firstT (c :: (l ++ r)) = _
    rw [firstT, if_neg (by omega), if_pos (.inr hc), numTok, if_neg hp]
    show (numM (((c :: l) ++ r).take (wlN ((c :: l) ++ r)))).map (fun (m : Nat) => (⟨2, ((c :: l) ++ r).take (wlN ((c :: l) ++ r)), (m : Int)⟩ : Tk)) = _
    rw [hw, hq, hm]
    show some (⟨2, c :: l, ((n.toNat : Nat) : Int)⟩ : Tk) = _
    rw [show ((n.toNat : Nat) : Int) = n by omega]
end Go.Proofs.YtgofjmhdgmfgfaaGreatDoor
