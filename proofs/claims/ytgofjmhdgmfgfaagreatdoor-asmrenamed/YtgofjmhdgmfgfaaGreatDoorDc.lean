import Derived.Test.YtgofjmhdgmfgfaaGreatDoorCo
import Derived.Test.YtgofjmhdgmfgfaaGreatDoorBh
namespace Go.Proofs.YtgofjmhdgmfgfaaGreatDoor
open Go.ChangeShapes Go.WideShapes Go.ChangeAt Go.RowKit
set_option linter.unusedVariables false

/-- Lines, each with its newline. -/
def catL : List (List UInt8) → List UInt8
  | [] => []
  | l :: ls => l ++ 10 :: catL ls
def lbl (x : List UInt8 × Nat) : List UInt8 := x.1 ++ [58]
def linesW : Nat → List Nat → List (List UInt8 × Nat) → List (List UInt8)
  | _, [], lb => lb.map lbl
  | a, v :: ws, lb => (lb.takeWhile (isAt a)).map lbl ++ ([9] ++ lineM v a) :: linesW (a + 4) ws (lb.dropWhile (isAt a))
def orgL (org : Nat) : List UInt8 := [46, 111, 114, 103, 32] ++ hex8 org
theorem catL_app (a b : List (List UInt8)) : catL (a ++ b) = catL a ++ catL b := by
  induction a with
  | nil => rfl
  | cons l a ih => show l ++ 10 :: catL (a ++ b) = (l ++ 10 :: catL a) ++ catL b; rw [ih]; simp
theorem cat_lb (lb : List (List UInt8 × Nat)) : lbT lb = catL (lb.map lbl) := by
  induction lb with
  | nil => rfl
  | cons x lb ih =>
    show (x.1 ++ [58, 10]) ++ lbT lb = (x.1 ++ [58]) ++ 10 :: catL (lb.map lbl)
    rw [ih]; simp
theorem cat_src (ws : List Nat) : ∀ a lb, srcW a ws lb = catL (linesW a ws lb) := by
  induction ws with
  | nil => intro a lb; exact cat_lb lb
  | cons v ws ih =>
    intro a lb
    rw [srcW, linesW, catL_app, cat_lb, ih]
    show _ ++ (([9] ++ lineM v a ++ [10]) ++ _) = _ ++ (([9] ++ lineM v a) ++ 10 :: _)
    simp
theorem cat_all (org : Nat) (ws : List Nat) (lb : List (List UInt8 × Nat)) : srcM org ws lb = catL (orgL org :: linesW org ws lb) := by
  rw [srcM, cat_src]
  show _ = orgL org ++ 10 :: _
  simp [orgL]
theorem cnt_cat (ls : List (List UInt8)) (h : ∀ l ∈ ls, (10 : UInt8) ∉ l) : ∀ f, (catL ls).length < f → Lib.countFrom [10] f (catL ls) = ls.length := by
  induction ls with
  | nil =>
    intro f hf
    cases f with
    | zero => rfl
    | succ f => rfl
  | cons l ls ih =>
    intro f hf
    cases f with
    | zero => simp at hf
    | succ f =>
      have hi := idx_at l (catL ls) 10 (h l List.mem_cons_self)
      have hl : (catL (l :: ls)).length = l.length + 1 + (catL ls).length := by show (l ++ 10 :: catL ls).length = _; simp; omega
      have hd : (l ++ 10 :: catL ls).drop (l.length + 1) = catL ls := by
        rw [List.drop_append]
        simp
      show Lib.countFrom [10] (f + 1) (l ++ 10 :: catL ls) = _
      rw [Lib.countFrom, hi, if_neg (by simp)]
      show 1 + Lib.countFrom [10] f ((l ++ 10 :: catL ls).drop (((l.length : Int)).toNat + 1)) = _
      rw [Int.toNat_natCast, hd, ih (fun x hx => h x (List.mem_cons_of_mem _ hx)) f (by omega)]
      simp; omega
theorem sb_data' (l : List UInt8) : (sb l).data.toList = l := by simp [sb]
theorem ex_left (l r : List UInt8) : (sb (l ++ r)).extract 0 l.length = sb l := by
  apply ByteArray.ext
  rw [ByteArray.data_extract]
  simp [sb]
theorem ex_right (l r : List UInt8) (c : UInt8) : (sb (l ++ c :: r)).extract (l.length + 1) (sb (l ++ c :: r)).size = sb r := by
  apply ByteArray.ext
  rw [ByteArray.data_extract]
  have : (sb (l ++ c :: r)).size = l.length + 1 + r.length := by rw [sb_size]; simp; omega
  rw [this]
  apply Array.toList_inj.1
  simp [sb]
theorem split_cat (ls : List (List UInt8)) (h : ∀ l ∈ ls, (10 : UInt8) ∉ l) : Lib.splitB (sb [10]) 0 ls.length (sb (catL ls)) = (ls ++ [[]]).map sb := by
  induction ls with
  | nil => rfl
  | cons l ls ih =>
    have hi := idx_at l (catL ls) 10 (h l List.mem_cons_self)
    have hi' : Lib.indexB (sb (l ++ 10 :: catL ls)) (sb [10]) = (l.length : Int) := by
      show Lib.index (sb (l ++ 10 :: catL ls)).data.toList (sb [10]).data.toList = _
      rw [sb_data']
      exact hi
    show Lib.splitB (sb [10]) 0 (ls.length + 1) (sb (l ++ 10 :: catL ls)) = _
    rw [Lib.splitB_hit _ _ _ _ l.length hi', Nat.add_zero, ex_left]
    rw [show (sb [10]).size = 1 from rfl, ex_right, ih (fun x hx => h x (List.mem_cons_of_mem _ hx))]
    rfl
theorem split_all (ls : List (List UInt8)) (h : ∀ l ∈ ls, (10 : UInt8) ∉ l) : Lib.splitB (sb [10]) 0 (Lib.countB (sb (catL ls)) (sb [10])) (sb (catL ls)) = (ls ++ [[]]).map sb := by
  have hc : Lib.countB (sb (catL ls)) (sb [10]) = ls.length := by
    show Lib.count (sb (catL ls)).data.toList (sb [10]).data.toList = _
    rw [sb_data']
    exact cnt_cat ls h _ (Nat.lt_succ_self _)
  rw [hc]
  exact split_cat ls h
/-! Lines that are read. -/
/-- A draft that is some word. -/
def Dn (x : Dr) (v : Nat) : Prop := x.nm = [] ∧ wordM x x.nu = some (v : Int)
def Dns : List Dr → List Nat → Prop
  | [], [] => True
  | x :: l, v :: ws => Dn x v ∧ Dns l ws
  | _, _ => False
theorem Dns.app {l : List Dr} {ws : List Nat} {x : Dr} {v : Nat} (h : Dns l ws) (hx : Dn x v) : Dns (l ++ [x]) (ws ++ [v]) := by
  induction l generalizing ws with
  | nil =>
    cases ws with
    | nil => exact ⟨hx, trivial⟩
    | cons _ _ => exact h.elim
  | cons y l ih =>
    cases ws with
    | nil => exact h.elim
    | cons u ws => exact ⟨h.1, ih h.2⟩
theorem Dns.len {l : List Dr} {ws : List Nat} (h : Dns l ws) : l.length = ws.length := by
  induction l generalizing ws with
  | nil =>
    cases ws with
    | nil => rfl
    | cons _ _ => exact h.elim
  | cons y l ih =>
    cases ws with
    | nil => exact h.elim
    | cons u ws => simp [ih h.2]
theorem img_dns (lb : List (List UInt8 × Nat)) (org : Nat) (l : List Dr) : ∀ ws n, Dns l ws → imgM lb org n l = some (ws.map fun (n : Nat) => (n : Int)) := by
  induction l with
  | nil =>
    intro ws n h
    cases ws with
    | nil => rfl
    | cons _ _ => exact h.elim
  | cons x l ih =>
    intro ws n h
    cases ws with
    | nil => exact h.elim
    | cons u ws =>
      obtain ⟨⟨h1, h2⟩, h3⟩ := h
      have hm : meanM lb org n x = some x.nu := by unfold meanM; rw [h1]; rfl
      simp only [imgM, hm, h2, ih ws (n + 1) h3]
      rw [if_pos (by rw [h1]; simp)]
      rfl
/-- A tab ahead changes nothing of a line. -/
theorem idx_cons (c b : UInt8) (l : List UInt8) (h : b ≠ c) : Lib.index (b :: l) [c] = if Lib.index l [c] == -1 then -1 else Lib.index l [c] + 1 := by
  rw [Lib.index, if_neg (by simpa [List.isPrefixOf] using fun e : c = b => h e.symm)]
theorem cut_tab (l : List UInt8) : (Lib.cut (9 :: l) [35]).1 = 9 :: (Lib.cut l [35]).1 := by
  have h := idx_cons 35 9 l (by decide)
  have hg := Lib.index_ge l [35]
  unfold Lib.cut
  rw [h]
  by_cases hi : Lib.index l [35] = -1
  · rw [hi]; rfl
  · have h0 : 0 ≤ Lib.index l [35] := by omega
    have hb : (Lib.index l [35] == -1) = false := by simpa using hi
    rw [hb]
    simp only [Bool.false_eq_true, if_false]
    rw [if_pos (by omega), if_pos h0]
    show List.take (Lib.index l [35] + 1).toNat (9 :: l) = 9 :: List.take (Lib.index l [35]).toNat l
    rw [show (Lib.index l [35] + 1).toNat = (Lib.index l [35]).toNat + 1 by omega]
    rfl
theorem toks_more (f : Nat) : ∀ l ts, toksT f l = some ts → ∀ g, f ≤ g → toksT g l = some ts := by
  induction f with
  | zero =>
    intro l ts h g hg
    cases l with
    | nil => cases g <;> exact h
    | cons c l => simp [toksT] at h
  | succ f ih =>
    intro l ts h g hg
    cases l with
    | nil => cases g <;> exact h
    | cons c l =>
      obtain ⟨g', rfl⟩ : ∃ g', g = g' + 1 := ⟨g - 1, by omega⟩
      rw [toksT] at h ⊢
      cases hf : firstT (c :: l) with
      | none => rw [hf] at h; cases h
      | some x =>
        rw [hf] at h
        dsimp only at h ⊢
        cases hq : toksT f (Lib.trimLeftS ((c :: l).drop x.t.length) [32, 9]) with
        | none => rw [hq] at h; cases h
        | some r =>
          rw [hq] at h
          rw [ih _ _ hq g' (by omega)]
          exact h
theorem line_tab (l : List UInt8) (ts : List Tk) (h : lineT l = some ts) : lineT ([9] ++ l) = some ts := by
  unfold lineT at h ⊢
  show toksT (l.length + 1) (Lib.trimLeftS (Lib.cut (9 :: l) [35]).1 [32, 9]) = _
  rw [cut_tab]
  exact toks_more _ _ _ h _ (by omega)
end Go.Proofs.YtgofjmhdgmfgfaaGreatDoor
namespace Go.Proofs.YtgofjmhdgmfgfaaGreatDoor
open Go.ChangeShapes Go.WideShapes Go.ChangeAt Go.RowKit
set_option linter.unusedVariables false

theorem nmB_parts {l : List UInt8} (h : nmB l = true) : l ≠ [] ∧ l.length ≤ 16 ∧ isDg (l.headD 0).toNat = false ∧ wlN l = l.length ∧ Lib.indexByte l 46 < 0 ∧ rgF l = none := by
  simp only [nmB, Bool.and_eq_true, Bool.not_eq_true', decide_eq_true_eq] at h
  obtain ⟨⟨⟨⟨⟨h1, h2⟩, h3⟩, h4⟩, h5⟩, h6⟩ := h
  exact ⟨by intro e; rw [e] at h1; simp at h1, h2, h3, h4, by omega, by cases hq : rgF l <;> simp_all⟩
theorem wl_mem {l : List UInt8} (h : wlN l = l.length) : ∀ c ∈ l, isWd c.toNat = true := by
  unfold wlN at h
  have : (l.takeWhile fun c => isWd c.toNat) = l := by
    have hs := List.takeWhile_sublist (l := l) (fun c => isWd c.toNat)
    exact hs.eq_of_length h
  intro c hc
  rw [← this] at hc
  clear this h
  induction l with
  | nil => cases hc
  | cons b l ih =>
    rw [List.takeWhile_cons] at hc
    split at hc
    · next hb =>
      rcases List.mem_cons.1 hc with rfl | hc
      · exact hb
      · exact ih hc
    · cases hc
theorem wd_plain : ∀ m : Fin 256, isWd m.val = true → Lib.indexByte [44, 58, 40, 41] (UInt8.ofNat m.val) < 0 ∧ UInt8.ofNat m.val ≠ 45 ∧ UInt8.ofNat m.val ≠ 10 ∧ UInt8.ofNat m.val ≠ 35 ∧ UInt8.ofNat m.val ≠ 32 ∧ UInt8.ofNat m.val ≠ 9 := by decide +kernel
theorem wd_plain' (c : UInt8) (h : isWd c.toNat = true) : Lib.indexByte [44, 58, 40, 41] c < 0 ∧ c ≠ 45 ∧ c ≠ 10 ∧ c ≠ 35 ∧ c ≠ 32 ∧ c ≠ 9 := by
  have := wd_plain ⟨c.toNat, c.toNat_lt⟩ h
  simpa using this
theorem nm_pl {l : List UInt8} (h : nmB l = true) : Pl l := fun c hc => by
  have := wd_plain' c (wl_mem (nmB_parts h).2.2.2.1 c hc)
  exact ⟨this.2.2.1, this.2.2.2.1⟩
/-- A label's line. -/
theorem line_lb {s : List UInt8} (h : nmB s = true) : lineT (s ++ [58]) = some [⟨1, s, 0⟩, ⟨3, [58], 0⟩] := by
  obtain ⟨h1, h2, h3, h4, h5, h6⟩ := nmB_parts h
  have hw := wl_mem h4
  have hp : Pl (s ++ [58]) := (nm_pl h).app (Pl.cons (by decide) Pl.nil)
  obtain ⟨c, l, rfl⟩ : ∃ c l, s = c :: l := by cases s with
    | nil => exact absurd rfl h1
    | cons c l => exact ⟨c, l, rfl⟩
  have hc := wd_plain' c (hw c List.mem_cons_self)
  have hq : ([32, 9] : List UInt8).contains c = false := by
    cases hq : ([32, 9] : List UInt8).contains c with
    | false => rfl
    | true =>
      have : c = 32 ∨ c = 9 := by simpa using hq
      rcases this with e | e
      · exact absurd e hc.2.2.2.2.1
      · exact absurd e hc.2.2.2.2.2
  have hT : TokOf ((c :: l) ++ [58]) [⟨1, c :: l, 0⟩, ⟨3, [58], 0⟩] := by
    refine TokOf.cons (by simp) (first_wd hc.1 hc.2.1 (by simpa using h3) hw (fun x hx => ?_)) rfl ?_
    · obtain rfl : 58 = x := by simpa using hx
      decide
    · rw [show Lib.trimLeftS ([58] : List UInt8) [32, 9] = [58] ++ [] from rfl]
      exact tok_sg (by decide) rfl TokOf.nil
  unfold lineT
  rw [cut_none _ (fun hc => (hp 35 hc).2 rfl)]
  have ht : Lib.trimLeftS ((c :: l) ++ [58]) [32, 9] = (c :: l) ++ [58] := by
    show List.dropWhile (fun x => ([32, 9] : List UInt8).contains x) (c :: (l ++ [58])) = c :: (l ++ [58])
    rw [List.dropWhile_cons_of_neg (by rw [hq]; decide)]
  rw [ht]
  exact hT _ (Nat.le_refl _)
theorem ln_lb (k : Nat) (st : ASt) (s : List UInt8) (h : nmB s = true) (hn : plF st.lb s = none) (ha : st.org + 4 * st.dr.length < 4294967296) (hd : st.dr.length ≤ 4096) (hl : st.lb.length < 100000) :
    lnM k st (s ++ [58]) = some ⟨st.mv, st.org, st.dr, st.lb ++ [(s, st.org + 4 * st.dr.length)]⟩ := by
  obtain ⟨h1, h2, h3, h4, h5, h6⟩ := nmB_parts h
  have hL := line_lb h
  have hb : lbN [⟨1, s, 0⟩, ⟨3, [58], 0⟩] = some ([s], []) := by
    rw [lbN, if_pos rfl, if_pos ⟨h, rfl⟩]
    rfl
  have he : entL [s] (st.org + 4 * st.dr.length) st.lb = some (st.lb ++ [(s, st.org + 4 * st.dr.length)]) := by
    rw [entL, if_pos ⟨hn, h2⟩]
    rfl
  simp only [lnM, hL, hb, stM, he]
  rw [if_pos (by refine ⟨.inr ha, by simpa using hd, ?_, by simp, ?_, by omega⟩ <;> simp <;> omega)]
  simp
/-- What is drafted of a word. -/
def dfM (v : Nat) : Dr := if de v = 0 then ⟨0, 3, dO v, dD v, dA v, dB v, 0, [], dI v⟩ else ⟨0, 0, 0, 0, 0, 0, 0, [], v⟩
theorem df_dn (v : Nat) (hv : v < 4294967296) (n : Int) : Dn ((dfM v).at n) v := by
  unfold dfM
  by_cases hd : de v = 0
  · rw [if_pos hd]
    obtain ⟨hc, hw⟩ := enc_dec hd
    obtain ⟨n0, n1⟩ := ck_imm hc
    refine ⟨rfl, ?_⟩
    show wordM ⟨n, 3, dO v, dD v, dA v, dB v, 0, [], dI v⟩ (dI v) = _
    rw [wordM, if_pos rfl, if_pos ⟨by omega, by omega, hc⟩]
    unfold ew
    rw [if_pos hc, hw]
  · rw [if_neg hd]
    refine ⟨rfl, ?_⟩
    show wordM ⟨n, 0, 0, 0, 0, 0, 0, [], v⟩ (v : Int) = _
    rw [wordM, if_neg (by simp), if_pos rfl, if_pos (by omega)]
    congr 1
    omega
theorem lineM_toks (v a : Nat) (hv : v < 4294967296) : ∃ ts, lineT (lineM v a) = some ts ∧ ts.length ≤ 7 ∧ lbN ts = some ([], ts) ∧ ∀ mv nd nl nn, stM mv nd nl nn ts = some (false, 0, [dfM v]) := by
  unfold lineM dfM
  by_cases hd : de v = 0
  · obtain ⟨hc, hw⟩ := enc_dec hd
    have hlen := ot_len (fo (dO v)) (tk (dO v)) (dD v) (dA v) (dB v) (dI v)
    rw [if_pos hd, if_pos hd]
    refine ⟨⟨1, nm (dO v), 0⟩ :: otF (fo (dO v)) (tk (dO v)) (dD v) (dA v) (dB v) (dI v), ?_, by simp only [List.length_cons]; omega, lb_none _ _ (ot_colon _ _ _ _ _ _), fun mv nd nl nn => st_tx mv nd nl nn _ _ _ _ _ hc⟩
    cases hg : gbd (dO v) with
    | true => rw [if_pos rfl]; exact line_txc _ _ _ _ _ hc _
    | false => rw [if_neg (by decide)]; exact line_tx _ _ _ _ _ hc
  · rw [if_neg hd, if_neg hd]
    refine ⟨[⟨1, [46, 119, 111, 114, 100], 0⟩, ⟨2, hex8 v, v⟩], line_word v hv, by simp, ?_, fun mv nd nl nn => ?_⟩
    · obtain ⟨t, ht⟩ := hex8_cons v hv
      rw [lbN, if_neg (by rw [ht]; simp)]
    · unfold stM
      dsimp only
      rw [if_neg (by simp), if_pos rfl, if_pos (by simp)]
      rfl
theorem ln_wd (k : Nat) (st : ASt) (v a : Nat) (hv : v < 4294967296) (hd : st.dr.length < 4096) (ho : st.org + 4 * (st.dr.length + 1) ≤ 4294967296) (hl : st.lb.length < 100000) :
    lnM k st ([9] ++ lineM v a) = some ⟨st.mv, st.org, st.dr ++ [(dfM v).at (k : Nat)], st.lb⟩ := by
  obtain ⟨ts, h1, h2, h3, h4⟩ := lineM_toks v a hv
  have hL := line_tab _ _ h1
  simp only [lnM, hL, h3, List.length_nil, h4, entL]
  rw [if_pos (by refine ⟨.inl trivial, ?_, ?_, by omega, ?_, by omega⟩ <;> simp <;> omega)]
  simp
theorem ln_nil (k : Nat) (st : ASt) (hd : st.dr.length ≤ 4096) (ho : st.org + 4 * st.dr.length ≤ 4294967296) (hl : st.lb.length < 100000) : lnM k st [] = some st := by
  have hL : lineT [] = some [] := rfl
  simp only [lnM, hL, lbN, stM, entL]
  rw [if_pos (by refine ⟨.inl trivial, ?_, ?_, by simp, ?_, by omega⟩ <;> simp <;> omega)]
  simp
theorem org_toks (org : Nat) (ho : org < 4294967296) : lineT (orgL org) = some [⟨1, [46, 111, 114, 103], 0⟩, ⟨2, hex8 org, org⟩] := by
  have h35 : (35 : UInt8) ∉ [46, 111, 114, 103, 32] ++ hex8 org := by
    intro h
    rcases List.mem_append.1 h with h | h
    · revert h; decide
    · exact (hex8_word org ho 35 h).2.2 rfl
  have hT : TokOf ([46, 111, 114, 103] ++ (32 :: hex8 org)) [⟨1, [46, 111, 114, 103], 0⟩, ⟨2, hex8 org, org⟩] := by
    refine TokOf.cons (by simp) (first_wd (by decide) (by decide) (by decide) (by decide) (fun x hx => ?_)) rfl ?_
    · obtain rfl : 32 = x := by simpa using hx
      decide
    · obtain ⟨t, ht⟩ := hex8_cons org ho
      have hf := first_hex8 org ho
      have e : Lib.trimLeftS (32 :: hex8 org) [32, 9] = hex8 org ++ [] := by rw [ht, List.append_nil]; rfl
      rw [e]
      refine TokOf.cons (by rw [ht]; simp) (by rw [List.append_nil]; exact hf) rfl ?_
      exact TokOf.nil
  unfold lineT orgL
  rw [cut_none _ h35]
  have e : Lib.trimLeftS ([46, 111, 114, 103, 32] ++ hex8 org) [32, 9] = [46, 111, 114, 103] ++ (32 :: hex8 org) := rfl
  rw [e]
  exact hT _ (by simp)
theorem org_stm (org : Nat) (ho : org < 4294967296) (h4 : org % 4 = 0) : stM false 0 0 0 [⟨1, [46, 111, 114, 103], 0⟩, ⟨2, hex8 org, org⟩] = some (true, org, []) := by
  have hc : (2 : Nat) = 2 ∧ (0 : Int) ≤ (org : Int) ∧ (org : Int) < 4294967296 ∧ (org : Int) % 4 = 0 := ⟨rfl, by omega, by omega, by omega⟩
  unfold stM
  dsimp only
  rw [if_pos rfl, if_pos ⟨rfl, rfl, rfl, rfl⟩, if_pos hc, Int.toNat_natCast]
theorem ln_org' (st : ASt) (org : Nat) (ho : org < 4294967296) (h4 : org % 4 = 0) (h1 : st.mv = false) (h2 : st.dr.length = 0) (h3 : st.lb.length = 0) (h5 : st.org ≤ 4294967296) : lnM 1 st (orgL org) = some ⟨st.mv || true, org, st.dr ++ [], st.lb⟩ := by
  have hL := org_toks org ho
  have hb : lbN [⟨1, [46, 111, 114, 103], 0⟩, ⟨2, hex8 org, org⟩] = some ([], [⟨1, [46, 111, 114, 103], 0⟩, ⟨2, hex8 org, org⟩]) := by
    obtain ⟨t, ht⟩ := hex8_cons org ho
    rw [lbN, if_neg (by rw [ht]; simp)]
  have hs : stM st.mv st.dr.length st.lb.length ([] : List (List UInt8)).length [⟨1, [46, 111, 114, 103], 0⟩, ⟨2, hex8 org, org⟩] = some (true, org, []) := by
    rw [h1, h2, h3]
    exact org_stm org ho h4
  simp only [List.length_nil] at hs
  simp only [lnM, hL, hb, List.length_nil, hs, entL]
  rw [if_pos (by refine ⟨.inl trivial, by omega, ?_, by simp, by omega, h5⟩; simp; omega)]
  simp
theorem ln_org (org : Nat) (ho : org < 4294967296) (h4 : org % 4 = 0) : lnM 1 ⟨false, 0, [], []⟩ (orgL org) = some ⟨true, org, [], []⟩ :=
  ln_org' ⟨false, 0, [], []⟩ org ho h4 rfl rfl rfl (Nat.zero_le _)
end Go.Proofs.YtgofjmhdgmfgfaaGreatDoor
namespace Go.Proofs.YtgofjmhdgmfgfaaGreatDoor
open Go.ChangeShapes Go.WideShapes Go.ChangeAt Go.RowKit
set_option linter.unusedVariables false

theorem pl_add (lb : List (List UInt8 × Nat)) (s t : List UInt8) (a : Nat) (h : plF lb t = none) (hne : t ≠ s) : plF (lb ++ [(s, a)]) t = none := by
  unfold plF at h ⊢
  have h' : lb.find? (fun p => decide (p.1 = t)) = none := by simpa using h
  rw [List.find?_append, h']
  simp
  exact fun e => hne e.symm
theorem lm_all (T : Nat) (lb : List (List UInt8 × Nat)) : ∀ least seen, lmM T least seen lb = true → ∀ x ∈ lb, least ≤ x.2 ∧ x.2 ≤ T ∧ x.2 < 4294967296 ∧ nmB x.1 = true := by
  induction lb with
  | nil => intro least seen _ x hx; cases hx
  | cons y lb ih =>
    intro least seen h x hx
    obtain ⟨s, a⟩ := y
    obtain ⟨h1, h2, h3, h4, h5, h6, h7⟩ := lmM_seen h
    rcases List.mem_cons.1 hx with rfl | hx
    · exact ⟨h4, h5, h6, h1⟩
    · obtain ⟨q1, q2⟩ := ih a (s :: seen) h7 x hx
      exact ⟨by omega, q2⟩
theorem lm_least (T : Nat) (lb : List (List UInt8 × Nat)) (least a : Nat) (seen : List (List UInt8)) (h : lmM T least seen lb = true) (ha : ∀ x r, lb = x :: r → a ≤ x.2) : lmM T a seen lb = true := by
  cases lb with
  | nil => rfl
  | cons x lb =>
    obtain ⟨s, b⟩ := x
    have hb := ha _ _ rfl
    obtain ⟨h1, h2, h3, h4, h5, h6, h7⟩ := lmM_seen h
    simp only [lmM, Bool.and_eq_true, Bool.not_eq_true', decide_eq_true_eq]
    exact ⟨⟨⟨⟨⟨⟨h1, h2⟩, h3⟩, hb⟩, h5⟩, h6⟩, h7⟩
/-- Labels of one place, line by line. -/
theorem run_lbs (T a : Nat) (l rest : List (List UInt8 × Nat)) (more : List (List UInt8)) : ∀ least k seen (st : ASt), (∀ x ∈ l, x.2 = a) → lmM T least seen (l ++ rest) = true → (∀ s, seen.contains s = false → plF st.lb s = none) → st.org + 4 * st.dr.length = a → st.dr.length ≤ 4096 → st.lb.length + l.length < 100000 →
    ∃ seen' least', runL k st (l.map lbl ++ more) = runL (k + l.length) ⟨st.mv, st.org, st.dr, st.lb ++ l⟩ more ∧ lmM T least' seen' rest = true ∧ (∀ s, seen'.contains s = false → plF (st.lb ++ l) s = none) ∧ (least' = least ∨ least' = a) := by
  induction l with
  | nil =>
    intro least k seen st _ hm hi _ _ _
    refine ⟨seen, least, ?_, hm, by rw [List.append_nil]; exact hi, .inl rfl⟩
    rw [List.append_nil]
    rfl
  | cons x l ih =>
    intro least k seen st hx hm hi ha hd hl
    obtain ⟨s, b⟩ := x
    have hb : b = a := hx (s, b) List.mem_cons_self
    subst hb
    obtain ⟨h1, h2, h3, h4, h5, h6, h7⟩ := lmM_seen hm
    have hln := ln_lb k st s h1 (hi s h2) (by omega) hd (by simp only [List.length_cons] at hl; omega)
    rw [ha] at hln
    obtain ⟨seen', least', q1, q2, q3, q4⟩ := ih b (k + 1) (s :: seen) ⟨st.mv, st.org, st.dr, st.lb ++ [(s, b)]⟩ (fun y hy => hx y (List.mem_cons_of_mem _ hy)) h7 (fun t ht => by
      have ht2 : t ≠ s ∧ seen.contains t = false := by
        simp only [List.contains_cons, Bool.or_eq_false_iff] at ht
        exact ⟨by simpa using ht.1, ht.2⟩
      exact pl_add _ _ _ _ (hi t ht2.2) ht2.1) ha hd (by simp only [List.length_cons] at hl; simp only [List.length_append, List.length_cons, List.length_nil]; omega)
    refine ⟨seen', least', ?_, q2, ?_, ?_⟩
    · show runL k st ((s ++ [58]) :: (l.map lbl ++ more)) = _
      rw [runL, hln]
      dsimp only
      rw [q1]
      simp only [List.append_assoc, List.singleton_append, List.length_cons]
      rw [show k + 1 + l.length = k + (l.length + 1) by omega]
    · intro t ht
      have := q3 t ht
      simpa using this
    · rcases q4 with e | e
      · exact .inr e
      · exact .inr e
/-- Words and labels, line by line. -/
theorem run_ws (T : Nat) (hT : T ≤ 4294967296) (ws : List Nat) : ∀ a k seen lb (st : ASt) done, lmM T a seen lb = true → (∀ s, seen.contains s = false → plF st.lb s = none) → st.org + 4 * st.dr.length = a → T = a + 4 * ws.length → a % 4 = 0 → st.dr.length + ws.length ≤ 4096 → st.lb.length + lb.length < 100000 → (∀ x ∈ ws, x < 4294967296) → Dns st.dr done →
    ∃ st', runL k st (linesW a ws lb ++ [[]]) = some st' ∧ st'.org = st.org ∧ st'.lb = st.lb ++ lb ∧ Dns st'.dr (done ++ ws) := by
  induction ws with
  | nil =>
    intro a k seen lb st done hm hi ha hT2 h4 hd hl hv hD
    have hall := lm_all T lb a seen hm
    have hTa : T = a := by simpa using hT2
    obtain ⟨seen', least', q1, q2, q3, q4⟩ := run_lbs T a lb [] [[]] a k seen st (fun x hx => by have := hall x hx; omega) (by rw [List.append_nil]; exact hm) hi ha (by simpa using hd) hl
    refine ⟨⟨st.mv, st.org, st.dr, st.lb ++ lb⟩, ?_, rfl, rfl, by rw [List.append_nil]; exact hD⟩
    show runL k st (lb.map lbl ++ [[]]) = _
    rw [q1, runL, ln_nil _ _ (by simpa using hd) (by show st.org + 4 * st.dr.length ≤ _; omega) (by show (st.lb ++ lb).length < _; rw [List.length_append]; exact hl)]
    rfl
  | cons v ws ih =>
    intro a k seen lb st done hm hi ha hT2 h4 hd hl hv hD
    simp only [List.length_cons] at hT2 hd
    have hsp : lb.takeWhile (isAt a) ++ lb.dropWhile (isAt a) = lb := List.takeWhile_append_dropWhile
    have hlen : (lb.takeWhile (isAt a)).length + (lb.dropWhile (isAt a)).length = lb.length := by rw [← List.length_append, hsp]
    have htw : ∀ x ∈ lb.takeWhile (isAt a), x.2 = a := by
      intro x hx
      have : ∀ (l : List (List UInt8 × Nat)), x ∈ l.takeWhile (isAt a) → x.2 = a := by
        intro l
        induction l with
        | nil => intro h; cases h
        | cons y l ih2 =>
          intro h
          rw [List.takeWhile_cons] at h
          split at h
          · next hb =>
            rcases List.mem_cons.1 h with rfl | h
            · simpa [isAt] using hb
            · exact ih2 h
          · cases h
      exact this lb hx
    have hdw : ∀ x r, lb.dropWhile (isAt a) = x :: r → x.2 ≠ a := by
      intro x r
      have : ∀ (l : List (List UInt8 × Nat)), l.dropWhile (isAt a) = x :: r → x.2 ≠ a := by
        intro l
        induction l with
        | nil => intro h; cases h
        | cons y l ih2 =>
          intro h
          rw [List.dropWhile_cons] at h
          split at h
          · exact ih2 h
          · next hb =>
            obtain ⟨rfl, _⟩ := List.cons.inj h
            simpa [isAt] using hb
      exact this lb
    obtain ⟨seen', least', q1, q2, q3, q4⟩ := run_lbs T a (lb.takeWhile (isAt a)) (lb.dropWhile (isAt a)) (([9] ++ lineM v a) :: (linesW (a + 4) ws (lb.dropWhile (isAt a)) ++ [[]])) a k seen st htw (by rw [hsp]; exact hm) hi ha (by omega) (by omega)
    have hla : least' = a := by rcases q4 with e | e <;> exact e
    subst hla
    have hm2 : lmM T (least' + 4) seen' (lb.dropWhile (isAt least')) = true := by
      refine lm_least T _ least' (least' + 4) seen' q2 (fun x r e => ?_)
      have h1 := hdw x r e
      rw [e] at q2
      obtain ⟨s, b⟩ := x
      obtain ⟨_, _, h3, h4', _⟩ := lmM_seen q2
      have h1' : b ≠ least' := h1
      show least' + 4 ≤ b
      omega
    have hw := ln_wd (k + (lb.takeWhile (isAt least')).length) ⟨st.mv, st.org, st.dr, st.lb ++ lb.takeWhile (isAt least')⟩ v least' (hv v List.mem_cons_self) (by show st.dr.length < 4096; omega) (by show st.org + 4 * (st.dr.length + 1) ≤ _; omega) (by show (st.lb ++ _).length < _; rw [List.length_append]; omega)
    obtain ⟨st', r1, r2, r3, r4⟩ := ih (least' + 4) (k + (lb.takeWhile (isAt least')).length + 1) seen' (lb.dropWhile (isAt least')) ⟨st.mv, st.org, st.dr ++ [(dfM v).at ((k + (lb.takeWhile (isAt least')).length : Nat) : Int)], st.lb ++ lb.takeWhile (isAt least')⟩ (done ++ [v]) hm2 q3 (by show st.org + 4 * (st.dr ++ [_]).length = _; rw [List.length_append]; simp; omega) (by omega) (by omega) (by show (st.dr ++ [_]).length + ws.length ≤ 4096; rw [List.length_append]; simp; omega) (by show (st.lb ++ _).length + _ < _; rw [List.length_append]; omega) (fun x hx => hv x (List.mem_cons_of_mem _ hx)) (hD.app (df_dn v (hv v List.mem_cons_self) _))
    refine ⟨st', ?_, r2, ?_, ?_⟩
    · show runL k st (((lb.takeWhile (isAt least')).map lbl ++ ([9] ++ lineM v least') :: linesW (least' + 4) ws (lb.dropWhile (isAt least'))) ++ [[]]) = _
      rw [List.append_assoc, List.cons_append, q1, runL, hw]
      exact r1
    · rw [r3]
      show (st.lb ++ lb.takeWhile (isAt least')) ++ lb.dropWhile (isAt least') = _
      rw [List.append_assoc, hsp]
    · simpa using r4
theorem lines_nl (ws : List Nat) : ∀ a lb, (∀ x ∈ ws, x < 4294967296) → (∀ x ∈ lb, nmB x.1 = true) → ∀ l ∈ linesW a ws lb, (10 : UInt8) ∉ l := by
  have hlb : ∀ (lb : List (List UInt8 × Nat)), (∀ x ∈ lb, nmB x.1 = true) → ∀ l ∈ lb.map lbl, (10 : UInt8) ∉ l := by
    intro lb h l hl
    obtain ⟨x, hx, rfl⟩ := List.mem_map.1 hl
    intro h10
    rcases List.mem_append.1 h10 with h1 | h1
    · exact (nm_pl (h x hx) 10 h1).1 rfl
    · revert h1; decide
  induction ws with
  | nil => intro a lb _ h l hl; exact hlb lb h l hl
  | cons v ws ih =>
    intro a lb hv h l hl
    rcases List.mem_append.1 hl with hl | hl
    · exact hlb _ (fun x hx => h x ((List.takeWhile_sublist _).subset hx)) l hl
    · rcases List.mem_cons.1 hl with rfl | hl
      · intro h10
        rcases List.mem_append.1 h10 with h1 | h1
        · revert h1; decide
        · exact (line_back v a (hv v List.mem_cons_self)).1 h1
      · exact ih _ _ (fun x hx => hv x (List.mem_cons_of_mem _ hx)) (fun x hx => h x ((List.dropWhile_sublist _).subset hx)) l hl
theorem catL_len (ls : List (List UInt8)) : ls.length ≤ (catL ls).length ∧ ∀ l ∈ ls, l.length ≤ (catL ls).length := by
  induction ls with
  | nil => exact ⟨Nat.le_refl _, fun l hl => by cases hl⟩
  | cons x ls ih =>
    have hl : (catL (x :: ls)).length = x.length + 1 + (catL ls).length := by show (x ++ 10 :: catL ls).length = _; simp; omega
    refine ⟨by simp only [List.length_cons]; omega, fun l h => ?_⟩
    rcases List.mem_cons.1 h with rfl | h
    · omega
    · have := ih.2 l h; omega
theorem lbT_len (lb : List (List UInt8 × Nat)) : lb.length ≤ (lbT lb).length := by
  induction lb with
  | nil => exact Nat.le_refl _
  | cons x lb ih => show _ ≤ ((x.1 ++ [58, 10]) ++ lbT lb).length; simp; omega
theorem srcW_len (ws : List Nat) : ∀ a lb, lb.length ≤ (srcW a ws lb).length := by
  induction ws with
  | nil => intro a lb; exact lbT_len lb
  | cons v ws ih =>
    intro a lb
    have h1 := lbT_len (lb.takeWhile (isAt a))
    have h2 := ih (a + 4) (lb.dropWhile (isAt a))
    have hlen : (lb.takeWhile (isAt a)).length + (lb.dropWhile (isAt a)).length = lb.length := by rw [← List.length_append, List.takeWhile_append_dropWhile]
    rw [srcW]
    simp only [List.length_append]
    omega
/-- What was written is read: the whole source. -/
theorem src_back (org : Nat) (ws : List Nat) (lb : List (List UInt8 × Nat)) (ho : org < 4294967296) (h4 : org % 4 = 0) (hn : ws.length ≤ 4096) (hT : org + 4 * ws.length ≤ 4294967296) (hv : ∀ x ∈ ws, x < 4294967296) (hM : lmM (org + 4 * ws.length) org [] lb = true) (hR : (srcM org ws lb).length ≤ 20000) :
    ∃ ls st, Lib.splitB (sb [10]) 0 (Lib.countB (sb (srcM org ws lb)) (sb [10])) (sb (srcM org ws lb)) = ls.map sb ∧ (∀ t ∈ ls, t.length < 1000000) ∧ ls.length < 1000000 ∧ runL 1 ⟨false, 0, [], []⟩ ls = some st ∧ imgM st.lb st.org 0 st.dr = some (ws.map fun (n : Nat) => (n : Int)) ∧ st.org = org ∧ st.lb = lb ∧ st.dr.length ≤ 4096 := by
  have hall := lm_all _ lb _ _ hM
  have hlb : lb.length ≤ 20000 := by
    have h1 := srcW_len ws org lb
    have h2 : (srcW org ws lb).length ≤ (srcM org ws lb).length := by rw [srcM]; simp only [List.length_append]; omega
    omega
  have hnl : ∀ l ∈ orgL org :: linesW org ws lb, (10 : UInt8) ∉ l := by
    intro l hl
    rcases List.mem_cons.1 hl with rfl | hl
    · intro h10
      rcases List.mem_append.1 h10 with h | h
      · revert h; decide
      · exact (hex8_word org ho 10 h).2.1 rfl
    · exact lines_nl ws org lb hv (fun x hx => (hall x hx).2.2.2) l hl
  have hcl := catL_len (orgL org :: linesW org ws lb)
  rw [← cat_all] at hcl
  obtain ⟨st, r1, r2, r3, r4⟩ := run_ws (org + 4 * ws.length) hT ws org 2 [] lb ⟨true, org, [], []⟩ [] hM (fun s _ => rfl) rfl rfl h4 (by simpa using hn) (by show 0 + lb.length < 100000; omega) hv trivial
  refine ⟨(orgL org :: linesW org ws lb) ++ [[]], st, ?_, ?_, ?_, ?_, img_dns _ _ _ _ _ (by simpa using r4), r2, by simpa using r3, ?_⟩
  · rw [cat_all]; exact split_all _ hnl
  · intro t ht
    rcases List.mem_append.1 ht with h | h
    · have := hcl.2 t h; omega
    · obtain rfl : t = [] := by simpa using h
      simp
  · rw [List.length_append]
    have := hcl.1
    simp only [List.length_nil, List.length_cons] at this ⊢
    omega
  · show runL 1 _ (orgL org :: (linesW org ws lb ++ [[]])) = _
    rw [runL, ln_org org ho h4]
    exact r1
  · have := r4.len
    simp only [List.nil_append] at this
    omega
end Go.Proofs.YtgofjmhdgmfgfaaGreatDoor
