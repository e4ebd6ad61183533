import Derived.Test.YtgofjmhdgmfgfaaGreatDoorDc
namespace Go.Proofs.YtgofjmhdgmfgfaaGreatDoor
open Go.ChangeShapes Go.WideShapes Go.ChangeAt Go.RowKit
set_option linter.unusedVariables false

/-- Blanks made longer. -/
inductive Ex : List UInt8 → List UInt8 → Prop
  | nil : Ex [] []
  | ch (c : UInt8) (l l' : List UInt8) (h : c ≠ 32) (hl : Ex l l') : Ex (c :: l) (c :: l')
  | bl (f l l' : List UInt8) (hf : f ≠ []) (hb : ∀ y ∈ f, y = 32 ∨ y = 9) (hl : Ex l l') : Ex (32 :: l) (f ++ l')
theorem bl_wd (y : UInt8) (h : y = 32 ∨ y = 9) : isWd y.toNat = false := by rcases h with rfl | rfl <;> decide
theorem wl_app (a r : List UInt8) (ha : ∀ c ∈ a, isWd c.toNat = true) (hr : ∀ c, r.head? = some c → isWd c.toNat = false) : wlN (a ++ r) = a.length := wl_all a r ha hr
theorem tw_split (l : List UInt8) : ∃ a r, l = a ++ r ∧ (∀ c ∈ a, isWd c.toNat = true) ∧ (∀ c, r.head? = some c → isWd c.toNat = false) ∧ wlN l = a.length := by
  induction l with
  | nil => exact ⟨[], [], rfl, (fun c h => by cases h), (fun c h => by cases h), rfl⟩
  | cons b l ih =>
    obtain ⟨a, r, e, h1, h2, h3⟩ := ih
    by_cases hb : isWd b.toNat = true
    · refine ⟨b :: a, r, by rw [e]; rfl, fun c hc => ?_, h2, ?_⟩
      · rcases List.mem_cons.1 hc with rfl | hc
        · exact hb
        · exact h1 c hc
      · unfold wlN at h3 ⊢
        rw [List.takeWhile_cons_of_pos (by simpa using hb)]
        simp [h3]
    · refine ⟨[], b :: l, rfl, (fun c h => by cases h), fun c hc => ?_, ?_⟩
      · obtain rfl : b = c := by simpa using hc
        simpa using hb
      · unfold wlN
        rw [List.takeWhile_cons_of_neg (by simpa using hb)]
/-- A token hangs on what stands behind it only by whether that is of a word. -/
theorem first_swap {l : List UInt8} {x : Tk} (h : firstT l = some x) : ∃ r, l = x.t ++ r ∧ x.t ≠ [] ∧ (∀ y ∈ x.t, y ≠ 32 ∧ y ≠ 9) ∧ ∀ r', (∀ y, r'.head? = some y → isWd y.toNat = false ∨ r.head? = some y) → firstT (x.t ++ r') = some x := by
  cases l with
  | nil => simp [firstT] at h
  | cons c l =>
    rw [firstT] at h
    by_cases hs : 0 ≤ Lib.indexByte [44, 58, 40, 41] c
    · rw [if_pos hs] at h
      obtain rfl : (⟨3, [c], 0⟩ : Tk) = x := by simpa using h
      refine ⟨l, rfl, by simp, fun y hy => ?_, fun r' _ => first_sg hs⟩
      obtain rfl : y = c := by simpa using hy
      constructor
      · rintro rfl; revert hs; decide
      · rintro rfl; revert hs; decide
    · rw [if_neg hs] at h
      have wdb : ∀ y : UInt8, isWd y.toNat = true → y ≠ 32 ∧ y ≠ 9 := fun y hy => by
        constructor <;> (rintro rfl; revert hy; decide)
      by_cases hd : c = 45 ∨ isDg c.toNat = true
      · rw [if_pos hd] at h
        by_cases h45 : c = 45
        · subst h45
          have hp : ∀ q : List UInt8, Lib.hasPrefix (45 :: q) [45] = true := fun q => by simp [Lib.hasPrefix, List.isPrefixOf]
          obtain ⟨a, r, e, h1, h2, h3⟩ := tw_split l
          have key : ∀ q : List UInt8, wlN q = a.length → q.take a.length = a → numTok (45 :: q) = (numM a).map fun (n : Nat) => (⟨2, 45 :: a, -(n : Int)⟩ : Tk) := fun q w1 w2 => by
            unfold numTok
            rw [if_pos (hp q)]
            show (numM (q.take (wlN q))).map (fun (n : Nat) => (⟨2, (45 :: q).take (1 + (q.take (wlN q)).length), -(n : Int)⟩ : Tk)) = _
            rw [w1, w2, Nat.add_comm, List.take_succ_cons, w2]
          rw [key l h3 (by rw [e]; exact List.take_left)] at h
          obtain ⟨n, hn, rfl⟩ : ∃ n, numM a = some n ∧ (⟨2, 45 :: a, -(n : Int)⟩ : Tk) = x := by
            cases hq : numM a with
            | none => rw [hq] at h; cases h
            | some n => rw [hq] at h; exact ⟨n, rfl, by simpa using h⟩
          refine ⟨r, by rw [e]; rfl, by simp, fun y hy => ?_, fun r' hr' => ?_⟩
          · rcases List.mem_cons.1 hy with rfl | hy
            · exact ⟨by decide, by decide⟩
            · exact wdb y (h1 y hy)
          · have w1 : wlN (a ++ r') = a.length := wl_all a r' h1 (fun y hy => by
              rcases hr' y hy with g | g
              · exact g
              · exact h2 y g)
            show firstT (45 :: (a ++ r')) = _
            rw [firstT, if_neg hs, if_pos (.inl rfl), key _ w1 List.take_left, hn]
            rfl
        · have hdg : isDg c.toNat = true := hd.resolve_left h45
          have hp : ∀ q : List UInt8, ¬ Lib.hasPrefix (c :: q) [45] = true := fun q hq => by
            simp [Lib.hasPrefix, List.isPrefixOf] at hq
            exact h45 hq.symm
          obtain ⟨a, r, e, h1, h2, h3⟩ := tw_split (c :: l)
          have key : ∀ q : List UInt8, ¬ Lib.hasPrefix q [45] = true → wlN q = a.length → q.take a.length = a → numTok q = (numM a).map fun (n : Nat) => (⟨2, a, (n : Int)⟩ : Tk) := fun q w0 w1 w2 => by
            unfold numTok
            rw [if_neg w0, w1, w2]
          rw [key (c :: l) (hp l) h3 (by rw [e]; exact List.take_left)] at h
          obtain ⟨n, hn, rfl⟩ : ∃ n, numM a = some n ∧ (⟨2, a, (n : Int)⟩ : Tk) = x := by
            cases hq : numM a with
            | none => rw [hq] at h; cases h
            | some n => rw [hq] at h; exact ⟨n, rfl, by simpa using h⟩
          have hcw : isWd c.toNat = true := by unfold isWd; simp [hdg]
          obtain ⟨a', rfl⟩ : ∃ a', a = c :: a' := by
            cases a with
            | nil =>
              have : isWd c.toNat = false := h2 c (by rw [← List.nil_append r, ← e]; rfl)
              rw [hcw] at this; cases this
            | cons b a' =>
              obtain ⟨rfl, _⟩ := List.cons.inj e
              exact ⟨a', rfl⟩
          refine ⟨r, e, by simp, fun y hy => wdb y (h1 y hy), fun r' hr' => ?_⟩
          have w1 : wlN ((c :: a') ++ r') = (c :: a').length := wl_all _ r' h1 (fun y hy => by
            rcases hr' y hy with g | g
            · exact g
            · exact h2 y g)
          show firstT (c :: (a' ++ r')) = _
          rw [firstT, if_neg hs, if_pos hd, key (c :: (a' ++ r')) (hp _) w1 (show List.take (c :: a').length ((c :: a') ++ r') = c :: a' from List.take_left), hn]
          rfl
      · rw [if_neg hd] at h
        by_cases hw : isWd c.toNat = true
        · rw [if_pos hw] at h
          obtain ⟨a, r, e, h1, h2, h3⟩ := tw_split (c :: l)
          rw [h3] at h
          have ht : (c :: l).take a.length = a := by rw [e]; exact List.take_left
          rw [ht] at h
          obtain rfl : (⟨1, a, 0⟩ : Tk) = x := by simpa using h
          obtain ⟨a', rfl⟩ : ∃ a', a = c :: a' := by
            cases a with
            | nil =>
              have : isWd c.toNat = false := h2 c (by rw [← List.nil_append r, ← e]; rfl)
              rw [hw] at this; cases this
            | cons b a' =>
              obtain ⟨rfl, _⟩ := List.cons.inj e
              exact ⟨a', rfl⟩
          refine ⟨r, e, by simp, fun y hy => wdb y (h1 y hy), fun r' hr' => ?_⟩
          have w1 : wlN ((c :: a') ++ r') = (c :: a').length := wl_all _ r' h1 (fun y hy => by
            rcases hr' y hy with g | g
            · exact g
            · exact h2 y g)
          show firstT (c :: (a' ++ r')) = _
          rw [firstT, if_neg hs, if_neg hd, if_pos hw]
          show some (⟨1, List.take (wlN ((c :: a') ++ r')) ((c :: a') ++ r'), 0⟩ : Tk) = _
          rw [w1, List.take_left]
        · rw [if_neg hw] at h; cases h
theorem Ex.app {a l l' : List UInt8} (ha : ∀ y ∈ a, y ≠ 32 ∧ y ≠ 9) (h : Ex (a ++ l) l') : ∃ r', l' = a ++ r' ∧ Ex l r' := by
  induction a generalizing l' with
  | nil => exact ⟨l', rfl, h⟩
  | cons c a ih =>
    have hc := ha c List.mem_cons_self
    cases h with
    | ch _ _ q h hl =>
      obtain ⟨r', e, hr⟩ := ih (fun y hy => ha y (List.mem_cons_of_mem _ hy)) hl
      exact ⟨r', by rw [e]; rfl, hr⟩
    | bl f _ q hf hb hl => exact absurd rfl hc.1
theorem trim_bl (f l : List UInt8) (hb : ∀ y ∈ f, y = 32 ∨ y = 9) : Lib.trimLeftS (f ++ l) [32, 9] = Lib.trimLeftS l [32, 9] := by
  induction f with
  | nil => rfl
  | cons c f ih =>
    have hc := hb c List.mem_cons_self
    show List.dropWhile (fun x => ([32, 9] : List UInt8).contains x) (c :: (f ++ l)) = _
    rw [List.dropWhile_cons_of_pos (by rcases hc with rfl | rfl <;> decide)]
    exact ih (fun y hy => hb y (List.mem_cons_of_mem _ hy))
/-- What is trimmed of both. -/
theorem Ex.trim {l l' : List UInt8} (h : Ex l l') : ∃ q', Lib.trimLeftS l' [32, 9] = q' ∧ Ex (Lib.trimLeftS l [32, 9]) q' := by
  induction h with
  | nil => exact ⟨[], rfl, Ex.nil⟩
  | ch c l l' h hl ih =>
    by_cases hc : c = 9
    · subst hc
      exact ih
    · have hq : ([32, 9] : List UInt8).contains c = false := by
        cases hq : ([32, 9] : List UInt8).contains c with
        | false => rfl
        | true =>
          have : c = 32 ∨ c = 9 := by simpa using hq
          rcases this with e | e
          · exact absurd e h
          · exact absurd e hc
      have e : ∀ q, Lib.trimLeftS (c :: q) [32, 9] = c :: q := fun q => by
        show List.dropWhile (fun x => ([32, 9] : List UInt8).contains x) (c :: q) = c :: q
        rw [List.dropWhile_cons_of_neg (by rw [hq]; decide)]
      exact ⟨c :: l', e l', by rw [e]; exact Ex.ch c l l' h hl⟩
  | bl f l l' hf hb hl ih =>
    obtain ⟨q', e, hq⟩ := ih
    exact ⟨q', by rw [trim_bl f l' hb]; exact e, hq⟩
theorem Ex.head {l l' t : List UInt8} (h : Ex l l') (ht : ∀ y ∈ t, y = 32 ∨ y = 9) : ∀ y, (l' ++ t).head? = some y → isWd y.toNat = false ∨ l.head? = some y := by
  intro y hy
  cases h with
  | nil =>
    cases t with
    | nil => cases hy
    | cons z t => obtain rfl : z = y := by simpa using hy
                  exact .inl (bl_wd _ (ht _ List.mem_cons_self))
  | ch c l l' h hl => obtain rfl : c = y := by simpa using hy
                      exact .inr rfl
  | bl f l l' hf hb hl =>
    cases f with
    | nil => exact absurd rfl hf
    | cons z f => obtain rfl : z = y := by simpa using hy
                  exact .inl (bl_wd _ (hb _ List.mem_cons_self))
theorem trim_idem (l : List UInt8) : Lib.trimLeftS (Lib.trimLeftS l [32, 9]) [32, 9] = Lib.trimLeftS l [32, 9] := by
  show List.dropWhile _ (List.dropWhile _ l) = List.dropWhile _ l
  induction l with
  | nil => rfl
  | cons c l ih =>
    by_cases hc : ([32, 9] : List UInt8).contains c = true
    · rw [List.dropWhile_cons_of_pos (by simpa using hc)]; exact ih
    · rw [List.dropWhile_cons_of_neg (by simpa using hc), List.dropWhile_cons_of_neg (by simpa using hc)]
theorem trim_tl (l t : List UInt8) (ht : ∀ y ∈ t, y = 32 ∨ y = 9) (hl : Lib.trimLeftS l [32, 9] = l) (hne : l ≠ []) : Lib.trimLeftS (l ++ t) [32, 9] = l ++ t := by
  cases l with
  | nil => exact absurd rfl hne
  | cons c l =>
    have hl' : List.dropWhile (fun x => ([32, 9] : List UInt8).contains x) (c :: l) = c :: l := hl
    show List.dropWhile (fun x => ([32, 9] : List UInt8).contains x) (c :: (l ++ t)) = c :: (l ++ t)
    by_cases hc : ([32, 9] : List UInt8).contains c = true
    · exfalso
      rw [List.dropWhile_cons_of_pos (by simpa using hc)] at hl'
      have h1 := congrArg List.length hl'
      have h2 : (l.dropWhile (fun x => ([32, 9] : List UInt8).contains x)).length ≤ l.length := (List.dropWhile_sublist _).length_le
      simp only [List.length_cons] at h1
      omega
    · rw [List.dropWhile_cons_of_neg (by simpa using hc)]
theorem trim_bl_end (t : List UInt8) (ht : ∀ y ∈ t, y = 32 ∨ y = 9) : Lib.trimLeftS t [32, 9] = [] := by
  have := trim_bl t [] ht
  rw [List.append_nil] at this
  rw [this]; rfl
/-- Tokens stay where blanks are made longer. -/
theorem toks_ex (f : Nat) : ∀ p p' t ts, Ex p p' → (∀ y ∈ t, y = 32 ∨ y = 9) → toksT f (Lib.trimLeftS p [32, 9]) = some ts → ∀ g, (p' ++ t).length ≤ g → toksT g (Lib.trimLeftS (p' ++ t) [32, 9]) = some ts := by
  induction f with
  | zero =>
    intro p p' t ts hE ht h g hg
    obtain ⟨q', e, hq⟩ := hE.trim
    cases hz : Lib.trimLeftS p [32, 9] with
    | cons c l => rw [hz] at h; simp [toksT] at h
    | nil =>
      rw [hz] at h hq
      have hts : ts = [] := by simpa [toksT] using h.symm
      subst hts
      have hq0 : q' = [] := by cases hq; rfl
      have e2 : Lib.trimLeftS (p' ++ t) [32, 9] = [] := by
        rw [hq0] at e
        have : ∀ l : List UInt8, Lib.trimLeftS l [32, 9] = [] → Lib.trimLeftS (l ++ t) [32, 9] = [] := by
          intro l
          induction l with
          | nil => intro _; exact trim_bl_end t ht
          | cons c l ih =>
            intro hl
            have hl' : List.dropWhile (fun x => ([32, 9] : List UInt8).contains x) (c :: l) = [] := hl
            by_cases hc : ([32, 9] : List UInt8).contains c = true
            · rw [List.dropWhile_cons_of_pos (by simpa using hc)] at hl'
              show List.dropWhile (fun x => ([32, 9] : List UInt8).contains x) (c :: (l ++ t)) = []
              rw [List.dropWhile_cons_of_pos (by simpa using hc)]
              exact ih hl'
            · rw [List.dropWhile_cons_of_neg (by simpa using hc)] at hl'
              cases hl'
        exact this p' e
      rw [e2]
      cases g <;> rfl
  | succ f ih =>
    intro p p' t ts hE ht h g hg
    obtain ⟨q', e, hq⟩ := hE.trim
    cases hz : Lib.trimLeftS p [32, 9] with
    | nil =>
      have h0 : toksT 0 (Lib.trimLeftS p [32, 9]) = some ts := by
        rw [hz] at h ⊢
        simpa [toksT] using h
      -- as with no fuel
      have hts : ts = [] := by rw [hz] at h0; simpa [toksT] using h0.symm
      subst hts
      rw [hz] at hq
      have hq0 : q' = [] := by cases hq; rfl
      have e2 : Lib.trimLeftS (p' ++ t) [32, 9] = [] := by
        rw [hq0] at e
        have : ∀ l : List UInt8, Lib.trimLeftS l [32, 9] = [] → Lib.trimLeftS (l ++ t) [32, 9] = [] := by
          intro l
          induction l with
          | nil => intro _; exact trim_bl_end t ht
          | cons c l ih =>
            intro hl
            have hl' : List.dropWhile (fun x => ([32, 9] : List UInt8).contains x) (c :: l) = [] := hl
            by_cases hc : ([32, 9] : List UInt8).contains c = true
            · rw [List.dropWhile_cons_of_pos (by simpa using hc)] at hl'
              show List.dropWhile (fun x => ([32, 9] : List UInt8).contains x) (c :: (l ++ t)) = []
              rw [List.dropWhile_cons_of_pos (by simpa using hc)]
              exact ih hl'
            · rw [List.dropWhile_cons_of_neg (by simpa using hc)] at hl'
              cases hl'
        exact this p' e
      rw [e2]
      cases g <;> rfl
    | cons c l =>
      rw [hz] at h hq
      rw [toksT] at h
      cases hf : firstT (c :: l) with
      | none => rw [hf] at h; cases h
      | some x =>
        rw [hf] at h
        dsimp only at h
        obtain ⟨r, el, hne, hxb, hsw⟩ := first_swap hf
        have hdr : (c :: l).drop x.t.length = r := by rw [el]; exact List.drop_left
        rw [hdr] at h
        cases hq2 : toksT f (Lib.trimLeftS r [32, 9]) with
        | none => rw [hq2] at h; cases h
        | some ts' =>
          rw [hq2] at h
          obtain rfl : x :: ts' = ts := by simpa using h
          rw [el] at hq
          obtain ⟨r', eq', hE'⟩ := Ex.app hxb hq
          have hqt : Lib.trimLeftS q' [32, 9] = q' := by rw [← e]; exact trim_idem _
          have hqne : q' ≠ [] := by rw [eq']; intro hh; exact hne (List.append_eq_nil_iff.1 hh).1
          have e3 : Lib.trimLeftS (p' ++ t) [32, 9] = q' ++ t := by
            have hsp : ∃ b, p' = b ++ q' ∧ ∀ y ∈ b, y = 32 ∨ y = 9 := by
              have : ∀ l : List UInt8, ∃ b, l = b ++ Lib.trimLeftS l [32, 9] ∧ ∀ y ∈ b, y = 32 ∨ y = 9 := by
                intro l
                induction l with
                | nil => exact ⟨[], rfl, fun y hy => by cases hy⟩
                | cons c l ih =>
                  by_cases hc : ([32, 9] : List UInt8).contains c = true
                  · obtain ⟨b, e, hb⟩ := ih
                    have ec : Lib.trimLeftS (c :: l) [32, 9] = Lib.trimLeftS l [32, 9] := by
                      show List.dropWhile (fun x => ([32, 9] : List UInt8).contains x) (c :: l) = _
                      rw [List.dropWhile_cons_of_pos (by simpa using hc)]; rfl
                    refine ⟨c :: b, by rw [ec]; show c :: l = c :: (b ++ _); rw [← e], fun y hy => ?_⟩
                    rcases List.mem_cons.1 hy with rfl | hy
                    · simpa using hc
                    · exact hb y hy
                  · refine ⟨[], ?_, fun y hy => by cases hy⟩
                    show c :: l = List.dropWhile (fun x => ([32, 9] : List UInt8).contains x) (c :: l)
                    rw [List.dropWhile_cons_of_neg (by simpa using hc)]
              have := this p'
              rw [e] at this
              exact this
            obtain ⟨b, eb, hb⟩ := hsp
            rw [eb, List.append_assoc, trim_bl b _ hb]
            exact trim_tl q' t ht hqt hqne
          have hlen : (q' ++ t).length ≤ g := by
            have h1 := trimL_len (p' ++ t) [32, 9]
            rw [e3] at h1
            omega
          rw [e3, eq', List.append_assoc]
          have hf2 := hsw (r' ++ t) (hE'.head ht)
          obtain ⟨d, xt, hxt⟩ : ∃ d xt, x.t = d :: xt := by
            cases hx : x.t with
            | nil => exact absurd hx hne
            | cons d xt => exact ⟨d, xt, rfl⟩
          cases g with
          | zero =>
            rw [eq', hxt] at hlen
            simp at hlen
          | succ g =>
            have hrl : (r' ++ t).length ≤ g := by
              rw [eq', hxt] at hlen
              simp only [List.length_append, List.length_cons] at hlen ⊢
              omega
            have hrec := ih r r' t ts' hE' ht hq2 g hrl
            have hdr2 : (x.t ++ (r' ++ t)).drop x.t.length = r' ++ t := List.drop_left
            have key : ∀ L : List UInt8, L ≠ [] → firstT L = some x → L.drop x.t.length = r' ++ t → toksT (g + 1) L = some (x :: ts') := by
              intro L hL h1 h2
              cases L with
              | nil => exact absurd rfl hL
              | cons d L =>
                rw [toksT, h1]
                dsimp only
                rw [h2, hrec]
            exact key _ (by rw [hxt]; simp) hf2 hdr2
end Go.Proofs.YtgofjmhdgmfgfaaGreatDoor
namespace Go.Proofs.YtgofjmhdgmfgfaaGreatDoor
open Go.ChangeShapes Go.WideShapes Go.ChangeAt Go.RowKit
set_option linter.unusedVariables false

def fillB : Nat → List UInt8
  | 0 => [32]
  | 1 => [9, 32]
  | _ => [32, 32, 32]
def tailB : Nat → List UInt8
  | 1 => [32, 35, 32, 104, 97, 108, 116]
  | 3 => [9]
  | _ => []
def moreB : Nat → List (List UInt8)
  | 2 => [[]]
  | 3 => [[35, 32, 0, 255, 58, 32, 110, 111, 112]]
  | 4 => [[35]]
  | _ => []
def endsB (j : Nat) : List UInt8 := tailB j ++ 10 :: catL (moreB j)
/-- The law's loop: a text with its blanks and ends made longer. -/
def blk (kf : Nat → Nat) : Nat → Bool → List UInt8 → List UInt8
  | _, _, [] => []
  | n, cm, c :: s =>
    if c = 32 ∧ cm = false then fillB (kf n % 3) ++ blk kf (n + 1) cm s
    else if c = 10 then endsB (kf n % 5) ++ blk kf (n + 1) false s
    else c :: blk kf n (cm || decide (c = 35)) s
theorem fill_bl (j : Nat) : fillB j ≠ [] ∧ ∀ y ∈ fillB j, y = 32 ∨ y = 9 := by
  match j with
  | 0 => exact ⟨by simp [fillB], by simp [fillB]⟩
  | 1 => exact ⟨by simp [fillB], by simp [fillB]⟩
  | j + 2 => exact ⟨by simp [fillB], by simp [fillB]⟩
theorem blk_cm (kf : Nat → Nat) (r : List UInt8) : ∀ (q : List UInt8) n, (10 : UInt8) ∉ q → blk kf n true (q ++ r) = q ++ blk kf n true r := by
  intro q
  induction q with
  | nil => intro n _; rfl
  | cons c q ih =>
    intro n h
    have hc : c ≠ 10 := fun e => h (e ▸ List.mem_cons_self)
    show blk kf n true (c :: (q ++ r)) = _
    rw [blk, if_neg (by simp), if_neg hc, Bool.true_or, ih n (fun g => h (List.mem_cons_of_mem _ g))]
    rfl
theorem blk_pre (kf : Nat → Nat) (r : List UInt8) : ∀ (p : List UInt8) n, (10 : UInt8) ∉ p → (35 : UInt8) ∉ p → ∃ p' m, blk kf n false (p ++ r) = p' ++ blk kf m false r ∧ Ex p p' ∧ (10 : UInt8) ∉ p' ∧ (35 : UInt8) ∉ p' := by
  intro p
  induction p with
  | nil => intro n _ _; exact ⟨[], n, rfl, .nil, by simp, by simp⟩
  | cons c p ih =>
    intro n h1 h2
    have hc : c ≠ 10 := fun e => h1 (e ▸ List.mem_cons_self)
    have hc2 : c ≠ 35 := fun e => h2 (e ▸ List.mem_cons_self)
    have g1 : (10 : UInt8) ∉ p := fun g => h1 (List.mem_cons_of_mem _ g)
    have g2 : (35 : UInt8) ∉ p := fun g => h2 (List.mem_cons_of_mem _ g)
    show ∃ p' m, blk kf n false (c :: (p ++ r)) = _ ∧ _
    rw [blk]
    by_cases hb : c = 32
    · rw [if_pos ⟨hb, rfl⟩]
      obtain ⟨p', m, e, x, y1, y2⟩ := ih (n + 1) g1 g2
      have hf := fill_bl (kf n % 3)
      subst hb
      refine ⟨fillB (kf n % 3) ++ p', m, by rw [e, List.append_assoc], .bl _ _ _ hf.1 hf.2 x, ?_, ?_⟩
      · intro g
        rcases List.mem_append.1 g with g | g
        · rcases hf.2 _ g with e | e <;> revert e <;> decide
        · exact y1 g
      · intro g
        rcases List.mem_append.1 g with g | g
        · rcases hf.2 _ g with e | e <;> revert e <;> decide
        · exact y2 g
    · rw [if_neg (fun g => hb g.1), if_neg hc]
      obtain ⟨p', m, e, x, y1, y2⟩ := ih n g1 g2
      rw [show (false || decide (c = 35)) = false by simp [hc2], e]
      refine ⟨c :: p', m, rfl, .ch _ _ _ hb x, ?_, ?_⟩
      · intro g
        rcases List.mem_cons.1 g with e | g
        · exact hc e.symm
        · exact y1 g
      · intro g
        rcases List.mem_cons.1 g with e | g
        · exact hc2 e.symm
        · exact y2 g
/-- A line, up to its remark and the remark. -/
theorem line_cut (l : List UInt8) : ∃ p q, l = p ++ q ∧ (35 : UInt8) ∉ p ∧ (q = [] ∨ ∃ r, q = 35 :: r) := by
  induction l with
  | nil => exact ⟨[], [], rfl, by simp, .inl rfl⟩
  | cons c l ih =>
    by_cases hc : c = 35
    · subst hc; exact ⟨[], 35 :: l, rfl, by simp, .inr ⟨l, rfl⟩⟩
    · obtain ⟨p, q, e, h1, h2⟩ := ih
      refine ⟨c :: p, q, by rw [e]; rfl, ?_, h2⟩
      intro g
      rcases List.mem_cons.1 g with e | g
      · exact hc e.symm
      · exact h1 g
theorem cut_pq (p q : List UInt8) (h : (35 : UInt8) ∉ p) (hq : q = [] ∨ ∃ r, q = 35 :: r) : (Lib.cut (p ++ q) [35]).1 = p := by
  rcases hq with rfl | ⟨r, rfl⟩
  · rw [List.append_nil]; exact cut_none p h
  · exact cut_at p r h
theorem tail_cut (j : Nat) : ∃ t q, tailB j = t ++ q ∧ (35 : UInt8) ∉ t ∧ (q = [] ∨ ∃ r, q = 35 :: r) ∧ (∀ y ∈ t, y = 32 ∨ y = 9) ∧ (10 : UInt8) ∉ tailB j := by
  match j with
  | 0 => exact ⟨[], [], rfl, by simp, .inl rfl, by simp, by simp [tailB]⟩
  | 1 => exact ⟨[32], [35, 32, 104, 97, 108, 116], rfl, by decide, .inr ⟨_, rfl⟩, by simp, by decide⟩
  | 2 => exact ⟨[], [], rfl, by simp, .inl rfl, by simp, by simp [tailB]⟩
  | 3 => exact ⟨[9], [], rfl, by decide, .inl rfl, by simp, by decide⟩
  | j + 4 => exact ⟨[], [], rfl, by simp, .inl rfl, by simp, by simp [tailB]⟩
theorem more_nil (j : Nat) : ∀ l ∈ moreB j, lineT l = some [] ∧ (10 : UInt8) ∉ l := by
  match j with
  | 0 => intro l hl; cases hl
  | 1 => intro l hl; cases hl
  | 2 => intro l hl; obtain rfl : l = [] := by simpa [moreB] using hl
         exact ⟨rfl, by simp⟩
  | 3 => intro l hl; obtain rfl : l = [35, 32, 0, 255, 58, 32, 110, 111, 112] := by simpa [moreB] using hl
         refine ⟨?_, by decide⟩
         unfold lineT
         rw [show (Lib.cut [35, 32, 0, 255, 58, 32, 110, 111, 112] [35]).1 = [] from cut_at [] [32, 0, 255, 58, 32, 110, 111, 112] (by simp)]
         rfl
  | 4 => intro l hl; obtain rfl : l = [35] := by simpa [moreB] using hl
         refine ⟨?_, by decide⟩
         unfold lineT
         rw [show (Lib.cut [35] [35]).1 = [] from cut_at [] [] (by simp)]
         rfl
  | j + 5 => intro l hl; cases hl
/-- One line and its end: the same tokens, and behind it lines of none. -/
theorem blk_line (kf : Nat → Nat) (r l : List UInt8) (n : Nat) (h10 : (10 : UInt8) ∉ l) : ∃ l' m j, blk kf n false (l ++ 10 :: r) = l' ++ 10 :: (catL (moreB j) ++ blk kf m false r) ∧ (10 : UInt8) ∉ l' ∧ ∀ ts, lineT l = some ts → lineT l' = some ts := by
  obtain ⟨p, q, rfl, h1, h2⟩ := line_cut l
  have g1 : (10 : UInt8) ∉ p := fun g => h10 (List.mem_append_left _ g)
  have g2 : (10 : UInt8) ∉ q := fun g => h10 (List.mem_append_right _ g)
  obtain ⟨p', m, e, x, y1, y2⟩ := blk_pre kf (q ++ 10 :: r) p n g1 h1
  obtain ⟨t, u, ht, t35, hu, tb, t10⟩ := tail_cut (kf m % 5)
  have hend : ∀ cm, blk kf m cm (10 :: r) = endsB (kf m % 5) ++ blk kf (m + 1) false r := by
    intro cm
    rw [blk, if_neg (by decide +revert), if_pos rfl]
  have hq : blk kf m false (q ++ 10 :: r) = q ++ (endsB (kf m % 5) ++ blk kf (m + 1) false r) := by
    rcases h2 with rfl | ⟨q2, rfl⟩
    · exact hend _
    · show blk kf m false (35 :: (q2 ++ 10 :: r)) = _
      rw [blk, if_neg (by decide), if_neg (by decide), show (false || decide ((35 : UInt8) = 35)) = true by decide, blk_cm kf _ _ _ (fun g => g2 (List.mem_cons_of_mem _ g)), hend]
      rfl
  have eAll : blk kf n false ((p ++ q) ++ 10 :: r) = (p' ++ (q ++ tailB (kf m % 5))) ++ 10 :: (catL (moreB (kf m % 5)) ++ blk kf (m + 1) false r) := by
    rw [List.append_assoc, e, hq, endsB]
    simp only [List.append_assoc, List.cons_append]
  refine ⟨p' ++ (q ++ tailB (kf m % 5)), m + 1, kf m % 5, eAll, ?_, ?_⟩
  · intro g
    rcases List.mem_append.1 g with g | g
    · exact y1 g
    · rcases List.mem_append.1 g with g | g
      · exact g2 g
      · exact t10 g
  · intro ts hts
    unfold lineT at hts ⊢
    rw [cut_pq p q h1 h2] at hts
    rcases h2 with rfl | ⟨q2, rfl⟩
    · have ec : (Lib.cut (p' ++ ([] ++ tailB (kf m % 5))) [35]).1 = p' ++ t := by
        rw [List.nil_append, ht, ← List.append_assoc]
        refine cut_pq _ _ (fun g => ?_) hu
        rcases List.mem_append.1 g with g | g
        · exact y2 g
        · exact t35 g
      rw [ec]
      exact toks_ex _ p p' t ts x tb hts _ (by rw [ht]; simp only [List.length_append, List.length_nil]; omega)
    · have ec : (Lib.cut (p' ++ (35 :: q2 ++ tailB (kf m % 5))) [35]).1 = p' := cut_at p' _ y2
      rw [ec]
      have := toks_ex _ p p' [] ts x (by simp) hts (p' ++ (35 :: q2 ++ tailB (kf m % 5))).length (by simp only [List.length_append, List.length_nil]; omega)
      rwa [List.append_nil] at this
end Go.Proofs.YtgofjmhdgmfgfaaGreatDoor
namespace Go.Proofs.YtgofjmhdgmfgfaaGreatDoor
open Go.ChangeShapes Go.WideShapes Go.ChangeAt Go.RowKit
set_option linter.unusedVariables false

/-- Two states that differ by the lines they remember. -/
structure SameA (a b : ASt) : Prop where
  mv : a.mv = b.mv
  org : a.org = b.org
  dr : a.dr.map (·.at 0) = b.dr.map (·.at 0)
  lb : a.lb = b.lb
theorem SameA.len {a b : ASt} (h : SameA a b) : a.dr.length = b.dr.length := by
  have := congrArg List.length h.dr
  simpa using this
theorem at_at (x : Dr) (i j : Int) : (x.at i).at j = x.at j := rfl
theorem map_at (ds : List Dr) (n : Int) : (ds.map (·.at n)).map (·.at 0) = ds.map (·.at 0) := by
  rw [List.map_map]; rfl
theorem entL_len (at_ : Nat) : ∀ (ns : List (List UInt8)) lb r, entL ns at_ lb = some r → r.length = lb.length + ns.length := by
  intro ns
  induction ns with
  | nil => intro lb r h; obtain rfl : lb = r := by simpa [entL] using h
           rfl
  | cons s ns ih =>
    intro lb r h
    rw [entL] at h
    split at h
    · have := ih _ _ h
      simp only [List.length_append, List.length_cons, List.length_nil] at this ⊢
      omega
    · cases h
structure InB (a : ASt) : Prop where
  d : a.dr.length ≤ 4096
  o : a.org + 4 * a.dr.length ≤ 4294967296
  l : a.lb.length < 1000000
theorem ln_inb {k : Nat} {a a' : ASt} {t : List UInt8} (h : lnM k a t = some a') : InB a' := by
  obtain ⟨ts, ns, r, mo, no, ds, lb, h1, h2, h3, h4, h5, h6, h7, h8, h9, h10, rfl⟩ := lnM_some h
  refine ⟨?_, ?_, ?_⟩
  · show (a.dr ++ ds.map _).length ≤ _
    rw [List.length_append, List.length_map]; exact h6
  · show cond mo no a.org + 4 * (a.dr ++ ds.map _).length ≤ _
    rw [List.length_append, List.length_map]; exact h7
  · show lb.length < _
    rw [entL_len _ _ _ _ h4]; exact h9
theorem ln_same {k k' : Nat} {a a' b : ASt} {t t' : List UInt8} (h : lnM k a t = some a') (hs : SameA a b) (ht : ∀ ts, lineT t = some ts → lineT t' = some ts) : ∃ b', lnM k' b t' = some b' ∧ SameA a' b' := by
  obtain ⟨ts, ns, r, mo, no, ds, lb, h1, h2, h3, h4, h5, h6, h7, h8, h9, h10, rfl⟩ := lnM_some h
  have hl := hs.len
  obtain ⟨m1, m2, m3, m4⟩ := hs
  rw [m1, hl, m4] at h3
  rw [m2, hl, m4] at h4
  rw [m2, hl] at h5
  rw [hl] at h6
  rw [m2, hl] at h7
  rw [m4] at h9
  rw [m2] at h10
  refine ⟨⟨b.mv || mo, cond mo no b.org, b.dr ++ ds.map (·.at (k' : Nat)), lb⟩, ?_, ?_⟩
  · simp only [lnM, ht _ h1, h2, h3, h4]
    rw [if_pos ⟨h5, h6, h7, h8, h9, h10⟩]
  · refine ⟨by simp only [m1], by simp only [m2], ?_, rfl⟩
    simp only [List.map_append, map_at, m3]
theorem ln_none {k : Nat} {a : ASt} {t : List UInt8} (ht : lineT t = some []) (ha : InB a) : lnM k a t = some a := by
  obtain ⟨h1, h2, h3⟩ := ha
  simp only [lnM, ht, lbN, stM, entL]
  rw [if_pos (by refine ⟨.inl trivial, ?_, ?_, by simp, ?_, by omega⟩ <;> simp <;> omega)]
  simp
theorem run_none (r : List (List UInt8)) : ∀ (ls : List (List UInt8)) k a, (∀ t ∈ ls, lineT t = some []) → InB a → runL k a (ls ++ r) = runL (k + ls.length) a r := by
  intro ls
  induction ls with
  | nil => intro k a _ _; rfl
  | cons t ls ih =>
    intro k a h ha
    show runL k a (t :: (ls ++ r)) = _
    rw [runL, ln_none (h t List.mem_cons_self) ha]
    show runL (k + 1) a (ls ++ r) = _
    rw [ih (k + 1) a (fun x hx => h x (List.mem_cons_of_mem _ hx)) ha, List.length_cons, show k + 1 + ls.length = k + (ls.length + 1) by omega]
/-- A text with its blanks and ends made longer is read as the text was. -/
theorem blk_run (kf : Nat → Nat) : ∀ (ls : List (List UInt8)) n k k' a b st, (∀ l ∈ ls, (10 : UInt8) ∉ l) → SameA a b → runL k a (ls ++ [[]]) = some st →
    ∃ ls' st', blk kf n false (catL ls) = catL ls' ∧ (∀ l ∈ ls', (10 : UInt8) ∉ l) ∧ runL k' b (ls' ++ [[]]) = some st' ∧ SameA st st' := by
  intro ls
  induction ls with
  | nil =>
    intro n k k' a b st _ hs hr
    refine ⟨[], ?_⟩
    have hr' : (match lnM k a [] with | none => none | some st1 => runL (k + 1) st1 []) = some st := hr
    cases h : lnM k a [] with
    | none => rw [h] at hr'; cases hr'
    | some a' =>
      rw [h] at hr'
      obtain rfl : a' = st := by simpa [runL] using hr'
      obtain ⟨b', e, s⟩ := ln_same (k' := k') h hs (t' := []) (fun _ h => h)
      refine ⟨b', rfl, by simp, ?_, s⟩
      show runL k' b [[]] = _
      rw [runL, e]
      rfl
  | cons l ls ih =>
    intro n k k' a b st h10 hs hr
    have hr' : (match lnM k a l with | none => none | some st1 => runL (k + 1) st1 (ls ++ [[]])) = some st := hr
    cases h : lnM k a l with
    | none => rw [h] at hr'; cases hr'
    | some a' =>
      rw [h] at hr'
      replace hr' : runL (k + 1) a' (ls ++ [[]]) = some st := hr'
      obtain ⟨l', m, j, e, y1, y2⟩ := blk_line kf (catL ls) l n (h10 l List.mem_cons_self)
      obtain ⟨b', e2, s2⟩ := ln_same (k' := k') h hs y2
      obtain ⟨ls', st', e3, y3, e4, s4⟩ := ih m (k + 1) (k' + 1 + (moreB j).length) a' b' st (fun x hx => h10 x (List.mem_cons_of_mem _ hx)) s2 hr'
      refine ⟨l' :: (moreB j ++ ls'), st', ?_, ?_, ?_, s4⟩
      · show blk kf n false (l ++ 10 :: catL ls) = l' ++ 10 :: catL (moreB j ++ ls')
        rw [e, e3, catL_app]
      · intro x hx
        rcases List.mem_cons.1 hx with rfl | hx
        · exact y1
        · rcases List.mem_append.1 hx with hx | hx
          · exact (more_nil j x hx).2
          · exact y3 x hx
      · show runL k' b (l' :: ((moreB j ++ ls') ++ [[]])) = _
        rw [runL, e2]
        show runL (k' + 1) b' ((moreB j ++ ls') ++ [[]]) = _
        rw [List.append_assoc, run_none _ _ _ _ (fun x hx => (more_nil j x hx).1) (ln_inb e2)]
        exact e4
theorem img_at (lb : List (List UInt8 × Nat)) (org : Nat) : ∀ (l : List Dr) n, imgM lb org n (l.map (·.at 0)) = imgM lb org n l := by
  intro l
  induction l with
  | nil => intro n; rfl
  | cons x l ih =>
    intro n
    show imgM lb org n (x.at 0 :: l.map (·.at 0)) = _
    rw [imgM, imgM, ih]
    rfl
/-- The source with its blanks and ends made longer. -/
theorem src_blk (kf : Nat → Nat) (org : Nat) (ws : List Nat) (lb : List (List UInt8 × Nat)) (ho : org < 4294967296) (h4 : org % 4 = 0) (hn : ws.length ≤ 4096) (hT : org + 4 * ws.length ≤ 4294967296) (hv : ∀ x ∈ ws, x < 4294967296) (hM : lmM (org + 4 * ws.length) org [] lb = true) (hR : (srcM org ws lb).length ≤ 20000) (hR2 : (blk kf 0 false (srcM org ws lb)).length ≤ 20000) :
    ∃ ls st, Lib.splitB (sb [10]) 0 (Lib.countB (sb (blk kf 0 false (srcM org ws lb))) (sb [10])) (sb (blk kf 0 false (srcM org ws lb))) = ls.map sb ∧ (∀ t ∈ ls, t.length < 1000000) ∧ ls.length < 1000000 ∧ runL 1 ⟨false, 0, [], []⟩ ls = some st ∧ imgM st.lb st.org 0 st.dr = some (ws.map fun (n : Nat) => (n : Int)) ∧ st.org = org ∧ st.lb = lb ∧ st.dr.length ≤ 4096 := by
  have hall := lm_all _ lb _ _ hM
  have hlb : lb.length ≤ 20000 := by
    have h1 := srcW_len ws org lb
    have h2 : (srcW org ws lb).length ≤ (srcM org ws lb).length := by rw [srcM]; simp only [List.length_append]; omega
    omega
  have hnl : ∀ l ∈ orgL org :: linesW org ws lb, (10 : UInt8) ∉ l := by
    intro l hl
    rcases List.mem_cons.1 hl with rfl | hl
    · intro h10
      rcases List.mem_append.1 h10 with h | h
      · revert h; decide
      · exact (hex8_word org ho 10 h).2.1 rfl
    · exact lines_nl ws org lb hv (fun x hx => (hall x hx).2.2.2) l hl
  obtain ⟨st, r1, r2, r3, r4⟩ := run_ws (org + 4 * ws.length) hT ws org 2 [] lb ⟨true, org, [], []⟩ [] hM (fun s _ => rfl) rfl rfl h4 (by simpa using hn) (by show 0 + lb.length < 100000; omega) hv trivial
  have hrun : runL 1 ⟨false, 0, [], []⟩ ((orgL org :: linesW org ws lb) ++ [[]]) = some st := by
    show runL 1 _ (orgL org :: (linesW org ws lb ++ [[]])) = _
    rw [runL, ln_org org ho h4]
    exact r1
  obtain ⟨ls', st', e1, e2, e3, e4⟩ := blk_run kf (orgL org :: linesW org ws lb) 0 1 1 _ _ st hnl ⟨rfl, rfl, rfl, rfl⟩ hrun
  rw [← cat_all] at e1
  have hcl := catL_len ls'
  rw [← e1] at hcl
  have himg : imgM st'.lb st'.org 0 st'.dr = some (ws.map fun (n : Nat) => (n : Int)) := by
    rw [← img_at, ← e4.dr, img_at]
    exact img_dns _ _ _ _ _ (by simpa using r4)
  refine ⟨ls' ++ [[]], st', ?_, ?_, ?_, e3, himg, by rw [← e4.org]; exact r2, by rw [← e4.lb]; simpa using r3, ?_⟩
  · rw [e1]; exact split_all _ e2
  · intro t ht
    rcases List.mem_append.1 ht with h | h
    · have := hcl.2 t h; omega
    · obtain rfl : t = [] := by simpa using h
      simp
  · rw [List.length_append]
    have := hcl.1
    simp only [List.length_nil, List.length_cons] at this ⊢
    omega
  · have := r4.len
    rw [← e4.len]
    simp only [List.nil_append] at this
    omega
end Go.Proofs.YtgofjmhdgmfgfaaGreatDoor
