import Derived.Test.YtoagdcdmahpglaaDoorGe
import Derived.Test.YtoagdcdmahpglaaDoorTl
namespace Go.Proofs.YtoagdcdmahpglaaDoor
open Go.ChangeShapes Go.WideShapes Go.ChangeAt Go.RowKit
set_option linter.unusedVariables false

theorem OR.rgs {w : World} {v : Value} {l : List Rv} (h : OR w v l) (ho : ∀ r ∈ l, r.ok) (hl : l.length ≤ 1000000) : ∃ a c, v = .slice a l.length c ∧ RgsIn w a l ∧ ∀ q o, 0 < l.length → a = some ⟨q, o, none⟩ → v.ownBlock = some q := by
  by_cases h0 : l.length = 0
  · obtain ⟨a, c, e, _⟩ := h.slice
    exact ⟨a, c, e, ⟨hl, ho, .inl h0⟩, fun _ _ q => by omega⟩
  · obtain ⟨g, c, e, _, hR⟩ := h.rr (by omega)
    have := hR.rgs l.length (Nat.le_refl _) ho hl
    rw [List.take_length] at this
    exact ⟨_, c, e, this, fun q o _ e' => by cases e'; rw [e]; rfl⟩
theorem pgs_len {R : List Rv} (hb : ∀ r ∈ R, r.pg ≤ 12) : (pgs R).length ≤ 12 * R.length := by
  induction R with
  | nil => simp [pgs]
  | cons r R ih =>
    have h1 := ih (fun x hx => hb x (by simp [hx]))
    have h2 := hb r (by simp)
    have e : pgs (r :: R) = (List.range r.pg.toNat).map (pgOf r) ++ pgs R := by simp [pgs]
    rw [e]
    simp only [List.length_append, List.length_map, List.length_range, List.length_cons]
    omega
/-- What the law of seeing holds to. -/
structure SeJ (w W : World) (S A B M t : Nat) (f : Nat → Option Nat) (m : Nat → Nat) (tb : Nat → Option Nat) (ra : Option Addr) (R : List Rv) : Prop where
  sp : Sp W S A 409600 B M 128 100 20 t false f m
  sg : Sg 128 m 409600 tb (pgL (pgs R) (fun _ _ => none))
  rg : RgsIn W ra R
  pt : Ent.Pt W
  chg : Chg w W (fun _ => False)
  fr : FR R
theorem Pt_chg {w w' : World} (h : Ent.Pt w) (hc : Chg w w' (fun _ => False)) : Ent.Pt w' := by
  have hlt := World.block_lt_of_cell? w _ h.a0
  have cc : ∀ {q : Nat}, w'.cell? ⟨0, q, none⟩ = w.cell? ⟨0, q, none⟩ := fun {q} => hc.cell hlt (fun x => x)
  exact ⟨cc.trans h.a0, cc.trans h.a1, cc.trans h.a2, cc.trans h.a3⟩
theorem SeJ.next {w W W' : World} {S A B M t : Nat} {f : Nat → Option Nat} {m : Nat → Nat} {tb : Nat → Option Nat} {ra : Option Addr} {R : List Rv} (h : SeJ w W S A B M t f m tb ra R) (hc : Chg W W' (fun _ => False)) : SeJ w W' S A B M t f m tb ra R :=
  ⟨h.sp.other hc (fun _ _ x => x), h.sg, h.rg.chg hc (fun _ _ _ _ x => x), Pt_chg h.pt hc, h.chg.tr hc, h.fr⟩
def zR : Nat → Nat := fillN (fun _ => 0) (4096 * (100 + 0)) 4096 0
theorem zR_zero (a : Nat) : zR a = 0 := by unfold zR fillN; split <;> rfl
end Go.Proofs.YtoagdcdmahpglaaDoor
