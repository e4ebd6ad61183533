import Derived.Test.YtkndlkcbhpfjoaaNk
import Derived.Test.YtkndlkcbhpfjoaaNm
namespace Go.Proofs.Ytkndlkcbhpfjoaa
open Go.ChangeShapes Go.WideShapes Go.ChangeAt Go.RowKit Go.Shelf
set_option linter.unusedVariables false
theorem gsR_le {Z : Nat → Int} {p m : Nat} (g : ∀ j, j < 32 → ¬ badR Z j) : ∀ i, i < 32 → (gsR Z p m).rt i ≤ 8 := fun i hi => by
  have := g i hi
  unfold badR at this
  show (Z i).toNat ≤ 8
  omega
theorem gsR_ok {Z : Nat → Int} {p m : Nat} (g : ∀ j, j < 32 → ¬ badR Z j) (k : ∀ j, j < 32 → ¬ badL Z p m j) : (gsR Z p m).ok := ⟨gsR_le g, fun i hi h0 => by
  have h0 : (Z i).toNat = 0 := h0
  have := g i hi
  unfold badR at this
  have z : Z i = 0 := by omega
  have := k i hi
  unfold badL at this
  have no : ¬ (p.testBit i = true ∨ m.testBit i = true) := fun e => this ⟨z, e⟩
  constructor
  · show p.testBit i = false
    cases e : p.testBit i with
    | true => exact absurd (.inl e) no
    | false => rfl
  · show m.testBit i = false
    cases e : m.testBit i with
    | true => exact absurd (.inr e) no
    | false => rfl⟩
/-- What the controller's Load leaves. -/
def GLd (w : World) (B : Nat) (s : GS) (Z : Nat → Int) (p m : Nat) (e : Ending) (w' : World) : Prop := ∃ (r : Int) (s' : GS), e = .returned (.int .i64 r) ∧ LdR Z p m r ∧ IsG w' B s' ∧ Chg w w' (fun k => k = B) ∧ (r ≠ 0 → s' = s) ∧ (r = 0 → s' = gsR Z p m) ∧ s'.ok
theorem gLoad_any (w : World) (B : Nat) (s : GS) (h : IsG w B s) (hs : s.ok) (Z : Nat → Int) (p m : Nat) (hp : p < 4294967296) (hm : m < 4294967296) :
    Calls Try.prog 18 #[.pointer (some ⟨B, 0, none⟩), .agg (zcs Z p m).toArray] w fun e w' => GLd w B s Z p m e w' := by
  by_cases h1 : ∃ j, j < 32 ∧ badR Z j
  · obtain ⟨j, hj, hb⟩ := h1
    refine (load_cell w _ Z p m j hj hb).mono ?_
    rintro e w' ⟨rfl, k⟩
    exact ⟨91, s, rfl, .inl ⟨rfl, j, hj, hb⟩, h.kp k, k.any, fun _ => rfl, fun e => by omega, hs⟩
  · have g : ∀ j, j < 32 → ¬ badR Z j := fun j hj hb => h1 ⟨j, hj, hb⟩
    rw [zcs_good g hp hm]
    by_cases h2 : ∃ j, j < 32 ∧ badL Z p m j
    · obtain ⟨j, hj, hb⟩ := h2
      have hb2 : badL Z p m j := hb
      unfold badL at hb
      refine (load_line w _ (gsR Z p m) (gsR_le g) j hj ⟨by show (Z j).toNat = 0; rw [hb.1]; rfl, hb.2⟩).mono ?_
      rintro e w' ⟨rfl, k⟩
      exact ⟨90, s, rfl, .inr (.inl ⟨rfl, g, j, hj, hb2⟩), h.kp k, k.any, fun _ => rfl, fun e => by omega, hs⟩
    · have g2 : ∀ j, j < 32 → ¬ badL Z p m j := fun j hj hb => h2 ⟨j, hj, hb⟩
      refine (load_ok w B s h (gsR Z p m) (gsR_ok g g2)).mono ?_
      rintro e w' ⟨rfl, i, k⟩
      exact ⟨0, gsR Z p m, rfl, .inr (.inr ⟨rfl, g, g2⟩), i, k, fun e => absurd rfl e, fun _ => rfl, gsR_ok g g2⟩
theorem num_any (w : World) (n : Int) : Calls Try.prog 40 #[.int .i64 n] w fun e w' => e = .returned (.int .i64 n) ∧ w' = w := by
  go_enter Try.func40, Try.ntmps40
  go_wp2
  go_ret
  exact ⟨rfl, rfl⟩
/-- A pair: the controller's block B, the document's box F and its rows. -/
structure IsP (w : World) (q B F R P M : Nat) (s : GS) : Prop where
  bx : w.heap[q]? = some (.cells #[.pointer (some ⟨B, 0, none⟩), .pointer (some ⟨F, 0, none⟩)] 60 (0, 0))
  g : IsG w B s
  f : IsF w F R P M s
  ok : s.ok
  nb : ¬ Ff F R P M B
  nq : ¬ Ff F R P M q
  qb : q ≠ B
/-- What a pair's calls may change. -/
def Pf (B F R P M k : Nat) : Prop := k = B ∨ Ff F R P M k
section
variable {w w' : World} {q B F R P M : Nat} {s : GS}
theorem IsP.chg {S : Nat → Prop} (h : IsP w q B F R P M s) (hc : Chg w w' S) (hq : ¬ S q) (hn : ∀ k, Pf B F R P M k → ¬ S k) : IsP w' q B F R P M s :=
  ⟨hc.heap h.bx hq, h.g.chg hc (hn _ (.inl rfl)), h.f.chg hc (fun k hk => hn _ (.inr hk)), h.ok, h.nb, h.nq, h.qb⟩
theorem IsP.kp (h : IsP w q B F R P M s) (hc : Kp w w') : IsP w' q B F R P M s := h.chg hc (fun x => x) (fun _ _ x => x)
theorem IsP.c0 (h : IsP w q B F R P M s) : w.cell? ⟨q, 0, none⟩ = some (.pointer (some ⟨B, 0, none⟩)) := by rw [(cells_at h.bx 0).1]; rfl
theorem IsP.c1 (h : IsP w q B F R P M s) : w.cell? ⟨q, 1, none⟩ = some (.pointer (some ⟨F, 0, none⟩)) := by rw [(cells_at h.bx 1).1]; rfl
theorem IsP.lt (h : IsP w q B F R P M s) : ∀ k, Pf B F R P M k → k < w.heap.size := fun k hk => by
  rcases hk with rfl | rfl | rfl | rfl | rfl
  · exact h.g.lt
  · exact hp_lt h.f.bx
  · exact hp_lt h.f.r
  · exact hp_lt h.f.p
  · exact hp_lt h.f.m
/-- Both have moved on. -/
theorem IsP.go {t : GS} {w2 : World} (h : IsP w q B F R P M s) (g1 : IsG w' B t) (c1 : Chg w w' (fun k => k = B)) (f2 : IsF w2 F R P M t) (c2 : Chg w' w2 (Ff F R P M)) (o : t.ok) : IsP w2 q B F R P M t ∧ Chg w w2 (Pf B F R P M) :=
  ⟨⟨c2.heap (c1.heap h.bx h.qb) h.nq, g1.chg c2 h.nb, f2, o, h.nb, h.nq, h.qb⟩, Chg.trans (c1.mono (fun k _ e => .inl e)) (c2.mono (fun k _ e => .inr e)) (fun _ _ e => e)⟩
end
end Go.Proofs.Ytkndlkcbhpfjoaa
