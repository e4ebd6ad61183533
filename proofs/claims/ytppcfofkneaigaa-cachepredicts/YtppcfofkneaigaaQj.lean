import Derived.Test.YtppcfofkneaigaaQi
namespace Go.Proofs.Ytppcfofkneaigaa
open Go.ChangeShapes Go.WideShapes Go.ChangeAt Go.RowKit
set_option linter.unusedVariables false

/-- What a shape's calls tell, whatever the shape. -/
structure Ans (m : Nat) (a b c : Int) (n : Nat) (er : Int) (ok : Bool) (f : (Nat → Nat × Bool) → Nat → T3) (x y : Int) : Prop where
  nm : n ≤ m
  e0 : (er = 0 ∧ ok = true) ∨ (er = 30 ∧ ok = false)
  P : ∀ V ad cap G, UsesIn V ad m G → Calls Try.prog 21 #[.agg #[.int .i64 a, .int .i64 b, .int .i64 c], .slice ad m cap] V fun e w' => ∃ av cv, e = .returned (.tuple #[.slice av n cv, .int .i64 er]) ∧ Gs w' V.heap.size (.slice av n cv) n (f G) ∧ Chg V w' (fun _ => False)
  R : ∀ V ad cap G, m ≤ cap → UsesIn V ad m G → Calls Try.prog 22 #[.agg #[.int .i64 a, .int .i64 b, .int .i64 c], .slice ad m cap] V fun e w' => ∃ av cv, e = .returned (.tuple #[.slice av n cv, .bool ok]) ∧ Gs w' V.heap.size (.slice av n cv) n (f G) ∧ Chg V w' (fun _ => False)
  W : ∀ V, Calls Try.prog 15 #[.agg #[.int .i64 a, .int .i64 b, .int .i64 c]] V fun e w' => e = .returned (.tuple #[.int .i64 x, .int .i64 y]) ∧ Chg V w' (fun _ => False)
  Wr : ∀ V, Calls Try.prog 23 #[.agg #[.int .i64 a, .int .i64 b, .int .i64 c]] V fun e w' => e = .returned (.tuple #[.int .i64 x, .int .i64 y]) ∧ Chg V w' (fun _ => False)

theorem ans_any (m : Nat) (hm : m ≤ 300) (a b c : Int) : ∃ n er ok f x y, Ans m a b c n er ok f x y := by
  cases hok : okShape a b c with
  | false =>
    refine ⟨0, 30, false, fun _ _ => (false, false, 0), 0, 0, ⟨by omega, .inr ⟨rfl, rfl⟩, fun V ad cap G hU => ?_, fun V ad cap G hc hU => ?_, fun V => worst_no V a b c hok, fun V => rworst_no V a b c hok⟩⟩
    · refine (predict_no V a b c hok _).mono ?_
      rintro e w' ⟨rfl, hC⟩
      exact ⟨none, 0, rfl, ⟨World.ownsRow_nil _ _ _ _, fun k hk => by cases hk⟩, hC⟩
    · refine (rpredict_no V a b c hok _).mono ?_
      rintro e w' ⟨rfl, hC⟩
      exact ⟨none, 0, rfl, ⟨World.ownsRow_nil _ _ _ _, fun k hk => by cases hk⟩, hC⟩
  | true =>
    obtain ⟨sets, ways, line, rfl, rfl, rfl, hS, p1, p2⟩ := okShape_ok hok
    refine ⟨m, 0, true, fun G => tT (tch sets ways line (fun _ => []) G), 20, ((sets + 8 * (sets * ways) : Nat) : Int), ⟨Nat.le_refl _, .inl ⟨rfl, rfl⟩, fun V ad cap G hU => ?_, fun V ad cap G hc hU => ?_, fun V => worst_yes V sets ways line hS p1 p2, fun V => rworst_yes V sets ways line hS hok⟩⟩
    · refine (predict_any V sets ways line hS p1 p2 ad m cap G hU (by omega)).mono ?_
      rintro e w' ⟨v, rfl, hT, hC⟩
      obtain ⟨av, cv, rfl⟩ := hT.len
      exact ⟨av, cv, rfl, hT.gs, hC⟩
    · refine (rpredict_yes V sets ways line hS hok ad m cap hc G hU (by omega)).mono ?_
      rintro e w' ⟨v, rfl, hT, hC⟩
      obtain ⟨av, cv, rfl⟩ := hT.len
      exact ⟨av, cv, rfl, hT.gs, hC⟩

theorem sh_small : ShOk 1 1 16 := ⟨by omega, by omega, by omega, by omega, by omega, by omega⟩
/-- Of the small shape. -/
theorem small_predict (V : World) (g : Nat) (hU : UsesIn V (some ⟨g, 0, none⟩) 2 (fun _ => (7, false))) : Calls Try.prog 21 #[.agg #[.int .i64 1, .int .i64 1, .int .i64 16], .slice (some ⟨g, 0, none⟩) 2 2] V fun e w' => ∃ v, e = .returned (.tuple #[v, .int .i64 0]) ∧ Chg V w' (fun _ => False) :=
  (predict_any V 1 1 16 sh_small (by unfold Pow; omega) (by unfold Pow; omega) _ 2 2 _ hU (by omega)).mono fun e w' ⟨v, h1, _, h2⟩ => ⟨v, h1, h2⟩
theorem small_worst (V : World) : Calls Try.prog 15 #[.agg #[.int .i64 1, .int .i64 1, .int .i64 16]] V fun e w' => ∃ y : Int, e = .returned (.tuple #[.int .i64 20, .int .i64 y]) ∧ Chg V w' (fun _ => False) :=
  (worst_yes V 1 1 16 sh_small (by unfold Pow; omega) (by unfold Pow; omega)).mono fun e w' ⟨h1, h2⟩ => ⟨_, h1, h2⟩

/-- What the law holds: its shape's box, the uses that came in, the row 'in'. -/
structure SV (w V : World) (b2 : Nat) (a b c : Int) (a0 : Option Addr) (m : Nat) (F : Nat → Nat × Bool) (g : Nat) (G : Nat → Nat × Bool) : Prop where
  box : V.heap[b2]? = some (.cells #[.int .i64 a, .int .i64 b, .int .i64 c] 23 (0, 0))
  uses : UsesIn V a0 m F
  inn : UB V g (m + 8) G
  chg : Chg w V (fun _ => False)
  nb : w.heap.size ≤ b2
  ng : w.heap.size ≤ g
theorem SV.kept {w V V' : World} {b2 : Nat} {a b c : Int} {a0 : Option Addr} {m : Nat} {F : Nat → Nat × Bool} {g : Nat} {G : Nat → Nat × Bool} (h : SV w V b2 a b c a0 m F g G) (hC : Chg V V' (fun _ => False)) : SV w V' b2 a b c a0 m F g G :=
  ⟨hC.heap h.box (fun h => h), h.uses.kept hC (fun _ _ h => h), h.inn.kept hC (fun h => h), h.chg.trans hC (fun _ _ h => h), h.nb, h.ng⟩
theorem SV.ne {w V : World} {b2 : Nat} {a b c : Int} {a0 : Option Addr} {m : Nat} {F : Nat → Nat × Bool} {g : Nat} {G : Nat → Nat × Bool} (h : SV w V b2 a b c a0 m F g G) : b2 ≠ g := by
  rintro rfl
  obtain ⟨cur, h1, _⟩ := h.inn.ex
  rw [h.box] at h1
  simp at h1
/-- A row of touches is written over: the rest stays. -/
theorem SV.row {w V V' : World} {b2 : Nat} {a b c : Int} {a0 : Option Addr} {m : Nat} {F : Nat → Nat × Bool} {g : Nat} {G : Nat → Nat × Bool} (h : SV w V b2 a b c a0 m F g G) (hU : UsesIn w a0 m F) {k : Nat} (hk : w.heap.size ≤ k) (h2 : k ≠ b2) (h3 : k ≠ g) (hC : Chg V V' (fun i => i = k)) : SV w V' b2 a b c a0 m F g G := by
  have hc := h.chg.trans hC (fun i hi e => by omega)
  exact ⟨hC.heap h.box (fun e => h2 e.symm), hU.kept hc (fun _ _ h => h), h.inn.kept hC (fun e => h3 e.symm), hc, h.nb, h.ng⟩
theorem SV.set {w V : World} {b2 : Nat} {a b c : Int} {a0 : Option Addr} {m : Nat} {F : Nat → Nat × Bool} {g : Nat} {G : Nat → Nat × Bool} (h : SV w V b2 a b c a0 m F g G) (hU : UsesIn w a0 m F) (i : Nat) (hi : i < m + 8) (x : Nat) (bb : Bool) : SV w ((V.setCell ⟨g, i * 2, none⟩ (.int .u32 (x : Nat))).setCell ⟨g, i * 2 + 1, none⟩ (.bool bb)) b2 a b c a0 m F g (updG G i (x, bb)) := by
  have hc : Chg V ((V.setCell ⟨g, i * 2, none⟩ (.int .u32 (x : Nat))).setCell ⟨g, i * 2 + 1, none⟩ (.bool bb)) (fun k => k = g) := Chg.setCell (S := fun k => k = g) (Chg.setCell (S := fun k => k = g) (Chg.refl V _) (.inl rfl) _) (.inl rfl) _
  have hg := h.ng
  have hcw := h.chg.trans hc (fun i hi e => by omega)
  exact ⟨hc.heap h.box (fun e => h.ne e), hU.kept hcw (fun _ _ h => h), h.inn.set i hi x bb, hcw, h.nb, h.ng⟩
theorem SV.ext {w V : World} {b2 : Nat} {a b c : Int} {a0 : Option Addr} {m : Nat} {F : Nat → Nat × Bool} {g : Nat} {G G' : Nat → Nat × Bool} (h : SV w V b2 a b c a0 m F g G) (e : ∀ i, i < m + 8 → G' i = G i) : SV w V b2 a b c a0 m F g G' := ⟨h.box, h.uses, h.inn.ext e, h.chg, h.nb, h.ng⟩
end Go.Proofs.Ytppcfofkneaigaa
