import Derived.Test.YthgpcmickgcdhaaDh
namespace Go.Proofs.Ythgpcmickgcdhaa
open Go.ChangeShapes Go.WideShapes Go.ChangeAt Go.RowKit
set_option linter.unusedVariables false
/-- One queue more. -/
def Cf.more (g : Cf) (q : Qv) : Cf := ⟨g.n, g.S, g.Q ++ [q]⟩
theorem Dx_more (g : Cf) (q : Qv) (x : Ed) : Dx (g.more q) x = (Dx g x || (isE g.n x.a x.b && qIs q x)) := by
  unfold Dx Cf.more fQ
  simp only [List.any_append, List.any_cons, List.any_nil, Bool.or_false]
  cases isE g.n x.a x.b <;> simp [Bool.or_assoc]
theorem rch_mono {D D' : Nat → Nat → Prop} (h : ∀ x y, D x y → D' x y) {c x : Nat} (hr : Rch D c x) : Rch D' c x := by
  induction hr with
  | refl => exact .refl
  | step hd _ ih => exact .step (h _ _ hd) ih
/-- Whom cells outside write to changes nothing. -/
theorem outside (g : Cf) (q : Qv) (c : Nat) (h1 : ∀ x : Nat, (x : Int) = q.r → ¬ Rch (Dn g) c x) (h2 : q.f = true → ∀ x : Nat, (x : Int) = q.w → ¬ Rch (Dn g) c x) (x : Nat) : Rch (Dn (g.more q)) c x ↔ Rch (Dn g) c x := by
  constructor
  · intro hr
    induction hr with
    | refl => exact .refl
    | @step x y hd _ ih =>
      unfold Dn at hd
      rw [Dx_more] at hd
      simp only [Bool.or_eq_true, Bool.and_eq_true] at hd
      rcases hd with hd | ⟨_, hd⟩
      · exact .step hd ih
      · simp only [qIs, Bool.or_eq_true, Bool.and_eq_true, beq_iff_eq] at hd
        rcases hd with ⟨_, e⟩ | ⟨hf, _, e⟩
        · exact absurd ih (h1 y e.symm)
        · exact absurd ih (h2 hf y e.symm)
  · intro hr
    refine rch_mono (fun x y hd => ?_) hr
    unfold Dn at hd ⊢
    rw [Dx_more, hd]; rfl
/-- Sources are as before. -/
theorem same_sources {w1 w1' w2 w2' : World} {g : Cf} {q : Qv} {c : Int} {v1 v2 : Value} {l1 l2 : List Nat} (s1 : ToS w1 w1' g c v1 l1) (s2 : ToS w2 w2' (g.more q) c v2 l2) (h1 : q.r ∉ zs l1) (h2 : q.f = true → q.w ∉ zs l1) : l1 = l2 := by
  refine sorted_ext s1.pw s2.pw (fun x => ?_)
  rw [s1.mem x, s2.mem x]
  have hn : (g.more q).n = g.n := rfl
  rw [hn]
  constructor
  · rintro ⟨a, b, hr⟩
    refine ⟨a, b, (outside g q c.toNat (fun y hy hr => h1 ?_) (fun hf y hy hr => h2 hf ?_) x).2 hr⟩
    · rw [← hy]; exact List.mem_map_of_mem ((s1.mem y).2 ⟨a, b, hr⟩)
    · rw [← hy]; exact List.mem_map_of_mem ((s1.mem y).2 ⟨a, b, hr⟩)
  · rintro ⟨a, b, hr⟩
    refine ⟨a, b, (outside g q c.toNat (fun y hy hr => h1 ?_) (fun hf y hy hr => h2 hf ?_) x).1 hr⟩
    · rw [← hy]; exact List.mem_map_of_mem ((s1.mem y).2 ⟨a, b, hr⟩)
    · rw [← hy]; exact List.mem_map_of_mem ((s1.mem y).2 ⟨a, b, hr⟩)
/-- The two cells and the queue that come ahead. -/
def g2 (f : Bool) : Cf := ⟨2, [], [⟨1, 2, f⟩]⟩
def A2 (a b : Nat) : CfA := ⟨.int .i64 0, .int .u32 0, .int .i64 0, .int .i64 0, .int .i64 0, .int .i64 0, .int .i64 0, .int .u64 0, .slice none 0 0, some ⟨a, 0, none⟩, 2, none, 0, some ⟨b, 0, none⟩, 1⟩
theorem isc2 {w : World} {a b : Nat} {f : Bool} (h : w.heap[b]? = some (.cells #[.int .i64 1, .int .i64 2, .int .i64 0, .int .i64 0, .int .i64 0, .bool f] 33 (0, 0))) : IsC w (A2 a b) (g2 f) := by
  refine ⟨fun v hv => ?_, .inl rfl, .inr ⟨b, 0, rfl, fun i hi => ?_⟩, by simp [g2], by simp [g2], by simp [g2]⟩
  · simp [cfC, A2, g2] at hv
    rcases hv with rfl | rfl | rfl | rfl | rfl | rfl | rfl <;> rfl
  · have : i = 0 := by simp [g2] at hi; exact hi
    subst this
    refine ⟨0, 0, 0, fun j v hv => ?_⟩
    rw [(cells_at h _).1]
    simp [g2] at hv ⊢
    exact hv
theorem make26 (w : World) : (Instr.makeSlice 26 (.int .i64 2) (.int .i64 2)).run Try.prog w = .ok (.slice (some ⟨w.heap.size, 0, none⟩) 2 2) (w.alloc (.cells #[.string ⟨#[]⟩, .int .u32 0, .slice none 0 0, .slice none 0 0, .string ⟨#[]⟩, .int .u32 0, .slice none 0 0, .slice none 0 0] 81)) := by
  obtain ⟨i, hq, z1, z2, z3⟩ := info81p
  have hm := run_make (P := Try.prog) w 26 81 i (.agg #[.string ⟨#[]⟩, .int .u32 0, .slice none 0 0, .slice none 0 0]) Try.underlying26 hq z1 .i64 .i64 2 2 (by omega) (by omega) (by rw [z3]; omega) (by omega)
  have e : madeCells (Value.agg #[.string ⟨#[]⟩, .int .u32 0, .slice none 0 0, .slice none 0 0]).cells ((2 : Int).toNat * 4) = #[.string ⟨#[]⟩, .int .u32 0, .slice none 0 0, .slice none 0 0, .string ⟨#[]⟩, .int .u32 0, .slice none 0 0, .slice none 0 0] := by
    apply Array.ext_getElem?
    intro j
    by_cases hj : j < 8
    · have : j = 0 ∨ j = 1 ∨ j = 2 ∨ j = 3 ∨ j = 4 ∨ j = 5 ∨ j = 6 ∨ j = 7 := by omega
      rcases this with rfl | rfl | rfl | rfl | rfl | rfl | rfl | rfl <;> simp [madeCells, Value.cells]
    · rw [Array.getElem?_eq_none (by simp [madeCells]; omega), Array.getElem?_eq_none (by simp; omega)]
  rw [hm, z2, e]
  rfl
theorem build33e (w : World) : (Instr.build 33 #[(0, .int .i64 1), (1, .int .i64 2)]).run Try.prog w = .ok (.agg #[.int .i64 1, .int .i64 2, .int .i64 0, .int .i64 0, .int .i64 0, .bool false]) w := by kernel_rfl
theorem build31e (w : World) (a b : Nat) (f : Bool) : (Instr.build 31 #[(6, .slice (some ⟨a, 0, none⟩) 2 2), (9, .slice (some ⟨b, 0, none⟩) 1 1)]).run Try.prog w = .ok (.agg (cfC (A2 a b) (g2 f)).toArray) w := by kernel_rfl
theorem bears12 (w : World) (a b : Nat) (h : IsC w (A2 a b) (g2 false)) : Calls Try.prog 10 #[.agg (cfC (A2 a b) (g2 false)).toArray, .int .i64 1, .int .i64 2] w fun e w' => e = .returned (.bool true) ∧ Kp w w' := by
  refine (bears_any w (A2 a b) (g2 false) h 1 2).mono ?_
  rintro e w' ⟨l, rfl, hm, k⟩
  refine ⟨?_, k⟩
  have h1 : (1 : Nat) ∈ l := (hm 1).2 ⟨by omega, by simp [g2], .step (show Dn (g2 false) 1 2 by unfold Dn; decide) .refl⟩
  have : (1 : Int) ∈ zs l := List.mem_map.2 ⟨1, h1, rfl⟩
  simp [this]
theorem bears21 (w : World) (a b : Nat) (h : IsC w (A2 a b) (g2 false)) : Calls Try.prog 10 #[.agg (cfC (A2 a b) (g2 false)).toArray, .int .i64 2, .int .i64 1] w fun e w' => e = .returned (.bool false) ∧ Kp w w' := by
  refine (bears_any w (A2 a b) (g2 false) h 2 1).mono ?_
  rintro e w' ⟨l, rfl, hm, k⟩
  refine ⟨?_, k⟩
  have : ¬ (2 : Int) ∈ zs l := fun h => by
    simp only [zs, List.mem_map] at h
    obtain ⟨x, hx, e⟩ := h
    obtain rfl : x = 2 := by omega
    have hr := ((hm 2).1 hx).2.2
    have key : ∀ x, Rch (Dn (g2 false)) 1 x → x = 1 := fun x hr => by
      induction hr with
      | refl => rfl
      | @step x y hd _ ih =>
        subst ih
        exfalso
        have hb := Dn_ok hd
        simp only [g2] at hb
        have : x = 1 ∨ x = 2 := by omega
        unfold Dn at hd
        rcases this with rfl | rfl <;> revert hd <;> decide
    have := key 2 hr
    omega
  simp [this]
end Go.Proofs.Ythgpcmickgcdhaa
