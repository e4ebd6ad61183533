import Derived.Test.YtibpbemenjgncaaAg
namespace Go.Proofs.Ytibpbemenjgncaa
open Go.ChangeShapes Go.WideShapes Go.ChangeAt Go.RowKit
set_option linter.unusedVariables false
/-- Numbers that can be read. -/
structure RdI (w : World) (v : Value) (l : List Int) : Prop where
  ex : ∃ a cap, v = .slice a l.length cap ∧ (l = [] ∨ ∃ b o, a = some ⟨b, o, none⟩ ∧ ∀ j (h : j < l.length), w.cell? ⟨b, o + j, none⟩ = some (.int .i64 l[j]))
  len : l.length * 8 ≤ 140737488351232
theorem RdI.chg {w w' : World} {v : Value} {l : List Int} {S : Nat → Prop} (h : RdI w v l) (hc : Chg w w' S) (hn : ∀ k, blk v = some k → ¬ S k) : RdI w' v l := by
  obtain ⟨a, cap, hv, hx⟩ := h.ex
  subst hv
  refine ⟨?_, h.len⟩
  rcases hx with h1 | ⟨b, o, ha, h1⟩
  · exact ⟨a, cap, rfl, .inl h1⟩
  · subst ha
    exact ⟨_, cap, rfl, .inr ⟨b, o, rfl, fun j hj => hc.cell' (hn b rfl) (h1 j hj)⟩⟩
theorem RdI.kp {w w' : World} {v : Value} {l : List Int} (h : RdI w v l) (hc : Kp w w') : RdI w' v l := h.chg hc (fun _ _ x => x)
/-- Nine marks. -/
def rdV (f : Nat → Bool) : List Value := [.bool (f 0), .bool (f 1), .bool (f 2), .bool (f 3), .bool (f 4), .bool (f 5), .bool (f 6), .bool (f 7), .bool (f 8)]
theorem rdV_at (f : Nat → Bool) (n : Nat) (h : n ≤ 8) : (rdV f).toArray[n]? = some (.bool (f n)) := by
  have : n = 0 ∨ n = 1 ∨ n = 2 ∨ n = 3 ∨ n = 4 ∨ n = 5 ∨ n = 6 ∨ n = 7 ∨ n = 8 := by omega
  rcases this with rfl | rfl | rfl | rfl | rfl | rfl | rfl | rfl | rfl <;> rfl
theorem rdV_set (f g : Nat → Bool) (n : Nat) (h : n ≤ 8) (hg : ∀ i, g i = (f i || decide (i = n))) : (rdV f).toArray.setIfInBounds n (.bool true) = (rdV g).toArray := by
  have : n = 0 ∨ n = 1 ∨ n = 2 ∨ n = 3 ∨ n = 4 ∨ n = 5 ∨ n = 6 ∨ n = 7 ∨ n = 8 := by omega
  unfold rdV
  rw [hg 0, hg 1, hg 2, hg 3, hg 4, hg 5, hg 6, hg 7, hg 8]
  rcases this with rfl | rfl | rfl | rfl | rfl | rfl | rfl | rfl | rfl <;> simp
/-- May these be a writer's readers? -/
def gdR (wr : Int) (l : List Int) : Bool := (l.all fun x => decide (1 ≤ x) && decide (x ≤ 8) && decide (x ≠ wr)) && decide l.Nodup
def inF (l : List Int) (i : Nat) : Bool := decide ((i : Int) ∈ l)
def mayR (wr : Int) (l : List Int) : Bool := (decide (1 ≤ wr) && decide (wr ≤ 8)) && decide (l ≠ []) && gdR wr l
theorem gdR_snoc (wr : Int) (l : List Int) (x : Int) : gdR wr (l ++ [x]) = (gdR wr l && (decide (1 ≤ x) && decide (x ≤ 8) && decide (x ≠ wr)) && decide (x ∉ l)) := by
  unfold gdR
  have h : decide (l ++ [x]).Nodup = (decide l.Nodup && decide (x ∉ l)) := by
    rw [← Bool.decide_and]
    apply decide_eq_decide.2
    rw [List.nodup_append]
    simp
    intro _
    constructor
    · intro h hx; exact h x hx rfl
    · intro h y hy e; subst e; exact h hy
  rw [List.all_append, h]
  simp only [List.all_cons, List.all_nil, Bool.and_true]
  generalize (l.all fun x => decide (1 ≤ x) && decide (x ≤ 8) && decide (x ≠ wr)) = p
  generalize (decide (1 ≤ x) && decide (x ≤ 8) && decide (x ≠ wr)) = q
  generalize decide l.Nodup = r
  generalize decide (x ∉ l) = s
  cases p <;> cases q <;> cases r <;> cases s <;> rfl
theorem gdR_take {wr : Int} {l : List Int} (k : Nat) (h : gdR wr l = true) : gdR wr (l.take k) = true := by
  unfold gdR at h ⊢
  rw [Bool.and_eq_true, List.all_eq_true, decide_eq_true_eq] at h ⊢
  exact ⟨fun x hx => h.1 x (List.mem_of_mem_take hx), h.2.sublist (List.take_sublist k l)⟩
theorem rdV_len (f : Nat → Bool) : (Try.prog.info? 60).map (·.size) = some (rdV f).length := by
  have : (Try.prog.info? 60).map (·.size) = some 9 := by kernel_rfl
  rw [this]; rfl
/-- What readersOf leaves. -/
structure RdE (w w' : World) (wr : Int) (l : List Int) (f : Nat → Bool) : Prop where
  f : mayR wr l = true → f = inF l
  k : Kp w w'
theorem set_row9 {W : World} {M : Nat} {f : Nat → Bool} (h : W.heap[M]? = some (.cells (rdV f).toArray 60 (0, 0))) : (storeVar 60 ⟨M, 0, none⟩ (.agg (rdV f).toArray)).run Try.prog W = .ok () (W.setRow M (rdV f).toArray) := by
  have := run_storeVar_row (P := Try.prog) W M 0 60 (rdV f).toArray (rdV f).toArray 60 h (by simp) (rdV_len f) (by simp [rdV, Value.oneCell'])
  simpa using this
end Go.Proofs.Ytibpbemenjgncaa
