import Derived.Test.YthgpcmickgcdhaaSh
namespace Go.Proofs.Ythgpcmickgcdhaa
open Go.Shelf Go.RowKit Go.Lib Go.Sort
set_option linter.unusedVariables false
/-- An edge's two cells. -/
def encE (x : Nat × Nat) : List Value := [.int .i64 (x.1 : Nat), .int .i64 (x.2 : Nat)]
def cfE (x y : Nat × Nat) : Int := orI (cmpI x.1 y.1) (cmpI x.2 y.2)
theorem ltE (x y : Nat × Nat) : ltOf cfE x y = decide (x.1 < y.1 ∨ (x.1 = y.1 ∧ x.2 < y.2)) := by
  obtain ⟨a, b⟩ := x
  obtain ⟨c, d⟩ := y
  unfold ltOf cfE orI cmpI
  simp only
  by_cases h1 : a < c
  · simp [h1, show (a : Int) < c by omega]
  · by_cases h2 : c < a
    · simp [show ¬ (a : Int) < c by omega, show (c : Int) < a by omega]; omega
    · obtain rfl : a = c := by omega
      simp
      by_cases h3 : b < d
      · simp [h3]
      · by_cases h4 : d < b
        · simp [h3, h4]
        · obtain rfl : b = d := by omega
          simp
theorem swoE : SWO (ltOf cfE) where
  irrefl x := by rw [ltE]; simp
  trans x y z h1 h2 := by rw [ltE, decide_eq_true_eq] at *; omega
  ntrans x y z h1 h2 := by rw [ltE, decide_eq_false_iff_not] at *; omega
theorem isAgg41 : ∀ w, (isAgg 41).run Try.prog w = .ok true w := fun w => by kernel_rfl
theorem size41 : ∀ w, (Go.sizeOf 41).run Try.prog w = .ok 2 w := fun w => by kernel_rfl
theorem sort_edges (w : World) (b off cap : Nat) (d : Array (Nat × Nat)) (hH : HoldsK encE 2 w b off d) (hb : b < w.heap.size) (hsz : d.size < 1000000) :
    Calls Try.prog 40 #[.slice (some ⟨b, off, none⟩) d.size cap, .func (.func 29) #[] #[]] w fun e w' => e = .returned (.tuple #[]) ∧ ∃ d' n os, PermIn 0 d.size d d' ∧ SortedIn (ltOf cfE) 0 d.size d' ∧ w' = sortWorldK encE 2 w b off n d' os := by
  have eg : ∀ args w, (callFunc 29 args).run Try.prog w = .ok (.enter 29 args) w := enters_of Try.func29 (by kernel_rfl) rfl
  have hc : CmpLays Try.prog 29 #[] encE 2 cfE b off d.size w := fun _ _ _ _ x y => byEnds_any _ x.1 x.2 y.1 y.2
  exact AnyQ.slices_SortFunc laysE 2 isAgg41 size41 encE (fun _ => rfl) (fun x v hv => by simp [encE] at hv; rcases hv with rfl | rfl <;> rfl) cfE swoE 29 #[] b off cap d w eg hc hH hb (by omega)
end Go.Proofs.Ythgpcmickgcdhaa
