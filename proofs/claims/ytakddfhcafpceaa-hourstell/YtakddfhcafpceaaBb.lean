import Derived.Test.YtakddfhcafpceaaBa
namespace Go.Proofs.Ytakddfhcafpceaa
open Go.ChangeShapes Go.WideShapes Go.ChangeAt Go.RowKit Go.Shelf
set_option linter.unusedVariables false
/-- How many windows start ahead of a tick. -/
def Hr.ah (h : Hr) (t : Nat) : Nat := t / h.M * h.L.length + ahN h.L (t % h.M)
theorem ahN_le (L : List Wn) (t : Nat) : ahN L t ≤ L.length := List.countP_le_length
theorem ahN_lt (L : List Wn) (ha : Asc L) (t : Nat) : ahN L t ≤ t := by
  -- starts are apart
  have key : ∀ (L : List Wn) (b : Nat), (∀ i (hi : i < L.length), b + i ≤ L[i].s) → ahN L t ≤ t - b := by
    intro L
    induction L with
    | nil => intro b _; simp [ahN]
    | cons x r ih =>
      intro b hb
      have h0 := hb 0 (by simp)
      simp at h0
      have h1 := ih (b + 1) (fun i hi => by have := hb (i + 1) (by simpa using hi); simp at this; omega)
      unfold ahN at h1 ⊢
      rw [List.countP_cons]
      by_cases hx : x.s < t
      · simp [hx]; omega
      · simp [hx]; omega
  have := key L 0 (fun i hi => by
    induction i with
    | zero => omega
    | succ i ih =>
      have := ih (by omega)
      have := ha i (i + 1) (by omega) hi (by omega)
      omega)
  omega
theorem Hr.ah_le {h : Hr} (k : h.ok) (t : Nat) : h.ah t ≤ t := by
  unfold Hr.ah
  have h1 := ahN_lt h.L k.asc (t % h.M)
  have h2 : h.L.length ≤ h.M := by
    have hl : h.L.length - 1 < h.L.length := by have := k.n1; omega
    have key : ∀ i (hi : i < h.L.length), i < h.L[i].s + h.L[i].l := fun i hi => by
      induction i with
      | zero => have := (k.c 0 hi).2.2.1; omega
      | succ i ih =>
        have := ih (by omega)
        have h2 := k.o i (i + 1) (by omega) hi (by omega)
        have := (k.c (i + 1) hi).2.2.1
        omega
    have h3 := key _ hl
    have h4 := (k.c _ hl).2.2.2
    omega
  have h3 : t / h.M * h.L.length ≤ t / h.M * h.M := Nat.mul_le_mul_left _ h2
  have h4 := Nat.div_add_mod t h.M
  rw [Nat.mul_comm] at h4
  omega
set_option maxHeartbeats 2000000 in
set_option maxRecDepth 10000 in
theorem ahead_any (w : World) (B : Nat) (h : Hr) (i : IsH w B h) (t : Nat) (ht : t < 18446744073709551616) :
    Calls Try.prog 24 #[.pointer (some ⟨B, 0, none⟩), .int .u64 (t : Nat)] w fun e w' => e = .returned (.int .u64 (h.ah t : Nat)) ∧ Kp w w' := by
  obtain ⟨g, cap, h1, h2, h3⟩ := i.ex
  have hS := search_any w.drew g cap h.L (h3.kp (Kp.drew w)) i.ok.asc i.ok.n2 (t % h.M)
  have hle := Hr.ah_le i.ok t
  have hn := ahN_le h.L (t % h.M)
  have n2 := i.ok.n2
  have m1 := i.ok.m1
  have HD : Hid (h.ah t = t / h.M * h.L.length + ahN h.L (t % h.M)) := rfl
  clear h3 i
  generalize h.ah t = A at *
  generalize hnl : h.L.length = n at *
  generalize ahN h.L (t % h.M) = q at *
  generalize h.M = M at *
  clear hnl
  obtain ⟨mo, hmo⟩ : ∃ mo, mo = t % M := ⟨_, rfl⟩
  obtain ⟨dv, hdv⟩ : ∃ dv, dv = t / M := ⟨_, rfl⟩
  have hmoz : (t : Int).tmod (M : Int) = (mo : Nat) := by rw [Int.tmod_eq_emod_of_nonneg (by omega), hmo]; simp
  have hdvz : (t : Int).tdiv (M : Int) = (dv : Nat) := by rw [Int.tdiv_eq_ediv_of_nonneg (by omega), hdv]; simp
  have hmo2 : mo < 18446744073709551616 := by have := Nat.mod_le t M; omega
  have hdv2 : dv < 18446744073709551616 := by have := Nat.div_le_self t M; omega
  rw [← hmo] at hS
  rw [← hdv] at HD
  have hp1 : dv * n + q < 18446744073709551616 := by rw [← HD.out]; omega
  have hp2 : IntKind.u64.wrap ((dv : Int) * n) = ((dv * n : Nat) : Int) := by rw [← Int.natCast_mul]; exact u64n (by omega)
  have hp3 : IntKind.u64.wrap (((dv * n : Nat) : Int) + q) = (A : Nat) := by rw [HD.out, ← Int.natCast_add]; exact u64n hp1
  clear hmo hdv
  have hS' : Calls Try.prog 35 #[.slice (some ⟨g, 0, none⟩) n cap, .int .u64 (mo : Nat), .func (.func 36) #[] #[]] w.drew fun e w' => ∃ b : Bool, e = .returned (.tuple #[.int .i64 (q : Nat), .bool b]) ∧ Kp w.drew w' :=
    hS.mono fun e w' ⟨⟨b, hb⟩, k⟩ => ⟨b, hb, k⟩
  have HKc : ∀ W', Kp w W' → W'.cell? ⟨B, 0, none⟩ = some (.int .u64 (M : Nat)) ∧ W'.cell? ⟨B, 1, none⟩ = some (.slice (some ⟨g, 0, none⟩) n cap) := fun W' k => ⟨k.cell h1, k.cell h2⟩
  have hm0 : ¬ (M : Int) = 0 := by omega
  have hm0' : ¬ M = 0 := by omega
  clear hS
  go_enter Try.func24, Try.ntmps24
  go_upto_region 1 with fail
  go_region_held3 (fun w' => w'.cell? ⟨B, 0, none⟩ = some (.int .u64 (M : Nat)) ∧ w'.cell? ⟨B, 1, none⟩ = some (.slice (some ⟨g, 0, none⟩) n cap)) (first | exact ⟨by assumption, by assumption⟩ | exact HKc _ (Kp.drew _) | exact HKc _ ((Kp.drew _).trans (by assumption))) (first | (go_at_call 35; with_reducible refine hS'.mono ?_; rintro e wz ⟨b, rfl, kz⟩))
  have K2 := (Kp.drew w).trans kz
  obtain ⟨y1, y2⟩ := HKc _ K2
  have HZ : Hid (Kp w wz) := K2
  clear hS' HKc K2 kz h1 h2
  go_upto_region 2 with fail
  go_quiet (fail)
  go_wp2
  go_ret
  exact ⟨ret_int (by rw [HD.out]; simp), HZ.out.trans (Kp.drewN _ _)⟩
end Go.Proofs.Ytakddfhcafpceaa
