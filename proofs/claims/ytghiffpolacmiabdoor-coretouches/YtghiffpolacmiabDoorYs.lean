import Derived.Test.YtghiffpolacmiabDoorWd
namespace Go.Proofs.YtghiffpolacmiabDoor
open Go.ChangeShapes Go.WideShapes Go.ChangeAt Go.RowKit
set_option linter.unusedVariables false

/-- A log of one's own, as it lies. -/
theorem log_at {w : World} {v : Value} {lg : List Lg} (h : w.ownsRow 0 65 4 v lg.length (lg.flatMap Lg.cs)) : ∃ a cap, v = .slice a lg.length cap ∧ (lg = [] ∨ ∃ q, a = some ⟨q, 0, none⟩ ∧ ∀ (i : Nat) u, (lg.flatMap Lg.cs)[i]? = some u → w.cell? ⟨q, i, none⟩ = some u) := by
  rcases h.2 with ⟨h1, h2⟩ | ⟨g, cap, cur, rfl, _, hg, _, _, _, htake⟩
  · have : lg = [] := List.eq_nil_of_length_eq_zero h2
    subst this
    exact ⟨none, 0, h1, .inl rfl⟩
  · refine ⟨_, cap, rfl, .inr ⟨g, rfl, fun i u hu => ?_⟩⟩
    rw [(cells_at hg _).1, ← Array.getElem?_toList]
    rw [← htake, List.getElem?_take] at hu
    split at hu
    · exact hu
    · cases hu
theorem flat_at (lg : List Lg) (j : Nat) (x : Lg) (h : lg[j]? = some x) (k : Nat) (hk : k < 4) : (lg.flatMap Lg.cs)[j * 4 + k]? = x.cs[k]? := by
  induction lg generalizing j with
  | nil => cases h
  | cons y l ih =>
    rw [List.flatMap_cons]
    cases j with
    | zero =>
      cases h
      rw [Nat.zero_mul, Nat.zero_add, List.getElem?_append_left (by simpa [Lg.cs] using hk)]
    | succ j =>
      have h' : l[j]? = some x := h
      rw [List.getElem?_append_right (by simp [Lg.cs]; omega), ← ih j h']
      congr 1
      simp [Lg.cs]
      omega
theorem fields65 : Tryd.prog.underlying 65 = some (.struct (Tryd.prog.fieldsOf 65)) := by simp [Program.fieldsOf, Tryd.underlying65]
theorem stood65 : Tryd.prog.stoodInHeld 65 = false := by kernel_rfl
theorem neq65 (a b c d : Int) (w : World) : (binOp BinOp.neq 65 (.agg #[.int .u8 a, .int .u32 b, .int .i64 c, .int .u32 d]) (.agg #[.int .u8 a, .int .u32 b, .int .i64 c, .int .u32 d])).run Tryd.prog w = .ok (.bool false) w := by
  rw [run_neq_struct, run_equalIn_agg w 9999 65 _ _ fields65 stood65]
  simp [Program.fieldsOf, Tryd.underlying65, go_sem]
set_option maxHeartbeats 1000000 in
set_option maxRecDepth 10000 in
/-- Was the same asked? -/
theorem same_any (w : World) (pa pb : Nat) (x y : Bd) (hx : IsB w pa x) (hy : IsB w pb y) (hl : x.lg = y.lg) (hn : x.lg.length < 1000000) :
    Calls Tryd.prog 9 #[.pointer (some ⟨pa, 0, none⟩), .pointer (some ⟨pb, 0, none⟩)] w fun e w' => e = .returned (.bool true) ∧ Kp w w' := by
  obtain ⟨a1, c1, e1, h1⟩ := log_at hx.lg
  obtain ⟨a2, c2, e2, h2⟩ := log_at hy.lg
  have d1 := hx.cell 7 x.lv rfl
  have d2 := hy.cell 7 y.lv rfl
  rw [e1] at d1
  rw [e2, ← hl] at d2
  rw [← hl] at h2
  obtain ⟨L, hL⟩ : ∃ L, L = x.lg.length := ⟨_, rfl⟩
  rw [← hL] at d1 d2
  have HN : Hid (L < 1000000) := by rw [hL]; exact hn
  have H1 : Hid (x.lg = [] ∨ ∃ q, a1 = some ⟨q, 0, none⟩ ∧ ∀ (i : Nat) u, (x.lg.flatMap Lg.cs)[i]? = some u → w.cell? ⟨q, i, none⟩ = some u) := h1
  have H2 : Hid (x.lg = [] ∨ ∃ q, a2 = some ⟨q, 0, none⟩ ∧ ∀ (i : Nat) u, (x.lg.flatMap Lg.cs)[i]? = some u → w.cell? ⟨q, i, none⟩ = some u) := h2
  have HL : Hid (L = x.lg.length) := hL
  have HD : Hid (w.cell? ⟨pa, 7, none⟩ = some (.slice a1 L c1) ∧ w.cell? ⟨pb, 7, none⟩ = some (.slice a2 L c2)) := ⟨d1, d2⟩
  clear hx hy hl hn h1 h2 e1 e2 hL
  go_enter Tryd.func9, Tryd.ntmps9
  go_upto_region 1 with (fail)
  go_quiet (fail)
  go_wp2_with fail
  go_loopw [5] (fun i wr => ∃ j : Nat, j ≤ L ∧ i = .int .i64 j ∧ Hid (Kp w wr)) (fun i _ => L - (intOf i).toNat)
  case atStart => exact ⟨0, by omega, rfl, (Kp.refl w).drewN _⟩
  case round =>
    obtain ⟨j, hj, rfl, HK⟩ := hrel
    clear d1 d2
    have d1 := Kp.cell HK.out HD.out.1
    have d2 := Kp.cell HK.out HD.out.2
    by_cases hlt : j < L
    · have hltz : (j : Int) < (L : Int) := by omega
      have hjl : j < x.lg.length := by rw [← HL.out]; exact hlt
      obtain ⟨z, hz⟩ : ∃ z, x.lg[j]? = some z := ⟨_, List.getElem?_eq_getElem hjl⟩
      have hne : x.lg ≠ [] := fun e => by rw [e] at hjl; simp at hjl
      obtain ⟨q1, rfl, f1⟩ := H1.out.resolve_left hne
      obtain ⟨q2, rfl, f2⟩ := H2.out.resolve_left hne
      have g10 := Kp.cell HK.out (f1 (j * 4 + 0) (.int .u8 z.k) (by rw [flat_at _ _ _ hz _ (by omega)]; rfl))
      have g11 := Kp.cell HK.out (f1 (j * 4 + 1) (.int .u32 z.at') (by rw [flat_at _ _ _ hz _ (by omega)]; rfl))
      have g12 := Kp.cell HK.out (f1 (j * 4 + 2) (.int .i64 z.size) (by rw [flat_at _ _ _ hz _ (by omega)]; rfl))
      have g13 := Kp.cell HK.out (f1 (j * 4 + 3) (.int .u32 z.v) (by rw [flat_at _ _ _ hz _ (by omega)]; rfl))
      have g20 := Kp.cell HK.out (f2 (j * 4 + 0) (.int .u8 z.k) (by rw [flat_at _ _ _ hz _ (by omega)]; rfl))
      have g21 := Kp.cell HK.out (f2 (j * 4 + 1) (.int .u32 z.at') (by rw [flat_at _ _ _ hz _ (by omega)]; rfl))
      have g22 := Kp.cell HK.out (f2 (j * 4 + 2) (.int .i64 z.size) (by rw [flat_at _ _ _ hz _ (by omega)]; rfl))
      have g23 := Kp.cell HK.out (f2 (j * 4 + 3) (.int .u32 z.v) (by rw [flat_at _ _ _ hz _ (by omega)]; rfl))
      have hq := fun W => neq65 z.k z.at' z.size z.v W
      rw [Nat.add_zero] at g10 g20
      generalize z.k = zk at *
      generalize z.at' = za at *
      generalize z.size = zs at *
      generalize z.v = zv at *
      have hN := HN.out
      clear hz hne f1 f2 hjl
      go_wp2_with fail
      go_quiet (fail)
      go_wp2
      exact ⟨⟨j + 1, by omega, by go_num, HK.out.drewN _⟩, by simp [intOf]; omega⟩
    · have hjz : ¬ ((j : Int) < (L : Int)) := by omega
      go_wp2_with fail
      go_ret
      exact ⟨rfl, HK.out⟩
end Go.Proofs.YtghiffpolacmiabDoor
