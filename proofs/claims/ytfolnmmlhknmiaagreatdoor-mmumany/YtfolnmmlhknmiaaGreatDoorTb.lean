import Derived.Test.YtfolnmmlhknmiaaGreatDoorTa
import Derived.Deep.QuietTactic
namespace Go.Proofs.YtfolnmmlhknmiaaGreatDoor
open Go.ChangeShapes Go.WideShapes Go.ChangeAt Go.RowKit
set_option linter.unusedVariables false

/-- A range. -/
structure Rv where
  v : Nat
  ph : Nat
  pg : Int
  pm : Nat
def Rv.ok (r : Rv) : Prop := r.v < 4294967296 ∧ r.ph < 4294967296 ∧ (-9223372036854775808 ≤ r.pg ∧ r.pg ≤ 9223372036854775807) ∧ r.pm < 256
def Rv.cs (r : Rv) : Array Value := #[.int .u32 (r.v : Nat), .int .u32 (r.ph : Nat), .int .i64 r.pg, .int .u8 (r.pm : Nat)]
/-- May a range be? -/
def Rv.may (r : Rv) : Prop := Ent.ck 1 r.pm (r.ph / 4096) = 0 ∧ r.v % 4096 = 0 ∧ r.ph % 4096 = 0 ∧ 1 ≤ r.pg ∧ r.pg ≤ 1048576 - (r.v / 4096 : Nat) ∧ r.pg ≤ 4096 - (r.ph / 4096 : Nat)
instance (r : Rv) : Decidable r.may := by unfold Rv.may; infer_instance
def Rv.mb (r : Rv) : Bool := decide r.may
theorem cells4 {w : World} {p : Nat} {a b c d : Value} {T : TypeId} (h : w.heap[p]? = some (.cells #[a, b, c, d] T (0, 0))) :
    w.cell? ⟨p, 0, none⟩ = some a ∧ w.cell? ⟨p, 1, none⟩ = some b ∧ w.cell? ⟨p, 2, none⟩ = some c ∧ w.cell? ⟨p, 3, none⟩ = some d :=
  ⟨by rw [(cells_at h _).1]; rfl, by rw [(cells_at h _).1]; rfl, by rw [(cells_at h _).1]; rfl, by rw [(cells_at h _).1]; rfl⟩

set_option maxHeartbeats 1000000 in
set_option maxRecDepth 10000 in
theorem mayBe_any (w : World) (r : Rv) (hr : r.ok) :
    Calls Tryz.prog 137 #[.agg r.cs] w fun e w' => e = .returned (.bool r.mb) ∧ Chg w w' (fun _ => False) := by
  obtain ⟨v, ph, pg, pm⟩ := r
  obtain ⟨h1, h2, h3, h4⟩ := hr
  simp only at h1 h2 h3 h4
  obtain ⟨b, hb⟩ : ∃ b, b = Rv.mb ⟨v, ph, pg, pm⟩ := ⟨_, rfl⟩
  have hbi : b = true ↔ (Ent.ck 1 pm (ph / 4096) = 0 ∧ v % 4096 = 0 ∧ ph % 4096 = 0 ∧ 1 ≤ pg ∧ pg ≤ 1048576 - (v / 4096 : Nat) ∧ pg ≤ 4096 - (ph / 4096 : Nat)) := by rw [hb]; exact decide_eq_true_iff
  rw [← hb]
  clear hb
  unfold Rv.cs
  simp only
  obtain ⟨x, hx⟩ : ∃ x, x = v / 4096 := ⟨_, rfl⟩
  obtain ⟨y, hy⟩ : ∃ y, y = ph / 4096 := ⟨_, rfl⟩
  rw [← hx, ← hy] at hbi
  have ex : (v : Int) / 4096 = x := by omega
  have ey : (ph : Int) / 4096 = y := by omega
  have hx2 : x < 1048576 := by omega
  have hy2 : y < 1048576 := by omega
  obtain ⟨a, ha⟩ : ∃ a, a = v % 4096 := ⟨_, rfl⟩
  obtain ⟨c, hc⟩ : ∃ c, c = ph % 4096 := ⟨_, rfl⟩
  rw [← ha, ← hc] at hbi
  have ea : (v : Int) % 4096 = a := by omega
  have ec : (ph : Int) % 4096 = c := by omega
  have hE : ∀ w, Calls Tryz.prog 143 #[.agg #[.int .i64 1, .int .u8 (pm : Nat), .int .u32 (y : Nat)]] w fun e w' => e = .returned (.tuple #[.int .u32 (Ent.ew 1 pm y), .int .i64 (Ent.ck 1 pm y)]) ∧ Chg w w' (fun _ => False) := fun w => Ent.Encode_any w 1 pm y h4
  generalize Ent.ck 1 pm y = d at *
  generalize Ent.ew 1 pm y = q at *
  clear ha hc hx hy
  go_enter Tryz.func137, Tryz.ntmps137
  go_wp2
  go_quiet (fail)
  go_wp2_with fail
  go_at_call 143
  refine (hE _).mono ?_
  rintro e w1 ⟨rfl, k1⟩
  have g0 := k1.heap (((Chg.refl _ (fun _ => False)).drewN nq).heap (heap_alloc_new w _) (fun x => x)) (fun x => x)
  obtain ⟨z0, z1, z2, z3⟩ := cells4 g0
  have KC : Hid (Chg w w1 (fun _ => False)) := (((Chg.refl _ _).alloc _).drewN nq).trans k1 (fun _ _ h => h)
  clear k1 g0 hE
  by_cases hc0 : d = 0
  · have hz : (d == 0) = true := by simpa using hc0
    by_cases hc1 : a = 0
    · have hz1 : ((a : Int) == 0) = true := by simp; omega
      by_cases hc2 : c = 0
      · have hz2 : ((c : Int) == 0) = true := by simp; omega
        by_cases hc3 : 1 ≤ pg
        · have hz3 : decide ((1 : Int) ≤ pg) = true := by simp; omega
          by_cases hc4 : pg ≤ 1048576 - x
          · have hz4 : decide (pg ≤ 1048576 - (x : Int)) = true := by simp; omega
            by_cases hc5 : pg ≤ 4096 - y
            · have hz5 : decide (pg ≤ 4096 - (y : Int)) = true := by simp; omega
              have hF : b = true := hbi.2 ⟨hc0, hc1, hc2, hc3, hc4, hc5⟩
              clear hbi
              go_wp2
              go_ret
              exact ⟨by first | (rw [hF]; rfl) | (rw [hF, hz5]; rfl) | (rw [hF]; exact congrArg (fun b => Ending.returned (Value.bool b)) hz3) | (rw [hF]; exact congrArg (fun b => Ending.returned (Value.bool b)) hz4) | (rw [hF]; exact congrArg (fun b => Ending.returned (Value.bool b)) hz5), KC.out⟩
            · have hz5 : decide (pg ≤ 4096 - (y : Int)) = false := by simp; omega
              have hF : b = false := by
                cases b
                · rfl
                · have := hbi.1 rfl; omega
              clear hbi
              go_wp2
              go_ret
              exact ⟨by first | (rw [hF]; rfl) | (rw [hF, hz5]; rfl) | (rw [hF]; exact congrArg (fun b => Ending.returned (Value.bool b)) hz3) | (rw [hF]; exact congrArg (fun b => Ending.returned (Value.bool b)) hz4) | (rw [hF]; exact congrArg (fun b => Ending.returned (Value.bool b)) hz5), KC.out⟩
          · have hz4 : decide (pg ≤ 1048576 - (x : Int)) = false := by simp; omega
            have hF : b = false := by
              cases b
              · rfl
              · have := hbi.1 rfl; omega
            clear hbi
            go_wp2
            go_ret
            exact ⟨by first | (rw [hF]; rfl) | (rw [hF, hz5]; rfl) | (rw [hF]; exact congrArg (fun b => Ending.returned (Value.bool b)) hz3) | (rw [hF]; exact congrArg (fun b => Ending.returned (Value.bool b)) hz4) | (rw [hF]; exact congrArg (fun b => Ending.returned (Value.bool b)) hz5), KC.out⟩
        · have hz3 : decide ((1 : Int) ≤ pg) = false := by simp; omega
          have hF : b = false := by
            cases b
            · rfl
            · have := hbi.1 rfl; omega
          clear hbi
          go_wp2
          go_ret
          exact ⟨by first | (rw [hF]; rfl) | (rw [hF, hz5]; rfl) | (rw [hF]; exact congrArg (fun b => Ending.returned (Value.bool b)) hz3) | (rw [hF]; exact congrArg (fun b => Ending.returned (Value.bool b)) hz4) | (rw [hF]; exact congrArg (fun b => Ending.returned (Value.bool b)) hz5), KC.out⟩
      · have hz2 : ((c : Int) == 0) = false := by simp; omega
        have hF : b = false := by
          cases b
          · rfl
          · have := hbi.1 rfl; omega
        clear hbi
        go_wp2
        go_ret
        exact ⟨by first | (rw [hF]; rfl) | (rw [hF, hz5]; rfl) | (rw [hF]; exact congrArg (fun b => Ending.returned (Value.bool b)) hz3) | (rw [hF]; exact congrArg (fun b => Ending.returned (Value.bool b)) hz4) | (rw [hF]; exact congrArg (fun b => Ending.returned (Value.bool b)) hz5), KC.out⟩
    · have hz1 : ((a : Int) == 0) = false := by simp; omega
      have hF : b = false := by
        cases b
        · rfl
        · have := hbi.1 rfl; omega
      clear hbi
      go_wp2
      go_ret
      exact ⟨by first | (rw [hF]; rfl) | (rw [hF, hz5]; rfl) | (rw [hF]; exact congrArg (fun b => Ending.returned (Value.bool b)) hz3) | (rw [hF]; exact congrArg (fun b => Ending.returned (Value.bool b)) hz4) | (rw [hF]; exact congrArg (fun b => Ending.returned (Value.bool b)) hz5), KC.out⟩
  · have hz : (d == 0) = false := by simpa using hc0
    have hF : b = false := by
      cases b
      · rfl
      · have := hbi.1 rfl; omega
    clear hbi
    go_wp2
    go_ret
    exact ⟨by first | (rw [hF]; rfl) | (rw [hF, hz5]; rfl) | (rw [hF]; exact congrArg (fun b => Ending.returned (Value.bool b)) hz3) | (rw [hF]; exact congrArg (fun b => Ending.returned (Value.bool b)) hz4) | (rw [hF]; exact congrArg (fun b => Ending.returned (Value.bool b)) hz5), KC.out⟩

/-- What 'readPage' says. -/
def rpF (n v : Nat) (a : Int) : Int := if rdF v 1 ≠ 0 then rdF v 1 else if Ent.alw (Ent.dp v) a = false then 5 else if n ≤ Ent.df v then 2 else 0
theorem readPage_any (w : World) (hP : Ent.Pt w) (B M n : Nat) (f : Nat → Option Nat) (m : Nat → Nat) (h : IsM w B M n f m) (v : Nat) (hv : v < 4294967296) (a : Int) (ha : Ent.InI a) :
    Calls Tryz.prog 158 #[.pointer (some ⟨B, 0, none⟩), .int .u32 v, .int .i64 a] w fun e w' => e = .returned (.tuple #[.agg #[.int .i64 (Ent.at0 (rpF n v a) (Ent.dk v)), .int .u8 (Ent.at0 (rpF n v a) (Ent.dp v)), .int .u32 (Ent.at0 (rpF n v a) (Ent.df v))], .int .i64 (rpF n v a)]) ∧ Chg w w' (fun _ => False) := by
  have hD := fun w => read_any w v hv 1
  have hdp : Ent.dp v < 256 := by unfold Ent.dp; omega
  have hAl := fun (w1 : World) (h1 : Ent.Pt w1) => Ent.Allows_any w1 h1 (Ent.dp v) hdp a ha
  have hF := fun (w1 : World) (h1 : IsM w1 B M n f m) => hasFrame_any w1 B M n f m h1 (Ent.df v)
  have HR : Hid (rpF n v a = if rdF v 1 ≠ 0 then rdF v 1 else if Ent.alw (Ent.dp v) a = false then 5 else if n ≤ Ent.df v then 2 else 0) := rfl
  have a0 : ∀ c x : Int, c ≠ 0 → Ent.at0 c x = 0 := fun c x h => by simp [Ent.at0, h]
  have a1 : ∀ x : Int, Ent.at0 0 x = x := fun x => by simp [Ent.at0]
  have H : Hid (IsM w B M n f m ∧ Ent.Pt w) := ⟨h, hP⟩
  clear h hP
  generalize rpF n v a = r at *
  generalize rdF v 1 = d at *
  generalize Ent.alw (Ent.dp v) a = al at *
  have hdf : Hid (Ent.df v = Ent.df v) := rfl
  have hlt : decide (Ent.df v < n) = !decide (n ≤ Ent.df v) := by
    by_cases h : n ≤ Ent.df v
    · simp [h]
    · simp [h]; omega
  have HN : Hid ((decide (n ≤ Ent.df v) = true) ↔ n ≤ Ent.df v) := decide_eq_true_iff
  rw [hlt] at hF
  obtain ⟨ob, hob⟩ : ∃ ob, ob = decide (n ≤ Ent.df v) := ⟨_, rfl⟩
  have HR2 : Hid (r = if d ≠ 0 then d else if al = false then 5 else if ob = true then 2 else 0) := by
    have := HR.out
    rw [hob]
    show r = _
    by_cases h : n ≤ Ent.df v
    · rw [this]; simp [h]
    · rw [this]; simp [h]
  rw [← hob] at hF
  clear HR HN hlt hdf hob
  generalize ((Ent.dp v : Nat) : Int) = x1 at *
  generalize ((Ent.df v : Nat) : Int) = x2 at *
  generalize Ent.dk v = x0 at *
  by_cases hd : d = 0
  · subst hd
    rw [a1, a1, a1] at hD
    cases al
    · have hr : r = 5 := by rw [HR2.out]; simp
      subst hr
      rw [a0 5 _ (by decide), a0 5 _ (by decide), a0 5 _ (by decide)]
      clear HR2 a0 a1
      go_enter Tryz.func158, Tryz.ntmps158
      go_wp2_with (go_at_call 157; refine (hD _).mono ?_; rintro e w1 ⟨rfl, k1⟩; have g0 := Ent.al_old (.cells #[.int .i64 x0, .int .u8 x1, .int .u32 x2] 193) (k1.heap (heap_alloc_new w _) (fun x => x)); obtain ⟨q0, q1, q2, f0, f1, f2⟩ := Ent.cells3 g0; have kc : Chg w (w1.alloc (.cells #[.int .i64 x0, .int .u8 x1, .int .u32 x2] 193)) (fun _ => False) := (((Chg.refl _ _).alloc _).trans k1 (fun _ _ h => h)).alloc _; have hA1 := hAl _ (H.out.2.kp kc))
      go_wp2_with (go_at_call 155; refine hA1.mono ?_; rintro e w2 ⟨rfl, rfl⟩)
      obtain ⟨V, hV⟩ : ∃ V, V = ((((w1.alloc (.cells #[.int .i64 x0, .int .u8 x1, .int .u32 x2] 193)).setCell ⟨w.heap.size, 0, none⟩ (.int .i64 0)).setCell ⟨w.heap.size, 1, none⟩ (.int .u8 0)).setCell ⟨w.heap.size, 2, none⟩ (.int .u32 0)) := ⟨_, rfl⟩
      rw [← hV]
      obtain ⟨v1, v2, v3⟩ := Ent.box3 g0 _ _ _ hV
      obtain ⟨r0, r1, r2, _, _, _⟩ := Ent.cells3 v1
      exact bodyPost_ret (v := .tuple #[.agg #[.int .i64 0, .int .u8 0, .int .u32 0], .int .i64 5]) (by simp [results, Tryz.results158, go_sem, r0, r1, r2]) rfl ⟨rfl, kc.fresh v3 (Nat.le_refl _)⟩
    · cases ob
      · have hr : r = 0 := by rw [HR2.out]; simp
        subst hr
        rw [a1, a1, a1]
        clear HR2 a0 a1
        go_enter Tryz.func158, Tryz.ntmps158
        go_wp2_with (go_at_call 157; refine (hD _).mono ?_; rintro e w1 ⟨rfl, k1⟩; have g0 := Ent.al_old (.cells #[.int .i64 x0, .int .u8 x1, .int .u32 x2] 193) (k1.heap (heap_alloc_new w _) (fun x => x)); obtain ⟨q0, q1, q2, f0, f1, f2⟩ := Ent.cells3 g0; have kc : Chg w (w1.alloc (.cells #[.int .i64 x0, .int .u8 x1, .int .u32 x2] 193)) (fun _ => False) := (((Chg.refl _ _).alloc _).trans k1 (fun _ _ h => h)).alloc _; have hA1 := hAl _ (H.out.2.kp kc); have hF1 := hF _ (H.out.1.other kc (fun _ _ x => x)))
        go_wp2_with (first | (go_at_call 155; refine hA1.mono ?_; rintro e w2 ⟨rfl, rfl⟩) | (go_at_call 178; refine hF1.mono ?_; rintro e w2 ⟨rfl, rfl⟩))
        obtain ⟨V, hV⟩ : ∃ V, V = ((((w1.alloc (.cells #[.int .i64 x0, .int .u8 x1, .int .u32 x2] 193)).setCell ⟨w.heap.size, 0, none⟩ (.int .i64 x0)).setCell ⟨w.heap.size, 1, none⟩ (.int .u8 x1)).setCell ⟨w.heap.size, 2, none⟩ (.int .u32 x2)) := ⟨_, rfl⟩
        rw [← hV]
        obtain ⟨v1, v2, v3⟩ := Ent.box3 g0 _ _ _ hV
        obtain ⟨r0, r1, r2, _, _, _⟩ := Ent.cells3 v1
        exact bodyPost_ret (v := .tuple #[.agg #[.int .i64 x0, .int .u8 x1, .int .u32 x2], .int .i64 0]) (by simp [results, Tryz.results158, go_sem, r0, r1, r2]) rfl ⟨rfl, kc.fresh v3 (Nat.le_refl _)⟩
      · have hr : r = 2 := by rw [HR2.out]; simp
        subst hr
        rw [a0 2 _ (by decide), a0 2 _ (by decide), a0 2 _ (by decide)]
        clear HR2 a0 a1
        go_enter Tryz.func158, Tryz.ntmps158
        go_wp2_with (go_at_call 157; refine (hD _).mono ?_; rintro e w1 ⟨rfl, k1⟩; have g0 := Ent.al_old (.cells #[.int .i64 x0, .int .u8 x1, .int .u32 x2] 193) (k1.heap (heap_alloc_new w _) (fun x => x)); obtain ⟨q0, q1, q2, f0, f1, f2⟩ := Ent.cells3 g0; have kc : Chg w (w1.alloc (.cells #[.int .i64 x0, .int .u8 x1, .int .u32 x2] 193)) (fun _ => False) := (((Chg.refl _ _).alloc _).trans k1 (fun _ _ h => h)).alloc _; have hA1 := hAl _ (H.out.2.kp kc); have hF1 := hF _ (H.out.1.other kc (fun _ _ x => x)))
        go_wp2_with (first | (go_at_call 155; refine hA1.mono ?_; rintro e w2 ⟨rfl, rfl⟩) | (go_at_call 178; refine hF1.mono ?_; rintro e w2 ⟨rfl, rfl⟩))
        obtain ⟨V, hV⟩ : ∃ V, V = ((((w1.alloc (.cells #[.int .i64 x0, .int .u8 x1, .int .u32 x2] 193)).setCell ⟨w.heap.size, 0, none⟩ (.int .i64 0)).setCell ⟨w.heap.size, 1, none⟩ (.int .u8 0)).setCell ⟨w.heap.size, 2, none⟩ (.int .u32 0)) := ⟨_, rfl⟩
        rw [← hV]
        obtain ⟨v1, v2, v3⟩ := Ent.box3 g0 _ _ _ hV
        obtain ⟨r0, r1, r2, _, _, _⟩ := Ent.cells3 v1
        exact bodyPost_ret (v := .tuple #[.agg #[.int .i64 0, .int .u8 0, .int .u32 0], .int .i64 2]) (by simp [results, Tryz.results158, go_sem, r0, r1, r2]) rfl ⟨rfl, kc.fresh v3 (Nat.le_refl _)⟩
  · have hr : r = d := by rw [HR2.out]; simp [hd]
    subst hr
    rw [a0 r _ hd, a0 r _ hd, a0 r _ hd] at hD
    rw [a0 r _ hd, a0 r _ hd, a0 r _ hd]
    have hbd : (r != 0) = true := by simpa using hd
    clear HR2 a0 a1 hd
    go_enter Tryz.func158, Tryz.ntmps158
    go_wp2_with (go_at_call 157; refine (hD _).mono ?_; rintro e w1 ⟨rfl, k1⟩; have g0 := Ent.al_old (.cells #[.int .i64 0, .int .u8 0, .int .u32 0] 193) (k1.heap (heap_alloc_new w _) (fun x => x)); obtain ⟨q0, q1, q2, f0, f1, f2⟩ := Ent.cells3 g0; have kc : Chg w (w1.alloc (.cells #[.int .i64 0, .int .u8 0, .int .u32 0] 193)) (fun _ => False) := (((Chg.refl _ _).alloc _).trans k1 (fun _ _ h => h)).alloc _)
    obtain ⟨V, hV⟩ : ∃ V, V = ((((w1.alloc (.cells #[.int .i64 0, .int .u8 0, .int .u32 0] 193)).setCell ⟨w.heap.size, 0, none⟩ (.int .i64 0)).setCell ⟨w.heap.size, 1, none⟩ (.int .u8 0)).setCell ⟨w.heap.size, 2, none⟩ (.int .u32 0)) := ⟨_, rfl⟩
    rw [← hV]
    obtain ⟨v1, v2, v3⟩ := Ent.box3 g0 _ _ _ hV
    obtain ⟨r0, r1, r2, _, _, _⟩ := Ent.cells3 v1
    exact bodyPost_ret (v := .tuple #[.agg #[.int .i64 0, .int .u8 0, .int .u32 0], .int .i64 r]) (by simp [results, Tryz.results158, go_sem, r0, r1, r2]) rfl ⟨rfl, kc.fresh v3 (Nat.le_refl _)⟩
/-- A range in memory. -/
def RgAt (w : World) (b o : Nat) (r : Rv) : Prop := w.cell? ⟨b, o, none⟩ = some (.int .u32 (r.v : Nat)) ∧ w.cell? ⟨b, o + 1, none⟩ = some (.int .u32 (r.ph : Nat)) ∧ w.cell? ⟨b, o + 2, none⟩ = some (.int .i64 r.pg) ∧ w.cell? ⟨b, o + 3, none⟩ = some (.int .u8 (r.pm : Nat))
theorem RgAt.chg {w w' : World} {b o : Nat} {r : Rv} {S : Nat → Prop} (h : RgAt w b o r) (hc : Chg w w' S) (hS : ¬ S b) : RgAt w' b o r := by
  have hlt := World.block_lt_of_cell? w _ h.1
  have cc : ∀ {q : Nat}, w'.cell? ⟨b, q, none⟩ = w.cell? ⟨b, q, none⟩ := fun {q} => hc.cell hlt hS
  exact ⟨cc.trans h.1, cc.trans h.2.1, cc.trans h.2.2.1, cc.trans h.2.2.2⟩
/-- Ranges in memory. -/
def RgsIn (w : World) (a : Option Addr) (l : List Rv) : Prop := l.length ≤ 1000000 ∧ (∀ r ∈ l, r.ok) ∧ (l.length = 0 ∨ ∃ b o, a = some ⟨b, o, none⟩ ∧ ∀ i (h : i < l.length), RgAt w b (o + i * 4) l[i])
theorem RgsIn.chg {w w' : World} {a : Option Addr} {l : List Rv} {S : Nat → Prop} (h : RgsIn w a l) (hc : Chg w w' S) (hS : ∀ b o, a = some ⟨b, o, none⟩ → 0 < l.length → ¬ S b) : RgsIn w' a l := by
  refine ⟨h.1, h.2.1, ?_⟩
  rcases h.2.2 with h0 | ⟨b, o, e, hr⟩
  · exact .inl h0
  · by_cases hl : l.length = 0
    · exact .inl hl
    · exact .inr ⟨b, o, e, fun i hi => (hr i hi).chg hc (hS b o e (by omega))⟩
set_option maxHeartbeats 1000000 in
set_option maxRecDepth 10000 in
theorem allMayBe_any (w : World) (a : Option Addr) (cap : Nat) (l : List Rv) (h : RgsIn w a l) :
    Calls Tryz.prog 77 #[.slice a l.length cap] w fun e w' => e = .returned (.bool (l.all Rv.mb)) ∧ Chg w w' (fun _ => False) := by
  have hl := h.1
  have H : Hid (RgsIn w a l) := h
  clear h
  go_enter Tryz.func77, Tryz.ntmps77
  go_wp2
  go_loopw [4, 7] (fun s4 s7 wr => ∃ k : Nat, s7 = .int .i64 k ∧ k ≤ l.length ∧ Hid (Chg w wr (fun _ => False) ∧ ∀ i (hi : i < l.length), i < k → l[i].mb = true)) (fun _ s7 _ => l.length - (intOf s7).toNat)
  case atStart => exact ⟨0, rfl, by omega, Chg.refl _ _, fun i hi h => by omega⟩
  case round =>
    obtain ⟨k, rfl, hk, HI⟩ := hrel
    by_cases hlt : k < l.length
    · obtain ⟨b, o, ha, hr⟩ := H.out.2.2.resolve_left (by omega)
      subst ha
      obtain ⟨z0, z1, z2, z3⟩ := (hr k hlt).chg HI.out.1 (fun x => x)
      have hM := mayBe_any
      have hok := H.out.2.1 l[k] (List.getElem_mem hlt)
      have HX : Hid ((l[k].mb = true → ∀ i (hi : i < l.length), i < k + 1 → l[i].mb = true) ∧ (l[k].mb = false → l.all Rv.mb = false)) := by
        refine ⟨fun e i hi h => ?_, fun e => ?_⟩
        · by_cases hik : i = k
          · subst hik; exact e
          · exact HI.out.2 i hi (by omega)
        · rw [List.all_eq_false]
          exact ⟨l[k], List.getElem_mem hlt, by rw [e]; simp⟩
      clear hr
      generalize l[k] = r at *
      obtain ⟨v, ph, pg, pm⟩ := r
      simp only at z0 z1 z2 z3
      have hM2 := mayBe_any (wr.alloc (.cells #[.int .u32 (v : Nat), .int .u32 (ph : Nat), .int .i64 pg, .int .u8 (pm : Nat)] 29)) ⟨v, ph, pg, pm⟩ hok
      unfold Rv.cs at hM2
      simp only at hM2
      generalize Rv.mb ⟨v, ph, pg, pm⟩ = bb at *
      have hkz : (k : Int) < (l.length : Int) := by omega
      clear hM hok
      cases bb
      · go_wp2_with fail
        go_at_call 137
        refine hM2.mono ?_
        rintro e w1 ⟨rfl, k1⟩
        have KE : Hid (Chg w w1 (fun _ => False)) := (HI.out.1.alloc _).trans k1 (fun _ _ h => h)
        clear k1 hM2
        go_wp2
        go_ret
        exact ⟨by rw [HX.out.2 (by trivial)]; rfl, KE.out⟩
      · go_wp2_with fail
        go_at_call 137
        refine hM2.mono ?_
        rintro e w1 ⟨rfl, k1⟩
        have KE : Hid (Chg w w1 (fun _ => False)) := (HI.out.1.alloc _).trans k1 (fun _ _ h => h)
        clear k1 hM2
        go_wp2
        exact ⟨⟨k + 1, by go_num, by omega, KE.out, HX.out.1 (by trivial)⟩, by simp [intOf]; omega⟩
    · have hkz : ¬ (k : Int) < (l.length : Int) := by omega
      go_wp2
      go_ret
      refine ⟨?_, HI.out.1⟩
      have : l.all Rv.mb = true := by
        rw [List.all_eq_true]
        intro r hr
        obtain ⟨i, hi, rfl⟩ := List.getElem_of_mem hr
        exact HI.out.2 i hi (by omega)
      rw [this]; rfl
/-- A space in block S. -/
def IsS (w : World) (S A root : Nat) : Prop := w.heap[S]? = some (.cells #[.pointer (some ⟨A, 0, none⟩), .int .u32 (root : Nat)] 177 (0, 0))
theorem root_any (w : World) (S A root : Nat) (h : IsS w S A root) : Calls Tryz.prog 35 #[.pointer (some ⟨S, 0, none⟩)] w fun e w' => e = .returned (.int .u32 (root : Nat)) ∧ w' = w := by
  obtain ⟨c0, c1, _, _⟩ := cells2 h
  clear h
  go_enter Tryz.func35, Tryz.ntmps35
  go_wp2
  go_ret
  exact ⟨rfl, rfl⟩
theorem new_nil (w : World) : Calls Tryz.prog 32 #[.pointer none] w fun e w' => e = .returned (.tuple #[.pointer none, .int .i64 70]) ∧ w' = w := by
  go_enter Tryz.func32, Tryz.ntmps32
  go_wp2
  go_ret2
  exact ⟨rfl, rfl⟩
theorem snew_ok (w : World) (A B M n p0 pages taken : Nat) (f : Nat → Option Nat) (m : Nat → Nat) (h : IsA w A B p0 pages taken false) (hM : IsM w B M n f m) (hA : ¬ Mf B M f A) (hin : p0 + pages ≤ n) (ht : taken < pages) :
    Calls Tryz.prog 32 #[.pointer (some ⟨A, 0, none⟩)] w fun e w' => ∃ S, e = .returned (.tuple #[.pointer (some ⟨S, 0, none⟩), .int .i64 0]) ∧ IsS w' S A (4096 * (p0 + taken)) ∧ w.heap.size ≤ S ∧ IsA w' A B p0 pages (taken + 1) false ∧ ∃ f', IsM w' B M n f' (fillN m (4096 * (p0 + taken)) 4096 0) ∧ Chg w w' (fun k => k = A ∨ Mf B M f k) ∧ (∀ j x, f' j = some x → f j = some x ∨ w.heap.size ≤ x) := by
  have hT := take_ok w A B M n p0 pages taken f m h hM hA hin ht
  clear h hM hA
  generalize 4096 * (p0 + taken) = root at *
  go_enter Tryz.func32, Tryz.ntmps32
  go_wp2_with (go_at_call 76; refine hT.mono ?_; rintro e w1 ⟨rfl, q1, f', q2, q3, q4⟩)
  go_ret2
  have hc : Chg w1 (w1.alloc (.cells #[.pointer (some ⟨A, 0, none⟩), .int .u32 (root : Nat)] 177)) (fun _ => False) := (Chg.refl _ _).alloc _
  exact ⟨w1.heap.size, rfl, heap_alloc_new w1 _, q3.size, q1.other hc (fun x => x), f', q2.other hc (fun _ _ x => x), q3.trans hc (fun _ _ h => h.elim), q4⟩
/-- Is there room? -/
def roomE (wanted left : Nat) (sealed : Bool) : Int := if wanted = 0 then 0 else if sealed = true then 73 else if left < wanted then 72 else 0
theorem room_any (w : World) (S A root B p0 pages taken : Nat) (sealed : Bool) (hS : IsS w S A root) (h : IsA w A B p0 pages taken sealed) (k : Nat) (hk : k ≤ 1048576) :
    Calls Tryz.prog 79 #[.pointer (some ⟨S, 0, none⟩), .int .i64 k] w fun e w' => e = .returned (.int .i64 (roomE k (pages - taken) sealed)) ∧ Chg w w' (fun _ => False) := by
  obtain ⟨c0, c1, _, _⟩ := cells2 hS
  have hZ := sealed_any w A B p0 pages taken sealed h
  have hL := left_any w A B p0 pages taken sealed h
  have HR : Hid (roomE k (pages - taken) sealed = if k = 0 then 0 else if sealed = true then 73 else if pages - taken < k then 72 else 0) := rfl
  have hlb : pages - taken ≤ 4096 := by have := h.le; omega
  generalize roomE k (pages - taken) sealed = r at *
  generalize pages - taken = left at *
  clear hS h c1
  by_cases h0 : k = 0
  · have hr : r = 0 := by rw [HR.out, if_pos h0]
    subst hr h0
    go_enter Tryz.func79, Tryz.ntmps79
    go_wp2
    go_ret
    exact ⟨rfl, Chg.refl _ _⟩
  · have hb : ((k : Int) == 0) = false := by simp; omega
    cases sealed
    · by_cases hl : left < k
      · have hr : r = 72 := by rw [HR.out, if_neg h0, if_neg (by simp), if_pos hl]
        subst hr
        have hz : (left : Int) < (k : Int) := by omega
        clear HR h0
        go_enter Tryz.func79, Tryz.ntmps79
        go_wp2_with (first | (go_at_call 140; refine hZ.mono ?_; rintro e w1 ⟨rfl, rfl⟩) | (go_at_call 134; refine hL.mono ?_; rintro e w2 ⟨rfl, k2⟩))
        go_ret
        exact ⟨rfl, k2⟩
      · have hr : r = 0 := by rw [HR.out, if_neg h0, if_neg (by simp), if_neg hl]
        subst hr
        have hz : ¬ (left : Int) < (k : Int) := by omega
        clear HR h0
        go_enter Tryz.func79, Tryz.ntmps79
        go_wp2_with (first | (go_at_call 140; refine hZ.mono ?_; rintro e w1 ⟨rfl, rfl⟩) | (go_at_call 134; refine hL.mono ?_; rintro e w2 ⟨rfl, k2⟩))
        go_ret
        exact ⟨rfl, k2⟩
    · have hr : r = 73 := by rw [HR.out, if_neg h0, if_pos rfl]
      subst hr
      clear HR h0
      go_enter Tryz.func79, Tryz.ntmps79
      go_wp2_with (go_at_call 140; refine hZ.mono ?_; rintro e w1 ⟨rfl, rfl⟩)
      go_ret
      exact ⟨rfl, Chg.refl _ _⟩
theorem Chg.weak {w w' : World} {S : Nat → Prop} (h : Chg w w' (fun _ => False)) : Chg w w' S := h.mono (fun _ _ x => x.elim)
theorem store_any (w : World) (B M n : Nat) (f : Nat → Option Nat) (m : Nat → Nat) (h : IsM w B M n f m) (t i : Nat) (hok : okW n t i = true) (k : Int) (p fr : Nat) (hp : p < 256) (hc : Ent.ck k p fr = 0) :
    Calls Tryz.prog 82 #[.pointer (some ⟨B, 0, none⟩), .int .u32 t, .int .u32 i, .agg #[.int .i64 k, .int .u8 (p : Nat), .int .u32 (fr : Nat)]] w fun e w' => e = .returned (.tuple #[]) ∧ ∃ f', IsM w' B M n f' (stN m (t + 4 * i) (Ent.wd k p fr) 4) ∧ Chg w w' (Mf B M f) ∧ ∀ j x, f' j = some x → f j = some x ∨ w.heap.size ≤ x := by
  obtain ⟨k1, k2⟩ := okW_iff.1 hok
  have hle := h.le
  have hE := fun w => Ent.Encode_any w k p fr hp
  have e1 : Ent.ew k p fr = ((Ent.wd k p fr : Nat) : Int) := by unfold Ent.ew; rw [if_pos hc]
  have hwl : Ent.wd k p fr < 4294967296 := by
    have hz := Ent.ck_zero hc
    unfold Ent.wd
    have : fr < 4096 ∨ k = 0 := by
      have := hz.2.2.2
      unfold Ent.fm at this
      split at this
      · right; assumption
      · left; simpa using this
    have : p ≤ 7 ∨ k ≠ 1 := by
      by_cases hk : k = 1
      · left
        have h3 := hz.2.2.1
        unfold Ent.pm at h3
        rw [if_pos hk] at h3
        simp at h3
        omega
      · right; exact hk
    split
    · omega
    · split <;> omega
  rw [e1, hc] at hE
  generalize Ent.wd k p fr = x at *
  have hSt := fun (w1 : World) (h1 : IsM w1 B M n f m) => store_ok w1 B M n f m h1 (t + 4 * i) 4 x (by omega) k1 k2 hwl
  obtain ⟨A, hA⟩ : ∃ A, A = t + 4 * i := ⟨_, rfl⟩
  rw [← hA] at hSt k2 ⊢
  have ew : IntKind.u32.wrap ((t : Int) + 4 * (i : Int)) = A := by rw [wrap_u32]; omega
  have ei : IntKind.u32.wrap (4 * (i : Int)) = 4 * (i : Int) := by rw [wrap_u32]; omega
  have H : Hid (IsM w B M n f m) := h
  clear hA h hok hc e1 k1
  go_enter Tryz.func82, Tryz.ntmps82
  go_wp2_with (go_at_call 143; refine (hE _).mono ?_; rintro e w1 ⟨rfl, c1⟩)
  have hc1 : Chg w w1 (fun _ => False) := ((Chg.refl _ _).alloc _).trans c1 (fun _ _ h => h)
  have hS2 := hSt w1 (H.out.other hc1 (fun _ _ x => x))
  clear hSt hE c1
  go_wp2_with (go_at_call 15; refine hS2.mono ?_; rintro e w2 ⟨f', rfl, q1, q2, q3⟩)
  refine bodyPost_end (results_none rfl _ _ _) rfl ?_
  exact ⟨rfl, f', q1, hc1.weak.trans q2 (fun _ _ h => h), fun j x hx => (q3 j x hx).imp_right (fun h => Nat.le_trans hc1.size h)⟩
end Go.Proofs.YtfolnmmlhknmiaaGreatDoor
