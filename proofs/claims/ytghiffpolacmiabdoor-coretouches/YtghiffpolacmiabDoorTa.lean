import Derived.Test.YtghiffpolacmiabDoorOwn
namespace Go.Proofs.YtghiffpolacmiabDoor
open Go.ChangeShapes Go.WideShapes Go.ChangeAt Go.RowKit
set_option linter.unusedVariables false

theorem ret_bool {a b : Bool} (h : a = b) : Ending.returned (.bool a) = .returned (.bool b) := by rw [h]
/-- A text as a value. -/
def sb (l : List UInt8) : ByteArray := ⟨l.toArray⟩
/-- What the two variables hold. -/
structure Gt (w : World) : Prop where
  ops : ∀ k, k < 49 → w.cell? ⟨1, k * 3, none⟩ = some (.string (sb (nmTab.getD k []))) ∧ w.cell? ⟨1, k * 3 + 1, none⟩ = some (.int .i64 (fmTab.getD k 0 : Nat)) ∧ w.cell? ⟨1, k * 3 + 2, none⟩ = some (.int .i64 (tkTab.getD k 0 : Nat))
  lay : ∀ f, f < 9 → w.cell? ⟨0, f * 4, none⟩ = some (.int .u64 (lD f : Nat)) ∧ w.cell? ⟨0, f * 4 + 1, none⟩ = some (.int .u64 (lA f : Nat)) ∧ w.cell? ⟨0, f * 4 + 2, none⟩ = some (.int .u64 (lB f : Nat)) ∧ w.cell? ⟨0, f * 4 + 3, none⟩ = some (.int .u64 (lI f : Nat))
theorem Gt.keep {w w' : World} (h : Gt w) (k : Kp w w') : Gt w' :=
  ⟨fun i hi => ⟨Kp.cell k (h.ops i hi).1, Kp.cell k (h.ops i hi).2.1, Kp.cell k (h.ops i hi).2.2⟩,
   fun i hi => ⟨Kp.cell k (h.lay i hi).1, Kp.cell k (h.lay i hi).2.1, Kp.cell k (h.lay i hi).2.2.1, Kp.cell k (h.lay i hi).2.2.2⟩⟩
theorem Gt.alloc {w : World} (h : Gt w) (o : Obj) : Gt (w.alloc o) := h.keep ((Chg.refl _ _).alloc _)

theorem isO_any (w : World) (op : Int) :
    Calls Tryd.prog 10 #[.int .i64 op] w fun e w' => e = .returned (.bool (isO op)) ∧ w' = w := by
  have H : Hid (isO op = (decide (0 < op) && decide (op < 49))) := rfl
  generalize isO op = r at *
  by_cases h0 : 0 < op
  · by_cases h1 : op < 49
    · go_enter Tryd.func10, Tryd.ntmps10
      go_wp2
      go_ret
      exact ⟨ret_bool (by rw [H.out]; simp [h0, h1]), rfl⟩
    · go_enter Tryd.func10, Tryd.ntmps10
      go_wp2
      go_ret
      exact ⟨ret_bool (by rw [H.out]; simp [h0, h1]), rfl⟩
  · go_enter Tryd.func10, Tryd.ntmps10
    go_wp2
    all_goals go_ret
    all_goals exact ⟨ret_bool (by rw [H.out, decide_eq_false (by omega)]; rfl), rfl⟩
theorem zero60 : (Tryd.prog.info? 90).map (fun i => (i.zero, i.size)) = some (some (.agg #[.string ⟨#[]⟩, .int .i64 0, .int .i64 0]), 3) := by kernel_rfl

theorem rowOf_any (w : World) (hg : Gt w) (op : Int) :
    Calls Tryd.prog 70 #[.int .i64 op] w fun e w' => e = .returned (.agg #[.string (sb (nm op)), .int .i64 (fo op : Nat), .int .i64 (tk op : Nat)]) ∧ Kp w w' := by
  have hI := fun w => isO_any w op
  cases h : isO op
  · obtain ⟨e1, e2, e3⟩ := fo_no h
    rw [e1, e2, e3]
    rw [h] at hI
    clear e1 e2 e3 hg
    go_enter Tryd.func70, Tryd.ntmps70
    go_wp2_with (go_at_call 10; refine (hI _).mono ?_; rintro e w1 ⟨rfl, rfl⟩)
    refine bodyPost_ret (v := .agg #[.string (sb []), .int .i64 0, .int .i64 0]) (by simp [results, Tryd.results70, go_sem, sb]) rfl ⟨rfl, (Chg.refl _ _).alloc _⟩
  · obtain ⟨o0, o1⟩ := (isO_iff op).1 h
    obtain ⟨o, rfl⟩ : ∃ o : Nat, op = o := ⟨op.toNat, by omega⟩
    have ho : o < 49 := by omega
    obtain ⟨c0, c1, c2⟩ := (hg.alloc (.cells #[.string ⟨#[]⟩, .int .i64 0, .int .i64 0] 90)).ops o ho
    rw [show fo (o : Int) = fmTab.getD o 0 from rfl, show tk (o : Int) = tkTab.getD o 0 from rfl, show nm (o : Int) = nmTab.getD o [] from rfl]
    rw [h] at hI
    clear hg h
    generalize sb (nmTab.getD o []) = s at *
    generalize ((fmTab.getD o 0 : Nat) : Int) = f at *
    generalize ((tkTab.getD o 0 : Nat) : Int) = t at *
    go_enter Tryd.func70, Tryd.ntmps70
    go_wp2_with (go_at_call 10; refine (hI _).mono ?_; rintro e w1 ⟨rfl, rfl⟩)
    refine bodyPost_ret (v := .agg #[.string s, .int .i64 f, .int .i64 t]) (by simp [results, Tryd.results70, go_sem]) rfl ⟨rfl, ?_⟩
    exact (Chg.refl _ _).alloc _

theorem field60_0 (wx : World) (s : ByteArray) (f t : Int) : (Instr.field 90 (.agg #[.string s, .int .i64 f, .int .i64 t]) 0).run Tryd.prog wx = .ok (.string s) wx := by kernel_rfl
theorem field60_1 (wx : World) (s : ByteArray) (f t : Int) : (Instr.field 90 (.agg #[.string s, .int .i64 f, .int .i64 t]) 1).run Tryd.prog wx = .ok (.int .i64 f) wx := by kernel_rfl
theorem field60_2 (wx : World) (s : ByteArray) (f t : Int) : (Instr.field 90 (.agg #[.string s, .int .i64 f, .int .i64 t]) 2).run Tryd.prog wx = .ok (.int .i64 t) wx := by kernel_rfl
theorem field76_3 (wx : World) (a b c d : Int) : (Instr.field 67 (.agg #[.int .u64 a, .int .u64 b, .int .u64 c, .int .u64 d]) 3).run Tryd.prog wx = .ok (.int .u64 d) wx := by kernel_rfl
set_option maxRecDepth 100000 in
theorem Form_any (w : World) (hg : Gt w) (op : Int) :
    Calls Tryd.prog 27 #[.int .i64 op] w fun e w' => e = .returned (.int .i64 (fo op : Nat)) ∧ Kp w w' := by
  have hR := fun w h => rowOf_any w h op
  generalize sb (nm op) = s at *
  generalize fo op = f0 at *
  generalize tk op = t0 at *
  generalize (f0 : Int) = f at *
  generalize (t0 : Int) = t at *
  have hfd := fun w => field60_1 w s f t
  go_enter Tryd.func27, Tryd.ntmps27
  go_wp2_with (go_at_call 70; refine (hR _ hg).mono ?_; rintro e w1 ⟨rfl, k1⟩)
  go_ret
  exact ⟨rfl, k1⟩
theorem tab_lt : ∀ k : Fin 49, fmTab.getD k.val 0 < 9 := by decide +kernel
theorem fo_lt (op : Int) : fo op < 9 := by
  cases h : isO op
  · rw [(fo_no h).1]; omega
  · rcases op_pairs h with ⟨h, _⟩ | ⟨h, _⟩ | ⟨h, _⟩ | ⟨h, _⟩ | ⟨h, _⟩ | ⟨h, _⟩ | ⟨h, _⟩ | ⟨h, _⟩ | ⟨h, _⟩ | ⟨h, _⟩ | ⟨h, _⟩ | ⟨h, _⟩ | ⟨h, _⟩ <;> omega
/-- The layout of a form, as a value. -/
def lyV (f : Nat) : Value := .agg #[.int .u64 (lD f : Nat), .int .u64 (lA f : Nat), .int .u64 (lB f : Nat), .int .u64 (lI f : Nat)]
theorem layoutOf_any (w : World) (hg : Gt w) (op : Int) :
    Calls Tryd.prog 18 #[.int .i64 op] w fun e w' => e = .returned (.agg #[.int .u64 (lD (fo op) : Nat), .int .u64 (lA (fo op) : Nat), .int .u64 (lB (fo op) : Nat), .int .u64 (lI (fo op) : Nat)]) ∧ Kp w w' := by
  have hF := fun w h => Form_any w h op
  have hf := fo_lt op
  generalize fo op = f at *
  have hL : ∀ V, Gt V → V.cell? ⟨0, f * 4, none⟩ = some (.int .u64 (lD f : Nat)) ∧ V.cell? ⟨0, f * 4 + 1, none⟩ = some (.int .u64 (lA f : Nat)) ∧ V.cell? ⟨0, f * 4 + 2, none⟩ = some (.int .u64 (lB f : Nat)) ∧ V.cell? ⟨0, f * 4 + 3, none⟩ = some (.int .u64 (lI f : Nat)) := fun V h => h.lay f hf
  generalize lD f = y0 at *
  generalize lA f = y1 at *
  generalize lB f = y2 at *
  generalize lI f = y3 at *
  generalize (y0 : Int) = x0 at *
  generalize (y1 : Int) = x1 at *
  generalize (y2 : Int) = x2 at *
  generalize (y3 : Int) = x3 at *
  have hg1 := hg.alloc (.cells #[.int .u64 0, .int .u64 0, .int .u64 0, .int .u64 0] 67)
  go_enter Tryd.func18, Tryd.ntmps18
  go_wp2_with (go_at_call 27; refine (hF _ hg1).mono ?_; rintro e w1 ⟨rfl, k1⟩; obtain ⟨c0, c1, c2, c3⟩ := hL _ (hg1.keep k1); have g0 := Kp.heap k1 (heap_alloc_new w _); obtain ⟨a0, a1, a2, a3, f0, f1, f2, f3⟩ := cells4 g0)
  obtain ⟨V, hV⟩ : ∃ V, V = ((((w1.setCell ⟨w.heap.size, 0, none⟩ (.int .u64 x0)).setCell ⟨w.heap.size, 1, none⟩ (.int .u64 x1)).setCell ⟨w.heap.size, 2, none⟩ (.int .u64 x2)).setCell ⟨w.heap.size, 3, none⟩ (.int .u64 x3)) := ⟨_, rfl⟩
  rw [← hV]
  obtain ⟨v1, v2, v3⟩ := box4 g0 _ _ _ _ hV
  obtain ⟨r0, r1, r2, r3, _⟩ := cells4 v1
  refine bodyPost_ret (v := .agg #[.int .u64 x0, .int .u64 x1, .int .u64 x2, .int .u64 x3]) (by simp [results, Tryd.results18, go_sem, r0, r1, r2, r3]) rfl ⟨rfl, ?_⟩
  exact (((Chg.refl _ _).alloc _).trans k1 (fun _ _ h => h)).trans v3 (fun i hi e => absurd e (Nat.ne_of_lt hi))
end Go.Proofs.YtghiffpolacmiabDoor
