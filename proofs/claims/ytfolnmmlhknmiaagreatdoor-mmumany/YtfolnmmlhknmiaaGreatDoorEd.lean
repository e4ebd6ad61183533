import Derived.Test.YtfolnmmlhknmiaaGreatDoorEe
namespace Go.Proofs.YtfolnmmlhknmiaaGreatDoor
namespace Ent
open Go.ChangeShapes Go.WideShapes Go.ChangeAt Go.RowKit
set_option linter.unusedVariables false

theorem Kp.heap {w w' : World} (h : Kp w w') {k : Nat} {o : Obj} (hk : w.heap[k]? = some o) : w'.heap[k]? = some o := Chg.heap h hk (fun x => x)
theorem cells_alloc3 {w w' : World} {a b c : Value} {t : TypeId} (h : Kp (w.alloc (.cells #[a, b, c] t)) w') :
    w'.cell? ⟨w.heap.size, 0, none⟩ = some a ∧ w'.cell? ⟨w.heap.size, 1, none⟩ = some b ∧ w'.cell? ⟨w.heap.size, 2, none⟩ = some c := by
  obtain ⟨h0, h1, h2, _⟩ := cells3 (Kp.heap h (heap_alloc_new w _))
  exact ⟨h0, h1, h2⟩

theorem Encode_any (w : World) (k : Int) (p f : Nat) (hp : p < 256) :
    Calls Tryz.prog 143 #[.agg #[.int .i64 k, .int .u8 p, .int .u32 f]] w fun e w' => e = .returned (.tuple #[.int .u32 (ew k p f), .int .i64 (ck k p f)]) ∧ Kp w w' := by
  have hC : ∀ w, Calls Tryz.prog 179 #[.agg #[.int .i64 k, .int .u8 p, .int .u32 f]] w fun e w' => e = .returned (.int .i64 (ck k p f)) ∧ Kp w w' := fun w => check_any w k p f hp
  have hW : ∀ w, ck k p f = 0 → Calls Tryz.prog 180 #[.agg #[.int .i64 k, .int .u8 p, .int .u32 f]] w fun e w' => e = .returned (.int .u32 (wd k p f : Nat)) ∧ Kp w w' := fun w h => wordOf_any w k p f h
  have HE : Hid (ew k p f = if ck k p f = 0 then (wd k p f : Int) else 0) := rfl
  generalize ew k p f = r at *
  generalize ((wd k p f : Nat) : Int) = x at *
  generalize ck k p f = c at *
  by_cases hc : c = 0
  · subst hc
    have hr : r = x := by rw [HE.out, if_pos rfl]
    subst hr
    clear HE
    have hW' := fun w => hW w rfl
    clear hW
    go_enter Tryz.func143, Tryz.ntmps143
    go_wp2_with (go_at_call 179; refine (hC _).mono ?_; rintro e w1 ⟨rfl, k1⟩; obtain ⟨c0, c1, c2⟩ := cells_alloc3 k1)
    go_wp2_with (go_at_call 180; refine (hW' _).mono ?_; rintro e w2 ⟨rfl, k2⟩)
    go_ret2
    exact ⟨rfl, (((Chg.refl _ _).alloc _).trans k1 (fun _ _ h => h)).trans k2 (fun _ _ h => h)⟩
  · have hr : r = 0 := by rw [HE.out, if_neg hc]
    subst hr
    clear HE hW
    have hb : (c == 0) = false := by simpa using hc
    go_enter Tryz.func143, Tryz.ntmps143
    go_wp2_with (go_at_call 179; refine (hC _).mono ?_; rintro e w1 ⟨rfl, k1⟩)
    go_ret2
    exact ⟨rfl, ((Chg.refl _ _).alloc _).trans k1 (fun _ _ h => h)⟩

theorem Decode_any (w : World) (v : Nat) (hv : v < 4294967296) :
    Calls Tryz.prog 160 #[.int .u32 v] w fun e w' => e = .returned (.tuple #[.agg #[.int .i64 (at0 (de v) (dk v)), .int .u8 (at0 (de v) (dp v)), .int .u32 (at0 (de v) (df v))], .int .i64 (de v)]) ∧ Kp w w' := by
  have hS : ∀ w, Calls Tryz.prog 188 #[.int .u32 v] w fun e w' => e = .returned (.bool (stray v)) ∧ w' = w := fun w => stray_any w v hv
  have hE : ∀ w, Calls Tryz.prog 189 #[.int .u32 v] w fun e w' => e = .returned (.agg #[.int .i64 (dk v), .int .u8 (dp v : Nat), .int .u32 (df v : Nat)]) ∧ Kp w w' := fun w => entryOf_any w v hv
  have hp : dp v < 256 := by simp only [dp]; omega
  have hC : ∀ w, Calls Tryz.prog 179 #[.agg #[.int .i64 (dk v), .int .u8 (dp v : Nat), .int .u32 (df v : Nat)]] w fun e w' => e = .returned (.int .i64 (ck (dk v) (dp v) (df v))) ∧ Kp w w' := fun w => check_any w _ _ _ hp
  have HD : Hid (de v = if stray v = true then 43 else ck (dk v) (dp v) (df v)) := rfl
  generalize de v = d at *
  generalize ck (dk v) (dp v) (df v) = c at *
  generalize stray v = s at *
  generalize ((dp v : Nat) : Int) = x1 at *
  generalize ((df v : Nat) : Int) = x2 at *
  generalize dk v = x0 at *
  clear hp
  cases s
  · have hd : d = c := by rw [HD.out]; simp
    subst hd
    clear HD
    by_cases hc : d = 0
    · subst hc
      have e0 : ∀ x, at0 0 x = x := fun x => by simp [at0]
      rw [e0, e0, e0]
      clear e0
      go_enter Tryz.func160, Tryz.ntmps160
      go_wp2_with (go_at_call 188; refine (hS _).mono ?_; rintro e w1 ⟨rfl, rfl⟩)
      go_wp2_with (go_at_call 189; refine (hE _).mono ?_; rintro e w2 ⟨rfl, k2⟩)
      go_wp2_with (go_at_call 179; refine (hC _).mono ?_; rintro e w3 ⟨rfl, k3⟩; have g0 := Kp.heap k3 (al_old _ (Kp.heap k2 (heap_alloc_new w _))); have g1 := Kp.heap k3 (heap_alloc_new w2 _); obtain ⟨a0, a1, a2, f0, f1, f2⟩ := cells3 g0; obtain ⟨b0, b1, b2, _, _, _⟩ := cells3 g1)
      obtain ⟨V, hV⟩ : ∃ V, V = (((w3.setCell ⟨w.heap.size, 0, none⟩ (.int .i64 x0)).setCell ⟨w.heap.size, 1, none⟩ (.int .u8 x1)).setCell ⟨w.heap.size, 2, none⟩ (.int .u32 x2)) := ⟨_, rfl⟩
      rw [← hV]
      obtain ⟨v1, v2, v3⟩ := box3 g0 _ _ _ hV
      obtain ⟨r0, r1, r2, _, _, _⟩ := cells3 v1
      refine bodyPost_ret (v := .tuple #[.agg #[.int .i64 x0, .int .u8 x1, .int .u32 x2], .int .i64 0]) (by simp [results, Tryz.results160, go_sem, r0, r1, r2]) rfl ⟨rfl, ?_⟩
      exact (((((Chg.refl _ _).alloc _).trans k2 (fun _ _ h => h)).alloc _).trans k3 (fun _ _ h => h)).trans v3 (fun i hi e => absurd e (Nat.ne_of_lt hi))
    · have hb : (d == 0) = false := by simpa using hc
      have e0 : ∀ x, at0 d x = 0 := fun x => by simp [at0, hc]
      rw [e0, e0, e0]
      clear e0 hc
      go_enter Tryz.func160, Tryz.ntmps160
      go_wp2_with (go_at_call 188; refine (hS _).mono ?_; rintro e w1 ⟨rfl, rfl⟩)
      go_wp2_with (go_at_call 189; refine (hE _).mono ?_; rintro e w2 ⟨rfl, k2⟩)
      go_wp2_with (go_at_call 179; refine (hC _).mono ?_; rintro e w3 ⟨rfl, k3⟩; have g0 := Kp.heap k3 (al_old _ (Kp.heap k2 (heap_alloc_new w _))); obtain ⟨a0, a1, a2, f0, f1, f2⟩ := cells3 g0)
      obtain ⟨V, hV⟩ : ∃ V, V = (((w3.setCell ⟨w.heap.size, 0, none⟩ (.int .i64 0)).setCell ⟨w.heap.size, 1, none⟩ (.int .u8 0)).setCell ⟨w.heap.size, 2, none⟩ (.int .u32 0)) := ⟨_, rfl⟩
      rw [← hV]
      obtain ⟨v1, v2, v3⟩ := box3 g0 _ _ _ hV
      obtain ⟨r0, r1, r2, _, _, _⟩ := cells3 v1
      refine bodyPost_ret (v := .tuple #[.agg #[.int .i64 0, .int .u8 0, .int .u32 0], .int .i64 d]) (by simp [results, Tryz.results160, go_sem, r0, r1, r2]) rfl ⟨rfl, ?_⟩
      exact (((((Chg.refl _ _).alloc _).trans k2 (fun _ _ h => h)).alloc _).trans k3 (fun _ _ h => h)).trans v3 (fun i hi e => absurd e (Nat.ne_of_lt hi))
  · have hd : d = 43 := by rw [HD.out]; simp
    subst hd
    have e0 : ∀ x, at0 43 x = 0 := fun x => by simp [at0]
    rw [e0, e0, e0]
    clear e0 HD
    go_enter Tryz.func160, Tryz.ntmps160
    go_wp2_with (go_at_call 188; refine (hS _).mono ?_; rintro e w1 ⟨rfl, rfl⟩)
    obtain ⟨r0, r1, r2, _, _, _⟩ := cells3 (heap_alloc_new w (.cells #[.int .i64 0, .int .u8 0, .int .u32 0] 193))
    refine bodyPost_ret (v := .tuple #[.agg #[.int .i64 0, .int .u8 0, .int .u32 0], .int .i64 43]) (by simp [results, Tryz.results160, go_sem]) rfl ⟨rfl, (Chg.refl _ _).alloc _⟩
end Ent
end Go.Proofs.YtfolnmmlhknmiaaGreatDoor
