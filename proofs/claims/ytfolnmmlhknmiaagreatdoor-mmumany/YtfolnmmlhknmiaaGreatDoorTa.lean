import Derived.Test.YtfolnmmlhknmiaaGreatDoorLd
import Derived.Test.YtfolnmmlhknmiaaGreatDoorAr
import Derived.Test.YtfolnmmlhknmiaaGreatDoorEa
namespace Go.Proofs.YtfolnmmlhknmiaaGreatDoor
open Go.ChangeShapes Go.WideShapes Go.ChangeAt Go.RowKit
set_option linter.unusedVariables false

theorem box2 {w V : World} {p : Nat} {a b : Value} {T : TypeId} (h : w.heap[p]? = some (.cells #[a, b] T (0, 0))) (x y : Value) (hV : V = ((w.setCell ⟨p, 0, none⟩ x).setCell ⟨p, 1, none⟩ y)) :
    V.heap[p]? = some (.cells #[x, y] T (0, 0)) ∧ V.heap.size = w.heap.size ∧ Chg w V (fun k => k = p) := by
  subst hV
  have h1 := heap_setCell_same w p 0 _ T x h
  have h2 := heap_setCell_same _ p 1 _ T y h1
  refine ⟨h2, by simp [World.setCell], ?_⟩
  exact Chg.setCell (S := fun k => k = p) (Chg.setCell (S := fun k => k = p) (Chg.refl w _) (.inl rfl) _) (.inl rfl) _
theorem cells2 {w : World} {p : Nat} {a b : Value} {T : TypeId} (h : w.heap[p]? = some (.cells #[a, b] T (0, 0))) :
    w.cell? ⟨p, 0, none⟩ = some a ∧ w.cell? ⟨p, 1, none⟩ = some b ∧ w.frozen? ⟨p, 0, none⟩ = false ∧ w.frozen? ⟨p, 1, none⟩ = false :=
  ⟨by rw [(cells_at h _).1]; rfl, by rw [(cells_at h _).1]; rfl, (cells_at h _).2, (cells_at h _).2⟩
theorem Chg.fresh {a b : World} {p : Nat} {c : World} (h : Chg a b (fun _ => False)) (k : Chg b c (fun q => q = p)) (hp : a.heap.size ≤ p) : Chg a c (fun _ => False) :=
  h.trans k (fun i hi e => by omega)

/-- Does a table's word lie in the memory? -/
def okW (n t i : Nat) : Bool := decide ((t + 4 * i) % 4 = 0 ∧ t + 4 * i + 4 ≤ 4096 * n)
def wdW (n : Nat) (m : Nat → Nat) (t i : Nat) : Nat := if okW n t i = true then ldN m (t + 4 * i) 4 else 0
def atW (n t i : Nat) : Nat := if okW n t i = true then t + 4 * i else 0
theorem okW_iff {n t i : Nat} : okW n t i = true ↔ ((t + 4 * i) % 4 = 0 ∧ t + 4 * i + 4 ≤ 4096 * n) := decide_eq_true_iff
theorem wdW_lt {n : Nat} {m : Nat → Nat} (hm : ∀ a, m a < 256) (t i : Nat) : wdW n m t i < 4294967296 := by
  unfold wdW
  split
  · exact ldN_lt m hm _ 4
  · omega

theorem addressOf_any (w : World) (f : Nat) (hf : f < 1048576) : Calls Tryz.prog 84 #[.int .u32 f] w fun e w' => e = .returned (.int .u32 (4096 * f : Nat)) ∧ w' = w := by
  have e1 : IntKind.u32.wrap ((f : Int) * 4096) = (4096 * f : Nat) := by rw [wrap_u32]; omega
  obtain ⟨r, hr⟩ : ∃ r : Int, r = (4096 * f : Nat) := ⟨_, rfl⟩
  rw [← hr] at e1 ⊢
  clear hr
  go_enter Tryz.func84, Tryz.ntmps84
  go_wp2
  go_ret
  exact ⟨rfl, rfl⟩
theorem hasFrame_any (w : World) (B M pages : Nat) (f : Nat → Option Nat) (m : Nat → Nat) (h : IsM w B M pages f m) (k : Nat) : Calls Tryz.prog 178 #[.pointer (some ⟨B, 0, none⟩), .int .u32 k] w fun e w' => e = .returned (.bool (decide (k < pages))) ∧ w' = w := by
  have hP := pages_any w B M pages f m h
  have hle := h.le
  have e1 : IntKind.u32.wrap (pages : Int) = pages := by rw [wrap_u32]; omega
  clear h
  go_enter Tryz.func178, Tryz.ntmps178
  go_wp2_with (go_at_call 133; refine hP.mono ?_; rintro e w' ⟨rfl, rfl⟩)
  go_ret
  exact ⟨congrArg (fun b => Ending.returned (Value.bool b)) (decide_eq_decide.2 (by omega)), rfl⟩
theorem placeOf_any (w : World) (v : Nat) (hv : v < 4294967296) : Calls Tryz.prog 142 #[.int .u32 v] w fun e w' => e = .returned (.agg #[.int .u32 (v / 4096 / 1024 : Nat), .int .u32 (v / 4096 % 1024 : Nat)]) ∧ Chg w w' (fun _ => False) := by
  obtain ⟨p, hp⟩ : ∃ p, p = v / 4096 := ⟨_, rfl⟩
  have hp2 : p < 1048576 := by omega
  have e1 : (v : Int) / 4096 = p := by omega
  obtain ⟨a, ha⟩ : ∃ a, a = p / 1024 := ⟨_, rfl⟩
  obtain ⟨b, hb⟩ : ∃ b, b = p % 1024 := ⟨_, rfl⟩
  have e2 : (p : Int) / 1024 = a := by omega
  have e3 : (p : Int) % 1024 = b := by omega
  rw [← hp, ← ha, ← hb]
  clear hp ha hb
  go_enter Tryz.func142, Tryz.ntmps142
  go_wp2
  exact bodyPost_ret (v := .agg #[.int .u32 a, .int .u32 b]) (by simp [results, Tryz.results142, go_sem]) rfl ⟨rfl, (Chg.refl _ _).alloc _⟩

theorem conv_u64 (t : Nat) (h : t < 4294967296) : IntKind.u64.wrap (t : Int) = t := by simp [IntKind.wrap, IntKind.bits, IntKind.signed]; omega
set_option maxRecDepth 10000 in
theorem wordAt_any (w : World) (B M n : Nat) (f : Nat → Option Nat) (m : Nat → Nat) (h : IsM w B M n f m) (t i : Nat) (ht : t < 4294967296) (hi : i < 4294967296) :
    Calls Tryz.prog 156 #[.pointer (some ⟨B, 0, none⟩), .int .u32 t, .int .u32 i] w fun e w' => e = .returned (.tuple #[.agg #[.int .u32 (atW n t i : Nat), .int .u32 (wdW n m t i : Nat)], .bool (okW n t i)]) ∧ Chg w w' (fun _ => False) := by
  have hle := h.le
  have hc1 : Chg w (w.alloc (.cells #[.int .u32 0, .int .u32 0] 248)) (fun _ => False) := (Chg.refl _ _).alloc _
  have h1 := h.other hc1 (fun _ _ x => x)
  have hsz : (w.alloc (.cells #[.int .u32 0, .int .u32 0] 248)).heap.size = w.heap.size + 1 := by simp
  have hnew := heap_alloc_new w (.cells #[.int .u32 0, .int .u32 0] 248)
  obtain ⟨A, hA⟩ : ∃ A, A = t + 4 * i := ⟨_, rfl⟩
  have eA : (t : Int) + 4 * (i : Int) = A := by omega
  by_cases hbig : 4294967295 < A
  · have hno : okW n t i = false := by
      rcases hb : okW n t i with _ | _
      · rfl
      · have := okW_iff.1 hb; omega
    rw [atW, wdW, hno]
    simp only [Bool.false_eq_true, if_false]
    have hbz : (A : Int) > 4294967295 := by omega
    have hbz2 : (4294967295 : Int) < A := by omega
    clear hno hA hbig h h1 hc1
    go_enter Tryz.func156, Tryz.ntmps156
    go_wp2
    exact bodyPost_ret (v := .tuple #[.agg #[.int .u32 0, .int .u32 0], .bool false]) (by simp [results, Tryz.results156, go_sem]) rfl ⟨rfl, (Chg.refl _ _).alloc _⟩
  · have hbz2 : ¬ (4294967295 : Int) < A := by omega
    have ew : IntKind.u32.wrap (A : Int) = A := by rw [wrap_u32]; omega
    by_cases hok : okW n t i = true
    · obtain ⟨k1, k2⟩ := okW_iff.1 hok
      rw [← hA] at k1 k2
      have hL := load_ok _ B M n f m h1 A 4 (by omega) k1 k2
      rw [atW, wdW, if_pos hok, if_pos hok, hok, ← hA]
      generalize ldN m A 4 = L at *
      clear hA hok h h1 hbig k1 k2
      go_enter Tryz.func156, Tryz.ntmps156
      go_wp2_with (go_at_call 88; refine hL.mono ?_; rintro e w' ⟨rfl, rfl⟩)
      exact bodyPost_ret (v := .tuple #[.agg #[.int .u32 A, .int .u32 L], .bool true]) (by simp [results, Tryz.results156, go_sem]) rfl ⟨rfl, (Chg.refl _ _).alloc _⟩
    · have hno : okW n t i = false := by simpa using hok
      have hE : ∃ err : Int, (err != 0) = true ∧ Calls Tryz.prog 38 #[.pointer (some ⟨B, 0, none⟩), .int .u32 A, .int .i64 4] (w.alloc (.cells #[.int .u32 0, .int .u32 0] 248)) fun e w' => e = .returned (.int .i64 err) ∧ w' = w.alloc (.cells #[.int .u32 0, .int .u32 0] 248) := by
        by_cases ha : A % 4 = 0
        · refine ⟨22, rfl, ?_⟩
          have := word_in _ B M n f m h1 A 4 (by omega) (by omega) ha
          have e : wordErr n A 4 = 22 := by
            have hx : ¬ (A + 4 ≤ 4096 * n) := fun hx => hok (okW_iff.2 (by rw [← hA]; exact ⟨ha, hx⟩))
            unfold wordErr
            simp [ha, hx]
          rw [show (((4 : Nat)) : Int) = 4 from rfl, e] at this
          exact this
        · exact ⟨21, rfl, word_align _ _ A 4 (by omega) ha⟩
      obtain ⟨err, he, hE⟩ := hE
      have hL := load_bad _ _ A 4 err he hE
      rw [atW, wdW, hno]
      simp only [Bool.false_eq_true, if_false]
      clear hA hok hno h h1 hbig hE
      go_enter Tryz.func156, Tryz.ntmps156
      go_wp2_with (go_at_call 88; refine hL.mono ?_; rintro e w' ⟨rfl, rfl⟩)
      exact bodyPost_ret (v := .tuple #[.agg #[.int .u32 0, .int .u32 0], .bool false]) (by simp [results, Tryz.results156, go_sem]) rfl ⟨rfl, (Chg.refl _ _).alloc _⟩

/-- What 'read' says of a word where an entry of the kind k must stand. -/
def rdF (v : Nat) (k : Int) : Int := if Ent.de v ≠ 0 then 4 else if Ent.dk v = 0 then 3 else if Ent.dk v ≠ k then 4 else 0
theorem read_any (w : World) (v : Nat) (hv : v < 4294967296) (k : Int) :
    Calls Tryz.prog 157 #[.int .u32 v, .int .i64 k] w fun e w' => e = .returned (.tuple #[.agg #[.int .i64 (Ent.at0 (rdF v k) (Ent.dk v)), .int .u8 (Ent.at0 (rdF v k) (Ent.dp v)), .int .u32 (Ent.at0 (rdF v k) (Ent.df v))], .int .i64 (rdF v k)]) ∧ Chg w w' (fun _ => False) := by
  have hD : ∀ w, Calls Tryz.prog 160 #[.int .u32 v] w fun e w' => e = .returned (.tuple #[.agg #[.int .i64 (Ent.at0 (Ent.de v) (Ent.dk v)), .int .u8 (Ent.at0 (Ent.de v) (Ent.dp v)), .int .u32 (Ent.at0 (Ent.de v) (Ent.df v))], .int .i64 (Ent.de v)]) ∧ Chg w w' (fun _ => False) := fun w => Ent.Decode_any w v hv
  have HR : Hid (rdF v k = if Ent.de v ≠ 0 then 4 else if Ent.dk v = 0 then 3 else if Ent.dk v ≠ k then 4 else 0) := rfl
  have a0 : ∀ c x : Int, c ≠ 0 → Ent.at0 c x = 0 := fun c x h => by simp [Ent.at0, h]
  have a1 : ∀ x : Int, Ent.at0 0 x = x := fun x => by simp [Ent.at0]
  generalize rdF v k = r at *
  generalize ((Ent.dp v : Nat) : Int) = x1 at *
  generalize ((Ent.df v : Nat) : Int) = x2 at *
  generalize Ent.dk v = x0 at *
  generalize Ent.de v = d at *
  by_cases hd : d = 0
  · subst hd
    rw [a1, a1, a1] at hD
    by_cases h0 : x0 = 0
    · have hr : r = 3 := by rw [HR.out]; simp [h0]
      subst hr
      rw [a0 3 _ (by decide), a0 3 _ (by decide), a0 3 _ (by decide)]
      subst h0
      clear HR a0 a1
      go_enter Tryz.func157, Tryz.ntmps157
      go_wp2_with (go_at_call 160; refine (hD _).mono ?_; rintro e w1 ⟨rfl, k1⟩; have g0 := Ent.al_old (.cells #[.int .i64 0, .int .u8 x1, .int .u32 x2] 193) (k1.heap (heap_alloc_new w _) (fun x => x)); obtain ⟨q0, q1, q2, f0, f1, f2⟩ := Ent.cells3 g0)
      obtain ⟨V, hV⟩ : ∃ V, V = ((((w1.alloc (.cells #[.int .i64 0, .int .u8 x1, .int .u32 x2] 193)).setCell ⟨w.heap.size, 0, none⟩ (.int .i64 0)).setCell ⟨w.heap.size, 1, none⟩ (.int .u8 0)).setCell ⟨w.heap.size, 2, none⟩ (.int .u32 0)) := ⟨_, rfl⟩
      rw [← hV]
      obtain ⟨v1, v2, v3⟩ := Ent.box3 g0 _ _ _ hV
      obtain ⟨r0, r1, r2, _, _, _⟩ := Ent.cells3 v1
      exact bodyPost_ret (v := .tuple #[.agg #[.int .i64 0, .int .u8 0, .int .u32 0], .int .i64 3]) (by simp [results, Tryz.results157, go_sem, r0, r1, r2]) rfl ⟨rfl, ((((Chg.refl _ _).alloc _).trans k1 (fun _ _ h => h)).alloc _).fresh v3 (Nat.le_refl _)⟩
    · by_cases hk : x0 = k
      · have hr : r = 0 := by rw [HR.out, if_neg (by simp), if_neg h0, if_neg (by simp [hk])]
        subst hr
        rw [a1, a1, a1]
        have hb0 : (x0 == 0) = false := by simpa using h0
        have hbk : (x0 != k) = false := by simpa using hk
        clear HR a0 a1 h0 hk
        go_enter Tryz.func157, Tryz.ntmps157
        go_wp2_with (go_at_call 160; refine (hD _).mono ?_; rintro e w1 ⟨rfl, k1⟩; have g0 := Ent.al_old (.cells #[.int .i64 x0, .int .u8 x1, .int .u32 x2] 193) (k1.heap (heap_alloc_new w _) (fun x => x)); obtain ⟨q0, q1, q2, f0, f1, f2⟩ := Ent.cells3 g0)
        obtain ⟨V, hV⟩ : ∃ V, V = ((((w1.alloc (.cells #[.int .i64 x0, .int .u8 x1, .int .u32 x2] 193)).setCell ⟨w.heap.size, 0, none⟩ (.int .i64 x0)).setCell ⟨w.heap.size, 1, none⟩ (.int .u8 x1)).setCell ⟨w.heap.size, 2, none⟩ (.int .u32 x2)) := ⟨_, rfl⟩
        rw [← hV]
        obtain ⟨v1, v2, v3⟩ := Ent.box3 g0 _ _ _ hV
        obtain ⟨r0, r1, r2, _, _, _⟩ := Ent.cells3 v1
        exact bodyPost_ret (v := .tuple #[.agg #[.int .i64 x0, .int .u8 x1, .int .u32 x2], .int .i64 0]) (by simp [results, Tryz.results157, go_sem, r0, r1, r2]) rfl ⟨rfl, ((((Chg.refl _ _).alloc _).trans k1 (fun _ _ h => h)).alloc _).fresh v3 (Nat.le_refl _)⟩
      · have hr : r = 4 := by rw [HR.out]; simp [h0, hk]
        subst hr
        rw [a0 4 _ (by decide), a0 4 _ (by decide), a0 4 _ (by decide)]
        have hb0 : (x0 == 0) = false := by simpa using h0
        have hbk : (x0 != k) = true := by simpa using hk
        clear HR a0 a1 h0 hk
        go_enter Tryz.func157, Tryz.ntmps157
        go_wp2_with (go_at_call 160; refine (hD _).mono ?_; rintro e w1 ⟨rfl, k1⟩; have g0 := Ent.al_old (.cells #[.int .i64 x0, .int .u8 x1, .int .u32 x2] 193) (k1.heap (heap_alloc_new w _) (fun x => x)); obtain ⟨q0, q1, q2, f0, f1, f2⟩ := Ent.cells3 g0)
        obtain ⟨V, hV⟩ : ∃ V, V = ((((w1.alloc (.cells #[.int .i64 x0, .int .u8 x1, .int .u32 x2] 193)).setCell ⟨w.heap.size, 0, none⟩ (.int .i64 0)).setCell ⟨w.heap.size, 1, none⟩ (.int .u8 0)).setCell ⟨w.heap.size, 2, none⟩ (.int .u32 0)) := ⟨_, rfl⟩
        rw [← hV]
        obtain ⟨v1, v2, v3⟩ := Ent.box3 g0 _ _ _ hV
        obtain ⟨r0, r1, r2, _, _, _⟩ := Ent.cells3 v1
        exact bodyPost_ret (v := .tuple #[.agg #[.int .i64 0, .int .u8 0, .int .u32 0], .int .i64 4]) (by simp [results, Tryz.results157, go_sem, r0, r1, r2]) rfl ⟨rfl, ((((Chg.refl _ _).alloc _).trans k1 (fun _ _ h => h)).alloc _).fresh v3 (Nat.le_refl _)⟩
  · have hr : r = 4 := by rw [HR.out]; simp [hd]
    subst hr
    rw [a0 4 _ (by decide), a0 4 _ (by decide), a0 4 _ (by decide)]
    rw [a0 d _ hd, a0 d _ hd, a0 d _ hd] at hD
    have hbd : (d != 0) = true := by simpa using hd
    clear HR a0 a1 hd
    go_enter Tryz.func157, Tryz.ntmps157
    go_wp2_with (go_at_call 160; refine (hD _).mono ?_; rintro e w1 ⟨rfl, k1⟩; have g0 := Ent.al_old (.cells #[.int .i64 0, .int .u8 0, .int .u32 0] 193) (k1.heap (heap_alloc_new w _) (fun x => x)); obtain ⟨q0, q1, q2, f0, f1, f2⟩ := Ent.cells3 g0)
    obtain ⟨V, hV⟩ : ∃ V, V = ((((w1.alloc (.cells #[.int .i64 0, .int .u8 0, .int .u32 0] 193)).setCell ⟨w.heap.size, 0, none⟩ (.int .i64 0)).setCell ⟨w.heap.size, 1, none⟩ (.int .u8 0)).setCell ⟨w.heap.size, 2, none⟩ (.int .u32 0)) := ⟨_, rfl⟩
    rw [← hV]
    obtain ⟨v1, v2, v3⟩ := Ent.box3 g0 _ _ _ hV
    obtain ⟨r0, r1, r2, _, _, _⟩ := Ent.cells3 v1
    exact bodyPost_ret (v := .tuple #[.agg #[.int .i64 0, .int .u8 0, .int .u32 0], .int .i64 4]) (by simp [results, Tryz.results157, go_sem, r0, r1, r2]) rfl ⟨rfl, ((((Chg.refl _ _).alloc _).trans k1 (fun _ _ h => h)).alloc _).fresh v3 (Nat.le_refl _)⟩
end Go.Proofs.YtfolnmmlhknmiaaGreatDoor
