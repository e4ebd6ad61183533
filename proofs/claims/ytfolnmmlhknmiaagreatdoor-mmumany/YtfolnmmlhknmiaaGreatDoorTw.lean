import Derived.Test.YtfolnmmlhknmiaaGreatDoorTb
import Derived.Deep.RegionHeld3
import Derived.Deep.Cut
namespace Go.Proofs.YtfolnmmlhknmiaaGreatDoor
open Go.ChangeShapes Go.WideShapes Go.ChangeAt Go.RowKit
set_option linter.unusedVariables false

/-- What Walk answers: the address, the steps, the fault. -/
def wkE (n : Nat) (m : Nat → Nat) (x2 v : Nat) (a : Int) (s1 : Nat × Nat) (t : Nat) : Nat × List (Nat × Nat) × Int :=
  if okW n t x2 = false then (0, [s1], 2)
  else if rpF n (wdW n m t x2) a ≠ 0 then (0, [s1, (t + 4 * x2, wdW n m t x2)], rpF n (wdW n m t x2) a)
  else (4096 * Ent.df (wdW n m t x2) + v % 4096, [s1, (t + 4 * x2, wdW n m t x2)], 0)
def wk (n : Nat) (m : Nat → Nat) (root v : Nat) (a : Int) : Nat × List (Nat × Nat) × Int :=
  if okW n root (v / 4096 / 1024) = false then (0, [], 2)
  else if rdF (wdW n m root (v / 4096 / 1024)) 2 ≠ 0 then (0, [(root + 4 * (v / 4096 / 1024), wdW n m root (v / 4096 / 1024))], rdF (wdW n m root (v / 4096 / 1024)) 2)
  else wkE n m (v / 4096 % 1024) v a (root + 4 * (v / 4096 / 1024), wdW n m root (v / 4096 / 1024)) (4096 * Ent.df (wdW n m root (v / 4096 / 1024)))
def stC (s : Nat × Nat) : List Value := [.int .u32 (s.1 : Nat), .int .u32 (s.2 : Nat)]
/-- Steps that came out. -/
def StOut (w0 w : World) (v : Value) (l : List (Nat × Nat)) : Prop := (l = [] ∧ v = .slice none 0 0) ∨ ∃ g, v = .slice (some ⟨g, 0, none⟩) l.length l.length ∧ w0.heap.size ≤ g ∧ w.heap[g]? = some (.cells (l.flatMap stC).toArray 248 (0, 0))

set_option maxHeartbeats 2000000 in
set_option maxRecDepth 10000 in
theorem walk_any (w : World) (hP : Ent.Pt w) (B M n : Nat) (f : Nat → Option Nat) (m : Nat → Nat) (h : IsM w B M n f m) (root v : Nat) (hr : root < 4294967296) (hv : v < 4294967296) (a : Int) (ha : Ent.InI a) :
    Calls Tryz.prog 104 #[.pointer (some ⟨B, 0, none⟩), .int .u32 root, .int .u32 v, .int .i64 a] w fun e w' => ∃ sv, e = .returned (.tuple #[.int .u32 ((wk n m root v a).1 : Nat), sv, .int .i64 (wk n m root v a).2.2]) ∧ StOut w w' sv (wk n m root v a).2.1 ∧ Chg w w' (fun _ => False) := by
  have hbyte := h.byte
  have hPl := placeOf_any w v hv
  have HW : Hid (∀ r, r = wk n m root v a → r = wk n m root v a) := fun _ h => h
  obtain ⟨R, hR⟩ : ∃ R, R = wk n m root v a := ⟨_, rfl⟩
  rw [← hR]
  unfold wk at hR
  have hx1 : v / 4096 / 1024 < 1024 := by omega
  have hx2 : v / 4096 % 1024 < 1024 := by omega
  generalize v / 4096 / 1024 = x1 at *
  generalize v / 4096 % 1024 = x2 at *
  have hW1 := fun (w1 : World) (h1 : IsM w1 B M n f m) => wordAt_any w1 B M n f m h1 root x1 hr (by omega)
  have hl1 := wdW_lt (n := n) hbyte root x1
  have hRd := fun w => read_any w (wdW n m root x1) hl1 2
  have hdf1 : Ent.df (wdW n m root x1) < 1048576 := by unfold Ent.df; omega
  have hok1 : okW n root x1 = true → atW n root x1 = root + 4 * x1 := fun e => by rw [atW, if_pos e]
  generalize hg1 : wdW n m root x1 = W1 at *
  have hAd := fun w => addressOf_any w (Ent.df W1) hdf1
  have ht4 : 4096 * Ent.df W1 < 4294967296 := by omega
  generalize Ent.df W1 = F1 at *
  obtain ⟨t, ht⟩ : ∃ t, t = 4096 * F1 := ⟨_, rfl⟩
  rw [← ht] at hR hAd ht4
  have hW2 := fun (w1 : World) (h1 : IsM w1 B M n f m) => wordAt_any w1 B M n f m h1 t x2 ht4 (by omega)
  have hl2 := wdW_lt (n := n) hbyte t x2
  have hRp := fun (w1 : World) (p1 : Ent.Pt w1) (h1 : IsM w1 B M n f m) => readPage_any w1 p1 B M n f m h1 (wdW n m t x2) hl2 a ha
  have hok2 : okW n t x2 = true → atW n t x2 = t + 4 * x2 := fun e => by rw [atW, if_pos e]
  have hdf2 : Ent.df (wdW n m t x2) < 1048576 := by unfold Ent.df; omega
  have hrpz : rpF n (wdW n m t x2) a = 0 → Ent.df (wdW n m t x2) < n := by
    intro e
    unfold rpF at e
    split at e
    · rename_i h1; exact absurd e h1
    · split at e
      · cases e
      · split at e
        · cases e
        · omega
  have hn := h.le
  unfold wkE at hR
  generalize wdW n m t x2 = W2 at *
  have hAd2 := fun w => addressOf_any w (Ent.df W2) hdf2
  generalize okW n root x1 = b1 at *
  generalize okW n t x2 = b2 at *
  generalize atW n root x1 = A1 at *
  generalize atW n t x2 = A2 at *
  generalize rdF W1 2 = f1 at *
  generalize rpF n W2 a = f2 at *
  have H : Hid (IsM w B M n f m ∧ Ent.Pt w) := ⟨h, hP⟩
  clear h hP ht hg1 hbyte HW
  go_enter Tryz.func104, Tryz.ntmps104
  go_wp2_with (go_at_call 142; refine hPl.mono ?_; rintro e wa ⟨rfl, ka⟩)
  obtain ⟨w0, hw0⟩ : ∃ w0, w0 = wa.alloc (.cells #[.int .u32 (x1 : Nat), .int .u32 (x2 : Nat)] 190) := ⟨_, rfl⟩
  obtain ⟨X, hX⟩ : ∃ X, X = wa.heap.size := ⟨_, rfl⟩
  have c0 : Chg w w0 (fun _ => False) := by rw [hw0]; exact ka.alloc _
  have gX := heap_alloc_new wa (.cells #[.int .u32 (x1 : Nat), .int .u32 (x2 : Nat)] 190)
  rw [← hw0, ← hX] at gX
  rw [← hw0, ← hX]
  clear hw0 hX ka hPl
  have hW1' := hW1 w0 (H.out.1.other c0 (fun _ _ x => x))
  clear hW1
  refine hW1'.mono ?_
  rintro e wb ⟨rfl, kb⟩
  have c1 := c0.trans kb (fun _ _ h => h)
  have gX1 := kb.heap gX (fun x => x)
  clear hW1' c0 gX kb
  clear w0
  cases b1
  · simp only [if_true] at hR
    clear hok1 hok2 hrpz
    go_wp2
    refine bodyPost_ret (v := .tuple #[.int .u32 0, .slice none 0 0, .int .i64 2]) (by simp [results, Tryz.results104, go_sem]) rfl ?_
    rw [hR]
    exact ⟨.slice none 0 0, rfl, .inl ⟨rfl, rfl⟩, c1.alloc _⟩
  · rw [if_neg (by simp)] at hR
    rw [hok1 rfl]
    clear hok1
    obtain ⟨A, hA⟩ : ∃ A, A = root + 4 * x1 := ⟨_, rfl⟩
    rw [← hA] at hR ⊢
    clear hA
    obtain ⟨w2, hw2⟩ : ∃ w2, w2 = wb.alloc (.cells #[.int .u32 (A : Nat), .int .u32 (W1 : Nat)] 248) := ⟨_, rfl⟩
    obtain ⟨O, hO⟩ : ∃ O, O = wb.heap.size := ⟨_, rfl⟩
    have c2 : Chg w w2 (fun _ => False) := by rw [hw2]; exact c1.alloc _
    have gO := heap_alloc_new wb (.cells #[.int .u32 (A : Nat), .int .u32 (W1 : Nat)] 248)
    have gX2 : w2.heap[X]? = some (.cells #[.int .u32 (x1 : Nat), .int .u32 (x2 : Nat)] 190 (0, 0)) := by rw [hw2]; exact Ent.al_old _ gX1
    rw [← hw2, ← hO] at gO
    obtain ⟨o0, o1, -, -⟩ := cells2 gO
    go_upto_region 3 with fail
    rw [← hw2, ← hO]
    clear hw2 hO c1 gX1
    clear wb
    have hRd' := hRd w2
    clear hRd
    go_wp2_with fail
    go_at_call 157
    refine hRd'.mono ?_
    rintro e wc ⟨rfl, kc⟩
    clear hRd' o0 o1
    have c3 := c2.trans kc (fun _ _ h => h)
    have gX3 := kc.heap gX2 (fun x => x)
    have gO3 := kc.heap gO (fun x => x)
    clear c2 gX2 gO kc
    clear w2
    by_cases hf1 : f1 = 0
    · rw [if_neg (by simp [hf1])] at hR
      have hbf : (f1 != 0) = false := by simpa using hf1
      have a1 : ∀ x : Int, Ent.at0 f1 x = x := fun x => by simp [Ent.at0, hf1]
      rw [a1, a1, a1]
      generalize Ent.dk W1 = k1 at *
      generalize ((Ent.dp W1 : Nat) : Int) = p1 at *
      obtain ⟨w4, hw4⟩ : ∃ w4, w4 = wc.alloc (.cells #[.int .i64 k1, .int .u8 p1, .int .u32 (F1 : Nat)] 193) := ⟨_, rfl⟩
      obtain ⟨E, hE⟩ : ∃ E, E = wc.heap.size := ⟨_, rfl⟩
      have c4 : Chg w w4 (fun _ => False) := by rw [hw4]; exact c3.alloc _
      have gE := heap_alloc_new wc (.cells #[.int .i64 k1, .int .u8 p1, .int .u32 (F1 : Nat)] 193)
      have gX4 : w4.heap[X]? = some (.cells #[.int .u32 (x1 : Nat), .int .u32 (x2 : Nat)] 190 (0, 0)) := by rw [hw4]; exact Ent.al_old _ gX3
      have gO4 : w4.heap[O]? = some (.cells #[.int .u32 (A : Nat), .int .u32 (W1 : Nat)] 248 (0, 0)) := by rw [hw4]; exact Ent.al_old _ gO3
      rw [← hw4, ← hE] at gE
      obtain ⟨e0, e1, e2, -, -, -⟩ := Ent.cells3 gE
      obtain ⟨y0, y1, -, -⟩ := cells2 gX4
      go_upto_region 6 with fail
      rw [← hw4, ← hE]
      clear hw4 hE c3 gX3 gO3 a1 hf1
      clear wc
      go_wp2_with fail
      clear hbf
      have hWq : ∀ w', Chg w4 w' (fun _ => False) → Calls Tryz.prog 156 #[.pointer (some ⟨B, 0, none⟩), .int .u32 t, .int .u32 x2] w' fun e w'' => e = .returned (.tuple #[.agg #[.int .u32 (A2 : Nat), .int .u32 (W2 : Nat)], .bool b2]) ∧ Chg w' w'' (fun _ => False) := fun w' hc => hW2 w' (H.out.1.other (c4.trans hc (fun _ _ h => h)) (fun _ _ x => x))
      have HK : ∀ w', Chg w4 w' (fun _ => False) → w'.cell? ⟨E, 2, none⟩ = some (.int .u32 (F1 : Nat)) ∧ w'.cell? ⟨X, 1, none⟩ = some (.int .u32 (x2 : Nat)) := fun w' hc => by
        have q1 := (cells_at (hc.heap gE (fun x => x)) 2).1
        have q2 := (cells_at (hc.heap gX4 (fun x => x)) 1).1
        exact ⟨by rw [q1]; rfl, by rw [q2]; rfl⟩
      have KK : Hid (Chg w w4 (fun _ => False) ∧ w4.heap[O]? = some (.cells #[.int .u32 (A : Nat), .int .u32 (W1 : Nat)] 248 (0, 0))) := ⟨c4, gO4⟩
      have chg0 : ∀ a b : World, Chg a b (fun _ => False) → Chg a b (fun _ => False) := fun _ _ h => h
      clear c4 gX4 gO4 gE hW2
      have nn : ∀ {a b c : World}, Chg a b (fun _ => False) → Chg b c (fun _ => False) → Chg a c (fun _ => False) := fun h k => h.trans k (fun _ _ h => h)
      have sc2 : ∀ {b : World} (x y : Value), Chg w4 b (fun _ => False) → Chg w4 ((b.setCell ⟨w4.heap.size, 0, none⟩ x).setCell ⟨w4.heap.size, 1, none⟩ y) (fun _ => False) := fun x y h => Chg.setCell (Chg.setCell h (.inr (Nat.le_refl _)) _) (.inr (Nat.le_refl _)) _
      go_region_held3 (fun w' => w'.cell? ⟨E, 2, none⟩ = some (.int .u32 (F1 : Nat)) ∧ w'.cell? ⟨X, 1, none⟩ = some (.int .u32 (x2 : Nat))) (first | exact ⟨by assumption, by assumption⟩ | exact HK _ (Chg.refl _ _).drew | exact HK _ ((Chg.refl _ _).drew.alloc _) | exact HK _ (nn (Chg.refl _ _).drew (by assumption)) | exact HK _ ((nn (Chg.refl _ _).drew (by assumption)).alloc _) | exact HK _ (nn ((Chg.refl _ _).drew.alloc _) (by assumption)) | exact HK _ (sc2 _ _ (nn ((Chg.refl _ _).drew.alloc _) (by assumption)))) (first | (go_at_call 84; refine (hAd _).mono ?_; rintro e wz ⟨rfl, hwz⟩; rw [hwz]; clear hwz) | (go_at_call 156; refine (hWq _ (by first | exact (Chg.refl _ _).drew | exact (Chg.refl _ _).drew.alloc _)).mono ?_; rintro e wd ⟨rfl, kd⟩; first | (have gN : wd.heap[w4.heap.size]? = some (.cells #[.int .u32 0, .int .u32 0] 248 (0, 0)) := kd.heap (heap_alloc_new w4.drew _) (fun x => x); obtain ⟨n0, n1, n2, n3⟩ := cells2 gN) | skip))
      · skip
        have hcw : Chg w4 (wd.alloc (.cells #[.int .u32 (A2 : Nat), .int .u32 (W2 : Nat)] 248)) (fun _ => False) := (nn (Chg.refl _ _).drew kd).alloc _
        have gQ := heap_alloc_new wd (.cells #[.int .u32 (A2 : Nat), .int .u32 (W2 : Nat)] 248)
        obtain ⟨w5, hw5⟩ : ∃ w5, w5 = wd.alloc (.cells #[.int .u32 (A2 : Nat), .int .u32 (W2 : Nat)] 248) := ⟨_, rfl⟩
        obtain ⟨O2, hO2⟩ : ∃ O2, O2 = wd.heap.size := ⟨_, rfl⟩
        rw [← hw5] at hcw gQ ⊢
        rw [← hO2] at gQ ⊢
        clear hw5 hO2 kd
        have c5 : Chg w w5 (fun _ => False) := nn KK.out.1 hcw
        have gO5 := hcw.heap KK.out.2 (fun x => x)
        clear hcw KK nn chg0 sc2 HK hWq e0 e1 e2 y0 y1
        obtain ⟨o0, o1, -, -⟩ := cells2 gO5
        obtain ⟨q0, q1, -, -⟩ := cells2 gQ
        cases b2
        · rw [if_pos rfl] at hR
          have KC : Hid (Chg w w5 (fun _ => False)) := c5
          clear c5 gO5 gQ hok2 hrpz hAd hAd2
          go_wp2_with fail
          go_region
          go_wp2
          have gN := heap_alloc_new w5 (.cells #[.int .u32 (A : Nat), .int .u32 (W1 : Nat)] 248)
          refine bodyPost_ret (v := .tuple #[.int .u32 0, .slice (some ⟨w5.heap.size, 0, none⟩) 1 1, .int .i64 2]) (by simp [results, Tryz.results104, go_sem]) rfl ?_
          rw [hR]
          exact ⟨_, rfl, .inr ⟨w5.heap.size, rfl, by have := KC.out.size; omega, by simp at gN; simpa [stC, World.drew] using gN⟩, (KC.out.alloc _).drew⟩
        · rw [if_neg (by simp)] at hR
          rw [← hok2 rfl] at hR
          have gN := heap_alloc_new w5 (.cells #[.int .u32 (A : Nat), .int .u32 (W1 : Nat), .int .u32 (A2 : Nat), .int .u32 (W2 : Nat)] 248)
          have c6 : Chg w (w5.alloc (.cells #[.int .u32 (A : Nat), .int .u32 (W1 : Nat), .int .u32 (A2 : Nat), .int .u32 (W2 : Nat)] 248)) (fun _ => False) := c5.alloc _
          have hRp' := hRp _ (H.out.2.kp c6) (H.out.1.other c6 (fun _ _ x => x))
          have hq2 := Ent.al_old (.cells #[.int .u32 (A : Nat), .int .u32 (W1 : Nat), .int .u32 (A2 : Nat), .int .u32 (W2 : Nat)] 248) gQ
          obtain ⟨p0, p1, -, -⟩ := cells2 hq2
          have KC : Hid (Chg w w5 (fun _ => False) ∧ (w5.alloc (.cells #[.int .u32 (A : Nat), .int .u32 (W1 : Nat), .int .u32 (A2 : Nat), .int .u32 (W2 : Nat)] 248)).heap[w5.heap.size]? = some (.cells #[.int .u32 (A : Nat), .int .u32 (W1 : Nat), .int .u32 (A2 : Nat), .int .u32 (W2 : Nat)] 248 (0, 0))) := ⟨c5, gN⟩
          obtain ⟨D, hD⟩ : ∃ D, D = 4096 * Ent.df W2 := ⟨_, rfl⟩
          rw [← hD] at hR hAd2
          have hDn : f2 = 0 → D ≤ 16773120 := fun e => by have := hrpz e; omega
          clear c5 gO5 gQ hok2 hrpz hAd gN c6 hq2 hRp hD
          generalize Ent.dk W2 = k2 at *
          generalize ((Ent.dp W2 : Nat) : Int) = p2 at *
          generalize Ent.df W2 = F2 at *
          go_wp2_with fail
          go_at_call 158
          refine hRp'.mono ?_
          rintro e we ⟨rfl, ke⟩
          clear hRp'
          have KE : Hid (Chg w we (fun _ => False) ∧ we.heap[w5.heap.size]? = some (.cells #[.int .u32 (A : Nat), .int .u32 (W1 : Nat), .int .u32 (A2 : Nat), .int .u32 (W2 : Nat)] 248 (0, 0)) ∧ w.heap.size ≤ w5.heap.size) := ⟨(KC.out.1.alloc _).trans ke (fun _ _ h => h), ke.heap KC.out.2 (fun x => x), KC.out.1.size⟩
          clear ke KC
          by_cases hf2 : f2 = 0
          · rw [if_neg (by simp [hf2])] at hR
            have a1 : ∀ x : Int, Ent.at0 f2 x = x := fun x => by simp [Ent.at0, hf2]
            rw [a1, a1, a1]
            have hbf : (f2 != 0) = false := by simpa using hf2
            have hD2 := hDn hf2
            obtain ⟨r, hr0⟩ : ∃ r, r = v % 4096 := ⟨_, rfl⟩
            have er : (v : Int) % 4096 = r := by omega
            have hr2 : r < 4096 := by omega
            rw [← hr0] at hR
            clear hr0 a1 hf2 hDn
            go_wp2_with (go_at_call 84; refine (hAd2 _).mono ?_; rintro e wz ⟨rfl, hwz⟩; rw [hwz]; clear hwz)
            refine bodyPost_ret (v := .tuple #[.int .u32 ((D + r : Nat) : Int), .slice (some ⟨w5.heap.size, 0, none⟩) 2 2, .int .i64 0]) (by simp [results, Tryz.results104, go_sem]) rfl ?_
            rw [hR]
            exact ⟨_, rfl, .inr ⟨w5.heap.size, rfl, KE.out.2.2, by simpa [stC] using Ent.al_old _ KE.out.2.1⟩, KE.out.1.alloc _⟩
          · rw [if_pos hf2] at hR
            have a0 : ∀ x : Int, Ent.at0 f2 x = 0 := fun x => by simp [Ent.at0, hf2]
            rw [a0, a0, a0]
            have hbf : (f2 != 0) = true := by simpa using hf2
            clear a0 hf2 hDn
            go_wp2
            refine bodyPost_ret (v := .tuple #[.int .u32 0, .slice (some ⟨w5.heap.size, 0, none⟩) 2 2, .int .i64 f2]) (by simp [results, Tryz.results104, go_sem]) rfl ?_
            rw [hR]
            exact ⟨_, rfl, .inr ⟨w5.heap.size, rfl, KE.out.2.2, by simpa [stC] using Ent.al_old _ KE.out.2.1⟩, KE.out.1.alloc _⟩
      · skip
        obtain ⟨w5, hw5⟩ : ∃ w5, w5 = ((wd.setCell ⟨w4.heap.size, 0, none⟩ (.int .u32 (A2 : Nat))).setCell ⟨w4.heap.size, 1, none⟩ (.int .u32 (W2 : Nat))) := ⟨_, rfl⟩
        obtain ⟨gQ, -, -⟩ := box2 gN _ _ hw5
        have hcw : Chg w4 w5 (fun _ => False) := by rw [hw5]; exact sc2 _ _ (nn ((Chg.refl _ _).alloc _).drew kd)
        obtain ⟨O2, hO2⟩ : ∃ O2, O2 = w4.heap.size := ⟨_, rfl⟩
        rw [← hw5]
        rw [← hO2] at gQ ⊢
        clear hw5 hO2 kd gN n0 n1 n2 n3
        have c5 : Chg w w5 (fun _ => False) := nn KK.out.1 hcw
        have gO5 := hcw.heap KK.out.2 (fun x => x)
        clear hcw KK nn chg0 sc2 HK hWq e0 e1 e2 y0 y1
        obtain ⟨o0, o1, -, -⟩ := cells2 gO5
        obtain ⟨q0, q1, -, -⟩ := cells2 gQ
        cases b2
        · rw [if_pos rfl] at hR
          have KC : Hid (Chg w w5 (fun _ => False)) := c5
          clear c5 gO5 gQ hok2 hrpz hAd hAd2
          go_wp2_with fail
          go_region
          go_wp2
          have gN := heap_alloc_new w5 (.cells #[.int .u32 (A : Nat), .int .u32 (W1 : Nat)] 248)
          refine bodyPost_ret (v := .tuple #[.int .u32 0, .slice (some ⟨w5.heap.size, 0, none⟩) 1 1, .int .i64 2]) (by simp [results, Tryz.results104, go_sem]) rfl ?_
          rw [hR]
          exact ⟨_, rfl, .inr ⟨w5.heap.size, rfl, by have := KC.out.size; omega, by simp at gN; simpa [stC, World.drew] using gN⟩, (KC.out.alloc _).drew⟩
        · rw [if_neg (by simp)] at hR
          rw [← hok2 rfl] at hR
          have gN := heap_alloc_new w5 (.cells #[.int .u32 (A : Nat), .int .u32 (W1 : Nat), .int .u32 (A2 : Nat), .int .u32 (W2 : Nat)] 248)
          have c6 : Chg w (w5.alloc (.cells #[.int .u32 (A : Nat), .int .u32 (W1 : Nat), .int .u32 (A2 : Nat), .int .u32 (W2 : Nat)] 248)) (fun _ => False) := c5.alloc _
          have hRp' := hRp _ (H.out.2.kp c6) (H.out.1.other c6 (fun _ _ x => x))
          have hq2 := Ent.al_old (.cells #[.int .u32 (A : Nat), .int .u32 (W1 : Nat), .int .u32 (A2 : Nat), .int .u32 (W2 : Nat)] 248) gQ
          obtain ⟨p0, p1, -, -⟩ := cells2 hq2
          have KC : Hid (Chg w w5 (fun _ => False) ∧ (w5.alloc (.cells #[.int .u32 (A : Nat), .int .u32 (W1 : Nat), .int .u32 (A2 : Nat), .int .u32 (W2 : Nat)] 248)).heap[w5.heap.size]? = some (.cells #[.int .u32 (A : Nat), .int .u32 (W1 : Nat), .int .u32 (A2 : Nat), .int .u32 (W2 : Nat)] 248 (0, 0))) := ⟨c5, gN⟩
          obtain ⟨D, hD⟩ : ∃ D, D = 4096 * Ent.df W2 := ⟨_, rfl⟩
          rw [← hD] at hR hAd2
          have hDn : f2 = 0 → D ≤ 16773120 := fun e => by have := hrpz e; omega
          clear c5 gO5 gQ hok2 hrpz hAd gN c6 hq2 hRp hD
          generalize Ent.dk W2 = k2 at *
          generalize ((Ent.dp W2 : Nat) : Int) = p2 at *
          generalize Ent.df W2 = F2 at *
          go_wp2_with fail
          go_at_call 158
          refine hRp'.mono ?_
          rintro e we ⟨rfl, ke⟩
          clear hRp'
          have KE : Hid (Chg w we (fun _ => False) ∧ we.heap[w5.heap.size]? = some (.cells #[.int .u32 (A : Nat), .int .u32 (W1 : Nat), .int .u32 (A2 : Nat), .int .u32 (W2 : Nat)] 248 (0, 0)) ∧ w.heap.size ≤ w5.heap.size) := ⟨(KC.out.1.alloc _).trans ke (fun _ _ h => h), ke.heap KC.out.2 (fun x => x), KC.out.1.size⟩
          clear ke KC
          by_cases hf2 : f2 = 0
          · rw [if_neg (by simp [hf2])] at hR
            have a1 : ∀ x : Int, Ent.at0 f2 x = x := fun x => by simp [Ent.at0, hf2]
            rw [a1, a1, a1]
            have hbf : (f2 != 0) = false := by simpa using hf2
            have hD2 := hDn hf2
            obtain ⟨r, hr0⟩ : ∃ r, r = v % 4096 := ⟨_, rfl⟩
            have er : (v : Int) % 4096 = r := by omega
            have hr2 : r < 4096 := by omega
            rw [← hr0] at hR
            clear hr0 a1 hf2 hDn
            go_wp2_with (go_at_call 84; refine (hAd2 _).mono ?_; rintro e wz ⟨rfl, hwz⟩; rw [hwz]; clear hwz)
            refine bodyPost_ret (v := .tuple #[.int .u32 ((D + r : Nat) : Int), .slice (some ⟨w5.heap.size, 0, none⟩) 2 2, .int .i64 0]) (by simp [results, Tryz.results104, go_sem]) rfl ?_
            rw [hR]
            exact ⟨_, rfl, .inr ⟨w5.heap.size, rfl, KE.out.2.2, by simpa [stC] using Ent.al_old _ KE.out.2.1⟩, KE.out.1.alloc _⟩
          · rw [if_pos hf2] at hR
            have a0 : ∀ x : Int, Ent.at0 f2 x = 0 := fun x => by simp [Ent.at0, hf2]
            rw [a0, a0, a0]
            have hbf : (f2 != 0) = true := by simpa using hf2
            clear a0 hf2 hDn
            go_wp2
            refine bodyPost_ret (v := .tuple #[.int .u32 0, .slice (some ⟨w5.heap.size, 0, none⟩) 2 2, .int .i64 f2]) (by simp [results, Tryz.results104, go_sem]) rfl ?_
            rw [hR]
            exact ⟨_, rfl, .inr ⟨w5.heap.size, rfl, KE.out.2.2, by simpa [stC] using Ent.al_old _ KE.out.2.1⟩, KE.out.1.alloc _⟩
      · skip
        obtain ⟨w5, hw5⟩ : ∃ w5, w5 = ((wd.setCell ⟨w4.heap.size, 0, none⟩ (.int .u32 (A2 : Nat))).setCell ⟨w4.heap.size, 1, none⟩ (.int .u32 (W2 : Nat))) := ⟨_, rfl⟩
        obtain ⟨gQ, -, -⟩ := box2 gN _ _ hw5
        have hcw : Chg w4 w5 (fun _ => False) := by rw [hw5]; exact sc2 _ _ (nn ((Chg.refl _ _).alloc _).drew kd)
        obtain ⟨O2, hO2⟩ : ∃ O2, O2 = w4.heap.size := ⟨_, rfl⟩
        rw [← hw5]
        rw [← hO2] at gQ ⊢
        clear hw5 hO2 kd gN n0 n1 n2 n3
        have c5 : Chg w w5 (fun _ => False) := nn KK.out.1 hcw
        have gO5 := hcw.heap KK.out.2 (fun x => x)
        clear hcw KK nn chg0 sc2 HK hWq e0 e1 e2 y0 y1
        obtain ⟨o0, o1, -, -⟩ := cells2 gO5
        obtain ⟨q0, q1, -, -⟩ := cells2 gQ
        cases b2
        · rw [if_pos rfl] at hR
          have KC : Hid (Chg w w5 (fun _ => False)) := c5
          clear c5 gO5 gQ hok2 hrpz hAd hAd2
          go_wp2_with fail
          go_region
          go_wp2
          have gN := heap_alloc_new w5 (.cells #[.int .u32 (A : Nat), .int .u32 (W1 : Nat)] 248)
          refine bodyPost_ret (v := .tuple #[.int .u32 0, .slice (some ⟨w5.heap.size, 0, none⟩) 1 1, .int .i64 2]) (by simp [results, Tryz.results104, go_sem]) rfl ?_
          rw [hR]
          exact ⟨_, rfl, .inr ⟨w5.heap.size, rfl, by have := KC.out.size; omega, by simp at gN; simpa [stC, World.drew] using gN⟩, (KC.out.alloc _).drew⟩
        · rw [if_neg (by simp)] at hR
          rw [← hok2 rfl] at hR
          have gN := heap_alloc_new w5 (.cells #[.int .u32 (A : Nat), .int .u32 (W1 : Nat), .int .u32 (A2 : Nat), .int .u32 (W2 : Nat)] 248)
          have c6 : Chg w (w5.alloc (.cells #[.int .u32 (A : Nat), .int .u32 (W1 : Nat), .int .u32 (A2 : Nat), .int .u32 (W2 : Nat)] 248)) (fun _ => False) := c5.alloc _
          have hRp' := hRp _ (H.out.2.kp c6) (H.out.1.other c6 (fun _ _ x => x))
          have hq2 := Ent.al_old (.cells #[.int .u32 (A : Nat), .int .u32 (W1 : Nat), .int .u32 (A2 : Nat), .int .u32 (W2 : Nat)] 248) gQ
          obtain ⟨p0, p1, -, -⟩ := cells2 hq2
          have KC : Hid (Chg w w5 (fun _ => False) ∧ (w5.alloc (.cells #[.int .u32 (A : Nat), .int .u32 (W1 : Nat), .int .u32 (A2 : Nat), .int .u32 (W2 : Nat)] 248)).heap[w5.heap.size]? = some (.cells #[.int .u32 (A : Nat), .int .u32 (W1 : Nat), .int .u32 (A2 : Nat), .int .u32 (W2 : Nat)] 248 (0, 0))) := ⟨c5, gN⟩
          obtain ⟨D, hD⟩ : ∃ D, D = 4096 * Ent.df W2 := ⟨_, rfl⟩
          rw [← hD] at hR hAd2
          have hDn : f2 = 0 → D ≤ 16773120 := fun e => by have := hrpz e; omega
          clear c5 gO5 gQ hok2 hrpz hAd gN c6 hq2 hRp hD
          generalize Ent.dk W2 = k2 at *
          generalize ((Ent.dp W2 : Nat) : Int) = p2 at *
          generalize Ent.df W2 = F2 at *
          go_wp2_with fail
          go_at_call 158
          refine hRp'.mono ?_
          rintro e we ⟨rfl, ke⟩
          clear hRp'
          have KE : Hid (Chg w we (fun _ => False) ∧ we.heap[w5.heap.size]? = some (.cells #[.int .u32 (A : Nat), .int .u32 (W1 : Nat), .int .u32 (A2 : Nat), .int .u32 (W2 : Nat)] 248 (0, 0)) ∧ w.heap.size ≤ w5.heap.size) := ⟨(KC.out.1.alloc _).trans ke (fun _ _ h => h), ke.heap KC.out.2 (fun x => x), KC.out.1.size⟩
          clear ke KC
          by_cases hf2 : f2 = 0
          · rw [if_neg (by simp [hf2])] at hR
            have a1 : ∀ x : Int, Ent.at0 f2 x = x := fun x => by simp [Ent.at0, hf2]
            rw [a1, a1, a1]
            have hbf : (f2 != 0) = false := by simpa using hf2
            have hD2 := hDn hf2
            obtain ⟨r, hr0⟩ : ∃ r, r = v % 4096 := ⟨_, rfl⟩
            have er : (v : Int) % 4096 = r := by omega
            have hr2 : r < 4096 := by omega
            rw [← hr0] at hR
            clear hr0 a1 hf2 hDn
            go_wp2_with (go_at_call 84; refine (hAd2 _).mono ?_; rintro e wz ⟨rfl, hwz⟩; rw [hwz]; clear hwz)
            refine bodyPost_ret (v := .tuple #[.int .u32 ((D + r : Nat) : Int), .slice (some ⟨w5.heap.size, 0, none⟩) 2 2, .int .i64 0]) (by simp [results, Tryz.results104, go_sem]) rfl ?_
            rw [hR]
            exact ⟨_, rfl, .inr ⟨w5.heap.size, rfl, KE.out.2.2, by simpa [stC] using Ent.al_old _ KE.out.2.1⟩, KE.out.1.alloc _⟩
          · rw [if_pos hf2] at hR
            have a0 : ∀ x : Int, Ent.at0 f2 x = 0 := fun x => by simp [Ent.at0, hf2]
            rw [a0, a0, a0]
            have hbf : (f2 != 0) = true := by simpa using hf2
            clear a0 hf2 hDn
            go_wp2
            refine bodyPost_ret (v := .tuple #[.int .u32 0, .slice (some ⟨w5.heap.size, 0, none⟩) 2 2, .int .i64 f2]) (by simp [results, Tryz.results104, go_sem]) rfl ?_
            rw [hR]
            exact ⟨_, rfl, .inr ⟨w5.heap.size, rfl, KE.out.2.2, by simpa [stC] using Ent.al_old _ KE.out.2.1⟩, KE.out.1.alloc _⟩
    · rw [if_pos hf1] at hR
      have hbf : (f1 != 0) = true := by simpa using hf1
      have a0 : ∀ x : Int, Ent.at0 f1 x = 0 := fun x => by simp [Ent.at0, hf1]
      rw [a0, a0, a0]
      have gO4 := Ent.al_old (.cells #[.int .i64 0, .int .u8 0, .int .u32 0] 193) gO3
      obtain ⟨o0, o1, -, -⟩ := cells2 gO4
      have KC : Hid (Chg w wc (fun _ => False)) := c3
      clear c3 gX3 gO3 gO4 a0 hf1 hok2 hrpz
      go_wp2_with fail
      go_region
      go_wp2
      have gN := heap_alloc_new (wc.alloc (.cells #[.int .i64 0, .int .u8 0, .int .u32 0] 193)) (.cells #[.int .u32 (A : Nat), .int .u32 (W1 : Nat)] 248)
      refine bodyPost_ret (v := .tuple #[.int .u32 0, .slice (some ⟨wc.heap.size + 1, 0, none⟩) 1 1, .int .i64 f1]) (by simp [results, Tryz.results104, go_sem]) rfl ?_
      rw [hR]
      exact ⟨_, rfl, .inr ⟨wc.heap.size + 1, rfl, by have := KC.out.size; omega, by simp at gN; simpa [stC, World.drew] using gN⟩, ((KC.out.alloc _).alloc _).drew⟩
end Go.Proofs.YtfolnmmlhknmiaaGreatDoor
