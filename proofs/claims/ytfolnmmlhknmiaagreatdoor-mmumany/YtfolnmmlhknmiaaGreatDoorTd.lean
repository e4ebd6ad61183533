import Derived.Test.YtfolnmmlhknmiaaGreatDoorTm
import Derived.Deep.RegionHeld3
import Derived.Deep.Cut
namespace Go.Proofs.YtfolnmmlhknmiaaGreatDoor
open Go.ChangeShapes Go.WideShapes Go.ChangeAt Go.RowKit
set_option linter.unusedVariables false

theorem IsS.cells {w : World} {S A root : Nat} (h : IsS w S A root) : w.cell? ⟨S, 0, none⟩ = some (.pointer (some ⟨A, 0, none⟩)) ∧ w.cell? ⟨S, 1, none⟩ = some (.int .u32 (root : Nat)) := ⟨(cells2 h).1, (cells2 h).2.1⟩
theorem IsS.other {w w' : World} {S A root : Nat} {T : Nat → Prop} (h : IsS w S A root) (hc : Chg w w' T) (hS : ¬ T S) : IsS w' S A root := hc.heap h hS
theorem Chg.tr {a b c : World} (h : Chg a b (fun _ => False)) (k : Chg b c (fun _ => False)) : Chg a c (fun _ => False) := h.trans k (fun _ _ h => h)
/-- Has a table nothing at an index? -/
def freeM (n : Nat) (m : Nat → Nat) (e : En) (i : Nat) : Bool := if e.k = 0 then true else decide (Ent.de (wdW n m (4096 * e.f) i) = 0 ∧ Ent.dk (wdW n m (4096 * e.f) i) = 0)

set_option maxHeartbeats 2000000 in
set_option maxRecDepth 10000 in
theorem free_any (w : World) (S A root B M n p0 pages taken : Nat) (sealed : Bool) (f : Nat → Option Nat) (m : Nat → Nat) (hS : IsS w S A root) (hA : IsA w A B p0 pages taken sealed) (h : IsM w B M n f m) (e : En) (he : e.f < 1048576) (i : Nat) (hi : i < 4294967296) :
    Calls Tryz.prog 139 #[.pointer (some ⟨S, 0, none⟩), eV e, .int .u32 (i : Nat)] w fun r w' => r = .returned (.bool (freeM n m e i)) ∧ Chg w w' (fun _ => False) := by
  obtain ⟨k, p, fr⟩ := e
  simp only at he
  unfold eV
  simp only
  obtain ⟨r, hr⟩ : ∃ r, r = freeM n m ⟨k, p, fr⟩ i := ⟨_, rfl⟩
  rw [← hr]
  unfold freeM at hr
  simp only at hr
  obtain ⟨w1, hw1⟩ : ∃ w1, w1 = w.alloc (.cells #[.int .i64 k, .int .u8 (p : Nat), .int .u32 (fr : Nat)] 193) := ⟨_, rfl⟩
  obtain ⟨E, hE⟩ : ∃ E, E = w.heap.size := ⟨_, rfl⟩
  have c1 : Chg w w1 (fun _ => False) := by rw [hw1]; exact (Chg.refl _ _).alloc _
  have gE := heap_alloc_new w (.cells #[.int .i64 k, .int .u8 (p : Nat), .int .u32 (fr : Nat)] 193)
  rw [← hw1, ← hE] at gE
  obtain ⟨z0, z1, z2, -, -, -⟩ := Ent.cells3 gE
  by_cases hk : k = 0
  · rw [if_pos hk] at hr
    have hb : (k == 0) = true := by simpa using hk
    subst hr
    clear hk
    go_enter Tryz.func139, Tryz.ntmps139
    go_upto_region 1 with fail
    rw [← hw1, ← hE]
    clear hw1 hE
    go_wp2
    go_ret
    exact ⟨rfl, c1⟩
  · rw [if_neg hk] at hr
    have hbk : (k == 0) = false := by simpa using hk
    obtain ⟨t, ht⟩ : ∃ t, t = 4096 * fr := ⟨_, rfl⟩
    have hAd := fun w => addressOf_any w fr he
    rw [← ht] at hr hAd
    have ht4 : t < 4294967296 := by omega
    have hW2 := fun (w1 : World) (h1 : IsM w1 B M n f m) => wordAt_any w1 B M n f m h1 t i ht4 hi
    have hl2 := wdW_lt (n := n) h.byte t i
    have hD := fun w => Ent.Decode_any w (wdW n m t i) hl2
    have a0 : ∀ {c x : Int}, c ≠ 0 → Ent.at0 c x = 0 := fun h => by simp [Ent.at0, h]
    have a1 : ∀ {c x : Int}, c = 0 → Ent.at0 c x = x := fun h => by simp [Ent.at0, h]
    generalize wdW n m t i = W2 at *
    have HR : Hid (r = decide (Ent.de W2 = 0 ∧ Ent.dk W2 = 0)) := hr
    generalize Ent.de W2 = d at *
    generalize Ent.dk W2 = k2 at *
    generalize ((Ent.dp W2 : Nat) : Int) = p2 at *
    generalize ((Ent.df W2 : Nat) : Int) = f2 at *
    generalize okW n t i = b2 at *
    generalize atW n t i = A2 at *
    have sA := hS.other c1 (fun x => x)
    have hMem : ∀ w', Chg w1 w' (fun _ => False) → Calls Tryz.prog 83 #[.pointer (some ⟨A, 0, none⟩)] w' fun e w'' => e = .returned (.pointer (some ⟨B, 0, none⟩)) ∧ w'' = w' := fun w' hc => memory_any w' A B p0 pages taken sealed (hA.other (c1.tr hc) (fun x => x))
    have hWq : ∀ w', Chg w1 w' (fun _ => False) → Calls Tryz.prog 156 #[.pointer (some ⟨B, 0, none⟩), .int .u32 t, .int .u32 i] w' fun e w'' => e = .returned (.tuple #[.agg #[.int .u32 (A2 : Nat), .int .u32 (W2 : Nat)], .bool b2]) ∧ Chg w' w'' (fun _ => False) := fun w' hc => hW2 w' (h.other (c1.tr hc) (fun _ _ x => x))
    have HK : ∀ w', Chg w1 w' (fun _ => False) → w'.cell? ⟨S, 0, none⟩ = some (.pointer (some ⟨A, 0, none⟩)) ∧ w'.cell? ⟨E, 2, none⟩ = some (.int .u32 (fr : Nat)) := fun w' hc => ⟨(sA.other hc (fun x => x)).cells.1, (Ent.cells3 (hc.heap gE (fun x => x))).2.2.1⟩
    obtain ⟨y0, y1⟩ := HK w1 (Chg.refl _ _)
    have sc2 : ∀ {b : World} (x y : Value), Chg w1 b (fun _ => False) → Chg w1 ((b.setCell ⟨w1.heap.size, 0, none⟩ x).setCell ⟨w1.heap.size, 1, none⟩ y) (fun _ => False) := fun x y h => Chg.setCell (Chg.setCell h (.inr (Nat.le_refl _)) _) (.inr (Nat.le_refl _)) _
    have KK : Hid (Chg w w1 (fun _ => False)) := c1
    clear hW2 hr hk ht sA hS hA h
    go_enter Tryz.func139, Tryz.ntmps139
    go_upto_region 1 with fail
    rw [← hw1, ← hE]
    clear hw1 hE c1 gE
    go_wp2_with fail
    clear z0 z1 z2 hbk
    go_region_held3 (fun w' => w'.cell? ⟨S, 0, none⟩ = some (.pointer (some ⟨A, 0, none⟩)) ∧ w'.cell? ⟨E, 2, none⟩ = some (.int .u32 (fr : Nat))) (first | exact ⟨by assumption, by assumption⟩ | exact HK _ (Chg.refl _ _).drew | exact HK _ ((Chg.refl _ _).drew.alloc _) | exact HK _ ((Chg.refl _ _).drew.tr (by assumption)) | exact HK _ (((Chg.refl _ _).drew.tr (by assumption)).alloc _) | exact HK _ (((Chg.refl _ _).drew.alloc _).tr (by assumption)) | exact HK _ (sc2 _ _ (((Chg.refl _ _).drew.alloc _).tr (by assumption)))) (first | (go_at_call 84; refine (hAd _).mono ?_; rintro e wz ⟨rfl, hwz⟩; rw [hwz]; clear hwz) | (go_at_call 83; refine (hMem _ (by first | exact (Chg.refl _ _).drew | exact (Chg.refl _ _).drew.alloc _)).mono ?_; rintro e wz ⟨rfl, hwz⟩; rw [hwz]; clear hwz) | (go_at_call 156; refine (hWq _ (by first | exact (Chg.refl _ _).drew | exact (Chg.refl _ _).drew.alloc _)).mono ?_; rintro e wd ⟨rfl, kd⟩; first | (have gN : wd.heap[w1.heap.size]? = some (.cells #[.int .u32 0, .int .u32 0] 248 (0, 0)) := kd.heap (heap_alloc_new w1.drew _) (fun x => x); obtain ⟨n0, n1, n2, n3⟩ := cells2 gN) | skip))
    · skip
      have hcw : Chg w1 (wd.alloc (.cells #[.int .u32 (A2 : Nat), .int .u32 (W2 : Nat)] 248)) (fun _ => False) := ((Chg.refl _ _).drew.tr kd).alloc _
      have gQ := heap_alloc_new wd (.cells #[.int .u32 (A2 : Nat), .int .u32 (W2 : Nat)] 248)
      obtain ⟨w5, hw5⟩ : ∃ w5, w5 = wd.alloc (.cells #[.int .u32 (A2 : Nat), .int .u32 (W2 : Nat)] 248) := ⟨_, rfl⟩
      obtain ⟨O2, hO2⟩ : ∃ O2, O2 = wd.heap.size := ⟨_, rfl⟩
      rw [← hw5] at hcw gQ ⊢
      rw [← hO2] at gQ ⊢
      clear hw5 hO2 kd
      have c5 : Chg w w5 (fun _ => False) := KK.out.tr hcw
      clear hcw KK sc2 HK hWq hMem
      obtain ⟨q0, q1, -, -⟩ := cells2 gQ
      have KC : Hid (Chg w w5 (fun _ => False)) := c5
      have hD' := hD w5
      clear c5 gQ hD
      go_wp2_with fail
      go_at_call 160
      refine hD'.mono ?_
      rintro e we ⟨rfl, ke⟩
      clear hD'
      have KE : Hid (Chg w we (fun _ => False)) := KC.out.tr ke
      clear ke KC
      by_cases hd : d = 0
      · rw [a1 hd, a1 hd, a1 hd]
        have hb : (d == 0) = true := by simpa using hd
        have hr : r = (k2 == 0) := by
          rw [HR.out]
          by_cases hk : k2 = 0
          · simp [hd, hk]
          · simp [hk]
        subst hr
        clear HR
        go_wp2
        go_ret
        exact ⟨rfl, KE.out.alloc _⟩
      · rw [a0 hd, a0 hd, a0 hd]
        have hb : (d == 0) = false := by simpa using hd
        have hr : r = false := by rw [HR.out]; simp [hd]
        subst hr
        clear HR
        go_wp2
        go_ret
        exact ⟨rfl, KE.out.alloc _⟩
    · skip
      obtain ⟨w5, hw5⟩ : ∃ w5, w5 = ((wd.setCell ⟨w1.heap.size, 0, none⟩ (.int .u32 (A2 : Nat))).setCell ⟨w1.heap.size, 1, none⟩ (.int .u32 (W2 : Nat))) := ⟨_, rfl⟩
      obtain ⟨gQ, -, -⟩ := box2 gN _ _ hw5
      have hcw : Chg w1 w5 (fun _ => False) := by rw [hw5]; exact sc2 _ _ (((Chg.refl _ _).alloc _).drew.tr kd)
      obtain ⟨O2, hO2⟩ : ∃ O2, O2 = w1.heap.size := ⟨_, rfl⟩
      rw [← hw5]
      rw [← hO2] at gQ ⊢
      clear hw5 hO2 kd gN n0 n1 n2 n3
      have c5 : Chg w w5 (fun _ => False) := KK.out.tr hcw
      clear hcw KK sc2 HK hWq hMem
      obtain ⟨q0, q1, -, -⟩ := cells2 gQ
      have KC : Hid (Chg w w5 (fun _ => False)) := c5
      have hD' := hD w5
      clear c5 gQ hD
      go_wp2_with fail
      go_at_call 160
      refine hD'.mono ?_
      rintro e we ⟨rfl, ke⟩
      clear hD'
      have KE : Hid (Chg w we (fun _ => False)) := KC.out.tr ke
      clear ke KC
      by_cases hd : d = 0
      · rw [a1 hd, a1 hd, a1 hd]
        have hb : (d == 0) = true := by simpa using hd
        have hr : r = (k2 == 0) := by
          rw [HR.out]
          by_cases hk : k2 = 0
          · simp [hd, hk]
          · simp [hk]
        subst hr
        clear HR
        go_wp2
        go_ret
        exact ⟨rfl, KE.out.alloc _⟩
      · rw [a0 hd, a0 hd, a0 hd]
        have hb : (d == 0) = false := by simpa using hd
        have hr : r = false := by rw [HR.out]; simp [hd]
        subst hr
        clear HR
        go_wp2
        go_ret
        exact ⟨rfl, KE.out.alloc _⟩
    · skip
      obtain ⟨w5, hw5⟩ : ∃ w5, w5 = ((wd.setCell ⟨w1.heap.size, 0, none⟩ (.int .u32 (A2 : Nat))).setCell ⟨w1.heap.size, 1, none⟩ (.int .u32 (W2 : Nat))) := ⟨_, rfl⟩
      obtain ⟨gQ, -, -⟩ := box2 gN _ _ hw5
      have hcw : Chg w1 w5 (fun _ => False) := by rw [hw5]; exact sc2 _ _ (((Chg.refl _ _).alloc _).drew.tr kd)
      obtain ⟨O2, hO2⟩ : ∃ O2, O2 = w1.heap.size := ⟨_, rfl⟩
      rw [← hw5]
      rw [← hO2] at gQ ⊢
      clear hw5 hO2 kd gN n0 n1 n2 n3
      have c5 : Chg w w5 (fun _ => False) := KK.out.tr hcw
      clear hcw KK sc2 HK hWq hMem
      obtain ⟨q0, q1, -, -⟩ := cells2 gQ
      have KC : Hid (Chg w w5 (fun _ => False)) := c5
      have hD' := hD w5
      clear c5 gQ hD
      go_wp2_with fail
      go_at_call 160
      refine hD'.mono ?_
      rintro e we ⟨rfl, ke⟩
      clear hD'
      have KE : Hid (Chg w we (fun _ => False)) := KC.out.tr ke
      clear ke KC
      by_cases hd : d = 0
      · rw [a1 hd, a1 hd, a1 hd]
        have hb : (d == 0) = true := by simpa using hd
        have hr : r = (k2 == 0) := by
          rw [HR.out]
          by_cases hk : k2 = 0
          · simp [hd, hk]
          · simp [hk]
        subst hr
        clear HR
        go_wp2
        go_ret
        exact ⟨rfl, KE.out.alloc _⟩
      · rw [a0 hd, a0 hd, a0 hd]
        have hb : (d == 0) = false := by simpa using hd
        have hr : r = false := by rw [HR.out]; simp [hd]
        subst hr
        clear HR
        go_wp2
        go_ret
        exact ⟨rfl, KE.out.alloc _⟩
    · skip
      obtain ⟨w5, hw5⟩ : ∃ w5, w5 = ((wd.setCell ⟨w1.heap.size, 0, none⟩ (.int .u32 (A2 : Nat))).setCell ⟨w1.heap.size, 1, none⟩ (.int .u32 (W2 : Nat))) := ⟨_, rfl⟩
      obtain ⟨gQ, -, -⟩ := box2 gN _ _ hw5
      have hcw : Chg w1 w5 (fun _ => False) := by rw [hw5]; exact sc2 _ _ (((Chg.refl _ _).alloc _).drew.tr kd)
      obtain ⟨O2, hO2⟩ : ∃ O2, O2 = w1.heap.size := ⟨_, rfl⟩
      rw [← hw5]
      rw [← hO2] at gQ ⊢
      clear hw5 hO2 kd gN n0 n1 n2 n3
      have c5 : Chg w w5 (fun _ => False) := KK.out.tr hcw
      clear hcw KK sc2 HK hWq hMem
      obtain ⟨q0, q1, -, -⟩ := cells2 gQ
      have KC : Hid (Chg w w5 (fun _ => False)) := c5
      have hD' := hD w5
      clear c5 gQ hD
      go_wp2_with fail
      go_at_call 160
      refine hD'.mono ?_
      rintro e we ⟨rfl, ke⟩
      clear hD'
      have KE : Hid (Chg w we (fun _ => False)) := KC.out.tr ke
      clear ke KC
      by_cases hd : d = 0
      · rw [a1 hd, a1 hd, a1 hd]
        have hb : (d == 0) = true := by simpa using hd
        have hr : r = (k2 == 0) := by
          rw [HR.out]
          by_cases hk : k2 = 0
          · simp [hd, hk]
          · simp [hk]
        subst hr
        clear HR
        go_wp2
        go_ret
        exact ⟨rfl, KE.out.alloc _⟩
      · rw [a0 hd, a0 hd, a0 hd]
        have hb : (d == 0) = false := by simpa using hd
        have hr : r = false := by rw [HR.out]; simp [hd]
        subst hr
        clear HR
        go_wp2
        go_ret
        exact ⟨rfl, KE.out.alloc _⟩
end Go.Proofs.YtfolnmmlhknmiaaGreatDoor
