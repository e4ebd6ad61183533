import Derived.Test.YtppcfofkneaigaaPt
import Derived.Deep.Cut
namespace Go.Proofs.Ytppcfofkneaigaa
open Go.ChangeShapes Go.WideShapes Go.ChangeAt Go.RowKit
set_option linter.unusedVariables false

theorem field100 (n : Int) (b : Bool) (w : World) : (Instr.field 100 (.agg #[.int .i64 n, .bool b]) 1).run Try.prog w = .ok (.bool b) w := by kernel_rfl

set_option maxHeartbeats 4000000 in
set_option maxRecDepth 100000 in
theorem paccess_any (w : World) (P M g uc sets ways line : Nat) (p : Pst) (h : IsP w P M g uc sets ways line p) (st : Nat → List Ln) (inv : PInv ways st p) (hg : ∀ k, Good (st k) ways) (h32 : ∀ k, ∀ x ∈ st k, x.1 < 4294967296) (hn : p.n ≤ 1100000) (a : Nat) (ha : a < 4294967296) (wr : Bool) :
    Calls Try.prog 34 #[.pointer (some ⟨P, 0, none⟩), .agg #[.int .u32 a, .bool wr]] w (PaEnd w P M g sets ways line p st a wr (hitA sets line st a) (backA sets ways line st a)) := by
  have K32 : Hid (∀ k, ∀ x ∈ st k, x.1 < 4294967296) := h32
  clear h32
  have hw1 := h.sh.w1
  have hw8 := h.sh.w2
  have hP := fun w => place_any w sets ways line a h.sh ha
  have hs1 := Nat.mod_lt (a / line) (show 0 < sets from h.sh.s1)
  have hsl : setOf sets line a < 256 := by have := h.sh.s2; unfold setOf; omega
  have htl : tagOf sets line a < 4294967296 := by
    have h1 : a / line / sets ≤ a / line := Nat.div_le_self _ _
    have h2 : a / line ≤ a := Nat.div_le_self _ _
    unfold tagOf; omega
  obtain ⟨s, hs⟩ : ∃ s, s = setOf sets line a := ⟨_, rfl⟩
  obtain ⟨t, ht⟩ : ∃ t, t = tagOf sets line a := ⟨_, rfl⟩
  obtain ⟨hit, hhit⟩ : ∃ x, x = hitA sets line st a := ⟨_, rfl⟩
  obtain ⟨back, hback⟩ : ∃ x, x = backA sets ways line st a := ⟨_, rfl⟩
  rw [← hs, ← ht] at hP
  rw [← hs] at hsl
  rw [← ht] at htl
  rw [← hhit, ← hback]
  have K : Hid (IsP w P M g uc sets ways line p ∧ PInv ways st p ∧ (∀ k, Good (st k) ways) ∧ s = setOf sets line a ∧ t = tagOf sets line a ∧ hit = hitA sets line st a ∧ back = backA sets ways line st a) := ⟨h, inv, hg, hs, ht, hhit, hback⟩
  have hPl : ∀ k, Pf P M g k → k < w.heap.size := by
    intro k hk
    rcases hk with rfl | rfl | rfl
    · obtain ⟨arr, hb, _⟩ := h.row; exact (Array.getElem?_eq_some_iff.1 hb).1
    · obtain ⟨es, c, hh⟩ := h.map.heap; exact (Array.getElem?_eq_some_iff.1 hh).1
    · rcases h.uses.2 with ⟨e, _⟩ | ⟨g', cap, cur, e, _, hg, _⟩
      · cases e
      · simp at e; obtain ⟨rfl, _⟩ := e; exact (Array.getElem?_eq_some_iff.1 hg).1
  have hs256 : (s : Int) < 256 := by omega
  clear h inv hg hs ht hhit hback hs1
  -- region 0
  obtain ⟨W0, hW0⟩ : ∃ x, x = (w.alloc (.cells #[.int .u32 (a : Nat), .bool wr] 37)).alloc (.cells #[.bool false, .bool false, .int .i64 0] 33) := ⟨_, rfl⟩
  have hC0 : Chg w W0 (fun _ => False) := by rw [hW0]; exact ((Chg.refl w _).alloc _).alloc _
  have t3 : W0.heap[w.heap.size]? = some (.cells #[.int .u32 (a : Nat), .bool wr] 37 (0, 0)) := by rw [hW0]; exact al_old _ (heap_alloc_new w _)
  have t4 : W0.heap[w.heap.size + 1]? = some (.cells #[.bool false, .bool false, .int .i64 0] 33 (0, 0)) := by
    rw [hW0]
    have := heap_alloc_new (w.alloc (.cells #[.int .u32 (a : Nat), .bool wr] 37)) (.cells #[.bool false, .bool false, .int .i64 0] 33)
    rwa [al_size] at this
  have hI0 := K.out.1.kept hC0 (fun _ _ h => h)
  obtain ⟨q0, q1, q2, q3, q4⟩ := hI0.pcells
  obtain ⟨z0, z1, _, _⟩ := cells2 t3
  have HW : Hid (W0 = (w.alloc (.cells #[.int .u32 (a : Nat), .bool wr] 37)).alloc (.cells #[.bool false, .bool false, .int .i64 0] 33)) := hW0
  have K0 : Hid (Chg w W0 (fun _ => False) ∧ W0.heap[w.heap.size]? = some (.cells #[.int .u32 (a : Nat), .bool wr] 37 (0, 0)) ∧ W0.heap[w.heap.size + 1]? = some (.cells #[.bool false, .bool false, .int .i64 0] 33 (0, 0))) := ⟨hC0, t3, t4⟩
  have hca := (Chg.refl W0 (fun _ => False)).drew
  have hcb := ((Chg.refl W0 (fun _ => False)).alloc (.cells #[.int .u32 0, .int .u32 0] 72)).drew
  have hlt0 : w.heap.size + 1 < W0.heap.size := (Array.getElem?_eq_some_iff.1 t4).1
  have hlt1 : w.heap.size < W0.heap.size := by omega
  have hPl0 : P < W0.heap.size := by have := hPl P (.inl rfl); omega
  clear hW0 hC0 t3 t4 hI0
  go_enter Try.func34, Try.ntmps34
  go_wp2_with fail
  rw [← HW.out]
  clear HW
  apply of_leaf2 (Leaf2 W0 72 (.int .u32 (s : Nat)) (.int .u32 (t : Nat)))
  rotate_left
  · intro hT
    go_region_with (go_at_call 26; refine (hP _).mono ?_; rintro e w5 ⟨rfl, hC5⟩; (try (obtain ⟨x0, x1, x2, x3⟩ := cells2 (hC5.heap (heap_alloc_new W0 _) (fun h => h)))))
    all_goals first
      | (obtain ⟨w6, hw6⟩ : ∃ x, x = w5.alloc (.cells #[.int .u32 (s : Nat), .int .u32 (t : Nat)] 72) := ⟨_, rfl⟩
         obtain ⟨p, hp⟩ : ∃ p, p = w5.heap.size := ⟨_, rfl⟩
         rw [← hw6, ← hp]
         exact hT p w6 (leaf2A hw6 hp hC5))
      | (obtain ⟨p, hp⟩ : ∃ p, p = W0.heap.size := ⟨_, rfl⟩
         rw [← hp]
         obtain ⟨w6, hw6⟩ : ∃ x, x = (w5.setCell ⟨p, 0, none⟩ (.int .u32 (s : Nat))).setCell ⟨p, 1, none⟩ (.int .u32 (t : Nat)) := ⟨_, rfl⟩
         rw [← hw6]
         exact hT p w6 (leaf2B hp hw6 hC5))
  intro b5 W1 hL
  have hC01 : Chg w W1 (fun _ => False) := K0.out.1.trans hL.chg (fun _ _ h => h)
  have hI1 := K.out.1.kept hC01 (fun _ _ h => h)
  have hlA := (hI1.map.kept (Chg.refl W1 (fun _ => False)).drew (fun h => h)).lookOk s t (by omega) htl
  have hlB := (hI1.map.kept ((Chg.refl W1 (fun _ => False)).alloc (.cells #[.int .i64 0, .bool false] 100)).drew (fun h => h)).lookOk s t (by omega) htl
  simp only [luV, kV] at hlA hlB
  clear q0 q1 q2 q3 q4 z0 z1
  obtain ⟨q0, q1, q2, q3, q4⟩ := hI1.pcells
  obtain ⟨y0, y1, _, _⟩ := cells2 hL.res
  have hb5 : b5 < W1.heap.size := (Array.getElem?_eq_some_iff.1 hL.res).1
  have hPl1 : P < W1.heap.size := Nat.lt_of_lt_of_le hPl0 hL.chg.size
  obtain ⟨nm, hnm⟩ : ∃ x, x = numO (p.mp s t) := ⟨_, rfl⟩
  obtain ⟨dr, hdr⟩ : ∃ x, x = drtO (p.mp s t) := ⟨_, rfl⟩
  obtain ⟨bf, hbf⟩ : ∃ x, x = (p.mp s t).isSome := ⟨_, rfl⟩
  rw [← hnm, ← hdr, ← hbf] at hlA hlB
  have K1 : Hid (Chg w W1 (fun _ => False) ∧ W1.heap[b5]? = some (.cells #[.int .u32 (s : Nat), .int .u32 (t : Nat)] 72 (0, 0)) ∧ W1.heap[w.heap.size]? = some (.cells #[.int .u32 (a : Nat), .bool wr] 37 (0, 0)) ∧ W1.heap[w.heap.size + 1]? = some (.cells #[.bool false, .bool false, .int .i64 0] 33 (0, 0)) ∧ nm = numO (p.mp s t) ∧ dr = drtO (p.mp s t) ∧ bf = (p.mp s t).isSome ∧ W0.heap.size ≤ b5) := ⟨hC01, hL.res, hL.chg.heap K0.out.2.1 (fun h => h), hL.chg.heap K0.out.2.2 (fun h => h), hnm, hdr, hbf, hL.new⟩
  clear hL hC01 hI1 hnm hdr hbf hca hcb hP K0
  go_wp2_with fail
  apply of_leaf
  rotate_left
  · intro hT
    go_region
    all_goals exact hT
  obtain ⟨W2, hW2⟩ : ∃ x, x = (W1.alloc (.cells #[.int .i64 (nm : Nat), .bool dr] 100)).drew := ⟨_, rfl⟩
  obtain ⟨b6, hb6⟩ : ∃ x, x = W1.heap.size := ⟨_, rfl⟩
  have hC12 : Chg W1 W2 (fun _ => False) := by rw [hW2]; exact ((Chg.refl W1 _).alloc _).drew
  have t6 : W2.heap[b6]? = some (.cells #[.int .i64 (nm : Nat), .bool dr] 100 (0, 0)) := by rw [hW2, hb6]; exact heap_alloc_new W1 _
  have hC02 := K1.out.1.trans hC12 (fun _ _ h => h)
  have hI2 := K.out.1.kept hC02 (fun _ _ h => h)
  obtain ⟨C, hC1, hC2, hC3⟩ := K.out.2.1.sets s
  have hSg := hC2 t
  rw [← K1.out.2.2.2.2.1] at hSg
  have hOt := others_any W2 P M g uc sets ways line p hI2 (by omega) s hsl t nm C _ hSg K.out.2.1.n0 rfl
  rw [← hC1] at hOt
  obtain ⟨y0', y1', _, _⟩ := cells2 (hC12.heap K1.out.2.1 (fun h => h))
  obtain ⟨x6, x7, _, _⟩ := cells2 t6
  have KB : Hid (t ∈ C ↔ bf = true) := by have := hC3 t; rw [← K1.out.2.2.2.2.2.2.1] at this; exact this
  have KD : Hid (tags (st s) = (dedF [] C).take ways) := hC1
  have K2 : Hid (Chg w W2 (fun _ => False) ∧ W2.heap[b5]? = some (.cells #[.int .u32 (s : Nat), .int .u32 (t : Nat)] 72 (0, 0)) ∧ W2.heap[w.heap.size]? = some (.cells #[.int .u32 (a : Nat), .bool wr] 37 (0, 0)) ∧ W2.heap[w.heap.size + 1]? = some (.cells #[.bool false, .bool false, .int .i64 0] 33 (0, 0)) ∧ W2.heap[b6]? = some (.cells #[.int .i64 (nm : Nat), .bool dr] 100 (0, 0))) := ⟨hC02, hC12.heap K1.out.2.1 (fun h => h), hC12.heap K1.out.2.2.1 (fun h => h), hC12.heap K1.out.2.2.2.1 (fun h => h), t6⟩
  have KL6 : Hid (w.heap.size ≤ b6 ∧ w.heap.size + 1 < b5 ∧ w.heap.size ≤ b5) := by
    have z1 := K1.out.2.2.2.2.2.2.2
    have z2 := K1.out.1.size
    exact ⟨by omega, by omega, by omega⟩
  rw [← hW2, ← hb6]
  clear hW2 hb6 hC12 t6 hC02 hI2 hC1 hC2 hC3 hSg hlA hlB q0 q1 q2 q3 q4 y0 y1
  go_wp2_with fail
  go_at_call 39
  refine hOt.mono ?_
  rintro e W3 ⟨vals, acc, rfl, hTg, hacc, hone, hC23⟩
  obtain ⟨W4, hst, t8, hC34, hsz4⟩ := lay102 W3 vals hTg.1 hone
  have hz8 := zero102
  obtain ⟨b8, hb8⟩ : ∃ x, x = W3.heap.size := ⟨_, rfl⟩
  rw [← hb8] at hst t8
  obtain ⟨m, hm⟩ : ∃ m, m = acc.length := ⟨_, rfl⟩
  rw [← hm]
  have hC24 : Chg W2 W4 (fun _ => False) := hC23.trans hC34 (fun _ _ h => h)
  have K4 : Hid (Chg w W4 (fun _ => False) ∧ W4.heap[b5]? = some (.cells #[.int .u32 (s : Nat), .int .u32 (t : Nat)] 72 (0, 0)) ∧ W4.heap[w.heap.size]? = some (.cells #[.int .u32 (a : Nat), .bool wr] 37 (0, 0)) ∧ W4.heap[w.heap.size + 1]? = some (.cells #[.bool false, .bool false, .int .i64 0] 33 (0, 0)) ∧ W4.heap[b6]? = some (.cells #[.int .i64 (nm : Nat), .bool dr] 100 (0, 0)) ∧ W4.heap[b8]? = some (.cells vals 102 (0, 0)) ∧ TagsAt vals acc ∧ acc = (tags (st s)).take ((tags (st s)).idxOf t) ∧ m = acc.length) :=
    ⟨K2.out.1.trans hC24 (fun _ _ h => h), hC24.heap K2.out.2.1 (fun h => h), hC24.heap K2.out.2.2.1 (fun h => h), hC24.heap K2.out.2.2.2.1 (fun h => h), hC24.heap K2.out.2.2.2.2 (fun h => h), t8, hTg, hacc, hm⟩
  have HB : Hid (b8 = W3.heap.size) := hb8
  obtain ⟨q0, q1, q2, q3, q4⟩ := (K.out.1.kept K4.out.1 (fun _ _ h => h)).pcells
  clear hTg hacc hone hC23 hC34 hC24 hm hOt t8 x6 x7 y0' y1' hsz4
  have hcs := acc_ways (st s) C acc t ways hw1 (K.out.2.2.1 s) KD.out K4.out.2.2.2.2.2.2.2.1 bf KB.out
  have eh : hit = hitL (st s) t := by rw [K.out.2.2.2.2.2.1]; unfold hitA; rw [← K.out.2.2.2.1, ← K.out.2.2.2.2.1]
  have eb : back = backL (st s) t ways := by rw [K.out.2.2.2.2.2.2]; unfold backA; rw [← K.out.2.2.2.1, ← K.out.2.2.2.2.1]
  rw [← eh, ← eb, ← K4.out.2.2.2.2.2.2.2.2] at hcs
  clear eh eb
  rcases hcs with ⟨h1, h2, h3, hmw⟩ | ⟨h1, hmw, x, hx, h3, h4⟩ | ⟨h1, h2, h3, hmw⟩
  · have hne : ((m : Int) == (ways : Int)) = false := by simp; omega
    subst h1 h2
    go_upto_if 51 with (first | (refine wpList_alloc_zero _ rfl 102 _ rfl (hz8 _) ?_; rw [← HB.out]) | refine wpList_store_row rfl 102 (.tmp 8) (.tmp 37) rfl b8 0 vals rfl rfl W4 hst ?_)
    go_cut [11, 12] from 14 (fun s11 s12 wx => s11 = .bool true ∧ s12 = .bool false ∧ Chg W4 wx (fun _ => False))
    case rest =>
      rename_i hK
      obtain ⟨rfl, rfl, hcw⟩ := hcut
      exact hK _ _ (ptail w wc P M g uc sets ways line p st (K.out.1.kept (K4.out.1.trans hcw (fun _ _ h => h)) (fun _ _ h => h)) K.out.2.1 K.out.2.2.1 hn a s t nm wr _ _ dr K.out.2.2.2.1 K.out.2.2.2.2.1 K.out.2.2.2.2.2.1 K1.out.2.2.2.2.2.1 hsl htl hw1 w.heap.size (w.heap.size + 1) b5 b6 (hcw.heap K4.out.2.2.1 (fun h => h)) (hcw.heap K4.out.2.2.2.1 (fun h => h)) (hcw.heap K4.out.2.1 (fun h => h)) (hcw.heap K4.out.2.2.2.2.1 (fun h => h)) (K4.out.1.trans hcw (fun _ _ h => h)) hPl (Nat.le_refl _) (by omega) KL6.out.2.2 KL6.out.1 (by have := KL6.out.2.1; omega) _ _ _ _ _ _ _ _ _ _ _ _ _ _ _ _ _ _ _ _ _ _ _ _ _ _ _ _ _ _ _ _ _ _ _ _ _ _ _ _ _ _ _ _ _ _ _ _ _ _ _ _ _ _ _ _ _ _ _ _ _ _ _ _ _ _ _ _ _ _ _ _ _ _ _ _ _ _ _ _ _ _ _ _ _ _ _ _ _ _ _ _ _ _ _ _ _ _ _ _ _ _ _ _ _ _ _ _ _ _ _ _ _)
    case first =>
      go_wp2
      go_meet
      case rel => exact ⟨rfl, rfl, Chg.refl _ _⟩
  · have hne : ((m : Int) == (ways : Int)) = true := by simp; omega
    obtain ⟨gs, bk⟩ := x
    simp only at h3 h4
    subst h1
    replace h4 := h4.symm
    subst h4
    obtain ⟨k, hk⟩ : ∃ k, k = ways - 1 := ⟨_, rfl⟩
    have e1 : IntKind.i64.wrap ((m : Int) - 1) = (k : Int) := by simp [IntKind.wrap, IntKind.bits, IntKind.signed]; omega
    have hk8 : (k : Int) < 8 := by omega
    obtain ⟨kk, hkk⟩ := K.out.2.1.drt s (gs, bk) hx
    have hgs := K32.out s (gs, bk) hx
    have hlk := ((K.out.1.kept K4.out.1 (fun _ _ h => h)).map.kept (Chg.refl W4 (fun _ => False)).drew (fun h => h)).look s gs (by omega) hgs
    rw [hkk] at hlk
    simp only [luV, kV, numO, drtO] at hlk
    have hfd := field100
    obtain ⟨y0, y1, _, _⟩ := cells2 K4.out.2.1
    have c8 : W4.cell? ⟨W3.heap.size, k, none⟩ = some (.int .u32 (gs : Nat)) := by
      rw [← HB.out, (cells_at K4.out.2.2.2.2.2.1 _).1]
      have hl2 : k < acc.length := by have := K4.out.2.2.2.2.2.2.2.2; omega
      rw [K4.out.2.2.2.2.2.2.1.2.2 k hl2]
      rw [← hk, List.getElem?_eq_getElem hl2] at h3
      simp at h3
      rw [h3]
    have c8' : W4.cell? ⟨W3.heap.size, ways - 1, none⟩ = some (.int .u32 (gs : Nat)) := by rw [← hk]; exact c8
    clear hkk hk h3 hx hgs c8
    by_cases hbf : bf = true
    · go_upto_if 51 with (first | (refine wpList_alloc_zero _ rfl 102 _ rfl (hz8 _) ?_; rw [← HB.out]) | refine wpList_store_row rfl 102 (.tmp 8) (.tmp 37) rfl b8 0 vals rfl rfl W4 hst ?_)
      go_cut [11, 12] from 14 (fun s11 s12 wx => s11 = .bool false ∧ s12 = .bool bk ∧ Chg W4 wx (fun _ => False))
      case rest =>
        rename_i hK
        obtain ⟨rfl, rfl, hcw⟩ := hcut
        exact hK _ _ (ptail w wc P M g uc sets ways line p st (K.out.1.kept (K4.out.1.trans hcw (fun _ _ h => h)) (fun _ _ h => h)) K.out.2.1 K.out.2.2.1 hn a s t nm wr _ _ dr K.out.2.2.2.1 K.out.2.2.2.2.1 K.out.2.2.2.2.2.1 K1.out.2.2.2.2.2.1 hsl htl hw1 w.heap.size (w.heap.size + 1) b5 b6 (hcw.heap K4.out.2.2.1 (fun h => h)) (hcw.heap K4.out.2.2.2.1 (fun h => h)) (hcw.heap K4.out.2.1 (fun h => h)) (hcw.heap K4.out.2.2.2.2.1 (fun h => h)) (K4.out.1.trans hcw (fun _ _ h => h)) hPl (Nat.le_refl _) (by omega) KL6.out.2.2 KL6.out.1 (by have := KL6.out.2.1; omega) _ _ _ _ _ _ _ _ _ _ _ _ _ _ _ _ _ _ _ _ _ _ _ _ _ _ _ _ _ _ _ _ _ _ _ _ _ _ _ _ _ _ _ _ _ _ _ _ _ _ _ _ _ _ _ _ _ _ _ _ _ _ _ _ _ _ _ _ _ _ _ _ _ _ _ _ _ _ _ _ _ _ _ _ _ _ _ _ _ _ _ _ _ _ _ _ _ _ _ _ _ _ _ _ _ _ _ _ _ _ _ _ _)
      case first =>
        go_wp2_with fail
        go_region
        go_wp2
        go_meet
        case rel => exact ⟨rfl, rfl, (Chg.refl _ _).drew⟩
    · have hbf' : bf = false := by simpa using hbf
      clear hbf
      go_upto_if 51 with (first | (refine wpList_alloc_zero _ rfl 102 _ rfl (hz8 _) ?_; rw [← HB.out]) | refine wpList_store_row rfl 102 (.tmp 8) (.tmp 37) rfl b8 0 vals rfl rfl W4 hst ?_)
      go_cut [11, 12] from 14 (fun s11 s12 wx => s11 = .bool false ∧ s12 = .bool bk ∧ Chg W4 wx (fun _ => False))
      case rest =>
        rename_i hK
        obtain ⟨rfl, rfl, hcw⟩ := hcut
        exact hK _ _ (ptail w wc P M g uc sets ways line p st (K.out.1.kept (K4.out.1.trans hcw (fun _ _ h => h)) (fun _ _ h => h)) K.out.2.1 K.out.2.2.1 hn a s t nm wr _ _ dr K.out.2.2.2.1 K.out.2.2.2.2.1 K.out.2.2.2.2.2.1 K1.out.2.2.2.2.2.1 hsl htl hw1 w.heap.size (w.heap.size + 1) b5 b6 (hcw.heap K4.out.2.2.1 (fun h => h)) (hcw.heap K4.out.2.2.2.1 (fun h => h)) (hcw.heap K4.out.2.1 (fun h => h)) (hcw.heap K4.out.2.2.2.2.1 (fun h => h)) (K4.out.1.trans hcw (fun _ _ h => h)) hPl (Nat.le_refl _) (by omega) KL6.out.2.2 KL6.out.1 (by have := KL6.out.2.1; omega) _ _ _ _ _ _ _ _ _ _ _ _ _ _ _ _ _ _ _ _ _ _ _ _ _ _ _ _ _ _ _ _ _ _ _ _ _ _ _ _ _ _ _ _ _ _ _ _ _ _ _ _ _ _ _ _ _ _ _ _ _ _ _ _ _ _ _ _ _ _ _ _ _ _ _ _ _ _ _ _ _ _ _ _ _ _ _ _ _ _ _ _ _ _ _ _ _ _ _ _ _ _ _ _ _ _ _ _ _ _ _ _ _)
      case first =>
        go_wp2_with fail
        go_region
        go_wp2
        go_meet
        case rel => exact ⟨rfl, rfl, (Chg.refl _ _).drew⟩
  · have hne : ((m : Int) == (ways : Int)) = false := by simp; omega
    subst h1 h2
    go_upto_if 51 with (first | (refine wpList_alloc_zero _ rfl 102 _ rfl (hz8 _) ?_; rw [← HB.out]) | refine wpList_store_row rfl 102 (.tmp 8) (.tmp 37) rfl b8 0 vals rfl rfl W4 hst ?_)
    go_cut [11, 12] from 14 (fun s11 s12 wx => s11 = .bool false ∧ s12 = .bool false ∧ Chg W4 wx (fun _ => False))
    case rest =>
      rename_i hK
      obtain ⟨rfl, rfl, hcw⟩ := hcut
      exact hK _ _ (ptail w wc P M g uc sets ways line p st (K.out.1.kept (K4.out.1.trans hcw (fun _ _ h => h)) (fun _ _ h => h)) K.out.2.1 K.out.2.2.1 hn a s t nm wr _ _ dr K.out.2.2.2.1 K.out.2.2.2.2.1 K.out.2.2.2.2.2.1 K1.out.2.2.2.2.2.1 hsl htl hw1 w.heap.size (w.heap.size + 1) b5 b6 (hcw.heap K4.out.2.2.1 (fun h => h)) (hcw.heap K4.out.2.2.2.1 (fun h => h)) (hcw.heap K4.out.2.1 (fun h => h)) (hcw.heap K4.out.2.2.2.2.1 (fun h => h)) (K4.out.1.trans hcw (fun _ _ h => h)) hPl (Nat.le_refl _) (by omega) KL6.out.2.2 KL6.out.1 (by have := KL6.out.2.1; omega) _ _ _ _ _ _ _ _ _ _ _ _ _ _ _ _ _ _ _ _ _ _ _ _ _ _ _ _ _ _ _ _ _ _ _ _ _ _ _ _ _ _ _ _ _ _ _ _ _ _ _ _ _ _ _ _ _ _ _ _ _ _ _ _ _ _ _ _ _ _ _ _ _ _ _ _ _ _ _ _ _ _ _ _ _ _ _ _ _ _ _ _ _ _ _ _ _ _ _ _ _ _ _ _ _ _ _ _ _ _ _ _ _)
    case first =>
      go_wp2
      go_meet
      case rel => exact ⟨rfl, rfl, Chg.refl _ _⟩
end Go.Proofs.Ytppcfofkneaigaa
