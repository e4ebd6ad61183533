import Derived.Test.YtggjfbfilidgoaaMy
import Derived.Test.YtggjfbfilidgoaaLh
namespace Go.Proofs.Ytggjfbfilidgoaa
open Go.ChangeShapes Go.WideShapes Go.ChangeAt Go.RowKit
set_option linter.unusedVariables false

/-- Many memories, in a list. -/
structure Ms (w : World) (base v : Nat) (lv : Value) (n : Nat) (Bf Mn : Nat → Nat) (ff : Nat → Nat → Option Nat) (mf : Nat → Nat → Nat) : Prop where
  mem : ∀ i, i < n → IsM w (Bf i) (Mn i) (1 + i % 7) (ff i) (mf i) ∧ ldN (mf i) 8 4 = (v + i) % 4294967296
  row : w.ownsRow 0 24 1 lv n ((List.range n).map fun i => ptrTo (Bf i))
  fresh : ∀ k, lv.ownBlock = some k → base ≤ k

theorem Ms.kept {w w' : World} {base v : Nat} {lv : Value} {n : Nat} {Bf Mn : Nat → Nat} {ff : Nat → Nat → Option Nat} {mf : Nat → Nat → Nat} {S : Nat → Prop} (h : Ms w base v lv n Bf Mn ff mf) (hc : Chg w w' S) (hS : ∀ k, k < w.heap.size → ¬ S k) : Ms w' base v lv n Bf Mn ff mf := by
  refine ⟨fun i hi => ⟨(h.mem i hi).1.other hc (fun k hk => hS k ((h.mem i hi).1.lt k hk)), (h.mem i hi).2⟩, hc.owns h.row ?_, h.fresh⟩
  intro k hk
  refine hS k ?_
  rcases h.row.2 with ⟨rfl, _⟩ | ⟨g, cap, cur, rfl, _, hg, _⟩
  · cases hk
  · simp [Value.ownBlock] at hk; subst hk; exact (Array.getElem?_eq_some_iff.1 hg).1

theorem IsM.no24 {w : World} {B M pages : Nat} {f : Nat → Option Nat} {m : Nat → Nat} (h : IsM w B M pages f m) {cur : Array Value} {g : Nat} (hg : w.heap[g]? = some (.cells cur 24 (0, 0))) : ¬ Mf B M f g := by
  rintro (rfl | rfl | ⟨p, hp⟩)
  · have := h.box; rw [hg] at this; simp at this
  · obtain ⟨es, c, hh⟩ := h.map.heap; rw [hh] at hg; cases hg
  · have := (h.page p g hp).2; rw [hg] at this; simp at this

def setAt {α : Type} (g : Nat → α) (n : Nat) (x : α) : Nat → α := fun i => if i = n then x else g i
theorem setAt_lt {α : Type} {g : Nat → α} {n : Nat} {x : α} {i : Nat} (h : i < n) : setAt g n x i = g i := by simp [setAt]; omega
theorem setAt_same {α : Type} (g : Nat → α) (n : Nat) (x : α) : setAt g n x n = x := by simp [setAt]

theorem Ms.more {w : World} {base v : Nat} {lv : Value} {n : Nat} {Bf Mn : Nat → Nat} {ff : Nat → Nat → Option Nat} {mf : Nat → Nat → Nat} (h : Ms w base v lv n Bf Mn ff mf) (hn : n ≤ 1000000) (hbase : base ≤ w.heap.size)
    {B M : Nat} {f : Nat → Option Nat} {m : Nat → Nat} (hI : IsM w B M (1 + n % 7) f m) (hl : ldN m 8 4 = (v + n) % 4294967296) :
    ∃ v' w', (Builtin.append_ #[34, 34] 34 #[lv, .slice (some ⟨w.heap.size, 0, none⟩) 1 1]).run Try.prog (w.alloc (.cells #[ptrTo B] 24)) = .ok v' w' ∧ Ms w' base v v' (n + 1) (setAt Bf n B) (setAt Mn n M) (setAt ff n f) (setAt mf n m) ∧ Chg w w' (fun k => base ≤ k) := by
  obtain ⟨v', w', hr, h1, h2, h3⟩ := run_appM w lv n _ h.row B hn
  have hC : Chg w w' (fun k => lv.ownBlock = some k) := ((Chg.refl w _).alloc _).grown h2 (fun k e => .inl e)
  have no : ∀ {B M pages : Nat} {f : Nat → Option Nat} {m : Nat → Nat}, IsM w B M pages f m → IsM w' B M pages f m := by
    intro B M pages f m hI
    refine hI.other hC (fun k hk e => ?_)
    rcases h.row.2 with ⟨rfl, _⟩ | ⟨g, cap, cur, rfl, _, hg, _⟩
    · cases e
    · simp [Value.ownBlock] at e; subst e; exact hI.no24 hg hk
  refine ⟨v', w', hr, ⟨?_, ?_, ?_⟩, hC.mono (fun i _ e => h.fresh i e)⟩
  · intro i hi
    by_cases e : i = n
    · subst e; simp only [setAt_same]; exact ⟨no hI, hl⟩
    · have hlt : i < n := by omega
      simp only [setAt_lt hlt]
      exact ⟨no (h.mem i hlt).1, (h.mem i hlt).2⟩
  · have e : (List.range (n + 1)).map (fun i => ptrTo (setAt Bf n B i)) = ((List.range n).map fun i => ptrTo (Bf i)) ++ [ptrTo B] := by
      have e1 : (List.range n).map (fun i => ptrTo (setAt Bf n B i)) = (List.range n).map fun i => ptrTo (Bf i) := by
        apply List.map_congr_left
        intro i hi
        rw [setAt_lt (by simpa using hi)]
      rw [List.range_succ, List.map_append, e1, List.map_singleton, setAt_same]
    rw [e]; exact h1
  · intro k hk
    rcases h3 with e | ⟨k', e, hk'⟩
    · rw [e] at hk; exact h.fresh k hk
    · rw [e] at hk; simp at hk hk'; omega

set_option maxHeartbeats 1000000 in
set_option maxRecDepth 100000 in
theorem many_walk (w : World) (many : Int) (v : Nat) (h1 : InI many) (hv : v < 4294967296) :
    Calls Try.prog 4 #[.int .i64 many, .int .u32 v] w fun e w' => e = .returned (.bool true) ∧ Below w.heap.size w w' := by
  have hn := mptr_nil_no
  have P1 : ∀ w, Calls Try.prog 11 #[.int .i64 many, .int .i64 100] w fun e w' => e = .returned (.int .i64 (pk many 100 : Nat)) ∧ w' = w := fun w => pick_any w many 100 (by omega) (by omega) h1.1 h1.2
  have l1 := pk_lt many 100 (by omega)
  generalize pk many 100 = n at P1 l1
  clear h1
  go_enter Try.func4, Try.ntmps4
  go_wp2_with fail
  go_at_call 9
  refine (works_any w).mono ?_
  rintro e w1 ⟨rfl, hC1⟩
  go_wp2_with fail
  go_at_call 11
  refine (P1 _).mono ?_
  rintro e w2 ⟨rfl, rfl⟩
  have K : Hid (Chg w w2 (fun _ => False)) := hC1
  clear hC1
  go_wp2
  go_loopw [7, 8] (fun sl i wr => ∃ (lv : Value) (j : Nat) (Bf Mn : Nat → Nat) (ff : Nat → Nat → Option Nat) (mf : Nat → Nat → Nat), lv = sl ∧ j ≤ n + 1 ∧ i = .int .i64 j ∧ Ms wr w.heap.size v lv j Bf Mn ff mf ∧ Chg w wr (fun _ => False)) (fun _ i _ => n + 1 - (intOf i).toNat)
  case atStart => exact ⟨_, 0, fun _ => 0, fun _ => 0, fun _ _ => none, fun _ _ => 0, rfl, by omega, rfl, ⟨fun i hi => by omega, World.ownsRow_nil _ _ _ _, fun k hk => by cases hk⟩, K.out⟩
  case round =>
    obtain ⟨lv, j, Bf, Mn, ff, mf, rfl, hj, rfl, hM, hC⟩ := hrel
    have HM : Hid (Ms wr w.heap.size v lv j Bf Mn ff mf ∧ Chg w wr (fun _ => False)) := ⟨hM, hC⟩
    clear hM hC
    by_cases hlt : j < n + 1
    · obtain ⟨x, hx⟩ : ∃ x : Nat, x = (v + j) % 4294967296 := ⟨_, rfl⟩
      have hxl : x < 4294967296 := by omega
      have ex : IntKind.u32.wrap ((v : Int) + (j : Int)) = (x : Int) := by rw [wrap_u32]; omega
      have hNew : Calls Try.prog 10 #[.int .i64 (1 + (j : Int) % 7)] wr _ := new_ok wr (1 + j % 7) (by omega) (by omega)
      have HX : Hid (x = (v + j) % 4294967296) := hx
      clear hx
      go_wp2_with fail
      go_at_call 10
      refine hNew.mono ?_
      rintro e wa ⟨B, M, rfl, hI, hB, hMM, hCa⟩
      have hS := store_ok wa B M (1 + j % 7) _ _ hI 8 4 x (by omega) (by omega) (by omega) hxl
      have K1 : Hid (Chg wr wa (fun _ => False) ∧ wr.heap.size ≤ B ∧ wr.heap.size ≤ M) := ⟨hCa, hB, hMM⟩
      clear hI hB hMM hCa hNew
      go_wp2_with fail
      go_at_call 12
      refine hS.mono ?_
      rintro e wb ⟨f', rfl, hI, hCb, hF⟩
      have hCC : Chg wr wb (fun _ => False) := K1.out.1.trans hCb (fun i hi e => by
        obtain ⟨_, q2, q3⟩ := K1.out
        rcases e with rfl | rfl | ⟨p, hp⟩
        · omega
        · omega
        · cases hp)
      have hMs := HM.out.1.kept hCC (fun _ _ h => h)
      obtain ⟨v', w', hr, hMs', hCw⟩ := hMs.more (by omega) (by have := HM.out.2.size; have := hCC.size; omega) hI ((ld_st_same _ _ _ hxl).trans HX.out)
      simp only [ptrTo] at hr
      have K3 : Hid (Ms w' w.heap.size v v' (j + 1) (setAt Bf j B) (setAt Mn j M) (setAt ff j f') (setAt mf j (stN (fun _ => 0) 8 x 4)) ∧ Chg w w' (fun _ => False)) :=
        ⟨hMs', (HM.out.2.trans hCC (fun _ _ h => h)).trans hCw (fun i hi h => by omega)⟩
      clear hS hMs hMs' hCw hCC hI hCb hF
      go_wp2_with (at_builtin; refine wpList_append_run _ rfl (.tmp 44) (.tmp 46) 34 34 rfl _ _ v' w' rfl rfl hr ?_)
      go_roundw
      case rel => exact ⟨_, j + 1, _, _, _, _, rfl, by omega, by go_num, K3.out⟩
      case measure => simp [intOf]; omega
    · obtain ⟨g, cap, cur, rfl, _, hg, hnc, _⟩ := HM.out.1.row.2.resolve_left (by rintro ⟨_, h⟩; omega)
      go_wp2
      go_loop [11] (fun i => ∃ t : Nat, t ≤ n + 1 ∧ i = .int .i64 t) (fun i => n + 1 - (intOf i).toNat)
      case atStart => exact ⟨0, by omega, rfl⟩
      case round =>
        obtain ⟨t, ht, rfl⟩ := hrel
        by_cases htl : t < n + 1
        · have ck := HM.out.1.row.cellAt t (by omega)
          have ep : ((List.range j).map fun i => ptrTo (Bf i))[t]? = some (ptrTo (Bf t)) := by simp [show t < j by omega]
          rw [ep] at ck
          simp only [ptrTo] at ck
          have hI := (HM.out.1.mem t (by omega)).1
          have hLd := load_ok wr (Bf t) (Mn t) _ _ _ hI 8 4 (by omega) (by omega) (by omega)
          rw [(HM.out.1.mem t (by omega)).2] at hLd
          have hPg : Calls Try.prog 14 #[.pointer (some ⟨Bf t, 0, none⟩)] wr fun e w' => e = .returned (.int .i64 (1 + (t : Int) % 7)) ∧ w' = wr := pages_any wr (Bf t) (Mn t) _ _ _ hI
          obtain ⟨x, hx⟩ : ∃ x : Nat, x = (v + t) % 4294967296 := ⟨_, rfl⟩
          have ex : IntKind.u32.wrap ((v : Int) + (t : Int)) = (x : Int) := by rw [wrap_u32]; omega
          rw [← hx] at hLd
          obtain ⟨b, hb⟩ : ∃ b, b = Bf t := ⟨_, rfl⟩
          rw [← hb] at ck hLd hPg
          clear hx hI ep hb
          have hne : ((x : Int) != (x : Int)) = false := by simp
          have hne2 : ((1 + (t : Int) % 7) != (1 + (t : Int) % 7)) = false := by simp
          go_wp2_with (first | (go_at_call 13; refine hLd.mono ?_; rintro e wb ⟨rfl, rfl⟩) | (go_at_call 14; refine hPg.mono ?_; rintro e wb ⟨rfl, rfl⟩))
          go_round
          case rel => exact ⟨t + 1, by omega, by go_num⟩
          case measure => simp [intOf]; omega
        · go_wp2
          go_ret
          exact ⟨rfl, HM.out.2.below (Nat.le_refl _) (fun _ _ h => h)⟩
end Go.Proofs.Ytggjfbfilidgoaa
