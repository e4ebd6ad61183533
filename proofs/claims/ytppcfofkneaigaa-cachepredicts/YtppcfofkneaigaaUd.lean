import Derived.Test.YtppcfofkneaigaaWd
namespace Go.Proofs.Ytppcfofkneaigaa
open Go.ChangeShapes Go.WideShapes Go.ChangeAt Go.RowKit
set_option linter.unusedVariables false

/-- The states behind the first uses, and what each came to. -/
def runS (sets ways line : Nat) (st : Nat → List Ln) (F : Nat → Nat × Bool) : Nat → Nat → List Ln
  | 0 => st
  | n + 1 => accS sets ways line (runS sets ways line st F n) (F n).1 (F n).2
def tch (sets ways line : Nat) (st : Nat → List Ln) (F : Nat → Nat × Bool) (i : Nat) : Bool × Bool :=
  (hitA sets line (runS sets ways line st F i) (F i).1, backA sets ways line (runS sets ways line st F i) (F i).1)
def tCells (x : Bool × Bool) : List Value := [.bool x.1, .bool x.2, .int .i64 (cyc x.1 x.2)]
def tList (f : Nat → Bool × Bool) : Nat → List Value
  | 0 => []
  | n + 1 => tList f n ++ tCells (f n)
theorem tList_len (f : Nat → Bool × Bool) : ∀ n, (tList f n).length = n * 3
  | 0 => rfl
  | n + 1 => by simp [tList, tList_len f n, tCells]; omega
theorem tList_get (f : Nat → Bool × Bool) : ∀ n i q, i < n → q < 3 → (tList f n)[i * 3 + q]? = (tCells (f i))[q]?
  | 0, i, q, h, _ => by omega
  | n + 1, i, q, h, hq => by
    have hl := tList_len f n
    by_cases e : i = n
    · subst e
      rw [tList, List.getElem?_append_right (by omega), hl]
      congr 1; omega
    · rw [tList, List.getElem?_append_left (by omega)]
      exact tList_get f n i q (by omega) hq

theorem info33 : (Try.prog.info? 33).map (fun i => (i.zero, i.size, i.bytes)) = some (some (.agg #[.bool false, .bool false, .int .i64 0]), 3, 16) := by kernel_rfl

/-- What came of an access onto a list. -/
theorem run_appT (w : World) (v : Value) (n : Nat) (xs : List Value) (hown : w.ownsRow 0 33 3 v n xs) (x : Bool × Bool) (hn : n ≤ 2000000) :
    ∃ v' w', (Builtin.append_ #[39, 39] 39 #[v, .slice (some ⟨w.heap.size, 0, none⟩) 1 1]).run Try.prog (w.alloc (.cells #[.bool x.1, .bool x.2, .int .i64 (cyc x.1 x.2)] 33)) = .ok v' w' ∧ w'.ownsRow 0 33 3 v' (n + 1) (xs ++ tCells x) ∧ (w.alloc (.cells #[.bool x.1, .bool x.2, .int .i64 (cyc x.1 x.2)] 33)).grownBy w' v.ownBlock ∧ Loc (w.alloc (.cells #[.bool x.1, .bool x.2, .int .i64 (cyc x.1 x.2)] 33)) v v' := by
  obtain ⟨i0, hi, hz0, hz1, hz2⟩ := info_parts info33
  have hown2 := ((Chg.refl w (fun _ => False)).alloc (.cells #[.bool x.1, .bool x.2, .int .i64 (cyc x.1 x.2)] 33)).owns hown (fun _ _ h => h)
  refine run_app (P := Try.prog) _ 39 39 33 i0 (.agg #[.bool false, .bool false, .int .i64 0]) 3 16 Try.underlying39 hi hz0 hz1 hz2 rfl (by decide) v n xs hown2 (some ⟨w.heap.size, 0, none⟩) 1 1 (tCells x) rfl (.inr ⟨_, _, rfl, ?_⟩) ?_ (by simp [maxLen]; omega) (by omega)
  · intro j u hu
    have hj : j < 3 := (List.getElem?_eq_some_iff.1 hu).1
    have hc := (cells_at (heap_alloc_new w (.cells #[.bool x.1, .bool x.2, .int .i64 (cyc x.1 x.2)] 33)) (0 + j)).1
    rw [hc, ← hu]
    match j, hj with
    | 0, _ => rfl
    | 1, _ => rfl
    | 2, _ => rfl
  · intro u hu
    simp [tCells] at hu
    rcases hu with rfl | rfl | rfl <;> rfl

/-- A list of what accesses came to. -/
structure Ts (w : World) (base : Nat) (v : Value) (n : Nat) (f : Nat → Bool × Bool) : Prop where
  row : w.ownsRow 0 33 3 v n (tList f n)
  fresh : ∀ k, v.ownBlock = some k → base ≤ k
theorem Ts.kept {w w' : World} {base : Nat} {v : Value} {n : Nat} {f : Nat → Bool × Bool} {S : Nat → Prop} (h : Ts w base v n f) (hc : Chg w w' S) (hS : ∀ k, base ≤ k → k < w.heap.size → ¬ S k) : Ts w' base v n f := by
  refine ⟨hc.owns h.row (fun k hk => ?_), h.fresh⟩
  refine hS k (h.fresh k hk) ?_
  rcases h.row.2 with ⟨rfl, _⟩ | ⟨g, cap, cur, rfl, _, hg, _⟩
  · cases hk
  · simp [Value.ownBlock] at hk; subst hk; exact (Array.getElem?_eq_some_iff.1 hg).1
theorem Ts.not33 {w : World} {base : Nat} {v : Value} {n : Nat} {f : Nat → Bool × Bool} (h : Ts w base v n f) {B sets ways line : Nat} {st : Nat → List Ln} (hI : IsC w B sets ways line st) : v.ownBlock ≠ some B := by
  intro e
  obtain ⟨arr, h1, _⟩ := hI.ex
  rcases h.row.2 with ⟨rfl, _⟩ | ⟨g, cap, cur, rfl, _, hg, _⟩
  · cases e
  · simp [Value.ownBlock] at e; subst e; rw [h1] at hg; simp at hg

set_option maxHeartbeats 2000000 in
set_option maxRecDepth 10000 in
theorem used_any (w : World) (B sets ways line : Nat) (st : Nat → List Ln) (hI : IsC w B sets ways line st) (a : Option Addr) (len cap : Nat) (F : Nat → Nat × Bool) (hU : UsesIn w a len F) (hap : ∀ b off, a = some ⟨b, off, none⟩ → 0 < len → b ≠ B) (hlen : len ≤ 1048576) :
    Calls Try.prog 14 #[.pointer (some ⟨B, 0, none⟩), .slice a len cap] w fun e w' => ∃ v, e = .returned v ∧ Ts w' w.heap.size v len (tch sets ways line st F) ∧ IsC w' B sets ways line (runS sets ways line st F len) ∧ Chg w w' (fun k => k = B) := by
  have K : Hid (UsesIn w a len F ∧ (∀ b off, a = some ⟨b, off, none⟩ → 0 < len → b ≠ B) ∧ IsC w B sets ways line st) := ⟨hU, hap, hI⟩
  have hBw := hI.lt
  clear hU hap hI
  go_enter Try.func14, Try.ntmps14
  go_wp2
  go_loopw [5, 6] (fun sl i wr => ∃ (lv : Value) (j : Nat), lv = sl ∧ j ≤ len ∧ i = .int .i64 j ∧ Ts wr w.heap.size lv j (tch sets ways line st F) ∧ IsC wr B sets ways line (runS sets ways line st F j) ∧ Chg w wr (fun k => k = B)) (fun _ i _ => len - (intOf i).toNat)
  case atStart => exact ⟨_, 0, rfl, by omega, rfl, ⟨World.ownsRow_nil _ _ _ _, fun k hk => by cases hk⟩, K.out.2.2, Chg.refl _ _⟩
  case round =>
    obtain ⟨lv, j, rfl, hj, rfl, hTs, hI, hC⟩ := hrel
    by_cases hlt : j < len
    · obtain ⟨b, off, rfl, hbw, hcell⟩ := K.out.1.src.resolve_left (by omega)
      have hbB := K.out.2.1 b off rfl (by omega)
      have hbr : b < wr.heap.size := Nat.lt_of_lt_of_le hbw hC.size
      have c0 := (hC.cell (o := off + j * 2) hbw (show ¬ b = B from hbB)).trans (hcell j hlt).1
      have c1 := (hC.cell (o := off + j * 2 + 1) hbw (show ¬ b = B from hbB)).trans (hcell j hlt).2
      have hFl := K.out.1.lt j hlt
      have hA := fun V (hV : Chg wr V (fun _ => False)) => acc_any V B sets ways line _ (hI.kept hV (fun h => h)) (F j).1 hFl (F j).2
      have eS : accS sets ways line (runS sets ways line st F j) (F j).1 (F j).2 = runS sets ways line st F (j + 1) := rfl
      have eH : hitA sets line (runS sets ways line st F j) (F j).1 = (tch sets ways line st F j).1 := rfl
      have eB : backA sets ways line (runS sets ways line st F j) (F j).1 = (tch sets ways line st F j).2 := rfl
      rw [eS, eH, eB] at hA
      generalize hX : tch sets ways line st F j = X at hA
      obtain ⟨hit, back⟩ := X
      have hBl := hI.lt
      have KI : Hid (Ts wr w.heap.size lv j (tch sets ways line st F) ∧ IsC wr B sets ways line (runS sets ways line st F j) ∧ Chg w wr (fun k => k = B) ∧ tch sets ways line st F j = (hit, back)) := ⟨hTs, hI, hC, hX⟩
      clear hTs hI hC hX hcell eS eH eB
      generalize (F j).1 = ad at *
      generalize (F j).2 = wb at *
      have hca := (Chg.refl wr (fun _ => False)).drew
      have hcb := ((Chg.refl wr (fun _ => False)).alloc (.cells #[.bool false, .bool false, .int .i64 0] 33)).drew
      go_wp2_with fail
      apply of_leaf2 (Leaf wr B sets ways line (runS sets ways line st F (j + 1)) hit back)
      rotate_left
      · intro hT
        go_region_with (go_at_call 13; refine (hA _ (by first | exact hca | exact hcb)).mono ?_; rintro e w5 ⟨rfl, hI5, hC5⟩; (try (obtain ⟨x0, x1, x2, x3, x4, x5⟩ := cells3 (hC5.heap (heap_alloc_new wr _) (show ¬ wr.heap.size = B by omega)))))
        all_goals first
          | (obtain ⟨w6, hw6⟩ : ∃ x, x = w5.alloc (.cells #[.bool hit, .bool back, .int .i64 (cyc hit back)] 33) := ⟨_, rfl⟩
             obtain ⟨p, hp⟩ : ∃ p, p = w5.heap.size := ⟨_, rfl⟩
             rw [← hw6, ← hp]
             exact hT p w6 (leafA hw6 hp hI5 hC5))
          | (obtain ⟨p, hp⟩ : ∃ p, p = wr.heap.size := ⟨_, rfl⟩
             rw [← hp]
             obtain ⟨w6, hw6⟩ : ∃ x, x = ((w5.setCell ⟨p, 0, none⟩ (.bool hit)).setCell ⟨p, 1, none⟩ (.bool back)).setCell ⟨p, 2, none⟩ (.int .i64 (cyc hit back)) := ⟨_, rfl⟩
             rw [← hw6]
             exact hT p w6 (leafB hp hw6 hBl hI5 hC5))
      clear hA hca hcb
      intro p w6 hL
      obtain ⟨y0, y1, y2, _, _, _⟩ := cells3 hL.res
      have hTs := KI.out.1.kept (S := fun k => k = B) hL.chg (fun k h1 _ e => by omega)
      obtain ⟨v', w', hr, h1, h2, h3⟩ := run_appT w6 lv j _ hTs.row (hit, back) (by omega)
      have KR : Hid (Ts w' w.heap.size v' (j + 1) (tch sets ways line st F) ∧ IsC w' B sets ways line (runS sets ways line st F (j + 1)) ∧ Chg w w' (fun k => k = B)) := by
        have hg : Chg w6 w' (fun k => lv.ownBlock = some k) := ((Chg.refl w6 _).alloc _).grown h2 (fun k e => .inl e)
        refine ⟨⟨?_, ?_⟩, hL.isc.kept hg (hTs.not33 hL.isc), (KI.out.2.2.1.trans hL.chg (fun _ _ h => h)).trans hg (fun k hk e => ?_)⟩
        · simp only [tList, KI.out.2.2.2]; exact h1
        · intro k hk
          rcases h3 with e | ⟨k', e, hk'⟩
          · rw [e] at hk; exact hTs.fresh k hk
          · rw [e] at hk
            have s1 := KI.out.2.2.1.size
            have s2 := hL.chg.size
            simp at hk hk'; omega
        · have := hTs.fresh k e; omega
      clear hL hTs h1 h2 h3 KI
      go_wp2_with (at_builtin; refine wpList_append_run _ rfl (.tmp 26) (.tmp 28) 39 39 rfl _ _ v' w' rfl rfl hr ?_)
      exact ⟨⟨_, j + 1, rfl, by omega, by go_num, KR.out⟩, by simp [intOf]; omega⟩
    · have : j = len := by omega
      subst this
      go_wp2
      go_ret
      exact ⟨_, rfl, hTs, hI, hC⟩
end Go.Proofs.Ytppcfofkneaigaa
