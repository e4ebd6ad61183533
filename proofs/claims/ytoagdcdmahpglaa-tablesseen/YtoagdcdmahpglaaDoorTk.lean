import Derived.Test.YtoagdcdmahpglaaDoorTi
import Derived.Test.YtoagdcdmahpglaaDoorTw
namespace Go.Proofs.YtoagdcdmahpglaaDoor
open Go.ChangeShapes Go.WideShapes Go.ChangeAt Go.RowKit
set_option linter.unusedVariables false

theorem stN_at (m : Nat → Nat) (at_ v j x : Nat) : stN m at_ v j x = if at_ ≤ x ∧ x < at_ + j then leB v (x - at_) else m x := by
  induction j with
  | zero => simp [stN]; omega
  | succ j ih =>
    rw [stN]; unfold upd
    by_cases e : x = at_ + j
    · subst e; simp
    · rw [if_neg e, ih]
      by_cases h : at_ ≤ x ∧ x < at_ + j
      · rw [if_pos h, if_pos (by omega)]
      · rw [if_neg h, if_neg (by omega)]
theorem leB_sum (v : Nat) (hv : v < 4294967296) : leB v 0 + 256 * leB v 1 + 65536 * leB v 2 + 16777216 * leB v 3 = v := by
  unfold leB
  have e0 : 2 ^ (8 * 0) = 1 := rfl
  have e1 : 2 ^ (8 * 1) = 256 := rfl
  have e2 : 2 ^ (8 * 2) = 65536 := rfl
  have e3 : 2 ^ (8 * 3) = 16777216 := rfl
  rw [e0, e1, e2, e3]; omega
theorem ldN_four (m : Nat → Nat) (a : Nat) : ldN m a 4 = m a + 256 * m (a + 1) + 65536 * m (a + 2) + 16777216 * m (a + 3) := by
  have e0 : 2 ^ (8 * 0) = 1 := rfl
  have e1 : 2 ^ (8 * 1) = 256 := rfl
  have e2 : 2 ^ (8 * 2) = 65536 := rfl
  have e3 : 2 ^ (8 * 3) = 16777216 := rfl
  simp only [ldN, e0, e1, e2, e3, Nat.add_zero]; omega
theorem ld_st_same (m : Nat → Nat) (a v : Nat) (hv : v < 4294967296) : ldN (stN m a v 4) a 4 = v := by
  rw [ldN_four]
  simp only [stN_at]
  rw [if_pos (by omega), if_pos (by omega), if_pos (by omega), if_pos (by omega)]
  have := leB_sum v hv
  simp only [Nat.sub_self, Nat.add_sub_cancel_left]
  exact this
theorem ld_st_other (m : Nat → Nat) (a b v : Nat) (h : b + 4 ≤ a ∨ a + 4 ≤ b) : ldN (stN m a v 4) b 4 = ldN m b 4 := by
  rw [ldN_four, ldN_four]
  simp only [stN_at]
  rw [if_neg (by omega), if_neg (by omega), if_neg (by omega), if_neg (by omega)]


theorem map_ok {n : Nat} {m : Nat → Nat} {root p0 pages taken : Nat} {sealed : Bool} {l : List Rv} {r : Int} {X : Option TS} (hm : ∀ r ∈ l, r.may) {st : PS} (hp : plS n m root (pgs l) ⟨fun _ => none, []⟩ (fun _ => false) = some st) (hr : roomE st.wl.length (pages - taken) sealed = 0) (h : MapR n m root p0 pages taken sealed l r X) : r = 0 ∧ X = some (tkAll p0 root st.wl ⟨m, taken, st.T⟩) := by
  cases h with
  | arg h => exact absurd hm h
  | there _ h => rw [h] at hp; cases hp
  | room _ st' h e he h0 =>
    rw [h] at hp; cases hp
    rw [hr] at he; exact absurd he.symm h0
  | ok _ st' h he =>
    rw [h] at hp; cases hp
    exact ⟨rfl, rfl⟩
/-- fresh: a memory and an arena of its pages. -/
theorem fresh_any (w : World) (n p0 k : Nat) (h1 : 1 ≤ n) (h2 : n ≤ 4096) (h3 : p0 + k ≤ n) :
    Calls Tryd.prog 10 #[.int .i64 n, .int .i64 p0, .int .i64 k] w fun e w' => ∃ B M A, e = .returned (.tuple #[.pointer (some ⟨B, 0, none⟩), .pointer (some ⟨A, 0, none⟩)]) ∧ IsM w' B M n (fun _ => none) (fun _ => 0) ∧ IsA w' A B p0 k 0 false ∧ w.heap.size ≤ B ∧ w.heap.size ≤ M ∧ w.heap.size ≤ A ∧ Chg w w' (fun _ => False) := by
  have hN := new_ok w n h1 h2
  have e1 : IntKind.u32.wrap (4096 * (p0 : Int)) = (4096 * p0 : Nat) := by rw [wrap_u32]; omega
  obtain ⟨ad, had⟩ : ∃ ad, ad = 4096 * p0 := ⟨_, rfl⟩
  rw [← had] at e1
  have HA : Hid (ad = 4096 * p0) := had
  clear had
  go_enter Tryd.func10, Tryd.ntmps10
  go_wp2_with (go_at_call 26; refine hN.mono ?_; rintro e w1 ⟨B, M, rfl, m1, b1, b2, c1⟩; have hA := anew_ok w1 B M n (fun _ => none) (fun _ => 0) m1 p0 k h3; rw [← HA.out] at hA)
  go_wp2_with (go_at_call 39; refine hA.mono ?_; rintro e w2 ⟨rfl, a2, c2, s2⟩)
  go_ret2
  exact ⟨B, M, w1.heap.size, rfl, m1.other c2 (fun _ _ x => x), a2, b1, b2, c1.size, c1.tr c2⟩
theorem fields97 : Tryd.prog.underlying 97 = some (.struct (Tryd.prog.fieldsOf 97)) := by simp [Program.fieldsOf, Tryd.underlying97]
theorem stood97 : Tryd.prog.stoodInHeld 97 = false := by kernel_rfl
theorem neq97 (a b x y : Int) (w : World) : (binOp BinOp.neq 97 (.agg #[.int .u32 a, .int .u32 b]) (.agg #[.int .u32 x, .int .u32 y])).run Tryd.prog w = .ok (.bool (!decide (a = x ∧ b = y))) w := by
  rw [run_neq_struct, run_equalIn_agg w 9999 97 _ _ fields97 stood97]
  simp [Program.fieldsOf, Tryd.underlying97, go_sem]
  by_cases h1 : a = x <;> by_cases h2 : b = y <;> simp [h1, h2]
/-- Steps in a row. -/
def SAt (w : World) (g : Nat) (l : List (Nat × Nat)) : Prop := ∀ i (hi : i < l.length), w.cell? ⟨g, i * 2, none⟩ = some (.int .u32 ((l[i].1 : Nat) : Int)) ∧ w.cell? ⟨g, i * 2 + 1, none⟩ = some (.int .u32 ((l[i].2 : Nat) : Int))
set_option maxRecDepth 10000 in
theorem sameSteps_eq (w : World) (g1 g2 c1 c2 : Nat) (l : List (Nat × Nat)) (h1 : SAt w g1 l) (h2 : SAt w g2 l) (hl : l.length ≤ 1000000) (hc1 : l.length ≤ c1) (hc2 : l.length ≤ c2) :
    Calls Tryd.prog 38 #[.slice (some ⟨g1, 0, none⟩) l.length c1, .slice (some ⟨g2, 0, none⟩) l.length c2] w fun e w' => e = .returned (.bool true) ∧ Chg w w' (fun _ => False) := by
  have H : Hid (SAt w g1 l ∧ SAt w g2 l) := ⟨h1, h2⟩
  clear h1 h2
  go_enter Tryd.func38, Tryd.ntmps38
  go_wp2
  go_loopw [5] (fun s5 wr => ∃ k : Nat, s5 = .int .i64 k ∧ k ≤ l.length ∧ Hid (Chg w wr (fun _ => False))) (fun s5 _ => l.length - (intOf s5).toNat)
  case atStart => exact ⟨0, rfl, by omega, Chg.refl _ _⟩
  case round =>
    obtain ⟨k, rfl, hk, HI⟩ := hrel
    by_cases hlt : k < l.length
    · obtain ⟨a0, a1⟩ := H.out.1 k hlt
      obtain ⟨b0, b1⟩ := H.out.2 k hlt
      have lta := World.block_lt_of_cell? w _ a0
      have ltb := World.block_lt_of_cell? w _ b0
      have a0' := (HI.out.cell lta (fun x => x)).trans a0
      have a1' := (HI.out.cell lta (fun x => x)).trans a1
      have b0' := (HI.out.cell ltb (fun x => x)).trans b0
      have b1' := (HI.out.cell ltb (fun x => x)).trans b1
      generalize l[k] = x at *
      obtain ⟨x, y⟩ := x
      simp only at a0' a1' b0' b1'
      have hne : ∀ w, (binOp BinOp.neq 97 (.agg #[.int .u32 (x : Nat), .int .u32 (y : Nat)]) (.agg #[.int .u32 (x : Nat), .int .u32 (y : Nat)])).run Tryd.prog w = .ok (.bool false) w := fun w => by rw [neq97]; simp
      have hkz : (k : Int) < (l.length : Int) := by omega
      clear a0 a1 b0 b1 lta ltb
      go_wp2_with fail
      go_quiet (fail)
      go_wp2
      exact ⟨⟨k + 1, by go_num, by omega, HI.out.drewN _⟩, by simp [intOf]; omega⟩
    · have hkz : ¬ (k : Int) < (l.length : Int) := by omega
      go_wp2
      go_ret
      exact ⟨rfl, HI.out⟩
/-- The document's example. -/
def exL : List Rv := [⟨4194304, 20480, 1, 1⟩]
theorem exL_may : ∀ r ∈ exL, r.may := by
  intro r hr
  simp [exL] at hr
  subst hr
  decide
theorem exL_pgs : pgs exL = [⟨1, 0, 1, 5⟩] := by simp [pgs, exL, pgOf, List.range_succ]
def z8 : Nat → Nat := fillN (fun _ => 0) (4096 * (2 + 0)) 4096 0
theorem z8_zero (a : Nat) : z8 a = 0 := by unfold z8 fillN; split <;> rfl
theorem wdW_z (t i : Nat) : wdW 8 z8 t i = 0 := by
  unfold wdW
  split
  · exact ldN_zero z8 _ 4 (fun i _ => z8_zero _)
  · rfl
theorem exL_pl : plS 8 z8 8192 (pgs exL) ⟨fun _ => none, []⟩ (fun _ => false) = some ⟨setT (fun _ => none) 1 (enW 0), [1]⟩ := by
  have h0 : askM 8 z8 8192 ⟨fun _ => none, []⟩ 1 = (true, ⟨setT (fun _ => none) 1 (enW 0), [1]⟩) := by
    unfold askM askW
    rw [wdW_z]
    have e1 : Ent.de 0 = 0 := by decide
    have e2 : Ent.dk 0 = 0 := by decide
    simp [e1, e2]
  have e2 : Ent.dk 0 = 0 := by decide
  rw [exL_pgs, plS_cons]
  simp only
  rw [h0]
  simp [freeM, setT, enW, e2, plS_nil]
/-- The bytes that it leaves. -/
def ex8 : Nat → Nat := stN (stN (fillN z8 12288 4096 0) 8196 12305 4) 12288 20483 4
theorem ex8_eq : stPs (tkAll 2 8192 [1] ⟨z8, 1, setT (fun _ => none) 1 (enW 0)⟩).T (pgs exL) (tkAll 2 8192 [1] ⟨z8, 1, setT (fun _ => none) 1 (enW 0)⟩).m = ex8 := by
  rw [exL_pgs]
  unfold stPs tkAll
  simp only [List.foldl_cons, List.foldl_nil, tkStep, stP, setT]
  simp [Ent.wd, ex8]
theorem ex8_root : ldN ex8 8196 4 = 12305 := by
  unfold ex8
  rw [ld_st_other _ _ _ _ (by omega), ld_st_same _ _ _ (by omega)]
theorem ex8_page : ldN ex8 12288 4 = 20483 := by
  unfold ex8
  rw [ld_st_same _ _ _ (by omega)]
theorem ex8_walk : wk 8 ex8 8192 4194308 1 = (20484, [(8196, 12305), (12288, 20483)], 0) := by
  have o1 : okW 8 8192 1 = true := by decide
  have o2 : okW 8 12288 0 = true := by decide
  have e1 : wdW 8 ex8 8192 1 = 12305 := by unfold wdW; rw [if_pos o1]; exact ex8_root
  have e2 : wdW 8 ex8 12288 0 = 20483 := by unfold wdW; rw [if_pos o2]; exact ex8_page
  have r1 : rdF 12305 2 = 0 := by decide
  have r2 : rpF 8 20483 1 = 0 := by decide
  have d1 : Ent.df 12305 = 3 := by decide
  have d2 : Ent.df 20483 = 5 := by decide
  unfold wk wkE
  simp [o1, e1, r1, d1, o2, e2, r2, d2]
end Go.Proofs.YtoagdcdmahpglaaDoor
