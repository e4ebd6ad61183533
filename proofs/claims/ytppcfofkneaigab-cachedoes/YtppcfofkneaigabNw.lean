import Derived.Test.YtppcfofkneaigabAc
import Derived.Laws.Bits64
import Derived.Deep.MidRow
namespace Go.Proofs.Ytppcfofkneaigab
open Go.ChangeShapes Go.WideShapes Go.ChangeAt Go.RowKit
set_option linter.unusedVariables false

set_option maxRecDepth 10000 in
theorem ones_any (w : World) (n : Nat) (h : n = 1 ∨ n = 2 ∨ n = 4 ∨ n = 8 ∨ n = 16 ∨ n = 32 ∨ n = 64 ∨ n = 128 ∨ n = 256) :
    Calls Try.prog 44 #[.int .u64 n] w fun e w' => e = .returned (.int .i64 1) ∧ w' = w := by
  rcases h with rfl | rfl | rfl | rfl | rfl | rfl | rfl | rfl | rfl
  all_goals
    go_enter Try.func44, Try.ntmps44
    go_wp2
    go_ret
    exact ⟨ret_int (by decide +kernel), rfl⟩

set_option maxRecDepth 10000 in
theorem isPower_yes (w : World) (n a b : Nat) (h : n = 1 ∨ n = 2 ∨ n = 4 ∨ n = 8 ∨ n = 16 ∨ n = 32 ∨ n = 64 ∨ n = 128 ∨ n = 256) (h1 : a ≤ n) (h2 : n ≤ b) :
    Calls Try.prog 37 #[.int .i64 n, .int .i64 a, .int .i64 b] w fun e w' => e = .returned (.bool true) ∧ w' = w := by
  have hO : Calls Try.prog 42 #[.int .u64 n] w fun e w' => e = .returned (.int .i64 1) ∧ w' = w := by
    have h48 := ones_any w n h
    clear h
    go_enter Try.func42, Try.ntmps42
    go_wp2_with (go_at_call 44; refine h48.mono ?_; rintro e w' ⟨rfl, rfl⟩)
    go_ret
    exact ⟨rfl, rfl⟩
  have hn : n ≤ 256 := by omega
  clear h
  have e1 : IntKind.u64.wrap (n : Int) = n := by simp [IntKind.wrap, IntKind.bits, IntKind.signed]; omega
  go_enter Try.func37, Try.ntmps37
  go_wp2_with (go_at_call 42; refine hO.mono ?_; rintro e w' ⟨rfl, rfl⟩)
  go_ret
  exact ⟨rfl, rfl⟩

/-- Powers of two. -/
def Pow (n : Nat) : Prop := n = 1 ∨ n = 2 ∨ n = 4 ∨ n = 8 ∨ n = 16 ∨ n = 32 ∨ n = 64 ∨ n = 128 ∨ n = 256

set_option maxRecDepth 10000 in
theorem may_yes (w : World) (sets ways line : Nat) (h : ShOk sets ways line) (p1 : Pow sets) (p2 : Pow line) :
    Calls Try.prog 26 #[.agg #[.int .i64 sets, .int .i64 ways, .int .i64 line]] w fun e w' => e = .returned (.bool true) ∧ Chg w w' (fun _ => False) := by
  have hA : ∀ w, Calls Try.prog 37 #[.int .i64 sets, .int .i64 1, .int .i64 256] w fun e w' => e = .returned (.bool true) ∧ w' = w := fun w => isPower_yes w sets 1 256 p1 h.s1 h.s2
  have hB : ∀ w, Calls Try.prog 37 #[.int .i64 line, .int .i64 16, .int .i64 256] w fun e w' => e = .returned (.bool true) ∧ w' = w := fun w => isPower_yes w line 16 256 p2 h.l1 h.l2
  have w1 := h.w1
  have w2 := h.w2
  clear h p1 p2
  go_enter Try.func26, Try.ntmps26
  go_wp2_with fail
  go_at_call 37
  refine (hA _).mono ?_
  rintro e w' ⟨rfl, rfl⟩
  go_wp2_with fail
  go_at_call 37
  refine (hB _).mono ?_
  rintro e w' ⟨rfl, rfl⟩
  go_wp2
  go_ret
  exact ⟨rfl, (Chg.refl _ _).alloc _⟩

/-! Noughts of all sets. -/
def zc (j : Nat) : Value := if j % 17 = 16 then .int .i64 0 else if j % 17 % 2 = 0 then .int .u32 0 else .bool false
def isZc (j : Nat) : Value → Bool
  | .int .i64 (.ofNat 0) => decide (j % 17 = 16)
  | .int .u32 (.ofNat 0) => decide (j % 17 ≠ 16 ∧ j % 17 % 2 = 0)
  | .bool false => decide (j % 17 ≠ 16 ∧ j % 17 % 2 ≠ 0)
  | _ => false
def allZc : Nat → Nat → List Value → Bool
  | 0, _, [] => true
  | n + 1, j, x :: xs => match isZc j x with | true => allZc n (j + 1) xs | false => false
  | _, _, _ => false
theorem isZc_eq {j : Nat} {v : Value} (h : isZc j v = true) : v = zc j := by
  unfold isZc at h
  split at h
  · have := of_decide_eq_true h; simp [zc, this]
  · have := of_decide_eq_true h; simp [zc, this.1, this.2]
  · have := of_decide_eq_true h; simp [zc, this.1]; omega
  · cases h
theorem allZc_eq : ∀ (n j : Nat) (l : List Value), allZc n j l = true → l.length = n ∧ ∀ i, i < n → l[i]? = some (zc (j + i))
  | 0, j, [], _ => ⟨rfl, fun i hi => by omega⟩
  | n + 1, j, x :: xs, h => by
    unfold allZc at h
    split at h
    · rename_i hx
      obtain ⟨h1, h2⟩ := allZc_eq n (j + 1) xs h
      refine ⟨by simp [h1], fun i hi => ?_⟩
      match i with
      | 0 => simp [isZc_eq hx]
      | i + 1 =>
        rw [List.getElem?_cons_succ, h2 i (by omega)]
        congr 2; omega
    · cases h
  | 0, j, x :: xs, h => by simp [allZc] at h
  | n + 1, j, [], h => by simp [allZc] at h
noncomputable def zeroOk68 : Bool := match Try.prog.info? 67 with
  | some i => match i.zero with
    | some (.agg z) => allZc 4352 0 z.toList
    | _ => false
  | none => false
noncomputable def zeroOk70 : Bool := match Try.prog.info? 69 with
  | some i => match i.zero with
    | some (.agg z) => match z.toList with
      | _ :: _ :: _ :: r => allZc 4352 0 r
      | _ => false
    | _ => false
  | none => false
set_option maxRecDepth 200000 in
theorem z68 : zeroOk68 = true := by kernel_rfl
set_option maxRecDepth 200000 in
theorem z70 : zeroOk70 = true := by kernel_rfl

/-- Cells that are noughts of all sets. -/
def ZS (z : List Value) : Prop := z.length = 4352 ∧ ∀ i, i < 4352 → z[i]? = some (zc i)
theorem zero68 : ∃ z : Array Value, ZS z.toList ∧ ∀ w, (zeroValue 67).run Try.prog w = .ok (.agg z) w := by
  have h := z68
  unfold zeroOk68 at h
  split at h
  · rename_i i hi
    split at h
    · rename_i z hz
      refine ⟨z, ?_, fun w => by simp [zeroValue, typeInfo, hi, hz]⟩
      obtain ⟨h1, h2⟩ := allZc_eq _ _ _ h
      exact ⟨h1, fun i hi => by simpa using h2 i hi⟩
    · cases h
  · cases h
theorem zero70 : ∃ (a b c : Value) (z : List Value), ZS z ∧ ∀ w, (zeroValue 69).run Try.prog w = .ok (.agg (a :: b :: c :: z).toArray) w := by
  have h := z70
  unfold zeroOk70 at h
  split at h
  · rename_i i hi
    split at h
    · rename_i z hz
      split at h
      · rename_i a b c r hr
        refine ⟨a, b, c, r, ?_, fun w => by simp [zeroValue, typeInfo, hi, hz, ← hr]⟩
        obtain ⟨h1, h2⟩ := allZc_eq _ _ _ h
        exact ⟨h1, fun i hi => by simpa using h2 i hi⟩
      · cases h
    · cases h
  · cases h

theorem size68 : (Try.prog.info? 67).map (·.size) = some 4352 := by kernel_rfl
theorem size23 : (Try.prog.info? 23).map (·.size) = some 3 := by kernel_rfl
theorem run_sizeOf {t : TypeId} {n : Nat} (h : (Try.prog.info? t).map (·.size) = some n) (w : World) : (sizeOf t).run Try.prog w = .ok n w := by
  cases hi : Try.prog.info? t with
  | none => rw [hi] at h; cases h
  | some i => rw [hi] at h; simp at h; simp [sizeOf, typeInfo, hi, h]

theorem build70 : ∃ z : List Value, ZS z ∧ ∀ (a b c : Value) w, a.cells = #[a] → (Instr.build 69 #[(0, .agg #[a, b, c])]).run Try.prog w = .ok (.agg (a :: b :: c :: z).toArray) w := by
  obtain ⟨x0, x1, x2, z, hz, hr⟩ := zero70
  refine ⟨z, hz, fun a b c w _ => ?_⟩
  have h23 := run_sizeOf size23
  have h68 := run_sizeOf size68
  simp [Instr.build, hr, Value.cells, run_underlying Try.underlying69, h23, h68, Instr.fill]
  rw [if_neg (by omega)]
  simp

theorem zs_set {z : List Value} (hz : ZS z) (a b c : Value) (k : Nat) (hk : k < 256) : SetAt (a :: b :: c :: z).toArray (3 + k * 17) [] := by
  refine ⟨?_, fun i hi => by simp at hi, by simp, fun x hx => by cases hx⟩
  have e : 3 + k * 17 + 16 = (k * 17 + 16) + 1 + 1 + 1 := by omega
  rw [e]
  simp only [List.getElem?_toArray, List.getElem?_cons_succ]
  rw [hz.2 _ (by omega)]
  have : (k * 17 + 16) % 17 = 16 := by omega
  simp [zc, this]

/-- The walk at a build, told by its run. -/
theorem wpList_build_run {P : Program} {w : World} {ops : Array Oper} {rest : List Oper} {o : Oper} {a : Act} {Q : Exit → Act → World → Prop} (hgd : o.guard = none) (t : TypeId) (parts : Array (Nat × Operand)) (ho : o.op = .build t parts) (vs : Array (Nat × Value)) (hvs : (parts.map fun (i, x) => (i, a.eval x)) = vs) (v : Value) (hrun : (Instr.build t vs).run P w = .ok v w)
    (h : wpList P ops Q rest (a.put o.dst v) w) : wpList P ops Q (o :: rest) a w := by
  subst hvs
  refine wpList_plain hgd fun K hK => ?_
  unfold Oper.wp
  simp only [execOp, ho]
  simp [hrun, Result.andThen]
  exact hK _ _ h
/-- The walk at a box of a great value. -/
theorem wpList_box_run {P : Program} {w : World} {ops : Array Oper} {rest : List Oper} {o : Oper} {a : Act} {Q : Exit → Act → World → Prop} (hgd : o.guard = none) (t : TypeId) (x : Operand) (ho : o.op = .box t x) (Z : Array Value) (hx : a.eval x = .agg Z)
    (h : wpList P ops Q rest (a.put o.dst (.pointer (some ⟨w.heap.size, 0, none⟩))) (w.alloc (.cells Z t))) : wpList P ops Q (o :: rest) a w := by
  refine wpList_plain hgd fun K hK => ?_
  unfold Oper.wp
  simp [execOp, ho, Instr.box, hx, newVar, newRow, Value.cells, Result.andThen]
  exact hK _ _ h

set_option maxRecDepth 10000 in
theorem new_yes (w : World) (sets ways line : Nat) (h : ShOk sets ways line) (p1 : Pow sets) (p2 : Pow line) :
    Calls Try.prog 11 #[.agg #[.int .i64 sets, .int .i64 ways, .int .i64 line]] w fun e w' => ∃ B, e = .returned (.tuple #[.pointer (some ⟨B, 0, none⟩), .int .i64 0]) ∧ IsC w' B sets ways line (fun _ => []) ∧ w.heap.size ≤ B ∧ Chg w w' (fun _ => False) := by
  have hM := fun w => may_yes w sets ways line h p1 p2
  obtain ⟨z, hz, hbd⟩ := build70
  obtain ⟨Z, hZ⟩ : ∃ Z, Z = (Value.int .i64 sets :: Value.int .i64 ways :: Value.int .i64 line :: z).toArray := ⟨_, rfl⟩
  have hb : ∀ w, (Instr.build 69 #[(0, .agg #[.int .i64 sets, .int .i64 ways, .int .i64 line])]).run Try.prog w = .ok (.agg Z) w := fun w => by rw [hZ]; exact hbd _ _ _ w rfl
  have K : Hid (ZS z ∧ Z = (Value.int .i64 sets :: Value.int .i64 ways :: Value.int .i64 line :: z).toArray ∧ ShOk sets ways line) := ⟨hz, hZ, h⟩
  clear hbd hz hZ h p1 p2
  go_enter Try.func11, Try.ntmps11
  go_wp2_with fail
  go_at_call 26
  refine (hM _).mono ?_
  rintro e w1 ⟨rfl, hC1⟩
  have hC := ((Chg.refl w (fun _ => False)).alloc (.cells #[.int .i64 sets, .int .i64 ways, .int .i64 line] 23)).trans hC1 (fun _ _ h => h)
  have hh := hC1.heap (heap_alloc_new w _) (fun h => h)
  have d0 := (cells_at hh 0).1
  have d1 := (cells_at hh 1).1
  have d2 := (cells_at hh 2).1
  simp only [List.getElem?_toArray, List.getElem?_cons_zero, List.getElem?_cons_succ] at d0 d1 d2
  have KC : Hid (Chg w w1 (fun _ => False)) := hC
  clear hC hC1 hh hM
  have hrg : w1.rangeAt w.heap.size 0 [.int .i64 sets, .int .i64 ways, .int .i64 line] := by
    intro j v hv
    have hj : j < 3 := by simpa using (List.getElem?_eq_some_iff.1 hv).1
    match j, hj with
    | 0, _ => rw [d0, ← hv]; rfl
    | 1, _ => rw [d1, ← hv]; rfl
    | 2, _ => rw [d2, ← hv]; rfl
  clear d0 d1 d2
  go_wp2_with (refine wpList_load_mid rfl 23 (.tmp 1) rfl w.heap.size 0 rfl _ _ hrg Try.underlying23 rfl size23 ?_; simp only [Act.put, List.setIfInBounds_toArray, List.set_cons_zero, List.set_cons_succ]; refine wpList_build_run rfl 69 #[(0, .tmp 7)] rfl #[(0, .agg #[.int .i64 sets, .int .i64 ways, .int .i64 line])] (by simp [Act.eval]) (.agg Z) (hb _) ?_; simp only [Act.put, List.setIfInBounds_toArray, List.set_cons_zero, List.set_cons_succ]; refine wpList_box_run rfl 69 (.tmp 8) rfl Z rfl ?_; simp only [Act.put, List.setIfInBounds_toArray, List.set_cons_zero, List.set_cons_succ])
  go_ret2
  obtain ⟨hz, rfl, hS⟩ := K.out
  refine ⟨w1.heap.size, rfl, ⟨⟨_, heap_alloc_new w1 _, by simp [hz.1], rfl, rfl, rfl, fun k hk => zs_set hz _ _ _ k hk⟩, hS, fun k => ⟨by simp [tags], by simp⟩⟩, KC.out.size, KC.out.alloc _⟩
end Go.Proofs.Ytppcfofkneaigab
