import Derived.Test.YtghiffpolacmiabDoorUw
namespace Go.Proofs.YtghiffpolacmiabDoor
open Go.ChangeShapes Go.WideShapes Go.ChangeAt Go.RowKit
set_option linter.unusedVariables false

theorem wpList_build1 {w : World} {ops : Array Oper} {rest : List Oper} {o : Oper} {a : Act} {Q : Exit → Act → World → Prop} (hgd : o.guard = none) (t : TypeId) (i : Nat) (x : Operand) (ho : o.op = .build t #[(i, x)]) (vx : Value) (hx : a.eval x = vx) (v : Value) (hrun : (Instr.build t #[(i, vx)]).run Tryd.prog w = .ok v w)
    (h : wpList Tryd.prog ops Q rest (a.put o.dst v) w) : wpList Tryd.prog ops Q (o :: rest) a w :=
  wpList_build_run hgd t _ ho #[(i, vx)] (by simp [hx]) v hrun h
/-- A bus out of words alone. -/
def litB (q n : Nat) (ws : List Int) (ln : Int) : Bd := ⟨.slice (some ⟨q, 0, none⟩) n n, .slice none 0 0, .slice none 0 0, .slice none 0 0, ws, [], [], [], 0, ln, false, .slice none 0 0, [], 0, 0, 0, 0⟩
theorem rw_none (w : World) (k : IntKind) : Rw w k (.slice none 0 0) [] := ⟨none, 0, rfl, by simp, by simp, .inl rfl⟩
theorem litB_is {w : World} {bb q : Nat} {ws : List Int} {ln : Int} (hb : w.heap[bb]? = some (.cells (bxc (litB q ws.length ws ln)).toArray 52 (0, 0))) (hq : w.heap[q]? = some (.cells (ws.map (Value.int .u32)).toArray 22 (0, 0))) (hne : q ≠ bb) (hl : ws.length < 1000) : IsB w bb (litB q ws.length ws ln) := by
  refine ⟨hb, ⟨_, _, rfl, Nat.le_refl _, by show ws.length < _; omega, .inr ⟨q, 0, rfl, hp_lt hq, fun i x hx => ?_⟩⟩, rw_none _ _, rw_none _ _, rw_none _ _, World.ownsRow_nil w _ _ _, fun k hk => ?_, fun e => by cases e⟩
  · rw [(cells_at hq _).1, Nat.zero_add]
    show ((ws.map (Value.int .u32)).toArray)[i]? = _
    rw [List.getElem?_toArray, List.getElem?_map]
    have hx' : ws[i]? = some x := hx
    rw [hx']; rfl
  · rcases hk with e | e | e | e
    · cases e
      exact ⟨hne, fun e => (by cases e), hp_lt hq⟩
    · cases e
    · cases e
    · cases e
theorem litB_ok (q n : Nat) (ws : List Int) (ln : Int) (h : ∀ i, 0 ≤ nxt ws i ∧ nxt ws i < 4294967296) : (litB q n ws ln).ok :=
  ⟨⟨Nat.zero_le _, Nat.zero_le _, Nat.zero_le _, Nat.zero_le _, Nat.zero_le _⟩, by show (0 : Int) ≤ 0 ∧ (0 : Int) < _; omega, fun i => by show (0 : Int) ≤ 0 ∧ (0 : Int) < _; omega, h⟩
theorem litB_own (q n : Nat) (ws : List Int) (ln : Int) (bb k : Nat) (h : (litB q n ws ln).own bb k) : k = bb := by
  rcases h with e | e
  · exact e
  · cases e
theorem litB_row (q n : Nat) (ws : List Int) (ln : Int) (k : Nat) (h : (litB q n ws ln).row k) : k = q := by
  rcases h with e | e | e | e
  · cases e; rfl
  · cases e
  · cases e
  · cases e
def rg4 : Rg := ⟨fun _ => 0, 4, 0, 0, false, false⟩
theorem build25_4 (w : World) : (Instr.build 25 #[(1, .int .u32 4)]).run Tryd.prog w = .ok (.agg (rgc rg4).toArray) w := by kernel_rfl
theorem build34_2 (w : World) (q n : Nat) (ws : List Int) (ln : Int) : (Instr.build 52 #[(0, .slice (some ⟨q, 0, none⟩) n n), (5, .int .i64 ln)]).run Tryd.prog w = .ok (.agg (bxc (litB q n ws ln)).toArray) w := by kernel_rfl
theorem aw_r (bb q : Nat) : rsc (insS (rg4.st bb) (litB q 1 [943980543] (-1))).r = [.int .i64 1, .int .i64 1, .int .u32 0, .int .i64 0, .int .u32 0, .int .i64 0, .bool false, .int .u32 0, .bool false, .int .u64 0] := by kernel_rfl
theorem aw_g (bb q : Nat) : (insS (rg4.st bb) (litB q 1 [943980543] (-1))).g.R 1 = 4294967295 ∧ (insS (rg4.st bb) (litB q 1 [943980543] (-1))).g.pc = 8 := ⟨by kernel_rfl, by kernel_rfl⟩
set_option maxRecDepth 100000 in
theorem awake_any (w : World) (hg : Gt w) (h2 : 2 ≤ w.heap.size) : Calls Tryd.prog 4 #[] w fun e w' => e = .returned (.bool true) ∧ Kp w w' := by
  obtain ⟨w1, hw1⟩ : ∃ w1, w1 = w.alloc (.cells (rgc rg4).toArray 25) := ⟨_, rfl⟩
  obtain ⟨w2, hw2⟩ : ∃ w2, w2 = w1.alloc (.cells #[.int .u32 943980543] 22) := ⟨_, rfl⟩
  obtain ⟨w3, hw3⟩ : ∃ w3, w3 = w2.alloc (.cells (bxc (litB w1.heap.size 1 [943980543] (-1))).toArray 52) := ⟨_, rfl⟩
  have k1 : Kp w w1 := by rw [hw1]; exact (Chg.refl w _).alloc _
  have k2 : Kp w1 w2 := by rw [hw2]; exact (Chg.refl w1 _).alloc _
  have k3 : Kp w2 w3 := by rw [hw3]; exact (Chg.refl w2 _).alloc _
  have z1 : w1.heap.size = w.heap.size + 1 := by rw [hw1]; simp
  have z2 : w2.heap.size = w1.heap.size + 1 := by rw [hw2]; simp
  have n1 : w1.heap[w.heap.size]? = some (.cells (rgc rg4).toArray 25 (0, 0)) := by rw [hw1]; exact heap_alloc_new w _
  have n2 : w2.heap[w1.heap.size]? = some (.cells #[.int .u32 943980543] 22 (0, 0)) := by rw [hw2]; exact heap_alloc_new w1 _
  have n3 : w3.heap[w2.heap.size]? = some (.cells (bxc (litB w1.heap.size 1 [943980543] (-1))).toArray 52 (0, 0)) := by rw [hw3]; exact heap_alloc_new w2 _
  have hR : Rb w3 w.heap.size w2.heap.size rg4 (litB w1.heap.size 1 [943980543] (-1)) := by
    refine ⟨Kp.heap (Kp.trans k2 k3) n1, litB_is (ws := [943980543]) n3 (Kp.heap k3 n2) (by omega) (by simp), hg.keep (Kp.trans (Kp.trans k1 k2) k3), h2, fun k hk => ?_, fun k hk => ?_⟩
    · rcases hk with e | e
      · have := litB_own _ _ _ _ _ _ e; omega
      · have := litB_row _ _ _ _ _ e; omega
    · have := litB_own _ _ _ _ _ _ hk; omega
  have hS := step_off w3 w.heap.size w2.heap.size rg4 _ hR (litB_ok _ _ _ _ (fun i => by unfold nxt; rw [show min i ([(943980543 : Int)].length - 1) = 0 by simp]; decide)) (fun i => by show (0 : Int) ≤ 0 ∧ (0 : Int) < _; omega) (.inl rfl)
  rw [aw_r] at hS
  obtain ⟨a1, a2⟩ := aw_g w2.heap.size w1.heap.size
  have hb1 := fun w => build25_4 w
  have hb2 := fun w => build34_2 w w1.heap.size 1 [943980543] (-1)
  have HK : Hid (Kp w w3) := Kp.trans (Kp.trans k1 k2) k3
  have HO : Hid (∀ k, (litB w1.heap.size 1 [943980543] (-1)).own w2.heap.size k → w.heap.size ≤ k) := fun k hk => by have := litB_own _ _ _ _ _ _ hk; omega
  clear hR k1 k2 k3 n1 n2 n3 z1
  generalize hgg : (insS (rg4.st w2.heap.size) (litB w1.heap.size 1 [943980543] (-1))).g = g9 at *
  clear hgg
  generalize insB (rg4.st w2.heap.size) (litB w1.heap.size 1 [943980543] (-1)) = y9 at *
  generalize (bxc (litB w1.heap.size 1 [943980543] (-1))).toArray = BX at *
  generalize litB w1.heap.size 1 [943980543] (-1) = x9 at *
  generalize (rgc rg4).toArray = RG at *
  rw [z2] at hS HO
  rw [hw2] at hw3
  clear hw2 z2
  go_enter Tryd.func4, Tryd.ntmps4
  go_upto_region 2 with (first
    | (refine wpList_build1 rfl 25 1 _ rfl (.int .u32 4) rfl (.agg RG) (hb1 _) ?_)
    | (refine wpList_box_run rfl 25 (.tmp 4) rfl RG rfl ?_))
  rw [← hw1]
  clear hw1
  go_upto_region 3 with (first
    | (refine wpList_build2 rfl 52 0 5 (.tmp 6) _ rfl (.slice (some ⟨w1.heap.size, 0, none⟩) 1 1) (.int .i64 (-1)) rfl rfl (.agg BX) (hb2 _) ?_)
    | (refine wpList_box_run rfl 52 (.tmp 7) rfl BX rfl ?_))
  rw [← hw3]
  clear hw3
  go_wp2_with (go_at_call 8; refine hS.mono ?_; rintro e w4 ⟨rfl, v4, r4, b4, k4, l4⟩; have r5 := Kp.heap ((Kp.refl w4).alloc (.cells #[.int .i64 1, .int .i64 1, .int .u32 0, .int .i64 0, .int .u32 0, .int .i64 0, .bool false, .int .u32 0, .bool false, .int .u64 0] 43)) r4; have d1 := (cells_at r5 1).1; have d2 := (cells_at r5 16).1; rw [show (rgc g9).toArray[1]? = some (.int .u32 (g9.R 1)) from rfl, a1] at d1; rw [show (rgc g9).toArray[16]? = some (.int .u32 g9.pc) from rfl, a2] at d2; have HE : Hid (Chg w3 w4 _) := k4; clear r4 r5 b4 k4 l4)
  go_ret
  exact ⟨rfl, Chg.alloc (Chg.trans HK.out HE.out (fun i hi e => by
    rcases e with e | e
    · omega
    · have := HO.out i e; omega)) _⟩
end Go.Proofs.YtghiffpolacmiabDoor
