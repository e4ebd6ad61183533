import Derived.Test.YtkggkkoblpdopaaGreatOwn
namespace Go.Proofs.YtkggkkoblpdopaaGreat
open Go.ChangeShapes Go.WideShapes Go.ChangeAt Go.RowKit
set_option linter.unusedVariables false

theorem eq_nil_no (x : Addr) (len cap : Nat) (w : World) : (binOp BinOp.eql 22 (Value.slice (some x) len cap) (Value.slice none 0 0)).run Tryz.prog w = .ok (.bool false) w := by
  kernel_rfl
theorem eq_nil_yes (len cap : Nat) (w : World) : (binOp BinOp.eql 22 (Value.slice none len cap) (Value.slice none 0 0)).run Tryz.prog w = .ok (.bool true) w := by
  kernel_rfl
theorem info5 : (Tryz.prog.info? 5).map (fun i => (i.zero, i.size, i.bytes)) = some (some (.int .u8 0), 1, 1) := by kernel_rfl

def OwnB (w : World) (v : Value) (bs : List Int) : Prop := w.ownsRow 0 5 1 v bs.length (bs.map (Value.int .u8)) ∧ ∀ n ∈ bs, 0 ≤ n ∧ n ≤ 255
def Fresh (B : Nat) (v : Value) : Prop := ∀ k, v.ownBlock = some k → B ≤ k

theorem getD_map_u8 (bs : List Int) (i : Nat) (h : i < bs.length) : (bs.map (Value.int .u8))[i]? = some (.int .u8 (bs.getD i 0)) := by
  simp [List.getElem?_eq_getElem h, List.getD_eq_getElem?_getD]

theorem OwnB.shape {w : World} {v : Value} {bs : List Int} (h : OwnB w v bs) (hl : bs.length ≤ 140737488355328) : ∃ a cap, v = .slice a bs.length cap ∧ bs.length ≤ cap ∧ (a = none → bs.length = 0 ∧ cap = 0) ∧ Bs w a bs.length bs := by
  obtain ⟨h1, h2⟩ := h
  rcases h1.2 with ⟨rfl, h0⟩ | ⟨g, cap, cur, rfl, hb, hg, hnc, hcm, hcs, ht⟩
  · exact ⟨none, 0, by rw [h0], by omega, fun _ => ⟨h0, rfl⟩, rfl, by omega, h2, .inl h0⟩
  · refine ⟨_, cap, rfl, hnc, (by intro e; cases e), rfl, hl, h2, .inr ⟨g, 0, rfl, fun i hi => ?_⟩⟩
    have := h1.cellAt i (by omega)
    rw [Nat.zero_add, this, getD_map_u8 _ _ hi]

theorem Bs.src {w : World} {a : Option Addr} {len : Nat} {bs : List Int} (h : Bs w a len bs) : len = 0 ∨ ∃ b off, a = some ⟨b, off, none⟩ ∧ ∀ j u, (bs.map (Value.int .u8))[j]? = some u → w.cell? ⟨b, off + j, none⟩ = some u := by
  obtain ⟨h1, h2, h3, h4⟩ := h
  rcases h4 with h | ⟨b, off, ha, hc⟩
  · exact .inl h
  · refine .inr ⟨b, off, ha, fun j u hu => ?_⟩
    have hj : j < bs.length := by have := (List.getElem?_eq_some_iff.1 hu).1; simpa using this
    rw [getD_map_u8 _ _ hj] at hu
    rw [hc j (by omega)]; exact hu

theorem oneCell_u8 (bs : List Int) : ∀ u ∈ bs.map (Value.int .u8), u.oneCell' = true := by
  intro u hu; simp at hu; obtain ⟨x, _, rfl⟩ := hu; rfl

/-- A block's cells. -/
theorem cells_at {w : World} {B : Nat} {cs : Array Value} {e : TypeId} (h : w.heap[B]? = some (.cells cs e (0, 0))) (i : Nat) : w.cell? ⟨B, i, none⟩ = cs[i]? ∧ w.frozen? ⟨B, i, none⟩ = false :=
  ⟨cell_of_row w B i cs e (0, 0) h, frozen_of_row w B i cs e h⟩

set_option maxRecDepth 20000 in
theorem clone_any (w : World) (a : Option Addr) (len cap : Nat) (bs : List Int) (hb : Bs w a len bs) :
    Calls Tryz.prog 71 #[.slice a len cap] w fun e w' => ∃ v, e = .returned v ∧ OwnB w' v bs ∧ Fresh w.heap.size v ∧ Chg w w' (fun _ => False) := by
  cases a with
  | none =>
    have h0 : len = 0 := by obtain ⟨_, _, _, h | ⟨b, off, h, _⟩⟩ := hb; exact h; cases h
    have hbs : bs = [] := List.eq_nil_of_length_eq_zero (by rw [hb.1, h0])
    subst h0 hbs
    have h := eq_nil_yes
    go_enter Tryz.func71, Tryz.ntmps71
    go_wp2
    go_ret
    exact ⟨_, rfl, ⟨World.ownsRow_nil _ _ _ _, by simp⟩, (by intro k hk; cases hk), Chg.refl _ _⟩
  | some x =>
    have h := eq_nil_no
    obtain ⟨i0, hi, hz0, hz1, hz2⟩ := info_parts info5
    have hown : (w.alloc (.cells #[] 5)).ownsRow 0 5 1 (.slice (some ⟨w.heap.size, 0, none⟩) 0 0) 0 [] := World.ownsRow_made w #[] 0 (Nat.zero_le _) (by simp [maxLen]) (by simp)
    have hsrc : Bs (w.alloc (.cells #[] 5)) (some x) len bs := by
      obtain ⟨h1, h2, h3, h4⟩ := hb
      refine ⟨h1, h2, h3, h4.imp_right ?_⟩
      rintro ⟨b, off, e, hc⟩
      refine ⟨b, off, e, fun i hi => ?_⟩
      have hlt := World.block_lt_of_cell? w _ (hc i hi)
      exact (World.cell?_of_block (w := w) (Below.heap_alloc _ _ _ hlt)).trans (hc i hi)
    obtain ⟨v', w', hr, k1, k2, k3⟩ := run_app (P := Tryz.prog) (w.alloc (.cells #[] 5)) 22 22 5 i0 (.int .u8 0) 1 1 Tryz.underlying22 hi hz0 hz1 hz2 rfl (by decide) _ 0 [] hown (some x) len cap (bs.map (Value.int .u8)) (by simp [hb.1]) hsrc.src (oneCell_u8 bs) (by have := hb.2.1; simp [maxLen]; omega) (by have := hb.2.1; omega)
    have HB : Hid (Bs w (some x) len bs) := hb
    have K : Hid (w'.ownsRow 0 5 1 v' (0 + len) ([] ++ bs.map (Value.int .u8)) ∧ (w.alloc (.cells #[] 5)).grownBy w' (some w.heap.size) ∧ Loc (w.alloc (.cells #[] 5)) (.slice (some ⟨w.heap.size, 0, none⟩) 0 0) v') := ⟨k1, k2, k3⟩
    clear k1 k2 k3 hsrc hown hb
    go_enter Tryz.func71, Tryz.ntmps71
    go_wp2_with (at_builtin; refine wpList_append_run _ rfl (.tmp 5) (.tmp 6) 22 22 rfl _ _ v' w' rfl rfl hr ?_)
    go_ret
    obtain ⟨k1, k2, k3⟩ := K.out
    refine ⟨v', rfl, ⟨by simpa [HB.out.1] using k1, HB.out.2.2.1⟩, ?_, ?_⟩
    · intro k hk
      rcases k3 with e | ⟨k', e, hk'⟩
      · rw [e] at hk; simp [Value.ownBlock] at hk; omega
      · rw [e] at hk; simp at hk hk'; omega
    · exact ((Chg.refl w _).alloc _).grown k2 (fun k e => .inr (by simp at e; omega))

set_option maxRecDepth 20000 in
theorem len64_any (w : World) (k : Nat) (n : Int) (h : (k = 1 ∧ n = 255) ∨ (k = 2 ∧ n = 65535) ∨ (k = 4 ∧ n = 4294967295) ∨ (k = 8 ∧ n = 18446744073709551615)) :
    Calls Tryz.prog 111 #[.int .u64 n] w fun e w' => e = .returned (.int .i64 (8 * k : Nat)) ∧ w' = w := by
  rcases h with ⟨rfl, rfl⟩ | ⟨rfl, rfl⟩ | ⟨rfl, rfl⟩ | ⟨rfl, rfl⟩
  all_goals
    go_enter Tryz.func111, Tryz.ntmps111
    go_wp2
    go_ret
    exact ⟨ret_int (by decide +kernel), rfl⟩

set_option maxRecDepth 20000 in
theorem width8 (w : World) :
    Calls Tryz.prog 243 #[] w fun e w' => e = .returned (.int .i64 1) ∧ w' = w := by
  have e1 : bits .xor .u8 IntKind.u8.max 0 = 255 := by decide +kernel
  have e2 : IntKind.u64.wrap 255 = 255 := by decide +kernel
  go_enter Tryz.func243, Tryz.ntmps243
  go_wp2_with (go_at_call 111; refine (len64_any _ 1 255 (by omega)).mono ?_; rintro e w' ⟨rfl, rfl⟩)
  go_ret
  exact ⟨rfl, rfl⟩

set_option maxRecDepth 20000 in
theorem width16 (w : World) :
    Calls Tryz.prog 285 #[] w fun e w' => e = .returned (.int .i64 2) ∧ w' = w := by
  have e1 : bits .xor .u16 IntKind.u16.max 0 = 65535 := by decide +kernel
  have e2 : IntKind.u64.wrap 65535 = 65535 := by decide +kernel
  go_enter Tryz.func285, Tryz.ntmps285
  go_wp2_with (go_at_call 111; refine (len64_any _ 2 65535 (by omega)).mono ?_; rintro e w' ⟨rfl, rfl⟩)
  go_ret
  exact ⟨rfl, rfl⟩

set_option maxRecDepth 20000 in
theorem width32 (w : World) :
    Calls Tryz.prog 69 #[] w fun e w' => e = .returned (.int .i64 4) ∧ w' = w := by
  have e1 : bits .xor .u32 IntKind.u32.max 0 = 4294967295 := by decide +kernel
  have e2 : IntKind.u64.wrap 4294967295 = 4294967295 := by decide +kernel
  go_enter Tryz.func69, Tryz.ntmps69
  go_wp2_with (go_at_call 111; refine (len64_any _ 4 4294967295 (by omega)).mono ?_; rintro e w' ⟨rfl, rfl⟩)
  go_ret
  exact ⟨rfl, rfl⟩

set_option maxRecDepth 20000 in
theorem width64 (w : World) :
    Calls Tryz.prog 245 #[] w fun e w' => e = .returned (.int .i64 8) ∧ w' = w := by
  have e1 : bits .xor .u64 IntKind.u64.max 0 = 18446744073709551615 := by decide +kernel
  have e2 : IntKind.u64.wrap 18446744073709551615 = 18446744073709551615 := by decide +kernel
  go_enter Tryz.func245, Tryz.ntmps245
  go_wp2_with (go_at_call 111; refine (len64_any _ 8 18446744073709551615 (by omega)).mono ?_; rintro e w' ⟨rfl, rfl⟩)
  go_ret
  exact ⟨rfl, rfl⟩
end Go.Proofs.YtkggkkoblpdopaaGreat
