import Derived.Test.YtfmiicbaooaheaaDoorRg
import Derived.BigRegion
namespace Go.Proofs.YtfmiicbaooaheaaDoor
open Go.ChangeShapes Go.WideShapes Go.ChangeAt Go.RowKit Go.Shelf
set_option linter.unusedVariables false
/-- An observation. -/
structure Ob where
  t : Int
  c : Int
  k : Int
  p : Int
  a : Int
  b : Int
structure Ob.ok (x : Ob) : Prop where
  t : 0 ≤ x.t ∧ x.t < 18446744073709551616
  c : -9223372036854775808 ≤ x.c ∧ x.c ≤ 9223372036854775807
  k : -9223372036854775808 ≤ x.k ∧ x.k ≤ 9223372036854775807
  p : 0 ≤ x.p ∧ x.p < 4294967296
  a : 0 ≤ x.a ∧ x.a < 4294967296
  b : 0 ≤ x.b ∧ x.b < 4294967296
def Ob.v (x : Ob) : Value := .agg #[.int .u64 x.t, .int .i64 x.c, .int .i64 x.k, .int .u32 x.p, .int .u32 x.a, .int .u32 x.b]
/-- Their cells. -/
def ocs : List Ob → List Value
  | [] => []
  | x :: r => .int .u64 x.t :: .int .i64 x.c :: .int .i64 x.k :: .int .u32 x.p :: .int .u32 x.a :: .int .u32 x.b :: ocs r
theorem ocs_len : ∀ L : List Ob, (ocs L).length = L.length * 6
  | [] => rfl
  | x :: r => by simp [ocs, ocs_len r]; omega
theorem ocs_app : ∀ (L R : List Ob), ocs (L ++ R) = ocs L ++ ocs R
  | [], R => rfl
  | x :: r, R => by simp [ocs, ocs_app r R]
theorem ocs_at : ∀ (L : List Ob) (i : Nat) (h : i < L.length), (ocs L)[i * 6]? = some (.int .u64 L[i].t) ∧ (ocs L)[i * 6 + 1]? = some (.int .i64 L[i].c) ∧ (ocs L)[i * 6 + 2]? = some (.int .i64 L[i].k) ∧ (ocs L)[i * 6 + 3]? = some (.int .u32 L[i].p) ∧ (ocs L)[i * 6 + 4]? = some (.int .u32 L[i].a) ∧ (ocs L)[i * 6 + 5]? = some (.int .u32 L[i].b)
  | [], i, h => by simp at h
  | x :: r, 0, _ => ⟨rfl, rfl, rfl, rfl, rfl, rfl⟩
  | x :: r, i + 1, h => by
    have := ocs_at r i (by simpa using h)
    rw [show (i + 1) * 6 = i * 6 + 6 by omega]
    exact this
theorem ocs_one (L : List Ob) : ∀ u ∈ ocs L, u.oneCell' = true := by
  induction L with
  | nil => simp [ocs]
  | cons x r ih => intro u hu; simp [ocs] at hu; rcases hu with rfl | rfl | rfl | rfl | rfl | rfl | h; rfl; rfl; rfl; rfl; rfl; rfl; exact ih u h
/-- They can be read from a place on. -/
def RdO (w : World) (b o : Nat) (L : List Ob) : Prop := ∀ j u, (ocs L)[j]? = some u → w.cell? ⟨b, o + j, none⟩ = some u
theorem RdO.c {w : World} {b o : Nat} {L : List Ob} (h : RdO w b o L) (i : Nat) (hi : i < L.length) : w.cell? ⟨b, o + i * 6, none⟩ = some (.int .u64 L[i].t) ∧ w.cell? ⟨b, o + i * 6 + 1, none⟩ = some (.int .i64 L[i].c) ∧ w.cell? ⟨b, o + i * 6 + 2, none⟩ = some (.int .i64 L[i].k) ∧ w.cell? ⟨b, o + i * 6 + 3, none⟩ = some (.int .u32 L[i].p) ∧ w.cell? ⟨b, o + i * 6 + 4, none⟩ = some (.int .u32 L[i].a) ∧ w.cell? ⟨b, o + i * 6 + 5, none⟩ = some (.int .u32 L[i].b) := by
  obtain ⟨a0, a1, a2, a3, a4, a5⟩ := ocs_at L i hi
  exact ⟨h _ _ a0, h _ _ a1, h _ _ a2, h _ _ a3, h _ _ a4, h _ _ a5⟩
theorem RdO.chg {w w' : World} {b o : Nat} {L : List Ob} {S : Nat → Prop} (h : RdO w b o L) (hc : Chg w w' S) (hS : ¬ S b) : RdO w' b o L := fun j u hu => hc.cell' hS (h j u hu)
theorem RdO.kp {w w' : World} {b o : Nat} {L : List Ob} (h : RdO w b o L) (hc : Kp w w') : RdO w' b o L := h.chg hc (fun e => e)
/-- A list of observations that can be read. -/
def ObI (w : World) (a : Option Addr) (L : List Ob) : Prop := L = [] ∨ ∃ b o, a = some ⟨b, o, none⟩ ∧ RdO w b o L
theorem ObI.kp {w w' : World} {a : Option Addr} {L : List Ob} (h : ObI w a L) (hc : Kp w w') : ObI w' a L := by
  rcases h with h | ⟨b, o, e, h⟩
  · exact .inl h
  · exact .inr ⟨b, o, e, h.kp hc⟩
/-- Observations, in a list of one's own. -/
abbrev OO (w : World) (v : Value) (L : List Ob) : Prop := w.ownsRow 0 31 6 v L.length (ocs L)
theorem OO.nil (w : World) : OO w (.slice none 0 0) [] := ⟨rfl, .inl ⟨rfl, rfl⟩⟩
theorem OO.at {w : World} {v : Value} {L : List Ob} (h : OO w v L) : (v = .slice none 0 0 ∧ L = []) ∨ ∃ g cap, v = .slice (some ⟨g, 0, none⟩) L.length cap ∧ L.length ≤ cap ∧ (∃ cur, w.heap[g]? = some (.cells cur 31 (0, 0))) ∧ RdO w g 0 L := by
  rcases h.2 with ⟨h1, h2⟩ | ⟨g, cap, cur, h1, h2, h3, h4, h5, h6, h7⟩
  · left; exact ⟨h1, List.eq_nil_of_length_eq_zero h2⟩
  · right
    refine ⟨g, cap, h1, h4, ⟨_, h3⟩, fun j u hu => ?_⟩
    rw [Nat.zero_add, (cells_at h3 j).1, ← Array.getElem?_toList]
    have hj : j < L.length * 6 := by rw [← ocs_len]; exact (List.getElem?_eq_some_iff.1 hu).1
    rw [← h7, List.getElem?_take, if_pos hj] at hu
    exact hu
/-- Its value, and that it can be read. -/
theorem OO.sh {w : World} {v : Value} {L : List Ob} (h : OO w v L) : ∃ a cap, v = .slice a L.length cap ∧ L.length ≤ cap ∧ ObI w a L := by
  rcases h.at with ⟨rfl, rfl⟩ | ⟨g, cap, rfl, hc, _, r⟩
  · exact ⟨none, 0, rfl, Nat.le_refl _, .inl rfl⟩
  · exact ⟨_, cap, rfl, hc, .inr ⟨g, 0, rfl, r⟩⟩
theorem info31p : ∃ i, Tryd.prog.info? 31 = some i ∧ i.zero = some (.agg #[.int .u64 0, .int .i64 0, .int .i64 0, .int .u32 0, .int .u32 0, .int .u32 0]) ∧ i.size = 6 ∧ i.bytes = 40 := by
  have hz : (Tryd.prog.info? 31).map (fun i => (i.zero, i.size, i.bytes)) = some (some (.agg #[.int .u64 0, .int .i64 0, .int .i64 0, .int .u32 0, .int .u32 0, .int .u32 0]), 6, 40) := by kernel_rfl
  cases hq : Tryd.prog.info? 31 with
  | none => rw [hq] at hz; cases hz
  | some i =>
    rw [hq] at hz
    have hz2 : i.zero = some (.agg #[.int .u64 0, .int .i64 0, .int .i64 0, .int .u32 0, .int .u32 0, .int .u32 0]) ∧ i.size = 6 ∧ i.bytes = 40 := by simpa using hz
    exact ⟨i, rfl, hz2⟩
/-- append onto observations of one's own. -/
theorem run_appO (w : World) (v : Value) (L : List Ob) (hown : OO w v L) (a : Option Addr) (c : Nat) (R : List Ob) (hs : ObI w a R) (hb : (L.length + R.length) * 40 ≤ 140737488355328) (ty : TypeId) :
    ∃ v' w', (Builtin.append_ #[25, 25] ty #[v, .slice a R.length c]).run Tryd.prog w = .ok v' w' ∧ OO w' v' (L ++ R) ∧ Chg w w' (fun i => v.ownBlock = some i) ∧ (v'.ownBlock = v.ownBlock ∨ ∃ k, v'.ownBlock = some k ∧ w.heap.size ≤ k) := by
  obtain ⟨i0, hi, hz, hsz, hby⟩ := info31p
  obtain ⟨v', w', hr, ho, hg, hL⟩ := run_app (P := Tryd.prog) w 25 ty 31 i0 _ 6 40 Tryd.underlying25 hi hz hsz hby rfl (by omega) v L.length _ hown a R.length c (ocs R) (ocs_len R) (by
    rcases hs with h | ⟨b, o, ha, hc⟩
    · left; rw [h]; rfl
    · exact .inr ⟨b, o, ha, hc⟩) (ocs_one R) (by simp [maxLen]; omega) hb
  refine ⟨v', w', hr, ?_, Chg.grown (Chg.refl w _) hg (fun k hk => .inl hk), hL⟩
  unfold OO
  rw [ocs_app, List.length_append]
  exact ho
/-- 'append(v, x)'. -/
theorem run_appO1 (w : World) (v : Value) (L : List Ob) (hown : OO w v L) (x : Ob) (hb : L.length < 1000000) (ty : TypeId) :
    ∃ v' w', (Builtin.append_ #[25, 25] ty #[v, .slice (some ⟨w.heap.size, 0, none⟩) 1 1]).run Tryd.prog (w.alloc (.cells #[.int .u64 x.t, .int .i64 x.c, .int .i64 x.k, .int .u32 x.p, .int .u32 x.a, .int .u32 x.b] 31)) = .ok v' w' ∧ OO w' v' (L ++ [x]) ∧ Chg w w' (fun i => v.ownBlock = some i) ∧ (v'.ownBlock = v.ownBlock ∨ ∃ k, v'.ownBlock = some k ∧ w.heap.size ≤ k) := by
  have ha : OO (w.alloc (.cells #[.int .u64 x.t, .int .i64 x.c, .int .i64 x.k, .int .u32 x.p, .int .u32 x.a, .int .u32 x.b] 31)) v L := Chg.owns ((Chg.refl w (fun _ => False)).alloc _) hown (fun _ _ h => h)
  obtain ⟨v', w', hr, ho, hg, hL⟩ := run_appO _ v L ha (some ⟨w.heap.size, 0, none⟩) 1 [x] (.inr ⟨_, _, rfl, fun j u hu => by
    rw [(cells_at (heap_alloc_new w _) _).1]
    rw [Nat.zero_add]
    simpa [ocs] using hu⟩) (by simp; omega) ty
  refine ⟨v', w', hr, ho, Chg.trans (Chg.alloc (Chg.refl w _) _) hg (fun _ _ h => h), ?_⟩
  rcases hL with e | ⟨k, e, hk⟩
  · exact .inl e
  · exact .inr ⟨k, e, by simp at hk; omega⟩
/-- A list of one's own stays, where its block does. -/
theorem OO.chg {w w' : World} {v : Value} {L : List Ob} {S : Nat → Prop} (h : OO w v L) (hc : Chg w w' S) (hS : ∀ k, v.ownBlock = some k → ¬ S k) : OO w' v L := hc.owns h hS
theorem OO.kp {w w' : World} {v : Value} {L : List Ob} (h : OO w v L) (hc : Kp w w') : OO w' v L := hc.owns h (fun _ _ e => e)
set_option maxHeartbeats 1000000 in
theorem twin_any (w : World) (a : Option Addr) (L : List Ob) (cap : Nat) (hL : ObI w a L) (hb : L.length ≤ 1000000) :
    Calls Tryd.prog 7 #[.slice a L.length cap] w fun e w' => ∃ v, e = .returned v ∧ OO w' v L ∧ Kp w w' ∧ Nw w v := by
  obtain ⟨v', w', hrun, ho, hc, hl⟩ := run_appO w (.slice none 0 0) [] (OO.nil w) a cap L hL (by simp; omega) 25
  rw [List.nil_append] at ho
  have HO : Hid (OO w' v' L ∧ Kp w w' ∧ Nw w v') := by
    refine ⟨ho, hc.mono (fun i _ e => by simp [Value.ownBlock] at e), fun k hk => ?_⟩
    rcases hl with e | ⟨k', e, h2⟩
    · rw [e] at hk; simp [Value.ownBlock] at hk
    · rw [e] at hk; cases hk; exact h2
  generalize L.length = n at *
  clear ho hc hl
  go_enter Tryd.func7, Tryd.ntmps7
  go_wp2_with (at_builtin; refine wpList_append_run _ rfl (.tmp 4) (.tmp 5) 25 25 rfl _ _ v' w' rfl rfl hrun ?_)
  go_ret
  exact ⟨v', rfl, HO.out⟩
theorem eq_nil25 (x : Addr) (len cap : Nat) (w : World) : (binOp BinOp.eql 25 (Value.slice (some x) len cap) (Value.slice none 0 0)).run Tryd.prog w = .ok (.bool false) w := by
  kernel_rfl
theorem eq_nil25y (len cap : Nat) (w : World) : (binOp BinOp.eql 25 (Value.slice none len cap) (Value.slice none 0 0)).run Tryd.prog w = .ok (.bool true) w := by
  kernel_rfl
set_option maxHeartbeats 1000000 in
/-- slices.Clone. -/
theorem clone_obs (w : World) (a : Option Addr) (L : List Ob) (cap : Nat) (hL : ObI w a L) (hb : L.length ≤ 1000000) :
    Calls Tryd.prog 16 #[.slice a L.length cap] w fun e w' => ∃ v, e = .returned v ∧ OO w' v L ∧ Kp w w' ∧ Nw w v := by
  cases a with
  | none =>
    have h0 : L = [] := by
      rcases hL with h | ⟨b, o, e, _⟩
      · exact h
      · cases e
    subst h0
    have hnil := eq_nil25y
    go_enter Tryd.func16, Tryd.ntmps16
    go_wp2
    go_ret
    exact ⟨_, rfl, OO.nil w, Kp.refl w, fun k hk => by simp [Value.ownBlock] at hk⟩
  | some x =>
    have k1 := Kp.al w (.cells #[] 31)
    have g1 := heap_alloc_new w (.cells #[] 31)
    obtain ⟨v', w', hrun, ho, hc, hl⟩ := run_appO (w.alloc (.cells #[] 31)) (.slice (some ⟨w.heap.size, 0, none⟩) 0 0) [] ⟨rfl, .inr ⟨w.heap.size, 0, #[], rfl, Nat.zero_le _, g1, by simp, by simp [maxLen], by simp, by simp [ocs]⟩⟩ (some x) cap L (hL.kp k1) (by simp; omega) 25
    rw [List.nil_append] at ho
    have HO : Hid (OO w' v' L ∧ Kp w w' ∧ Nw w v') := by
      refine ⟨ho, Chg.trans k1 hc (fun i hi e => by simp [Value.ownBlock] at e; omega), fun k hk => ?_⟩
      rcases hl with e | ⟨k', e, h2⟩
      · rw [e] at hk; simp [Value.ownBlock] at hk; omega
      · rw [e] at hk; cases hk; simp at h2; omega
    generalize L.length = n at *
    have hnil := eq_nil25
    clear ho hc hl
    go_enter Tryd.func16, Tryd.ntmps16
    go_wp2_with (at_builtin; refine wpList_append_run _ rfl (.tmp 5) (.tmp 6) 25 25 rfl _ _ v' w' rfl rfl hrun ?_)
    go_ret
    exact ⟨v', rfl, HO.out⟩
end Go.Proofs.YtfmiicbaooaheaaDoor
