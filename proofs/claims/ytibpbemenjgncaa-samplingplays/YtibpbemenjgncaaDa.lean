import Derived.Test.YtibpbemenjgncaaAl
namespace Go.Proofs.Ytibpbemenjgncaa
open Go.ChangeShapes Go.WideShapes Go.ChangeAt Go.RowKit
set_option linter.unusedVariables false
/-- Numbers, in a list of one's own. -/
abbrev OI (w : World) (v : Value) (l : List Int) : Prop := w.ownsRow 0 3 1 v l.length (l.map fun i => .int .i64 i)
theorem OI.at {w : World} {v : Value} {l : List Int} (h : OI w v l) : (v = .slice none 0 0 ∧ l = []) ∨ ∃ g cap, v = .slice (some ⟨g, 0, none⟩) l.length cap ∧ (∃ cur, w.heap[g]? = some (.cells cur 3 (0, 0))) ∧ l.length ≤ cap ∧ cap ≤ maxLen ∧ (∀ i (hi : i < l.length), w.cell? ⟨g, i, none⟩ = some (.int .i64 l[i])) ∧ ∀ i, w.frozen? ⟨g, i, none⟩ = false := by
  rcases h.2 with ⟨h1, h2⟩ | ⟨g, cap, cur, h1, h2, h3, h4, h5, h6, h7⟩
  · left; exact ⟨h1, List.eq_nil_of_length_eq_zero h2⟩
  · right
    refine ⟨g, cap, h1, ⟨_, h3⟩, h4, h5, fun i hi => ?_, fun i => (cells_at h3 i).2⟩
    rw [(cells_at h3 i).1, ← Array.getElem?_toList]
    have e := congrArg (fun l => l[i]?) h7
    simp only [Nat.mul_one] at e
    rw [List.getElem?_take, if_pos hi] at e
    rw [e]
    simp [hi]
theorem OI.rd {w : World} {v : Value} {l : List Int} (h : OI w v l) (hl : l.length * 8 ≤ 140737488351232) : RdI w v l := by
  refine ⟨?_, hl⟩
  rcases h.at with ⟨rfl, rfl⟩ | ⟨g, cap, rfl, _, _, _, hc, _⟩
  · exact ⟨_, _, rfl, .inl rfl⟩
  · exact ⟨_, _, rfl, .inr ⟨g, 0, rfl, fun j hj => by rw [Nat.zero_add]; exact hc j hj⟩⟩
theorem OI.nil (w : World) : OI w (.slice none 0 0) [] := ⟨rfl, .inl ⟨rfl, rfl⟩⟩
theorem OI.shape {w : World} {v : Value} {l : List Int} (h : OI w v l) : ∃ a cap, v = .slice a l.length cap := by
  rcases h.at with ⟨rfl, rfl⟩ | ⟨g, cap, rfl, _⟩
  · exact ⟨_, _, rfl⟩
  · exact ⟨_, _, rfl⟩
theorem OI.no {w : World} {v : Value} {l : List Int} (h : OI w v l) {k T : Nat} {cs : Array Value} (hB : w.heap[k]? = some (.cells cs T (0, 0))) (hT : T ≠ 3) : v.ownBlock ≠ some k := fun e => by
  obtain ⟨cur, hg⟩ := own_tp h e
  rw [hB] at hg
  simp at hg
  exact hT hg.2
theorem info3p : ∃ i, Try.prog.info? 3 = some i ∧ i.zero = some (.int .i64 0) ∧ i.size = 1 ∧ i.bytes = 8 := by
  have hz : (Try.prog.info? 3).map (fun i => (i.zero, i.size, i.bytes)) = some (some (.int .i64 0), 1, 8) := by kernel_rfl
  cases hq : Try.prog.info? 3 with
  | none => rw [hq] at hz; cases hz
  | some i =>
    rw [hq] at hz
    have hz2 : i.zero = some (.int .i64 0) ∧ i.size = 1 ∧ i.bytes = 8 := by simpa using hz
    exact ⟨i, rfl, hz2⟩
/-- append onto numbers of one's own. -/
theorem run_appI (w : World) (v : Value) (xs : List Int) (hown : OI w v xs) (y : Value) (ys : List Int) (hs : RdI w y ys) (hb : (xs.length + ys.length) * 8 ≤ 140737488355328) (ty : TypeId) :
    ∃ v' w', (Builtin.append_ #[41, 41] ty #[v, y]).run Try.prog w = .ok v' w' ∧ OI w' v' (xs ++ ys) ∧ Chg w w' (fun i => v.ownBlock = some i) ∧ (v'.ownBlock = v.ownBlock ∨ ∃ k, v'.ownBlock = some k ∧ w.heap.size ≤ k) := by
  obtain ⟨i0, hi, hz, hsz, hby⟩ := info3p
  obtain ⟨a, c, hy, hx⟩ := hs.ex
  subst hy
  obtain ⟨v', w', hr, ho, hg, hL⟩ := run_app (P := Try.prog) w 41 ty 3 i0 (.int .i64 0) 1 8 Try.underlying41 hi hz hsz hby rfl (by omega) v xs.length _ hown a ys.length c (ys.map fun i => .int .i64 i) (by simp) (by
    rcases hx with h | ⟨b, o, ha, hc⟩
    · left; rw [h]; rfl
    · right
      refine ⟨b, o, ha, fun j u hu => ?_⟩
      have hj : j < ys.length := by have := (List.getElem?_eq_some_iff.1 hu).1; simpa using this
      rw [hc j hj]
      simpa [hj] using hu) (by intro u hu; simp at hu; obtain ⟨x, _, rfl⟩ := hu; rfl) (by simp [maxLen]; omega) (by omega)
  refine ⟨v', w', hr, ?_, Chg.grown (Chg.refl w _) hg (fun k hk => .inl hk), hL⟩
  unfold OI
  rw [List.map_append, List.length_append]
  exact ho
theorem run_appI0 (w : World) (y : Value) (ys : List Int) (hs : RdI w y ys) (ty : TypeId) :
    ∃ v' w', (Builtin.append_ #[41, 41] ty #[.slice none 0 0, y]).run Try.prog w = .ok v' w' ∧ OI w' v' ys ∧ Kp w w' ∧ Nw w v' := by
  obtain ⟨v', w', hr, ho, hc, hL⟩ := run_appI w (.slice none 0 0) [] (OI.nil w) y ys hs (by have := hs.len; simp; omega) ty
  refine ⟨v', w', hr, by simpa using ho, hc.mono (fun i _ h => by simp [Value.ownBlock] at h), fun k hk => ?_⟩
  rcases hL with e | ⟨k', e, h'⟩
  · rw [e] at hk; simp [Value.ownBlock] at hk
  · rw [e] at hk; simp at hk; omega
theorem RdI.vshape {w : World} {v : Value} {l : List Int} (h : RdI w v l) : ∃ a cap, v = .slice a l.length cap := by
  obtain ⟨a, c, e, _⟩ := h.ex
  exact ⟨a, c, e⟩
theorem place_any (w : World) (n : Int) (h0 : -9223372036854775808 ≤ n) (h1 : n ≤ 9223372036854775807) :
    Calls Try.prog 16 #[.int .i64 n] w fun e w' => ∃ m : Nat, e = .returned (.int .i64 m) ∧ m < 8 ∧ w' = w := by
  by_cases hn : n < 0
  · have e1 : IntKind.i64.wrap (n + 1) = n + 1 := w64 (by omega) (by omega)
    have e2 : IntKind.i64.wrap (-(n + 1)) = -(n + 1) := w64 (by omega) (by omega)
    obtain ⟨k, hk⟩ : ∃ k : Nat, -(n + 1) = k := ⟨(-(n + 1)).toNat, by omega⟩
    obtain rfl : n = -(k : Int) - 1 := by omega
    have e3 : -(k : Int) - 1 + 1 = -(k : Int) := by omega
    have e4 : - -(k : Int) = (k : Int) := by omega
    go_enter Try.func16, Try.ntmps16
    go_wp2
    go_ret
    refine ⟨k % 8, ?_, by omega, rfl⟩
    exact congrArg (fun q => Ending.returned (.int .i64 q)) (show (k : Int) % 8 = ((k % 8 : Nat) : Int) by omega)
  · obtain ⟨k, rfl⟩ : ∃ k : Nat, n = k := ⟨n.toNat, by omega⟩
    go_enter Try.func16, Try.ntmps16
    go_wp2
    go_ret
    refine ⟨k % 8, ?_, by omega, rfl⟩
    exact congrArg (fun q => Ending.returned (.int .i64 q)) (show (k : Int) % 8 = ((k % 8 : Nat) : Int) by omega)
end Go.Proofs.Ytibpbemenjgncaa
