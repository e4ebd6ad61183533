import Derived.Test.YtnblhaeojlpmmaaAa
import Derived.Laws.IdiomCopy
namespace Go.Proofs.Ytnblhaeojlpmmaa
open Go.ChangeShapes Go.WideShapes Go.ChangeAt Go.RowKit
set_option linter.unusedVariables false
theorem Bs.vshape {w : World} {v : Value} {bs : List Int} (h : Bs w v bs) : ∃ a cap, v = .slice a bs.length cap := by
  obtain ⟨a, c, e, _⟩ := h.ex
  exact ⟨a, c, e⟩
set_option maxHeartbeats 1000000 in
theorem copied_any (w : World) (v : Value) (bs : List Int) (h : Bs w v bs) (tk : Int) :
    Calls Try.prog 26 #[.agg #[v, .int .u64 tk]] w fun e w' => ∃ v', e = .returned (.agg #[v', .int .u64 tk]) ∧ OB w' v' bs ∧ Kp w w' ∧ Nw w v' := by
  have hk0 : Kp w ((w.alloc (.cells #[v, .int .u64 tk] 75)).alloc (.cells #[.slice none 0 0, .int .u64 0] 75)) := (Kp.al _ _).alloc _
  obtain ⟨v', w', hr, ho, hk, hn⟩ := run_app0 _ v bs (h.kp hk0) 37
  obtain ⟨a, c, rfl⟩ := h.vshape
  have R1 := hk.heap (al_old (.cells #[.slice none 0 0, .int .u64 0] 75) (heap_alloc_new w (.cells #[.slice a bs.length c, .int .u64 tk] 75)))
  have R2 : w'.heap[w.heap.size + 1]? = some (.cells #[.slice none 0 0, .int .u64 0] 75 (0, 0)) := hk.heap (by have := heap_alloc_new (w.alloc (.cells #[.slice a bs.length c, .int .u64 tk] 75)) (.cells #[.slice none 0 0, .int .u64 0] 75); simpa using this)
  have ob1 := ho.no R1 (by decide)
  have ob2 := ho.no R2 (by decide)
  have c10 := (cells_at R1 0).1
  have c11 := (cells_at R1 1).1
  have c20 := (cells_at R2 0).1
  have c21 := (cells_at R2 1).1
  have f10 := (cells_at R1 0).2
  have f20 := (cells_at R2 0).2
  have f21 := (cells_at R2 1).2
  simp at c10 c11 c20 c21
  obtain ⟨a', c', rfl⟩ := ho.shape
  have hn2 : Nw w (.slice a' bs.length c') := fun k hk => by have := hn k hk; simp at this; omega
  have K : Hid (OB w' (.slice a' bs.length c') bs ∧ Kp w w' ∧ Nw w (.slice a' bs.length c') ∧ (Value.slice a' bs.length c').ownBlock ≠ some w.heap.size ∧ (Value.slice a' bs.length c').ownBlock ≠ some (w.heap.size + 1)) := ⟨ho, hk0.trans hk, hn2, ob1, ob2⟩
  clear h hk0 ho hk hn R1 R2 ob1 ob2 hn2
  go_enter Try.func26, Try.ntmps26
  go_wp2_with (at_builtin; refine wpList_append_run _ rfl _ _ 37 37 rfl _ _ (.slice a' bs.length c') w' rfl rfl hr ?_)
  refine bodyPost_ret (v := .agg #[.slice a' bs.length c', .int .u64 tk]) (by simp [results, Try.results26, go_sem, c20, c21]) rfl ?_
  obtain ⟨k1, k2, k3, k4, k5⟩ := K.out
  have hC : Chg w' (((w'.setCell ⟨w.heap.size, 0, none⟩ (Value.slice a' bs.length c')).setCell ⟨w.heap.size + 1, 0, none⟩ (Value.slice a' bs.length c')).setCell ⟨w.heap.size + 1, 1, none⟩ (Value.int IntKind.u64 tk)) (fun k => k = w.heap.size ∨ k = w.heap.size + 1) :=
    Chg.setCell (Chg.setCell (Chg.setCell (Chg.refl _ _) (.inl (.inl rfl)) _) (.inl (.inr rfl)) _) (.inl (.inr rfl)) _
  refine ⟨_, rfl, hC.owns k1 (fun k hk h => ?_), Chg.trans k2 hC (fun i hi h => by omega), k3⟩
  rcases h with h | h <;> subst h
  · exact k4 hk
  · exact k5 hk
/-- A message in memory. -/
structure Mg where
  v : Value
  bs : List Int
  tk : Int
/-- The cells of messages. -/
def mcs : List Mg → List Value
  | [] => []
  | m :: l => m.v :: .int .u64 m.tk :: mcs l
theorem mcs_len : ∀ l : List Mg, (mcs l).length = l.length * 2
  | [] => rfl
  | m :: l => by simp [mcs, mcs_len l]; omega
theorem mcs_app : ∀ a b : List Mg, mcs (a ++ b) = mcs a ++ mcs b
  | [], b => rfl
  | m :: l, b => by simp [mcs, mcs_app l b]
theorem mcs_at : ∀ (l : List Mg) (i : Nat) (m : Mg), l[i]? = some m → (mcs l)[i * 2]? = some m.v ∧ (mcs l)[i * 2 + 1]? = some (.int .u64 m.tk)
  | [], i, m, h => by simp at h
  | m0 :: l, 0, m, h => by simp at h; subst h; exact ⟨rfl, rfl⟩
  | m0 :: l, i + 1, m, h => by
    have := mcs_at l i m (by simpa using h)
    have e : (i + 1) * 2 = i * 2 + 1 + 1 := by omega
    rw [e]
    exact this
theorem mcs_mem : ∀ (l : List Mg) (u : Value), u ∈ mcs l → (∃ m, m ∈ l ∧ u = m.v) ∨ ∃ m, m ∈ l ∧ u = .int .u64 m.tk
  | [], u, h => by simp [mcs] at h
  | m0 :: l, u, h => by
    simp only [mcs, List.mem_cons] at h
    rcases h with h | h | h
    · exact .inl ⟨m0, by simp, h⟩
    · exact .inr ⟨m0, by simp, h⟩
    · rcases mcs_mem l u h with ⟨m, h1, h2⟩ | ⟨m, h1, h2⟩
      · exact .inl ⟨m, by simp [h1], h2⟩
      · exact .inr ⟨m, by simp [h1], h2⟩
/-- Messages, in a list of one's own. -/
abbrev OM (w : World) (v : Value) (l : List Mg) : Prop := w.ownsRow 0 75 2 v l.length (mcs l)
/-- The bytes of messages. -/
def MB (w : World) (l : List Mg) : Prop := ∀ m, m ∈ l → OB w m.v m.bs
theorem OM.nil (w : World) : OM w (.slice none 0 0) [] := ⟨rfl, .inl ⟨rfl, rfl⟩⟩
theorem OM.at {w : World} {v : Value} {l : List Mg} (h : OM w v l) : (v = .slice none 0 0 ∧ l = []) ∨ ∃ g cap cur, v = .slice (some ⟨g, 0, none⟩) l.length cap ∧ w.heap[g]? = some (.cells cur 75 (0, 0)) ∧ l.length ≤ cap ∧ cap ≤ maxLen ∧ cur.size = cap * 2 ∧ (∀ i, i < l.length * 2 → cur[i]? = (mcs l)[i]?) := by
  rcases h.2 with ⟨h1, h2⟩ | ⟨g, cap, cur, h1, h2, h3, h4, h5, h6, h7⟩
  · left; exact ⟨h1, List.eq_nil_of_length_eq_zero h2⟩
  · right
    refine ⟨g, cap, cur, h1, h3, h4, h5, h6, fun i hi => ?_⟩
    rw [← h7, List.getElem?_take, if_pos hi, Array.getElem?_toList]
theorem OM.mk {w : World} {g cap : Nat} {cur : Array Value} {l : List Mg} (h3 : w.heap[g]? = some (.cells cur 75 (0, 0))) (h4 : l.length ≤ cap) (h5 : cap ≤ maxLen) (h6 : cur.size = cap * 2) (h7 : ∀ i, i < l.length * 2 → cur[i]? = (mcs l)[i]?) : OM w (.slice (some ⟨g, 0, none⟩) l.length cap) l := by
  refine ⟨mcs_len l, .inr ⟨g, cap, cur, rfl, Nat.zero_le _, h3, h4, h5, h6, ?_⟩⟩
  apply List.ext_getElem?
  intro i
  rw [List.getElem?_take]
  split
  · rename_i hi; rw [Array.getElem?_toList]; exact h7 i hi
  · rename_i hi; rw [List.getElem?_eq_none]; rw [mcs_len]; omega
theorem OM.shape {w : World} {v : Value} {l : List Mg} (h : OM w v l) : ∃ a cap, v = .slice a l.length cap := by
  rcases h.at with ⟨rfl, rfl⟩ | ⟨g, cap, cur, rfl, _⟩
  · exact ⟨_, _, rfl⟩
  · exact ⟨_, _, rfl⟩
theorem OM.no {w : World} {v : Value} {l : List Mg} (h : OM w v l) {k T : Nat} {cs : Array Value} (hB : w.heap[k]? = some (.cells cs T (0, 0))) (hT : T ≠ 75) : v.ownBlock ≠ some k := fun e => by
  obtain ⟨cur, hg⟩ := own_tp h e
  rw [hB] at hg
  simp at hg
  exact hT hg.2
theorem OM.lt {w : World} {v : Value} {l : List Mg} (h : OM w v l) {k : Nat} (hk : v.ownBlock = some k) : k < w.heap.size := by
  obtain ⟨cur, hg⟩ := own_tp h hk
  exact hp_lt hg
theorem MB.chg {w w' : World} {l : List Mg} {S : Nat → Prop} (h : MB w l) (hc : Chg w w' S) (hn : ∀ k, S k → ∃ cs T, w.heap[k]? = some (.cells cs T (0, 0)) ∧ T ≠ 5) : MB w' l := fun m hm => hc.owns (h m hm) (fun k hk hS => by
  obtain ⟨cs, T, h1, h2⟩ := hn k hS
  exact (h m hm).no h1 h2 hk)
theorem MB.kp {w w' : World} {l : List Mg} (h : MB w l) (hc : Kp w w') : MB w' l := h.chg hc (fun _ x => x.elim)
theorem MB.app {w : World} {a b : List Mg} (h : MB w a) (k : MB w b) : MB w (a ++ b) := fun m hm => by
  rcases List.mem_append.1 hm with h1 | h1
  · exact h m h1
  · exact k m h1
theorem MB.sub {w : World} {a b : List Mg} (h : MB w a) (k : ∀ m, m ∈ b → m ∈ a) : MB w b := fun m hm => h m (k m hm)
theorem MB.one {w : World} {l : List Mg} (h : MB w l) : ∀ u ∈ mcs l, u.oneCell' = true := fun u hu => by
  rcases mcs_mem l u hu with ⟨m, h1, rfl⟩ | ⟨m, h1, rfl⟩
  · exact (h m h1).one
  · rfl
theorem info75p : ∃ i, Try.prog.info? 75 = some i ∧ i.zero = some (.agg #[.slice none 0 0, .int .u64 0]) ∧ i.size = 2 ∧ i.bytes = 32 := by
  have hz : (Try.prog.info? 75).map (fun i => (i.zero, i.size, i.bytes)) = some (some (.agg #[.slice none 0 0, .int .u64 0]), 2, 32) := by kernel_rfl
  cases hq : Try.prog.info? 75 with
  | none => rw [hq] at hz; cases hz
  | some i =>
    rw [hq] at hz
    have hz2 : i.zero = some (.agg #[.slice none 0 0, .int .u64 0]) ∧ i.size = 2 ∧ i.bytes = 32 := by simpa using hz
    exact ⟨i, rfl, hz2⟩
/-- append onto messages of one's own. -/
theorem run_appM (w : World) (v : Value) (xs : List Mg) (hown : OM w v xs) (a : Option Addr) (ys : List Mg) (c : Nat) (hs : ys = [] ∨ ∃ b off, a = some ⟨b, off, none⟩ ∧ ∀ j u, (mcs ys)[j]? = some u → w.cell? ⟨b, off + j, none⟩ = some u) (h1 : ∀ u ∈ mcs ys, u.oneCell' = true) (hb : xs.length + ys.length ≤ 4398046511104) (ty : TypeId) :
    ∃ v' w', (Builtin.append_ #[62, 62] ty #[v, .slice a ys.length c]).run Try.prog w = .ok v' w' ∧ OM w' v' (xs ++ ys) ∧ Chg w w' (fun i => v.ownBlock = some i) ∧ (v'.ownBlock = v.ownBlock ∨ ∃ k, v'.ownBlock = some k ∧ w.heap.size ≤ k) := by
  obtain ⟨i0, hi, hz, hsz, hby⟩ := info75p
  obtain ⟨v', w', hr, ho, hg, hL⟩ := run_app (P := Try.prog) w 62 ty 75 i0 (.agg #[.slice none 0 0, .int .u64 0]) 2 32 Try.underlying62 hi hz hsz hby rfl (by omega) v xs.length _ hown a ys.length c (mcs ys) (mcs_len ys) (by
    rcases hs with rfl | h
    · left; rfl
    · right; exact h) h1 (by simp [maxLen]; omega) (by omega)
  refine ⟨v', w', hr, ?_, Chg.grown (Chg.refl w _) hg (fun k hk => .inl hk), hL⟩
  unfold OM
  rw [mcs_app, List.length_append]
  exact ho
/-- append of one message. -/
theorem run_appM1 (w : World) (v : Value) (xs : List Mg) (hown : OM w v xs) (m : Mg) (h1 : m.v.oneCell' = true) (hb : xs.length < 1000000) (ty : TypeId) :
    ∃ v' w', (Builtin.append_ #[62, 62] ty #[v, .slice (some ⟨w.heap.size, 0, none⟩) 1 1]).run Try.prog (w.alloc (.cells #[m.v, .int .u64 m.tk] 75)) = .ok v' w' ∧ OM w' v' (xs ++ [m]) ∧ Chg w w' (fun i => v.ownBlock = some i) ∧ (v'.ownBlock = v.ownBlock ∨ ∃ k, v'.ownBlock = some k ∧ w.heap.size ≤ k) := by
  have ha : OM (w.alloc (.cells #[m.v, .int .u64 m.tk] 75)) v xs := Chg.owns ((Chg.refl w (fun _ => False)).alloc _) hown (fun _ _ h => h)
  obtain ⟨v', w', hr, ho, hg, hL⟩ := run_appM _ v xs ha (some ⟨w.heap.size, 0, none⟩) [m] 1 (.inr ⟨_, _, rfl, fun j u hu => by
    rw [(cells_at (heap_alloc_new w _) _).1]
    rw [Nat.zero_add]
    simpa [mcs] using hu⟩) (by intro u hu; simp [mcs] at hu; rcases hu with rfl | rfl; exact h1; rfl) (by simp; omega) ty
  refine ⟨v', w', hr, ho, Chg.trans (Chg.alloc (Chg.refl w _) _) hg (fun _ _ h => h), ?_⟩
  rcases hL with e | ⟨k, e, hk⟩
  · exact .inl e
  · exact .inr ⟨k, e, by simp at hk; omega⟩
end Go.Proofs.Ytnblhaeojlpmmaa
