import Derived.Test.YtppcfofkneaigabEf
import Derived.Test.YtppcfofkneaigabDh
namespace Go.Proofs.Ytppcfofkneaigab
open Go.ChangeShapes Go.WideShapes Go.ChangeAt Go.RowKit
set_option linter.unusedVariables false
theorem lines_bd {sets ways line : Nat} {st : Nat → List Ln} (hS : ShOk sets ways line) (hb : Bd sets line st) (hg : ∀ k, Good (st k) ways) : ∀ p ∈ linesN st sets, p.1 < 4294967296 ∧ p.2.1 < 4294967296 := by
  intro p hp
  obtain ⟨j, hj, rfl⟩ := List.getElem_of_mem hp
  have h := (ok_all hb hg).1.at j hj
  exact ⟨by have := h.set; have := hS.s2; omega, h.t32⟩
theorem BkI.new {w : World} {K : Nat} (h : w.heap[K]? = some (.cells #[.slice none 0 0, .slice none 0 0, .slice none 0 0, .slice none 0 0] 29 (0, 0))) : BkI w K w.heap.size (.slice none 0 0) (.slice none 0 0) (.slice none 0 0) (.slice none 0 0) [] [] :=
  ⟨h, World.ownsRow_nil _ _ _ _, World.ownsRow_nil _ _ _ _, World.ownsRow_nil _ _ _ _, World.ownsRow_nil _ _ _ _, fun k hk => (by cases hk), fun k hk => (by cases hk), fun k hk => (by cases hk), fun x hx => (by cases hx), List.Pairwise.nil, fun t ht => (by cases ht), Nat.le_refl _⟩
/-- The Book may be as young as the heap. -/
theorem BkI.older {w : World} {K e e' : Nat} {hv wv lv mv : Value} {T : List (Value × Nat × Nat)} (h : BkI w K e hv wv lv mv [] T) (he : e ≤ e') (he' : e' ≤ w.heap.size) : BkI w K e' hv wv lv mv [] T :=
  ⟨h.at_, h.h, h.m, h.l, h.k, h.hm, h.hl, h.ml, fun x hx => (by cases hx), List.Pairwise.nil, fun t ht => ⟨(h.lr t ht).1, fun k hk => Nat.lt_of_lt_of_le ((h.lr t ht).2.1 k hk) he, (h.lr t ht).2.2⟩, he'⟩
end Go.Proofs.Ytppcfofkneaigab
namespace Go.Proofs.Ytppcfofkneaigab
open Go.ChangeShapes Go.WideShapes Go.ChangeAt Go.RowKit
set_option linter.unusedVariables false
/-- A shorter row of the same block. -/
theorem own_pre {w : World} {T : TypeId} {size : Nat} {a : Option Addr} {m cap k : Nat} {xs : List Value} (h : w.ownsRow 0 T size (.slice a m cap) m xs) (hk : k ≤ m) (hk0 : 0 < m) : w.ownsRow 0 T size (.slice a k cap) k (xs.take (k * size)) := by
  rcases h.2 with ⟨_, h0⟩ | ⟨g, cap', cur, e, hg0, hg, hnc, hrest⟩
  · omega
  · obtain ⟨h1, h2, h3⟩ := hrest
    simp only [Value.slice.injEq] at e
    obtain ⟨rfl, _, rfl⟩ := e
    refine ⟨?_, .inr ⟨g, _, cur, rfl, hg0, hg, by omega, h1, h2, ?_⟩⟩
    · rw [List.length_take, h.1]
      exact Nat.min_eq_left (Nat.mul_le_mul_right _ hk)
    · rw [← h3, List.take_take, Nat.min_eq_left (Nat.mul_le_mul_right _ hk)]
/-- append, with what becomes of the old block: written in place, or left as it was. -/
theorem run_app2 {P : Program} (w : World) (t ty e : TypeId) (i : TypeInfo) (z : Value) (size bytes : Nat) (ht : P.underlying t = some (.slice e)) (hi : P.info? e = some i) (hz : i.zero = some z)
    (hsize : i.size = size) (hby : i.bytes = bytes) (hzs : z.cells.size = size) (hsz : 0 < size)
    (v : Value) (n : Nat) (xs : List Value) (hown : w.ownsRow 0 e size v n xs)
    (b off : Nat) (m c : Nat) (news : List Value) (hl : news.length = m * size)
    (hsrc : ∀ j u, news[j]? = some u → w.cell? ⟨b, off + j, none⟩ = some u) (h1 : ∀ u ∈ news, u.oneCell' = true)
    (h63 : n + m ≤ maxLen) (hbytes : (n + m) * bytes ≤ 140737488355328) :
    ∃ v' w', (Builtin.append_ #[t, t] ty #[v, .slice (some ⟨b, off, none⟩) m c]).run P w = .ok v' w' ∧ w'.ownsRow 0 e size v' (n + m) (xs ++ news) ∧
      ((∃ g cap, v = .slice (some ⟨g, 0, none⟩) n cap ∧ v' = .slice (some ⟨g, 0, none⟩) (n + m) cap ∧ w.grownBy w' (some g)) ∨ (w.grownBy w' none ∧ ∀ k, v'.ownBlock = some k → w.heap.size ≤ k)) := by
  have hnews : ∀ j u, news[j]? = some u → w.cell? ((⟨b, off, none⟩ : Addr).add j) = some u := by
    intro j u hu; rw [Addr.add_lit]; exact hsrc j u hu
  rcases hown.2 with ⟨rfl, rfl⟩ | ⟨g, cap, cur, rfl, hbg, hg, hnc, hcm, hcs, htake⟩
  · obtain rfl : xs = [] := List.eq_nil_of_length_eq_zero (by simpa using hown.1)
    obtain ⟨v', w', hr, h2, h3, h4⟩ := run_append_own (P := P) w w.heap.size t ty e i z size bytes ht hi hz hsize hby hzs hsz (.slice none 0 0) 0 [] (World.ownsRow_nil w _ e size) ⟨b, off, none⟩ m c news hl hnews h1 h63 hbytes (Nat.le_refl _)
    obtain ⟨k1, k2⟩ := loc_new (v := .slice none 0 0) h2 (fun _ => rfl)
    refine ⟨v', w', hr, k1, .inr ⟨h3, fun k hk => ?_⟩⟩
    rcases h2.2 with ⟨rfl, _⟩ | ⟨g', cap', cur', rfl, hb', _⟩
    · cases hk
    · simp [Value.ownBlock] at hk; omega
  · by_cases hroom : n + m ≤ cap
    · obtain ⟨w', hr, h2, h3⟩ := run_append_fits (P := P) w 0 t ty e i size ht hi hsize g n cap xs hown ⟨b, off, none⟩ m c news hl hnews h1 hroom
      exact ⟨_, w', hr, h2, .inl ⟨g, cap, rfl, rfl, h3⟩⟩
    · have holds := hown.cells (g := g) rfl
      obtain ⟨v', w', hr, h2, h3⟩ := run_append_arg_grows (P := P) w t ty e i z size bytes ht hi hz hsize hby hzs hsz ⟨g, 0, none⟩ n cap xs hown.1 holds ⟨b, off, none⟩ m c news hl hnews (by omega) h63 hbytes
      rcases h2.2 with ⟨_, h0⟩ | ⟨g', cap', cur', rfl, hb', r'⟩
      · omega
      · exact ⟨_, w', hr, ⟨h2.1, .inr ⟨g', cap', cur', rfl, Nat.zero_le _, r'⟩⟩, .inr ⟨h3, fun k hk => by simp [Value.ownBlock] at hk; omega⟩⟩
/-- A row that stands in the same block as what is appended to, or elsewhere, still reads as it did. -/
theorem beside {w w' : World} {e : TypeId} {size : Nat} {v v' o : Value} {n m k : Nat} {xs ys : List Value} (hO : w.ownsRow 0 e size o k ys) (hn : w'.ownsRow 0 e size v' (n + m) xs) (hm : 0 < n + m)
    (hA : (∃ g cap, v = .slice (some ⟨g, 0, none⟩) n cap ∧ v' = .slice (some ⟨g, 0, none⟩) (n + m) cap ∧ w.grownBy w' (some g)) ∨ (w.grownBy w' none ∧ ∀ k, v'.ownBlock = some k → w.heap.size ≤ k))
    (hR : ∀ g cap cap', v = .slice (some ⟨g, 0, none⟩) n cap → o = .slice (some ⟨g, 0, none⟩) k cap' → cap' = cap ∧ k ≤ n + m ∧ xs.take (k * size) = ys) : w'.ownsRow 0 e size o k ys := by
  rcases hA with ⟨g, cap, h1, h2, hg⟩ | ⟨hg, _⟩
  · by_cases he : o.ownBlock = some g
    · rcases hO.2 with ⟨rfl, _⟩ | ⟨g', cap', cur, rfl, _⟩
      · cases he
      · simp [Value.ownBlock] at he
        subst he
        obtain ⟨rfl, hk, ht⟩ := hR _ _ _ h1 rfl
        subst h2
        rw [← ht]
        exact own_pre hn hk hm
    · exact hO.kept hg (.inr he)
  · refine hO.kept hg ?_
    cases h : o.ownBlock with
    | none => exact .inl rfl
    | some k => exact .inr (by simp)
end Go.Proofs.Ytppcfofkneaigab
namespace Go.Proofs.Ytppcfofkneaigab
open Go.ChangeShapes Go.WideShapes Go.ChangeAt Go.RowKit
set_option linter.unusedVariables false
/-- A line is written into a list of one's own. -/
theorem Lv.put {w : World} {b n cap g : Nat} {L : List (Nat × Ln)} (h : Lv w b (.slice (some ⟨g, 0, none⟩) n cap) L) (i : Nat) (hi : i < L.length) (s t : Nat) (d : Bool) :
    Lv (((w.setCell ⟨g, i * 3, none⟩ (.int .u32 (s : Nat))).setCell ⟨g, i * 3 + 1, none⟩ (.int .u32 (t : Nat))).setCell ⟨g, i * 3 + 2, none⟩ (.bool d)) b (.slice (some ⟨g, 0, none⟩) n cap) (L.set i (s, t, d)) ∧
    Chg w (((w.setCell ⟨g, i * 3, none⟩ (.int .u32 (s : Nat))).setCell ⟨g, i * 3 + 1, none⟩ (.int .u32 (t : Nat))).setCell ⟨g, i * 3 + 2, none⟩ (.bool d)) (fun k => k = g) := by
  have hc : Chg w (((w.setCell ⟨g, i * 3, none⟩ (.int .u32 (s : Nat))).setCell ⟨g, i * 3 + 1, none⟩ (.int .u32 (t : Nat))).setCell ⟨g, i * 3 + 2, none⟩ (.bool d)) (fun k => k = g) := Chg.setCell (S := fun k => k = g) (Chg.setCell (S := fun k => k = g) (Chg.setCell (S := fun k => k = g) (Chg.refl w _) (.inl rfl) _) (.inl rfl) _) (.inl rfl) _
  refine ⟨?_, hc⟩
  rcases h.row.2 with ⟨e, _⟩ | ⟨g', cap', cur, e, h2, h3, h4, h5, h6, h7⟩
  · cases e
  · simp only [Value.slice.injEq, Option.some.injEq, Addr.mk.injEq] at e
    obtain ⟨⟨rfl, _, _⟩, rfl, rfl⟩ := e
    have k0 := heap_setCell_same w g (i * 3) cur 74 (.int .u32 (s : Nat)) h3
    have k1 := heap_setCell_same _ g (i * 3 + 1) _ 74 (.int .u32 (t : Nat)) k0
    have k2 := heap_setCell_same _ g (i * 3 + 2) _ 74 (.bool d) k1
    refine ⟨⟨by rw [flatC_len], .inr ⟨g, cap, _, by rw [List.length_set], h2, k2, by rw [List.length_set]; exact h4, h5, by simpa using h6, ?_⟩⟩, h.fresh⟩
    rw [List.length_set]
    apply List.ext_getElem?
    intro j
    by_cases hj : j < L.length * 3
    · rw [List.getElem?_take, if_pos hj]
      have hold : cur.toList[j]? = (flatC L)[j]? := by rw [← h7, List.getElem?_take, if_pos hj]
      have hjl : j < cur.size := by omega
      obtain ⟨q, r, hr, rfl⟩ : ∃ q r, r < 3 ∧ j = q * 3 + r := ⟨j / 3, j % 3, Nat.mod_lt _ (by omega), by omega⟩
      have hq : q < L.length := by omega
      rw [flatC_get _ q r (by rw [List.length_set]; exact hq) hr]
      rw [flatC_get _ q r hq hr] at hold
      simp only [Array.toList_setIfInBounds, List.getElem?_set, List.length_set, Array.length_toList, List.getElem_set]
      by_cases e : i = q
      · subst e
        simp only [if_true]
        match r, hr with
        | 0, _ => rw [if_neg (by omega), if_neg (by omega), if_pos (by omega), if_pos (by omega)]; rfl
        | 1, _ => rw [if_neg (by omega), if_pos (by omega), if_pos (by omega)]; rfl
        | 2, _ => rw [if_pos (by omega), if_pos (by omega)]; rfl
      · simp only [if_neg e]
        rw [if_neg (by omega), if_neg (by omega), if_neg (by omega)]
        exact hold
    · rw [List.getElem?_eq_none (by simp; omega), List.getElem?_eq_none (by rw [flatC_len, List.length_set]; omega)]
end Go.Proofs.Ytppcfofkneaigab
namespace Go.Proofs.Ytppcfofkneaigab
open Go.ChangeShapes Go.WideShapes Go.ChangeAt Go.RowKit
set_option linter.unusedVariables false
/-- n lines of one mark. -/
def full (n mk : Nat) : List (Nat × Ln) := List.replicate n (9999, mk, false)
theorem full_len (n mk : Nat) : (full n mk).length = n := List.length_replicate
theorem full_add (n m mk : Nat) : full n mk ++ full m mk = full (n + m) mk := by unfold full; rw [List.replicate_append_replicate]
theorem full_take (n m mk : Nat) (h : n ≤ m) : (flatC (full m mk)).take (n * 3) = flatC (full n mk) := by
  obtain ⟨d, rfl⟩ : ∃ d, m = n + d := ⟨m - n, by omega⟩
  rw [← full_add, flatC_app, List.take_left' (by rw [flatC_len, full_len])]
/-- What an append of one marked line does, with what becomes of the old block. -/
theorem app_mark (w : World) (v : Value) (n mk : Nat) (h : w.ownsRow 0 74 3 v n (flatC (full n mk))) (hn : n ≤ 2000000) :
    ∃ v' w', (Builtin.append_ #[35, 35] 35 #[v, .slice (some ⟨w.heap.size, 0, none⟩) 1 1]).run Try.prog (w.alloc (.cells #[.int .u32 9999, .int .u32 (mk : Nat), .bool false] 74)) = .ok v' w' ∧ w'.ownsRow 0 74 3 v' (n + 1) (flatC (full (n + 1) mk)) ∧
      ((∃ g cap, v = .slice (some ⟨g, 0, none⟩) n cap ∧ v' = .slice (some ⟨g, 0, none⟩) (n + 1) cap ∧ (w.alloc (.cells #[.int .u32 9999, .int .u32 (mk : Nat), .bool false] 74)).grownBy w' (some g)) ∨ ((w.alloc (.cells #[.int .u32 9999, .int .u32 (mk : Nat), .bool false] 74)).grownBy w' none ∧ ∀ k, v'.ownBlock = some k → w.heap.size < k)) := by
  obtain ⟨i0, hi, hz0, hz1, hz2⟩ := info_parts info51
  have hown2 := ((Chg.refl w (fun _ => False)).alloc (.cells #[.int .u32 9999, .int .u32 (mk : Nat), .bool false] 74)).owns h (fun _ _ h => h)
  obtain ⟨v', w', hr, h1, h2⟩ := run_app2 (P := Try.prog) _ 35 35 74 i0 (.agg #[.int .u32 0, .int .u32 0, .bool false]) 3 12 Try.underlying35 hi hz0 hz1 hz2 rfl (by decide) v n _ hown2 w.heap.size 0 1 1 (lC (9999, mk, false)) rfl (by
    intro j u hu
    have hj : j < 3 := (List.getElem?_eq_some_iff.1 hu).1
    have hc := (cells_at (heap_alloc_new w (.cells #[.int .u32 9999, .int .u32 (mk : Nat), .bool false] 74)) (0 + j)).1
    rw [hc, ← hu]
    match j, hj with
    | 0, _ => rfl
    | 1, _ => rfl
    | 2, _ => rfl) (by
    intro u hu
    simp [lC] at hu
    rcases hu with rfl | rfl | rfl <;> rfl) (by simp [maxLen]; omega) (by omega)
  refine ⟨v', w', hr, ?_, h2.imp_right (fun q => ⟨q.1, fun k hk => ?_⟩)⟩
  · have : flatC (full n mk) ++ lC (9999, mk, false) = flatC (full (n + 1) mk) := by
      rw [← full_add, flatC_app]; simp [full, flatC]
    rw [← this]; exact h1
  · have := q.2 k hk; rw [World.size_alloc] at this; omega

/-- A list that was held, what came of one append to it, and what comes of many. A, B: the heap's size ahead of the first append, and behind it. -/
structure Trio (w : World) (v one two : Value) (n k mk A B : Nat) : Prop where
  hv : w.ownsRow 0 74 3 v n (flatC (full n mk))
  ho : w.ownsRow 0 74 3 one (n + 1) (flatC (full (n + 1) mk))
  ht : w.ownsRow 0 74 3 two (n + k) (flatC (full (n + k) mk))
  o : (∃ g cap, v = .slice (some ⟨g, 0, none⟩) n cap ∧ one = .slice (some ⟨g, 0, none⟩) (n + 1) cap) ∨ ∀ b, one.ownBlock = some b → A ≤ b
  t : (∃ g cap, v = .slice (some ⟨g, 0, none⟩) n cap ∧ two = .slice (some ⟨g, 0, none⟩) (n + k) cap) ∨ ∀ b, two.ownBlock = some b → B ≤ b
  vb : ∀ b, v.ownBlock = some b → b < A
  ob : ∀ b, one.ownBlock = some b → b < B
  ab : A ≤ B
  bw : B ≤ w.heap.size
theorem Trio.kept {w w' : World} {v one two : Value} {n k mk A B : Nat} (h : Trio w v one two n k mk A B) (hc : Chg w w' (fun _ => False)) : Trio w' v one two n k mk A B :=
  ⟨hc.owns h.hv (fun _ _ h => h), hc.owns h.ho (fun _ _ h => h), hc.owns h.ht (fun _ _ h => h), h.o, h.t, h.vb, h.ob, h.ab, Nat.le_trans h.bw hc.size⟩
theorem sl_of_own {w : World} {v : Value} {n : Nat} {xs : List Value} (h : w.ownsRow 0 74 3 v n xs) : (v = .slice none 0 0 ∧ n = 0) ∨ ∃ g cap, v = .slice (some ⟨g, 0, none⟩) n cap := by
  rcases h.2 with h | ⟨g, cap, cur, e, _⟩
  · exact .inl h
  · exact .inr ⟨g, cap, e⟩
/-- The first append. -/
theorem one_app (w : World) (v : Value) (n mk : Nat) (h : w.ownsRow 0 74 3 v n (flatC (full n mk))) (hn : n ≤ 100000) :
    ∃ one w', (Builtin.append_ #[35, 35] 35 #[v, .slice (some ⟨w.heap.size, 0, none⟩) 1 1]).run Try.prog (w.alloc (.cells #[.int .u32 9999, .int .u32 (mk : Nat), .bool false] 74)) = .ok one w' ∧ Trio w' v one v n 0 mk w.heap.size w'.heap.size ∧ Chg w w' (fun k => v.ownBlock = some k) := by
  obtain ⟨one, w', hr, h1, h2⟩ := app_mark w v n mk h (by omega)
  have C1 := (Chg.refl w (fun _ => False)).alloc (.cells #[.int .u32 9999, .int .u32 (mk : Nat), .bool false] 74)
  have hv1 := C1.owns h (fun _ _ h => h)
  have C2 : Chg w w' (fun k => v.ownBlock = some k) := by
    rcases h2 with ⟨g, cap, rfl, _, hg⟩ | ⟨hg, _⟩
    · exact (C1.mono (T := fun k => some g = some k) (fun _ _ h => h.elim)).grown hg (fun k e => .inl e)
    · exact (C1.mono (T := fun k => v.ownBlock = some k) (fun _ _ h => h.elim)).grown hg (fun k e => by cases e)
  have hv2 : w'.ownsRow 0 74 3 v n (flatC (full n mk)) := by
    refine beside hv1 h1 (by omega) (h2.imp_right (fun q => ⟨q.1, fun k hk => by have := q.2 k hk; rw [World.size_alloc]; omega⟩)) (fun g cap cap' e1 e2 => ?_)
    rw [e1] at e2
    simp only [Value.slice.injEq] at e2
    exact ⟨e2.2.2.symm, by omega, full_take n (n + 1) mk (by omega)⟩
  refine ⟨one, w', hr, ⟨hv2, h1, hv2, ?_, ?_, fun b hb => (own_at h hb).1, fun b hb => (own_at h1 hb).1, C2.size, Nat.le_refl _⟩, C2⟩
  · rcases h2 with ⟨g, cap, e1, e2, _⟩ | ⟨_, q⟩
    · exact .inl ⟨g, cap, e1, e2⟩
    · exact .inr (fun b hb => Nat.le_of_lt (q b hb))
  · rcases sl_of_own h with ⟨rfl, rfl⟩ | ⟨g, cap, rfl⟩
    · exact .inr (fun b hb => by cases hb)
    · exact .inl ⟨g, cap, rfl, rfl⟩
/-- One more append. -/
theorem Trio.app {w : World} {v one two : Value} {n k mk A B : Nat} (h : Trio w v one two n k mk A B) (hn : n + k ≤ 100000) :
    ∃ two' w', (Builtin.append_ #[35, 35] 35 #[two, .slice (some ⟨w.heap.size, 0, none⟩) 1 1]).run Try.prog (w.alloc (.cells #[.int .u32 9999, .int .u32 (mk : Nat), .bool false] 74)) = .ok two' w' ∧ Trio w' v one two' n (k + 1) mk A B ∧ Chg w w' (fun b => v.ownBlock = some b ∨ B ≤ b) := by
  obtain ⟨two', w', hr, h1, h2⟩ := app_mark w two (n + k) mk h.ht (by omega)
  have C1 := (Chg.refl w (fun _ => False)).alloc (.cells #[.int .u32 9999, .int .u32 (mk : Nat), .bool false] 74)
  have hv1 := C1.owns h.hv (fun _ _ h => h)
  have ho1 := C1.owns h.ho (fun _ _ h => h)
  have hA : ∀ b, v.ownBlock = some b → b < B := fun b hb => Nat.lt_of_lt_of_le (h.vb b hb) h.ab
  have C2 : Chg w w' (fun b => v.ownBlock = some b ∨ B ≤ b) := by
    rcases h2 with ⟨g, cap, e, _, hg⟩ | ⟨hg, _⟩
    · refine (C1.mono (T := fun b => v.ownBlock = some b ∨ B ≤ b) (fun _ _ h => h.elim)).grown hg (fun j ej => .inl ?_)
      simp only [Option.some.injEq] at ej
      subst ej
      rcases h.t with ⟨g', cap', ev, et⟩ | q
      · rw [e] at et; simp only [Value.slice.injEq, Option.some.injEq, Addr.mk.injEq] at et
        left; rw [ev, et.1.1]; rfl
      · right; exact q g (by rw [e]; rfl)
    · exact (C1.mono (T := fun b => v.ownBlock = some b ∨ B ≤ b) (fun _ _ h => h.elim)).grown hg (fun j ej => by cases ej)
  have hnew : ((∃ g cap, two = .slice (some ⟨g, 0, none⟩) (n + k) cap ∧ two' = .slice (some ⟨g, 0, none⟩) (n + k + 1) cap ∧ (w.alloc (.cells #[.int .u32 9999, .int .u32 (mk : Nat), .bool false] 74)).grownBy w' (some g)) ∨ ((w.alloc (.cells #[.int .u32 9999, .int .u32 (mk : Nat), .bool false] 74)).grownBy w' none ∧ ∀ j, two'.ownBlock = some j → (w.alloc (.cells #[.int .u32 9999, .int .u32 (mk : Nat), .bool false] 74)).heap.size ≤ j)) :=
    h2.imp_right (fun q => ⟨q.1, fun j hj => by have := q.2 j hj; rw [World.size_alloc]; omega⟩)
  have hv2 : w'.ownsRow 0 74 3 v n (flatC (full n mk)) := by
    refine beside hv1 h1 (by omega) hnew (fun g cap cap' e1 e2 => ?_)
    rcases h.t with ⟨g', cap'', ev, et⟩ | q
    · rw [e1] at et
      rw [e2] at ev
      simp only [Value.slice.injEq] at et ev
      exact ⟨by rw [ev.2.2, et.2.2], by omega, full_take n (n + k + 1) mk (by omega)⟩
    · have a1 := q g (by rw [e1]; rfl)
      have a2 := hA g (by rw [e2]; rfl)
      omega
  have ho2 : w'.ownsRow 0 74 3 one (n + 1) (flatC (full (n + 1) mk)) := by
    refine beside ho1 h1 (by omega) hnew (fun g cap cap' e1 e2 => ?_)
    rcases h.t with ⟨g', cap'', ev, et⟩ | q
    · rw [e1] at et
      simp only [Value.slice.injEq, Option.some.injEq, Addr.mk.injEq] at et
      obtain ⟨⟨rfl, _⟩, _, rfl⟩ := et
      rcases h.o with ⟨g'', cap3, ev', eo⟩ | q'
      · rw [e2] at eo
        rw [ev] at ev'
        simp only [Value.slice.injEq] at eo ev'
        exact ⟨by rw [eo.2.2, ev'.2.2], by omega, full_take (n + 1) (n + k + 1) mk (by omega)⟩
      · have a1 := q' g (by rw [e2]; rfl)
        have a2 := h.vb g (by rw [ev]; rfl)
        omega
    · have a1 := q g (by rw [e1]; rfl)
      have a2 := h.ob g (by rw [e2]; rfl)
      omega
  refine ⟨two', w', hr, ⟨hv2, ho2, h1, h.o, ?_, h.vb, h.ob, h.ab, Nat.le_trans h.bw C2.size⟩, C2⟩
  rcases h2 with ⟨g, cap, e1, e2, _⟩ | ⟨_, q⟩
  · rcases h.t with ⟨g', cap', ev, et⟩ | q
    · left
      rw [e1] at et
      simp only [Value.slice.injEq] at et
      refine ⟨g', cap', ev, ?_⟩
      rw [e2, et.1, et.2.2]; rfl
    · right
      intro b hb
      exact q b (by rw [e1]; rw [e2] at hb; exact hb)
  · right
    intro b hb
    exact Nat.le_trans h.bw (Nat.le_of_lt (q b hb))
end Go.Proofs.Ytppcfofkneaigab
