import Derived.Test.YtghiffpolacmiabGreatDoorUd
import Derived.ArgAppend
import Derived.Laws.OwnMore
namespace Go.Proofs.YtghiffpolacmiabGreatDoor
open Go.ChangeShapes Go.WideShapes Go.ChangeAt Go.RowKit
set_option linter.unusedVariables false

section
variable {P : Program} (w : World)

theorem loc_new {w w' : World} {e size : Nat} {v v' : Value} {n : Nat} {xs : List Value} (h : w'.ownsRow w.heap.size e size v' n xs) (hv : v' = .slice none 0 0 → v.ownBlock = none) : w'.ownsRow 0 e size v' n xs ∧ Loc w v v' := by
  rcases h.2 with ⟨rfl, rfl⟩ | ⟨g, cap, cur, rfl, hb, r⟩
  · exact ⟨⟨h.1, .inl ⟨rfl, rfl⟩⟩, .inl (by rw [hv rfl]; rfl)⟩
  · exact ⟨⟨h.1, .inr ⟨g, cap, cur, rfl, Nat.zero_le _, r⟩⟩, .inr ⟨g, rfl, hb⟩⟩

theorem run_app (t ty e : TypeId) (i : TypeInfo) (z : Value) (size bytes : Nat) (ht : P.underlying t = some (.slice e)) (hi : P.info? e = some i) (hz : i.zero = some z)
    (hsize : i.size = size) (hby : i.bytes = bytes) (hzs : z.cells.size = size) (hsz : 0 < size)
    (v : Value) (n : Nat) (xs : List Value) (hown : w.ownsRow 0 e size v n xs)
    (ao : Option Addr) (m c : Nat) (news : List Value) (hl : news.length = m * size)
    (hsrc : m = 0 ∨ ∃ b off, ao = some ⟨b, off, none⟩ ∧ ∀ j u, news[j]? = some u → w.cell? ⟨b, off + j, none⟩ = some u) (h1 : ∀ u ∈ news, u.oneCell' = true)
    (h63 : n + m ≤ maxLen) (hbytes : (n + m) * bytes ≤ 140737488355328) :
    ∃ v' w', (Builtin.append_ #[t, t] ty #[v, .slice ao m c]).run P w = .ok v' w' ∧ w'.ownsRow 0 e size v' (n + m) (xs ++ news) ∧ w.grownBy w' v.ownBlock ∧ Loc w v v' := by
  cases ao with
  | none =>
    obtain rfl : m = 0 := by rcases hsrc with h | ⟨b, off, h, _⟩; exact h; cases h
    obtain rfl : news = [] := List.eq_nil_of_length_eq_zero (by simpa using hl)
    refine ⟨v, w, ?_, by simpa using hown, ⟨rfl, rfl, rfl, Nat.le_refl _, fun _ _ _ => rfl⟩, .inl rfl⟩
    rcases hown.2 with ⟨rfl, rfl⟩ | ⟨g, cap, cur, rfl, _, _, hnc, _⟩
    · simp [Builtin.append_, run_underlying ht, sizeOf, typeInfo, hi, Builtin.lenOf, Builtin.firstCells]
    · simp [Builtin.append_, run_underlying ht, sizeOf, typeInfo, hi, Builtin.lenOf, Builtin.firstCells, hnc, storeCells]
  | some ad =>
    have hnews : ∀ j u, news[j]? = some u → w.cell? (ad.add j) = some u := by
      rcases hsrc with rfl | ⟨b, off, h, hc⟩
      · obtain rfl : news = [] := List.eq_nil_of_length_eq_zero (by simpa using hl)
        intro j u hu; simp at hu
      · simp only [Option.some.injEq] at h; subst h
        intro j u hu; rw [Addr.add_lit]; exact hc j u hu
    rcases hown.2 with ⟨rfl, rfl⟩ | ⟨g, cap, cur, rfl, hbg, hg, hnc, hcm, hcs, htake⟩
    · obtain rfl : xs = [] := List.eq_nil_of_length_eq_zero (by simpa using hown.1)
      obtain ⟨v', w', hr, h2, h3, h4⟩ := run_append_own (P := P) w w.heap.size t ty e i z size bytes ht hi hz hsize hby hzs hsz (.slice none 0 0) 0 [] (World.ownsRow_nil w _ e size) ad m c news hl hnews h1 h63 hbytes (Nat.le_refl _)
      obtain ⟨k1, k2⟩ := loc_new (v := .slice none 0 0) h2 (fun _ => rfl)
      exact ⟨v', w', hr, k1, h3, k2⟩
    · by_cases hroom : n + m ≤ cap
      · obtain ⟨w', hr, h2, h3⟩ := run_append_fits (P := P) w 0 t ty e i size ht hi hsize g n cap xs hown ad m c news hl hnews h1 hroom
        exact ⟨_, w', hr, h2, h3, .inl rfl⟩
      · have holds := hown.cells (g := g) rfl
        obtain ⟨v', w', hr, h2, h3⟩ := run_append_arg_grows (P := P) w t ty e i z size bytes ht hi hz hsize hby hzs hsz ⟨g, 0, none⟩ n cap xs hown.1 holds ad m c news hl hnews (by omega) h63 hbytes
        rcases h2.2 with ⟨_, h0⟩ | ⟨g', cap', cur', rfl, hb', r'⟩
        · omega
        · exact ⟨_, w', hr, ⟨h2.1, .inr ⟨g', cap', cur', rfl, Nat.zero_le _, r'⟩⟩, ⟨h3.os, h3.tape, h3.output, h3.size, fun k hk _ => h3.block k hk (by simp)⟩, .inr ⟨g', rfl, hb'⟩⟩

theorem wpList_append_run {ops : Array Oper} {rest : List Oper} {o : Oper} {a : Act} {Q : Exit → Act → World → Prop} (hgd : o.guard = none) (s x : Operand) (t u : TypeId)
    (ho : o.op = .call { callee := .builtin .append, args := #[s, x], argTypes := #[t, u] }) (v y v' : Value) (w' : World)
    (hs : a.eval s = v) (hx : a.eval x = y) (hrun : (Builtin.append_ #[t, u] o.type #[v, y]).run P w = .ok v' w')
    (h : wpList P ops Q rest (a.put o.dst v') w') : wpList P ops Q (o :: rest) a w := by
  refine wpList_plain hgd fun K hK => ?_
  unfold Oper.wp
  simp [execOp, ho, resolve, invoke, builtin, hs, hx, hrun, Result.andThen]
  exact hK _ _ h
end

theorem infoOf {e : TypeId} {z : Value} {s b : Nat} (h : (Tryz.prog.info? e).map (fun i => (i.zero, i.size, i.bytes)) = some (some z, s, b)) : ∃ i, Tryz.prog.info? e = some i ∧ i.zero = some z ∧ i.size = s ∧ i.bytes = b := by
  cases hq : Tryz.prog.info? e with
  | none => rw [hq] at h; cases h
  | some i =>
    rw [hq] at h
    have hz2 : i.zero = some z ∧ i.size = s ∧ i.bytes = b := by simpa using h
    exact ⟨i, rfl, hz2⟩
/-! The bus of the statements. -/
structure Lg where
  k : Int
  at' : Int
  size : Int
  v : Int
def Lg.cs (x : Lg) : List Value := [.int .u8 x.k, .int .u32 x.at', .int .i64 x.size, .int .u32 x.v]
structure Bd where
  wv : Value
  vv : Value
  cv : Value
  fv : Value
  ws : List Int
  vs : List Int
  cy : List Int
  fa : List Int
  tm : Int
  ln : Int
  od : Bool
  lv : Value
  lg : List Lg
  iw : Nat
  iv : Nat
  ic : Nat
  jf : Nat
def bxc (x : Bd) : List Value := [x.wv, x.vv, x.cv, x.fv, .int .u64 x.tm, .int .i64 x.ln, .bool x.od, x.lv, .int .i64 (x.iw : Nat), .int .i64 (x.iv : Nat), .int .i64 (x.ic : Nat), .int .i64 (x.jf : Nat)]
/-- A row of numbers that can be read. -/
def Rw (w : World) (k : IntKind) (v : Value) (l : List Int) : Prop :=
  ∃ a c, v = .slice a l.length c ∧ l.length ≤ c ∧ l.length < 4611686018427387904 ∧ (l = [] ∨ ∃ g o, a = some ⟨g, o, none⟩ ∧ g < w.heap.size ∧ ∀ (i : Nat) x, l[i]? = some x → w.cell? ⟨g, o + i, none⟩ = some (.int k x))
theorem Rw.chg {w w' : World} {S : Nat → Prop} {k : IntKind} {v : Value} {l : List Int} (h : Rw w k v l) (hc : Chg w w' S) (hn : ∀ g, v.ownBlock = some g → ¬ S g) : Rw w' k v l := by
  obtain ⟨a, c, rfl, h2, h3, h4⟩ := h
  refine ⟨a, c, rfl, h2, h3, ?_⟩
  rcases h4 with h | ⟨g, o, rfl, hl, hx⟩
  · exact .inl h
  · refine .inr ⟨g, o, rfl, Nat.lt_of_lt_of_le hl hc.size, fun i x hi => ?_⟩
    rw [hc.cell hl (hn g rfl)]
    exact hx i x hi
def Bd.row (x : Bd) (k : Nat) : Prop := x.wv.ownBlock = some k ∨ x.vv.ownBlock = some k ∨ x.cv.ownBlock = some k ∨ x.fv.ownBlock = some k
structure IsB (w : World) (bb : Nat) (x : Bd) : Prop where
  box : w.heap[bb]? = some (.cells (bxc x).toArray 36 (0, 0))
  ws : Rw w .u32 x.wv x.ws
  vs : Rw w .u32 x.vv x.vs
  cy : Rw w .i64 x.cv x.cy
  fa : Rw w .i64 x.fv x.fa
  lg : w.ownsRow 0 71 4 x.lv x.lg.length (x.lg.flatMap Lg.cs)
  ap : ∀ k, x.row k → k ≠ bb ∧ x.lv.ownBlock ≠ some k ∧ k < w.heap.size
  al : x.lv.ownBlock ≠ some bb
/-- What a bus has of its own. -/
def Bd.own (x : Bd) (bb k : Nat) : Prop := k = bb ∨ x.lv.ownBlock = some k
theorem IsB.cell {w : World} {bb : Nat} {x : Bd} (h : IsB w bb x) (i : Nat) (v : Value) (hv : (bxc x)[i]? = some v) : w.cell? ⟨bb, i, none⟩ = some v := by
  rw [(cells_at h.box i).1, List.getElem?_toArray, hv]
theorem IsB.fr {w : World} {bb : Nat} {x : Bd} (h : IsB w bb x) (i : Nat) : w.frozen? ⟨bb, i, none⟩ = false := (cells_at h.box i).2
theorem IsB.chg {S : Nat → Prop} {w w' : World} {bb : Nat} {x : Bd} (h : IsB w bb x) (hc : Chg w w' S) (hn : ∀ k, k < w.heap.size → (x.own bb k ∨ x.row k) → ¬ S k) : IsB w' bb x := by
  have hl := fun k (hk : x.row k) => (h.ap k hk).2.2
  refine ⟨hc.heap h.box (hn _ (hp_lt h.box) (.inl (.inl rfl))), h.ws.chg hc (fun g hg => hn g (hl g (.inl hg)) (.inr (.inl hg))), h.vs.chg hc (fun g hg => hn g (hl g (.inr (.inl hg))) (.inr (.inr (.inl hg)))), h.cy.chg hc (fun g hg => hn g (hl g (.inr (.inr (.inl hg)))) (.inr (.inr (.inr (.inl hg))))), h.fa.chg hc (fun g hg => hn g (hl g (.inr (.inr (.inr hg)))) (.inr (.inr (.inr (.inr hg))))), ?_, fun k hk => ⟨(h.ap k hk).1, (h.ap k hk).2.1, Nat.lt_of_lt_of_le (h.ap k hk).2.2 hc.size⟩, h.al⟩
  refine hc.owns h.lg (fun k hk => hn k ?_ (.inl (.inr hk)))
  rcases h.lg.2 with ⟨h1, h2⟩ | ⟨g, cap, cur, h1, h2, h3, _⟩
  · rw [h1] at hk; cases hk
  · rw [h1] at hk; cases hk; exact hp_lt h3
theorem IsB.kp {w w' : World} {bb : Nat} {x : Bd} (h : IsB w bb x) (hc : Kp w w') : IsB w' bb x := h.chg hc (fun _ _ _ h => h)
/-- A number in the box is written. -/
theorem IsB.set {w : World} {bb : Nat} {x : Bd} (h : IsB w bb x) (i : Nat) (v : Value) (y : Bd) (hy : (bxc x).set i v = bxc y) (hr : (y.wv, y.vv, y.cv, y.fv, y.ws, y.vs, y.cy, y.fa, y.lv, y.lg) = (x.wv, x.vv, x.cv, x.fv, x.ws, x.vs, x.cy, x.fa, x.lv, x.lg)) :
    IsB (w.setCell ⟨bb, i, none⟩ v) bb y ∧ Chg w (w.setCell ⟨bb, i, none⟩ v) (fun k => k = bb) := by
  have hc : Chg w (w.setCell ⟨bb, i, none⟩ v) (fun k => k = bb) := Chg.setCell (S := fun k => k = bb) (Chg.refl w _) (.inl rfl) v
  simp only [Prod.mk.injEq] at hr
  obtain ⟨e1, e2, e3, e4, e5, e6, e7, e8, e9, e10⟩ := hr
  have hrow : ∀ k, y.row k ↔ x.row k := fun k => by unfold Bd.row; rw [e1, e2, e3, e4]
  refine ⟨⟨?_, ?_, ?_, ?_, ?_, ?_, ?_, ?_⟩, hc⟩
  · rw [heap_setCell_same w bb i _ 36 v h.box, ← hy]; congr 2; simp
  · rw [e1, e5]; exact h.ws.chg hc (fun g hg => (h.ap g (.inl hg)).1)
  · rw [e2, e6]; exact h.vs.chg hc (fun g hg => (h.ap g (.inr (.inl hg))).1)
  · rw [e3, e7]; exact h.cy.chg hc (fun g hg => (h.ap g (.inr (.inr (.inl hg)))).1)
  · rw [e4, e8]; exact h.fa.chg hc (fun g hg => (h.ap g (.inr (.inr (.inr hg)))).1)
  · rw [e9, e10]; exact hc.owns h.lg (fun k hk e => h.al (by rw [hk, e]))
  · intro k hk
    rw [hrow] at hk
    rw [e9]
    exact ⟨(h.ap k hk).1, (h.ap k hk).2.1, by have := (h.ap k hk).2.2; simpa [World.setCell] using this⟩
  · rw [e9]; exact h.al
def Bd.le (x : Bd) (n : Nat) : Prop := x.iw ≤ n ∧ x.iv ≤ n ∧ x.ic ≤ n ∧ x.jf ≤ n ∧ x.lg.length ≤ n
theorem info42 : (Tryz.prog.info? 71).map (fun i => (i.zero, i.size, i.bytes)) = some (some (.agg #[.int .u8 0, .int .u32 0, .int .i64 0, .int .u32 0]), 4, 24) := by kernel_rfl
/-- What a call leaves of the bus. -/
def BLoc (w : World) (x y : Bd) : Prop := y.lv.ownBlock = x.lv.ownBlock ∨ ∃ k, y.lv.ownBlock = some k ∧ w.heap.size ≤ k
/-- What it was asked is kept. -/
theorem IsB.log {w : World} {bb : Nat} {x : Bd} (h : IsB w bb x) (e : Lg) (hn : x.lg.length < 1000000) :
    ∃ v' w', (Builtin.append_ #[34, 34] 34 #[x.lv, .slice (some ⟨w.heap.size, 0, none⟩) 1 1]).run Tryz.prog (w.alloc (.cells #[.int .u8 e.k, .int .u32 e.at', .int .i64 e.size, .int .u32 e.v] 71)) = .ok v' w' ∧
      w'.heap[bb]? = some (.cells (bxc x).toArray 36 (0, 0)) ∧ IsB (w'.setCell ⟨bb, 7, none⟩ v') bb { x with lv := v', lg := x.lg ++ [e] } ∧ Chg w (w'.setCell ⟨bb, 7, none⟩ v') (x.own bb) ∧ BLoc w x { x with lv := v', lg := x.lg ++ [e] } ∧ ∃ g c, v' = .slice (some ⟨g, 0, none⟩) (x.lg.length + 1) c := by
  obtain ⟨i0, hi, hz, hs, hb⟩ := infoOf info42
  have ha : (w.alloc (.cells #[.int .u8 e.k, .int .u32 e.at', .int .i64 e.size, .int .u32 e.v] 71)).ownsRow 0 71 4 x.lv x.lg.length (x.lg.flatMap Lg.cs) := Chg.owns ((Chg.refl w (fun _ => False)).alloc _) h.lg (fun _ _ h => h)
  obtain ⟨v', w', hr, ho, hg, hL⟩ := run_app (P := Tryz.prog) (w.alloc (.cells #[.int .u8 e.k, .int .u32 e.at', .int .i64 e.size, .int .u32 e.v] 71)) 34 34 71 i0 _ 4 24 Tryz.underlying34 hi hz hs hb rfl (by omega) x.lv _ _ ha (some ⟨w.heap.size, 0, none⟩) 1 1 e.cs rfl (.inr ⟨_, _, rfl, fun j u hu => by
    rw [(cells_at (heap_alloc_new w _) _).1]
    simpa [Lg.cs] using hu⟩) (by simp [Lg.cs, Value.oneCell']) (by simp [maxLen]; omega) (by omega)
  have hc : Chg w w' (fun i => x.lv.ownBlock = some i) := Chg.grown ((Chg.refl w _).alloc _) hg (fun k hk => .inl hk)
  have hbox := hc.heap h.box (fun e => h.al e)
  have hc2 : Chg w (w'.setCell ⟨bb, 7, none⟩ v') (x.own bb) := Chg.setCell (Chg.mono hc (fun i _ h => .inr h)) (.inl (.inl rfl)) v'
  have hL2 : v'.ownBlock = x.lv.ownBlock ∨ ∃ k, v'.ownBlock = some k ∧ w.heap.size ≤ k := by
    rcases hL with h | ⟨k, h1, h2⟩
    · exact .inl h
    · exact .inr ⟨k, h1, by simp at h2; omega⟩
  have hvb : v'.ownBlock ≠ some bb := by
    rcases hL2 with h1 | ⟨k, h1, h2⟩
    · rw [h1]; exact h.al
    · rw [h1]
      intro e
      cases e
      have := hp_lt h.box
      omega
  have hap : ∀ k, x.row k → ¬ x.own bb k := fun k hk ho => by
    rcases ho with e | e
    · exact (h.ap k hk).1 e
    · exact (h.ap k hk).2.1 e
  refine ⟨v', w', hr, hbox, ⟨?_, h.ws.chg hc2 (fun g hg => hap g (.inl hg)), h.vs.chg hc2 (fun g hg => hap g (.inr (.inl hg))), h.cy.chg hc2 (fun g hg => hap g (.inr (.inr (.inl hg)))), h.fa.chg hc2 (fun g hg => hap g (.inr (.inr (.inr hg)))), ?_, ?_, hvb⟩, hc2, hL2, ?_⟩
  · rw [heap_setCell_same w' bb 7 _ 36 v' hbox]
    rfl
  · have := Chg.owns (Chg.setCell (S := fun k => k = bb) (Chg.refl w' _) (p := ⟨bb, 7, none⟩) (.inl rfl) v') ho (fun k hk e => hvb (by rw [hk, e]))
    simpa [List.flatMap_append, List.length_append, Lg.cs] using this
  · intro k hk
    have h3 := (h.ap k hk).2.2
    refine ⟨(h.ap k hk).1, fun e => ?_, Nat.lt_of_lt_of_le h3 hc2.size⟩
    rcases hL2 with h1 | ⟨j, h1, h2⟩
    · exact (h.ap k hk).2.1 (by rw [← h1]; exact e)
    · rw [h1] at e
      cases e
      omega
  · rcases ho.2 with ⟨_, h0⟩ | ⟨g, cap, cur, hv, _⟩
    · omega
    · exact ⟨g, cap, hv⟩
end Go.Proofs.YtghiffpolacmiabGreatDoor
namespace Go.Proofs.YtghiffpolacmiabGreatDoor
open Go.ChangeShapes Go.WideShapes Go.ChangeAt Go.RowKit
set_option linter.unusedVariables false

def nxt (l : List Int) (i : Nat) : Int := l.getD (min i (l.length - 1)) 0
theorem next_same (w : World) (i m : Nat) (hm : 0 < m) (hb : m < 4611686018427387904) :
    Calls Tryz.prog 26 #[.int .i64 (i : Nat), .int .i64 (m : Nat)] w fun e w' => e = .returned (.int .i64 ((min i (m - 1) : Nat) : Int)) ∧ w' = w := by
  by_cases h : m ≤ i
  · rw [show min i (m - 1) = m - 1 by omega]
    have h1 : (m : Int) ≤ (i : Int) := by omega
    have h2 : ((m - 1 : Nat) : Int) = (m : Int) - 1 := by omega
    rw [h2]
    have h3 : wrap64 ((m : Int) - 1) = (m : Int) - 1 := by simp only [wrap64]; omega
    clear h2
    go_enter Tryz.func26, Tryz.ntmps26
    go_wp2
    go_ret
    exact ⟨rfl, rfl⟩
  · rw [show min i (m - 1) = i by omega]
    have h1 : ¬ (m : Int) ≤ (i : Int) := by omega
    go_enter Tryz.func26, Tryz.ntmps26
    go_wp2
    go_ret
    exact ⟨rfl, rfl⟩
/-- A row that has some: where it is read. -/
theorem Rw.at {w : World} {k : IntKind} {v : Value} {l : List Int} (h : Rw w k v l) (hl : l ≠ []) (i : Nat) : ∃ g o c, v = .slice (some ⟨g, o, none⟩) l.length c ∧ g < w.heap.size ∧ 0 < l.length ∧ l.length < 4611686018427387904 ∧ min i (l.length - 1) < l.length ∧ w.cell? ⟨g, o + min i (l.length - 1), none⟩ = some (.int k (nxt l i)) := by
  obtain ⟨a, c, rfl, h2, h3, h4⟩ := h
  rcases h4 with h | ⟨g, o, rfl, hg, hx⟩
  · exact absurd h hl
  · have hp : 0 < l.length := List.length_pos_iff.2 hl
    have hm : min i (l.length - 1) < l.length := by omega
    refine ⟨g, o, c, rfl, hg, hp, h3, hm, hx _ _ ?_⟩
    unfold nxt
    rw [List.getD_eq_getElem?_getD, List.getElem?_eq_getElem hm]
    rfl
theorem Rw.nil {w : World} {k : IntKind} {v : Value} (h : Rw w k v []) : ∃ a c, v = .slice a 0 c := by
  obtain ⟨a, c, rfl, _⟩ := h
  exact ⟨a, c, rfl⟩
def Bd.paid (x : Bd) : Bd := { x with ic := x.ic + 1, jf := x.jf + 1 }
theorem IsB.pay {w : World} {bb : Nat} {x : Bd} (h : IsB w bb x) : IsB ((w.setCell ⟨bb, 10, none⟩ (.int .i64 ((x.ic + 1 : Nat) : Int))).setCell ⟨bb, 11, none⟩ (.int .i64 ((x.jf + 1 : Nat) : Int))) bb x.paid ∧ Chg w ((w.setCell ⟨bb, 10, none⟩ (.int .i64 ((x.ic + 1 : Nat) : Int))).setCell ⟨bb, 11, none⟩ (.int .i64 ((x.jf + 1 : Nat) : Int))) (fun k => k = bb) := by
  obtain ⟨i1, k1⟩ := h.set 10 (.int .i64 ((x.ic + 1 : Nat) : Int)) { x with ic := x.ic + 1 } rfl rfl
  obtain ⟨i2, k2⟩ := i1.set 11 (.int .i64 ((x.jf + 1 : Nat) : Int)) x.paid rfl rfl
  exact ⟨i2, Chg.trans k1 k2 (fun _ _ e => e)⟩
theorem w1 {n : Nat} (h : n < 1000000) : wrap64 ((n : Int) + 1) = ((n + 1 : Nat) : Int) := by simp only [wrap64]; omega
theorem cost_any (w : World) (bb : Nat) (x : Bd) (h : IsB w bb x) (hx : x.le 999999) :
    Calls Tryz.prog 25 #[.pointer (some ⟨bb, 0, none⟩)] w fun e w' => e = .returned (.tuple #[.int .i64 (nxt x.cy x.ic), .int .i64 (nxt x.fa x.jf)]) ∧ IsB w' bb x.paid ∧ Chg w w' (fun k => k = bb) := by
  have c2 := h.cell 2 x.cv rfl
  have c3 := h.cell 3 x.fv rfl
  have c10 := h.cell 10 _ rfl
  have c11 := h.cell 11 _ rfl
  have f10 := h.fr 10
  have f11 := h.fr 11
  have e10 := w1 (n := x.ic) (by have := hx.2.2.1; omega)
  have e11 := w1 (n := x.jf) (by have := hx.2.2.2.1; omega)
  have hN := fun w i m hm hb => next_same w i m hm hb
  have hcz : ∀ i, nxt [] i = 0 := fun i => rfl
  have hP : Hid (∀ n m, IsB _ bb x.paid ∧ Chg w _ (fun k => k = bb)) := fun n m => ⟨(IsB.pay (h.kp (((Kp.refl w).drewN n).drewN m))).1, Chg.trans (Kp.any (((Kp.refl w).drewN n).drewN m)) (IsB.pay (h.kp (((Kp.refl w).drewN n).drewN m))).2 (fun _ _ e => e)⟩
  have hP1 : Hid (∀ n, IsB _ bb x.paid ∧ Chg w _ (fun k => k = bb)) := fun n => ⟨(IsB.pay (h.kp ((Kp.refl w).drewN n))).1, Chg.trans (Kp.any ((Kp.refl w).drewN n)) (IsB.pay (h.kp ((Kp.refl w).drewN n))).2 (fun _ _ e => e)⟩
  have hP0 : Hid (IsB _ bb x.paid ∧ Chg w _ (fun k => k = bb)) := ⟨(IsB.pay h).1, (IsB.pay h).2⟩
  have hcy := h.cy
  have hfa := h.fa
  clear h
  by_cases hc : x.cy = []
  · rw [hc] at hcy ⊢
    obtain ⟨a1, d1, q1⟩ := hcy.nil
    rw [q1] at c2
    by_cases hf : x.fa = []
    · rw [hf] at hfa ⊢
      obtain ⟨a2, d2, q2⟩ := hfa.nil
      rw [q2] at c3
      go_enter Tryz.func25, Tryz.ntmps25
      go_wp2
      go_ret2
      exact ⟨rfl, hP0.out⟩
    · obtain ⟨g2, o2, d2, q2, _, p2, b2, m2, z2⟩ := hfa.at hf x.jf
      rw [q2] at c3
      generalize nxt x.fa x.jf = u2 at *
      generalize x.fa.length = l2 at *
      have m2' : ((min x.jf (l2 - 1) : Nat) : Int) < (l2 : Int) := by omega
      go_enter Tryz.func25, Tryz.ntmps25
      go_upto_region 6 with (fail)
      go_quiet (first | (go_at_call 26; exact Calls.quiet_of_same (hN _ _ _ p2 b2)))
      go_wp2
      go_ret2
      exact ⟨rfl, hP1.out _⟩
  · obtain ⟨g1, o1, d1, q1, _, p1, b1, m1, z1⟩ := hcy.at hc x.ic
    rw [q1] at c2
    generalize nxt x.cy x.ic = u1 at *
    generalize x.cy.length = l1 at *
    have m1' : ((min x.ic (l1 - 1) : Nat) : Int) < (l1 : Int) := by omega
    by_cases hf : x.fa = []
    · rw [hf] at hfa ⊢
      obtain ⟨a2, d2, q2⟩ := hfa.nil
      rw [q2] at c3
      go_enter Tryz.func25, Tryz.ntmps25
      go_upto_region 4 with (fail)
      go_quiet (first | (go_at_call 26; exact Calls.quiet_of_same (hN _ _ _ p1 b1)))
      go_wp2
      go_ret2
      exact ⟨rfl, hP1.out _⟩
    · obtain ⟨g2, o2, d2, q2, _, p2, b2, m2, z2⟩ := hfa.at hf x.jf
      rw [q2] at c3
      generalize nxt x.fa x.jf = u2 at *
      generalize x.fa.length = l2 at *
      have m2' : ((min x.jf (l2 - 1) : Nat) : Int) < (l2 : Int) := by omega
      have c3n : ∀ n, (w.drewN n).cell? ⟨bb, 3, none⟩ = some (.slice (some ⟨g2, o2, none⟩) l2 d2) := fun n => c3
      have c11n : ∀ n, (w.drewN n).cell? ⟨bb, 11, none⟩ = some (.int .i64 (x.jf : Nat)) := fun n => c11
      have z2n : ∀ n, (w.drewN n).cell? ⟨g2, o2 + min x.jf (l2 - 1), none⟩ = some (.int .i64 u2) := fun n => z2
      go_enter Tryz.func25, Tryz.ntmps25
      go_upto_region 4 with (fail)
      go_quiet (first | (go_at_call 26; exact Calls.quiet_of_same (hN _ _ _ p1 b1)))
      have y1 := c3n nq
      have y2 := c11n nq
      have y3 := z2n nq
      have y4 : (w.drewN nq).cell? ⟨bb, 10, none⟩ = some (.int .i64 (x.ic : Nat)) := c10
      have y5 : (w.drewN nq).frozen? ⟨bb, 10, none⟩ = false := f10
      have y6 : (w.drewN nq).frozen? ⟨bb, 11, none⟩ = false := f11
      have HPW : Hid (∀ m, IsB ((((w.drewN nq).drewN m).setCell ⟨bb, 10, none⟩ (.int .i64 ((x.ic + 1 : Nat) : Int))).setCell ⟨bb, 11, none⟩ (.int .i64 ((x.jf + 1 : Nat) : Int))) bb x.paid ∧ Chg w ((((w.drewN nq).drewN m).setCell ⟨bb, 10, none⟩ (.int .i64 ((x.ic + 1 : Nat) : Int))).setCell ⟨bb, 11, none⟩ (.int .i64 ((x.jf + 1 : Nat) : Int))) (fun k => k = bb)) := hP.out nq
      clear c3n c11n z2n c10 c11 f10 f11 c3 z1 z2 c2 hP hP1 hP0
      generalize w.drewN nq = W at *
      go_upto_region 6 with (fail)
      go_quiet (first | (go_at_call 26; exact Calls.quiet_of_same (hN _ _ _ p2 b2)))
      go_wp2
      go_ret2
      exact ⟨rfl, HPW.out _⟩
end Go.Proofs.YtghiffpolacmiabGreatDoor
