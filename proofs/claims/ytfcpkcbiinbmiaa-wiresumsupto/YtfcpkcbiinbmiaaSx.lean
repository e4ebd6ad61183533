import Derived.Test.YtfcpkcbiinbmiaaSu
namespace Go.Proofs.Ytfcpkcbiinbmiaa
open Go.ChangeShapes Go.WideShapes Go.ChangeAt Go.RowKit
set_option linter.unusedVariables false

/-- The bytes of a part's copy: written over, if it was looked at. -/
def copyB (p : Part) (done : Bool) : List Int := if done then List.replicate (p.len + 2) 238 else p.bs ++ [90, 165]

/-- Behind the first loop: k copies are written over. -/
structure Kept (w0 wr : World) (ps : List Part) (k : Nat) (vo vf va ox : Value) (gs : List (Nat × Nat)) : Prop where
  below : Below w0.heap.size w0 wr
  len : gs.length = ps.length
  full : wr.ownsRow 0 22 1 vf ps.length (List.zipWith fullV ps gs)
  own : wr.ownsRow 0 22 1 vo (ps.length + 1) (List.zipWith ownV ps gs ++ [ox])
  all : OwnB wr va (allBytes ps)
  each : ∀ i (h : i < gs.length) (hp : i < ps.length), OwnB wr (fullV ps[i] gs[i]) (copyB ps[i] (decide (i < k))) ∧ ps[i].len + 2 ≤ gs[i].2 ∧ w0.heap.size ≤ gs[i].1
  apart : ∀ i j (hi : i < gs.length) (hj : j < gs.length), i ≠ j → gs[i].1 ≠ gs[j].1
  apartA : ∀ i (hi : i < gs.length), va.ownBlock ≠ some gs[i].1
  newO : ∀ k, vo.ownBlock = some k → w0.heap.size ≤ k
  newF : ∀ k, vf.ownBlock = some k → w0.heap.size ≤ k
  newA : ∀ k, va.ownBlock = some k → w0.heap.size ≤ k

/-- The append of one list more. -/
theorem Made.last {w0 wr : World} {ps : List Part} {vo vf va : Value} {gs : List (Nat × Nat)} (h : Made w0 wr ps ps.length vo vf va gs) (hps : ps.length ≤ 1048576) :
    ∃ go capo w3, (Builtin.append_ #[28, 28] 28 #[vo, .slice (some ⟨wr.heap.size + 1, 0, none⟩) 1 1]).run Try.prog ((wr.alloc (.cells #[.int .u8 119] 5)).alloc (.cells #[.slice (some ⟨wr.heap.size, 0, none⟩) 1 1] 22)) = .ok (.slice (some ⟨go, 0, none⟩) (ps.length + 1) capo) w3 ∧
      ps.length + 1 ≤ capo ∧ w3.cell? ⟨wr.heap.size, 0, none⟩ = some (.int .u8 119) ∧ Kept w0 w3 ps 0 (.slice (some ⟨go, 0, none⟩) (ps.length + 1) capo) vf va (.slice (some ⟨wr.heap.size, 0, none⟩) 1 1) gs := by
  obtain ⟨hb, hl, hfull, hown, hall, heach, hap, hapA, hapV, nO, nF, nA⟩ := h
  have hA : Chg wr (wr.alloc (.cells #[.int .u8 119] 5)) (fun _ => False) := (Chg.refl _ _).alloc _
  have f1 := hA.owns hfull (by simp)
  have o1 := hA.owns hown (by simp)
  have a1 := hall.chg hA (by simp)
  obtain ⟨vo', w3, r3, o3, c3, l3⟩ := run_appL (wr.alloc (.cells #[.int .u8 119] 5)) vo ps.length _ o1 (some ⟨wr.heap.size, 0, none⟩) 1 1 hps 28
  have e1 : (wr.alloc (.cells #[.int .u8 119] 5)).heap.size = wr.heap.size + 1 := by simp
  rw [e1] at r3
  have hsh : ∃ go capo, vo' = .slice (some ⟨go, 0, none⟩) (ps.length + 1) capo ∧ ps.length + 1 ≤ capo := by
    rcases o3.2 with ⟨_, h0⟩ | ⟨g, cap, cur, rfl, _, _, hnc, _⟩
    · omega
    · exact ⟨g, cap, rfl, hnc⟩
  obtain ⟨go, capo, rfl, hcapo⟩ := hsh
  have hx : (wr.alloc (.cells #[.int .u8 119] 5)).heap[wr.heap.size]? = some (.cells #[.int .u8 119] 5 (0, 0)) := heap_alloc_new wr _
  have hlt : ∀ j, vo.ownBlock = some j → j < wr.heap.size := own_lt hown
  have hx3 := c3.heap hx (fun e => by have := hlt _ e; omega)
  have htk : ps.take ps.length = ps := List.take_length
  rw [htk] at hfull hown hall f1 a1 o3
  refine ⟨go, capo, w3, r3, hcapo, by have := (cells_at hx3 0).1; simpa using this, ⟨?_, hl, c3.owns f1 (fun j hj e => hapV j e hj), o3, a1.chg c3 (fun j hj e => rows_apart o1 a1.1 j e hj), ?_, hap, hapA, ?_, nF, nA⟩⟩
  · exact (hb.trans (hA.below hb.size (by simp))).trans (c3.below (by have := hb.size; omega) (fun j hj e => by have := nO j e; omega))
  · intro i hi hp
    obtain ⟨q1, q2, q3⟩ := heach i hi hp
    refine ⟨?_, q2, q3⟩
    have y1 := q1.chg hA (by simp)
    simpa [copyB] using y1.chg c3 (fun j hj e => rows_apart o1 y1.1 j e hj)
  · intro j hj
    rcases l3 with e | ⟨q, e, hq⟩
    · exact nO j (by rw [← e]; exact hj)
    · rw [e] at hj; simp at hj; have := hb.size; omega

theorem zip_get (ps : List Part) (gs : List (Nat × Nat)) (f : Part → Nat × Nat → Value) (i : Nat) (h : i < ps.length) (hl : gs.length = ps.length) : (List.zipWith f ps gs)[i]? = some (f ps[i] (gs[i]'(by omega))) := by
  simp [List.getElem?_zipWith, List.getElem?_eq_getElem h, List.getElem?_eq_getElem (show i < gs.length by omega)]

/-- A row's cell. -/
theorem row_cell {w : World} {v : Value} {n : Nat} {xs : List Value} (h : w.ownsRow 0 22 1 v n xs) {i : Nat} {u : Value} (hi : xs[i]? = some u) : ∃ g cap, v = .slice (some ⟨g, 0, none⟩) n cap ∧ n ≤ cap ∧ w.cell? ⟨g, i, none⟩ = some u := by
  have hlt := (List.getElem?_eq_some_iff.1 hi).1
  rcases h.2 with ⟨_, h0⟩ | ⟨g, cap, cur, rfl, _, _, hnc, _⟩
  · have := h.1; omega
  · refine ⟨g, cap, rfl, hnc, ?_⟩
    rw [h.cellAt i (by have := h.1; omega)]; exact hi

/-- One copy is looked at, and written over. -/
theorem Kept.step {w0 wr w' : World} {ps : List Part} {k : Nat} {vo vf va ox : Value} {gs : List (Nat × Nat)} (h : Kept w0 wr ps k vo vf va ox gs) (hk : k < ps.length) (hk2 : k < gs.length)
    (ho : OwnB w' (fullV ps[k] gs[k]) (List.replicate (ps[k].len + 2) 238)) (hc : Chg wr w' (fun j => j = gs[k].1)) : Kept w0 w' ps (k + 1) vo vf va ox gs := by
  obtain ⟨hb, hl, hfull, hown, hall, heach, hap, hapA, nO, nF, nA⟩ := h
  obtain ⟨x1, x2, x3⟩ := heach k hk2 hk
  refine ⟨hb.trans (hc.below hb.size (fun j hj e => by omega)), hl, hc.owns hfull (fun j hj e => rows_apart hfull x1.1 j hj (by rw [e]; rfl)), hc.owns hown (fun j hj e => rows_apart hown x1.1 j hj (by rw [e]; rfl)), hall.chg hc (fun j hj e => hapA k hk2 (by rw [← e]; exact hj)), ?_, hap, hapA, nO, nF, nA⟩
  intro i hi hp
  obtain ⟨q1, q2, q3⟩ := heach i hi hp
  refine ⟨?_, q2, q3⟩
  by_cases hik : i = k
  · subst hik
    simpa [copyB] using ho
  · have e : decide (i < k + 1) = decide (i < k) := by simp; omega
    rw [e]
    exact q1.chg hc (fun j hj e => by
      simp [fullV, Value.ownBlock] at hj
      exact hap i k hi hk2 hik (by rw [hj, e]))

/-- The parts as the copies show them. -/
def shownP (p : Part) (g : Nat × Nat) : Part := ⟨some ⟨g.1, 0, none⟩, p.len, g.2, p.bs⟩
def turnedP (p : Part) (g : Nat × Nat) : Part := ⟨some ⟨g.1, 0, none⟩, p.len, g.2, List.replicate p.len 238⟩
def turnedB (ps : List Part) : List Int := ps.flatMap (fun p => List.replicate p.len 238)

theorem shown_bytes : ∀ (ps : List Part) (gs : List (Nat × Nat)), gs.length = ps.length → allBytes (List.zipWith shownP ps gs) = allBytes ps
  | [], [], _ => rfl
  | p :: ps, g :: gs, h => by
    have := shown_bytes ps gs (by simpa using h)
    simp only [allBytes] at this
    simp [allBytes, shownP, this]
  | [], _ :: _, h => by simp at h
  | _ :: _, [], h => by simp at h
theorem turned_bytes : ∀ (ps : List Part) (gs : List (Nat × Nat)), gs.length = ps.length → allBytes (List.zipWith turnedP ps gs) = turnedB ps
  | [], [], _ => rfl
  | p :: ps, g :: gs, h => by
    have := turned_bytes ps gs (by simpa using h)
    simp only [allBytes, turnedB] at this
    simp [allBytes, turnedB, turnedP, this]
  | [], _ :: _, h => by simp at h
  | _ :: _, [], h => by simp at h

/-- The first bytes of one's own. -/
theorem OwnB.front {w : World} {g cap : Nat} {xs ys : List Int} (h : OwnB w (.slice (some ⟨g, 0, none⟩) (xs ++ ys).length cap) (xs ++ ys)) (hl : xs.length ≤ 140737488355328) : Bs w (some ⟨g, 0, none⟩) xs.length xs := by
  refine ⟨rfl, hl, fun n hn => h.2 n (by simp [hn]), .inr ⟨g, 0, rfl, fun i hi => ?_⟩⟩
  rw [Nat.zero_add, (h.cellAt i (by simp; omega)).1]
  simp [List.getElem?_append_left hi]

/-- The sum of the shown, and of the turned. -/
theorem Kept.sum {w0 wr : World} {ps : List Part} {k : Nat} {go capo : Nat} {vf va ox : Value} {gs : List (Nat × Nat)} (h : Kept w0 wr ps k (.slice (some ⟨go, 0, none⟩) (ps.length + 1) capo) vf va ox gs) (hps : ps.length ≤ 1048576) (hl : ∀ p ∈ ps, p.bs.length = p.len ∧ p.len ≤ 1048576) (c : Nat) :
    (k = 0 → Calls Try.prog 11 #[.slice (some ⟨go, 0, none⟩) ps.length c] wr fun e w' => e = .returned (.int .u32 (crc (allBytes ps) : Nat)) ∧ w' = wr) ∧
    (k = ps.length → Calls Try.prog 11 #[.slice (some ⟨go, 0, none⟩) ps.length c] wr fun e w' => e = .returned (.int .u32 (crc (turnedB ps) : Nat)) ∧ w' = wr) := by
  have hcell : ∀ i (hi : i < ps.length), wr.cell? ⟨go, 0 + i, none⟩ = some (.slice (some ⟨(gs[i]'(by have := h.len; omega)).1, 0, none⟩) ps[i].len (gs[i]'(by have := h.len; omega)).2) := by
    intro i hi
    have hz := zip_get ps gs ownV i hi h.len
    have hz2 : (List.zipWith ownV ps gs ++ [ox])[i]? = some (ownV ps[i] (gs[i]'(by have := h.len; omega))) := by
      rw [List.getElem?_append_left (by simp [h.len]; omega)]; exact hz
    obtain ⟨g', cap', e, _, hc⟩ := row_cell h.own hz2
    simp only [Value.slice.injEq, Option.some.injEq, Addr.mk.injEq, and_true, true_and] at e
    rw [← e.1] at hc
    rw [Nat.zero_add]
    exact hc
  constructor
  · intro hk
    have hlz : (List.zipWith shownP ps gs).length = ps.length := by simp [h.len]
    have := sum_any (List.zipWith shownP ps gs) (some ⟨go, 0, none⟩) c wr (by omega) (.inr ⟨go, 0, rfl, fun i hi => by
      simp only [hlz] at hi
      simp only [List.getElem_zipWith, shownP]
      exact hcell i hi⟩) (by
        intro p hp
        obtain ⟨i, hi, rfl⟩ := List.mem_iff_getElem.1 hp
        simp only [hlz] at hi
        simp only [List.getElem_zipWith, shownP]
        have hg : i < gs.length := by have := h.len; omega
        have hx := (h.each i hg hi).1
        simp only [copyB, hk, Nat.not_lt_zero, decide_false, fullV] at hx
        have hb := hl ps[i] (List.getElem_mem hi)
        have hx' : OwnB wr (.slice (some ⟨gs[i].1, 0, none⟩) (ps[i].bs ++ [90, 165]).length gs[i].2) (ps[i].bs ++ [90, 165]) := by
          simpa [hb.1] using hx
        have := hx'.front (by omega)
        rw [hb.1] at this
        exact this)
    rw [hlz, shown_bytes ps gs h.len] at this
    exact this
  · intro hk
    have hlz : (List.zipWith turnedP ps gs).length = ps.length := by simp [h.len]
    have := sum_any (List.zipWith turnedP ps gs) (some ⟨go, 0, none⟩) c wr (by omega) (.inr ⟨go, 0, rfl, fun i hi => by
      simp only [hlz] at hi
      simp only [List.getElem_zipWith, turnedP]
      exact hcell i hi⟩) (by
        intro p hp
        obtain ⟨i, hi, rfl⟩ := List.mem_iff_getElem.1 hp
        simp only [hlz] at hi
        simp only [List.getElem_zipWith, turnedP]
        have hg : i < gs.length := by have := h.len; omega
        have hx := (h.each i hg hi).1
        have hb := hl ps[i] (List.getElem_mem hi)
        have e : copyB ps[i] (decide (i < k)) = List.replicate ps[i].len 238 ++ [238, 238] := by
          simp only [copyB, hk, hi, decide_true, if_true]
          rw [← List.replicate_append_replicate]; rfl
        rw [e] at hx
        have hx' : OwnB wr (.slice (some ⟨gs[i].1, 0, none⟩) (List.replicate ps[i].len (238 : Int) ++ [238, 238]).length gs[i].2) (List.replicate ps[i].len 238 ++ [238, 238]) := by
          simpa [fullV] using hx
        have := hx'.front (by simp; omega)
        simpa using this)
    rw [hlz, turned_bytes ps gs h.len] at this
    exact this

/-- The last loop: the turned bytes are gathered. -/
structure Turned (w0 wr : World) (ps : List Part) (j : Nat) (vo vf va ox vt : Value) (gs : List (Nat × Nat)) : Prop where
  kept : Kept w0 wr ps ps.length vo vf va ox gs
  own : OwnB wr vt (turnedB (ps.take j))
  apartA : ∀ k, vt.ownBlock = some k → va.ownBlock ≠ some k
  apartG : ∀ i (hi : i < gs.length), vt.ownBlock ≠ some gs[i].1
  new : ∀ k, vt.ownBlock = some k → w0.heap.size ≤ k

theorem turnedB_take (ps : List Part) (k : Nat) (h : k < ps.length) : turnedB (ps.take (k + 1)) = turnedB (ps.take k) ++ List.replicate ps[k].len 238 := by
  simp only [turnedB, List.take_succ_eq_append_getElem h, List.flatMap_append, List.flatMap_cons, List.flatMap_nil, List.append_nil]

theorem Turned.start {w0 wr : World} {ps : List Part} {vo vf va ox : Value} {gs : List (Nat × Nat)} (h : Kept w0 wr ps ps.length vo vf va ox gs) : Turned w0 wr ps 0 vo vf va ox (.slice none 0 0) gs := by
  refine ⟨h, OwnB.nil _, ?_, ?_, ?_⟩
  · intro k hk; cases hk
  · intro i hi e; cases e
  · intro k hk; cases hk

theorem Turned.round {w0 wr : World} {ps : List Part} {j : Nat} {vo vf va ox vt : Value} {gs : List (Nat × Nat)} (h : Turned w0 wr ps j vo vf va ox vt gs) (hj : j < ps.length) (hg : j < gs.length) (hlen : (turnedB ps).length ≤ 1048576) :
    ∃ vt' w', (Builtin.append_ #[22, 22] 22 #[vt, .slice (some ⟨gs[j].1, 0, none⟩) ps[j].len gs[j].2]).run Try.prog wr = .ok vt' w' ∧ Turned w0 w' ps (j + 1) vo vf va ox vt' gs := by
  obtain ⟨hK, ho, hA, hG, hN⟩ := h
  have hx := (hK.each j hg hj).1
  have e : copyB ps[j] (decide (j < ps.length)) = List.replicate ps[j].len 238 ++ [238, 238] := by
    simp only [copyB, hj, decide_true, if_true]
    rw [← List.replicate_append_replicate]; rfl
  rw [e] at hx
  have e2 := turnedB_take ps j hj
  have hl2 : (turnedB (ps.take (j + 1))).length ≤ 1048576 := by
    refine Nat.le_trans ?_ hlen
    have : turnedB ps = turnedB (ps.take (j + 1)) ++ turnedB (ps.drop (j + 1)) := by
      unfold turnedB; rw [← List.flatMap_append, List.take_append_drop]
    rw [this]; simp
  have hl3 := congrArg List.length e2
  simp at hl3
  have hx' : OwnB wr (.slice (some ⟨gs[j].1, 0, none⟩) (List.replicate ps[j].len (238 : Int) ++ [238, 238]).length gs[j].2) (List.replicate ps[j].len 238 ++ [238, 238]) := by
    simpa [fullV] using hx
  have hB := hx'.front (by simp; omega)
  have hB2 : Bs wr (some ⟨gs[j].1, 0, none⟩) ps[j].len (List.replicate ps[j].len 238) := by simpa using hB
  obtain ⟨vt', w', r, o', g', l'⟩ := run_appB wr vt (turnedB (ps.take j)) ho (some ⟨gs[j].1, 0, none⟩) ps[j].len gs[j].2 (List.replicate ps[j].len 238) hB2 (by omega) 22
  rw [← e2] at o'
  have hc : Chg wr w' (fun k => vt.ownBlock = some k) := (Chg.refl _ _).grown g' (fun k e => .inl e)
  have hvn : ∀ k, vt'.ownBlock = some k → (vt.ownBlock = some k ∨ wr.heap.size ≤ k) := by
    intro k hk
    rcases l' with e | ⟨q, e, hq⟩
    · exact .inl (by rw [← e]; exact hk)
    · rw [e] at hk; simp at hk; exact .inr (by omega)
  refine ⟨vt', w', r, ⟨⟨?_, hK.len, hc.owns hK.full (fun k hk e => rows_apart hK.full ho.1 k hk e), hc.owns hK.own (fun k hk e => rows_apart hK.own ho.1 k hk e), hK.all.chg hc (fun k hk e => hA k e hk), ?_, hK.apart, hK.apartA, hK.newO, hK.newF, hK.newA⟩, o', ?_, ?_, ?_⟩⟩
  · exact hK.below.trans (hc.below hK.below.size (fun k hk e => by have := hN k e; omega))
  · intro i hi hp
    obtain ⟨q1, q2, q3⟩ := hK.each i hi hp
    exact ⟨q1.chg hc (fun k hk e => by
      simp [fullV, Value.ownBlock] at hk
      exact hG i hi (by rw [hk]; exact e)), q2, q3⟩
  · intro k hk e
    rcases hvn k hk with h | h
    · exact hA k h e
    · have := own_lt hK.all.1 k e; omega
  · intro i hi e
    rcases hvn _ e with h | h
    · exact hG i hi h
    · have : gs[i].1 < wr.heap.size := own_lt (hK.each i hi (by have := hK.len; omega)).1.1 _ rfl
      omega
  · intro k hk
    rcases hvn k hk with h | h
    · exact hN k h
    · have := hK.below.size; omega
end Go.Proofs.Ytfcpkcbiinbmiaa
