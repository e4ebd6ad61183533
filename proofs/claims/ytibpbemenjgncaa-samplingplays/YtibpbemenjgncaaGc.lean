import Derived.Test.YtibpbemenjgncaaGb
namespace Go.Proofs.Ytibpbemenjgncaa
open Go.ChangeShapes Go.WideShapes Go.ChangeAt Go.RowKit
set_option linter.unusedVariables false
theorem own_cell {w : World} {base e n : Nat} {v : Value} {xs : List Value} (h : w.ownsRow base e 1 v n xs) (hn : n = xs.length) (i : Nat) (hi : i < n) : ∃ g cap, v = .slice (some ⟨g, 0, none⟩) n cap ∧ w.cell? ⟨g, i, none⟩ = some (xs[i]'(by omega)) := by
  rcases h.2 with ⟨h1, h2⟩ | ⟨g, cap, cur, h1, h2, h3, h4, h5, h6, h7⟩
  · omega
  · refine ⟨g, cap, h1, ?_⟩
    rw [(cells_at h3 i).1, ← Array.getElem?_toList]
    have e := congrArg (fun l => l[i]?) h7
    simp only [Nat.mul_one] at e
    rw [List.getElem?_take, if_pos hi] at e
    rw [e, List.getElem?_eq_getElem (by omega)]
theorem Pg.trans {W w w1 w2 : World} {σ σ1 : Nat → Nat} (h : Pg W w w1 σ) (he : ∀ b, b < w.heap.size → σ1 b = σ b) (h2 : Pg W w1 w2 σ1) : Pg W w w2 σ := by
  obtain ⟨S, hc, hS⟩ := h
  obtain ⟨T, kc, hT⟩ := h2
  refine ⟨fun b => S b ∨ (T b ∧ ¬ S b ∧ b < w.heap.size), Chg.trans (hc.mono (fun _ _ e => .inl e)) kc (fun i hi e => ?_), fun b hb => ?_⟩
  · by_cases hs : S i
    · exact .inl hs
    · exact .inr ⟨e, hs, hi⟩
  · rcases hb with hb | ⟨hb, hn, hl⟩
    · exact hS b hb
    · have eb := hc.block b hl hn
      refine ⟨(hT b hb).1, ?_⟩
      rw [← eb, ← he b hl]
      exact (hT b hb).2
section
variable {W w w' : World} {σ : Nat → Nat} {K : Nat} {V : Nat → Value} {X : Nat → List Value} {MM : List Int} {fr ll : List Ent}
/-- A row with a label is written, and those that have it read the same. -/
theorem BkK.rowX {k : Nat} (h : BkK W w σ K V X MM fr ll) {S : Nat → Prop} (hc : Chg w w' S) (hn : ∀ b, S b → σ b = k ∧ ∃ cs, w.heap[b]? = some (.cells cs 5 (0, 0))) (hk : 10 ≤ k) (h2 : ∀ e, e ∈ fr → 10 + e.1 ≠ k) (hl : ∀ (i : Nat) (v : Value) (e : Ent), (X 0)[i]? = some v → ll[i]? = some e → 10 + e.1 = k → OB w' v e.2) : BkK W w' σ K V X MM fr ll := by
  have ob : ∀ {v : Value} {l : List Int} {j : Nat}, OB w v l → Lb σ v j → j ≠ k → OB w' v l := fun ho hl hj => hc.owns ho (fun b hb hS => hj (by rw [← hl b hb]; exact (hn b hS).1))
  refine ⟨h.m.chgT hc (fun b hb => ?_), ob h.mm h.lm (by omega), h.lm, fun j h6 h9 => ?_, h.r2.chg hc (fun i e he b hS hh => h2 e (List.mem_of_getElem? he) (by rw [← hh]; exact (hn b hS).1)), h.r3.chg hc (fun i e he b hS hh => by have := (hn b hS).1; omega), ⟨h.r0.len, fun i v e hv he => ⟨?_, (h.r0.rw i v e hv he).2⟩⟩, h.mq, h.s2, fun b hb => h.fz b (Nat.le_trans hc.size hb), h.od, h.ok, Nat.le_trans h.wl hc.size⟩
  · obtain ⟨cs, h1⟩ := (hn b hb).2
    exact ⟨cs, 5, h1, by decide, by decide⟩
  · obtain ⟨xs, h1, h2, h3⟩ := h.bf j h6 h9
    exact ⟨xs, ob h1 h3 (by omega), h2, h3⟩
  · by_cases e1 : 10 + e.1 = k
    · exact hl i v e hv he e1
    · exact ob (h.r0.rw i v e hv he).1 (h.r0.rw i v e hv he).2 e1
/-- A new row has its label. -/
theorem BkK.lab (h : BkK W w σ K V X MM fr ll) (v : Value) (k : Nat) {w0 : World} {bs : List Int} (hv : OB w v bs) (hn : Nw w0 v) (h0 : BkK W w0 σ K V X MM fr ll) : BkK W w (lab σ v k) K V X MM fr ll := by
  have lo : ∀ {u : Value} {l : List Int} {j : Nat}, OB w0 u l → Lb σ u j → Lb (Go.Proofs.Ytibpbemenjgncaa.lab σ v k) u j := fun ho hl => lab_other hl (fun b hb e => by have h1 := OB.lt ho hb; have h2 := hn b e; omega)
  have rl : ∀ {L : List Value} {es : List Ent} {f : Nat → Nat}, Rows w0 σ L es f → Rows w σ L es f → Rows w (Go.Proofs.Ytibpbemenjgncaa.lab σ v k) L es f := fun a b => ⟨b.len, fun i u e hu he => ⟨(b.rw i u e hu he).1, lo (a.rw i u e hu he).1 (a.rw i u e hu he).2⟩⟩
  refine ⟨h.m, h.mm, lo h0.mm h0.lm, fun j h6 h9 => ?_, rl h0.r2 h.r2, rl h0.r3 h.r3, rl h0.r0 h.r0, h.mq, h.s2, fun b hb => ?_, fun b hb => ?_, h.ok, h.wl⟩
  · obtain ⟨xs, h1, h2, h3⟩ := h.bf j h6 h9
    obtain ⟨ys, g1, g2, g3⟩ := h0.bf j h6 h9
    exact ⟨xs, h1, h2, lo g1 g3⟩
  · unfold Go.Proofs.Ytibpbemenjgncaa.lab
    rw [if_neg (fun e => by have := OB.lt hv e; omega)]
    exact h.fz b hb
  · unfold Go.Proofs.Ytibpbemenjgncaa.lab
    rw [if_neg (fun e => by have := hn b e; have := h0.wl; omega)]
    exact h.od b hb
end
/-- The mark of list n. -/
def mkOf (n : Nat) : Int := ((n % 254 : Nat) : Int) + 1
/-- Lists written full of their marks. -/
def mks (n : Nat) (hd : List Ent) : List Ent := hd.mapIdx (fun t e => (e.1, List.replicate e.2.length (mkOf (n + t))))
/-- The same, 64 longer. -/
def lgs (n : Nat) (hd : List Ent) : List Ent := hd.mapIdx (fun t e => (e.1, List.replicate (e.2.length + 64) (mkOf (n + t))))
def mms (n : Nat) (hd : List Ent) : List Int := hd.mapIdx (fun t _ => mkOf (n + t))
theorem mks_at (n : Nat) (hd : List Ent) (j : Nat) : (mks n hd)[j]? = hd[j]?.map (fun e => (e.1, List.replicate e.2.length (mkOf (n + j)))) := by simp [mks, List.getElem?_mapIdx]
theorem lgs_at (n : Nat) (hd : List Ent) (j : Nat) : (lgs n hd)[j]? = hd[j]?.map (fun e => (e.1, List.replicate (e.2.length + 64) (mkOf (n + j)))) := by simp [lgs, List.getElem?_mapIdx]
theorem mms_at (n : Nat) (hd : List Ent) (j : Nat) : (mms n hd)[j]? = hd[j]?.map (fun e => mkOf (n + j)) := by simp [mms, List.getElem?_mapIdx]
theorem mks_len (n : Nat) (hd : List Ent) : (mks n hd).length = hd.length := by simp [mks]
theorem lgs_len (n : Nat) (hd : List Ent) : (lgs n hd).length = hd.length := by simp [lgs]
theorem mms_len (n : Nat) (hd : List Ent) : (mms n hd).length = hd.length := by simp [mms]
theorem nd_ne {hd : List Ent} (h : (hd.map Prod.fst).Nodup) {i j : Nat} {a b : Ent} (hi : hd[i]? = some a) (hj : hd[j]? = some b) (hne : i ≠ j) : a.1 ≠ b.1 := fun e => by
  have h' := List.pairwise_iff_getElem.1 h
  obtain ⟨li, ei⟩ := List.getElem?_eq_some_iff.1 hi
  obtain ⟨lj, ej⟩ := List.getElem?_eq_some_iff.1 hj
  rcases Nat.lt_or_gt_of_ne hne with g | g
  · exact h' i j (by simpa using li) (by simpa using lj) g (by simp [ei, ej, e])
  · exact h' j i (by simpa using lj) (by simpa using li) g (by simp [ei, ej, e])
theorem take_next {α : Type} (l : List α) (i : Nat) (x : α) (h : l[i]? = some x) : l.take (i + 1) = l.take i ++ [x] := by
  rw [List.take_add_one, h]; rfl
theorem cut_at (n : Nat) (hd : List Ent) (i : Nat) (hi : i ≤ hd.length) (j : Nat) : ((mks n hd).take i ++ hd.drop i)[j]? = if j < i then (mks n hd)[j]? else hd[j]? := by
  have hl : ((mks n hd).take i).length = i := by rw [List.length_take, mks_len]; omega
  by_cases hj : j < i
  · rw [if_pos hj, List.getElem?_append_left (by omega), List.getElem?_take, if_pos hj]
  · rw [if_neg hj, List.getElem?_append_right (by omega), hl, List.getElem?_drop]
    congr 1; omega
theorem mks_mem {n : Nat} {hd : List Ent} {i : Nat} {e : Ent} (h : e ∈ (mks n hd).take i) : ∃ t a, t < i ∧ hd[t]? = some a ∧ e = (a.1, List.replicate a.2.length (mkOf (n + t))) := by
  obtain ⟨t, ht⟩ := List.mem_iff_getElem?.1 h
  rw [List.getElem?_take] at ht
  by_cases hi : t < i
  · rw [if_pos hi, mks_at] at ht
    cases ha : hd[t]? with
    | none => rw [ha] at ht; simp at ht
    | some a => rw [ha] at ht; simp at ht; exact ⟨t, a, hi, ha, ht.symm⟩
  · rw [if_neg hi] at ht; simp at ht
theorem lgs_mem {n : Nat} {hd : List Ent} {i : Nat} {e : Ent} (h : e ∈ (lgs n hd).take i) : ∃ t a, t < i ∧ hd[t]? = some a ∧ e = (a.1, List.replicate (a.2.length + 64) (mkOf (n + t))) := by
  obtain ⟨t, ht⟩ := List.mem_iff_getElem?.1 h
  rw [List.getElem?_take] at ht
  by_cases hi : t < i
  · rw [if_pos hi, lgs_at] at ht
    cases ha : hd[t]? with
    | none => rw [ha] at ht; simp at ht
    | some a => rw [ha] at ht; simp at ht; exact ⟨t, a, hi, ha, ht.symm⟩
  · rw [if_neg hi] at ht; simp at ht
/-- What was held is written full of marks, up to list i. -/
structure L2 (W w0 w : World) (σ0 σ : Nat → Nat) (K : Nat) (V0 V : Nat → Value) (X0 X : Nat → List Value) (MM : List Int) (fr hd ll : List Ent) (i : Nat) : Prop where
  k : BkK W w σ K V X (MM ++ (mms ll.length hd).take i) fr (ll ++ (mks ll.length hd).take i)
  r4 : Rows w σ (X 4) ((mks ll.length hd).take i ++ hd.drop i) (fun j => 10 + j)
  vx : ∀ j, 2 ≤ j → V j = V0 j ∧ X j = X0 j
  pg : Pg W w0 w σ0
  ol : ∀ b, b < w0.heap.size → σ b = σ0 b
section
variable {W w0 w w' : World} {σ0 σ : Nat → Nat} {K : Nat} {V0 V : Nat → Value} {X0 X : Nat → List Value} {MM : List Int} {fr hd ll : List Ent} {i : Nat}
theorem BkA.l2 (h : BkA W w0 σ0 K V0 X0 MM fr hd ll) (hW : W.heap.size ≤ w0.heap.size) (hk : Kp w0 w) : L2 W w0 w σ0 σ0 K V0 V0 X0 X0 MM fr hd ll 0 :=
  ⟨by simpa using (h.k hW).kp hk, by simpa using h.r4.kp hk, fun _ _ => ⟨rfl, rfl⟩, Pg.ofKp hk _, fun _ _ => rfl⟩
theorem L2.kp (h : L2 W w0 w σ0 σ K V0 V X0 X MM fr hd ll i) (hk : Kp w w') : L2 W w0 w' σ0 σ K V0 V X0 X MM fr hd ll i :=
  ⟨h.k.kp hk, h.r4.kp hk, h.vx, h.pg.trans h.ol (Pg.ofKp hk _), h.ol⟩
/-- List i is full of its mark. -/
theorem L2.fill (hB : BkA W w0 σ0 K V0 X0 MM fr hd ll) (h : L2 W w0 w σ0 σ K V0 V X0 X MM fr hd ll i) {v : Value} {e : Ent} (hv : (X 4)[i]? = some v) (he : hd[i]? = some e) (hc : Chg w w' (fun b => v.ownBlock = some b)) (ho : OB w' v (List.replicate e.2.length (mkOf (ll.length + i)))) :
    BkK W w' σ K V X (MM ++ (mms ll.length hd).take i) fr (ll ++ (mks ll.length hd).take i) ∧ Rows w' σ (X 4) ((mks ll.length hd).take (i + 1) ++ hd.drop (i + 1)) (fun j => 10 + j) ∧ Pg W w0 w' σ0 ∧ Lb σ v (10 + e.1) := by
  have hi := (List.getElem?_eq_some_iff.1 he).1
  have nh : (hd.map Prod.fst).Nodup := by have := hB.nd; rw [List.map_append] at this; exact (List.nodup_append.1 this).1
  have nf : ∀ e', e' ∈ fr → e.1 ≠ e'.1 := fun e' he' g => by
    have := hB.nd
    rw [List.map_append, List.nodup_append] at this
    exact this.2.2 e.1 (List.mem_map_of_mem (List.mem_of_getElem? he)) e'.1 (List.mem_map_of_mem he') g
  obtain ⟨hov, hlv⟩ := h.r4.rw i v e hv (by rw [cut_at _ _ _ (by omega), if_neg (by omega)]; exact he)
  have hn : ∀ b, v.ownBlock = some b → σ b = 10 + e.1 ∧ ∃ cs, w.heap[b]? = some (.cells cs 5 (0, 0)) := fun b hb => ⟨hlv b hb, own_tp hov hb⟩
  refine ⟨h.k.row (k := 10 + e.1) hc hn (by omega) (fun e' he' g => nf e' he' (by omega)) (fun e' he' g => ?_), ⟨?_, fun j u e' hu he' => ?_⟩, h.pg.trans h.ol ⟨_, hc, fun b hb => ⟨?_, .inr ⟨by have := hlv b hb; omega, own_tp hov hb⟩⟩⟩, hlv⟩
  · rcases List.mem_append.1 he' with g1 | g1
    · exact hB.ap e' g1 e (List.mem_append.2 (.inl (List.mem_of_getElem? he))) (by omega)
    · obtain ⟨t, a, ht, ha, rfl⟩ := mks_mem g1
      exact nd_ne nh ha he (by omega) (by simp at g; omega)
  · rw [h.r4.len]; simp [mks_len]; omega
  · rw [cut_at _ _ _ (by omega)] at he'
    by_cases e1 : j = i
    · subst e1
      rw [hv] at hu
      cases hu
      rw [if_pos (by omega), mks_at, he] at he'
      simp at he'
      subst he'
      exact ⟨ho, hlv⟩
    · have old : ((mks ll.length hd).take i ++ hd.drop i)[j]? = some e' := by
        rw [cut_at _ _ _ (by omega)]
        by_cases g : j < i
        · rw [if_pos g]; rw [if_pos (by omega)] at he'; exact he'
        · rw [if_neg g]; rw [if_neg (by omega)] at he'; exact he'
      obtain ⟨o1, o2⟩ := h.r4.rw j u e' hu old
      refine ⟨hc.owns o1 (fun b hb hS => ?_), o2⟩
      have id : ∃ a, hd[j]? = some a ∧ a.1 = e'.1 := by
        rw [cut_at _ _ _ (by omega)] at old
        by_cases g : j < i
        · rw [if_pos g, mks_at] at old
          cases ha : hd[j]? with
          | none => rw [ha] at old; simp at old
          | some a => rw [ha] at old; simp at old; exact ⟨a, rfl, by rw [← old]⟩
        · rw [if_neg g] at old; exact ⟨e', old, rfl⟩
      obtain ⟨a, ha, ea⟩ := id
      have q1 := hlv b hS
      have q2 := o2 b hb
      exact nd_ne nh ha he e1 (by omega)
  · rcases Nat.lt_or_ge b W.heap.size with g | g
    · have := h.k.od b g; have := hlv b hb; omega
    · exact g
end
end Go.Proofs.Ytibpbemenjgncaa
