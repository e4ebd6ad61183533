import Derived.Test.YtadpgaaijdpbiaaRb
namespace Go.Proofs.Ytadpgaaijdpbiaa
open Go.ChangeShapes Go.WideShapes Go.ChangeAt Go.RowKit Go.Shelf
set_option linter.unusedVariables false

theorem info70r : ∃ i z, Try.prog.info? 70 = some i ∧ i.zero = some z ∧ i.size = 1 ∧ i.bytes = 8 ∧ z.cells.size = 1 := by
  cases h : Try.prog.info? 70 with
  | none => have : (Try.prog.info? 70).isSome = true := by kernel_rfl
            rw [h] at this; cases this
  | some i =>
    have h1 : (Try.prog.info? 70).map (·.size) = some 1 := by kernel_rfl
    rw [h] at h1
    have h2 : (Try.prog.info? 70).map (·.bytes) = some 8 := by kernel_rfl
    rw [h] at h2
    have h3 : ((Try.prog.info? 70).bind (·.zero)).map (·.cells.size) = some 1 := by kernel_rfl
    rw [h] at h3
    simp only [Option.bind_some] at h3
    cases hz : i.zero with
    | none => rw [hz] at h3; cases h3
    | some z =>
      rw [hz] at h3
      simp at h1 h2 h3
      exact ⟨i, z, rfl, hz, h1, h2, h3⟩
theorem info55r : ∃ i z, Try.prog.info? 55 = some i ∧ i.zero = some z ∧ i.size = 1 ∧ i.bytes = 24 ∧ z.cells.size = 1 := by
  cases h : Try.prog.info? 55 with
  | none => have : (Try.prog.info? 55).isSome = true := by kernel_rfl
            rw [h] at this; cases this
  | some i =>
    have h1 : (Try.prog.info? 55).map (·.size) = some 1 := by kernel_rfl
    rw [h] at h1
    have h2 : (Try.prog.info? 55).map (·.bytes) = some 24 := by kernel_rfl
    rw [h] at h2
    have h3 : ((Try.prog.info? 55).bind (·.zero)).map (·.cells.size) = some 1 := by kernel_rfl
    rw [h] at h3
    simp only [Option.bind_some] at h3
    cases hz : i.zero with
    | none => rw [hz] at h3; cases h3
    | some z =>
      rw [hz] at h3
      simp at h1 h2 h3
      exact ⟨i, z, rfl, hz, h1, h2, h3⟩
theorem info3r : ∃ i z, Try.prog.info? 3 = some i ∧ i.zero = some z ∧ i.size = 1 ∧ i.bytes = 8 ∧ z.cells.size = 1 := by
  cases h : Try.prog.info? 3 with
  | none => have : (Try.prog.info? 3).isSome = true := by kernel_rfl
            rw [h] at this; cases this
  | some i =>
    have h1 : (Try.prog.info? 3).map (·.size) = some 1 := by kernel_rfl
    rw [h] at h1
    have h2 : (Try.prog.info? 3).map (·.bytes) = some 8 := by kernel_rfl
    rw [h] at h2
    have h3 : ((Try.prog.info? 3).bind (·.zero)).map (·.cells.size) = some 1 := by kernel_rfl
    rw [h] at h3
    simp only [Option.bind_some] at h3
    cases hz : i.zero with
    | none => rw [hz] at h3; cases h3
    | some z =>
      rw [hz] at h3
      simp at h1 h2 h3
      exact ⟨i, z, rfl, hz, h1, h2, h3⟩
theorem info26r : ∃ i z, Try.prog.info? 26 = some i ∧ i.zero = some z ∧ i.size = 1 ∧ i.bytes = 8 ∧ z.cells.size = 1 := by
  cases h : Try.prog.info? 26 with
  | none => have : (Try.prog.info? 26).isSome = true := by kernel_rfl
            rw [h] at this; cases this
  | some i =>
    have h1 : (Try.prog.info? 26).map (·.size) = some 1 := by kernel_rfl
    rw [h] at h1
    have h2 : (Try.prog.info? 26).map (·.bytes) = some 8 := by kernel_rfl
    rw [h] at h2
    have h3 : ((Try.prog.info? 26).bind (·.zero)).map (·.cells.size) = some 1 := by kernel_rfl
    rw [h] at h3
    simp only [Option.bind_some] at h3
    cases hz : i.zero with
    | none => rw [hz] at h3; cases h3
    | some z =>
      rw [hz] at h3
      simp at h1 h2 h3
      exact ⟨i, z, rfl, hz, h1, h2, h3⟩

/-- 'append' to a row of elements of one cell, of a list that was built for it. -/
theorem app_gen (t e : TypeId) (bytes : Nat) (hu : Try.prog.underlying t = some (.slice e)) (hinfo : ∃ i z, Try.prog.info? e = some i ∧ i.zero = some z ∧ i.size = 1 ∧ i.bytes = bytes ∧ z.cells.size = 1) (hby : bytes ≤ 24)
    (W : World) (v : Value) (n : Nat) (xs : List Value) (h : W.ownsRow 0 e 1 v n xs) (hn : n ≤ 1000000) (news : List Value) (m : Nat) (hm : m = news.length) (hm2 : m ≤ 10) (h1 : ∀ u ∈ news, u.oneCell' = true) :
    ∃ v' W', (Builtin.append_ #[t, t] t #[v, .slice (some ⟨W.heap.size, 0, none⟩) m m]).run Try.prog (W.alloc (.cells news.toArray e)) = .ok v' W' ∧
      W'.ownsRow 0 e 1 v' (n + m) (xs ++ news) ∧ Chg W W' (fun i => v.ownBlock = some i) ∧ Loc W v v' := by
  obtain ⟨i, z, hi, hz, hs, hb, hzs⟩ := hinfo
  have hkA : Kp W (W.alloc (.cells news.toArray e)) := (Chg.refl W _).alloc _
  have hnw := heap_alloc_new W (.cells news.toArray e)
  have h1' := Chg.owns hkA h (fun _ _ x => x)
  obtain ⟨v', W', hr, q1, q2, q3⟩ := run_app (P := Try.prog) _ t t e i z 1 bytes hu hi hz hs hb hzs (by omega) v n xs h1' (some ⟨W.heap.size, 0, none⟩) m m news (by omega) (.inr ⟨_, _, rfl, fun j u hu => by
    rw [(cells_at hnw _).1, Nat.zero_add, ← hu]; simp⟩) h1 (by simp [maxLen]; omega) (by
      have : (n + m) * bytes ≤ (n + m) * 24 := Nat.mul_le_mul_left _ hby
      omega)
  refine ⟨v', W', hr, q1, Chg.grown (hkA.mono (fun _ _ h => h.elim)) q2 (fun k e => .inl e), ?_⟩
  rcases q3 with e | ⟨g, hg, hgs⟩
  · exact .inl e
  · refine .inr ⟨g, hg, ?_⟩
    simp at hgs
    omega
/-- What is done leaves what it was called with; labels stay. -/
def Nx (W : World) (lab : Nat → Nat) (W' : World) (lab' : Nat → Nat) : Prop := Chg W W' (fun i => lab i ≠ 6) ∧ ∀ i, i < W.heap.size → lab' i = lab i
theorem Nx.trans {A B C : World} {a b c : Nat → Nat} (h : Nx A a B b) (k : Nx B b C c) : Nx A a C c :=
  ⟨Chg.trans h.1 k.1 (fun i hi e => by rw [h.2 i hi] at e; exact e), fun i hi => (k.2 i (Nat.lt_of_lt_of_le hi h.1.size)).trans (h.2 i hi)⟩
theorem Nx.refl (A : World) (a : Nat → Nat) : Nx A a A a := ⟨Chg.refl _ _, fun _ _ => rfl⟩
theorem Nx.relab {A B : World} {a : Nat → Nat} {S : Nat → Prop} (hC : Chg A B S) (hS : ∀ i, i < A.heap.size → S i → a i ≠ 6) (q : Nat) : Nx A a B (relab a A.heap.size q) := ⟨hC.mono (fun i hi e => hS i hi e), fun i hi => relab_old hi⟩
theorem Nx.kp {A B : World} {a : Nat → Nat} (hC : Kp A B) (q : Nat) : Nx A a B (Go.Proofs.Ytadpgaaijdpbiaa.relab a A.heap.size q) := Nx.relab hC (fun _ _ h => h.elim) q
theorem xL_app (ps : List Pr) (p : Pr) : xL (ps ++ [p]) = xL ps ++ [.pointer (some ⟨p.B, 0, none⟩)] := by simp [xL]
theorem yL_app (ps : List Pr) (p : Pr) : yL (ps ++ [p]) = yL ps ++ [.pointer (some ⟨p.C, 0, none⟩)] := by simp [yL]
def lab2 (lab : Nat → Nat) (n : Nat) (v : Value) (q r : Nat) (i : Nat) : Nat := if i < n then lab i else if v.ownBlock = some i then q else r
theorem WI.more {w w' : World} {lab : Nat → Nat} {D : Nat} {R : Rows} {ps : List Pr} {hs : List Hd} (h : WI w lab D R ps hs) (p : Pr) (hp : PrIs w lab ps.length p) (h4 : ps.length < 4) {xv' yv' : Value}
    (hx : w'.ownsRow 0 26 1 xv' (ps.length + 1) (xL ps ++ [.pointer (some ⟨p.B, 0, none⟩)])) (hy : w'.ownsRow 0 70 1 yv' (ps.length + 1) (yL ps ++ [.pointer (some ⟨p.C, 0, none⟩)]))
    (hb : w'.heap[D]? = some (.cells #[xv', yv', R.h, R.m] 69 (0, 0))) (hC : Chg w w' (fun i => i = D ∨ R.x.ownBlock = some i ∨ R.y.ownBlock = some i)) (lx : Loc w R.x xv') (ly : Loc w R.y yv') (hxy : ∀ b, yv'.ownBlock = some b → xv'.ownBlock ≠ some b) :
    WI w' (lab2 lab w.heap.size xv' 1 2) D ⟨xv', yv', R.h, R.m⟩ (ps ++ [p]) hs ∧ Nx w lab w' (lab2 lab w.heap.size xv' 1 2) := by
  have old : ∀ {b}, b < w.heap.size → lab2 lab w.heap.size xv' 1 2 b = lab b := fun hb => by simp [lab2, hb]
  have hC' : Chg w w' (fun i => lab i ≤ 2) := hC.mono (fun i _ e => by
    rcases e with e | e | e
    · rw [e, h.d]; omega
    · rw [h.lx i e]; omega
    · rw [h.ly i e]; omega)
  have k0 : ∀ {b c : Nat}, lab b = c → 2 < c → ¬ lab b ≤ 2 := fun e hc e' => by omega
  have hD := (Array.getElem?_eq_some_iff.1 h.box).1
  have hlen : (ps ++ [p]).length = ps.length + 1 := by simp
  have kP : ∀ {i : Nat} {q : Pr}, PrIs w lab i q → PrIs w' (lab2 lab w.heap.size xv' 1 2) i q := fun {i q} hq =>
    ⟨hq.t.kept hC' (fun b hb => k0 (hq.ft b hb) (by omega)), hq.r.kept hC' (fun b hb => k0 (hq.gt b hb) (by omega)), fun b hb => by rw [old (hq.t.lt hb)]; exact hq.ft b hb, fun b hb => by rw [old (hq.r.lt hb)]; exact hq.gt b hb⟩
  refine ⟨⟨hb, by rw [hlen, xL_app]; exact hx, by rw [hlen, yL_app]; exact hy, Chg.owns hC' h.h (fun b hb => k0 (h.lh b hb) (by omega)), Chg.owns hC' h.m (fun b hb => k0 (h.lm b hb) (by omega)), by rw [old hD]; exact h.d, ?_, ?_, ?_, ?_, by rw [hlen]; omega, ?_, ?_⟩, hC'.mono (fun i _ e => by omega), fun i hi => old hi⟩
  · intro b hb
    rcases lx with e | ⟨g, hg, hgs⟩
    · have e2 : R.x.ownBlock = some b := by rw [← e]; exact hb
      rw [old (own_lt h.x e2)]; exact h.lx b e2
    · have : b = g := by rw [hg] at hb; cases hb; rfl
      subst this
      unfold lab2; rw [if_neg (by omega), if_pos hb]
  · intro b hb
    rcases ly with e | ⟨g, hg, hgs⟩
    · have e2 : R.y.ownBlock = some b := by rw [← e]; exact hb
      rw [old (own_lt h.y e2)]; exact h.ly b e2
    · have : b = g := by rw [hg] at hb; cases hb; rfl
      subst this
      unfold lab2; rw [if_neg (by omega), if_neg (hxy b hb)]
  · intro b hb; rw [old (own_lt h.h hb)]; exact h.lh b hb
  · intro b hb; rw [old (own_lt h.m hb)]; exact h.lm b hb
  · intro i q hi
    rw [List.getElem?_append] at hi
    split at hi
    · exact kP (h.ps i q hi)
    · have hi2 : i - ps.length = 0 := by
        rcases Nat.eq_zero_or_pos (i - ps.length) with e | e
        · exact e
        · rw [List.getElem?_eq_none (by simp; omega)] at hi; cases hi
      have : i = ps.length := by omega
      subst this
      rw [Nat.sub_self] at hi
      cases hi
      exact kP hp
  · intro x hx
    obtain ⟨a1, a2, a3⟩ := h.hs x hx
    refine ⟨a1, a2, a3.imp_right ?_⟩
    rintro ⟨b, off, e, hb, hl, hc⟩
    exact ⟨b, off, e, Nat.lt_of_lt_of_le hb hC.size, by rw [old hb]; exact hl, fun i hi => (hC'.cell hb (k0 hl (by omega))).trans (hc i hi)⟩
theorem more_nil (w : World) (D : Nat) : Calls Try.prog 25 #[.pointer (some ⟨D, 0, none⟩), .pointer none, .pointer none] w fun e w' => e = .returned (.bool true) ∧ w' = w := by
  go_enter Try.func25, Try.ntmps25
  go_wp2
  go_ret
  exact ⟨rfl, rfl⟩
set_option maxHeartbeats 1000000 in
theorem more_full (w : World) (lab : Nat → Nat) (D : Nat) (R : Rows) (ps : List Pr) (hs : List Hd) (h : WI w lab D R ps hs) (h4 : ps.length = 4) (B C : Nat) :
    Calls Try.prog 25 #[.pointer (some ⟨D, 0, none⟩), .pointer (some ⟨B, 0, none⟩), .pointer (some ⟨C, 0, none⟩)] w fun e w' => e = .returned (.bool true) ∧ w' = w := by
  obtain ⟨a, c, hxv, _⟩ := row1 h.x
  obtain ⟨d0, d1, d2, d3⟩ := cells4 h.box
  rw [hxv, h4] at d0
  clear h hxv
  go_enter Try.func25, Try.ntmps25
  go_wp2
  go_ret
  exact ⟨rfl, rfl⟩
end Go.Proofs.Ytadpgaaijdpbiaa
namespace Go.Proofs.Ytadpgaaijdpbiaa
open Go.ChangeShapes Go.WideShapes Go.ChangeAt Go.RowKit Go.Shelf
set_option linter.unusedVariables false

set_option maxHeartbeats 8000000 in
set_option maxRecDepth 10000 in
theorem more_yes (w : World) (lab : Nat → Nat) (D : Nat) (R : Rows) (ps : List Pr) (hs : List Hd) (h : WI w lab D R ps hs) (h4 : ps.length < 4) (p : Pr) (hp : PrIs w lab ps.length p) :
    Calls Try.prog 25 #[.pointer (some ⟨D, 0, none⟩), .pointer (some ⟨p.B, 0, none⟩), .pointer (some ⟨p.C, 0, none⟩)] w fun e w' => e = .returned (.bool true) ∧ ∃ lab' R', WI w' lab' D R' (ps ++ [p]) hs ∧ Nx w lab w' lab' := by
  obtain ⟨a, c, hxv, _⟩ := row1 h.x
  obtain ⟨a2, c2, hyv, _⟩ := row1 h.y
  obtain ⟨N, hN⟩ : ∃ N, N = ps.length := ⟨_, rfl⟩
  rw [← hN] at hxv hyv
  have hNz : (N : Int) < 4 := by omega
  obtain ⟨d0, d1, d2, d3⟩ := cells4 h.box
  have hD := (Array.getElem?_eq_some_iff.1 h.box).1
  have hDx : R.x.ownBlock ≠ some D := fun e => by have := h.lx D e; have := h.d; omega
  have hDy : R.y.ownBlock ≠ some D := fun e => by have := h.ly D e; have := h.d; omega
  have hxyo : ∀ b, R.y.ownBlock = some b → R.x.ownBlock ≠ some b := fun b e e' => by have := h.lx b e'; have := h.ly b e; omega
  obtain ⟨xv', W1, hr1, r1, r2, r3⟩ := app_gen 25 26 8 Try.underlying25 info26r (by omega) w R.x ps.length (xL ps) h.x (by omega) [.pointer (some ⟨p.B, 0, none⟩)] 1 rfl (by omega) (fun u hu => by simp at hu; rw [hu]; rfl)
  have hb1 := r2.heap h.box hDx
  have s0 := heap_setCell_same W1 D 0 _ 69 xv' hb1
  have hb2 : (W1.setCell ⟨D, 0, none⟩ xv').heap[D]? = some (.cells #[xv', R.y, R.h, R.m] 69 (0, 0)) := s0
  have hCs : Chg W1 (W1.setCell ⟨D, 0, none⟩ xv') (fun i => i = D) := Chg.setCell (S := fun i => i = D) (Chg.refl _ _) (.inl rfl) _
  have hxD : xv'.ownBlock ≠ some D := fun e => by
    rcases r3 with e' | ⟨g, hg, hgs⟩
    · exact hDx (by rw [← e', e])
    · rw [hg] at e; cases e; omega
  have hxlt := fun {b} => own_lt (b := b) r1
  have hy2 := Chg.owns hCs (Chg.owns r2 h.y (fun b hb e => hxyo b hb e)) (fun b hb e => hDy (by rw [← e]; exact hb))
  obtain ⟨W2, hW2⟩ : ∃ W, W = W1.setCell ⟨D, 0, none⟩ xv' := ⟨_, rfl⟩
  rw [← hW2] at hb2 hCs hy2
  obtain ⟨yv', W3, hr3, t1, t2, t3⟩ := app_gen 66 70 8 Try.underlying66 info70r (by omega) W2 R.y ps.length (yL ps) hy2 (by omega) [.pointer (some ⟨p.C, 0, none⟩)] 1 rfl (by omega) (fun u hu => by simp at hu; rw [hu]; rfl)
  have hb3 := t2.heap hb2 hDy
  have hb4 : (W3.setCell ⟨D, 1, none⟩ yv').heap[D]? = some (.cells #[xv', yv', R.h, R.m] 69 (0, 0)) := heap_setCell_same W3 D 1 _ 69 yv' hb3
  have hCt : Chg W3 (W3.setCell ⟨D, 1, none⟩ yv') (fun i => i = D) := Chg.setCell (S := fun i => i = D) (Chg.refl _ _) (.inl rfl) _
  have hyD : yv'.ownBlock ≠ some D := fun e => by
    rcases t3 with e' | ⟨g, hg, hgs⟩
    · exact hDy (by rw [← e', e])
    · rw [hg] at e; cases e; have := r2.size; have := hCs.size; omega
  have hsz : w.heap.size ≤ W2.heap.size := Nat.le_trans r2.size hCs.size
  have hxy : ∀ b, yv'.ownBlock = some b → xv'.ownBlock ≠ some b := by
    intro b hb e
    rcases t3 with e' | ⟨g, hg, hgs⟩
    · have hb' : R.y.ownBlock = some b := by rw [← e']; exact hb
      rcases r3 with e'' | ⟨g2, hg2, hgs2⟩
      · exact hxyo b hb' (by rw [← e'', e])
      · rw [hg2] at e; cases e; have := own_lt h.y hb'; omega
    · rw [hg] at hb; cases hb; have := hxlt e; have := hCs.size; omega
  have hx4 := Chg.owns hCt (Chg.owns t2 (by rw [hW2]; exact Chg.owns (Chg.setCell (S := fun i => i = D) (Chg.refl W1 _) (.inl rfl) _) r1 (fun b hb e => hxD (by rw [← e]; exact hb))) (fun b hb e => by
    rcases r3 with e'' | ⟨g2, hg2, hgs2⟩
    · exact hxyo b e (by rw [← e'', hb])
    · rw [hg2] at hb; cases hb; have := own_lt h.y e; omega)) (fun b hb e => hxD (by rw [← e]; exact hb))
  have hy4 := Chg.owns hCt t1 (fun b hb e => hyD (by rw [← e]; exact hb))
  have hCall : Chg w (W3.setCell ⟨D, 1, none⟩ yv') (fun i => i = D ∨ R.x.ownBlock = some i ∨ R.y.ownBlock = some i) :=
    Chg.trans (Chg.trans (Chg.trans (r2.mono (fun i _ e => .inr (.inl e))) hCs (fun i _ e => .inl e)) t2 (fun i _ e => .inr (.inr e))) hCt (fun i _ e => .inl e)
  have ly : Loc w R.y yv' := by
    rcases t3 with e | ⟨g, hg, hgs⟩
    · exact .inl e
    · exact .inr ⟨g, hg, by omega⟩
  have KF : Hid (WI (W3.setCell ⟨D, 1, none⟩ yv') (lab2 lab w.heap.size xv' 1 2) D ⟨xv', yv', R.h, R.m⟩ (ps ++ [p]) hs ∧ Nx w lab (W3.setCell ⟨D, 1, none⟩ yv') (lab2 lab w.heap.size xv' 1 2)) := h.more p hp h4 hx4 hy4 hb4 hCall r3 ly hxy
  obtain ⟨d4, _, _, _⟩ := cells4 hb1
  obtain ⟨_, d5, _, _⟩ := cells4 hb2
  obtain ⟨_, d6, _, _⟩ := cells4 hb3
  have z1 := (cells_at hb1 0).2
  have z3 := (cells_at hb3 1).2
  obtain ⟨xa, xc, hxf, _⟩ := row1 r1
  obtain ⟨ya, yc, hyf, _⟩ := row1 t1
  rw [← hN] at hxf hyf
  rw [hxv] at d0 d4 hr1
  rw [hyv] at d5 d6 hr3
  clear r1 r2 r3 t1 t2 t3 hb1 s0 hCs hy2 hxlt hb2 hb3 hb4 hCt hyD hxD hxy hx4 hy4 hCall ly hxyo hDx hDy hxv hyv hsz h hp d1 d2 d3
  rw [hxf] at hr1 hW2 KF
  rw [hyf] at hr3 KF
  clear hxf hyf hN h4
  go_enter Try.func25, Try.ntmps25
  go_upto_region 5 with (at_builtin; refine wpList_append_run _ rfl (.tmp 26) (.tmp 28) 25 25 rfl _ _ _ W1 rfl rfl hr1 ?_)
  clear hr1
  rw [← hW2]
  clear hW2
  go_wp2_with (at_builtin; refine wpList_append_run _ rfl (.tmp 36) (.tmp 38) 66 66 rfl _ _ _ W3 rfl rfl hr3 ?_)
  go_ret
  exact ⟨rfl, _, _, KF.out⟩
end Go.Proofs.Ytadpgaaijdpbiaa
namespace Go.Proofs.Ytadpgaaijdpbiaa
open Go.ChangeShapes Go.WideShapes Go.ChangeAt Go.RowKit Go.Shelf
set_option linter.unusedVariables false

/-- What is lent, and eight marked places behind it. -/
def fullV (Z : Nat → Int) (len q : Nat) : Int := if q < len then Z q else 777
/-- The list that is lent, being written. -/
structure FuI (w wr : World) (g L j : Nat) (Z : Nat → Int) (len : Nat) (arr : Array Value) : Prop where
  row : wr.heap[g]? = some (.cells arr 3 (0, 0))
  size : arr.size = L
  is : ∀ q, q < j → arr[q]? = some (.int .i64 (fullV Z len q))
  kp : Kp w wr
  new : g = w.heap.size
theorem FuI.put {w wr : World} {g L j : Nat} {Z : Nat → Int} {len : Nat} {arr : Array Value} (h : FuI w wr g L j Z len arr) (hj : j < L) (x : Int) (hx : x = fullV Z len j) : FuI w (wr.setCell ⟨g, j, none⟩ (.int .i64 x)) g L (j + 1) Z len (arr.setIfInBounds j (.int .i64 x)) := by
  refine ⟨heap_setCell_same wr g j arr 3 _ h.row, by simp [h.size], fun q hq => ?_, Chg.trans h.kp (Chg.setCell (S := fun i => i = g) (Chg.refl _ _) (.inl rfl) _) (fun i hi e => by have := h.new; omega), h.new⟩
  rw [Array.getElem?_setIfInBounds]
  by_cases e : j = q
  · subst e
    rw [if_pos rfl, if_pos (by rw [h.size]; exact hj), hx]
  · rw [if_neg e]; exact h.is q (by omega)
theorem FuI.any {w wr : World} {g L j : Nat} {Z : Nat → Int} {len : Nat} {arr : Array Value} (h : FuI w wr g L j Z len arr) (x : Value) : FuI w (wr.setCell ⟨g, j, none⟩ x) g L j Z len (arr.setIfInBounds j x) := by
  refine ⟨heap_setCell_same wr g j arr 3 _ h.row, by simp [h.size], fun q hq => ?_, Chg.trans h.kp (Chg.setCell (S := fun i => i = g) (Chg.refl _ _) (.inl rfl) _) (fun i hi e => by have := h.new; omega), h.new⟩
  rw [Array.getElem?_setIfInBounds, if_neg (by omega)]; exact h.is q hq
theorem FuI.cell {w wr : World} {g L j : Nat} {Z : Nat → Int} {len : Nat} {arr : Array Value} (h : FuI w wr g L j Z len arr) (q : Nat) (hq : q < L) : (∃ z, wr.cell? ⟨g, q, none⟩ = some z) ∧ wr.frozen? ⟨g, q, none⟩ = false := by
  obtain ⟨h1, h2⟩ := cells_at h.row q
  exact ⟨⟨_, h1.trans (Array.getElem?_eq_getElem (by rw [h.size]; exact hq))⟩, h2⟩
set_option maxHeartbeats 4000000 in
set_option maxRecDepth 10000 in
theorem flushes_any (w : World) (B M : Nat) (v : Value) (n k : Nat) (s : Sta) (hT : IsT w B M v n k s) (C : Nat) (u : Value) (hR : IsR w C u n s.slots) (hap : ∀ i, Ft B M v i → ¬ Gt C u i)
    (a : Option Addr) (len cap : Nat) (Z : Nat → Int) (hZ : IntsIn w a len Z) (ha : ∀ x : Addr, a = some x → len ≠ 0 → ¬ Ft B M v x.block ∧ ¬ Gt C u x.block) :
    Calls Try.prog 45 #[.pointer (some ⟨B, 0, none⟩), .pointer (some ⟨C, 0, none⟩), .slice a len cap] w fun e w' => e = .returned (.bool true) ∧
      ∃ W1 v', IsT W1 B M v' n k (s.drop (ofCells Z len)) ∧ v'.ownBlock = v.ownBlock ∧ Chg w W1 (Ft B M v) ∧
      ∃ u', IsR w' C u' n (s.slots.filter (stays Z len)) ∧ (∀ b, u'.ownBlock = some b → W1.heap.size ≤ b) ∧ Chg W1 w' (fun i => i = C) := by
  obtain ⟨i3, z3, h3, hz3, hs3, hb3, hzs3⟩ := info3r
  obtain ⟨L, hL⟩ : ∃ L, L = len + 8 := ⟨_, rfl⟩
  have hle := hZ.le
  obtain ⟨W0, hmk, hrow1, hg1⟩ := run_make_full (P := Try.prog) w 0 61 3 i3 z3 1 Try.underlying61 h3 hz3 hs3 .i64 .i64 L (by rw [hb3]; omega) (by simp [maxLen]; omega) (Nat.zero_le _)
  obtain ⟨g, hg⟩ : ∃ g, g = w.heap.size := ⟨_, rfl⟩
  have hk1 : Kp w W0 := Chg.grown (Chg.refl w _) hg1 (fun k h => by cases h)
  rw [← hg] at hrow1 hmk
  rcases hrow1.2 with ⟨h, _⟩ | ⟨g', cap', cur, hv', _, hrow, _, _, hcs, _⟩
  · cases h
  obtain ⟨e1, e2⟩ : g' = g ∧ cap' = L := by
    simp at hv'
    exact ⟨hv'.1.symm, hv'.2.symm⟩
  subst e1 e2
  have KI : Hid (FuI w W0 g' cap' 0 Z len cur) := ⟨hrow, by simpa using hcs, fun q hq => by omega, hk1, hg⟩
  have KH : Hid (IsT w B M v n k s ∧ IsR w C u n s.slots ∧ (∀ i, Ft B M v i → ¬ Gt C u i) ∧ IntsIn w a len Z ∧ ∀ x : Addr, a = some x → len ≠ 0 → ¬ Ft B M v x.block ∧ ¬ Gt C u x.block) := ⟨hT, hR, hap, hZ, ha⟩
  have hadd : (len : Int) + 8 = (cap' : Int) := by omega
  have hwr : IntKind.i64.wrap ((len : Int) + 8) = (cap' : Int) := by rw [← hadd]; simp [IntKind.wrap, IntKind.bits, IntKind.signed]; omega
  have KL : Hid (cap' = len + 8) := hL
  clear hL
  clear hT hR hap hZ ha hrow1 hg1 hk1 hrow hcs hg h3 hz3 hs3 hb3 hzs3 hv'
  go_enter Try.func45, Try.ntmps45
  go_upto_region 2 with fail
  clear hadd hwr hmk
  go_wp2_with fail
  go_loopw [8] (fun s8 wr => ∃ (j : Nat) (arr : Array Value), s8 = .int .i64 j ∧ j ≤ cap' ∧ Hid (FuI w wr g' cap' j Z len arr)) (fun s8 _ => cap' - (intOf s8).toNat)
  case atStart => exact ⟨0, cur, rfl, by omega, KI⟩
  case round =>
    obtain ⟨j, arr, rfl, hj, HI⟩ := hrel
    clear KI
    have hcap : cap' ≤ 17592186043912 := by have := KL.out; omega
    by_cases hlt : j < cap'
    · have hltz : (j : Int) < (cap' : Int) := by omega
      obtain ⟨⟨z0, c0⟩, f0⟩ := HI.out.cell j hlt
      by_cases hjl : j < len
      · have hjlz : (j : Int) < (len : Int) := by omega
        obtain ⟨gz, oz, ez, hgz, cz⟩ := KH.out.2.2.2.1.src.resolve_left (by omega)
        subst ez
        have HA := HI.out.any (.int .i64 777)
        obtain ⟨⟨z1, c1⟩, f1⟩ := HA.cell j hlt
        have cz0 := HA.kp.cell (cz j hjl)
        have HP := HA.put hlt (Z j) (by simp [fullV, hjl])
        have HK : Hid (FuI w ((wr.setCell ⟨g', j, none⟩ (.int .i64 777)).setCell ⟨g', j, none⟩ (.int .i64 (Z j))) g' cap' (j + 1) Z len ((arr.setIfInBounds j (.int .i64 777)).setIfInBounds j (.int .i64 (Z j)))) := HP
        clear cz HA HP
        generalize Z j = zj at *
        go_wp2
        exact ⟨⟨j + 1, _, by go_num, by omega, HK⟩, by simp [intOf]; omega⟩
      · have hjlz : ¬ (j : Int) < (len : Int) := by omega
        have HK : Hid (FuI w (wr.setCell ⟨g', j, none⟩ (.int .i64 777)) g' cap' (j + 1) Z len (arr.setIfInBounds j (.int .i64 777))) := HI.out.put hlt 777 (by simp [fullV, hjl])
        go_wp2
        exact ⟨⟨j + 1, _, by go_num, by omega, HK⟩, by simp [intOf]; omega⟩
    · have hltz : ¬ (j : Int) < (cap' : Int) := by omega
      have ej : j = cap' := by omega
      subst ej
      obtain ⟨hT, hR, hap, hZ, ha⟩ := KH.out
      have hgn := HI.out.new
      have hcl := KL.out
      have hc17 := FlushCell_any0 wr B M v n k s (hT.kp HI.out.kp) (some ⟨g', 0, none⟩) len j Z ⟨.inr ⟨g', 0, rfl, (Array.getElem?_eq_some_iff.1 HI.out.row).1, fun q hq => by
        rw [(cells_at HI.out.row _).1, Nat.zero_add, HI.out.is q (by omega)]; simp [fullV, hq]⟩, hZ.le⟩ (fun x hx _ hf => by cases hx; have := hT.lt hf; simp at this; omega)
      obtain ⟨r17, hr17⟩ : ∃ r, r = ((s.l.length : Nat) : Int) - (((s.drop (ofCells Z len)).l.length : Nat) : Int) := ⟨_, rfl⟩
      rw [← hr17] at hc17
      have KR : Hid (r17 = ((s.l.length : Nat) : Int) - (((s.drop (ofCells Z len)).l.length : Nat) : Int)) := hr17
      have hlj : (len : Int) ≤ (j : Int) := by omega
      clear hT hR hap hZ ha hr17 hgn hcl
      go_wp2_with fail
      go_at_call 17
      refine hc17.mono ?_
      rintro e W1 ⟨rfl, v', hT1, ho1, hC1⟩
      clear hc17
      obtain ⟨hT, hR, hap, hZ, ha⟩ := KH.out
      have hgF : ¬ Ft B M v g' := fun hf => by have := hT.lt hf; have := HI.out.new; omega
      have hrow1 := hC1.heap HI.out.row hgF
      have hCw : Chg w W1 (Ft B M v) := Chg.trans (HI.out.kp.mono (fun _ _ h => h.elim)) hC1 (fun i _ e => e)
      have hR1 : IsR W1 C u n s.slots := hR.kept hCw (fun i hi e => hap i e hi)
      have hZ1 : IntsIn W1 a len Z := by
        by_cases h0 : len = 0
        · exact ⟨.inl h0, hZ.le⟩
        · exact hZ.kept hCw (fun x hx => (ha x hx h0).1)
      have K1 : Hid (IsT W1 B M v' n k (s.drop (ofCells Z len)) ∧ v'.ownBlock = v.ownBlock ∧ Chg w W1 (Ft B M v) ∧ IsR W1 C u n s.slots ∧ IntsIn W1 a len Z ∧ W1.heap[g']? = some (.cells arr 3 (0, 0)) ∧ ∀ q, q < j → arr[q]? = some (.int .i64 (fullV Z len q))) := ⟨hT1, ho1, hCw, hR1, hZ1, hrow1, HI.out.is⟩
      clear hT hR hap hZ ha hgF hrow1 hCw hR1 hZ1 hT1 ho1 hC1 HI hltz
      go_wp2_with fail
      go_loopw [10] (fun s10 wx => ∃ q : Nat, s10 = .int .i64 q ∧ q ≤ j ∧ Hid (Kp W1 wx)) (fun s10 _ => j - (intOf s10).toNat)
      case atStart => exact ⟨0, rfl, by omega, Chg.refl _ _⟩
      case round =>
        obtain ⟨q, rfl, hq, HX⟩ := hrel
        obtain ⟨_, _, _, hR1, hZ1, hrow1, his⟩ := K1.out
        by_cases hqj : q < j
        · have hqjz : (q : Int) < (j : Int) := by omega
          have c0 : wr.cell? ⟨g', q, none⟩ = some (.int .i64 (fullV Z len q)) := by rw [(cells_at (HX.out.heap hrow1) _).1]; exact his q hqj
          by_cases hql : q < len
          · have hqlz : (q : Int) < (len : Int) := by omega
            have hqlz2 : ¬ (len : Int) ≤ (q : Int) := by omega
            have hqlz3 : ¬ len ≤ q := by omega
            obtain ⟨gz, oz, ez, hgz, cz⟩ := hZ1.src.resolve_left (by omega)
            subst ez
            have cz0 := HX.out.cell (cz q hql)
            have hfv : fullV Z len q = Z q := by simp [fullV, hql]
            rw [hfv] at c0
            clear cz hR1 hZ1 hrow1 his hfv
            generalize Z q = zq at *
            go_wp2_with fail
            go_quiet (fail)
            go_wp2
            exact ⟨⟨q + 1, by go_num, by omega, Chg.drewN HX.out _⟩, by simp [intOf]; omega⟩
          · have hqlz : ¬ (q : Int) < (len : Int) := by omega
            have hqlz2 : (len : Int) ≤ (q : Int) := by omega
            have hfv : fullV Z len q = 777 := by simp [fullV, hql]
            rw [hfv] at c0
            clear hR1 hZ1 hrow1 his hfv
            go_wp2_with fail
            go_quiet (fail)
            go_wp2
            exact ⟨⟨q + 1, by go_num, by omega, Chg.drewN HX.out _⟩, by simp [intOf]; omega⟩
        · have hqjz : ¬ (q : Int) < (j : Int) := by omega
          have hc58 := rFlushCell_any wr C u n s.slots (hR1.kp HX.out) a len cap Z (hZ1.kept (S := fun _ => False) HX.out (fun _ _ h => h))
          have e58 : ((s.slots.length : Nat) : Int) - (((s.slots.filter (stays Z len)).length : Nat) : Int) = r17 := by
            rw [KR.out, ← dropCells_slots, Sta.slots_len, Sta.slots_len]
          rw [e58] at hc58
          clear hR1 hZ1 hrow1 his e58
          go_wp2_with fail
          go_at_call 58
          refine hc58.mono ?_
          rintro e W3 ⟨rfl, u', hR3, hn3, hC3⟩
          have KF : Hid (IsR W3 C u' n (s.slots.filter (stays Z len)) ∧ (∀ b, u'.ownBlock = some b → W1.heap.size ≤ b) ∧ Chg W1 W3 (fun i => i = C)) := ⟨hR3, fun b hb => Nat.le_trans HX.out.size (hn3 b hb), Chg.trans (HX.out.mono (fun _ _ h => h.elim)) hC3 (fun i _ e => e)⟩
          clear hc58 hR3 hn3 hC3
          go_wp2
          go_ret
          exact ⟨rfl, W1, v', K1.out.1, K1.out.2.1, K1.out.2.2.1, u', KF.out⟩
end Go.Proofs.Ytadpgaaijdpbiaa
namespace Go.Proofs.Ytadpgaaijdpbiaa
open Go.ChangeShapes Go.WideShapes Go.ChangeAt Go.RowKit Go.Shelf
set_option linter.unusedVariables false

/-- What is lent, and marked places behind it. -/
def fullS (l : List Sl4) (q : Nat) : Sl4 := if q < l.length then bAt l q else ((777, 0), (0, 0))
def A54 (arr : Array Value) (q : Nat) (x : Sl4) : Prop := arr[q * 4]? = some (.int .i64 x.1.1) ∧ arr[q * 4 + 1]? = some (.int .u32 ((x.1.2 : Nat) : Int)) ∧ arr[q * 4 + 2]? = some (.int .u32 ((x.2.1 : Nat) : Int)) ∧ arr[q * 4 + 3]? = some (.int .u8 ((x.2.2 : Nat) : Int))
/-- The list that is lent: what is known of its slots from lo on to hi. -/
structure FuS (w wr : World) (g L lo hi : Nat) (l : List Sl4) (arr : Array Value) : Prop where
  row : wr.heap[g]? = some (.cells arr 58 (0, 0))
  size : arr.size = L * 4
  is : ∀ q, lo ≤ q → q < hi → A54 arr q (fullS l q)
  kp : Kp w wr
  new : g = w.heap.size
def setA (arr : Array Value) (j : Nat) (x : Sl4) : Array Value := (((arr.setIfInBounds (j * 4) (.int .i64 x.1.1)).setIfInBounds (j * 4 + 1) (.int .u32 ((x.1.2 : Nat) : Int))).setIfInBounds (j * 4 + 2) (.int .u32 ((x.2.1 : Nat) : Int))).setIfInBounds (j * 4 + 3) (.int .u8 ((x.2.2 : Nat) : Int))
theorem setA_other (arr : Array Value) (j : Nat) (x : Sl4) (q : Nat) (y : Sl4) (hne : q ≠ j) (h : A54 arr q y) : A54 (setA arr j x) q y := by
  obtain ⟨h0, h1, h2, h3⟩ := h
  unfold setA
  refine ⟨?_, ?_, ?_, ?_⟩ <;> rw [Array.getElem?_setIfInBounds_ne (by omega), Array.getElem?_setIfInBounds_ne (by omega), Array.getElem?_setIfInBounds_ne (by omega), Array.getElem?_setIfInBounds_ne (by omega)] <;> assumption
theorem setA_same (arr : Array Value) (j : Nat) (x : Sl4) (h : (j + 1) * 4 ≤ arr.size) : A54 (setA arr j x) j x := by
  unfold setA
  refine ⟨?_, ?_, ?_, ?_⟩
  · rw [Array.getElem?_setIfInBounds_ne (by omega), Array.getElem?_setIfInBounds_ne (by omega), Array.getElem?_setIfInBounds_ne (by omega), Array.getElem?_setIfInBounds_self_of_lt (by omega)]
  · rw [Array.getElem?_setIfInBounds_ne (by omega), Array.getElem?_setIfInBounds_ne (by omega), Array.getElem?_setIfInBounds_self_of_lt (by simp; omega)]
  · rw [Array.getElem?_setIfInBounds_ne (by omega), Array.getElem?_setIfInBounds_self_of_lt (by simp; omega)]
  · rw [Array.getElem?_setIfInBounds_self_of_lt (by simp; omega)]
theorem setA_size (arr : Array Value) (j : Nat) (x : Sl4) : (setA arr j x).size = arr.size := by simp [setA]
section
variable {w wr : World} {g L lo hi : Nat} {l : List Sl4} {arr : Array Value}
theorem FuS.st (h : FuS w wr g L lo hi l arr) (j : Nat) (x : Sl4) : (st4 wr g (j * 4) x).heap[g]? = some (.cells (setA arr j x) 58 (0, 0)) ∧ Kp w (st4 wr g (j * 4) x) := by
  obtain ⟨h1, h2⟩ := st4_row wr g (j * 4) arr x h.row
  exact ⟨h1, Chg.trans h.kp h2 (fun i hi e => by have := h.new; omega)⟩
/-- One more is written. -/
theorem FuS.put (h : FuS w wr g L lo hi l arr) (hj : hi < L) (x : Sl4) (hx : x = fullS l hi) : FuS w (st4 wr g (hi * 4) x) g L lo (hi + 1) l (setA arr hi x) := by
  obtain ⟨h1, h2⟩ := h.st hi x
  refine ⟨h1, by rw [setA_size]; exact h.size, fun q h3 h4 => ?_, h2, h.new⟩
  by_cases e : q = hi
  · subst e; rw [← hx]; exact setA_same arr q x (by rw [h.size]; omega)
  · exact setA_other arr hi x q _ e (h.is q h3 (by omega))
theorem FuS.any (h : FuS w wr g L lo hi l arr) (x : Sl4) : FuS w (st4 wr g (hi * 4) x) g L lo hi l (setA arr hi x) := by
  obtain ⟨h1, h2⟩ := h.st hi x
  exact ⟨h1, by rw [setA_size]; exact h.size, fun q h3 h4 => setA_other arr hi x q _ (by omega) (h.is q h3 h4), h2, h.new⟩
/-- One is written over. -/
theorem FuS.over (h : FuS w wr g L lo hi l arr) (x : Sl4) : FuS w (st4 wr g (lo * 4) x) g L (lo + 1) hi l (setA arr lo x) := by
  obtain ⟨h1, h2⟩ := h.st lo x
  exact ⟨h1, by rw [setA_size]; exact h.size, fun q h3 h4 => setA_other arr lo x q _ (by omega) (h.is q (by omega) h4), h2, h.new⟩
theorem FuS.cells (h : FuS w wr g L lo hi l arr) (q : Nat) (hq : q < L) : (∃ z, wr.cell? ⟨g, q * 4, none⟩ = some z) ∧ (∃ z, wr.cell? ⟨g, q * 4 + 1, none⟩ = some z) ∧ (∃ z, wr.cell? ⟨g, q * 4 + 2, none⟩ = some z) ∧ (∃ z, wr.cell? ⟨g, q * 4 + 3, none⟩ = some z) ∧ wr.frozen? ⟨g, q * 4, none⟩ = false ∧ wr.frozen? ⟨g, q * 4 + 1, none⟩ = false ∧ wr.frozen? ⟨g, q * 4 + 2, none⟩ = false ∧ wr.frozen? ⟨g, q * 4 + 3, none⟩ = false := by
  have hs := h.size
  have ce : ∀ o, o < arr.size → ∃ z, wr.cell? ⟨g, o, none⟩ = some z := fun o ho => ⟨arr[o], by rw [(cells_at h.row _).1]; exact Array.getElem?_eq_getElem _⟩
  exact ⟨ce _ (by omega), ce _ (by omega), ce _ (by omega), ce _ (by omega), (cells_at h.row _).2, (cells_at h.row _).2, (cells_at h.row _).2, (cells_at h.row _).2⟩
theorem FuS.slot (h : FuS w wr g L lo hi l arr) (q : Nat) (h1 : lo ≤ q) (h2 : q < hi) : S54 g (q * 4) (fullS l q) wr := by
  obtain ⟨a0, a1, a2, a3⟩ := h.is q h1 h2
  exact ⟨by rw [(cells_at h.row _).1]; exact a0, by rw [(cells_at h.row _).1]; exact a1, by rw [(cells_at h.row _).1]; exact a2, by rw [(cells_at h.row _).1]; exact a3⟩
theorem FuS.later {V : World} (h : FuS w wr g L lo hi l arr) (hC : Kp wr V) : FuS w V g L lo hi l arr := ⟨hC.heap h.row, h.size, h.is, Kp.trans h.kp hC, h.new⟩
end
/-- When it is that a load is. -/
def LG (n : Int) (l : List Sl4) : Prop := 1 ≤ n ∧ n ≤ 64 ∧ (l.length : Int) ≤ n ∧ (tagsL l).Nodup
theorem tLoad_all (w : World) (n : Int) (a : Option Addr) (len cap : Nat) (l : List Sl4) (hS : SlotsIn w a len l) (hO : SOk l) :
    Calls Try.prog 23 #[.int .i64 n, .slice a len cap] w fun e w' => (¬ LG n l ∧ e = .returned (.tuple #[.pointer none, .int .i64 50]) ∧ Kp w w') ∨
      (LG n l ∧ ∃ B M v k s, e = .returned (.tuple #[.pointer (some ⟨B, 0, none⟩), .int .i64 0]) ∧ IsT w' B M v n.toNat k s ∧ s.slots = l ∧ (∀ i, Ft B M v i → w.heap.size ≤ i) ∧ Kp w w' ∧ k ≤ 1000) := by
  by_cases h1 : n < 1 ∨ 64 < n
  · refine (Load_bad w n h1 a len cap).mono ?_
    rintro e w' ⟨rfl, hk⟩
    exact .inl ⟨fun h => by have := h.1; have := h.2.1; omega, rfl, hk⟩
  · obtain ⟨m, rfl⟩ : ∃ m : Nat, n = (m : Int) := ⟨n.toNat, by omega⟩
    have hln := hS.ln
    by_cases h2 : m < len
    · refine (Load_long w m (by omega) (by omega) a len cap h2).mono ?_
      rintro e w' ⟨rfl, hk⟩
      exact .inl ⟨fun h => by have := h.2.2.1; omega, rfl, hk⟩
    · by_cases h3 : (tagsL l).Nodup
      · have hsl := ldF_slots m l (by omega) h3
        have hfull : (ldF m l l.length).l.length = l.length := by rw [← Sta.slots_len, hsl]
        refine (Load_any w m (by omega) (by omega) a len cap l hS hO (by omega) hfull).mono ?_
        rintro e w' ⟨B, M, v, k, rfl, hT, hn, hk, hk2⟩
        exact .inr ⟨⟨by omega, by omega, by omega, h3⟩, B, M, v, k, _, rfl, hT, hsl, hn, hk, hk2⟩
      · refine (Load_no w m (by omega) (by omega) a len cap l hS hO (by omega) (ldF_less m l (by omega) h3)).mono ?_
        rintro e w' ⟨rfl, hk⟩
        exact .inl ⟨fun h => h3 h.2.2.2, rfl, hk⟩
theorem rLoad_all (w : World) (n : Int) (a : Option Addr) (len cap : Nat) (l : List Sl4) (hS : SlotsIn w a len l) :
    Calls Try.prog 54 #[.int .i64 n, .slice a len cap] w fun e w' => (¬ LG n l ∧ e = .returned (.tuple #[.pointer none, .int .i64 50]) ∧ Kp w w') ∨
      (LG n l ∧ ∃ C v, e = .returned (.tuple #[.pointer (some ⟨C, 0, none⟩), .int .i64 0]) ∧ IsR w' C v n.toNat l ∧ (∀ i, Gt C v i → w.heap.size ≤ i) ∧ Kp w w') := by
  by_cases h1 : n < 1 ∨ 64 < n
  · refine (rLoad_bad w n h1 a len cap).mono ?_
    rintro e w' ⟨rfl, hk⟩
    exact .inl ⟨fun h => by have := h.1; have := h.2.1; omega, rfl, hk⟩
  · obtain ⟨m, rfl⟩ : ∃ m : Nat, n = (m : Int) := ⟨n.toNat, by omega⟩
    have hln := hS.ln
    by_cases h2 : m < len
    · refine (rLoad_long w m (by omega) (by omega) a len cap h2).mono ?_
      rintro e w' ⟨rfl, hk⟩
      exact .inl ⟨fun h => by have := h.2.2.1; omega, rfl, hk⟩
    · refine (rLoad_any w m (by omega) (by omega) a len cap l hS (by omega)).mono ?_
      rintro e w' (⟨h3, rfl, hk⟩ | ⟨h3, C, v, rfl, hR, hn, hk⟩)
      · exact .inl ⟨fun h => h3 h.2.2.2, rfl, hk⟩
      · exact .inr ⟨⟨by omega, by omega, by omega, h3⟩, C, v, rfl, hR, hn, hk⟩
end Go.Proofs.Ytadpgaaijdpbiaa
