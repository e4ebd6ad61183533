import Derived.Test.YtakddfhcafpceaaEc
namespace Go.Proofs.Ytakddfhcafpceaa
open Go.ChangeShapes Go.WideShapes Go.ChangeAt Go.RowKit Go.Shelf
set_option linter.unusedVariables false
/-- Numbers, in a list of one's own. -/
def OZ (w : World) (v : Value) (l : List Int) : Prop := w.ownsRow 0 3 1 v l.length (l.map fun i => .int .i64 i)
theorem OI.oz {w : World} {v : Value} {l : List Nat} (h : OI w v l) : OZ w v (l.map (fun (i : Nat) => (i : Int))) := by
  unfold OZ; rw [List.length_map, List.map_map]; exact h
theorem OZ.chg {w w' : World} {v : Value} {l : List Int} {S : Nat → Prop} (h : OZ w v l) (hc : Chg w w' S) (hn : ∀ k, v.ownBlock = some k → ¬ S k) : OZ w' v l := Chg.owns hc h hn
theorem OZ.kp {w w' : World} {v : Value} {l : List Int} (h : OZ w v l) (k : Kp w w') : OZ w' v l := h.chg k (fun _ _ e => e)
theorem OZ.at {w : World} {v : Value} {l : List Int} (h : OZ w v l) : (v = .slice none 0 0 ∧ l = []) ∨ ∃ g cap, v = .slice (some ⟨g, 0, none⟩) l.length cap ∧ (∃ cur, w.heap[g]? = some (.cells cur 3 (0, 0))) ∧ (∀ i (hi : i < l.length), w.cell? ⟨g, i, none⟩ = some (.int .i64 l[i])) ∧ ∀ i, w.frozen? ⟨g, i, none⟩ = false := by
  rcases h.2 with ⟨h1, h2⟩ | ⟨g, cap, cur, h1, h2, h3, h4, h5, h6, h7⟩
  · left; exact ⟨h1, List.eq_nil_of_length_eq_zero h2⟩
  · right
    refine ⟨g, cap, h1, ⟨_, h3⟩, fun i hi => ?_, fun i => (cells_at h3 i).2⟩
    rw [(cells_at h3 i).1, ← Array.getElem?_toList]
    have e := congrArg (fun l => l[i]?) h7
    simp only [Nat.mul_one] at e
    rw [List.getElem?_take, if_pos hi] at e
    rw [e]
    simp [hi]
theorem OZ.shape {w : World} {v : Value} {l : List Int} (h : OZ w v l) : ∃ a cap, v = .slice a l.length cap := by
  rcases h.at with ⟨rfl, rfl⟩ | ⟨g, cap, rfl, _⟩
  · exact ⟨_, _, rfl⟩
  · exact ⟨_, _, rfl⟩
theorem OZ.tp {w : World} {v : Value} {l : List Int} (h : OZ w v l) {k : Nat} (hk : v.ownBlock = some k) : ∃ cur, w.heap[k]? = some (.cells cur 3 (0, 0)) := own_tp h hk
/-- The first ones of a longer list in the same row. -/
theorem OZ.pre {w : World} {g cap : Nat} {l r : List Int} (h : OZ w (.slice (some ⟨g, 0, none⟩) (l ++ r).length cap) (l ++ r)) : OZ w (.slice (some ⟨g, 0, none⟩) l.length cap) l := by
  rcases h.2 with ⟨h1, h2⟩ | ⟨g', cap', cur, h1, h2, h3, h4, h5, h6, h7⟩
  · cases h1
  · obtain ⟨rfl, rfl⟩ : g = g' ∧ cap = cap' := by simpa using h1
    refine ⟨by simp, .inr ⟨g, cap, cur, rfl, h2, h3, ?_, h5, h6, ?_⟩⟩
    · simp at h4; omega
    · have := congrArg (List.take l.length) h7
      rw [List.take_take] at this
      simp only [Nat.mul_one, List.length_append] at this ⊢
      rw [Nat.min_eq_left (by omega)] at this
      rw [this, List.map_append, List.take_left']
      simp
/-- append: the same row, or a new one and nothing old is written. -/
theorem run_appZ (w : World) (v : Value) (xs : List Int) (hown : OZ w v xs) (b c : Nat) (ys : List Int) (hs : ∀ j (h : j < ys.length), w.cell? ⟨b, j, none⟩ = some (.int .i64 ys[j])) (hb : xs.length + ys.length ≤ 1000) (hy : 0 < ys.length) :
    ∃ v' w', (Builtin.append_ #[22, 22] 22 #[v, .slice (some ⟨b, 0, none⟩) ys.length c]).run Try.prog w = .ok v' w' ∧ OZ w' v' (xs ++ ys) ∧ ((∃ g cap, v = .slice (some ⟨g, 0, none⟩) xs.length cap ∧ v' = .slice (some ⟨g, 0, none⟩) (xs ++ ys).length cap ∧ Chg w w' (fun k => k = g)) ∨ (Nw w v' ∧ Kp w w')) := by
  obtain ⟨i0, hi, hz, hsz, hby⟩ := info3p
  have hnw : ∀ j u, (ys.map fun i => Value.int .i64 i)[j]? = some u → w.cell? ((⟨b, 0, none⟩ : Addr).add j) = some u := fun j u hu => by
    have hj : j < ys.length := by have := (List.getElem?_eq_some_iff.1 hu).1; simpa using this
    rw [Addr.add_lit, Nat.zero_add, hs j hj]
    simpa [hj] using hu
  have h1c : ∀ u ∈ (ys.map fun i => Value.int .i64 i), u.oneCell' = true := by intro u hu; simp at hu; obtain ⟨x, _, rfl⟩ := hu; rfl
  rcases hown.2 with ⟨rfl, h0⟩ | ⟨g, cap, cur, rfl, hbg, hg, hnc, hcm, hcs, htake⟩
  · have hx0 : xs = [] := List.eq_nil_of_length_eq_zero h0
    subst hx0
    obtain ⟨v', w', hr, ho, hg, hL⟩ := run_app (P := Try.prog) w 22 22 3 i0 (.int .i64 0) 1 8 Try.underlying22 hi hz hsz hby rfl (by omega) (.slice none 0 0) 0 [] ⟨rfl, .inl ⟨rfl, rfl⟩⟩ (some ⟨b, 0, none⟩) ys.length c (ys.map fun i => .int .i64 i) (by simp) (.inr ⟨b, 0, rfl, fun j u hu => by have := hnw j u hu; rw [Addr.add_lit] at this; exact this⟩) h1c (by simp [maxLen]; omega) (by omega)
    refine ⟨v', w', hr, by unfold OZ; simpa using ho, .inr ⟨fun k hk => ?_, Chg.grown (Chg.refl w _) hg (fun k hk => by simp [Value.ownBlock] at hk)⟩⟩
    rcases hL with e | ⟨k', e, h2⟩
    · rw [e] at hk; simp [Value.ownBlock] at hk
    · rw [e] at hk; cases hk; exact h2
  · by_cases hroom : xs.length + ys.length ≤ cap
    · obtain ⟨w', hr, h2, h3⟩ := run_append_fits (P := Try.prog) w 0 22 22 3 i0 1 Try.underlying22 hi hsz g xs.length cap _ hown ⟨b, 0, none⟩ ys.length c (ys.map fun i => .int .i64 i) (by simp) hnw h1c hroom
      refine ⟨_, w', hr, ?_, .inl ⟨g, cap, rfl, by rw [List.length_append], ⟨h3.os, h3.tape, h3.output, h3.size, fun k hk hn => h3.block k hk (fun e => hn (by simp at e; exact e))⟩⟩⟩
      unfold OZ
      rw [List.map_append, List.length_append]
      exact h2
    · have holds := hown.cells (g := g) rfl
      obtain ⟨v', w', hr, h2, h3⟩ := run_append_arg_grows (P := Try.prog) w 22 22 3 i0 (.int .i64 0) 1 8 Try.underlying22 hi hz hsz hby rfl (by omega) ⟨g, 0, none⟩ xs.length cap _ hown.1 holds ⟨b, 0, none⟩ ys.length c (ys.map fun i => .int .i64 i) (by simp) hnw (by omega) (by simp [maxLen]; omega) (by omega)
      refine ⟨v', w', hr, ?_, .inr ⟨fun k hk => ?_, ⟨h3.os, h3.tape, h3.output, h3.size, fun k hk _ => h3.block k hk (by simp)⟩⟩⟩
      · unfold OZ
        rw [List.map_append, List.length_append]
        rcases h2.2 with ⟨h4, h5⟩ | ⟨g', cap', cur', h4, hb', r'⟩
        · omega
        · exact ⟨h2.1, .inr ⟨g', cap', cur', h4, Nat.zero_le _, r'⟩⟩
      · rcases h2.2 with ⟨h4, h5⟩ | ⟨g', cap', cur', h4, hb', r'⟩
        · omega
        · rw [h4] at hk; simp [Value.ownBlock] at hk; omega
/-- A list that is kept: where it lies, whose it is, what it reads. -/
structure En where
  v : Value
  m : Nat
  l : List Int
/-- The lists that are kept. -/
structure Kt (s : Nat) (W : World) (vk : Value) (es : List En) : Prop where
  k : W.ownsRow 0 22 1 vk es.length (es.map (·.v))
  e : ∀ x ∈ es, OZ W x.v x.l
  kl : ∀ b, vk.ownBlock = some b → s ≤ b
  el : ∀ x ∈ es, ∀ b, x.v.ownBlock = some b → s ≤ b
  ap : ∀ x ∈ es, ∀ y ∈ es, ∀ b, x.v.ownBlock = some b → y.v.ownBlock = some b → x.m = y.m
theorem Kt.nil (s : Nat) (W : World) : Kt s W (.slice none 0 0) [] := ⟨⟨rfl, .inl ⟨rfl, rfl⟩⟩, (fun x h => by simp at h), (fun b h => by simp [Value.ownBlock] at h), (fun x h => by simp at h), (fun x h => by simp at h)⟩
theorem Kt.kp {s : Nat} {W W' : World} {vk : Value} {es : List En} (h : Kt s W vk es) (k : Kp W W') : Kt s W' vk es := ⟨Chg.owns k h.k (fun _ _ e => e), fun x hx => (h.e x hx).kp k, h.kl, h.el, h.ap⟩
theorem Kt.shape {s : Nat} {W : World} {vk : Value} {es : List En} (h : Kt s W vk es) : ∃ a cap, vk = .slice a es.length cap := by
  rcases h.k.2 with ⟨h1, h2⟩ | ⟨g, cap, cur, h1, _⟩
  · exact ⟨_, _, by rw [h1, h2]⟩
  · exact ⟨_, _, h1⟩
theorem Kt.at {s : Nat} {W : World} {vk : Value} {es : List En} (h : Kt s W vk es) {i : Nat} (hi : i < es.length) : ∃ g cap, vk = .slice (some ⟨g, 0, none⟩) es.length cap ∧ W.cell? ⟨g, i, none⟩ = some es[i].v := by
  rcases h.k.2 with ⟨h1, h2⟩ | ⟨g, cap, cur, h1, h2, h3, h4, h5, h6, h7⟩
  · omega
  · refine ⟨g, cap, h1, ?_⟩
    rw [(cells_at h3 i).1, ← Array.getElem?_toList]
    have e := congrArg (fun l => l[i]?) h7
    simp only [Nat.mul_one] at e
    rw [List.getElem?_take, if_pos hi] at e
    rw [e]
    simp [hi]
theorem info22p : ∃ i, Try.prog.info? 22 = some i ∧ i.zero = some (.slice none 0 0) ∧ i.size = 1 ∧ i.bytes = 24 := by
  have hz : (Try.prog.info? 22).map (fun i => (i.zero, i.size, i.bytes)) = some (some (.slice none 0 0), 1, 24) := by kernel_rfl
  cases hq : Try.prog.info? 22 with
  | none => rw [hq] at hz; cases hz
  | some i =>
    rw [hq] at hz
    have hz2 : i.zero = some (.slice none 0 0) ∧ i.size = 1 ∧ i.bytes = 24 := by simpa using hz
    exact ⟨i, rfl, hz2⟩
/-- append onto the list of lists. -/
theorem Kt.app {s : Nat} {W : World} {vk : Value} {es : List En} (h : Kt s W vk es) (b c : Nat) (ns : List En) (hs : ∀ j (hj : j < ns.length), W.cell? ⟨b, j, none⟩ = some ns[j].v) (hlen : es.length + ns.length ≤ 1000)
    (h0 : ∀ x ∈ ns, OZ W x.v x.l) (h1 : ∀ x ∈ ns, ∀ b, x.v.ownBlock = some b → s ≤ b) (h2 : ∀ x ∈ ns, ∀ y ∈ es ++ ns, ∀ b, x.v.ownBlock = some b → y.v.ownBlock = some b → x.m = y.m) (hsW : s ≤ W.heap.size) :
    ∃ v' w', (Builtin.append_ #[46, 46] 46 #[vk, .slice (some ⟨b, 0, none⟩) ns.length c]).run Try.prog W = .ok v' w' ∧ Kt s w' v' (es ++ ns) ∧ Chg W w' (fun k => s ≤ k) := by
  obtain ⟨i0, hi, hz, hsz, hby⟩ := info22p
  have h1c : ∀ u ∈ (ns.map (·.v)), u.oneCell' = true := by
    intro u hu
    obtain ⟨x, hx, rfl⟩ := List.mem_map.1 hu
    obtain ⟨a, cap, e⟩ := (h0 x hx).shape
    rw [e]; rfl
  obtain ⟨v', w', hr, ho, hg, hL⟩ := run_app (P := Try.prog) W 46 46 22 i0 (.slice none 0 0) 1 24 Try.underlying46 hi hz hsz hby rfl (by omega) vk es.length _ h.k (some ⟨b, 0, none⟩) ns.length c (ns.map (·.v)) (by simp) (.inr ⟨b, 0, rfl, fun j u hu => by
    have hj : j < ns.length := by have := (List.getElem?_eq_some_iff.1 hu).1; simpa using this
    rw [Nat.zero_add, hs j hj]
    simpa [hj] using hu⟩) h1c (by simp [maxLen]; omega) (by omega)
  have hc : Chg W w' (fun k => vk.ownBlock = some k) := Chg.grown (Chg.refl W _) hg (fun k hk => .inl hk)
  have ht : ∀ (x : En), OZ W x.v x.l → ∀ k, x.v.ownBlock = some k → ¬ vk.ownBlock = some k := fun x hx k hk e => by
    obtain ⟨c1, g1⟩ := hx.tp hk
    obtain ⟨c2, g2⟩ := own_tp h.k e
    rw [g1] at g2
    simp at g2
  refine ⟨v', w', hr, ⟨?_, fun x hx => ?_, fun k hk => ?_, fun x hx k hk => ?_, fun x hx y hy k h3 h4 => ?_⟩, hc.mono (fun i _ e => h.kl i e)⟩
  · rw [List.length_append, List.map_append]; exact ho
  · rcases List.mem_append.1 hx with e | e
    · exact (h.e x e).chg hc (ht x (h.e x e))
    · exact (h0 x e).chg hc (ht x (h0 x e))
  · rcases hL with e | ⟨k', e, h2⟩
    · rw [e] at hk; exact h.kl k hk
    · rw [e] at hk; cases hk; omega
  · rcases List.mem_append.1 hx with e | e
    · exact h.el x e k hk
    · exact h1 x e k hk
  · rcases List.mem_append.1 hx with e | e
    · rcases List.mem_append.1 hy with e2 | e2
      · exact h.ap x e y e2 k h3 h4
      · exact (h2 y e2 x (by simp [e]) k h4 h3).symm
    · exact h2 x e y hy k h3 h4
/-- One more, that is new. -/
theorem Kt.one {s : Nat} {W : World} {vk : Value} {es : List En} (h : Kt s W vk es) (x : En) (hx : OZ W x.v x.l) (hlen : es.length ≤ 900) (hsW : s ≤ W.heap.size) (hs : ∀ k, x.v.ownBlock = some k → s ≤ k) (hn : ∀ k, x.v.ownBlock = some k → ∀ y ∈ es, ¬ y.v.ownBlock = some k) :
    ∃ v' w', (Builtin.append_ #[46, 46] 46 #[vk, .slice (some ⟨W.heap.size, 0, none⟩) 1 1]).run Try.prog (W.alloc (.cells #[x.v] 22)) = .ok v' w' ∧ Kt s w' v' (es ++ [x]) ∧ Chg W w' (fun k => s ≤ k) := by
  have ka := Kp.al W (.cells #[x.v] 22)
  obtain ⟨v', w', hr, hk, hc⟩ := (h.kp ka).app W.heap.size 1 [x] (fun j hj => by
    have : j = 0 := by simp at hj; exact hj
    subst this
    exact (cells_at (heap_alloc_new W _) 0).1) (by simp; omega) (fun y hy => by simp at hy; subst hy; exact hx.kp ka) (fun y hy => by simp at hy; subst hy; exact hs) (fun y hy z hz k h1 h2 => by
      simp at hy; subst hy
      rcases List.mem_append.1 hz with e | e
      · exact absurd h2 (hn k h1 z e)
      · simp at e; rw [e]) (by have := ka.size; omega)
  exact ⟨v', w', hr, hk, Chg.trans ka.any hc (fun _ _ e => e)⟩
theorem Kt.lt {s : Nat} {W : World} {vk : Value} {es : List En} (h : Kt s W vk es) {x : En} (hx : x ∈ es) {k : Nat} (hk : x.v.ownBlock = some k) : k < W.heap.size := by
  obtain ⟨c, g⟩ := (h.e x hx).tp hk
  exact hp_lt g
end Go.Proofs.Ytakddfhcafpceaa
