import Derived.Test.YtkndlkcbhpfjoaaNs
import Derived.Test.YtkndlkcbhpfjoaaRr
namespace Go.Proofs.Ytkndlkcbhpfjoaa
open Go.ChangeShapes Go.WideShapes Go.ChangeAt Go.RowKit Go.Shelf
set_option linter.unusedVariables false
attribute [local go_sem] Oper.semAt_some
theorem results_boxB {fn : Func} {p : Tmp} (h : fn.results = #[.cell p 4]) (tmps : Array Value) (w : World) (b : Nat) (x : Bool)
    (hp : tmps.getD p undef = .pointer (some ⟨b, 0, none⟩)) (hb : w.cell? ⟨b, 0, none⟩ = some (.bool x)) :
    (results fn tmps).run Try.prog w = .ok (.bool x) w := by
  have hp' : tmps[p]?.getD undef = .pointer (some ⟨b, 0, none⟩) := by simpa using hp
  simp [results, h, hp', asAddr, go_sem, hb]
theorem fn_no_nil (g : Nat) (cs lb : Array Value) (w : World) : (binOp BinOp.eql 49 (.func (.func g) cs lb) Value.nilFunc).run Try.prog w = .ok (.bool false) w := by kernel_rfl
attribute [local go_sem] fn_no_nil
theorem lnA_get (f : Nat → Bool) (k : Nat) (hk : k < (lns f).length) : (lns f)[k] = lnA f k := by unfold lnA; rw [List.getD_eq_getElem?_getD, List.getElem?_eq_getElem hk]; rfl
theorem lns_len (f : Nat → Bool) : (lns f).length ≤ 32 := by unfold lns; have := List.length_filter_le f (List.range 32); simpa using this
/-- While the lines of another cell are ranged over. -/
structure OtI (w W : World) (b4 b5 b7 : Nat) (V : Value) (l : List Nat) (k : Nat) : Prop where
  kp : Kp w W
  x4 : W.heap[b4]? = some (.cells #[.bool false] 4 (0, 0))
  x5 : W.heap[b5]? = some (.cells #[V] 22 (0, 0))
  x7 : W.heap[b7]? = some (.cells #[.int .i64 (k : Nat)] 3 (0, 0))
  ow : OI W V l
theorem OtI.keep {w A C : World} {T : Nat → Prop} {b4 b5 b7 : Nat} {V : Value} {l : List Nat} {k : Nat} (n : Nat) (hw : w.heap.size ≤ n) (h : OtI w A b4 b5 b7 V l k) (h4 : b4 < n) (h5 : b5 < n) (h7 : b7 < n) (hV : ∀ g, V.ownBlock = some g → g < n) (hc : Chg A C T) (hT : ∀ i, i < n → ¬ T i) : OtI w C b4 b5 b7 V l k :=
  ⟨Chg.trans h.kp hc (fun i hi e => hT i (by omega) e), hc.heap h.x4 (hT _ h4), hc.heap h.x5 (hT _ h5), hc.heap h.x7 (hT _ h7), Chg.owns hc h.ow (fun g hg => hT _ (hV g hg))⟩
set_option maxHeartbeats 8000000 in
set_option maxRecDepth 10000 in
theorem others_any (w : World) (q B F R P M : Nat) (s : GS) (h : IsP w q B F R P M s) (c : Int) :
    Calls Try.prog 50 #[.pointer (some ⟨q, 0, none⟩), .int .i64 c] w fun e w' => e = .returned (.bool true) ∧ Kp w w' := by
  have H : Hid (IsP w q B F R P M s) := h
  clear h
  obtain ⟨w0, hw0⟩ : ∃ w0, w0 = w.alloc (.cells #[.bool false] 4) := ⟨_, rfl⟩
  obtain ⟨b4, hb4⟩ : ∃ b4, b4 = w.heap.size := ⟨_, rfl⟩
  have k0 : Kp w w0 := by rw [hw0]; exact (Chg.refl w _).alloc _
  have y4 : w0.heap[b4]? = some (.cells #[.bool false] 4 (0, 0)) := by rw [hw0, hb4]; exact heap_alloc_new w _
  have c1 := (H.out.kp k0).c1
  have hO := fOwn_any w0 F R P M s (H.out.kp k0).f c
  obtain ⟨f, hf⟩ : ∃ f, f = s.to c := ⟨_, rfl⟩
  rw [← hf] at hO
  have H0 : Hid (Kp w w0 ∧ w0.heap[b4]? = some (.cells #[.bool false] 4 (0, 0)) ∧ f = s.to c ∧ b4 = w.heap.size) := ⟨k0, y4, hf, hb4⟩
  clear k0 y4 hf
  refine (callsIn_wide (n := 4)).1 ?_
  refine callsIn_of_wp_marks Try.func50 rfl trivial ?_ rfl
  simp only [Try.ntmps50, List.size_toArray, List.length_cons, List.length_nil, Nat.reduceAdd, Nat.reduceSub, Array.replicate_succ, Array.replicate_zero, List.push_toArray, List.append_toArray, List.nil_append, List.cons_append]
  refine wpIn_wide.2 ?_
  go_upto_region 1 with fail
  rw [← hw0, ← hb4]
  clear hw0 hb4
  go_wp2_with fail
  go_at_call 49
  refine hO.mono ?_
  rintro e w5 ⟨v, rfl, ho, k5, hn5⟩
  clear hO c1
  obtain ⟨va, vc, rfl⟩ : ∃ va vc, v = .slice va (lns f).length vc := by
    rcases ho.at with ⟨h1, h2⟩ | ⟨g, cp, h1, _⟩
    · exact ⟨none, 0, by rw [h1, h2]; rfl⟩
    · exact ⟨_, _, h1⟩
  generalize hll : (lns f).length = ll at *
  obtain ⟨w6, hw6⟩ : ∃ w6, w6 = w5.alloc (.cells #[.slice va ll vc] 22) := ⟨_, rfl⟩
  obtain ⟨b5, hb5⟩ : ∃ b5, b5 = w5.heap.size := ⟨_, rfl⟩
  have k6 : Kp w5 w6 := by rw [hw6]; exact (Chg.refl w5 _).alloc _
  have y5 : w6.heap[b5]? = some (.cells #[.slice va ll vc] 22 (0, 0)) := by rw [hw6, hb5]; exact heap_alloc_new w5 _
  have hV : ∀ g, (Value.slice va ll vc).ownBlock = some g → g < b5 := fun g hg => by
    rcases ho.2 with ⟨e, _⟩ | ⟨g', cp, cur, e, _, hgg, _⟩
    · rw [e] at hg; cases hg
    · rw [e] at hg; cases hg; rw [hb5]; exact hp_lt hgg
  have k06 : Kp w0 w6 := Kp.trans k5 k6
  have kw6 := Kp.trans H0.out.1 k06
  have c0 := (H.out.kp kw6).c0
  have hL := lines_any w6 B c
  have H6 : Hid (Kp w w6 ∧ w6.heap[b4]? = some (.cells #[.bool false] 4 (0, 0)) ∧ w6.heap[b5]? = some (.cells #[.slice va ll vc] 22 (0, 0)) ∧ OI w6 (.slice va ll vc) (lns f) ∧ (∀ g, (Value.slice va ll vc).ownBlock = some g → g < b5) ∧ (lns f).length = ll ∧ b4 < w6.heap.size) := ⟨kw6, k06.heap H0.out.2.1, y5, Chg.owns k6 ho (fun _ _ h => h), hV, hll, hp_lt (k06.heap H0.out.2.1)⟩
  clear k6 y5 hV k06 kw6 ho k5 hn5 hll
  go_upto_region 2 with fail
  rw [← hw6, ← hb5]
  clear hw6 hb5
  go_wp2_with fail
  go_at_call 20
  refine hL.mono ?_
  rintro e w7 ⟨rfl, hw7⟩
  clear hL c0
  obtain ⟨bg, hbg⟩ : ∃ bg, bg = w6.heap.size := ⟨_, rfl⟩
  rw [← hbg]
  have k7 : Kp w6 w7 := by rw [hw7]; exact ((Chg.refl w6 _).alloc _).alloc _
  have s7 : w7.heap.size = bg + 2 := by rw [hw7, hbg]; simp
  have yg : w7.heap[bg]? = some (.cells #[.pointer (some ⟨B, 0, none⟩)] 24 (0, 0)) := by rw [hw7, hbg]; exact al_old _ (heap_alloc_new w6 _)
  have yc : w7.heap[bg + 1]? = some (.cells #[.int .i64 c] 3 (0, 0)) := by
    have := heap_alloc_new (w6.alloc (.cells #[.pointer (some ⟨B, 0, none⟩)] 24)) (.cells #[.int .i64 c] 3)
    rw [hw7, hbg]; simpa using this
  obtain ⟨w8, hw8⟩ : ∃ w8, w8 = w7.alloc (.cells #[.int .i64 0] 3) := ⟨_, rfl⟩
  have k8 : Kp w7 w8 := by rw [hw8]; exact (Chg.refl w7 _).alloc _
  have s8 : w8.heap.size = bg + 3 := by rw [hw8]; simp [s7]
  have y7 : w8.heap[bg + 2]? = some (.cells #[.int .i64 0] 3 (0, 0)) := by rw [hw8, ← s7]; exact heap_alloc_new w7 _
  have kb := Kp.trans k7 k8
  have kw := Kp.trans H6.out.1 kb
  have hseq := lines_seq w8 1 B bg (bg + 1) s (H.out.kp kw).g c (by rw [(cells_at (k8.heap yg) 0).1]; rfl) (by rw [(cells_at (k8.heap yc) 0).1]; rfl)
  rw [← H0.out.2.2.1] at hseq
  have hOt : OtI w w8 b4 b5 (bg + 2) (.slice va ll vc) (lns f) 0 := ⟨kw, kb.heap H6.out.2.1, kb.heap H6.out.2.2.1, y7, Chg.owns kb H6.out.2.2.2.1 (fun _ _ h => h)⟩
  have K0 : Hid (OtI w w8 b4 b5 (bg + 2) (.slice va ll vc) (lns f) 0 ∧ w8.heap.size = bg + 3 ∧ b4 < bg ∧ b5 < bg ∧ (∀ g, (Value.slice va ll vc).ownBlock = some g → g < b5) ∧ (lns f).length = ll ∧ w.heap.size ≤ b4 ∧ w.heap.size < bg) := ⟨hOt, s8, by have := H6.out.2.2.2.2.2.2; omega, by have := hp_lt H6.out.2.2.1; omega, H6.out.2.2.2.2.1, H6.out.2.2.2.2.2.1, by have := H0.out.2.2.2; omega, by have := H6.out.2.2.2.2.2.2; have := H0.out.2.2.2; omega⟩
  clear k7 yg yc k8 s8 y7 kb kw hOt hw7 hbg H6
  go_upto_region 5 with fail



  go_wp2_with fail
  rw [← hw8]
  clear hw8 s7
  refine (wpIn_wide (n := 4)).1 ?_
  refine range_own (gf := 38) rfl (enters_of Try.func38 (by kernel_rfl) rfl) hseq (fun _ _ => rfl)
    (fun _ k W => OtI w W b4 b5 (bg + 2) (.slice va ll vc) (lns f) k) (fun _ _ => False) ?_ (fun _ _ _ h _ => h) ?_ ?_ ?_
    (fun _ k a' W => a' = { tmps := #[Value.pointer (some { block := q, off := 0 }), Value.int IntKind.i64 c, undef, undef, Value.pointer (some { block := b4, off := 0 }), Value.pointer (some { block := b5, off := 0 }), Value.func (Fn.func 38) #[] #[Value.pointer (some { block := bg, off := 0 }), Value.pointer (some { block := bg + 1, off := 0 })], Value.pointer (some { block := bg + 2, off := 0 }), Value.int IntKind.i64 ↑(lnA f k), Value.pointer (some { block := q, off := 0 }), Value.pointer (some { block := q, off := 0 }), Value.pointer (some { block := q, off := 1 }), Value.pointer (some { block := F, off := 0 }), Value.int IntKind.i64 c, Value.slice va ll vc, Value.pointer (some { block := q, off := 0 }), Value.pointer (some { block := q, off := 0 }), Value.pointer (some { block := q, off := 0 }), Value.pointer (some { block := B, off := 0 }), Value.int IntKind.i64 c, Value.func (Fn.func 38) #[] #[Value.pointer (some { block := bg, off := 0 }), Value.pointer (some { block := bg + 1, off := 0 })], Value.func (Fn.func 38) #[] #[Value.pointer (some { block := bg, off := 0 }), Value.pointer (some { block := bg + 1, off := 0 })], Value.bool false, Value.func (Fn.func 38) #[] #[Value.pointer (some { block := bg, off := 0 }), Value.pointer (some { block := bg + 1, off := 0 })], Value.int IntKind.i64 ↑(lnA f k), undef, undef, undef, undef, undef, undef, undef, undef, undef, undef, undef, undef, undef, undef, undef, undef, undef, undef], defers := [] }) (fun _ _ _ _ _ h _ => h) ?assign ?body ?done (fun _ _ h => h.elim)
  · rintro _ k A C hA hC
    obtain ⟨q1, q2, q3, q4, q5, q6, q7, q8⟩ := K0.out
    exact hA.keep (bg + 3) (by omega) (by omega) (by omega) (by omega) (fun g hg => by have := q5 g hg; omega) hC (fun i hi e => by rcases e with e | e <;> omega)
  · rintro b A C D hAC hK hb h1
    have hbl : b < A.heap.size := World.block_lt_of_cell? A _ h1
    exact hK hb ((hAC.cell hbl (by rintro (e | e) <;> omega)).trans h1)
  · rintro b A C D hK hCD hb h
    have h1 := hK hb h
    have hbl : b < C.heap.size := World.block_lt_of_cell? C _ h1
    exact (hCD.cell hbl (by rintro (e | e) <;> omega)).trans h1
  · intro b W W1 hW hs hG
    obtain ⟨q1, q2, q3, q4, q5, q6, q7, q8⟩ := K0.out
    exact ⟨q1.keep (bg + 3) (by omega) (by omega) (by omega) (by omega) (fun g hg => by have := q5 g hg; omega) (Kp.trans hW hG.1) (fun i hi e => e), hG.1⟩
  case assign =>
    rintro b k W K' hk hI hs hK'
    unfold lArgs
    clear hI hk hs
    gi_wp2
    exact hK' _ _ (Chg.refl _ _) rfl
  case body =>
    rintro b k a' W hk hI rfl hs
    obtain ⟨q1, q2, q3, q4, q5, q6, q7, q8⟩ := K0.out
    obtain ⟨g, cp, eV, _, hgc⟩ := hI.ow.at.resolve_left (by rintro ⟨_, e⟩; rw [e] at hk; simp at hk)
    have eva : va = some ⟨g, 0, none⟩ := by cases eV; rfl
    have cl := hgc k hk
    rw [lnA_get f k hk] at cl
    have e5 : W.cell? ⟨b5, 0, none⟩ = some (.slice va ll vc) := by rw [(cells_at hI.x5 0).1]; rfl
    have e7 : W.cell? ⟨bg + 2, 0, none⟩ = some (.int .i64 (k : Nat)) := by rw [(cells_at hI.x7 0).1]; rfl
    have f7 : W.frozen? ⟨bg + 2, 0, none⟩ = false := (cells_at hI.x7 0).2
    have hkl : (k : Int) < (ll : Int) := by omega
    have hkn : ¬ ((ll : Int) ≤ (k : Int)) := by omega
    have hk32 : (k : Int) < 32 := by have := lns_len f; omega
    have ek : ((k + 1 : Nat) : Int) = (k : Int) + 1 := by omega
    obtain ⟨W1, hW1⟩ : ∃ W1, W1 = W.setCell ⟨bg + 2, 0, none⟩ (.int .i64 ((k : Int) + 1)) := ⟨_, rfl⟩
    have KX : Hid ((∀ i, Two w8.heap.size i → W1.heap[i]? = W.heap[i]?) ∧ OtI w W1 b4 b5 (bg + 2) (.slice va ll vc) (lns f) (k + 1) ∧ lKp 2 w8 f b W W1) := by
      have c2 : Chg W W1 (fun i => i = bg + 2) := by rw [hW1]; exact Chg.setCell (S := fun i => i = bg + 2) (Chg.refl _ _) (.inl rfl) _
      refine ⟨fun i hi => c2.block i (by rcases hi with e | e <;> omega) (by intro e; rcases hi with e' | e' <;> omega), ⟨Chg.trans hI.kp c2 (fun i hi e => by omega), c2.heap hI.x4 (by omega), c2.heap hI.x5 (by omega), ?_, Chg.owns c2 hI.ow (fun g' hg' e => by have := q5 g' hg'; omega)⟩, fun hb h1 => ?_⟩
      · rw [hW1, ek]; exact heap_setCell_same W (bg + 2) 0 _ 3 _ hI.x7
      · have hbl : b < W.heap.size := World.block_lt_of_cell? W _ h1
        exact (c2.cell hbl (by intro e; omega)).trans h1
    clear hI q1 q2 q3 q4 q5 q6 q7 q8 hk hs hseq eV ek hgc
    subst eva
    generalize lnA f k = ln at *
    gi_wp2
    rw [← hW1]
    exact KX.out
  case done =>
    rintro b W2 hI hD
    obtain ⟨q1, q2, q3, q4, q5, q6, q7, q8⟩ := K0.out
    have e5 : W2.cell? ⟨b5, 0, none⟩ = some (.slice va ll vc) := by rw [(cells_at hI.x5 0).1]; rfl
    have e7 : W2.cell? ⟨bg + 2, 0, none⟩ = some (.int .i64 (ll : Nat)) := by rw [(cells_at hI.x7 0).1, q6]; rfl
    have e4 : W2.cell? ⟨b4, 0, none⟩ = some (.bool false) := by rw [(cells_at hI.x4 0).1]; rfl
    have f4 : W2.frozen? ⟨b4, 0, none⟩ = false := (cells_at hI.x4 0).2
    obtain ⟨W3, hW3⟩ : ∃ W3, W3 = W2.setCell ⟨b4, 0, none⟩ (.bool true) := ⟨_, rfl⟩
    have c3 : Chg W2 W3 (fun k => k = b4) := by rw [hW3]; exact Chg.setCell (S := fun k => k = b4) (Chg.refl _ _) (.inl rfl) _
    have HE : Hid (Kp w W3 ∧ W3.heap[b4]? = some (.cells #[.bool true] 4 (0, 0)) ∧ W3.heap[w8.heap.size]? = some (.deferred (some [])) ∧ b4 < w8.heap.size ∧ w.heap.size ≤ w8.heap.size) := ⟨Chg.trans hI.kp c3 (fun i hi e => by omega), by rw [hW3]; exact heap_setCell_same W2 b4 0 _ 4 _ hI.x4, c3.heap hD (by omega), by omega, by omega⟩
    clear hI hD q1 q2 q3 q4 q5 q6 q7 q8 K0 hseq H H0 c3
    go_wp2
    rw [← hW3]
    obtain ⟨z1, z2, z3, z4, z5⟩ := HE.out
    refine ⟨by simp, .inl ⟨_, _, rfl, run_takeDeferred z3, ?_⟩⟩
    have g4 : (W3.putObj w8.heap.size (.deferred none)).heap[b4]? = some (.cells #[.bool true] 4 (0, 0)) := by rw [World.putObj_heap_other (by omega)]; exact z2
    exact ⟨_, results_boxB rfl _ _ b4 true rfl (by rw [(cells_at g4 0).1]; rfl), rfl, Chg.putObj z1 (.inr z5) _⟩
end Go.Proofs.Ytkndlkcbhpfjoaa
