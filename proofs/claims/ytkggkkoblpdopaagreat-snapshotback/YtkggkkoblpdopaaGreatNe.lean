import Derived.Test.YtkggkkoblpdopaaGreatNd
namespace Go.Proofs.YtkggkkoblpdopaaGreat
open Go.ChangeShapes Go.WideShapes Go.ChangeAt Go.RowKit
set_option linter.unusedVariables false
set_option maxHeartbeats 1000000 in
set_option maxRecDepth 10000 in
theorem rrow59 {α : Type} {D : World → List Value → α → Prop} {T : Nat → Prop} {f : RS → α × RS} (hD : Stb T D) (hT : ¬ T 256) (hTe : ¬ T 114) (hfb : ∀ s, (f s).2.bs = s.bs)
  {w : World} {R : Nat} {a : Option Addr} {cap : Nat} {s : RS} {b : Nat} {cs : Array Value} {ty : Nat} (h : R1 w R a cap s b cs ty) (hty : ¬ T ty) (o : Nat) (hcs : cs[o]? = some (.slice none 0 0)) (F HB : Nat) (hent : ∀ args w, (callFunc F args).run Tryz.prog w = .ok (.enter F args) w)
  (hst : ∀ (wi : World) (t : RS) (eb : Nat) (ec : Array Value) (k : Nat), t.bs = s.bs → Chg w wi (fun k => k = R ∨ k = b) → w.heap.size ≤ eb → R1 wi R a cap t eb ec 114 → (∀ i u, ZSpl[i]? = some u → ec[k * 6 + i]? = some u) → k * 6 + 6 ≤ ec.size →
   Calls Tryz.prog F #[.pointer (some ⟨eb, k * 6, none⟩), .pointer (some ⟨HB, 0, none⟩)] wi fun r w' => r = .returned (.tuple #[]) ∧ ∃ ez l, RX wi w' R a cap (f t).2 eb ez 114 ∧ Filled ec ez (k * 6) 6 l ∧ l.length = 6 ∧ D w' l (f t).1) :
  Calls Tryz.prog 59 #[.iface 101 (hR R), .pointer (some ⟨b, o, none⟩), .func (.func F) #[] #[.pointer (some ⟨HB, 0, none⟩)]] w fun r w' => RowR D 114 6 w R a cap (s.row f).2 (s.row f).1 b cs ty o r w' := by
 have hbl := hp_lt h.bl
 have hRl := hp_lt h.rs.box
 have hal := h.rs.bytes
 have hos : o < cs.size := (Array.getElem?_eq_some_iff.1 hcs).1
 have hlt32 : s.num 4 < 4294967296 := RS.num_lt s 4 h.rs.rng
 have haw : ∀ x off, a = some ⟨x, off, none⟩ → 0 < s.bs.length → x < w.heap.size := by
  intro x off e hl
  obtain ⟨q1, q2, q3, q4⟩ := hal
  rcases q4 with q4 | ⟨bb, oo, q4, q5⟩
  ·omega
  ·rw [e] at q4; cases q4
   have := lt_of_cell (q5 0 hl)
   omega
 have cL : w.cell? ⟨b, o, none⟩ = some (.slice none 0 0) := by rw [(cells_at h.bl o).1]; exact hcs
 obtain ⟨w1, hw1⟩ : ∃ w1, w1 = w.alloc (.cells #[.int .i64 0] 3) := ⟨_, rfl⟩
 have k1 : Kp w w1 := by rw [hw1]; exact Kp.al _ _
 have hx : w1.heap[w.heap.size]? = some (.cells #[.int .i64 0] 3 (0, 0)) := by rw [hw1]; exact heap_alloc_new w _
 have r1 : R1 w1 R a cap s w.heap.size #[.int .i64 0] 3 := ⟨(h.kp k1).rs, hx, by omega, fun x off e hl hxx => by have := haw x off e hl; omega⟩
 have A1 := rwordOf r1 0 (by simp)
 obtain ⟨n, hn⟩ : ∃ n, n = s.num 4 := ⟨_, rfl⟩
 have hrow : s.row f = rl f n (s.take 4).2 := by rw [hn]; rfl
 rw [hrow]
 rw [← hn] at A1 hlt32
 have HW : Hid (R < w.heap.size ∧ b < w.heap.size ∧ o < cs.size ∧ (∀ x off, a = some ⟨x, off, none⟩ → 0 < s.bs.length → x < w.heap.size) ∧ n < 4294967296 ∧ (s.take 4).2.bs = s.bs) := ⟨hRl, hbl, hos, haw, hlt32, RS.take_bs s 4⟩
 have HR : Hid (R1 w R a cap s b cs ty ∧ Kp w w1 ∧ w.heap.size < w1.heap.size ∧ cs[o]? = some (.slice none 0 0)) := ⟨h, k1, hp_lt hx, hcs⟩
 clear h k1 r1 hx hal hcs hRl hbl hos haw hlt32 hn hrow
 obtain ⟨s1, hs1⟩ : ∃ s1, s1 = (s.take 4).2 := ⟨_, rfl⟩
 rw [← hs1] at HW A1 ⊢
 have hm := (mr_wordOf R).m
 go_enter Tryz.func59, Tryz.ntmps59
 go_wp2_with fail
 rw [← hw1]
 clear hw1
 go_at_call 255
 refine A1.mono ?_
 clear A1 hm cL
 rintro e w2 ⟨rfl, q⟩
 have c2 : w2.cell? ⟨w.heap.size, 0, none⟩ = some (.int .i64 (n : Nat)) := by rw [(cells_at q.1.bl 0).1]; rfl
 have HX : Hid (LR D 114 6 w w2 R a cap s1 b cs ty o 0 []) := by
  obtain ⟨hr, k1, hs, hcs⟩ := HR.out
  have c : Chg w w2 (fun k => k = R) := Chg.trans (Chg.trans k1.any q.2 (S := fun k => k = R ∨ k = w.heap.size) (fun _ _ e => e)) (Chg.refl w2 (fun _ => False)) (fun _ _ e => e.elim) |>.mono (fun k hk e => e.resolve_right (by omega))
  have r2 := hr.read (s' := s1) q.1.rs c HW.out.2.2.2.2.2
  refine ⟨rfl, none, 0, [], ⟨by rw [set_same hcs]; exact r2, c.mono (fun _ _ e => .inl e)⟩, World.ownsRow_nil _ _ _ _, fun k hk => by simp [Value.ownBlock] at hk, Thg.nil⟩
 clear HR q hs1
 go_wp2_with fail
 go_loopw [7, 15] (fun _ s15 wr => ∃ k : Nat, s15 = .int .i64 k ∧ k ≤ n ∧ Hid (LR D 114 6 w wr R a cap (rl f k s1).2 b cs ty o k (rl f k s1).1)) (fun _ s15 _ => n - nI s15)
 case atStart => exact ⟨0, rfl, by omega, HX⟩
 case round =>
  obtain ⟨k, rfl, hk, HR⟩ := hrel
  clear HX c2
  rename World => wz
  by_cases hlt : k < n
  ·have h1z : (k : Int) < (n : Int) := by omega
   have hgo := rl_go (f := f) (k := k) (s := s1)
   have hstop := rl_stop (f := f) (k := k) (s := s1)
   have hbs : (rl f k s1).2.bs = s.bs := (rl_bs hfb k s1).trans HW.out.2.2.2.2.2
   obtain ⟨t, ht⟩ : ∃ t, t = (rl f k s1).2 := ⟨_, rfl⟩
   obtain ⟨xs, hxs⟩ : ∃ xs, xs = (rl f k s1).1 := ⟨_, rfl⟩
   rw [← ht] at HR hgo hstop hbs
   rw [← hxs] at HR hgo
   have A0 : Calls Tryz.prog 31 #[hR R] wz fun r w' => r = .returned (.bool (!decide (t.err = 0))) ∧ Kp wz w' := over_any wz R a cap t (by obtain ⟨_, _, _, _, q, _⟩ := HR.out; exact q.1.rs)
   have hm := (mr_over R).m
   by_cases he : t.err = 0
   ·rw [decide_eq_true he] at A0
    have HE : Hid (rl f (k + 1) s1 = (xs ++ [(f t).1], (f t).2) ∧ t.bs = s.bs ∧ k + 1 ≤ 4294967296) := ⟨hgo he, hbs, by have := HW.out.2.2.2.2.1; omega⟩
    clear hgo hstop hbs he ht hxs
    go_wp2_with fail
    go_at_call 31
    refine A0.mono ?_
    clear A0 hm
    rintro e w3 ⟨rfl, k3⟩
    obtain ⟨hRl, hbl, hos, haw, hn32, _⟩ := HW.out
    obtain ⟨va, vc, hc3, WA, WB, W7, n0, n1, g, gc, ec, cl, G⟩ := HR.out.grow tl32 hD hT hTe hty hRl hbl hos (by rw [HE.out.2.1]; exact haw) HE.out.2.2 k3
    have hxl := HR.out.1
    have HG : Hid (Grown D 32 114 6 ZSpl w w3 R a cap t b cs ty o k xs va vc WA WB W7 n0 n1 g gc ec cl ∧ xs.length = k) := ⟨G, hxl⟩
    clear G HR k3 hRl hbl hos haw hn32 hxl
    go_upto_region 7 with fail
    refine reg59_7 w3 WA WB W7 _ b o n0 n1 _ _ HG.out.1.l0 HG.out.1.lA HG.out.1.lB HG.out.1.al HG.out.1.zA HG.out.1.bs HG.out.1.ap HG.out.1.st _ (fun _ _ _ q _ h => by cases q <;> exact h) ?_
    have c8 := HG.out.1.ce
    have A1 := hst (W7.setCell ⟨b, o, none⟩ (.slice (some ⟨g, 0, none⟩) (k + 1) gc)) t g ec k HE.out.2.1 HG.out.1.rx.2 HG.out.1.fr HG.out.1.r1 (HG.out.1.zero (by rw [HG.out.1.th.len, HG.out.2]) rfl).1 (HG.out.1.zero (by rw [HG.out.1.th.len, HG.out.2]) rfl).2
    obtain ⟨W8, hW8⟩ : ∃ W8,W8 = W7.setCell ⟨b, o, none⟩ (.slice (some ⟨g, 0, none⟩) (k + 1) gc) := ⟨_, rfl⟩
    rw [← hW8] at c8 A1 ⊢
    have h2z : (k : Int) < ((k + 1 : Nat) : Int) := by omega
    clear hc3
    obtain ⟨m, hmm⟩ : ∃ m, m = k + 1 := ⟨_, rfl⟩
    have HM : Hid (m = k + 1 ∧ W8 = W7.setCell ⟨b, o, none⟩ (.slice (some ⟨g, 0, none⟩) (k + 1) gc)) := ⟨hmm, hW8⟩
    rw [← hmm] at c8 h2z
    clear hmm hW8
    go_wp2_with fail
    go_at_fn F
    refine A1.mono ?_
    clear A1 c8
    rintro e w4 ⟨rfl, ez, l, q, hf, hl, hdx⟩
    have H1 : Hid (LR D 114 6 w w4 R a cap (rl f (k + 1) s1).2 b cs ty o (k + 1) (rl f (k + 1) s1).1) := by
     rw [HE.out.1]
     rw [HM.out.2] at q
     exact HG.out.1.next hD hT hTe HG.out.2 HW.out.1 HW.out.2.1 (hfb t) rfl q hf hl hdx
    clear q hf hl hdx HG HM HE h2z
    have hn32 := HW.out.2.2.2.2.1
    go_wp2_with fail
    exact ⟨⟨k + 1, by go_num, by omega, H1⟩, by simp [nI]; omega⟩
   ·rw [decide_eq_false he] at A0
    have e1 := hstop he n hk
    have e2 : rl f k s1 = (xs, t) := by rw [ht, hxs]
    have H1 : Hid (LR D 114 6 w wz R a cap (rl f n s1).2 b cs ty o k (rl f n s1).1) := by rw [e1, e2]; exact HR.out
    clear HR hst hgo hstop hbs he ht hxs e1 e2
    go_wp2_with fail
    go_at_call 31
    refine A0.mono ?_
    clear A0 hm
    rintro e w3 ⟨rfl, k3⟩
    have H2 : Hid (LR D 114 6 w w3 R a cap (rl f n s1).2 b cs ty o k (rl f n s1).1) := H1.out.kp hD k3
    clear H1 k3
    go_wp2
    refine bodyPost_ret (results_none rfl _ _ _) rfl H2.out.fin
  ·have h1z : ¬ (k : Int) < (n : Int) := by omega
   obtain rfl : k = n := by omega
   have H1 : Hid (LR D 114 6 w wz R a cap (rl f k s1).2 b cs ty o k (rl f k s1).1) := HR.out
   clear HR hst
   go_wp2_with fail
   exact ⟨rfl, _, results_none rfl _ _ _, H1.out.fin⟩
set_option maxHeartbeats 1000000 in
set_option maxRecDepth 10000 in
theorem rrow62 {α : Type} {D : World → List Value → α → Prop} {T : Nat → Prop} {f : RS → α × RS} (hD : Stb T D) (hT : ¬ T 256) (hTe : ¬ T 69) (hfb : ∀ s, (f s).2.bs = s.bs)
  {w : World} {R : Nat} {a : Option Addr} {cap : Nat} {s : RS} {b : Nat} {cs : Array Value} {ty : Nat} (h : R1 w R a cap s b cs ty) (hty : ¬ T ty) (o : Nat) (hcs : cs[o]? = some (.slice none 0 0)) (F HB : Nat) (hent : ∀ args w, (callFunc F args).run Tryz.prog w = .ok (.enter F args) w)
  (hst : ∀ (wi : World) (t : RS) (eb : Nat) (ec : Array Value) (k : Nat), t.bs = s.bs → Chg w wi (fun k => k = R ∨ k = b) → w.heap.size ≤ eb → R1 wi R a cap t eb ec 69 → (∀ i u, ZQue[i]? = some u → ec[k * 7 + i]? = some u) → k * 7 + 7 ≤ ec.size →
   Calls Tryz.prog F #[.pointer (some ⟨eb, k * 7, none⟩), .pointer (some ⟨HB, 0, none⟩)] wi fun r w' => r = .returned (.tuple #[]) ∧ ∃ ez l, RX wi w' R a cap (f t).2 eb ez 69 ∧ Filled ec ez (k * 7) 7 l ∧ l.length = 7 ∧ D w' l (f t).1) :
  Calls Tryz.prog 62 #[.iface 101 (hR R), .pointer (some ⟨b, o, none⟩), .func (.func F) #[] #[.pointer (some ⟨HB, 0, none⟩)]] w fun r w' => RowR D 69 7 w R a cap (s.row f).2 (s.row f).1 b cs ty o r w' := by
 have hbl := hp_lt h.bl
 have hRl := hp_lt h.rs.box
 have hal := h.rs.bytes
 have hos : o < cs.size := (Array.getElem?_eq_some_iff.1 hcs).1
 have hlt32 : s.num 4 < 4294967296 := RS.num_lt s 4 h.rs.rng
 have haw : ∀ x off, a = some ⟨x, off, none⟩ → 0 < s.bs.length → x < w.heap.size := by
  intro x off e hl
  obtain ⟨q1, q2, q3, q4⟩ := hal
  rcases q4 with q4 | ⟨bb, oo, q4, q5⟩
  ·omega
  ·rw [e] at q4; cases q4
   have := lt_of_cell (q5 0 hl)
   omega
 have cL : w.cell? ⟨b, o, none⟩ = some (.slice none 0 0) := by rw [(cells_at h.bl o).1]; exact hcs
 obtain ⟨w1, hw1⟩ : ∃ w1, w1 = w.alloc (.cells #[.int .i64 0] 3) := ⟨_, rfl⟩
 have k1 : Kp w w1 := by rw [hw1]; exact Kp.al _ _
 have hx : w1.heap[w.heap.size]? = some (.cells #[.int .i64 0] 3 (0, 0)) := by rw [hw1]; exact heap_alloc_new w _
 have r1 : R1 w1 R a cap s w.heap.size #[.int .i64 0] 3 := ⟨(h.kp k1).rs, hx, by omega, fun x off e hl hxx => by have := haw x off e hl; omega⟩
 have A1 := rwordOf r1 0 (by simp)
 obtain ⟨n, hn⟩ : ∃ n, n = s.num 4 := ⟨_, rfl⟩
 have hrow : s.row f = rl f n (s.take 4).2 := by rw [hn]; rfl
 rw [hrow]
 rw [← hn] at A1 hlt32
 have HW : Hid (R < w.heap.size ∧ b < w.heap.size ∧ o < cs.size ∧ (∀ x off, a = some ⟨x, off, none⟩ → 0 < s.bs.length → x < w.heap.size) ∧ n < 4294967296 ∧ (s.take 4).2.bs = s.bs) := ⟨hRl, hbl, hos, haw, hlt32, RS.take_bs s 4⟩
 have HR : Hid (R1 w R a cap s b cs ty ∧ Kp w w1 ∧ w.heap.size < w1.heap.size ∧ cs[o]? = some (.slice none 0 0)) := ⟨h, k1, hp_lt hx, hcs⟩
 clear h k1 r1 hx hal hcs hRl hbl hos haw hlt32 hn hrow
 obtain ⟨s1, hs1⟩ : ∃ s1, s1 = (s.take 4).2 := ⟨_, rfl⟩
 rw [← hs1] at HW A1 ⊢
 have hm := (mr_wordOf R).m
 go_enter Tryz.func62, Tryz.ntmps62
 go_wp2_with fail
 rw [← hw1]
 clear hw1
 go_at_call 255
 refine A1.mono ?_
 clear A1 hm cL
 rintro e w2 ⟨rfl, q⟩
 have c2 : w2.cell? ⟨w.heap.size, 0, none⟩ = some (.int .i64 (n : Nat)) := by rw [(cells_at q.1.bl 0).1]; rfl
 have HX : Hid (LR D 69 7 w w2 R a cap s1 b cs ty o 0 []) := by
  obtain ⟨hr, k1, hs, hcs⟩ := HR.out
  have c : Chg w w2 (fun k => k = R) := Chg.trans (Chg.trans k1.any q.2 (S := fun k => k = R ∨ k = w.heap.size) (fun _ _ e => e)) (Chg.refl w2 (fun _ => False)) (fun _ _ e => e.elim) |>.mono (fun k hk e => e.resolve_right (by omega))
  have r2 := hr.read (s' := s1) q.1.rs c HW.out.2.2.2.2.2
  refine ⟨rfl, none, 0, [], ⟨by rw [set_same hcs]; exact r2, c.mono (fun _ _ e => .inl e)⟩, World.ownsRow_nil _ _ _ _, fun k hk => by simp [Value.ownBlock] at hk, Thg.nil⟩
 clear HR q hs1
 go_wp2_with fail
 go_loopw [7, 15] (fun _ s15 wr => ∃ k : Nat, s15 = .int .i64 k ∧ k ≤ n ∧ Hid (LR D 69 7 w wr R a cap (rl f k s1).2 b cs ty o k (rl f k s1).1)) (fun _ s15 _ => n - nI s15)
 case atStart => exact ⟨0, rfl, by omega, HX⟩
 case round =>
  obtain ⟨k, rfl, hk, HR⟩ := hrel
  clear HX c2
  rename World => wz
  by_cases hlt : k < n
  ·have h1z : (k : Int) < (n : Int) := by omega
   have hgo := rl_go (f := f) (k := k) (s := s1)
   have hstop := rl_stop (f := f) (k := k) (s := s1)
   have hbs : (rl f k s1).2.bs = s.bs := (rl_bs hfb k s1).trans HW.out.2.2.2.2.2
   obtain ⟨t, ht⟩ : ∃ t, t = (rl f k s1).2 := ⟨_, rfl⟩
   obtain ⟨xs, hxs⟩ : ∃ xs, xs = (rl f k s1).1 := ⟨_, rfl⟩
   rw [← ht] at HR hgo hstop hbs
   rw [← hxs] at HR hgo
   have A0 : Calls Tryz.prog 31 #[hR R] wz fun r w' => r = .returned (.bool (!decide (t.err = 0))) ∧ Kp wz w' := over_any wz R a cap t (by obtain ⟨_, _, _, _, q, _⟩ := HR.out; exact q.1.rs)
   have hm := (mr_over R).m
   by_cases he : t.err = 0
   ·rw [decide_eq_true he] at A0
    have HE : Hid (rl f (k + 1) s1 = (xs ++ [(f t).1], (f t).2) ∧ t.bs = s.bs ∧ k + 1 ≤ 4294967296) := ⟨hgo he, hbs, by have := HW.out.2.2.2.2.1; omega⟩
    clear hgo hstop hbs he ht hxs
    go_wp2_with fail
    go_at_call 31
    refine A0.mono ?_
    clear A0 hm
    rintro e w3 ⟨rfl, k3⟩
    obtain ⟨hRl, hbl, hos, haw, hn32, _⟩ := HW.out
    obtain ⟨va, vc, hc3, WA, WB, W7, n0, n1, g, gc, ec, cl, G⟩ := HR.out.grow tl33 hD hT hTe hty hRl hbl hos (by rw [HE.out.2.1]; exact haw) HE.out.2.2 k3
    have hxl := HR.out.1
    have HG : Hid (Grown D 33 69 7 ZQue w w3 R a cap t b cs ty o k xs va vc WA WB W7 n0 n1 g gc ec cl ∧ xs.length = k) := ⟨G, hxl⟩
    clear G HR k3 hRl hbl hos haw hn32 hxl
    go_upto_region 7 with fail
    refine reg62_7 w3 WA WB W7 _ b o n0 n1 _ _ HG.out.1.l0 HG.out.1.lA HG.out.1.lB HG.out.1.al HG.out.1.zA HG.out.1.bs HG.out.1.ap HG.out.1.st _ (fun _ _ _ q _ h => by cases q <;> exact h) ?_
    have c8 := HG.out.1.ce
    have A1 := hst (W7.setCell ⟨b, o, none⟩ (.slice (some ⟨g, 0, none⟩) (k + 1) gc)) t g ec k HE.out.2.1 HG.out.1.rx.2 HG.out.1.fr HG.out.1.r1 (HG.out.1.zero (by rw [HG.out.1.th.len, HG.out.2]) rfl).1 (HG.out.1.zero (by rw [HG.out.1.th.len, HG.out.2]) rfl).2
    obtain ⟨W8, hW8⟩ : ∃ W8,W8 = W7.setCell ⟨b, o, none⟩ (.slice (some ⟨g, 0, none⟩) (k + 1) gc) := ⟨_, rfl⟩
    rw [← hW8] at c8 A1 ⊢
    have h2z : (k : Int) < ((k + 1 : Nat) : Int) := by omega
    clear hc3
    obtain ⟨m, hmm⟩ : ∃ m, m = k + 1 := ⟨_, rfl⟩
    have HM : Hid (m = k + 1 ∧ W8 = W7.setCell ⟨b, o, none⟩ (.slice (some ⟨g, 0, none⟩) (k + 1) gc)) := ⟨hmm, hW8⟩
    rw [← hmm] at c8 h2z
    clear hmm hW8
    go_wp2_with fail
    go_at_fn F
    refine A1.mono ?_
    clear A1 c8
    rintro e w4 ⟨rfl, ez, l, q, hf, hl, hdx⟩
    have H1 : Hid (LR D 69 7 w w4 R a cap (rl f (k + 1) s1).2 b cs ty o (k + 1) (rl f (k + 1) s1).1) := by
     rw [HE.out.1]
     rw [HM.out.2] at q
     exact HG.out.1.next hD hT hTe HG.out.2 HW.out.1 HW.out.2.1 (hfb t) rfl q hf hl hdx
    clear q hf hl hdx HG HM HE h2z
    have hn32 := HW.out.2.2.2.2.1
    go_wp2_with fail
    exact ⟨⟨k + 1, by go_num, by omega, H1⟩, by simp [nI]; omega⟩
   ·rw [decide_eq_false he] at A0
    have e1 := hstop he n hk
    have e2 : rl f k s1 = (xs, t) := by rw [ht, hxs]
    have H1 : Hid (LR D 69 7 w wz R a cap (rl f n s1).2 b cs ty o k (rl f n s1).1) := by rw [e1, e2]; exact HR.out
    clear HR hst hgo hstop hbs he ht hxs e1 e2
    go_wp2_with fail
    go_at_call 31
    refine A0.mono ?_
    clear A0 hm
    rintro e w3 ⟨rfl, k3⟩
    have H2 : Hid (LR D 69 7 w w3 R a cap (rl f n s1).2 b cs ty o k (rl f n s1).1) := H1.out.kp hD k3
    clear H1 k3
    go_wp2
    refine bodyPost_ret (results_none rfl _ _ _) rfl H2.out.fin
  ·have h1z : ¬ (k : Int) < (n : Int) := by omega
   obtain rfl : k = n := by omega
   have H1 : Hid (LR D 69 7 w wz R a cap (rl f k s1).2 b cs ty o k (rl f k s1).1) := HR.out
   clear HR hst
   go_wp2_with fail
   exact ⟨rfl, _, results_none rfl _ _ _, H1.out.fin⟩
set_option maxHeartbeats 1000000 in
set_option maxRecDepth 10000 in
theorem rrow65 {α : Type} {D : World → List Value → α → Prop} {T : Nat → Prop} {f : RS → α × RS} (hD : Stb T D) (hT : ¬ T 256) (hTe : ¬ T 117) (hfb : ∀ s, (f s).2.bs = s.bs)
  {w : World} {R : Nat} {a : Option Addr} {cap : Nat} {s : RS} {b : Nat} {cs : Array Value} {ty : Nat} (h : R1 w R a cap s b cs ty) (hty : ¬ T ty) (o : Nat) (hcs : cs[o]? = some (.slice none 0 0)) (F HB : Nat) (hent : ∀ args w, (callFunc F args).run Tryz.prog w = .ok (.enter F args) w)
  (hst : ∀ (wi : World) (t : RS) (eb : Nat) (ec : Array Value) (k : Nat), t.bs = s.bs → Chg w wi (fun k => k = R ∨ k = b) → w.heap.size ≤ eb → R1 wi R a cap t eb ec 117 → (∀ i u, ZArr[i]? = some u → ec[k * 2 + i]? = some u) → k * 2 + 2 ≤ ec.size →
   Calls Tryz.prog F #[.pointer (some ⟨eb, k * 2, none⟩), .pointer (some ⟨HB, 0, none⟩)] wi fun r w' => r = .returned (.tuple #[]) ∧ ∃ ez l, RX wi w' R a cap (f t).2 eb ez 117 ∧ Filled ec ez (k * 2) 2 l ∧ l.length = 2 ∧ D w' l (f t).1) :
  Calls Tryz.prog 65 #[.iface 101 (hR R), .pointer (some ⟨b, o, none⟩), .func (.func F) #[] #[.pointer (some ⟨HB, 0, none⟩)]] w fun r w' => RowR D 117 2 w R a cap (s.row f).2 (s.row f).1 b cs ty o r w' := by
 have hbl := hp_lt h.bl
 have hRl := hp_lt h.rs.box
 have hal := h.rs.bytes
 have hos : o < cs.size := (Array.getElem?_eq_some_iff.1 hcs).1
 have hlt32 : s.num 4 < 4294967296 := RS.num_lt s 4 h.rs.rng
 have haw : ∀ x off, a = some ⟨x, off, none⟩ → 0 < s.bs.length → x < w.heap.size := by
  intro x off e hl
  obtain ⟨q1, q2, q3, q4⟩ := hal
  rcases q4 with q4 | ⟨bb, oo, q4, q5⟩
  ·omega
  ·rw [e] at q4; cases q4
   have := lt_of_cell (q5 0 hl)
   omega
 have cL : w.cell? ⟨b, o, none⟩ = some (.slice none 0 0) := by rw [(cells_at h.bl o).1]; exact hcs
 obtain ⟨w1, hw1⟩ : ∃ w1, w1 = w.alloc (.cells #[.int .i64 0] 3) := ⟨_, rfl⟩
 have k1 : Kp w w1 := by rw [hw1]; exact Kp.al _ _
 have hx : w1.heap[w.heap.size]? = some (.cells #[.int .i64 0] 3 (0, 0)) := by rw [hw1]; exact heap_alloc_new w _
 have r1 : R1 w1 R a cap s w.heap.size #[.int .i64 0] 3 := ⟨(h.kp k1).rs, hx, by omega, fun x off e hl hxx => by have := haw x off e hl; omega⟩
 have A1 := rwordOf r1 0 (by simp)
 obtain ⟨n, hn⟩ : ∃ n, n = s.num 4 := ⟨_, rfl⟩
 have hrow : s.row f = rl f n (s.take 4).2 := by rw [hn]; rfl
 rw [hrow]
 rw [← hn] at A1 hlt32
 have HW : Hid (R < w.heap.size ∧ b < w.heap.size ∧ o < cs.size ∧ (∀ x off, a = some ⟨x, off, none⟩ → 0 < s.bs.length → x < w.heap.size) ∧ n < 4294967296 ∧ (s.take 4).2.bs = s.bs) := ⟨hRl, hbl, hos, haw, hlt32, RS.take_bs s 4⟩
 have HR : Hid (R1 w R a cap s b cs ty ∧ Kp w w1 ∧ w.heap.size < w1.heap.size ∧ cs[o]? = some (.slice none 0 0)) := ⟨h, k1, hp_lt hx, hcs⟩
 clear h k1 r1 hx hal hcs hRl hbl hos haw hlt32 hn hrow
 obtain ⟨s1, hs1⟩ : ∃ s1, s1 = (s.take 4).2 := ⟨_, rfl⟩
 rw [← hs1] at HW A1 ⊢
 have hm := (mr_wordOf R).m
 go_enter Tryz.func65, Tryz.ntmps65
 go_wp2_with fail
 rw [← hw1]
 clear hw1
 go_at_call 255
 refine A1.mono ?_
 clear A1 hm cL
 rintro e w2 ⟨rfl, q⟩
 have c2 : w2.cell? ⟨w.heap.size, 0, none⟩ = some (.int .i64 (n : Nat)) := by rw [(cells_at q.1.bl 0).1]; rfl
 have HX : Hid (LR D 117 2 w w2 R a cap s1 b cs ty o 0 []) := by
  obtain ⟨hr, k1, hs, hcs⟩ := HR.out
  have c : Chg w w2 (fun k => k = R) := Chg.trans (Chg.trans k1.any q.2 (S := fun k => k = R ∨ k = w.heap.size) (fun _ _ e => e)) (Chg.refl w2 (fun _ => False)) (fun _ _ e => e.elim) |>.mono (fun k hk e => e.resolve_right (by omega))
  have r2 := hr.read (s' := s1) q.1.rs c HW.out.2.2.2.2.2
  refine ⟨rfl, none, 0, [], ⟨by rw [set_same hcs]; exact r2, c.mono (fun _ _ e => .inl e)⟩, World.ownsRow_nil _ _ _ _, fun k hk => by simp [Value.ownBlock] at hk, Thg.nil⟩
 clear HR q hs1
 go_wp2_with fail
 go_loopw [7, 15] (fun _ s15 wr => ∃ k : Nat, s15 = .int .i64 k ∧ k ≤ n ∧ Hid (LR D 117 2 w wr R a cap (rl f k s1).2 b cs ty o k (rl f k s1).1)) (fun _ s15 _ => n - nI s15)
 case atStart => exact ⟨0, rfl, by omega, HX⟩
 case round =>
  obtain ⟨k, rfl, hk, HR⟩ := hrel
  clear HX c2
  rename World => wz
  by_cases hlt : k < n
  ·have h1z : (k : Int) < (n : Int) := by omega
   have hgo := rl_go (f := f) (k := k) (s := s1)
   have hstop := rl_stop (f := f) (k := k) (s := s1)
   have hbs : (rl f k s1).2.bs = s.bs := (rl_bs hfb k s1).trans HW.out.2.2.2.2.2
   obtain ⟨t, ht⟩ : ∃ t, t = (rl f k s1).2 := ⟨_, rfl⟩
   obtain ⟨xs, hxs⟩ : ∃ xs, xs = (rl f k s1).1 := ⟨_, rfl⟩
   rw [← ht] at HR hgo hstop hbs
   rw [← hxs] at HR hgo
   have A0 : Calls Tryz.prog 31 #[hR R] wz fun r w' => r = .returned (.bool (!decide (t.err = 0))) ∧ Kp wz w' := over_any wz R a cap t (by obtain ⟨_, _, _, _, q, _⟩ := HR.out; exact q.1.rs)
   have hm := (mr_over R).m
   by_cases he : t.err = 0
   ·rw [decide_eq_true he] at A0
    have HE : Hid (rl f (k + 1) s1 = (xs ++ [(f t).1], (f t).2) ∧ t.bs = s.bs ∧ k + 1 ≤ 4294967296) := ⟨hgo he, hbs, by have := HW.out.2.2.2.2.1; omega⟩
    clear hgo hstop hbs he ht hxs
    go_wp2_with fail
    go_at_call 31
    refine A0.mono ?_
    clear A0 hm
    rintro e w3 ⟨rfl, k3⟩
    obtain ⟨hRl, hbl, hos, haw, hn32, _⟩ := HW.out
    obtain ⟨va, vc, hc3, WA, WB, W7, n0, n1, g, gc, ec, cl, G⟩ := HR.out.grow tl34 hD hT hTe hty hRl hbl hos (by rw [HE.out.2.1]; exact haw) HE.out.2.2 k3
    have hxl := HR.out.1
    have HG : Hid (Grown D 34 117 2 ZArr w w3 R a cap t b cs ty o k xs va vc WA WB W7 n0 n1 g gc ec cl ∧ xs.length = k) := ⟨G, hxl⟩
    clear G HR k3 hRl hbl hos haw hn32 hxl
    go_upto_region 7 with fail
    refine reg65_7 w3 WA WB W7 _ b o n0 n1 _ _ HG.out.1.l0 HG.out.1.lA HG.out.1.lB HG.out.1.al HG.out.1.zA HG.out.1.bs HG.out.1.ap HG.out.1.st _ (fun _ _ _ q _ h => by cases q <;> exact h) ?_
    have c8 := HG.out.1.ce
    have A1 := hst (W7.setCell ⟨b, o, none⟩ (.slice (some ⟨g, 0, none⟩) (k + 1) gc)) t g ec k HE.out.2.1 HG.out.1.rx.2 HG.out.1.fr HG.out.1.r1 (HG.out.1.zero (by rw [HG.out.1.th.len, HG.out.2]) rfl).1 (HG.out.1.zero (by rw [HG.out.1.th.len, HG.out.2]) rfl).2
    obtain ⟨W8, hW8⟩ : ∃ W8,W8 = W7.setCell ⟨b, o, none⟩ (.slice (some ⟨g, 0, none⟩) (k + 1) gc) := ⟨_, rfl⟩
    rw [← hW8] at c8 A1 ⊢
    have h2z : (k : Int) < ((k + 1 : Nat) : Int) := by omega
    clear hc3
    obtain ⟨m, hmm⟩ : ∃ m, m = k + 1 := ⟨_, rfl⟩
    have HM : Hid (m = k + 1 ∧ W8 = W7.setCell ⟨b, o, none⟩ (.slice (some ⟨g, 0, none⟩) (k + 1) gc)) := ⟨hmm, hW8⟩
    rw [← hmm] at c8 h2z
    clear hmm hW8
    go_wp2_with fail
    go_at_fn F
    refine A1.mono ?_
    clear A1 c8
    rintro e w4 ⟨rfl, ez, l, q, hf, hl, hdx⟩
    have H1 : Hid (LR D 117 2 w w4 R a cap (rl f (k + 1) s1).2 b cs ty o (k + 1) (rl f (k + 1) s1).1) := by
     rw [HE.out.1]
     rw [HM.out.2] at q
     exact HG.out.1.next hD hT hTe HG.out.2 HW.out.1 HW.out.2.1 (hfb t) rfl q hf hl hdx
    clear q hf hl hdx HG HM HE h2z
    have hn32 := HW.out.2.2.2.2.1
    go_wp2_with fail
    exact ⟨⟨k + 1, by go_num, by omega, H1⟩, by simp [nI]; omega⟩
   ·rw [decide_eq_false he] at A0
    have e1 := hstop he n hk
    have e2 : rl f k s1 = (xs, t) := by rw [ht, hxs]
    have H1 : Hid (LR D 117 2 w wz R a cap (rl f n s1).2 b cs ty o k (rl f n s1).1) := by rw [e1, e2]; exact HR.out
    clear HR hst hgo hstop hbs he ht hxs e1 e2
    go_wp2_with fail
    go_at_call 31
    refine A0.mono ?_
    clear A0 hm
    rintro e w3 ⟨rfl, k3⟩
    have H2 : Hid (LR D 117 2 w w3 R a cap (rl f n s1).2 b cs ty o k (rl f n s1).1) := H1.out.kp hD k3
    clear H1 k3
    go_wp2
    refine bodyPost_ret (results_none rfl _ _ _) rfl H2.out.fin
  ·have h1z : ¬ (k : Int) < (n : Int) := by omega
   obtain rfl : k = n := by omega
   have H1 : Hid (LR D 117 2 w wz R a cap (rl f k s1).2 b cs ty o k (rl f k s1).1) := HR.out
   clear HR hst
   go_wp2_with fail
   exact ⟨rfl, _, results_none rfl _ _ _, H1.out.fin⟩
set_option maxHeartbeats 1000000 in
set_option maxRecDepth 10000 in
theorem rrow108 {α : Type} {D : World → List Value → α → Prop} {T : Nat → Prop} {f : RS → α × RS} (hD : Stb T D) (hT : ¬ T 256) (hTe : ¬ T 64) (hfb : ∀ s, (f s).2.bs = s.bs)
  {w : World} {R : Nat} {a : Option Addr} {cap : Nat} {s : RS} {b : Nat} {cs : Array Value} {ty : Nat} (h : R1 w R a cap s b cs ty) (hty : ¬ T ty) (o : Nat) (hcs : cs[o]? = some (.slice none 0 0)) (F HB : Nat) (hent : ∀ args w, (callFunc F args).run Tryz.prog w = .ok (.enter F args) w)
  (hst : ∀ (wi : World) (t : RS) (eb : Nat) (ec : Array Value) (k : Nat), t.bs = s.bs → Chg w wi (fun k => k = R ∨ k = b) → w.heap.size ≤ eb → R1 wi R a cap t eb ec 64 → (∀ i u, ZMg[i]? = some u → ec[k * 2 + i]? = some u) → k * 2 + 2 ≤ ec.size →
   Calls Tryz.prog F #[.pointer (some ⟨eb, k * 2, none⟩), .pointer (some ⟨HB, 0, none⟩)] wi fun r w' => r = .returned (.tuple #[]) ∧ ∃ ez l, RX wi w' R a cap (f t).2 eb ez 64 ∧ Filled ec ez (k * 2) 2 l ∧ l.length = 2 ∧ D w' l (f t).1) :
  Calls Tryz.prog 108 #[.iface 101 (hR R), .pointer (some ⟨b, o, none⟩), .func (.func F) #[] #[.pointer (some ⟨HB, 0, none⟩)]] w fun r w' => RowR D 64 2 w R a cap (s.row f).2 (s.row f).1 b cs ty o r w' := by
 have hbl := hp_lt h.bl
 have hRl := hp_lt h.rs.box
 have hal := h.rs.bytes
 have hos : o < cs.size := (Array.getElem?_eq_some_iff.1 hcs).1
 have hlt32 : s.num 4 < 4294967296 := RS.num_lt s 4 h.rs.rng
 have haw : ∀ x off, a = some ⟨x, off, none⟩ → 0 < s.bs.length → x < w.heap.size := by
  intro x off e hl
  obtain ⟨q1, q2, q3, q4⟩ := hal
  rcases q4 with q4 | ⟨bb, oo, q4, q5⟩
  ·omega
  ·rw [e] at q4; cases q4
   have := lt_of_cell (q5 0 hl)
   omega
 have cL : w.cell? ⟨b, o, none⟩ = some (.slice none 0 0) := by rw [(cells_at h.bl o).1]; exact hcs
 obtain ⟨w1, hw1⟩ : ∃ w1, w1 = w.alloc (.cells #[.int .i64 0] 3) := ⟨_, rfl⟩
 have k1 : Kp w w1 := by rw [hw1]; exact Kp.al _ _
 have hx : w1.heap[w.heap.size]? = some (.cells #[.int .i64 0] 3 (0, 0)) := by rw [hw1]; exact heap_alloc_new w _
 have r1 : R1 w1 R a cap s w.heap.size #[.int .i64 0] 3 := ⟨(h.kp k1).rs, hx, by omega, fun x off e hl hxx => by have := haw x off e hl; omega⟩
 have A1 := rwordOf r1 0 (by simp)
 obtain ⟨n, hn⟩ : ∃ n, n = s.num 4 := ⟨_, rfl⟩
 have hrow : s.row f = rl f n (s.take 4).2 := by rw [hn]; rfl
 rw [hrow]
 rw [← hn] at A1 hlt32
 have HW : Hid (R < w.heap.size ∧ b < w.heap.size ∧ o < cs.size ∧ (∀ x off, a = some ⟨x, off, none⟩ → 0 < s.bs.length → x < w.heap.size) ∧ n < 4294967296 ∧ (s.take 4).2.bs = s.bs) := ⟨hRl, hbl, hos, haw, hlt32, RS.take_bs s 4⟩
 have HR : Hid (R1 w R a cap s b cs ty ∧ Kp w w1 ∧ w.heap.size < w1.heap.size ∧ cs[o]? = some (.slice none 0 0)) := ⟨h, k1, hp_lt hx, hcs⟩
 clear h k1 r1 hx hal hcs hRl hbl hos haw hlt32 hn hrow
 obtain ⟨s1, hs1⟩ : ∃ s1, s1 = (s.take 4).2 := ⟨_, rfl⟩
 rw [← hs1] at HW A1 ⊢
 have hm := (mr_wordOf R).m
 go_enter Tryz.func108, Tryz.ntmps108
 go_wp2_with fail
 rw [← hw1]
 clear hw1
 go_at_call 255
 refine A1.mono ?_
 clear A1 hm cL
 rintro e w2 ⟨rfl, q⟩
 have c2 : w2.cell? ⟨w.heap.size, 0, none⟩ = some (.int .i64 (n : Nat)) := by rw [(cells_at q.1.bl 0).1]; rfl
 have HX : Hid (LR D 64 2 w w2 R a cap s1 b cs ty o 0 []) := by
  obtain ⟨hr, k1, hs, hcs⟩ := HR.out
  have c : Chg w w2 (fun k => k = R) := Chg.trans (Chg.trans k1.any q.2 (S := fun k => k = R ∨ k = w.heap.size) (fun _ _ e => e)) (Chg.refl w2 (fun _ => False)) (fun _ _ e => e.elim) |>.mono (fun k hk e => e.resolve_right (by omega))
  have r2 := hr.read (s' := s1) q.1.rs c HW.out.2.2.2.2.2
  refine ⟨rfl, none, 0, [], ⟨by rw [set_same hcs]; exact r2, c.mono (fun _ _ e => .inl e)⟩, World.ownsRow_nil _ _ _ _, fun k hk => by simp [Value.ownBlock] at hk, Thg.nil⟩
 clear HR q hs1
 go_wp2_with fail
 go_loopw [7, 15] (fun _ s15 wr => ∃ k : Nat, s15 = .int .i64 k ∧ k ≤ n ∧ Hid (LR D 64 2 w wr R a cap (rl f k s1).2 b cs ty o k (rl f k s1).1)) (fun _ s15 _ => n - nI s15)
 case atStart => exact ⟨0, rfl, by omega, HX⟩
 case round =>
  obtain ⟨k, rfl, hk, HR⟩ := hrel
  clear HX c2
  rename World => wz
  by_cases hlt : k < n
  ·have h1z : (k : Int) < (n : Int) := by omega
   have hgo := rl_go (f := f) (k := k) (s := s1)
   have hstop := rl_stop (f := f) (k := k) (s := s1)
   have hbs : (rl f k s1).2.bs = s.bs := (rl_bs hfb k s1).trans HW.out.2.2.2.2.2
   obtain ⟨t, ht⟩ : ∃ t, t = (rl f k s1).2 := ⟨_, rfl⟩
   obtain ⟨xs, hxs⟩ : ∃ xs, xs = (rl f k s1).1 := ⟨_, rfl⟩
   rw [← ht] at HR hgo hstop hbs
   rw [← hxs] at HR hgo
   have A0 : Calls Tryz.prog 31 #[hR R] wz fun r w' => r = .returned (.bool (!decide (t.err = 0))) ∧ Kp wz w' := over_any wz R a cap t (by obtain ⟨_, _, _, _, q, _⟩ := HR.out; exact q.1.rs)
   have hm := (mr_over R).m
   by_cases he : t.err = 0
   ·rw [decide_eq_true he] at A0
    have HE : Hid (rl f (k + 1) s1 = (xs ++ [(f t).1], (f t).2) ∧ t.bs = s.bs ∧ k + 1 ≤ 4294967296) := ⟨hgo he, hbs, by have := HW.out.2.2.2.2.1; omega⟩
    clear hgo hstop hbs he ht hxs
    go_wp2_with fail
    go_at_call 31
    refine A0.mono ?_
    clear A0 hm
    rintro e w3 ⟨rfl, k3⟩
    obtain ⟨hRl, hbl, hos, haw, hn32, _⟩ := HW.out
    obtain ⟨va, vc, hc3, WA, WB, W7, n0, n1, g, gc, ec, cl, G⟩ := HR.out.grow tl65 hD hT hTe hty hRl hbl hos (by rw [HE.out.2.1]; exact haw) HE.out.2.2 k3
    have hxl := HR.out.1
    have HG : Hid (Grown D 65 64 2 ZMg w w3 R a cap t b cs ty o k xs va vc WA WB W7 n0 n1 g gc ec cl ∧ xs.length = k) := ⟨G, hxl⟩
    clear G HR k3 hRl hbl hos haw hn32 hxl
    go_upto_region 7 with fail
    refine reg108_7 w3 WA WB W7 _ b o n0 n1 _ _ HG.out.1.l0 HG.out.1.lA HG.out.1.lB HG.out.1.al HG.out.1.zA HG.out.1.bs HG.out.1.ap HG.out.1.st _ (fun _ _ _ q _ h => by cases q <;> exact h) ?_
    have c8 := HG.out.1.ce
    have A1 := hst (W7.setCell ⟨b, o, none⟩ (.slice (some ⟨g, 0, none⟩) (k + 1) gc)) t g ec k HE.out.2.1 HG.out.1.rx.2 HG.out.1.fr HG.out.1.r1 (HG.out.1.zero (by rw [HG.out.1.th.len, HG.out.2]) rfl).1 (HG.out.1.zero (by rw [HG.out.1.th.len, HG.out.2]) rfl).2
    obtain ⟨W8, hW8⟩ : ∃ W8,W8 = W7.setCell ⟨b, o, none⟩ (.slice (some ⟨g, 0, none⟩) (k + 1) gc) := ⟨_, rfl⟩
    rw [← hW8] at c8 A1 ⊢
    have h2z : (k : Int) < ((k + 1 : Nat) : Int) := by omega
    clear hc3
    obtain ⟨m, hmm⟩ : ∃ m, m = k + 1 := ⟨_, rfl⟩
    have HM : Hid (m = k + 1 ∧ W8 = W7.setCell ⟨b, o, none⟩ (.slice (some ⟨g, 0, none⟩) (k + 1) gc)) := ⟨hmm, hW8⟩
    rw [← hmm] at c8 h2z
    clear hmm hW8
    go_wp2_with fail
    go_at_fn F
    refine A1.mono ?_
    clear A1 c8
    rintro e w4 ⟨rfl, ez, l, q, hf, hl, hdx⟩
    have H1 : Hid (LR D 64 2 w w4 R a cap (rl f (k + 1) s1).2 b cs ty o (k + 1) (rl f (k + 1) s1).1) := by
     rw [HE.out.1]
     rw [HM.out.2] at q
     exact HG.out.1.next hD hT hTe HG.out.2 HW.out.1 HW.out.2.1 (hfb t) rfl q hf hl hdx
    clear q hf hl hdx HG HM HE h2z
    have hn32 := HW.out.2.2.2.2.1
    go_wp2_with fail
    exact ⟨⟨k + 1, by go_num, by omega, H1⟩, by simp [nI]; omega⟩
   ·rw [decide_eq_false he] at A0
    have e1 := hstop he n hk
    have e2 : rl f k s1 = (xs, t) := by rw [ht, hxs]
    have H1 : Hid (LR D 64 2 w wz R a cap (rl f n s1).2 b cs ty o k (rl f n s1).1) := by rw [e1, e2]; exact HR.out
    clear HR hst hgo hstop hbs he ht hxs e1 e2
    go_wp2_with fail
    go_at_call 31
    refine A0.mono ?_
    clear A0 hm
    rintro e w3 ⟨rfl, k3⟩
    have H2 : Hid (LR D 64 2 w w3 R a cap (rl f n s1).2 b cs ty o k (rl f n s1).1) := H1.out.kp hD k3
    clear H1 k3
    go_wp2
    refine bodyPost_ret (results_none rfl _ _ _) rfl H2.out.fin
  ·have h1z : ¬ (k : Int) < (n : Int) := by omega
   obtain rfl : k = n := by omega
   have H1 : Hid (LR D 64 2 w wz R a cap (rl f k s1).2 b cs ty o k (rl f k s1).1) := HR.out
   clear HR hst
   go_wp2_with fail
   exact ⟨rfl, _, results_none rfl _ _ _, H1.out.fin⟩
end Go.Proofs.YtkggkkoblpdopaaGreat
