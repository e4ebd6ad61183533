import Derived.Test.YtkggkkoblpdopaaGreatNb
import Derived.Test.YtkggkkoblpdopaaGreatNc
namespace Go.Proofs.YtkggkkoblpdopaaGreat
open Go.ChangeShapes Go.WideShapes Go.ChangeAt Go.RowKit
set_option linter.unusedVariables false
theorem tl24 : TL 24 103 2 32 ZPg where
 un := Tryz.underlying24
 ex := by
  have hz : (Tryz.prog.info? 103).map (fun i => (i.zero, i.size, i.bytes)) = some (some (.agg #[.int .u32 0, .slice none 0 0]), 2, 32) := by kernel_rfl
  cases hq : Tryz.prog.info? 103 with
  | none => rw [hq] at hz; cases hz
  | some i =>
   rw [hq] at hz
   have hz2 : i.zero = some (.agg #[.int .u32 0, .slice none 0 0]) ∧ i.size = 2 ∧ i.bytes = 32 := by simpa using hz
   exact ⟨i, _, rfl, hz2.1, hz2.2.1, hz2.2.2, rfl⟩
 pos := by omega
 bpos := by omega
 zs := rfl
 z1 := by decide
 al := al_46
 bs := bs_46
 ld := fun w b fr h => by
  simp only [Instr.loadAt, Instr.sureAddr, Sem.run_bind, Sem.run_pure, Result.andThen_ok, run_loadVar_row w b 103 103 ZPg fr _ h Tryz.underlying103 rfl (by kernel_rfl)]
 ls := fun w b o v h => by go_simp
 ss := fun w b o x n c ⟨u, h⟩ hf => by go_simp
theorem tl25 : TL 25 62 22 84 ZCel where
 un := Tryz.underlying25
 ex := by
  have hz : (Tryz.prog.info? 62).map (fun i => (i.zero, i.size, i.bytes)) = some (some (.agg #[.int .u32 0, .int .u32 0, .int .u32 0, .int .u32 0, .int .u32 0, .int .u32 0, .int .u32 0, .int .u32 0, .int .u32 0, .int .u32 0, .int .u32 0, .int .u32 0, .int .u32 0, .int .u32 0, .int .u32 0, .int .u32 0, .int .u32 0, .int .u32 0, .int .u32 0, .bool false, .bool false, .bool false]), 22, 84) := by kernel_rfl
  cases hq : Tryz.prog.info? 62 with
  | none => rw [hq] at hz; cases hz
  | some i =>
   rw [hq] at hz
   have hz2 : i.zero = some (.agg #[.int .u32 0, .int .u32 0, .int .u32 0, .int .u32 0, .int .u32 0, .int .u32 0, .int .u32 0, .int .u32 0, .int .u32 0, .int .u32 0, .int .u32 0, .int .u32 0, .int .u32 0, .int .u32 0, .int .u32 0, .int .u32 0, .int .u32 0, .int .u32 0, .int .u32 0, .bool false, .bool false, .bool false]) ∧ i.size = 22 ∧ i.bytes = 84 := by simpa using hz
   exact ⟨i, _, rfl, hz2.1, hz2.2.1, hz2.2.2, rfl⟩
 pos := by omega
 bpos := by omega
 zs := rfl
 z1 := by decide
 al := al_49
 bs := bs_49
 ld := fun w b fr h => by
  simp only [Instr.loadAt, Instr.sureAddr, Sem.run_bind, Sem.run_pure, Result.andThen_ok, run_loadVar_row w b 62 62 ZCel fr _ h Tryz.underlying62 rfl (by kernel_rfl)]
 ls := fun w b o v h => by go_simp
 ss := fun w b o x n c ⟨u, h⟩ hf => by go_simp
theorem tl26 : TL 26 105 3 12 ZLne where
 un := Tryz.underlying26
 ex := by
  have hz : (Tryz.prog.info? 105).map (fun i => (i.zero, i.size, i.bytes)) = some (some (.agg #[.int .u32 0, .int .u32 0, .bool false]), 3, 12) := by kernel_rfl
  cases hq : Tryz.prog.info? 105 with
  | none => rw [hq] at hz; cases hz
  | some i =>
   rw [hq] at hz
   have hz2 : i.zero = some (.agg #[.int .u32 0, .int .u32 0, .bool false]) ∧ i.size = 3 ∧ i.bytes = 12 := by simpa using hz
   exact ⟨i, _, rfl, hz2.1, hz2.2.1, hz2.2.2, rfl⟩
 pos := by omega
 bpos := by omega
 zs := rfl
 z1 := by decide
 al := al_52
 bs := bs_52
 ld := fun w b fr h => by
  simp only [Instr.loadAt, Instr.sureAddr, Sem.run_bind, Sem.run_pure, Result.andThen_ok, run_loadVar_row w b 105 105 ZLne fr _ h Tryz.underlying105 rfl (by kernel_rfl)]
 ls := fun w b o v h => by go_simp
 ss := fun w b o x n c ⟨u, h⟩ hf => by go_simp
theorem tl27 : TL 27 112 4 24 ZSlt where
 un := Tryz.underlying27
 ex := by
  have hz : (Tryz.prog.info? 112).map (fun i => (i.zero, i.size, i.bytes)) = some (some (.agg #[.int .i64 0, .int .u32 0, .int .u32 0, .int .u8 0]), 4, 24) := by kernel_rfl
  cases hq : Tryz.prog.info? 112 with
  | none => rw [hq] at hz; cases hz
  | some i =>
   rw [hq] at hz
   have hz2 : i.zero = some (.agg #[.int .i64 0, .int .u32 0, .int .u32 0, .int .u8 0]) ∧ i.size = 4 ∧ i.bytes = 24 := by simpa using hz
   exact ⟨i, _, rfl, hz2.1, hz2.2.1, hz2.2.2, rfl⟩
 pos := by omega
 bpos := by omega
 zs := rfl
 z1 := by decide
 al := al_55
 bs := bs_55
 ld := fun w b fr h => by
  simp only [Instr.loadAt, Instr.sureAddr, Sem.run_bind, Sem.run_pure, Result.andThen_ok, run_loadVar_row w b 112 112 ZSlt fr _ h Tryz.underlying112 rfl (by kernel_rfl)]
 ls := fun w b o v h => by go_simp
 ss := fun w b o x n c ⟨u, h⟩ hf => by go_simp
theorem tl32 : TL 32 114 6 72 ZSpl where
 un := Tryz.underlying32
 ex := by
  have hz : (Tryz.prog.info? 114).map (fun i => (i.zero, i.size, i.bytes)) = some (some (.agg #[.bool false, .bool false, .slice none 0 0, .int .u64 0, .slice none 0 0, .int .u64 0]), 6, 72) := by kernel_rfl
  cases hq : Tryz.prog.info? 114 with
  | none => rw [hq] at hz; cases hz
  | some i =>
   rw [hq] at hz
   have hz2 : i.zero = some (.agg #[.bool false, .bool false, .slice none 0 0, .int .u64 0, .slice none 0 0, .int .u64 0]) ∧ i.size = 6 ∧ i.bytes = 72 := by simpa using hz
   exact ⟨i, _, rfl, hz2.1, hz2.2.1, hz2.2.2, rfl⟩
 pos := by omega
 bpos := by omega
 zs := rfl
 z1 := by decide
 al := al_59
 bs := bs_59
 ld := fun w b fr h => by
  simp only [Instr.loadAt, Instr.sureAddr, Sem.run_bind, Sem.run_pure, Result.andThen_ok, run_loadVar_row w b 114 114 ZSpl fr _ h Tryz.underlying114 rfl (by kernel_rfl)]
 ls := fun w b o v h => by go_simp
 ss := fun w b o x n c ⟨u, h⟩ hf => by go_simp
theorem tl33 : TL 33 69 7 88 ZQue where
 un := Tryz.underlying33
 ex := by
  have hz : (Tryz.prog.info? 69).map (fun i => (i.zero, i.size, i.bytes)) = some (some (.agg #[.int .i64 0, .int .i64 0, .int .i64 0, .int .i64 0, .int .i64 0, .slice none 0 0, .slice none 0 0]), 7, 88) := by kernel_rfl
  cases hq : Tryz.prog.info? 69 with
  | none => rw [hq] at hz; cases hz
  | some i =>
   rw [hq] at hz
   have hz2 : i.zero = some (.agg #[.int .i64 0, .int .i64 0, .int .i64 0, .int .i64 0, .int .i64 0, .slice none 0 0, .slice none 0 0]) ∧ i.size = 7 ∧ i.bytes = 88 := by simpa using hz
   exact ⟨i, _, rfl, hz2.1, hz2.2.1, hz2.2.2, rfl⟩
 pos := by omega
 bpos := by omega
 zs := rfl
 z1 := by decide
 al := al_62
 bs := bs_62
 ld := fun w b fr h => by
  simp only [Instr.loadAt, Instr.sureAddr, Sem.run_bind, Sem.run_pure, Result.andThen_ok, run_loadVar_row w b 69 69 ZQue fr _ h Tryz.underlying69 rfl (by kernel_rfl)]
 ls := fun w b o v h => by go_simp
 ss := fun w b o x n c ⟨u, h⟩ hf => by go_simp
theorem tl34 : TL 34 117 2 16 ZArr where
 un := Tryz.underlying34
 ex := by
  have hz : (Tryz.prog.info? 117).map (fun i => (i.zero, i.size, i.bytes)) = some (some (.agg #[.int .u64 0, .int .i64 0]), 2, 16) := by kernel_rfl
  cases hq : Tryz.prog.info? 117 with
  | none => rw [hq] at hz; cases hz
  | some i =>
   rw [hq] at hz
   have hz2 : i.zero = some (.agg #[.int .u64 0, .int .i64 0]) ∧ i.size = 2 ∧ i.bytes = 16 := by simpa using hz
   exact ⟨i, _, rfl, hz2.1, hz2.2.1, hz2.2.2, rfl⟩
 pos := by omega
 bpos := by omega
 zs := rfl
 z1 := by decide
 al := al_65
 bs := bs_65
 ld := fun w b fr h => by
  simp only [Instr.loadAt, Instr.sureAddr, Sem.run_bind, Sem.run_pure, Result.andThen_ok, run_loadVar_row w b 117 117 ZArr fr _ h Tryz.underlying117 rfl (by kernel_rfl)]
 ls := fun w b o v h => by go_simp
 ss := fun w b o x n c ⟨u, h⟩ hf => by go_simp
theorem tl65 : TL 65 64 2 32 ZMg where
 un := Tryz.underlying65
 ex := by
  have hz : (Tryz.prog.info? 64).map (fun i => (i.zero, i.size, i.bytes)) = some (some (.agg #[.slice none 0 0, .int .u64 0]), 2, 32) := by kernel_rfl
  cases hq : Tryz.prog.info? 64 with
  | none => rw [hq] at hz; cases hz
  | some i =>
   rw [hq] at hz
   have hz2 : i.zero = some (.agg #[.slice none 0 0, .int .u64 0]) ∧ i.size = 2 ∧ i.bytes = 32 := by simpa using hz
   exact ⟨i, _, rfl, hz2.1, hz2.2.1, hz2.2.2, rfl⟩
 pos := by omega
 bpos := by omega
 zs := rfl
 z1 := by decide
 al := al_108
 bs := bs_108
 ld := fun w b fr h => by
  simp only [Instr.loadAt, Instr.sureAddr, Sem.run_bind, Sem.run_pure, Result.andThen_ok, run_loadVar_row w b 64 64 ZMg fr _ h Tryz.underlying64 rfl (by kernel_rfl)]
 ls := fun w b o v h => by go_simp
 ss := fun w b o x n c ⟨u, h⟩ hf => by go_simp
def RowR {α : Type} (D : World → List Value → α → Prop) (e sz : Nat) (w : World) (R : Nat) (a : Option Addr) (cap : Nat) (t : RS) (xs : List α) (b : Nat) (cs : Array Value) (ty o : Nat) (r : Ending) (w' : World) : Prop := r = .returned (.tuple #[]) ∧ ∃ v, RX w w' R a cap t b (cs.setIfInBounds o v) ty ∧ RowO D w' e sz v xs
theorem LR.fin {α : Type} {D : World → List Value → α → Prop} {e sz : Nat} {w wr : World} {R : Nat} {a : Option Addr} {cap : Nat} {t : RS} {b : Nat} {cs : Array Value} {ty o k : Nat} {xs : List α} (h : LR D e sz w wr R a cap t b cs ty o k xs) : RowR D e sz w R a cap t xs b cs ty o (.returned (.tuple #[])) wr := by
 obtain ⟨rfl, va, vc, cl, hx, ho, hf, hth⟩ := h
 exact ⟨rfl, _, hx, cl, ho, hth⟩
theorem LR.kp {α : Type} {D : World → List Value → α → Prop} {T : Nat → Prop} (hD : Stb T D) {e sz : Nat} {w wr w' : World} {R : Nat} {a : Option Addr} {cap : Nat} {t : RS} {b : Nat} {cs : Array Value} {ty o k : Nat} {xs : List α} (h : LR D e sz w wr R a cap t b cs ty o k xs) (c : Kp wr w') : LR D e sz w w' R a cap t b cs ty o k xs := by
 obtain ⟨hl, va, vc, cl, hx, ho, hf, hth⟩ := h
 exact ⟨hl, va, vc, cl, ⟨hx.1.kp c, Chg.trans hx.2 c.any (fun _ _ e => e)⟩, Chg.owns c ho (fun _ _ h => h), hf, hth.chg hD c (fun _ _ e => e.elim)⟩
theorem set_same {cs : Array Value} {o : Nat} {v : Value} (h : cs[o]? = some v) : cs.setIfInBounds o v = cs := by
 apply Array.ext_getElem?
 intro j
 by_cases e : j = o
 ·subst e
  rw [Array.getElem?_setIfInBounds_self_of_lt (Array.getElem?_eq_some_iff.1 h).1, h]
 ·rw [Array.getElem?_setIfInBounds_ne (by omega)]
set_option maxHeartbeats 1000000 in
set_option maxRecDepth 10000 in
theorem rrow46 {α : Type} {D : World → List Value → α → Prop} {T : Nat → Prop} {f : RS → α × RS} (hD : Stb T D) (hT : ¬ T 256) (hTe : ¬ T 103) (hfb : ∀ s, (f s).2.bs = s.bs)
  {w : World} {R : Nat} {a : Option Addr} {cap : Nat} {s : RS} {b : Nat} {cs : Array Value} {ty : Nat} (h : R1 w R a cap s b cs ty) (hty : ¬ T ty) (o : Nat) (hcs : cs[o]? = some (.slice none 0 0)) (F HB : Nat) (hent : ∀ args w, (callFunc F args).run Tryz.prog w = .ok (.enter F args) w)
  (hst : ∀ (wi : World) (t : RS) (eb : Nat) (ec : Array Value) (k : Nat), t.bs = s.bs → Chg w wi (fun k => k = R ∨ k = b) → w.heap.size ≤ eb → R1 wi R a cap t eb ec 103 → (∀ i u, ZPg[i]? = some u → ec[k * 2 + i]? = some u) → k * 2 + 2 ≤ ec.size →
   Calls Tryz.prog F #[.pointer (some ⟨eb, k * 2, none⟩), .pointer (some ⟨HB, 0, none⟩)] wi fun r w' => r = .returned (.tuple #[]) ∧ ∃ ez l, RX wi w' R a cap (f t).2 eb ez 103 ∧ Filled ec ez (k * 2) 2 l ∧ l.length = 2 ∧ D w' l (f t).1) :
  Calls Tryz.prog 46 #[.iface 101 (hR R), .pointer (some ⟨b, o, none⟩), .func (.func F) #[] #[.pointer (some ⟨HB, 0, none⟩)]] w fun r w' => RowR D 103 2 w R a cap (s.row f).2 (s.row f).1 b cs ty o r w' := by
 have hbl := hp_lt h.bl
 have hRl := hp_lt h.rs.box
 have hal := h.rs.bytes
 have hos : o < cs.size := (Array.getElem?_eq_some_iff.1 hcs).1
 have hlt32 : s.num 4 < 4294967296 := RS.num_lt s 4 h.rs.rng
 have haw : ∀ x off, a = some ⟨x, off, none⟩ → 0 < s.bs.length → x < w.heap.size := by
  intro x off e hl
  obtain ⟨q1, q2, q3, q4⟩ := hal
  rcases q4 with q4 | ⟨bb, oo, q4, q5⟩
  ·omega
  ·rw [e] at q4; cases q4
   have := lt_of_cell (q5 0 hl)
   omega
 have cL : w.cell? ⟨b, o, none⟩ = some (.slice none 0 0) := by rw [(cells_at h.bl o).1]; exact hcs
 obtain ⟨w1, hw1⟩ : ∃ w1, w1 = w.alloc (.cells #[.int .i64 0] 3) := ⟨_, rfl⟩
 have k1 : Kp w w1 := by rw [hw1]; exact Kp.al _ _
 have hx : w1.heap[w.heap.size]? = some (.cells #[.int .i64 0] 3 (0, 0)) := by rw [hw1]; exact heap_alloc_new w _
 have r1 : R1 w1 R a cap s w.heap.size #[.int .i64 0] 3 := ⟨(h.kp k1).rs, hx, by omega, fun x off e hl hxx => by have := haw x off e hl; omega⟩
 have A1 := rwordOf r1 0 (by simp)
 obtain ⟨n, hn⟩ : ∃ n, n = s.num 4 := ⟨_, rfl⟩
 have hrow : s.row f = rl f n (s.take 4).2 := by rw [hn]; rfl
 rw [hrow]
 rw [← hn] at A1 hlt32
 have HW : Hid (R < w.heap.size ∧ b < w.heap.size ∧ o < cs.size ∧ (∀ x off, a = some ⟨x, off, none⟩ → 0 < s.bs.length → x < w.heap.size) ∧ n < 4294967296 ∧ (s.take 4).2.bs = s.bs) := ⟨hRl, hbl, hos, haw, hlt32, RS.take_bs s 4⟩
 have HR : Hid (R1 w R a cap s b cs ty ∧ Kp w w1 ∧ w.heap.size < w1.heap.size ∧ cs[o]? = some (.slice none 0 0)) := ⟨h, k1, hp_lt hx, hcs⟩
 clear h k1 r1 hx hal hcs hRl hbl hos haw hlt32 hn hrow
 obtain ⟨s1, hs1⟩ : ∃ s1, s1 = (s.take 4).2 := ⟨_, rfl⟩
 rw [← hs1] at HW A1 ⊢
 have hm := (mr_wordOf R).m
 go_enter Tryz.func46, Tryz.ntmps46
 go_wp2_with fail
 rw [← hw1]
 clear hw1
 go_at_call 255
 refine A1.mono ?_
 clear A1 hm cL
 rintro e w2 ⟨rfl, q⟩
 have c2 : w2.cell? ⟨w.heap.size, 0, none⟩ = some (.int .i64 (n : Nat)) := by rw [(cells_at q.1.bl 0).1]; rfl
 have HX : Hid (LR D 103 2 w w2 R a cap s1 b cs ty o 0 []) := by
  obtain ⟨hr, k1, hs, hcs⟩ := HR.out
  have c : Chg w w2 (fun k => k = R) := Chg.trans (Chg.trans k1.any q.2 (S := fun k => k = R ∨ k = w.heap.size) (fun _ _ e => e)) (Chg.refl w2 (fun _ => False)) (fun _ _ e => e.elim) |>.mono (fun k hk e => e.resolve_right (by omega))
  have r2 := hr.read (s' := s1) q.1.rs c HW.out.2.2.2.2.2
  refine ⟨rfl, none, 0, [], ⟨by rw [set_same hcs]; exact r2, c.mono (fun _ _ e => .inl e)⟩, World.ownsRow_nil _ _ _ _, fun k hk => by simp [Value.ownBlock] at hk, Thg.nil⟩
 clear HR q hs1
 go_wp2_with fail
 go_loopw [7, 15] (fun _ s15 wr => ∃ k : Nat, s15 = .int .i64 k ∧ k ≤ n ∧ Hid (LR D 103 2 w wr R a cap (rl f k s1).2 b cs ty o k (rl f k s1).1)) (fun _ s15 _ => n - nI s15)
 case atStart => exact ⟨0, rfl, by omega, HX⟩
 case round =>
  obtain ⟨k, rfl, hk, HR⟩ := hrel
  clear HX c2
  rename World => wz
  by_cases hlt : k < n
  ·have h1z : (k : Int) < (n : Int) := by omega
   have hgo := rl_go (f := f) (k := k) (s := s1)
   have hstop := rl_stop (f := f) (k := k) (s := s1)
   have hbs : (rl f k s1).2.bs = s.bs := (rl_bs hfb k s1).trans HW.out.2.2.2.2.2
   obtain ⟨t, ht⟩ : ∃ t, t = (rl f k s1).2 := ⟨_, rfl⟩
   obtain ⟨xs, hxs⟩ : ∃ xs, xs = (rl f k s1).1 := ⟨_, rfl⟩
   rw [← ht] at HR hgo hstop hbs
   rw [← hxs] at HR hgo
   have A0 : Calls Tryz.prog 31 #[hR R] wz fun r w' => r = .returned (.bool (!decide (t.err = 0))) ∧ Kp wz w' := over_any wz R a cap t (by obtain ⟨_, _, _, _, q, _⟩ := HR.out; exact q.1.rs)
   have hm := (mr_over R).m
   by_cases he : t.err = 0
   ·rw [decide_eq_true he] at A0
    have HE : Hid (rl f (k + 1) s1 = (xs ++ [(f t).1], (f t).2) ∧ t.bs = s.bs ∧ k + 1 ≤ 4294967296) := ⟨hgo he, hbs, by have := HW.out.2.2.2.2.1; omega⟩
    clear hgo hstop hbs he ht hxs
    go_wp2_with fail
    go_at_call 31
    refine A0.mono ?_
    clear A0 hm
    rintro e w3 ⟨rfl, k3⟩
    obtain ⟨hRl, hbl, hos, haw, hn32, _⟩ := HW.out
    obtain ⟨va, vc, hc3, WA, WB, W7, n0, n1, g, gc, ec, cl, G⟩ := HR.out.grow tl24 hD hT hTe hty hRl hbl hos (by rw [HE.out.2.1]; exact haw) HE.out.2.2 k3
    have hxl := HR.out.1
    have HG : Hid (Grown D 24 103 2 ZPg w w3 R a cap t b cs ty o k xs va vc WA WB W7 n0 n1 g gc ec cl ∧ xs.length = k) := ⟨G, hxl⟩
    clear G HR k3 hRl hbl hos haw hn32 hxl
    go_upto_region 7 with fail
    refine reg46_7 w3 WA WB W7 _ b o n0 n1 _ _ HG.out.1.l0 HG.out.1.lA HG.out.1.lB HG.out.1.al HG.out.1.zA HG.out.1.bs HG.out.1.ap HG.out.1.st _ (fun _ _ _ q _ h => by cases q <;> exact h) ?_
    have c8 := HG.out.1.ce
    have A1 := hst (W7.setCell ⟨b, o, none⟩ (.slice (some ⟨g, 0, none⟩) (k + 1) gc)) t g ec k HE.out.2.1 HG.out.1.rx.2 HG.out.1.fr HG.out.1.r1 (HG.out.1.zero (by rw [HG.out.1.th.len, HG.out.2]) rfl).1 (HG.out.1.zero (by rw [HG.out.1.th.len, HG.out.2]) rfl).2
    obtain ⟨W8, hW8⟩ : ∃ W8,W8 = W7.setCell ⟨b, o, none⟩ (.slice (some ⟨g, 0, none⟩) (k + 1) gc) := ⟨_, rfl⟩
    rw [← hW8] at c8 A1 ⊢
    have h2z : (k : Int) < ((k + 1 : Nat) : Int) := by omega
    clear hc3
    obtain ⟨m, hmm⟩ : ∃ m, m = k + 1 := ⟨_, rfl⟩
    have HM : Hid (m = k + 1 ∧ W8 = W7.setCell ⟨b, o, none⟩ (.slice (some ⟨g, 0, none⟩) (k + 1) gc)) := ⟨hmm, hW8⟩
    rw [← hmm] at c8 h2z
    clear hmm hW8
    go_wp2_with fail
    go_at_fn F
    refine A1.mono ?_
    clear A1 c8
    rintro e w4 ⟨rfl, ez, l, q, hf, hl, hdx⟩
    have H1 : Hid (LR D 103 2 w w4 R a cap (rl f (k + 1) s1).2 b cs ty o (k + 1) (rl f (k + 1) s1).1) := by
     rw [HE.out.1]
     rw [HM.out.2] at q
     exact HG.out.1.next hD hT hTe HG.out.2 HW.out.1 HW.out.2.1 (hfb t) rfl q hf hl hdx
    clear q hf hl hdx HG HM HE h2z
    have hn32 := HW.out.2.2.2.2.1
    go_wp2_with fail
    exact ⟨⟨k + 1, by go_num, by omega, H1⟩, by simp [nI]; omega⟩
   ·rw [decide_eq_false he] at A0
    have e1 := hstop he n hk
    have e2 : rl f k s1 = (xs, t) := by rw [ht, hxs]
    have H1 : Hid (LR D 103 2 w wz R a cap (rl f n s1).2 b cs ty o k (rl f n s1).1) := by rw [e1, e2]; exact HR.out
    clear HR hst hgo hstop hbs he ht hxs e1 e2
    go_wp2_with fail
    go_at_call 31
    refine A0.mono ?_
    clear A0 hm
    rintro e w3 ⟨rfl, k3⟩
    have H2 : Hid (LR D 103 2 w w3 R a cap (rl f n s1).2 b cs ty o k (rl f n s1).1) := H1.out.kp hD k3
    clear H1 k3
    go_wp2
    refine bodyPost_ret (results_none rfl _ _ _) rfl H2.out.fin
  ·have h1z : ¬ (k : Int) < (n : Int) := by omega
   obtain rfl : k = n := by omega
   have H1 : Hid (LR D 103 2 w wz R a cap (rl f k s1).2 b cs ty o k (rl f k s1).1) := HR.out
   clear HR hst
   go_wp2_with fail
   exact ⟨rfl, _, results_none rfl _ _ _, H1.out.fin⟩
set_option maxHeartbeats 1000000 in
set_option maxRecDepth 10000 in
theorem rrow49 {α : Type} {D : World → List Value → α → Prop} {T : Nat → Prop} {f : RS → α × RS} (hD : Stb T D) (hT : ¬ T 256) (hTe : ¬ T 62) (hfb : ∀ s, (f s).2.bs = s.bs)
  {w : World} {R : Nat} {a : Option Addr} {cap : Nat} {s : RS} {b : Nat} {cs : Array Value} {ty : Nat} (h : R1 w R a cap s b cs ty) (hty : ¬ T ty) (o : Nat) (hcs : cs[o]? = some (.slice none 0 0)) (F HB : Nat) (hent : ∀ args w, (callFunc F args).run Tryz.prog w = .ok (.enter F args) w)
  (hst : ∀ (wi : World) (t : RS) (eb : Nat) (ec : Array Value) (k : Nat), t.bs = s.bs → Chg w wi (fun k => k = R ∨ k = b) → w.heap.size ≤ eb → R1 wi R a cap t eb ec 62 → (∀ i u, ZCel[i]? = some u → ec[k * 22 + i]? = some u) → k * 22 + 22 ≤ ec.size →
   Calls Tryz.prog F #[.pointer (some ⟨eb, k * 22, none⟩), .pointer (some ⟨HB, 0, none⟩)] wi fun r w' => r = .returned (.tuple #[]) ∧ ∃ ez l, RX wi w' R a cap (f t).2 eb ez 62 ∧ Filled ec ez (k * 22) 22 l ∧ l.length = 22 ∧ D w' l (f t).1) :
  Calls Tryz.prog 49 #[.iface 101 (hR R), .pointer (some ⟨b, o, none⟩), .func (.func F) #[] #[.pointer (some ⟨HB, 0, none⟩)]] w fun r w' => RowR D 62 22 w R a cap (s.row f).2 (s.row f).1 b cs ty o r w' := by
 have hbl := hp_lt h.bl
 have hRl := hp_lt h.rs.box
 have hal := h.rs.bytes
 have hos : o < cs.size := (Array.getElem?_eq_some_iff.1 hcs).1
 have hlt32 : s.num 4 < 4294967296 := RS.num_lt s 4 h.rs.rng
 have haw : ∀ x off, a = some ⟨x, off, none⟩ → 0 < s.bs.length → x < w.heap.size := by
  intro x off e hl
  obtain ⟨q1, q2, q3, q4⟩ := hal
  rcases q4 with q4 | ⟨bb, oo, q4, q5⟩
  ·omega
  ·rw [e] at q4; cases q4
   have := lt_of_cell (q5 0 hl)
   omega
 have cL : w.cell? ⟨b, o, none⟩ = some (.slice none 0 0) := by rw [(cells_at h.bl o).1]; exact hcs
 obtain ⟨w1, hw1⟩ : ∃ w1, w1 = w.alloc (.cells #[.int .i64 0] 3) := ⟨_, rfl⟩
 have k1 : Kp w w1 := by rw [hw1]; exact Kp.al _ _
 have hx : w1.heap[w.heap.size]? = some (.cells #[.int .i64 0] 3 (0, 0)) := by rw [hw1]; exact heap_alloc_new w _
 have r1 : R1 w1 R a cap s w.heap.size #[.int .i64 0] 3 := ⟨(h.kp k1).rs, hx, by omega, fun x off e hl hxx => by have := haw x off e hl; omega⟩
 have A1 := rwordOf r1 0 (by simp)
 obtain ⟨n, hn⟩ : ∃ n, n = s.num 4 := ⟨_, rfl⟩
 have hrow : s.row f = rl f n (s.take 4).2 := by rw [hn]; rfl
 rw [hrow]
 rw [← hn] at A1 hlt32
 have HW : Hid (R < w.heap.size ∧ b < w.heap.size ∧ o < cs.size ∧ (∀ x off, a = some ⟨x, off, none⟩ → 0 < s.bs.length → x < w.heap.size) ∧ n < 4294967296 ∧ (s.take 4).2.bs = s.bs) := ⟨hRl, hbl, hos, haw, hlt32, RS.take_bs s 4⟩
 have HR : Hid (R1 w R a cap s b cs ty ∧ Kp w w1 ∧ w.heap.size < w1.heap.size ∧ cs[o]? = some (.slice none 0 0)) := ⟨h, k1, hp_lt hx, hcs⟩
 clear h k1 r1 hx hal hcs hRl hbl hos haw hlt32 hn hrow
 obtain ⟨s1, hs1⟩ : ∃ s1, s1 = (s.take 4).2 := ⟨_, rfl⟩
 rw [← hs1] at HW A1 ⊢
 have hm := (mr_wordOf R).m
 go_enter Tryz.func49, Tryz.ntmps49
 go_wp2_with fail
 rw [← hw1]
 clear hw1
 go_at_call 255
 refine A1.mono ?_
 clear A1 hm cL
 rintro e w2 ⟨rfl, q⟩
 have c2 : w2.cell? ⟨w.heap.size, 0, none⟩ = some (.int .i64 (n : Nat)) := by rw [(cells_at q.1.bl 0).1]; rfl
 have HX : Hid (LR D 62 22 w w2 R a cap s1 b cs ty o 0 []) := by
  obtain ⟨hr, k1, hs, hcs⟩ := HR.out
  have c : Chg w w2 (fun k => k = R) := Chg.trans (Chg.trans k1.any q.2 (S := fun k => k = R ∨ k = w.heap.size) (fun _ _ e => e)) (Chg.refl w2 (fun _ => False)) (fun _ _ e => e.elim) |>.mono (fun k hk e => e.resolve_right (by omega))
  have r2 := hr.read (s' := s1) q.1.rs c HW.out.2.2.2.2.2
  refine ⟨rfl, none, 0, [], ⟨by rw [set_same hcs]; exact r2, c.mono (fun _ _ e => .inl e)⟩, World.ownsRow_nil _ _ _ _, fun k hk => by simp [Value.ownBlock] at hk, Thg.nil⟩
 clear HR q hs1
 go_wp2_with fail
 go_loopw [7, 15] (fun _ s15 wr => ∃ k : Nat, s15 = .int .i64 k ∧ k ≤ n ∧ Hid (LR D 62 22 w wr R a cap (rl f k s1).2 b cs ty o k (rl f k s1).1)) (fun _ s15 _ => n - nI s15)
 case atStart => exact ⟨0, rfl, by omega, HX⟩
 case round =>
  obtain ⟨k, rfl, hk, HR⟩ := hrel
  clear HX c2
  rename World => wz
  by_cases hlt : k < n
  ·have h1z : (k : Int) < (n : Int) := by omega
   have hgo := rl_go (f := f) (k := k) (s := s1)
   have hstop := rl_stop (f := f) (k := k) (s := s1)
   have hbs : (rl f k s1).2.bs = s.bs := (rl_bs hfb k s1).trans HW.out.2.2.2.2.2
   obtain ⟨t, ht⟩ : ∃ t, t = (rl f k s1).2 := ⟨_, rfl⟩
   obtain ⟨xs, hxs⟩ : ∃ xs, xs = (rl f k s1).1 := ⟨_, rfl⟩
   rw [← ht] at HR hgo hstop hbs
   rw [← hxs] at HR hgo
   have A0 : Calls Tryz.prog 31 #[hR R] wz fun r w' => r = .returned (.bool (!decide (t.err = 0))) ∧ Kp wz w' := over_any wz R a cap t (by obtain ⟨_, _, _, _, q, _⟩ := HR.out; exact q.1.rs)
   have hm := (mr_over R).m
   by_cases he : t.err = 0
   ·rw [decide_eq_true he] at A0
    have HE : Hid (rl f (k + 1) s1 = (xs ++ [(f t).1], (f t).2) ∧ t.bs = s.bs ∧ k + 1 ≤ 4294967296) := ⟨hgo he, hbs, by have := HW.out.2.2.2.2.1; omega⟩
    clear hgo hstop hbs he ht hxs
    go_wp2_with fail
    go_at_call 31
    refine A0.mono ?_
    clear A0 hm
    rintro e w3 ⟨rfl, k3⟩
    obtain ⟨hRl, hbl, hos, haw, hn32, _⟩ := HW.out
    obtain ⟨va, vc, hc3, WA, WB, W7, n0, n1, g, gc, ec, cl, G⟩ := HR.out.grow tl25 hD hT hTe hty hRl hbl hos (by rw [HE.out.2.1]; exact haw) HE.out.2.2 k3
    have hxl := HR.out.1
    have HG : Hid (Grown D 25 62 22 ZCel w w3 R a cap t b cs ty o k xs va vc WA WB W7 n0 n1 g gc ec cl ∧ xs.length = k) := ⟨G, hxl⟩
    clear G HR k3 hRl hbl hos haw hn32 hxl
    go_upto_region 7 with fail
    refine reg49_7 w3 WA WB W7 _ b o n0 n1 _ _ HG.out.1.l0 HG.out.1.lA HG.out.1.lB HG.out.1.al HG.out.1.zA HG.out.1.bs HG.out.1.ap HG.out.1.st _ (fun _ _ _ q _ h => by cases q <;> exact h) ?_
    have c8 := HG.out.1.ce
    have A1 := hst (W7.setCell ⟨b, o, none⟩ (.slice (some ⟨g, 0, none⟩) (k + 1) gc)) t g ec k HE.out.2.1 HG.out.1.rx.2 HG.out.1.fr HG.out.1.r1 (HG.out.1.zero (by rw [HG.out.1.th.len, HG.out.2]) rfl).1 (HG.out.1.zero (by rw [HG.out.1.th.len, HG.out.2]) rfl).2
    obtain ⟨W8, hW8⟩ : ∃ W8,W8 = W7.setCell ⟨b, o, none⟩ (.slice (some ⟨g, 0, none⟩) (k + 1) gc) := ⟨_, rfl⟩
    rw [← hW8] at c8 A1 ⊢
    have h2z : (k : Int) < ((k + 1 : Nat) : Int) := by omega
    clear hc3
    obtain ⟨m, hmm⟩ : ∃ m, m = k + 1 := ⟨_, rfl⟩
    have HM : Hid (m = k + 1 ∧ W8 = W7.setCell ⟨b, o, none⟩ (.slice (some ⟨g, 0, none⟩) (k + 1) gc)) := ⟨hmm, hW8⟩
    rw [← hmm] at c8 h2z
    clear hmm hW8
    go_wp2_with fail
    go_at_fn F
    refine A1.mono ?_
    clear A1 c8
    rintro e w4 ⟨rfl, ez, l, q, hf, hl, hdx⟩
    have H1 : Hid (LR D 62 22 w w4 R a cap (rl f (k + 1) s1).2 b cs ty o (k + 1) (rl f (k + 1) s1).1) := by
     rw [HE.out.1]
     rw [HM.out.2] at q
     exact HG.out.1.next hD hT hTe HG.out.2 HW.out.1 HW.out.2.1 (hfb t) rfl q hf hl hdx
    clear q hf hl hdx HG HM HE h2z
    have hn32 := HW.out.2.2.2.2.1
    go_wp2_with fail
    exact ⟨⟨k + 1, by go_num, by omega, H1⟩, by simp [nI]; omega⟩
   ·rw [decide_eq_false he] at A0
    have e1 := hstop he n hk
    have e2 : rl f k s1 = (xs, t) := by rw [ht, hxs]
    have H1 : Hid (LR D 62 22 w wz R a cap (rl f n s1).2 b cs ty o k (rl f n s1).1) := by rw [e1, e2]; exact HR.out
    clear HR hst hgo hstop hbs he ht hxs e1 e2
    go_wp2_with fail
    go_at_call 31
    refine A0.mono ?_
    clear A0 hm
    rintro e w3 ⟨rfl, k3⟩
    have H2 : Hid (LR D 62 22 w w3 R a cap (rl f n s1).2 b cs ty o k (rl f n s1).1) := H1.out.kp hD k3
    clear H1 k3
    go_wp2
    refine bodyPost_ret (results_none rfl _ _ _) rfl H2.out.fin
  ·have h1z : ¬ (k : Int) < (n : Int) := by omega
   obtain rfl : k = n := by omega
   have H1 : Hid (LR D 62 22 w wz R a cap (rl f k s1).2 b cs ty o k (rl f k s1).1) := HR.out
   clear HR hst
   go_wp2_with fail
   exact ⟨rfl, _, results_none rfl _ _ _, H1.out.fin⟩
set_option maxHeartbeats 1000000 in
set_option maxRecDepth 10000 in
theorem rrow52 {α : Type} {D : World → List Value → α → Prop} {T : Nat → Prop} {f : RS → α × RS} (hD : Stb T D) (hT : ¬ T 256) (hTe : ¬ T 105) (hfb : ∀ s, (f s).2.bs = s.bs)
  {w : World} {R : Nat} {a : Option Addr} {cap : Nat} {s : RS} {b : Nat} {cs : Array Value} {ty : Nat} (h : R1 w R a cap s b cs ty) (hty : ¬ T ty) (o : Nat) (hcs : cs[o]? = some (.slice none 0 0)) (F HB : Nat) (hent : ∀ args w, (callFunc F args).run Tryz.prog w = .ok (.enter F args) w)
  (hst : ∀ (wi : World) (t : RS) (eb : Nat) (ec : Array Value) (k : Nat), t.bs = s.bs → Chg w wi (fun k => k = R ∨ k = b) → w.heap.size ≤ eb → R1 wi R a cap t eb ec 105 → (∀ i u, ZLne[i]? = some u → ec[k * 3 + i]? = some u) → k * 3 + 3 ≤ ec.size →
   Calls Tryz.prog F #[.pointer (some ⟨eb, k * 3, none⟩), .pointer (some ⟨HB, 0, none⟩)] wi fun r w' => r = .returned (.tuple #[]) ∧ ∃ ez l, RX wi w' R a cap (f t).2 eb ez 105 ∧ Filled ec ez (k * 3) 3 l ∧ l.length = 3 ∧ D w' l (f t).1) :
  Calls Tryz.prog 52 #[.iface 101 (hR R), .pointer (some ⟨b, o, none⟩), .func (.func F) #[] #[.pointer (some ⟨HB, 0, none⟩)]] w fun r w' => RowR D 105 3 w R a cap (s.row f).2 (s.row f).1 b cs ty o r w' := by
 have hbl := hp_lt h.bl
 have hRl := hp_lt h.rs.box
 have hal := h.rs.bytes
 have hos : o < cs.size := (Array.getElem?_eq_some_iff.1 hcs).1
 have hlt32 : s.num 4 < 4294967296 := RS.num_lt s 4 h.rs.rng
 have haw : ∀ x off, a = some ⟨x, off, none⟩ → 0 < s.bs.length → x < w.heap.size := by
  intro x off e hl
  obtain ⟨q1, q2, q3, q4⟩ := hal
  rcases q4 with q4 | ⟨bb, oo, q4, q5⟩
  ·omega
  ·rw [e] at q4; cases q4
   have := lt_of_cell (q5 0 hl)
   omega
 have cL : w.cell? ⟨b, o, none⟩ = some (.slice none 0 0) := by rw [(cells_at h.bl o).1]; exact hcs
 obtain ⟨w1, hw1⟩ : ∃ w1, w1 = w.alloc (.cells #[.int .i64 0] 3) := ⟨_, rfl⟩
 have k1 : Kp w w1 := by rw [hw1]; exact Kp.al _ _
 have hx : w1.heap[w.heap.size]? = some (.cells #[.int .i64 0] 3 (0, 0)) := by rw [hw1]; exact heap_alloc_new w _
 have r1 : R1 w1 R a cap s w.heap.size #[.int .i64 0] 3 := ⟨(h.kp k1).rs, hx, by omega, fun x off e hl hxx => by have := haw x off e hl; omega⟩
 have A1 := rwordOf r1 0 (by simp)
 obtain ⟨n, hn⟩ : ∃ n, n = s.num 4 := ⟨_, rfl⟩
 have hrow : s.row f = rl f n (s.take 4).2 := by rw [hn]; rfl
 rw [hrow]
 rw [← hn] at A1 hlt32
 have HW : Hid (R < w.heap.size ∧ b < w.heap.size ∧ o < cs.size ∧ (∀ x off, a = some ⟨x, off, none⟩ → 0 < s.bs.length → x < w.heap.size) ∧ n < 4294967296 ∧ (s.take 4).2.bs = s.bs) := ⟨hRl, hbl, hos, haw, hlt32, RS.take_bs s 4⟩
 have HR : Hid (R1 w R a cap s b cs ty ∧ Kp w w1 ∧ w.heap.size < w1.heap.size ∧ cs[o]? = some (.slice none 0 0)) := ⟨h, k1, hp_lt hx, hcs⟩
 clear h k1 r1 hx hal hcs hRl hbl hos haw hlt32 hn hrow
 obtain ⟨s1, hs1⟩ : ∃ s1, s1 = (s.take 4).2 := ⟨_, rfl⟩
 rw [← hs1] at HW A1 ⊢
 have hm := (mr_wordOf R).m
 go_enter Tryz.func52, Tryz.ntmps52
 go_wp2_with fail
 rw [← hw1]
 clear hw1
 go_at_call 255
 refine A1.mono ?_
 clear A1 hm cL
 rintro e w2 ⟨rfl, q⟩
 have c2 : w2.cell? ⟨w.heap.size, 0, none⟩ = some (.int .i64 (n : Nat)) := by rw [(cells_at q.1.bl 0).1]; rfl
 have HX : Hid (LR D 105 3 w w2 R a cap s1 b cs ty o 0 []) := by
  obtain ⟨hr, k1, hs, hcs⟩ := HR.out
  have c : Chg w w2 (fun k => k = R) := Chg.trans (Chg.trans k1.any q.2 (S := fun k => k = R ∨ k = w.heap.size) (fun _ _ e => e)) (Chg.refl w2 (fun _ => False)) (fun _ _ e => e.elim) |>.mono (fun k hk e => e.resolve_right (by omega))
  have r2 := hr.read (s' := s1) q.1.rs c HW.out.2.2.2.2.2
  refine ⟨rfl, none, 0, [], ⟨by rw [set_same hcs]; exact r2, c.mono (fun _ _ e => .inl e)⟩, World.ownsRow_nil _ _ _ _, fun k hk => by simp [Value.ownBlock] at hk, Thg.nil⟩
 clear HR q hs1
 go_wp2_with fail
 go_loopw [7, 15] (fun _ s15 wr => ∃ k : Nat, s15 = .int .i64 k ∧ k ≤ n ∧ Hid (LR D 105 3 w wr R a cap (rl f k s1).2 b cs ty o k (rl f k s1).1)) (fun _ s15 _ => n - nI s15)
 case atStart => exact ⟨0, rfl, by omega, HX⟩
 case round =>
  obtain ⟨k, rfl, hk, HR⟩ := hrel
  clear HX c2
  rename World => wz
  by_cases hlt : k < n
  ·have h1z : (k : Int) < (n : Int) := by omega
   have hgo := rl_go (f := f) (k := k) (s := s1)
   have hstop := rl_stop (f := f) (k := k) (s := s1)
   have hbs : (rl f k s1).2.bs = s.bs := (rl_bs hfb k s1).trans HW.out.2.2.2.2.2
   obtain ⟨t, ht⟩ : ∃ t, t = (rl f k s1).2 := ⟨_, rfl⟩
   obtain ⟨xs, hxs⟩ : ∃ xs, xs = (rl f k s1).1 := ⟨_, rfl⟩
   rw [← ht] at HR hgo hstop hbs
   rw [← hxs] at HR hgo
   have A0 : Calls Tryz.prog 31 #[hR R] wz fun r w' => r = .returned (.bool (!decide (t.err = 0))) ∧ Kp wz w' := over_any wz R a cap t (by obtain ⟨_, _, _, _, q, _⟩ := HR.out; exact q.1.rs)
   have hm := (mr_over R).m
   by_cases he : t.err = 0
   ·rw [decide_eq_true he] at A0
    have HE : Hid (rl f (k + 1) s1 = (xs ++ [(f t).1], (f t).2) ∧ t.bs = s.bs ∧ k + 1 ≤ 4294967296) := ⟨hgo he, hbs, by have := HW.out.2.2.2.2.1; omega⟩
    clear hgo hstop hbs he ht hxs
    go_wp2_with fail
    go_at_call 31
    refine A0.mono ?_
    clear A0 hm
    rintro e w3 ⟨rfl, k3⟩
    obtain ⟨hRl, hbl, hos, haw, hn32, _⟩ := HW.out
    obtain ⟨va, vc, hc3, WA, WB, W7, n0, n1, g, gc, ec, cl, G⟩ := HR.out.grow tl26 hD hT hTe hty hRl hbl hos (by rw [HE.out.2.1]; exact haw) HE.out.2.2 k3
    have hxl := HR.out.1
    have HG : Hid (Grown D 26 105 3 ZLne w w3 R a cap t b cs ty o k xs va vc WA WB W7 n0 n1 g gc ec cl ∧ xs.length = k) := ⟨G, hxl⟩
    clear G HR k3 hRl hbl hos haw hn32 hxl
    go_upto_region 7 with fail
    refine reg52_7 w3 WA WB W7 _ b o n0 n1 _ _ HG.out.1.l0 HG.out.1.lA HG.out.1.lB HG.out.1.al HG.out.1.zA HG.out.1.bs HG.out.1.ap HG.out.1.st _ (fun _ _ _ q _ h => by cases q <;> exact h) ?_
    have c8 := HG.out.1.ce
    have A1 := hst (W7.setCell ⟨b, o, none⟩ (.slice (some ⟨g, 0, none⟩) (k + 1) gc)) t g ec k HE.out.2.1 HG.out.1.rx.2 HG.out.1.fr HG.out.1.r1 (HG.out.1.zero (by rw [HG.out.1.th.len, HG.out.2]) rfl).1 (HG.out.1.zero (by rw [HG.out.1.th.len, HG.out.2]) rfl).2
    obtain ⟨W8, hW8⟩ : ∃ W8,W8 = W7.setCell ⟨b, o, none⟩ (.slice (some ⟨g, 0, none⟩) (k + 1) gc) := ⟨_, rfl⟩
    rw [← hW8] at c8 A1 ⊢
    have h2z : (k : Int) < ((k + 1 : Nat) : Int) := by omega
    clear hc3
    obtain ⟨m, hmm⟩ : ∃ m, m = k + 1 := ⟨_, rfl⟩
    have HM : Hid (m = k + 1 ∧ W8 = W7.setCell ⟨b, o, none⟩ (.slice (some ⟨g, 0, none⟩) (k + 1) gc)) := ⟨hmm, hW8⟩
    rw [← hmm] at c8 h2z
    clear hmm hW8
    go_wp2_with fail
    go_at_fn F
    refine A1.mono ?_
    clear A1 c8
    rintro e w4 ⟨rfl, ez, l, q, hf, hl, hdx⟩
    have H1 : Hid (LR D 105 3 w w4 R a cap (rl f (k + 1) s1).2 b cs ty o (k + 1) (rl f (k + 1) s1).1) := by
     rw [HE.out.1]
     rw [HM.out.2] at q
     exact HG.out.1.next hD hT hTe HG.out.2 HW.out.1 HW.out.2.1 (hfb t) rfl q hf hl hdx
    clear q hf hl hdx HG HM HE h2z
    have hn32 := HW.out.2.2.2.2.1
    go_wp2_with fail
    exact ⟨⟨k + 1, by go_num, by omega, H1⟩, by simp [nI]; omega⟩
   ·rw [decide_eq_false he] at A0
    have e1 := hstop he n hk
    have e2 : rl f k s1 = (xs, t) := by rw [ht, hxs]
    have H1 : Hid (LR D 105 3 w wz R a cap (rl f n s1).2 b cs ty o k (rl f n s1).1) := by rw [e1, e2]; exact HR.out
    clear HR hst hgo hstop hbs he ht hxs e1 e2
    go_wp2_with fail
    go_at_call 31
    refine A0.mono ?_
    clear A0 hm
    rintro e w3 ⟨rfl, k3⟩
    have H2 : Hid (LR D 105 3 w w3 R a cap (rl f n s1).2 b cs ty o k (rl f n s1).1) := H1.out.kp hD k3
    clear H1 k3
    go_wp2
    refine bodyPost_ret (results_none rfl _ _ _) rfl H2.out.fin
  ·have h1z : ¬ (k : Int) < (n : Int) := by omega
   obtain rfl : k = n := by omega
   have H1 : Hid (LR D 105 3 w wz R a cap (rl f k s1).2 b cs ty o k (rl f k s1).1) := HR.out
   clear HR hst
   go_wp2_with fail
   exact ⟨rfl, _, results_none rfl _ _ _, H1.out.fin⟩
set_option maxHeartbeats 1000000 in
set_option maxRecDepth 10000 in
theorem rrow55 {α : Type} {D : World → List Value → α → Prop} {T : Nat → Prop} {f : RS → α × RS} (hD : Stb T D) (hT : ¬ T 256) (hTe : ¬ T 112) (hfb : ∀ s, (f s).2.bs = s.bs)
  {w : World} {R : Nat} {a : Option Addr} {cap : Nat} {s : RS} {b : Nat} {cs : Array Value} {ty : Nat} (h : R1 w R a cap s b cs ty) (hty : ¬ T ty) (o : Nat) (hcs : cs[o]? = some (.slice none 0 0)) (F HB : Nat) (hent : ∀ args w, (callFunc F args).run Tryz.prog w = .ok (.enter F args) w)
  (hst : ∀ (wi : World) (t : RS) (eb : Nat) (ec : Array Value) (k : Nat), t.bs = s.bs → Chg w wi (fun k => k = R ∨ k = b) → w.heap.size ≤ eb → R1 wi R a cap t eb ec 112 → (∀ i u, ZSlt[i]? = some u → ec[k * 4 + i]? = some u) → k * 4 + 4 ≤ ec.size →
   Calls Tryz.prog F #[.pointer (some ⟨eb, k * 4, none⟩), .pointer (some ⟨HB, 0, none⟩)] wi fun r w' => r = .returned (.tuple #[]) ∧ ∃ ez l, RX wi w' R a cap (f t).2 eb ez 112 ∧ Filled ec ez (k * 4) 4 l ∧ l.length = 4 ∧ D w' l (f t).1) :
  Calls Tryz.prog 55 #[.iface 101 (hR R), .pointer (some ⟨b, o, none⟩), .func (.func F) #[] #[.pointer (some ⟨HB, 0, none⟩)]] w fun r w' => RowR D 112 4 w R a cap (s.row f).2 (s.row f).1 b cs ty o r w' := by
 have hbl := hp_lt h.bl
 have hRl := hp_lt h.rs.box
 have hal := h.rs.bytes
 have hos : o < cs.size := (Array.getElem?_eq_some_iff.1 hcs).1
 have hlt32 : s.num 4 < 4294967296 := RS.num_lt s 4 h.rs.rng
 have haw : ∀ x off, a = some ⟨x, off, none⟩ → 0 < s.bs.length → x < w.heap.size := by
  intro x off e hl
  obtain ⟨q1, q2, q3, q4⟩ := hal
  rcases q4 with q4 | ⟨bb, oo, q4, q5⟩
  ·omega
  ·rw [e] at q4; cases q4
   have := lt_of_cell (q5 0 hl)
   omega
 have cL : w.cell? ⟨b, o, none⟩ = some (.slice none 0 0) := by rw [(cells_at h.bl o).1]; exact hcs
 obtain ⟨w1, hw1⟩ : ∃ w1, w1 = w.alloc (.cells #[.int .i64 0] 3) := ⟨_, rfl⟩
 have k1 : Kp w w1 := by rw [hw1]; exact Kp.al _ _
 have hx : w1.heap[w.heap.size]? = some (.cells #[.int .i64 0] 3 (0, 0)) := by rw [hw1]; exact heap_alloc_new w _
 have r1 : R1 w1 R a cap s w.heap.size #[.int .i64 0] 3 := ⟨(h.kp k1).rs, hx, by omega, fun x off e hl hxx => by have := haw x off e hl; omega⟩
 have A1 := rwordOf r1 0 (by simp)
 obtain ⟨n, hn⟩ : ∃ n, n = s.num 4 := ⟨_, rfl⟩
 have hrow : s.row f = rl f n (s.take 4).2 := by rw [hn]; rfl
 rw [hrow]
 rw [← hn] at A1 hlt32
 have HW : Hid (R < w.heap.size ∧ b < w.heap.size ∧ o < cs.size ∧ (∀ x off, a = some ⟨x, off, none⟩ → 0 < s.bs.length → x < w.heap.size) ∧ n < 4294967296 ∧ (s.take 4).2.bs = s.bs) := ⟨hRl, hbl, hos, haw, hlt32, RS.take_bs s 4⟩
 have HR : Hid (R1 w R a cap s b cs ty ∧ Kp w w1 ∧ w.heap.size < w1.heap.size ∧ cs[o]? = some (.slice none 0 0)) := ⟨h, k1, hp_lt hx, hcs⟩
 clear h k1 r1 hx hal hcs hRl hbl hos haw hlt32 hn hrow
 obtain ⟨s1, hs1⟩ : ∃ s1, s1 = (s.take 4).2 := ⟨_, rfl⟩
 rw [← hs1] at HW A1 ⊢
 have hm := (mr_wordOf R).m
 go_enter Tryz.func55, Tryz.ntmps55
 go_wp2_with fail
 rw [← hw1]
 clear hw1
 go_at_call 255
 refine A1.mono ?_
 clear A1 hm cL
 rintro e w2 ⟨rfl, q⟩
 have c2 : w2.cell? ⟨w.heap.size, 0, none⟩ = some (.int .i64 (n : Nat)) := by rw [(cells_at q.1.bl 0).1]; rfl
 have HX : Hid (LR D 112 4 w w2 R a cap s1 b cs ty o 0 []) := by
  obtain ⟨hr, k1, hs, hcs⟩ := HR.out
  have c : Chg w w2 (fun k => k = R) := Chg.trans (Chg.trans k1.any q.2 (S := fun k => k = R ∨ k = w.heap.size) (fun _ _ e => e)) (Chg.refl w2 (fun _ => False)) (fun _ _ e => e.elim) |>.mono (fun k hk e => e.resolve_right (by omega))
  have r2 := hr.read (s' := s1) q.1.rs c HW.out.2.2.2.2.2
  refine ⟨rfl, none, 0, [], ⟨by rw [set_same hcs]; exact r2, c.mono (fun _ _ e => .inl e)⟩, World.ownsRow_nil _ _ _ _, fun k hk => by simp [Value.ownBlock] at hk, Thg.nil⟩
 clear HR q hs1
 go_wp2_with fail
 go_loopw [7, 15] (fun _ s15 wr => ∃ k : Nat, s15 = .int .i64 k ∧ k ≤ n ∧ Hid (LR D 112 4 w wr R a cap (rl f k s1).2 b cs ty o k (rl f k s1).1)) (fun _ s15 _ => n - nI s15)
 case atStart => exact ⟨0, rfl, by omega, HX⟩
 case round =>
  obtain ⟨k, rfl, hk, HR⟩ := hrel
  clear HX c2
  rename World => wz
  by_cases hlt : k < n
  ·have h1z : (k : Int) < (n : Int) := by omega
   have hgo := rl_go (f := f) (k := k) (s := s1)
   have hstop := rl_stop (f := f) (k := k) (s := s1)
   have hbs : (rl f k s1).2.bs = s.bs := (rl_bs hfb k s1).trans HW.out.2.2.2.2.2
   obtain ⟨t, ht⟩ : ∃ t, t = (rl f k s1).2 := ⟨_, rfl⟩
   obtain ⟨xs, hxs⟩ : ∃ xs, xs = (rl f k s1).1 := ⟨_, rfl⟩
   rw [← ht] at HR hgo hstop hbs
   rw [← hxs] at HR hgo
   have A0 : Calls Tryz.prog 31 #[hR R] wz fun r w' => r = .returned (.bool (!decide (t.err = 0))) ∧ Kp wz w' := over_any wz R a cap t (by obtain ⟨_, _, _, _, q, _⟩ := HR.out; exact q.1.rs)
   have hm := (mr_over R).m
   by_cases he : t.err = 0
   ·rw [decide_eq_true he] at A0
    have HE : Hid (rl f (k + 1) s1 = (xs ++ [(f t).1], (f t).2) ∧ t.bs = s.bs ∧ k + 1 ≤ 4294967296) := ⟨hgo he, hbs, by have := HW.out.2.2.2.2.1; omega⟩
    clear hgo hstop hbs he ht hxs
    go_wp2_with fail
    go_at_call 31
    refine A0.mono ?_
    clear A0 hm
    rintro e w3 ⟨rfl, k3⟩
    obtain ⟨hRl, hbl, hos, haw, hn32, _⟩ := HW.out
    obtain ⟨va, vc, hc3, WA, WB, W7, n0, n1, g, gc, ec, cl, G⟩ := HR.out.grow tl27 hD hT hTe hty hRl hbl hos (by rw [HE.out.2.1]; exact haw) HE.out.2.2 k3
    have hxl := HR.out.1
    have HG : Hid (Grown D 27 112 4 ZSlt w w3 R a cap t b cs ty o k xs va vc WA WB W7 n0 n1 g gc ec cl ∧ xs.length = k) := ⟨G, hxl⟩
    clear G HR k3 hRl hbl hos haw hn32 hxl
    go_upto_region 7 with fail
    refine reg55_7 w3 WA WB W7 _ b o n0 n1 _ _ HG.out.1.l0 HG.out.1.lA HG.out.1.lB HG.out.1.al HG.out.1.zA HG.out.1.bs HG.out.1.ap HG.out.1.st _ (fun _ _ _ q _ h => by cases q <;> exact h) ?_
    have c8 := HG.out.1.ce
    have A1 := hst (W7.setCell ⟨b, o, none⟩ (.slice (some ⟨g, 0, none⟩) (k + 1) gc)) t g ec k HE.out.2.1 HG.out.1.rx.2 HG.out.1.fr HG.out.1.r1 (HG.out.1.zero (by rw [HG.out.1.th.len, HG.out.2]) rfl).1 (HG.out.1.zero (by rw [HG.out.1.th.len, HG.out.2]) rfl).2
    obtain ⟨W8, hW8⟩ : ∃ W8,W8 = W7.setCell ⟨b, o, none⟩ (.slice (some ⟨g, 0, none⟩) (k + 1) gc) := ⟨_, rfl⟩
    rw [← hW8] at c8 A1 ⊢
    have h2z : (k : Int) < ((k + 1 : Nat) : Int) := by omega
    clear hc3
    obtain ⟨m, hmm⟩ : ∃ m, m = k + 1 := ⟨_, rfl⟩
    have HM : Hid (m = k + 1 ∧ W8 = W7.setCell ⟨b, o, none⟩ (.slice (some ⟨g, 0, none⟩) (k + 1) gc)) := ⟨hmm, hW8⟩
    rw [← hmm] at c8 h2z
    clear hmm hW8
    go_wp2_with fail
    go_at_fn F
    refine A1.mono ?_
    clear A1 c8
    rintro e w4 ⟨rfl, ez, l, q, hf, hl, hdx⟩
    have H1 : Hid (LR D 112 4 w w4 R a cap (rl f (k + 1) s1).2 b cs ty o (k + 1) (rl f (k + 1) s1).1) := by
     rw [HE.out.1]
     rw [HM.out.2] at q
     exact HG.out.1.next hD hT hTe HG.out.2 HW.out.1 HW.out.2.1 (hfb t) rfl q hf hl hdx
    clear q hf hl hdx HG HM HE h2z
    have hn32 := HW.out.2.2.2.2.1
    go_wp2_with fail
    exact ⟨⟨k + 1, by go_num, by omega, H1⟩, by simp [nI]; omega⟩
   ·rw [decide_eq_false he] at A0
    have e1 := hstop he n hk
    have e2 : rl f k s1 = (xs, t) := by rw [ht, hxs]
    have H1 : Hid (LR D 112 4 w wz R a cap (rl f n s1).2 b cs ty o k (rl f n s1).1) := by rw [e1, e2]; exact HR.out
    clear HR hst hgo hstop hbs he ht hxs e1 e2
    go_wp2_with fail
    go_at_call 31
    refine A0.mono ?_
    clear A0 hm
    rintro e w3 ⟨rfl, k3⟩
    have H2 : Hid (LR D 112 4 w w3 R a cap (rl f n s1).2 b cs ty o k (rl f n s1).1) := H1.out.kp hD k3
    clear H1 k3
    go_wp2
    refine bodyPost_ret (results_none rfl _ _ _) rfl H2.out.fin
  ·have h1z : ¬ (k : Int) < (n : Int) := by omega
   obtain rfl : k = n := by omega
   have H1 : Hid (LR D 112 4 w wz R a cap (rl f k s1).2 b cs ty o k (rl f k s1).1) := HR.out
   clear HR hst
   go_wp2_with fail
   exact ⟨rfl, _, results_none rfl _ _ _, H1.out.fin⟩
end Go.Proofs.YtkggkkoblpdopaaGreat
