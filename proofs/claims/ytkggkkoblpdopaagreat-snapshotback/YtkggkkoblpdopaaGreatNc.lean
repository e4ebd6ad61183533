import Derived.Test.YtkggkkoblpdopaaGreatMk
import Derived.Deep.MidRow
namespace Go.Proofs.YtkggkkoblpdopaaGreat
open Go.ChangeShapes Go.WideShapes Go.ChangeAt Go.RowKit
set_option linter.unusedVariables false
def Ty (w : World) (T : Nat → Prop) (k : Nat) : Prop := ∀ cs ty fr, w.heap[k]? = some (.cells cs ty fr) → ¬ T ty
theorem Ty.of {w : World} {T : Nat → Prop} {k ty : Nat} {cs : Array Value} {fr : Nat × Nat} (h : w.heap[k]? = some (.cells cs ty fr)) (hT : ¬ T ty) : Ty w T k := by
 intro cs' ty' fr' h'
 rw [h] at h'
 cases h'
 exact hT
def Stb {α : Type} (T : Nat → Prop) (D : World → List Value → α → Prop) : Prop := ∀ (w w' : World) (S : Nat → Prop) (l : List Value) (x : α), D w l x → Chg w w' S → (∀ k, k < w.heap.size → S k → Ty w T k) → D w' l x
structure Thg {α : Type} (D : World → List Value → α → Prop) (w : World) (sz : Nat) (cl : List Value) (xs : List α) : Prop where
 len : cl.length = xs.length * sz
 each : ∀ i x, xs[i]? = some x → D w ((cl.drop (i * sz)).take sz) x
section
variable {α : Type} {D : World → List Value → α → Prop} {T : Nat → Prop} {w w' : World} {sz : Nat} {cl l : List Value} {xs : List α} {x : α} {S : Nat → Prop}
theorem Thg.nil : Thg D w sz [] [] := ⟨by simp, fun i x h => by simp at h⟩
theorem Thg.chg (h : Thg D w sz cl xs) (hD : Stb T D) (c : Chg w w' S) (hS : ∀ k, k < w.heap.size → S k → Ty w T k) : Thg D w' sz cl xs := ⟨h.len, fun i x hx => hD _ _ _ _ _ (h.each i x hx) c hS⟩
theorem Thg.snoc (h : Thg D w sz cl xs) (hl : l.length = sz) (hx : D w l x) : Thg D w sz (cl ++ l) (xs ++ [x]) := by
 have h0 := h.len
 refine ⟨by simp [h0, hl, Nat.add_mul], fun i y hy => ?_⟩
 by_cases e : i < xs.length
 ·rw [List.getElem?_append_left e] at hy
  have := h.each i y hy
  have h1 : i * sz + sz ≤ xs.length * sz := by
   have := Nat.mul_le_mul_right sz (show i + 1 ≤ xs.length from e)
   rw [Nat.add_mul] at this; omega
  rw [List.drop_append_of_le_length (by omega), List.take_append_of_le_length (by simp; omega)]
  exact this
 ·rw [List.getElem?_append_right (by omega)] at hy
  have e2 : i = xs.length := by
   have := (List.getElem?_eq_some_iff.1 hy).1
   simp at this; omega
  subst e2
  simp at hy
  subst hy
  rw [← h0, List.drop_left, ← hl, List.take_length]
  exact hx
end
def RowO {α : Type} (D : World → List Value → α → Prop) (w : World) (e sz : Nat) (v : Value) (xs : List α) : Prop := ∃ cl, w.ownsRow 0 e sz v xs.length cl ∧ Thg D w sz cl xs
theorem RowO.chg {α : Type} {D : World → List Value → α → Prop} {T : Nat → Prop} {w w' : World} {e sz : Nat} {v : Value} {xs : List α} {S : Nat → Prop} (h : RowO D w e sz v xs) (hD : Stb T D) (c : Chg w w' S) (hS : ∀ k, k < w.heap.size → S k → Ty w T k) (he : ∀ k, k < w.heap.size → S k → Ty w (fun t => t = e) k) : RowO D w' e sz v xs := by
 obtain ⟨cl, h1, h2⟩ := h
 refine ⟨cl, c.owns h1 (fun k hk => fun hs => ?_), h2.chg hD c hS⟩
 rcases h1.2 with ⟨rfl, _⟩ | ⟨g, cap, cur, rfl, _, hg, _⟩
 ·simp [Value.ownBlock] at hk
 ·simp only [Value.ownBlock, Option.some.injEq] at hk
  subst hk
  exact he g (hp_lt hg) hs _ _ _ hg rfl
theorem RowO.one {α : Type} {D : World → List Value → α → Prop} {w : World} {e sz : Nat} {v : Value} {xs : List α} (h : RowO D w e sz v xs) : v.oneCell' = true := by
 obtain ⟨cl, h1, h2⟩ := h
 rcases h1.2 with ⟨rfl, _⟩ | ⟨g, cap, cur, rfl, _⟩ <;> rfl
theorem OwnB.stb {w w' : World} {v : Value} {bs : List Int} {S T : Nat → Prop} (h : OwnB w v bs) (hT : T 5) (c : Chg w w' S) (hS : ∀ k, k < w.heap.size → S k → Ty w T k) : OwnB w' v bs := h.chg c (fun k hk hs => by
 rcases h.1.2 with ⟨rfl, _⟩ | ⟨g, cap, cur, rfl, _, hg, _⟩
 ·simp [Value.ownBlock] at hk
 ·simp only [Value.ownBlock, Option.some.injEq] at hk
  subst hk
  exact hS g (hp_lt hg) hs _ _ _ hg hT)
def OwnC (w : World) (v : Value) (d : List Int) : Prop := OwnB w v d ∧ d.length ≤ 140737488355328
theorem OwnC.stb {w w' : World} {v : Value} {bs : List Int} {S T : Nat → Prop} (h : OwnC w v bs) (hT : T 5) (c : Chg w w' S) (hS : ∀ k, k < w.heap.size → S k → Ty w T k) : OwnC w' v bs := ⟨h.1.stb hT c hS, h.2⟩
def T5 (t : Nat) : Prop := t = 5
def T5m (t : Nat) : Prop := t = 5 ∨ t = 64
def DMg (w : World) (l : List Value) (x : Mg) : Prop := u64ok x.t ∧ ∃ v, l = [v, .int .u64 x.t] ∧ OwnC w v x.d
def DPg (w : World) (l : List Value) (x : Pg) : Prop := u32ok x.n ∧ ∃ v, l = [.int .u32 x.n, v] ∧ OwnC w v x.d
def DCel (w : World) (l : List Value) (x : Cel) : Prop := l = x.cells ∧ x.ok
def DLne (w : World) (l : List Value) (x : Lne) : Prop := l = x.cells ∧ x.ok
def DSlt (w : World) (l : List Value) (x : Slt) : Prop := l = x.cells ∧ x.ok
def DArr (w : World) (l : List Value) (x : Arr) : Prop := l = x.cells ∧ x.ok
def DSpl (w : World) (l : List Value) (x : Spl) : Prop := u64ok x.l.t ∧ u64ok x.n.t ∧ ∃ v1 v2, l = [.bool x.a, .bool x.b, v1, .int .u64 x.l.t, v2, .int .u64 x.n.t] ∧ OwnC w v1 x.l.d ∧ OwnC w v2 x.n.d
def DQue (w : World) (l : List Value) (x : Que) : Prop := (x.ok ∧ x.q.length ≤ 140737488355328 ∧ x.s.length ≤ 140737488355328) ∧ ∃ v1 v2, l = [.int .i64 x.c0, .int .i64 x.c1, .int .i64 x.c2, .int .i64 x.c3, .int .i64 x.c4, v1, v2] ∧ RowO DMg w 64 2 v1 x.q ∧ RowO DMg w 64 2 v2 x.s
theorem DMg.stb {T : Nat → Prop} (hT : T 5) : Stb T DMg := by
 rintro w w' S l x ⟨h1, v, e, h2⟩ c hS
 exact ⟨h1, v, e, h2.stb hT c hS⟩
theorem DPg.stb {T : Nat → Prop} (hT : T 5) : Stb T DPg := by
 rintro w w' S l x ⟨h1, v, e, h2⟩ c hS
 exact ⟨h1, v, e, h2.stb hT c hS⟩
theorem DCel.stb {T : Nat → Prop} : Stb T DCel := fun w w' S l x h c hS => h
theorem DLne.stb {T : Nat → Prop} : Stb T DLne := fun w w' S l x h c hS => h
theorem DSlt.stb {T : Nat → Prop} : Stb T DSlt := fun w w' S l x h c hS => h
theorem DArr.stb {T : Nat → Prop} : Stb T DArr := fun w w' S l x h c hS => h
theorem DSpl.stb {T : Nat → Prop} (hT : T 5) : Stb T DSpl := by
 rintro w w' S l x ⟨h0, h1, v1, v2, e, h2, h3⟩ c hS
 exact ⟨h0, h1, v1, v2, e, h2.stb hT c hS, h3.stb hT c hS⟩
theorem DQue.stb {T : Nat → Prop} (hT : T 5) (hT2 : T 64) : Stb T DQue := by
 rintro w w' S l x ⟨h1, v1, v2, e, h2, h3⟩ c hS
 have k2 : ∀ k, k < w.heap.size → S k → Ty w (fun t => t = 64) k := fun k hk hs cs ty fr hh e => hS k hk hs cs ty fr hh (by rw [e]; exact hT2)
 exact ⟨h1, v1, v2, e, h2.chg (DMg.stb hT) c hS k2, h3.chg (DMg.stb hT) c hS k2⟩
theorem rl_stop {α : Type} {f : RS → α × RS} {k : Nat} {s : RS} (h : (rl f k s).2.err ≠ 0) : ∀ n, k ≤ n → rl f n s = rl f k s
 | 0, hk => by
  obtain rfl : k = 0 := by omega
  rfl
 | n + 1, hk => by
  by_cases e : k = n + 1
  ·rw [e]
  ·have q := rl_stop h n (by omega)
   show (if (rl f n s).2.err ≠ 0 then rl f n s else _) = _
   rw [q, if_pos h]
theorem rl_go {α : Type} {f : RS → α × RS} {k : Nat} {s : RS} (h : (rl f k s).2.err = 0) : rl f (k + 1) s = ((rl f k s).1 ++ [(f (rl f k s).2).1], (f (rl f k s).2).2) := by
 show (if (rl f k s).2.err ≠ 0 then rl f k s else _) = _
 rw [if_neg (by simp [h])]
theorem own_filled {w : World} {e sz n : Nat} {g cap : Nat} {cl l0 l : List Value} {cur ez : Array Value} (h : cl.length = n * sz) (hg : w.heap[g]? = some (.cells ez e (0, 0))) (hn : n + 1 ≤ cap) (hc : cap ≤ maxLen) (hs : cur.size = cap * sz) (htk : cur.toList.take ((n + 1) * sz) = cl ++ l0) (hl0 : l0.length = sz) (hf : Filled cur ez (n * sz) sz l) (hl : l.length = sz) : w.ownsRow 0 e sz (.slice (some ⟨g, 0, none⟩) (n + 1) cap) (n + 1) (cl ++ l) := by
 obtain ⟨f1, f0, f2, f3⟩ := hf
 have hle : (n + 1) * sz ≤ cap * sz := Nat.mul_le_mul_right sz hn
 have hm : (n + 1) * sz = n * sz + sz := by rw [Nat.add_mul]; omega
 refine ⟨by simp [h, hl, hm], .inr ⟨g, cap, ez, rfl, Nat.zero_le _, hg, hn, hc, by rw [f1, hs], ?_⟩⟩
 apply List.ext_getElem?
 intro j
 by_cases hj : j < (n + 1) * sz
 ·rw [List.getElem?_take_of_lt hj, Array.getElem?_toList]
  by_cases h1 : j < n * sz
  ·rw [f2 j (.inl h1), List.getElem?_append_left (by omega)]
   have e1 : (cl ++ l0)[j]? = cur[j]? := by rw [← htk, List.getElem?_take_of_lt hj, Array.getElem?_toList]
   rw [← e1, List.getElem?_append_left (by omega)]
  ·rw [List.getElem?_append_right (by omega), h]
   have hlt : j - n * sz < l.length := by omega
   have := f3 (j - n * sz) l[j - n * sz] (List.getElem?_eq_getElem hlt)
   rw [show n * sz + (j - n * sz) = j by omega] at this
   rw [this, List.getElem?_eq_getElem hlt]
 ·rw [List.getElem?_eq_none (by simp; omega), List.getElem?_eq_none (by simp; omega)]
end Go.Proofs.YtkggkkoblpdopaaGreat
namespace Go.Proofs.YtkggkkoblpdopaaGreat
open Go.ChangeShapes Go.WideShapes Go.ChangeAt Go.RowKit
set_option linter.unusedVariables false
structure TL (t e sz by_ : Nat) (Z : Array Value) : Prop where
 un : Tryz.prog.underlying t = some (.slice e)
 ex : ∃ i z, Tryz.prog.info? e = some i ∧ i.zero = some z ∧ i.size = sz ∧ i.bytes = by_ ∧ z.cells.size = sz
 pos : 0 < sz
 bpos : by_ ≤ 1000
 zs : Z.size = sz
 z1 : ∀ u ∈ Z.toList, u.oneCell' = true
 al : ∀ w : World, (Instr.alloc e true (.tuple #[])).run Tryz.prog w = .ok (.pointer (some ⟨w.heap.size, 0, none⟩)) (w.alloc (.cells Z e))
 bs : ∀ w : World, (Instr.buildSlice t 1 #[(0, .agg Z)]).run Tryz.prog w = .ok (.slice (some ⟨w.heap.size, 0, none⟩) 1 1) (w.alloc (.cells Z e))
 ld : ∀ (w : World) (b : Nat) (fr : Nat × Nat), w.heap[b]? = some (.cells Z e fr) → (Instr.loadAt e (.pointer (some ⟨b, 0, none⟩))).run Tryz.prog w = .ok (.agg Z) w
 ls : ∀ (w : World) (b o : Nat) (v : Value), w.cell? ⟨b, o, none⟩ = some v → (Instr.loadAt t (.pointer (some ⟨b, o, none⟩))).run Tryz.prog w = .ok v w
 ss : ∀ (w : World) (b o : Nat) (x : Option Addr) (n c : Nat), (∃ u, w.cell? ⟨b, o, none⟩ = some u) → w.frozen? ⟨b, o, none⟩ = false → (Instr.storeAt t (.pointer (some ⟨b, o, none⟩)) (.slice x n c)).run Tryz.prog w = .ok () (w.setCell ⟨b, o, none⟩ (.slice x n c))
theorem TL.one {t e sz by_ : Nat} {Z : Array Value} (T : TL t e sz by_ Z) (w w2 : World) (n1 : Nat) (hw : w2 = w.alloc (.cells Z e)) (hn : n1 = w.heap.size) (v : Value) (n : Nat) (cs : List Value) (ho : w.ownsRow 0 e sz v n cs) (hm : n + 1 ≤ 4294967296) :
  ∃ v' w', (Builtin.append_ #[t, t] t #[v, .slice (some ⟨n1, 0, none⟩) 1 1]).run Tryz.prog w2 = .ok v' w' ∧ w'.ownsRow 0 e sz v' (n + 1) (cs ++ Z.toList) ∧ Chg w w' (fun i => v.ownBlock = some i) ∧ (v'.ownBlock = v.ownBlock ∨ ∃ k, v'.ownBlock = some k ∧ w.heap.size ≤ k) := by
 subst hw hn
 obtain ⟨i0, z, hi, hz, hsz, hby, hzc⟩ := T.ex
 have hzs := T.zs
 have hbp := T.bpos
 have ha : (w.alloc (.cells Z e)).ownsRow 0 e sz v n cs := Chg.owns ((Chg.refl w (fun _ => False)).alloc _) ho (fun _ _ h => h)
 obtain ⟨v', w', hr, ho', hg, hL⟩ := run_app (P := Tryz.prog) (w.alloc (.cells Z e)) t t e i0 z sz by_ T.un hi hz hsz hby hzc T.pos v n cs ha (some ⟨w.heap.size, 0, none⟩) 1 1 Z.toList (by simp [hzs]) (.inr ⟨_, _, rfl, fun j u hu => by
  rw [(cells_at (heap_alloc_new w _) _).1, Nat.zero_add]
  simpa using hu⟩) T.z1 (by simp [maxLen]; omega) (Nat.le_trans (Nat.mul_le_mul hm hbp) (by decide))
 refine ⟨v', w', hr, ho', Chg.trans (Chg.alloc (Chg.refl w _) _) (Chg.grown (Chg.refl _ _) hg (fun k hk => .inl hk)) (fun _ _ h => h), ?_⟩
 rcases hL with e' | ⟨k, e', hk⟩
 ·exact .inl e'
 ·exact .inr ⟨k, e', by simp at hk; omega⟩
section
variable {α : Type}
def LR (D : World → List Value → α → Prop) (e sz : Nat) (w wr : World) (R : Nat) (a : Option Addr) (cap : Nat) (t : RS) (b : Nat) (cs : Array Value) (ty : Nat) (o k : Nat) (xs : List α) : Prop :=
 xs.length = k ∧ ∃ va vc cl, RX w wr R a cap t b (cs.setIfInBounds o (.slice va k vc)) ty ∧ wr.ownsRow 0 e sz (.slice va k vc) k cl ∧ Fresh w.heap.size (.slice va k vc) ∧ Thg D wr sz cl xs
structure Grown (D : World → List Value → α → Prop) (t e sz : Nat) (Z : Array Value) (w w3 : World) (R : Nat) (a : Option Addr) (cap : Nat) (s : RS) (b : Nat) (cs : Array Value) (ty o k : Nat) (xs : List α) (va : Option Addr) (vc : Nat) (WA WB W7 : World) (n0 n1 g gc : Nat) (ec : Array Value) (cl : List Value) : Prop where
 l0 : (Instr.loadAt t (.pointer (some ⟨b, o, none⟩))).run Tryz.prog w3.drew = .ok (.slice va k vc) w3.drew
 lA : (Instr.loadAt t (.pointer (some ⟨b, o, none⟩))).run Tryz.prog WA = .ok (.slice va k vc) WA
 lB : (Instr.loadAt t (.pointer (some ⟨b, o, none⟩))).run Tryz.prog WB = .ok (.slice va k vc) WB
 al : (Instr.alloc e true (.tuple #[])).run Tryz.prog w3.drew = .ok (.pointer (some ⟨n0, 0, none⟩)) WA
 zA : (Instr.loadAt e (.pointer (some ⟨n0, 0, none⟩))).run Tryz.prog WA = .ok (.agg Z) WA
 bs : (Instr.buildSlice t 1 #[(0, .agg Z)]).run Tryz.prog WA = .ok (.slice (some ⟨n1, 0, none⟩) 1 1) WB
 ap : (Builtin.append_ #[t, t] t #[.slice va k vc, .slice (some ⟨n1, 0, none⟩) 1 1]).run Tryz.prog WB = .ok (.slice (some ⟨g, 0, none⟩) (k + 1) gc) W7
 st : (Instr.storeAt t (.pointer (some ⟨b, o, none⟩)) (.slice (some ⟨g, 0, none⟩) (k + 1) gc)).run Tryz.prog W7 = .ok () (W7.setCell ⟨b, o, none⟩ (.slice (some ⟨g, 0, none⟩) (k + 1) gc))
 ce : (W7.setCell ⟨b, o, none⟩ (.slice (some ⟨g, 0, none⟩) (k + 1) gc)).cell? ⟨b, o, none⟩ = some (.slice (some ⟨g, 0, none⟩) (k + 1) gc)
 r1 : R1 (W7.setCell ⟨b, o, none⟩ (.slice (some ⟨g, 0, none⟩) (k + 1) gc)) R a cap s g ec e
 rx : RX w (W7.setCell ⟨b, o, none⟩ (.slice (some ⟨g, 0, none⟩) (k + 1) gc)) R a cap s b (cs.setIfInBounds o (.slice (some ⟨g, 0, none⟩) (k + 1) gc)) ty
 fr : w.heap.size ≤ g
 gl : k + 1 ≤ gc ∧ gc ≤ maxLen ∧ ec.size = gc * sz
 tk : ec.toList.take ((k + 1) * sz) = cl ++ Z.toList
 th : Thg D (W7.setCell ⟨b, o, none⟩ (.slice (some ⟨g, 0, none⟩) (k + 1) gc)) sz cl xs
variable {D : World → List Value → α → Prop} {T : Nat → Prop} {t e sz by_ : Nat} {Z : Array Value} {w wr w3 : World} {R : Nat} {a : Option Addr} {cap : Nat} {s s' : RS} {b : Nat} {cs : Array Value} {ty o k : Nat} {xs : List α}
theorem LR.grow (TT : TL t e sz by_ Z) (hD : Stb T D) (hT : ¬ T 256) (hTe : ¬ T e) (hty : ¬ T ty) (hRw : R < w.heap.size) (hbw : b < w.heap.size) (hos : o < cs.size) (haw : ∀ x off, a = some ⟨x, off, none⟩ → 0 < s.bs.length → x < w.heap.size) (h : LR D e sz w wr R a cap s b cs ty o k xs) (hk : k + 1 ≤ 4294967296) (k3 : Kp wr w3) :
  ∃ va vc, w3.cell? ⟨b, o, none⟩ = some (.slice va k vc) ∧ ∃ WA WB W7 n0 n1 g gc ec cl, Grown D t e sz Z w w3 R a cap s b cs ty o k xs va vc WA WB W7 n0 n1 g gc ec cl := by
 obtain ⟨hl, va, vc, cl, hx, ho, hf, hth⟩ := h
 have x3 := hx.1.kp k3
 have hc3 : w3.cell? ⟨b, o, none⟩ = some (.slice va k vc) := by
  rw [(cells_at x3.bl o).1, Array.getElem?_setIfInBounds_self_of_lt hos]
 refine ⟨va, vc, hc3, ?_⟩
 obtain ⟨W0, hW0⟩ : ∃ W0,W0 = w3.drew := ⟨_, rfl⟩
 have k0 : Kp w3 W0 := by rw [hW0]; exact Kp.drew w3
 obtain ⟨WA, hWA⟩ : ∃ WA, WA = W0.alloc (.cells Z e) := ⟨_, rfl⟩
 have kA : Kp W0 WA := by rw [hWA]; exact Kp.al _ _
 obtain ⟨WB, hWB⟩ : ∃ WB, WB = WA.alloc (.cells Z e) := ⟨_, rfl⟩
 have kB : Kp WA WB := by rw [hWB]; exact Kp.al _ _
 have k03 : Kp wr W0 := Kp.trans k3 k0
 have kA3 : Kp wr WA := Kp.trans k03 kA
 have hoA : WA.ownsRow 0 e sz (.slice va k vc) k cl := Chg.owns kA3 ho (fun _ _ h => h)
 obtain ⟨v', W7, hr, ho7, c7, hL⟩ := TL.one TT WA WB WA.heap.size hWB rfl (.slice va k vc) k cl hoA hk
 obtain ⟨g, gc, ec, rfl, _, hg, hgn, hgc, hgs, hgt⟩ : ∃ g gc ec, v' = .slice (some ⟨g, 0, none⟩) (k + 1) gc ∧ 0 ≤ g ∧ W7.heap[g]? = some (.cells ec e (0, 0)) ∧ k + 1 ≤ gc ∧ gc ≤ maxLen ∧ ec.size = gc * sz ∧ ec.toList.take ((k + 1) * sz) = cl ++ Z.toList := by
  rcases ho7.2 with ⟨_, h0⟩ | ⟨g, cap', cur, rfl, hb, r⟩
  ·omega
  ·exact ⟨g, cap', cur, rfl, hb, r⟩
 have hwr : w.heap.size ≤ wr.heap.size := hx.2.size
 have hgw : w.heap.size ≤ g := by
  rcases hL with e' | ⟨j, e', hj⟩
  ·exact hf g (by rw [← e']; rfl)
  ·simp only [Value.ownBlock, Option.some.injEq] at e'
   subst e'
   have := kA3.size; omega
 have hvb : ∀ i, (Value.slice va k vc).ownBlock = some i → w.heap.size ≤ i := hf
 have xA := hx.1.kp kA3
 have x7 : R1 W7 R a cap s b (cs.setIfInBounds o (.slice va k vc)) ty := by
  refine ⟨xA.rs.other c7 (fun e => ?_) (fun x off e hl e2 => ?_), c7.heap xA.bl (fun e => ?_), xA.ne, xA.ab⟩
  ·have := hvb R e; omega
  ·have := hvb x e2; have := haw x off e hl; omega
  ·have := hvb b e; omega
 obtain ⟨r8, c8⟩ := x7.put o (.slice (some ⟨g, 0, none⟩) (k + 1) gc)
 have ecs : (cs.setIfInBounds o (.slice va k vc)).setIfInBounds o (.slice (some ⟨g, 0, none⟩) (k + 1) gc) = cs.setIfInBounds o (.slice (some ⟨g, 0, none⟩) (k + 1) gc) := by
  rw [Array.setIfInBounds_setIfInBounds]
 rw [ecs] at r8
 have hgb : g ≠ b := by omega
 have hg8 := c8.heap hg (fun e => hgb e)
 have cwA : Chg w WA (fun k => k = R ∨ k = b) := Chg.trans hx.2 kA3.any (fun _ _ e => e)
 have cw7 : Chg w W7 (fun k => k = R ∨ k = b) := Chg.trans cwA c7 (fun i hi e => by have := hvb i e; omega)
 have cw8 : Chg w (W7.setCell ⟨b, o, none⟩ (.slice (some ⟨g, 0, none⟩) (k + 1) gc)) (fun k => k = R ∨ k = b) := Chg.trans cw7 c8 (fun _ _ e => .inr e)
 refine ⟨WA, WB, W7,W0.heap.size, WA.heap.size, g, gc, ec, cl, ?_⟩
 have cA := Kp.cell (Kp.trans k0 kA) hc3
 exact {
  l0 := by rw [← hW0]; exact TT.ls _ _ _ _ (Kp.cell k0 hc3)
  lA := TT.ls _ _ _ _ cA
  lB := TT.ls _ _ _ _ (Kp.cell kB cA)
  al := by rw [← hW0, hWA]; exact TT.al W0
  zA := TT.ld WA _ _ (by rw [hWA]; exact heap_alloc_new W0 _)
  bs := by rw [hWB]; exact TT.bs WA
  ap := hr
  st := TT.ss _ _ _ _ _ _ (x7.cell o (by simp; exact hos)) (x7.fr o)
  ce := by rw [(cells_at r8.bl o).1, Array.getElem?_setIfInBounds_self_of_lt hos]
  r1 := ⟨r8.rs, hg8, by omega, fun x off e hl e2 => by have := haw x off e hl; omega⟩
  rx := ⟨r8, cw8⟩
  fr := hgw
  gl := ⟨hgn, hgc, hgs⟩
  tk := hgt
  th := by
   have c : Chg wr (W7.setCell ⟨b, o, none⟩ (.slice (some ⟨g, 0, none⟩) (k + 1) gc)) (fun i => (Value.slice va k vc).ownBlock = some i ∨ i = b) := Chg.trans (Chg.trans kA3.any c7 (fun _ _ e => .inl e)) c8 (fun _ _ e => .inr e)
   refine hth.chg hD c (fun i hi hs => ?_)
   rcases hs with hs | hs
   ·rcases ho.2 with ⟨e0, _⟩ | ⟨gg, cc, cu, e0, _, hgg, _⟩
    ·rw [e0] at hs; simp [Value.ownBlock] at hs
    ·rw [e0] at hs
     simp only [Value.ownBlock, Option.some.injEq] at hs
     subst hs
     exact Ty.of hgg hTe
   ·subst hs
    exact Ty.of hx.1.bl hty }
theorem Grown.zero {va : Option Addr} {vc : Nat} {WA WB W7 : World} {n0 n1 g gc : Nat} {ec : Array Value} {cl : List Value} (G : Grown D t e sz Z w w3 R a cap s b cs ty o k xs va vc WA WB W7 n0 n1 g gc ec cl) (hcl : cl.length = k * sz) (hz : Z.size = sz) : (∀ i u, Z[i]? = some u → ec[k * sz + i]? = some u) ∧ k * sz + sz ≤ ec.size := by
 have h1 := G.tk
 have hm : (k + 1) * sz = k * sz + sz := by rw [Nat.add_mul]; omega
 have hle := Nat.mul_le_mul_right sz G.gl.1
 have h2 := G.gl.2.2
 refine ⟨fun i u hu => ?_, by omega⟩
 have hi : i < sz := by
  have := (Array.getElem?_eq_some_iff.1 hu).1; omega
 have e1 : (ec.toList.take ((k + 1) * sz))[k * sz + i]? = some u := by
  rw [h1, List.getElem?_append_right (by omega), hcl, show k * sz + i - k * sz = i by omega, Array.getElem?_toList]
  exact hu
 rw [List.getElem?_take_of_lt (by omega), Array.getElem?_toList] at e1
 exact e1
theorem Grown.next {va : Option Addr} {vc : Nat} {WA WB W7 w4 : World} {n0 n1 g gc : Nat} {ec ez : Array Value} {cl l : List Value} {x : α} (G : Grown D t e sz Z w w3 R a cap s b cs ty o k xs va vc WA WB W7 n0 n1 g gc ec cl) (hD : Stb T D) (hT : ¬ T 256) (hTe : ¬ T e) (hl : xs.length = k) (hRw : R < w.heap.size) (hbw : b < w.heap.size) (hb' : s'.bs = s.bs) (hZ : Z.size = sz)
  (q : RX (W7.setCell ⟨b, o, none⟩ (.slice (some ⟨g, 0, none⟩) (k + 1) gc)) w4 R a cap s' g ez e) (hf : Filled ec ez (k * sz) sz l) (hll : l.length = sz) (hx : D w4 l x) :
  LR D e sz w w4 R a cap s' b cs ty o (k + 1) (xs ++ [x]) := by
 have hg := G.fr
 have hcl : cl.length = k * sz := by rw [G.th.len, hl]
 have r := G.rx
 refine ⟨by simp [hl], some ⟨g, 0, none⟩, gc, cl ++ l, ⟨⟨q.1.rs, q.2.heap r.1.bl (fun e => ?_), r.1.ne, by rw [hb']; exact r.1.ab⟩, Chg.trans r.2 q.2 (fun i hi e => by rcases e with e | e <;> omega)⟩, own_filled hcl q.1.bl G.gl.1 G.gl.2.1 G.gl.2.2 G.tk (by simp [hZ]) hf hll, fun j hj => ?_, ?_⟩
 ·rcases e with e | e
  ·exact r.1.ne e.symm
  ·omega
 ·simp only [Value.ownBlock, Option.some.injEq] at hj
  omega
 ·refine (G.th.chg hD q.2 (fun i hi hs => ?_)).snoc hll hx
  rcases hs with hs | hs
  ·subst hs; exact Ty.of r.1.rs.box hT
  ·subst hs; exact Ty.of G.r1.bl hTe
end
end Go.Proofs.YtkggkkoblpdopaaGreat
