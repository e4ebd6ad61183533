import Derived.Test.YtknlpjcdemijgaaGreatRb
namespace Go.Proofs.YtknlpjcdemijgaaGreat
open Go.ChangeShapes Go.WideShapes Go.ChangeAt Go.RowKit
set_option linter.unusedVariables false
structure TL (t e sz by_ : Nat) : Prop where
 un : Tryz.prog.underlying t = some (.slice e)
 ex : ∃ i z, Tryz.prog.info? e = some i ∧ i.zero = some z ∧ i.size = sz ∧ i.bytes = by_ ∧ z.cells.size = sz
 pos : 0 < sz
 bpos : by_ ≤ 1000
section
variable {t e sz by_ : Nat} (T : TL t e sz by_)
include T
theorem TL.app (w : World) (v : Value) (n : Nat) (cs : List Value) (ho : w.ownsRow 0 e sz v n cs) (a : Option Addr) (m cap : Nat) (ds : List Value) (hl : ds.length = m * sz) (hs : m = 0 ∨ ∃ b o, a = some ⟨b, o, none⟩ ∧ ∀ j u, ds[j]? = some u → w.cell? ⟨b, o + j, none⟩ = some u) (h1 : ∀ u ∈ ds, u.oneCell' = true) (hb : (n + m) * by_ ≤ 140737488355328) (hm : n + m ≤ 140737488355328) (ty : TypeId) :
  ∃ v' w', (Builtin.append_ #[t, t] ty #[v, .slice a m cap]).run Tryz.prog w = .ok v' w' ∧ w'.ownsRow 0 e sz v' (n + m) (cs ++ ds) ∧ Chg w w' (fun i => v.ownBlock = some i) ∧ (v'.ownBlock = v.ownBlock ∨ ∃ k, v'.ownBlock = some k ∧ w.heap.size ≤ k) := by
 obtain ⟨i0, z, hi, hz, hsz, hby, hzc⟩ := T.ex
 obtain ⟨v', w', hr, ho', hg, hL⟩ := run_app (P := Tryz.prog) w t ty e i0 z sz by_ T.un hi hz hsz hby hzc T.pos v n cs ho a m cap ds hl hs h1 (by simp [maxLen]; omega) hb
 exact ⟨v', w', hr, ho', Chg.grown (Chg.refl w _) hg (fun k hk => .inl hk), hL⟩
theorem TL.one (w : World) (v : Value) (n : Nat) (cs : List Value) (ho : w.ownsRow 0 e sz v n cs) (X : List Value) (hX : X.length = sz) (h1 : ∀ u ∈ X, u.oneCell' = true) (hb : (n + 1) * by_ ≤ 140737488355328) (hm : n + 1 ≤ 140737488355328) (ty : TypeId) :
  ∃ v' w', (Builtin.append_ #[t, t] ty #[v, .slice (some ⟨w.heap.size, 0, none⟩) 1 1]).run Tryz.prog (w.alloc (.cells X.toArray e)) = .ok v' w' ∧ w'.ownsRow 0 e sz v' (n + 1) (cs ++ X) ∧ Chg w w' (fun i => v.ownBlock = some i) ∧ (v'.ownBlock = v.ownBlock ∨ ∃ k, v'.ownBlock = some k ∧ w.heap.size ≤ k) := by
 have ha : (w.alloc (.cells X.toArray e)).ownsRow 0 e sz v n cs := Chg.owns ((Chg.refl w (fun _ => False)).alloc _) ho (fun _ _ h => h)
 obtain ⟨v', w', hr, ho', hg, hL⟩ := TL.app T (w.alloc (.cells X.toArray e)) v n cs ha (some ⟨w.heap.size, 0, none⟩) 1 1 X (by omega) (.inr ⟨_, _, rfl, fun j u hu => by
  rw [(cells_at (heap_alloc_new w _) _).1, Nat.zero_add]
  simpa using hu⟩) h1 hb hm ty
 refine ⟨v', w', hr, ho', Chg.trans (Chg.alloc (Chg.refl w _) _) hg (fun _ _ h => h), ?_⟩
 rcases hL with e' | ⟨k, e', hk⟩
 ·exact .inl e'
 ·exact .inr ⟨k, e', by simp at hk; omega⟩
theorem TL.all (w : World) (a : Option Addr) (m cap : Nat) (ds : List Value) (hl : ds.length = m * sz) (hs : m = 0 ∨ ∃ b o, a = some ⟨b, o, none⟩ ∧ ∀ j u, ds[j]? = some u → w.cell? ⟨b, o + j, none⟩ = some u) (h1 : ∀ u ∈ ds, u.oneCell' = true) (hb : m * by_ ≤ 140737488355328) (hm : m ≤ 140737488355328) (ty : TypeId) :
  ∃ v' w', (Builtin.append_ #[t, t] ty #[.slice none 0 0, .slice a m cap]).run Tryz.prog w = .ok v' w' ∧ w'.ownsRow 0 e sz v' m ds ∧ Kp w w' ∧ Nw w v' := by
 obtain ⟨v', w', hr, ho', hg, hL⟩ := TL.app T w (.slice none 0 0) 0 [] (World.ownsRow_nil w 0 e sz) a m cap ds hl hs h1 (by rw [Nat.zero_add]; exact hb) (by omega) ty
 rw [Nat.zero_add, List.nil_append] at ho'
 refine ⟨v', w', hr, ho', hg.mono (fun i _ e => by simp [Value.ownBlock] at e), fun k hk => ?_⟩
 rcases hL with e' | ⟨k', e', h2⟩
 ·rw [e'] at hk; simp [Value.ownBlock] at hk
 ·rw [e'] at hk; cases hk; exact h2
end
theorem tl87 : TL 87 101 4 24 := by
 have hz : (Tryz.prog.info? 101).map (fun i => (i.zero, i.size, i.bytes)) = some (some (.agg #[.int .u32 0, .int .u32 0, .int .i64 0, .int .u8 0]), 4, 24) := by kernel_rfl
 refine ⟨Tryz.underlying87, ?_, by omega, by omega⟩
 cases hq : Tryz.prog.info? 101 with
 | none => rw [hq] at hz; cases hz
 | some i =>
  rw [hq] at hz
  have hz2 : i.zero = some (.agg #[.int .u32 0, .int .u32 0, .int .i64 0, .int .u8 0]) ∧ i.size = 4 ∧ i.bytes = 24 := by simpa using hz
  exact ⟨i, _, rfl, hz2.1, hz2.2.1, hz2.2.2, rfl⟩
theorem tl52 : TL 52 3 1 8 := by
 have hz : (Tryz.prog.info? 3).map (fun i => (i.zero, i.size, i.bytes)) = some (some (.int .i64 0), 1, 8) := by kernel_rfl
 refine ⟨Tryz.underlying52, ?_, by omega, by omega⟩
 cases hq : Tryz.prog.info? 3 with
 | none => rw [hq] at hz; cases hz
 | some i =>
  rw [hq] at hz
  have hz2 : i.zero = some (.int .i64 0) ∧ i.size = 1 ∧ i.bytes = 8 := by simpa using hz
  exact ⟨i, _, rfl, hz2.1, hz2.2.1, hz2.2.2, rfl⟩
theorem tl26 : TL 26 89 4 72 := by
 have hz : (Tryz.prog.info? 89).map (fun i => (i.zero, i.size, i.bytes)) = some (some (.agg #[.string ⟨#[]⟩, .int .u32 0, .slice none 0 0, .slice none 0 0]), 4, 72) := by kernel_rfl
 refine ⟨Tryz.underlying26, ?_, by omega, by omega⟩
 cases hq : Tryz.prog.info? 89 with
 | none => rw [hq] at hz; cases hz
 | some i =>
  rw [hq] at hz
  have hz2 : i.zero = some (.agg #[.string ⟨#[]⟩, .int .u32 0, .slice none 0 0, .slice none 0 0]) ∧ i.size = 4 ∧ i.bytes = 72 := by simpa using hz
  exact ⟨i, _, rfl, hz2.1, hz2.2.1, hz2.2.2, rfl⟩
theorem tl27 : TL 27 65 3 24 := by
 have hz : (Tryz.prog.info? 65).map (fun i => (i.zero, i.size, i.bytes)) = some (some (.agg #[.int .i64 0, .int .u64 0, .int .u64 0]), 3, 24) := by kernel_rfl
 refine ⟨Tryz.underlying27, ?_, by omega, by omega⟩
 cases hq : Tryz.prog.info? 65 with
 | none => rw [hq] at hz; cases hz
 | some i =>
  rw [hq] at hz
  have hz2 : i.zero = some (.agg #[.int .i64 0, .int .u64 0, .int .u64 0]) ∧ i.size = 3 ∧ i.bytes = 24 := by simpa using hz
  exact ⟨i, _, rfl, hz2.1, hz2.2.1, hz2.2.2, rfl⟩
theorem tl28 : TL 28 94 3 40 := by
 have hz : (Tryz.prog.info? 94).map (fun i => (i.zero, i.size, i.bytes)) = some (some (.agg #[.int .i64 0, .int .i64 0, .slice none 0 0]), 3, 40) := by kernel_rfl
 refine ⟨Tryz.underlying28, ?_, by omega, by omega⟩
 cases hq : Tryz.prog.info? 94 with
 | none => rw [hq] at hz; cases hz
 | some i =>
  rw [hq] at hz
  have hz2 : i.zero = some (.agg #[.int .i64 0, .int .i64 0, .slice none 0 0]) ∧ i.size = 3 ∧ i.bytes = 40 := by simpa using hz
  exact ⟨i, _, rfl, hz2.1, hz2.2.1, hz2.2.2, rfl⟩
theorem tl29 : TL 29 98 6 48 := by
 have hz : (Tryz.prog.info? 98).map (fun i => (i.zero, i.size, i.bytes)) = some (some (.agg #[.int .i64 0, .int .i64 0, .int .i64 0, .int .i64 0, .int .i64 0, .bool false]), 6, 48) := by kernel_rfl
 refine ⟨Tryz.underlying29, ?_, by omega, by omega⟩
 cases hq : Tryz.prog.info? 98 with
 | none => rw [hq] at hz; cases hz
 | some i =>
  rw [hq] at hz
  have hz2 : i.zero = some (.agg #[.int .i64 0, .int .i64 0, .int .i64 0, .int .i64 0, .int .i64 0, .bool false]) ∧ i.size = 6 ∧ i.bytes = 48 := by simpa using hz
  exact ⟨i, _, rfl, hz2.1, hz2.2.1, hz2.2.2, rfl⟩
end Go.Proofs.YtknlpjcdemijgaaGreat
namespace Go.Proofs.YtknlpjcdemijgaaGreat
open Go.ChangeShapes Go.WideShapes Go.ChangeAt Go.RowKit
set_option linter.unusedVariables false
structure OL (lo e sz : Nat) (w : World) (a : Option Addr) (n c : Nat) (cs : List Value) : Prop where
 ow : w.ownsRow 0 e sz (.slice a n c) n cs
 nw : ∀ k, Value.ownBlock (.slice a n c) = some k → lo ≤ k
theorem OL.chg {lo e sz : Nat} {w w' : World} {a : Option Addr} {n c : Nat} {cs : List Value} {S : Nat → Prop} (h : OL lo e sz w a n c cs) (hc : Chg w w' S) (hS : ∀ k, lo ≤ k → S k → ∀ cur, w.heap[k]? ≠ some (.cells cur e (0, 0))) : OL lo e sz w' a n c cs :=
 ⟨hc.owns h.ow (fun k hk hs => by
  obtain ⟨cur, hcur⟩ := own_tp h.ow hk
  exact hS k (h.nw k hk) hs cur hcur), h.nw⟩
theorem OL.kp {lo e sz : Nat} {w w' : World} {a : Option Addr} {n c : Nat} {cs : List Value} (h : OL lo e sz w a n c cs) (k : Kp w w') : OL lo e sz w' a n c cs := h.chg k (fun _ _ e => e.elim)
theorem OL.rd {lo e sz : Nat} {w : World} {a : Option Addr} {n c : Nat} {cs : List Value} (h : OL lo e sz w a n c cs) : n = 0 ∨ ∃ g, a = some ⟨g, 0, none⟩ ∧ g < w.heap.size ∧ ∀ j u, cs[j]? = some u → w.cell? ⟨g, 0 + j, none⟩ = some u := by
 rcases h.ow.2 with ⟨_, h2⟩ | ⟨g, cap, cur, h1, h2, h3, h4, h5, h6, h7⟩
 ·exact .inl h2
 ·simp only [Value.slice.injEq] at h1
  refine .inr ⟨g, h1.1, hp_lt h3, fun j u hu => ?_⟩
  rw [Nat.zero_add, (cells_at h3 j).1, ← Array.getElem?_toList]
  rw [← h7] at hu
  have hj := (List.getElem?_eq_some_iff.1 hu).1
  rw [List.getElem?_take] at hu
  split at hu
  ·exact hu
  ·cases hu
theorem flat_at {α : Type} {f : α → List Value} {sz : Nat} (hf : ∀ x, (f x).length = sz) : ∀ (xs : List α) (i : Nat) (h : i < xs.length) (j : Nat) (u : Value), (f xs[i])[j]? = some u → (xs.flatMap f)[i * sz + j]? = some u
 | x :: r, 0, _, j, u, hu => by
  simp only [List.getElem_cons_zero] at hu
  rw [List.flatMap_cons, Nat.zero_mul, Nat.zero_add, List.getElem?_append_left (List.getElem?_eq_some_iff.1 hu).1]
  exact hu
 | x :: r, i + 1, h, j, u, hu => by
  simp only [List.getElem_cons_succ] at hu
  rw [List.flatMap_cons, List.getElem?_append_right (by rw [hf, Nat.succ_mul]; omega), hf, show (i + 1) * sz + j - sz = i * sz + j by rw [Nat.succ_mul]; omega]
  exact flat_at hf r i (by simpa using h) j u hu
theorem flat_len {α : Type} {f : α → List Value} {sz : Nat} (hf : ∀ x, (f x).length = sz) : ∀ xs : List α, (xs.flatMap f).length = xs.length * sz
 | [] => by simp
 | x :: r => by rw [List.flatMap_cons, List.length_append, hf, flat_len hf r, List.length_cons, Nat.succ_mul]; omega
theorem RdL.src {α : Type} {w : World} {N sz : Nat} {P : World → Nat → Nat → α → Prop} {la : Option Addr} {xs : List α} {f : α → List Value} (hf : ∀ x, (f x).length = sz) (hp : 0 < sz) (h : RdL w N sz P la xs) (hP : ∀ b o y, P w b o y → At w b o (f y)) : xs.length = 0 ∨ ∃ b o, la = some ⟨b, o, none⟩ ∧ ∀ j u, (xs.flatMap f)[j]? = some u → w.cell? ⟨b, o + j, none⟩ = some u := by
 rcases h.2 with e | ⟨b, o, e, _, hc⟩
 ·exact .inl e
 ·refine .inr ⟨b, o, e, fun j u hu => ?_⟩
  have hj : j < xs.length * sz := by rw [← flat_len hf]; exact (List.getElem?_eq_some_iff.1 hu).1
  have hd : j / sz < xs.length := Nat.div_lt_of_lt_mul (by rw [Nat.mul_comm]; exact hj)
  have hm : j % sz < sz := Nat.mod_lt _ hp
  have hjj : j / sz * sz + j % sz = j := by rw [Nat.mul_comm]; exact Nat.div_add_mod j sz
  have hlt : j % sz < (f xs[j / sz]).length := by rw [hf]; exact hm
  have h1 := flat_at hf xs (j / sz) hd (j % sz) _ (List.getElem?_eq_getElem hlt)
  rw [hjj, hu] at h1
  have h2 := hP _ _ _ (hc (j / sz) hd) (j % sz) _ (List.getElem?_eq_getElem hlt)
  rw [Nat.add_assoc, hjj, ← Option.some.inj h1] at h2
  exact h2
theorem OL.toRdL {α : Type} {lo e sz : Nat} {w : World} {a : Option Addr} {c N : Nat} {xs : List α} {f : α → List Value} {P : World → Nat → Nat → α → Prop} (hf : ∀ x, (f x).length = sz) (h : OL lo e sz w a xs.length c (xs.flatMap f)) (hl : xs.length ≤ 140737488355328) (hN : w.heap.size ≤ N) (hP : ∀ i (hi : i < xs.length) b o, At w b o (f xs[i]) → P w b o xs[i]) : RdL w N sz P a xs := by
 refine ⟨hl, ?_⟩
 rcases h.rd with e0 | ⟨g, ha, hg, hc⟩
 ·exact .inl e0
 ·exact .inr ⟨g, 0, ha, by omega, fun i hi => hP i hi _ _ fun j u hu => by rw [Nat.add_assoc]; exact hc _ _ (flat_at hf xs i hi j u hu)⟩
end Go.Proofs.YtknlpjcdemijgaaGreat
namespace Go.Proofs.YtknlpjcdemijgaaGreat
open Go.ChangeShapes Go.WideShapes Go.ChangeAt Go.RowKit
set_option linter.unusedVariables false
theorem own_sl {w : World} {e sz n : Nat} {v : Value} {cs : List Value} (h : w.ownsRow 0 e sz v n cs) : ∃ a c, v = .slice a n c := by
 rcases h.2 with ⟨h1, h2⟩ | ⟨g, cap, cur, h1, _⟩
 ·exact ⟨none, 0, by rw [h1, h2]⟩
 ·exact ⟨_, _, h1⟩
def nuC (n : Int) : List Value := [.int .i64 n]
structure CeO where
 c : Ce
 ra : Option Addr
 rc : Nat
 la : Option Addr
 lc : Nat
def CeO.cells (x : CeO) : List Value := [.string x.c.nm, .int .u32 x.c.e, .slice x.ra x.c.rs.length x.rc, .slice x.la x.c.ls.length x.lc]
structure SaO where
 s : Sa
 la : Option Addr
 lc : Nat
def SaO.cells (x : SaO) : List Value := [.int .i64 x.s.w, .int .i64 x.s.s, .slice x.la x.s.rs.length x.lc]
structure Ce.fine (c : Ce) : Prop where
 e : 0 ≤ c.e ∧ c.e < 4294967296
 nm : c.nm.size ≤ 140737488355328
 rs : ∀ r ∈ c.rs, r.ok
 ls : ∀ n ∈ c.ls, i64ok n
 rl : c.rs.length * 24 ≤ 140737488351232
 ll : c.ls.length * 8 ≤ 140737488351232
structure Sa.fine (y : Sa) : Prop where
 w : i64ok y.w
 s : i64ok y.s
 rs : ∀ n ∈ y.rs, i64ok n
 rl : y.rs.length * 8 ≤ 140737488351232
structure Cf.fine (g : Cf) : Prop where
 m : g.m.ok
 cs : ∀ c ∈ g.cs, c.fine
 ws : ∀ c ∈ g.ws, c.ok
 ss : ∀ c ∈ g.ss, c.fine
 qs : ∀ c ∈ g.qs, c.ok
 cl : g.cs.length * 72 ≤ 140737488351232
 wl : g.ws.length * 24 ≤ 140737488351232
 sl : g.ss.length * 40 ≤ 140737488351232
 ql : g.qs.length * 48 ≤ 140737488351232
structure CeO.ow (lo : Nat) (w : World) (x : CeO) : Prop where
 r : OL lo 101 4 w x.ra x.c.rs.length x.rc (x.c.rs.flatMap Rg.cells)
 l : OL lo 3 1 w x.la x.c.ls.length x.lc (x.c.ls.flatMap nuC)
structure SaO.ow (lo : Nat) (w : World) (x : SaO) : Prop where
 l : OL lo 3 1 w x.la x.s.rs.length x.lc (x.s.rs.flatMap nuC)
theorem CeO.ow.chg {lo : Nat} {w w' : World} {x : CeO} {S : Nat → Prop} (h : x.ow lo w) (hc : Chg w w' S) (hS : ∀ k, lo ≤ k → S k → ∀ cur, w.heap[k]? ≠ some (.cells cur 101 (0, 0)) ∧ w.heap[k]? ≠ some (.cells cur 3 (0, 0))) : x.ow lo w' :=
 ⟨h.r.chg hc (fun k h1 h2 cur => (hS k h1 h2 cur).1), h.l.chg hc (fun k h1 h2 cur => (hS k h1 h2 cur).2)⟩
theorem SaO.ow.chg {lo : Nat} {w w' : World} {x : SaO} {S : Nat → Prop} (h : x.ow lo w) (hc : Chg w w' S) (hS : ∀ k, lo ≤ k → S k → ∀ cur, w.heap[k]? ≠ some (.cells cur 3 (0, 0))) : x.ow lo w' := ⟨h.l.chg hc hS⟩
theorem OL.nums {lo : Nat} {w : World} {a : Option Addr} {c N : Nat} {xs : List Int} (h : OL lo 3 1 w a xs.length c (xs.flatMap nuC)) (hl : xs.length ≤ 140737488355328) (hN : w.heap.size ≤ N) (hk : ∀ n ∈ xs, i64ok n) : RdI w N a xs := by
 refine ⟨hk, hl, ?_⟩
 rcases h.rd with e0 | ⟨g, ha, hg, hc⟩
 ·exact .inl e0
 ·refine .inr ⟨g, 0, ha, by omega, fun i hi => ?_⟩
  have := hc (i * 1 + 0) _ (flat_at (sz := 1) (f := nuC) (fun _ => rfl) xs i hi 0 _ rfl)
  simpa using this
structure OwnCf (lo : Nat) (w : World) (g : Cf) (ca wa sa qa : Option Addr) (cc wc sc qc : Nat) : Prop where
 f : g.fine
 cs : ∃ L : List CeO, L.map CeO.c = g.cs ∧ OL lo 89 4 w ca L.length cc (L.flatMap CeO.cells) ∧ ∀ x ∈ L, x.ow lo w
 ws : OL lo 65 3 w wa g.ws.length wc (g.ws.flatMap Wi.cells)
 ss : ∃ L : List SaO, L.map SaO.s = g.ss ∧ OL lo 94 3 w sa L.length sc (L.flatMap SaO.cells) ∧ ∀ x ∈ L, x.ow lo w
 qs : OL lo 98 6 w qa g.qs.length qc (g.qs.flatMap Qu.cells)
theorem OwnCf.old {lo : Nat} {w w' : World} {g : Cf} {ca wa sa qa : Option Addr} {cc wc sc qc : Nat} {S : Nat → Prop} (h : OwnCf lo w g ca wa sa qa cc wc sc qc) (hc : Chg w w' S) (hS : ∀ k, lo ≤ k → ¬ S k) : OwnCf lo w' g ca wa sa qa cc wc sc qc := by
 obtain ⟨L, h1, h2, h3⟩ := h.cs
 obtain ⟨M, m1, m2, m3⟩ := h.ss
 exact ⟨h.f, ⟨L, h1, h2.chg hc (fun k a b => absurd b (hS k a)), fun x hx => (h3 x hx).chg hc (fun k a b => absurd b (hS k a))⟩, h.ws.chg hc (fun k a b => absurd b (hS k a)), ⟨M, m1, m2.chg hc (fun k a b => absurd b (hS k a)), fun x hx => (m3 x hx).chg hc (fun k a b => absurd b (hS k a))⟩, h.qs.chg hc (fun k a b => absurd b (hS k a))⟩
theorem OwnCf.isCf {lo : Nat} {w : World} {g : Cf} {ca wa sa qa : Option Addr} {cc wc sc qc : Nat} (h : OwnCf lo w g ca wa sa qa cc wc sc qc) : IsCf w (cfV g ca wa sa qa cc wc sc qc) g := by
 have hf := h.f
 obtain ⟨L, h1, h2, h3⟩ := h.cs
 obtain ⟨M, m1, m2, m3⟩ := h.ss
 refine ⟨hf.m, ca, cc, wa, wc, sa, sc, qa, qc, rfl, ?_, ?_, ?_, ?_⟩
 ·have hL : L.length = g.cs.length := by rw [← h1, List.length_map]
  refine ⟨by have := hf.cl; omega, ?_⟩
  rcases h2.rd with e0 | ⟨b, ha, hb, hc⟩
  ·exact .inl (by omega)
  ·refine .inr ⟨b, 0, ha, hb, fun i hi => ?_⟩
   have hiL : i < L.length := by omega
   have hx : (L[i]).c = g.cs[i] := by simp [← h1]
   have hfc := hf.cs _ (List.getElem_mem hi)
   have hw := h3 _ (List.getElem_mem hiL)
   rw [← hx] at hfc ⊢
   refine ⟨hfc.e, hfc.nm, L[i].ra, L[i].rc, L[i].la, L[i].lc, fun j u hu => ?_, ?_, ?_⟩
   ·rw [Nat.add_assoc]
    exact hc _ _ (flat_at (f := CeO.cells) (fun _ => rfl) L i hiL j u hu)
   ·exact OL.toRdL (f := Rg.cells) (fun _ => rfl) hw.r (by have := hfc.rl; omega) (Nat.le_refl _) (fun i hi b o ha => ⟨ha, hfc.rs _ (List.getElem_mem hi)⟩)
   ·exact OL.nums hw.l (by have := hfc.ll; omega) (Nat.le_refl _) hfc.ls
 ·exact OL.toRdL (f := Wi.cells) (fun _ => rfl) h.ws (by have := hf.wl; omega) (Nat.le_refl _) (fun i hi b o ha => ⟨ha, hf.ws _ (List.getElem_mem hi)⟩)
 ·have hL : M.length = g.ss.length := by rw [← m1, List.length_map]
  refine ⟨by have := hf.sl; omega, ?_⟩
  rcases m2.rd with e0 | ⟨b, ha, hb, hc⟩
  ·exact .inl (by omega)
  ·refine .inr ⟨b, 0, ha, hb, fun i hi => ?_⟩
   have hiL : i < M.length := by omega
   have hx : (M[i]).s = g.ss[i] := by simp [← m1]
   have hfc := hf.ss _ (List.getElem_mem hi)
   have hw := m3 _ (List.getElem_mem hiL)
   rw [← hx] at hfc ⊢
   refine ⟨hfc.w, hfc.s, M[i].la, M[i].lc, fun j u hu => ?_, ?_⟩
   ·rw [Nat.add_assoc]
    exact hc _ _ (flat_at (f := SaO.cells) (fun _ => rfl) M i hiL j u hu)
   ·exact OL.nums hw.l (by have := hfc.rl; omega) (Nat.le_refl _) hfc.rs
 ·exact OL.toRdL (f := Qu.cells) (fun _ => rfl) h.qs (by have := hf.ql; omega) (Nat.le_refl _) (fun i hi b o ha => ⟨ha, hf.qs _ (List.getElem_mem hi)⟩)
end Go.Proofs.YtknlpjcdemijgaaGreat
namespace Go.Proofs.YtknlpjcdemijgaaGreat
open Go.ChangeShapes Go.WideShapes Go.ChangeAt Go.RowKit
set_option linter.unusedVariables false
abbrev zC' : Array Value := #[.int .i64 0, .int .u32 0, .int .i64 0, .int .i64 0, .int .i64 0, .int .i64 0, .int .i64 0, .int .u64 0, .slice none 0 0, .slice none 0 0, .slice none 0 0, .slice none 0 0]
structure CI (w wr : World) (U V : Array Value) (xs : List Ce) (a : Option Addr) (i c : Nat) : Prop where
 kp : Kp w wr
 tw : Two wr w.heap.size U V
 L : ∃ L : List CeO, L.map CeO.c = xs.take i ∧ OL w.heap.size 89 4 wr a i c (L.flatMap CeO.cells) ∧ ∀ x ∈ L, x.ow w.heap.size wr
theorem nu_len (n : Int) : (nuC n).length = 1 := rfl
theorem RdI.src {w : World} {N : Nat} {la : Option Addr} {xs : List Int} (h : RdI w N la xs) : xs.length = 0 ∨ ∃ b o, la = some ⟨b, o, none⟩ ∧ ∀ j u, (xs.flatMap nuC)[j]? = some u → w.cell? ⟨b, o + j, none⟩ = some u := by
 rcases h.2.2 with e | ⟨b, o, e, _, hc⟩
 ·exact .inl e
 ·refine .inr ⟨b, o, e, fun j u hu => ?_⟩
  have hj : j < xs.length := by
   have := (List.getElem?_eq_some_iff.1 hu).1
   rw [flat_len (sz := 1) nu_len] at this; omega
  have h1 := flat_at (sz := 1) (f := nuC) nu_len xs j hj 0 _ rfl
  rw [Nat.mul_one, Nat.add_zero, hu] at h1
  rw [Option.some.inj h1]
  exact hc j hj
theorem one_flat {α : Type} {f : α → List Value} (hf : ∀ x, ∀ u ∈ f x, u.oneCell' = true) (xs : List α) : ∀ u ∈ xs.flatMap f, u.oneCell' = true := fun u hu => by
 obtain ⟨x, _, hx⟩ := List.mem_flatMap.1 hu
 exact hf x u hx
theorem one_nu (n : Int) : ∀ u ∈ nuC n, u.oneCell' = true := by intro u hu; simp [nuC] at hu; rw [hu]; rfl
theorem one_wi (r : Wi) : ∀ u ∈ r.cells, u.oneCell' = true := by
 intro u hu; simp [Wi.cells] at hu
 rcases hu with h | h | h <;> rw [h] <;> rfl
theorem one_qu (r : Qu) : ∀ u ∈ r.cells, u.oneCell' = true := by
 intro u hu; simp [Qu.cells] at hu
 rcases hu with h | h | h | h | h | h <;> rw [h] <;> rfl
theorem one_rg (r : Rg) : ∀ u ∈ r.cells, u.oneCell' = true := by
 intro u hu; simp [Rg.cells] at hu
 rcases hu with h | h | h | h <;> rw [h] <;> rfl
theorem src_kp {w w' : World} {la : Option Addr} {n : Nat} {cs : List Value} (h : n = 0 ∨ ∃ b o, la = some ⟨b, o, none⟩ ∧ ∀ j u, cs[j]? = some u → w.cell? ⟨b, o + j, none⟩ = some u) (k : Kp w w') : n = 0 ∨ ∃ b o, la = some ⟨b, o, none⟩ ∧ ∀ j u, cs[j]? = some u → w'.cell? ⟨b, o + j, none⟩ = some u := by
 rcases h with e | ⟨b, o, e, hc⟩
 ·exact .inl e
 ·exact .inr ⟨b, o, e, fun j u hu => k.cell (hc j u hu)⟩
theorem ce_round {w wr : World} {U V : Array Value} {xs : List Ce} {a : Option Addr} {i c : Nat} (h : CI w wr U V xs a i c) (x : Ce) (hx : x.fine) (hn : xs.take (i + 1) = xs.take i ++ [x]) (hb : (i + 1) * 72 ≤ 140737488355328) {N rc lc : Nat} {ra la : Option Addr} (rx : RdL wr N 4 RgAt ra x.rs) (ix : RdI wr N la x.ls) :
  ∃ a1 c1 W2, (Builtin.append_ #[87, 87] 87 #[.slice none 0 0, .slice ra x.rs.length rc]).run Tryz.prog (wr.alloc (.cells #[.string x.nm, .int .u32 x.e, .slice ra x.rs.length rc, .slice la x.ls.length lc] 89)) = .ok (.slice a1 x.rs.length c1) W2 ∧
  W2.heap[wr.heap.size]? = some (.cells #[.string x.nm, .int .u32 x.e, .slice ra x.rs.length rc, .slice la x.ls.length lc] 89 (0, 0)) ∧
  ∃ a2 c2 W4, (Builtin.append_ #[52, 52] 52 #[.slice none 0 0, .slice la x.ls.length lc]).run Tryz.prog (W2.setCell ⟨wr.heap.size, 2, none⟩ (.slice a1 x.rs.length c1)) = .ok (.slice a2 x.ls.length c2) W4 ∧
  W4.heap[wr.heap.size]? = some (.cells #[.string x.nm, .int .u32 x.e, .slice a1 x.rs.length c1, .slice la x.ls.length lc] 89 (0, 0)) ∧
  ∃ a3 c3 W6, (Builtin.append_ #[26, 26] 26 #[.slice a i c, .slice (some ⟨W4.heap.size, 0, none⟩) 1 1]).run Tryz.prog ((W4.setCell ⟨wr.heap.size, 3, none⟩ (.slice a2 x.ls.length c2)).alloc (.cells #[.string x.nm, .int .u32 x.e, .slice a1 x.rs.length c1, .slice a2 x.ls.length c2] 89)) = .ok (.slice a3 (i + 1) c3) W6 ∧ CI w W6 U V xs a3 (i + 1) c3 := by
 obtain ⟨kp, tw, L, hL, ho, hw⟩ := h
 have hB : w.heap.size + 1 < wr.heap.size := hp_lt tw.2
 have k1 := Kp.al wr (.cells #[.string x.nm, .int .u32 x.e, .slice ra x.rs.length rc, .slice la x.ls.length lc] 89)
 have hb1 := heap_alloc_new wr (.cells #[.string x.nm, .int .u32 x.e, .slice ra x.rs.length rc, .slice la x.ls.length lc] 89)
 have hs1 : (wr.alloc (.cells #[.string x.nm, .int .u32 x.e, .slice ra x.rs.length rc, .slice la x.ls.length lc] 89)).heap.size = wr.heap.size + 1 := by simp
 generalize (wr.alloc (.cells #[.string x.nm, .int .u32 x.e, .slice ra x.rs.length rc, .slice la x.ls.length lc] 89)) = W1 at *
 obtain ⟨v1, W2, r1, o1, k2, n1⟩ := tl87.all W1 ra x.rs.length rc (x.rs.flatMap Rg.cells) (flat_len (sz := 4) (f := Rg.cells) (fun _ => rfl) _) (src_kp (RdL.src (sz := 4) (f := Rg.cells) (fun _ => rfl) (by omega) rx (fun _ _ _ p => p.1)) k1) (one_flat one_rg _) (by have := hx.rl; omega) (by have := hx.rl; omega) 87
 obtain ⟨a1, c1, rfl⟩ := own_sl o1
 have hb2 := k2.heap hb1
 have hs2 := k2.size
 refine ⟨a1, c1, W2, r1, hb2, ?_⟩
 have g3 : Chg wr (W2.setCell ⟨wr.heap.size, 2, none⟩ (.slice a1 x.rs.length c1)) (fun _ => False) := Chg.setCell (k1.trans k2) (.inr (Nat.le_refl _)) _
 have d3 : Chg W2 (W2.setCell ⟨wr.heap.size, 2, none⟩ (.slice a1 x.rs.length c1)) (fun k => k = wr.heap.size) := Chg.setCell (Chg.refl _ (fun k => k = wr.heap.size)) (.inl rfl) _
 have hb3 := heap_setCell_same W2 wr.heap.size 2 _ _ (.slice a1 x.rs.length c1) hb2
 have o1' := d3.owns o1 (fun k hk e => by have := n1 k hk; omega)
 have hs3 : (W2.setCell ⟨wr.heap.size, 2, none⟩ (.slice a1 x.rs.length c1)).heap.size = W2.heap.size := by simp
 generalize (W2.setCell ⟨wr.heap.size, 2, none⟩ (.slice a1 x.rs.length c1)) = W3 at *
 obtain ⟨v2, W4, r2, o2, k4, n2⟩ := tl52.all W3 la x.ls.length lc (x.ls.flatMap nuC) (flat_len (sz := 1) (f := nuC) nu_len _) (src_kp ix.src g3) (one_flat one_nu _) (by have := hx.ll; omega) (by have := hx.ll; omega) 52
 obtain ⟨a2, c2, rfl⟩ := own_sl o2
 have hb4 := k4.heap hb3
 have hs4 := k4.size
 refine ⟨a2, c2, W4, r2, hb4, ?_⟩
 have g5 : Chg wr (W4.setCell ⟨wr.heap.size, 3, none⟩ (.slice a2 x.ls.length c2)) (fun _ => False) := Chg.setCell (Kp.trans g3 k4) (.inr (Nat.le_refl _)) _
 have d5 : Chg W4 (W4.setCell ⟨wr.heap.size, 3, none⟩ (.slice a2 x.ls.length c2)) (fun k => k = wr.heap.size) := Chg.setCell (Chg.refl _ (fun k => k = wr.heap.size)) (.inl rfl) _
 have o1b := d5.owns (Chg.owns k4 o1' (fun _ _ e => e)) (fun k hk e => by have := n1 k hk; omega)
 have o2b := d5.owns o2 (fun k hk e => by have := n2 k hk; omega)
 have hs5 : (W4.setCell ⟨wr.heap.size, 3, none⟩ (.slice a2 x.ls.length c2)).heap.size = W4.heap.size := by simp
 rw [← hs5]
 generalize (W4.setCell ⟨wr.heap.size, 3, none⟩ (.slice a2 x.ls.length c2)) = W5 at *
 obtain ⟨v3, W6, r3, o3, g6, n3⟩ := tl26.one W5 (.slice a i c) i (L.flatMap CeO.cells) (Chg.owns g5 ho.ow (fun _ _ e => e)) [.string x.nm, .int .u32 x.e, .slice a1 x.rs.length c1, .slice a2 x.ls.length c2] rfl (by intro u hu; simp at hu; rcases hu with h | h | h | h <;> rw [h] <;> rfl) hb (by omega) 26
 obtain ⟨a3, c3, rfl⟩ := own_sl o3
 refine ⟨a3, c3, W6, r3, ?_⟩
 have hv : ∀ k, Value.ownBlock (.slice a i c) = some k → w.heap.size ≤ k ∧ ∃ cur, W5.heap[k]? = some (.cells cur 89 (0, 0)) := fun k hk => by
  refine ⟨ho.nw k hk, ?_⟩
  obtain ⟨cur, hc⟩ := own_tp ho.ow hk
  exact ⟨cur, Chg.heap g5 hc (fun e => e)⟩
 have ne : ∀ (e : Nat), e ≠ 89 → ∀ k, Value.ownBlock (.slice a i c) = some k → ∀ cur, W5.heap[k]? ≠ some (.cells cur e (0, 0)) := fun e he k hk cur q => by
  obtain ⟨_, cu, hc⟩ := hv k hk
  rw [hc] at q
  simp only [Option.some.injEq, Obj.cells.injEq] at q
  exact he q.2.1.symm
 have ne31 : ∀ k cur, W5.heap[k]? = some (.cells cur 31 (0, 0)) → ¬ Value.ownBlock (.slice a i c) = some k := fun k cur q e => ne 31 (by decide) k e cur q
 have t5 : Two W5 w.heap.size U V := tw.kp g5
 refine ⟨?_, ?_, L ++ [⟨x, a1, c1, a2, c2⟩], ?_, ⟨?_, ?_⟩, ?_⟩
 ·exact Chg.trans kp (Chg.trans (Kp.any g5) g6 (fun _ _ e => e)) (fun k hk e => by have := (hv k e).1; omega)
 ·exact ⟨g6.heap t5.1 (ne31 _ _ t5.1), g6.heap t5.2 (ne31 _ _ t5.2)⟩
 ·rw [List.map_append, hL, hn]; rfl
 ·rw [List.flatMap_append]; simpa [CeO.cells] using o3
 ·intro k hk
  rcases n3 with e | ⟨k', e, h2⟩
  ·rw [e] at hk; exact ho.nw k hk
  ·rw [e] at hk; cases hk
   have := g5.size; omega
 ·intro y hy
  rcases List.mem_append.1 hy with hy | hy
  ·exact ((hw y hy).chg g5 (fun k _ e => e.elim)).chg g6 (fun k _ e cur => ⟨ne 101 (by decide) k e cur, ne 3 (by decide) k e cur⟩)
  ·rw [List.mem_singleton.1 hy]
   exact ⟨⟨g6.owns o1b (fun k hk e => by obtain ⟨cu, q⟩ := own_tp o1b hk; exact ne 101 (by decide) k e cu q), fun k hk => by have := n1 k hk; omega⟩, ⟨g6.owns o2b (fun k hk e => by obtain ⟨cu, q⟩ := own_tp o2b hk; exact ne 3 (by decide) k e cu q), fun k hk => by have := n2 k hk; omega⟩⟩
theorem Two.chg {w w' : World} {B : Nat} {u v : Array Value} {S : Nat → Prop} (h : Two w B u v) (k : Chg w w' S) (hS : ∀ k cur, w.heap[k]? = some (.cells cur 31 (0, 0)) → ¬ S k) : Two w' B u v := ⟨k.heap h.1 (hS _ _ h.1), k.heap h.2 (hS _ _ h.2)⟩
def CsO (lo : Nat) (w : World) (xs : List Ce) (a : Option Addr) (n c : Nat) : Prop := ∃ L : List CeO, L.map CeO.c = xs ∧ OL lo 89 4 w a n c (L.flatMap CeO.cells) ∧ ∀ x ∈ L, x.ow lo w
theorem CsO.chg {lo : Nat} {w w' : World} {xs : List Ce} {a : Option Addr} {n c : Nat} {S : Nat → Prop} (h : CsO lo w xs a n c) (k : Chg w w' S) (hS : ∀ k, S k → ∀ e cur, w.heap[k]? = some (.cells cur e (0, 0)) → e ≠ 89 ∧ e ≠ 101 ∧ e ≠ 3) : CsO lo w' xs a n c := by
 obtain ⟨L, h1, h2, h3⟩ := h
 exact ⟨L, h1, h2.chg k (fun j _ e cur q => (hS j e _ _ q).1 rfl), fun x hx => (h3 x hx).chg k (fun j _ e cur => ⟨fun q => (hS j e _ _ q).2.1 rfl, fun q => (hS j e _ _ q).2.2 rfl⟩)⟩
def SsO (lo : Nat) (w : World) (xs : List Sa) (a : Option Addr) (n c : Nat) : Prop := ∃ L : List SaO, L.map SaO.s = xs ∧ OL lo 94 3 w a n c (L.flatMap SaO.cells) ∧ ∀ x ∈ L, x.ow lo w
theorem SsO.chg {lo : Nat} {w w' : World} {xs : List Sa} {a : Option Addr} {n c : Nat} {S : Nat → Prop} (h : SsO lo w xs a n c) (k : Chg w w' S) (hS : ∀ k, S k → ∀ e cur, w.heap[k]? = some (.cells cur e (0, 0)) → e ≠ 94 ∧ e ≠ 3) : SsO lo w' xs a n c := by
 obtain ⟨L, h1, h2, h3⟩ := h
 exact ⟨L, h1, h2.chg k (fun j _ e cur q => (hS j e _ _ q).1 rfl), fun x hx => (h3 x hx).chg k (fun j _ e cur => fun q => (hS j e _ _ q).2 rfl)⟩
theorem CI.cs {w wr : World} {U V : Array Value} {xs : List Ce} {a : Option Addr} {i c : Nat} (h : CI w wr U V xs a i c) (hi : i = xs.length) : CsO w.heap.size wr xs a i c := by
 obtain ⟨L, h1, h2⟩ := h.L
 exact ⟨L, by rw [h1, hi, List.take_length], h2⟩
structure SI (w wr : World) (U V : Array Value) (ys : List Ce) (ya : Option Addr) (yn yc : Nat) (xs : List Sa) (a : Option Addr) (i c : Nat) : Prop where
 kp : Kp w wr
 tw : Two wr w.heap.size U V
 cs : CsO w.heap.size wr ys ya yn yc
 L : SsO w.heap.size wr (xs.take i) a i c
theorem sa_round {w wr : World} {U V : Array Value} {ys : List Ce} {ya : Option Addr} {yn yc : Nat} {xs : List Sa} {a : Option Addr} {i c : Nat} (h : SI w wr U V ys ya yn yc xs a i c) (x : Sa) (hx : x.fine) (hn : xs.take (i + 1) = xs.take i ++ [x]) (hb : (i + 1) * 40 ≤ 140737488355328) {N lc : Nat} {la : Option Addr} (ix : RdI wr N la x.rs) :
  ∃ a2 c2 W4, (Builtin.append_ #[52, 52] 52 #[.slice none 0 0, .slice la x.rs.length lc]).run Tryz.prog (wr.alloc (.cells #[.int .i64 x.w, .int .i64 x.s, .slice la x.rs.length lc] 94)) = .ok (.slice a2 x.rs.length c2) W4 ∧
  W4.heap[wr.heap.size]? = some (.cells #[.int .i64 x.w, .int .i64 x.s, .slice la x.rs.length lc] 94 (0, 0)) ∧
  ∃ a3 c3 W6, (Builtin.append_ #[28, 28] 28 #[.slice a i c, .slice (some ⟨W4.heap.size, 0, none⟩) 1 1]).run Tryz.prog ((W4.setCell ⟨wr.heap.size, 2, none⟩ (.slice a2 x.rs.length c2)).alloc (.cells #[.int .i64 x.w, .int .i64 x.s, .slice a2 x.rs.length c2] 94)) = .ok (.slice a3 (i + 1) c3) W6 ∧ SI w W6 U V ys ya yn yc xs a3 (i + 1) c3 := by
 obtain ⟨kp, tw, hcs, L, hL, ho, hw⟩ := h
 have hB : w.heap.size + 1 < wr.heap.size := hp_lt tw.2
 have k1 := Kp.al wr (.cells #[.int .i64 x.w, .int .i64 x.s, .slice la x.rs.length lc] 94)
 have hb1 := heap_alloc_new wr (.cells #[.int .i64 x.w, .int .i64 x.s, .slice la x.rs.length lc] 94)
 have hs1 : (wr.alloc (.cells #[.int .i64 x.w, .int .i64 x.s, .slice la x.rs.length lc] 94)).heap.size = wr.heap.size + 1 := by simp
 generalize (wr.alloc (.cells #[.int .i64 x.w, .int .i64 x.s, .slice la x.rs.length lc] 94)) = W3 at *
 obtain ⟨v2, W4, r2, o2, k4, n2⟩ := tl52.all W3 la x.rs.length lc (x.rs.flatMap nuC) (flat_len (sz := 1) (f := nuC) nu_len _) (src_kp ix.src k1) (one_flat one_nu _) (by have := hx.rl; omega) (by have := hx.rl; omega) 52
 obtain ⟨a2, c2, rfl⟩ := own_sl o2
 have hb4 := k4.heap hb1
 have hs4 := k4.size
 refine ⟨a2, c2, W4, r2, hb4, ?_⟩
 have g5 : Chg wr (W4.setCell ⟨wr.heap.size, 2, none⟩ (.slice a2 x.rs.length c2)) (fun _ => False) := Chg.setCell (Kp.trans k1 k4) (.inr (Nat.le_refl _)) _
 have d5 : Chg W4 (W4.setCell ⟨wr.heap.size, 2, none⟩ (.slice a2 x.rs.length c2)) (fun k => k = wr.heap.size) := Chg.setCell (Chg.refl _ (fun k => k = wr.heap.size)) (.inl rfl) _
 have o2b := d5.owns o2 (fun k hk e => by have := n2 k hk; omega)
 have hs5 : (W4.setCell ⟨wr.heap.size, 2, none⟩ (.slice a2 x.rs.length c2)).heap.size = W4.heap.size := by simp
 rw [← hs5]
 generalize (W4.setCell ⟨wr.heap.size, 2, none⟩ (.slice a2 x.rs.length c2)) = W5 at *
 obtain ⟨v3, W6, r3, o3, g6, n3⟩ := tl28.one W5 (.slice a i c) i (L.flatMap SaO.cells) (Chg.owns g5 ho.ow (fun _ _ e => e)) [.int .i64 x.w, .int .i64 x.s, .slice a2 x.rs.length c2] rfl (by intro u hu; simp at hu; rcases hu with h | h | h <;> rw [h] <;> rfl) hb (by omega) 28
 obtain ⟨a3, c3, rfl⟩ := own_sl o3
 refine ⟨a3, c3, W6, r3, ?_⟩
 have hv : ∀ k, Value.ownBlock (.slice a i c) = some k → w.heap.size ≤ k ∧ ∃ cur, W5.heap[k]? = some (.cells cur 94 (0, 0)) := fun k hk => by
  refine ⟨ho.nw k hk, ?_⟩
  obtain ⟨cur, hc⟩ := own_tp ho.ow hk
  exact ⟨cur, Chg.heap g5 hc (fun e => e)⟩
 have ne : ∀ (e : Nat), e ≠ 94 → ∀ k, Value.ownBlock (.slice a i c) = some k → ∀ cur, W5.heap[k]? ≠ some (.cells cur e (0, 0)) := fun e he k hk cur q => by
  obtain ⟨_, cu, hc⟩ := hv k hk
  rw [hc] at q
  simp only [Option.some.injEq, Obj.cells.injEq] at q
  exact he q.2.1.symm
 refine ⟨?_, ?_, ?_, L ++ [⟨x, a2, c2⟩], ?_, ⟨?_, ?_⟩, ?_⟩
 ·exact Chg.trans kp (Chg.trans (Kp.any g5) g6 (fun _ _ e => e)) (fun k hk e => by have := (hv k e).1; omega)
 ·exact (tw.kp g5).chg g6 (fun k cur q e => ne 31 (by decide) k e cur q)
 ·exact (hcs.chg g5 (fun k e => e.elim)).chg g6 (fun k e t cur q => ⟨fun h => ne 89 (by decide) k e cur (by rw [h] at q; exact q), fun h => ne 101 (by decide) k e cur (by rw [h] at q; exact q), fun h => ne 3 (by decide) k e cur (by rw [h] at q; exact q)⟩)
 ·rw [List.map_append, hL, hn]; rfl
 ·rw [List.flatMap_append]; simpa [SaO.cells] using o3
 ·intro k hk
  rcases n3 with e | ⟨k', e, h2⟩
  ·rw [e] at hk; exact ho.nw k hk
  ·rw [e] at hk; cases hk
   have := g5.size; omega
 ·intro y hy
  rcases List.mem_append.1 hy with hy | hy
  ·exact ((hw y hy).chg g5 (fun k _ e => e.elim)).chg g6 (fun k _ e cur => ne 3 (by decide) k e cur)
  ·rw [List.mem_singleton.1 hy]
   exact ⟨⟨g6.owns o2b (fun k hk e => by obtain ⟨cu, q⟩ := own_tp o2b hk; exact ne 3 (by decide) k e cu q), fun k hk => by have := n2 k hk; omega⟩⟩
theorem cl_last {w wr : World} {U V : Array Value} {g : Cf} {ya sa' : Option Addr} {yc sc' : Nat} (h : SI w wr U V g.cs ya g.cs.length yc g.ss sa' g.ss.length sc') (hf : g.fine) {N wc qc : Nat} {wa qa : Option Addr} (x2 : RdL w N 3 WiAt wa g.ws) (x4 : RdL w N 6 QuAt qa g.qs) :
  ∃ a1 c1 W1, (Builtin.append_ #[27, 27] 27 #[.slice none 0 0, .slice wa g.ws.length wc]).run Tryz.prog wr = .ok (.slice a1 g.ws.length c1) W1 ∧
  ∃ a2 c2 W2, (Builtin.append_ #[29, 29] 29 #[.slice none 0 0, .slice qa g.qs.length qc]).run Tryz.prog W1 = .ok (.slice a2 g.qs.length c2) W2 ∧
  Two W1 w.heap.size U V ∧ Two W2 w.heap.size U V ∧ ∀ W', Chg W2 W' (fun k => k = w.heap.size ∨ k = w.heap.size + 1) → OwnCf w.heap.size W' g ya a1 sa' a2 yc c1 sc' c2 ∧ Kp w W' := by
 obtain ⟨kp, tw, hcs, hss⟩ := h
 rw [List.take_length] at hss
 have hsz := kp.size
 obtain ⟨v1, W1, r1, o1, k1, n1⟩ := tl27.all wr wa g.ws.length wc (g.ws.flatMap Wi.cells) (flat_len (sz := 3) (f := Wi.cells) (fun _ => rfl) _) (src_kp (RdL.src (sz := 3) (f := Wi.cells) (fun _ => rfl) (by omega) x2 (fun _ _ _ p => p.1)) kp) (one_flat one_wi _) (by have := hf.wl; omega) (by have := hf.wl; omega) 27
 obtain ⟨a1, c1, rfl⟩ := own_sl o1
 obtain ⟨v2, W2, r2, o2, k2, n2⟩ := tl29.all W1 qa g.qs.length qc (g.qs.flatMap Qu.cells) (flat_len (sz := 6) (f := Qu.cells) (fun _ => rfl) _) (src_kp (RdL.src (sz := 6) (f := Qu.cells) (fun _ => rfl) (by omega) x4 (fun _ _ _ p => p.1)) (kp.trans k1)) (one_flat one_qu _) (by have := hf.ql; omega) (by have := hf.ql; omega) 29
 obtain ⟨a2, c2, rfl⟩ := own_sl o2
 have t1 := tw.kp k1
 have t2 := t1.kp k2
 refine ⟨a1, c1, W1, r1, a2, c2, W2, r2, t1, t2, fun W' hc => ?_⟩
 have hs1 := k1.size
 have h31 : ∀ k, (k = w.heap.size ∨ k = w.heap.size + 1) → ∀ e cur, W2.heap[k]? = some (.cells cur e (0, 0)) → e = 31 := fun k hk e cur q => by
  rcases hk with rfl | rfl
  ·rw [t2.1] at q; simp only [Option.some.injEq, Obj.cells.injEq] at q; exact q.2.1.symm
  ·rw [t2.2] at q; simp only [Option.some.injEq, Obj.cells.injEq] at q; exact q.2.1.symm
 have w2 : OL w.heap.size 65 3 W2 a1 g.ws.length c1 (g.ws.flatMap Wi.cells) := ⟨Chg.owns k2 o1 (fun _ _ e => e), fun k hk => by have := n1 k hk; omega⟩
 have q2 : OL w.heap.size 98 6 W2 a2 g.qs.length c2 (g.qs.flatMap Qu.cells) := ⟨o2, fun k hk => by have := n2 k hk; omega⟩
 have c2' := (hcs.chg k1 (fun k e => e.elim)).chg k2 (fun k e => e.elim)
 have s2' := (hss.chg k1 (fun k e => e.elim)).chg k2 (fun k e => e.elim)
 have c3 := c2'.chg hc (fun k e t cur q => by rw [h31 k e t cur q]; decide)
 have s3 := s2'.chg hc (fun k e t cur q => by rw [h31 k e t cur q]; decide)
 refine ⟨⟨hf, ?_, w2.chg hc (fun k _ e cur q => absurd (h31 k e _ _ q) (by decide)), ?_, q2.chg hc (fun k _ e cur q => absurd (h31 k e _ _ q) (by decide))⟩, Chg.trans (kp.trans (k1.trans k2)) hc (fun k hk e => by rcases e with e | e <;> omega)⟩
 ·obtain ⟨L, e1, e2, e3⟩ := c3
  exact ⟨L, e1, by rw [← List.length_map (f := CeO.c), e1]; exact e2, e3⟩
 ·obtain ⟨L, e1, e2, e3⟩ := s3
  exact ⟨L, e1, by rw [← List.length_map (f := SaO.s), e1]; exact e2, e3⟩
end Go.Proofs.YtknlpjcdemijgaaGreat
namespace Go.Proofs.YtknlpjcdemijgaaGreat
open Go.ChangeShapes Go.WideShapes Go.ChangeAt Go.RowKit
set_option linter.unusedVariables false
theorem res39 (tmps : Array Value) (w : World) (T : Nat) (cs : Array Value) (hp : tmps.getD 2 undef = .pointer (some ⟨T, 0, none⟩)) (hg : w.heap[T]? = some (.cells cs 31 (0, 0))) (hsz : cs.size = 12) : (results Tryz.f39 tmps).run Tryz.prog w = .ok (.agg cs) w := by
 have hp' : tmps[2]?.getD undef = .pointer (some ⟨T, 0, none⟩) := by simpa using hp
 have hl := run_loadVar_row (P := Tryz.prog) w T 31 31 cs (0, 0) _ hg Tryz.underlying31 rfl (by rw [hsz]; exact size31)
 simp [results, Tryz.results39, hp', asAddr, hl]
set_option maxHeartbeats 16000000 in
set_option maxRecDepth 100000 in
theorem rclone_walk (w : World) (N : Nat) (g : Cf) (hf : g.fine) (ca wa sa qa : Option Addr) (cc wc sc qc : Nat)
  (x1 : RdL w N 4 (CeAt N) ca g.cs) (x2 : RdL w N 3 WiAt wa g.ws) (x3 : RdL w N 3 (SaAt N) sa g.ss) (x4 : RdL w N 6 QuAt qa g.qs) :
  Calls Tryz.prog 39 #[.agg #[.int .i64 g.m.pg, .int .u32 g.m.ob, .int .i64 g.m.op, .int .i64 g.m.st, .int .i64 g.m.wy, .int .i64 g.m.li, .int .i64 g.m.sl, .int .u64 g.m.mj, .slice ca g.cs.length cc, .slice wa g.ws.length wc, .slice sa g.ss.length sc, .slice qa g.qs.length qc]] w fun r w' => ∃ ca wa sa qa cc wc sc qc, r = .returned (cfV g ca wa sa qa cc wc sc qc) ∧ OwnCf w.heap.size w' g ca wa sa qa cc wc sc qc ∧ Kp w w' := by
 obtain ⟨w0, hw0⟩ : ∃ w0, w0 = (w.alloc (.cells #[.int .i64 g.m.pg, .int .u32 g.m.ob, .int .i64 g.m.op, .int .i64 g.m.st, .int .i64 g.m.wy, .int .i64 g.m.li, .int .i64 g.m.sl, .int .u64 g.m.mj, .slice ca g.cs.length cc, .slice wa g.ws.length wc, .slice sa g.ss.length sc, .slice qa g.qs.length qc] 31)).alloc (.cells zC' 31) := ⟨_, rfl⟩
 have k0 : Kp w w0 := by rw [hw0]; exact Kp.trans (Kp.al _ _) (Kp.al _ _)
 have t0 : Two w0 w.heap.size #[.int .i64 g.m.pg, .int .u32 g.m.ob, .int .i64 g.m.op, .int .i64 g.m.st, .int .i64 g.m.wy, .int .i64 g.m.li, .int .i64 g.m.sl, .int .u64 g.m.mj, .slice ca g.cs.length cc, .slice wa g.ws.length wc, .slice sa g.ss.length sc, .slice qa g.qs.length qc] zC' := by
  refine ⟨by rw [hw0]; exact (Kp.al _ _).heap (heap_alloc_new w _), ?_⟩
  have := heap_alloc_new (w.alloc (.cells #[.int .i64 g.m.pg, .int .u32 g.m.ob, .int .i64 g.m.op, .int .i64 g.m.st, .int .i64 g.m.wy, .int .i64 g.m.li, .int .i64 g.m.sl, .int .u64 g.m.mj, .slice ca g.cs.length cc, .slice wa g.ws.length wc, .slice sa g.ss.length sc, .slice qa g.qs.length qc] 31)) (.cells zC' 31)
  rw [hw0]
  simpa using this
 have HL : Hid (RdL w N 4 (CeAt N) ca g.cs ∧ RdL w N 3 WiAt wa g.ws ∧ RdL w N 3 (SaAt N) sa g.ss ∧ RdL w N 6 QuAt qa g.qs) := ⟨x1, x2, x3, x4⟩
 have HF : Hid g.fine := hf
 have b1 := x1.1
 have b2 := x2.1
 have b3 := x3.1
 have b4 := x4.1
 clear x1 x2 x3 x4 hf
 obtain ⟨UU, hUU⟩ : ∃ UU : Array Value, UU = #[.int .i64 g.m.pg, .int .u32 g.m.ob, .int .i64 g.m.op, .int .i64 g.m.st, .int .i64 g.m.wy, .int .i64 g.m.li, .int .i64 g.m.sl, .int .u64 g.m.mj, .slice ca g.cs.length cc, .slice wa g.ws.length wc, .slice sa g.ss.length sc, .slice qa g.qs.length qc] := ⟨_, rfl⟩
 have HU : Hid (UU = #[.int .i64 g.m.pg, .int .u32 g.m.ob, .int .i64 g.m.op, .int .i64 g.m.st, .int .i64 g.m.wy, .int .i64 g.m.li, .int .i64 g.m.sl, .int .u64 g.m.mj, .slice ca g.cs.length cc, .slice wa g.ws.length wc, .slice sa g.ss.length sc, .slice qa g.qs.length qc]) := hUU
 rw [← hUU] at t0
 have H1 : Hid (CI w w0 UU zC' g.cs none 0 0) := ⟨k0, t0, [], by simp, ⟨World.ownsRow_nil _ _ _ _, fun k hk => by cases hk⟩, fun x hx => by cases hx⟩
 clear k0 t0 hUU
 go_enter Tryz.func39, Tryz.ntmps39
 go_wp2_with fail
 rw [← hw0]
 clear hw0
 go_loopw [3, 4] (fun s3 s4 wr => ∃ (i : Nat) (a : Option Addr) (c : Nat), s3 = .slice a i c ∧ s4 = .int .i64 (i : Nat) ∧ i ≤ g.cs.length ∧ Hid (CI w wr UU zC' g.cs a i c)) (fun _ s4 _ => g.cs.length - (intOf s4).toNat)
 case atStart => exact ⟨0, none, 0, rfl, rfl, by omega, H1⟩
 case round =>
  obtain ⟨i, a, c, rfl, rfl, hi, HI⟩ := hrel
  clear H1
  have sA : wr.cell? ⟨w.heap.size, 8, none⟩ = some (.slice ca g.cs.length cc) := by rw [(cells_at HI.out.tw.1 8).1, HU.out]; rfl
  by_cases hlt : i < g.cs.length
  ·obtain ⟨bx, ox, e5, _, hcx⟩ := (CeAts.kp HL.out.1 HI.out.kp).2.resolve_left (by omega)
   rw [e5] at sA
   have hx := hcx i hlt
   obtain ⟨x, hxx⟩ : ∃ x, x = g.cs[i] := ⟨_, rfl⟩
   have HN : Hid (g.cs.take (i + 1) = g.cs.take i ++ [x] ∧ x.fine) := ⟨by rw [hxx]; exact take_snocQ (List.getElem?_eq_getElem hlt), by rw [hxx]; exact HF.out.cs _ (List.getElem_mem hlt)⟩
   rw [← hxx] at hx
   clear hcx hxx e5
   obtain ⟨_, _, ra, rc, la, lc, ax, rx, ix⟩ := hx
   have HX : Hid (RdL wr N 4 RgAt ra x.rs ∧ RdI wr N la x.ls) := ⟨rx, ix⟩
   have a0 := ax 0 _ rfl
   have a1 := ax 1 _ rfl
   have a2 := ax 2 _ rfl
   have a3 := ax 3 _ rfl
   simp only [Nat.add_zero] at a0
   clear ax rx ix
   obtain ⟨p1, q1, W2, r1, hB2, p2, q2, W4, r2, hB4, p3, q3, W6, r3, hI6⟩ := ce_round (rc := rc) (lc := lc) HI.out x HN.out.2 HN.out.1 (by have := HF.out.cl; omega) HX.out.1 HX.out.2
   have HI6 : Hid (CI w W6 UU zC' g.cs p3 (i + 1) q3) := hI6
   have m0 : W2.cell? ⟨wr.heap.size, 2, none⟩ = some (.slice ra x.rs.length rc) := (cells_at hB2 2).1
   have m1 : W2.cell? ⟨wr.heap.size, 3, none⟩ = some (.slice la x.ls.length lc) := (cells_at hB2 3).1
   have m2 : W2.frozen? ⟨wr.heap.size, 2, none⟩ = false := (cells_at hB2 2).2
   have n0 : W4.cell? ⟨wr.heap.size, 0, none⟩ = some (.string x.nm) := (cells_at hB4 0).1
   have n1 : W4.cell? ⟨wr.heap.size, 1, none⟩ = some (.int .u32 x.e) := (cells_at hB4 1).1
   have n2 : W4.cell? ⟨wr.heap.size, 2, none⟩ = some (.slice p1 x.rs.length q1) := (cells_at hB4 2).1
   have n3 : W4.cell? ⟨wr.heap.size, 3, none⟩ = some (.slice la x.ls.length lc) := (cells_at hB4 3).1
   have n4 : W4.frozen? ⟨wr.heap.size, 3, none⟩ = false := (cells_at hB4 3).2
   clear hI6 hB2 hB4 HI HN HX HL HF HU
   go_wp2_with (at_builtin; first | refine wpList_append_run _ rfl (.tmp 26) (.tmp 28) 87 87 rfl _ _ _ W2 rfl rfl r1 ?_ | refine wpList_append_run _ rfl (.tmp 31) (.tmp 33) 52 52 rfl _ _ _ W4 rfl rfl r2 ?_ | refine wpList_append_run _ rfl (.tmp 36) (.tmp 38) 26 26 rfl _ _ _ W6 rfl rfl r3 ?_)
   exact ⟨⟨i + 1, p3, q3, rfl, by go_num, by omega, HI6⟩, by simp [intOf]; omega⟩
  ·have hie : i = g.cs.length := by omega
   subst hie
   have H2 : Hid (SI w wr UU zC' g.cs a g.cs.length c g.ss none 0 0) := ⟨HI.out.kp, HI.out.tw, HI.out.cs rfl, [], by simp, ⟨World.ownsRow_nil _ _ _ _, fun k hk => by cases hk⟩, fun x hx => by cases hx⟩
   have sA' := sA
   clear HI hi sA'
   go_wp2_with fail
   clear sA
   obtain ⟨WR, hWR⟩ : ∃ WR, WR = wr := ⟨_, rfl⟩
   rw [← hWR] at H2 ⊢
   clear hWR wr
   go_loopw [9, 10] (fun s9 s10 wr => ∃ (i : Nat) (a' : Option Addr) (c' : Nat), s9 = .slice a' i c' ∧ s10 = .int .i64 (i : Nat) ∧ i ≤ g.ss.length ∧ Hid (SI w wr UU zC' g.cs a g.cs.length c g.ss a' i c')) (fun _ s10 _ => g.ss.length - (intOf s10).toNat)
   case atStart => exact ⟨0, none, 0, rfl, rfl, by omega, H2⟩
   case round =>
    obtain ⟨i, a', c', rfl, rfl, hi, HI⟩ := hrel
    clear H2
    have sA : wr.cell? ⟨w.heap.size, 10, none⟩ = some (.slice sa g.ss.length sc) := by rw [(cells_at HI.out.tw.1 10).1, HU.out]; rfl
    by_cases hlt : i < g.ss.length
    ·obtain ⟨bx, ox, e5, _, hcx⟩ := (SaAts.kp HL.out.2.2.1 HI.out.kp).2.resolve_left (by omega)
     rw [e5] at sA
     have hx := hcx i hlt
     obtain ⟨x, hxx⟩ : ∃ x, x = g.ss[i] := ⟨_, rfl⟩
     have HN : Hid (g.ss.take (i + 1) = g.ss.take i ++ [x] ∧ x.fine) := ⟨by rw [hxx]; exact take_snocQ (List.getElem?_eq_getElem hlt), by rw [hxx]; exact HF.out.ss _ (List.getElem_mem hlt)⟩
     rw [← hxx] at hx
     clear hcx hxx e5
     obtain ⟨_, _, la, lc, ax, ix⟩ := hx
     have HX : Hid (RdI wr N la x.rs) := ix
     have a0 := ax 0 _ rfl
     have a1 := ax 1 _ rfl
     have a2 := ax 2 _ rfl
     simp only [Nat.add_zero] at a0
     clear ax ix
     obtain ⟨p2, q2, W4, r2, hB4, p3, q3, W6, r3, hI6⟩ := sa_round (lc := lc) HI.out x HN.out.2 HN.out.1 (by have := HF.out.sl; omega) HX.out
     have HI6 : Hid (SI w W6 UU zC' g.cs a g.cs.length c g.ss p3 (i + 1) q3) := hI6
     have n0 : W4.cell? ⟨wr.heap.size, 0, none⟩ = some (.int .i64 x.w) := (cells_at hB4 0).1
     have n1 : W4.cell? ⟨wr.heap.size, 1, none⟩ = some (.int .i64 x.s) := (cells_at hB4 1).1
     have n3 : W4.cell? ⟨wr.heap.size, 2, none⟩ = some (.slice la x.rs.length lc) := (cells_at hB4 2).1
     have n4 : W4.frozen? ⟨wr.heap.size, 2, none⟩ = false := (cells_at hB4 2).2
     clear hI6 hB4 HI HN HX HL HF HU
     go_wp2_with (at_builtin; first | refine wpList_append_run _ rfl (.tmp 52) (.tmp 54) 52 52 rfl _ _ _ W4 rfl rfl r2 ?_ | refine wpList_append_run _ rfl (.tmp 57) (.tmp 59) 28 28 rfl _ _ _ W6 rfl rfl r3 ?_)
     exact ⟨⟨i + 1, p3, q3, rfl, by go_num, by omega, HI6⟩, by simp [intOf]; omega⟩
    ·have hie : i = g.ss.length := by omega
     subst hie
     have sB : wr.cell? ⟨w.heap.size, 9, none⟩ = some (.slice wa g.ws.length wc) := by rw [(cells_at HI.out.tw.1 9).1, HU.out]; rfl
     obtain ⟨p1, q1, W1, r1, p2, q2, W2, r2, hU, hT, hR⟩ := cl_last (wc := wc) (qc := qc) HI.out HF.out HL.out.2.1 HL.out.2.2.2
     have c8 : W2.cell? ⟨w.heap.size, 8, none⟩ = some (.slice ca g.cs.length cc) := by rw [(cells_at hT.1 8).1, HU.out]; rfl
     have c9 : W2.cell? ⟨w.heap.size, 9, none⟩ = some (.slice wa g.ws.length wc) := by rw [(cells_at hT.1 9).1, HU.out]; rfl
     have c10 : W2.cell? ⟨w.heap.size, 10, none⟩ = some (.slice sa g.ss.length sc) := by rw [(cells_at hT.1 10).1, HU.out]; rfl
     have c11 : W2.cell? ⟨w.heap.size, 11, none⟩ = some (.slice qa g.qs.length qc) := by rw [(cells_at hT.1 11).1, HU.out]; rfl
     have f8 : W2.frozen? ⟨w.heap.size, 8, none⟩ = false := (cells_at hT.1 8).2
     have f9 : W2.frozen? ⟨w.heap.size, 9, none⟩ = false := (cells_at hT.1 9).2
     have f10 : W2.frozen? ⟨w.heap.size, 10, none⟩ = false := (cells_at hT.1 10).2
     have f11 : W2.frozen? ⟨w.heap.size, 11, none⟩ = false := (cells_at hT.1 11).2
     have sC : W1.cell? ⟨w.heap.size, 11, none⟩ = some (.slice qa g.qs.length qc) := by rw [(cells_at hU.1 11).1, HU.out]; rfl
     have HZ : Hid (Two W2 w.heap.size UU zC' ∧ ∀ W', Chg W2 W' (fun k => k = w.heap.size ∨ k = w.heap.size + 1) → OwnCf w.heap.size W' g a p1 a' p2 c q1 c' q2 ∧ Kp w W') := ⟨hT, hR⟩
     clear HI hi HL HF hT hU hR
     go_upto_region 23 with (at_builtin; first | refine wpList_append_run _ rfl (.tmp 61) (.tmp 63) 27 27 rfl _ _ _ W1 rfl rfl r1 ?_ | refine wpList_append_run _ rfl (.tmp 65) (.tmp 67) 29 29 rfl _ _ _ W2 rfl rfl r2 ?_)
     clear r1 r2 sA sB sC
     go_upto_region 27 with fail
     clear c8 c9 c10 c11 f8 f9 f10 f11
     obtain ⟨W7, hW7⟩ : ∃ W7,W7 = (((W2.setCell ⟨w.heap.size, 8, none⟩ (.slice a g.cs.length c)).setCell ⟨w.heap.size, 9, none⟩ (.slice p1 g.ws.length q1)).setCell ⟨w.heap.size, 10, none⟩ (.slice a' g.ss.length c')).setCell ⟨w.heap.size, 11, none⟩ (.slice p2 g.qs.length q2) := ⟨_, rfl⟩
     rw [← hW7]
     have d7 : Chg W2 W7 (fun k => k = w.heap.size) := by
      rw [hW7]
      exact Chg.setCell (Chg.setCell (Chg.setCell (Chg.setCell (Chg.refl _ (fun k => k = w.heap.size)) (.inl rfl) _) (.inl rfl) _) (.inl rfl) _) (.inl rfl) _
     have hB7 : W7.heap[w.heap.size]? = some (.cells #[.int .i64 g.m.pg, .int .u32 g.m.ob, .int .i64 g.m.op, .int .i64 g.m.st, .int .i64 g.m.wy, .int .i64 g.m.li, .int .i64 g.m.sl, .int .u64 g.m.mj, .slice a g.cs.length c, .slice p1 g.ws.length q1, .slice a' g.ss.length c', .slice p2 g.qs.length q2] 31 (0, 0)) := by
      have h0 := HZ.out.1.1
      rw [HU.out] at h0
      rw [hW7]
      exact heap_setCell_same _ _ 11 _ _ _ (heap_setCell_same _ _ 10 _ _ _ (heap_setCell_same _ _ 9 _ _ _ (heap_setCell_same _ _ 8 _ _ _ h0)))
     have hT7 : W7.heap[w.heap.size + 1]? = some (.cells zC' 31 (0, 0)) := d7.heap HZ.out.1.2 (by omega)
     obtain ⟨RR, hRR⟩ : ∃ RR : Array Value, RR = #[.int .i64 g.m.pg, .int .u32 g.m.ob, .int .i64 g.m.op, .int .i64 g.m.st, .int .i64 g.m.wy, .int .i64 g.m.li, .int .i64 g.m.sl, .int .u64 g.m.mj, .slice a g.cs.length c, .slice p1 g.ws.length q1, .slice a' g.ss.length c', .slice p2 g.qs.length q2] := ⟨_, rfl⟩
     have hsz : RR.size = 12 := by rw [hRR]; rfl
     have hone : RR.all (·.oneCell') = true := by rw [hRR]; kernel_rfl
     rw [← hRR] at hB7
     have HY : Hid ((∃ ca wa sa qa cc wc sc qc, (Ending.returned (.agg RR) = .returned (cfV g ca wa sa qa cc wc sc qc)) ∧ OwnCf w.heap.size (W7.setRow (w.heap.size + 1) RR) g ca wa sa qa cc wc sc qc ∧ Kp w (W7.setRow (w.heap.size + 1) RR)) ∧ (W7.setRow (w.heap.size + 1) RR).heap[w.heap.size + 1]? = some (.cells RR 31 (0, 0))) := by
      have hF := HZ.out.2 (W7.setRow (w.heap.size + 1) RR) (Chg.setRow (d7.mono (fun _ _ e => .inl e)) (.inl (.inr rfl)) RR)
      exact ⟨⟨a, p1, a', p2, c, q1, c', q2, by rw [hRR]; rfl, hF.1, hF.2⟩, setRow_heap W7 _ _ _ 31 _ hT7⟩
     clear hW7 d7 HZ HU hRR
     go_wp2_with (first | refine wpList_load_row rfl 31 (.tmp 1) rfl w.heap.size rfl 31 RR (0, 0) _ hB7 Tryz.underlying31 rfl (by rw [hsz]; exact size31) ?_ | refine wpList_store_row rfl 31 (.tmp 2) (.tmp 77) rfl (w.heap.size + 1) RR rfl rfl 31 zC' hT7 (by rw [hsz]; exact size31) (by rw [hsz]; rfl) hone ?_)
     exact ⟨rfl, _, res39 _ _ _ RR rfl HY.out.2 hsz, HY.out.1⟩
end Go.Proofs.YtknlpjcdemijgaaGreat
namespace Go.Proofs.YtknlpjcdemijgaaGreat
open Go.ChangeShapes Go.WideShapes Go.ChangeAt Go.RowKit
set_option linter.unusedVariables false
theorem tl47 : TL 47 52 1 24 := by
 have hz : (Tryz.prog.info? 52).map (fun i => (i.zero, i.size, i.bytes)) = some (some (.slice none 0 0), 1, 24) := by kernel_rfl
 refine ⟨Tryz.underlying47, ?_, by omega, by omega⟩
 cases hq : Tryz.prog.info? 52 with
 | none => rw [hq] at hz; cases hz
 | some i =>
  rw [hq] at hz
  have hz2 : i.zero = some (.slice none 0 0) ∧ i.size = 1 ∧ i.bytes = 24 := by simpa using hz
  exact ⟨i, _, rfl, hz2.1, hz2.2.1, hz2.2.2, rfl⟩
theorem own_some {w : World} {e sz n c : Nat} {a : Option Addr} {cs : List Value} (h : w.ownsRow 0 e sz (.slice a n c) n cs) (hn : 0 < n) : ∃ g, a = some ⟨g, 0, none⟩ ∧ n ≤ c ∧ Value.ownBlock (.slice a n c) = some g := by
 rcases h.2 with ⟨_, h2⟩ | ⟨g, cap, cur, h1, h2, h3, h4, h5, h6, h7⟩
 ·omega
 ·simp only [Value.slice.injEq] at h1
  refine ⟨g, h1.1, by omega, ?_⟩
  rw [h1.1]; rfl
structure NuE (w w' : World) (X : Nat) (cs : Array Value) (na : Option Addr) (n nc : Nat) (ns : List Value) (xs : List Int) (A k : Nat) (na' : Option Addr) (nc' : Nat) : Prop where
 new : w.heap.size ≤ A
 room : xs.length + 1 ≤ k
 row : w'.ownsRow 0 3 1 (.slice (some ⟨A, 0, none⟩) (xs.length + 1) k) (xs.length + 1) (xs.flatMap nuC ++ [.int .i64 (-77)])
 num : w'.ownsRow 0 52 1 (.slice na' (n + 1) nc') (n + 1) (ns ++ [.slice (some ⟨A, 0, none⟩) (xs.length + 1) k])
 box : w'.heap[X]? = some (.cells (cs.setIfInBounds 17 (.slice na' (n + 1) nc')) 49 (0, 0))
 chg : Chg w w' (fun j => j = X ∨ Value.ownBlock (.slice na n nc) = some j)
 loc : Value.ownBlock (.slice na' (n + 1) nc') = Value.ownBlock (.slice na n nc) ∨ ∃ j, Value.ownBlock (.slice na' (n + 1) nc') = some j ∧ w.heap.size ≤ j
theorem nu_runs {w : World} {X : Nat} {cs : Array Value} {na : Option Addr} {n nc : Nat} {ns : List Value} {xs : List Int} {N : Nat} {la : Option Addr} {lc : Nat} (hX : w.heap[X]? = some (.cells cs 49 (0, 0))) (h17 : cs[17]? = some (.slice na n nc)) (ho : w.ownsRow 0 52 1 (.slice na n nc) n ns) (hb : (n + 1) * 24 ≤ 140737488355328) (hl : RdI w N la xs) (hk : (xs.length + 1) * 8 ≤ 140737488355328) :
  ∃ a1 c1 W1, (Builtin.append_ #[52, 52] 52 #[.slice none 0 0, .slice la xs.length lc]).run Tryz.prog w = .ok (.slice a1 xs.length c1) W1 ∧
  ∃ A k W2, (Builtin.append_ #[52, 52] 52 #[.slice a1 xs.length c1, .slice (some ⟨W1.heap.size, 0, none⟩) 1 1]).run Tryz.prog (W1.alloc (.cells #[.int .i64 (-77)] 3)) = .ok (.slice (some ⟨A, 0, none⟩) (xs.length + 1) k) W2 ∧
  W2.cell? ⟨X, 17, none⟩ = some (.slice na n nc) ∧
  ∃ na' nc' W3, (Builtin.append_ #[47, 47] 47 #[.slice na n nc, .slice (some ⟨W2.heap.size, 0, none⟩) 1 1]).run Tryz.prog (W2.alloc (.cells #[.slice (some ⟨A, 0, none⟩) (xs.length + 1) k] 52)) = .ok (.slice na' (n + 1) nc') W3 ∧
  W3.cell? ⟨X, 17, none⟩ = some (.slice na n nc) ∧ W3.frozen? ⟨X, 17, none⟩ = false ∧ xs.length + 1 ≤ k ∧
  NuE w (W3.setCell ⟨X, 17, none⟩ (.slice na' (n + 1) nc')) X cs na n nc ns xs A k na' nc' := by
 obtain ⟨v1, W1, r1, o1, k1, n1⟩ := tl52.all w la xs.length lc (xs.flatMap nuC) (flat_len (sz := 1) (f := nuC) nu_len _) hl.src (one_flat one_nu _) (by omega) (by omega) 52
 obtain ⟨a1, c1, rfl⟩ := own_sl o1
 refine ⟨a1, c1, W1, r1, ?_⟩
 obtain ⟨v2, W2, r2, o2, g2, l2⟩ := tl52.one W1 _ xs.length _ o1 [.int .i64 (-77)] rfl (by intro u hu; simp at hu; rw [hu]; rfl) hk (by omega) 52
 obtain ⟨a2, k, rfl⟩ := own_sl o2
 obtain ⟨A, rfl, hcap, hA⟩ := own_some o2 (by omega)
 have k2 : Kp w W2 := Chg.trans k1 g2 (fun j hj e => by have := n1 j e; omega)
 have hs1 := k1.size
 have hs2 := k2.size
 have hX2 := k2.heap hX
 have hnA : w.heap.size ≤ A := by
  rcases l2 with e | ⟨j, e, hj⟩
  ·rw [hA] at e; exact n1 A e.symm
  ·rw [hA] at e; cases e; omega
 refine ⟨A, k, W2, r2, by rw [(cells_at hX2 17).1]; exact h17, ?_⟩
 have ho2 := Chg.owns k2 ho (fun _ _ e => e)
 obtain ⟨v3, W3, r3, o3, g3, l3⟩ := tl47.one W2 _ n _ ho2 [.slice (some ⟨A, 0, none⟩) (xs.length + 1) k] rfl (by intro u hu; simp at hu; rw [hu]; rfl) hb (by omega) 47
 obtain ⟨na', nc', rfl⟩ := own_sl o3
 have hXn : ¬ Value.ownBlock (.slice na n nc) = some X := fun e => by
  obtain ⟨cu, q⟩ := own_tp ho e
  rw [hX] at q
  simp only [Option.some.injEq, Obj.cells.injEq] at q
  exact absurd q.2.1 (by decide)
 have hX3 := g3.heap hX2 hXn
 have hXl := hp_lt hX
 have d4 : Chg W3 (W3.setCell ⟨X, 17, none⟩ (.slice na' (n + 1) nc')) (fun j => j = X) := Chg.setCell (Chg.refl _ (fun j => j = X)) (.inl rfl) _
 have hXn' : ¬ Value.ownBlock (.slice na' (n + 1) nc') = some X := fun e => by
  obtain ⟨cu, q⟩ := own_tp o3 e
  rw [hX3] at q
  simp only [Option.some.injEq, Obj.cells.injEq] at q
  exact absurd q.2.1 (by decide)
 refine ⟨na', nc', W3, r3, by rw [(cells_at hX3 17).1]; exact h17, (cells_at hX3 17).2, hcap, hnA, hcap, ?_, ?_, ?_, ?_, ?_⟩
 ·refine d4.owns (g3.owns o2 (fun j hj e => ?_)) (fun j hj e => ?_)
  ·obtain ⟨cu, q⟩ := own_tp o2 hj
   obtain ⟨cu', q'⟩ := own_tp ho2 e
   rw [q] at q'
   simp only [Option.some.injEq, Obj.cells.injEq] at q'
   exact absurd q'.2.1 (by decide)
  ·rw [hA] at hj; cases hj; omega
 ·exact d4.owns o3 (fun j hj e => hXn' (by rw [← e]; exact hj))
 ·exact heap_setCell_same W3 X 17 _ _ _ hX3
 ·exact Chg.setCell (Chg.trans (Kp.any k2) g3 (fun j _ e => .inr e)) (.inl (.inl rfl)) _
 ·rcases l3 with e | ⟨j, e, hj⟩
  ·exact .inl e
  ·exact .inr ⟨j, e, by omega⟩
set_option maxRecDepth 100000 in
theorem ints_any (w : World) (X : Nat) (cs : Array Value) (na : Option Addr) (n nc : Nat) (ns : List Value) (xs : List Int) (N : Nat) (la : Option Addr) (lc : Nat) (hX : w.heap[X]? = some (.cells cs 49 (0, 0))) (h17 : cs[17]? = some (.slice na n nc)) (ho : w.ownsRow 0 52 1 (.slice na n nc) n ns) (hb : (n + 1) * 24 ≤ 140737488355328) (hl : RdI w N la xs) (hk : (xs.length + 1) * 8 ≤ 140737488355328) :
  Calls Tryz.prog 40 #[.pointer (some ⟨X, 0, none⟩), .slice la xs.length lc] w fun r w' => ∃ A k na' nc', r = .returned (.slice (some ⟨A, 0, none⟩) xs.length k) ∧ NuE w w' X cs na n nc ns xs A k na' nc' := by
 obtain ⟨a1, c1, W1, r1, A, k, W2, r2, s2, na', nc', W3, r3, s3, f3, hcap, hE⟩ := nu_runs (lc := lc) hX h17 ho hb hl hk
 have HE : Hid (NuE w (W3.setCell ⟨X, 17, none⟩ (.slice na' (n + 1) nc')) X cs na n nc ns xs A k na' nc') := hE
 have hle : xs.length ≤ k := by omega
 clear hE hX h17 ho hl
 go_enter Tryz.func40, Tryz.ntmps40
 go_wp2_with (at_builtin; first | refine wpList_append_run _ rfl (.tmp 6) (.tmp 7) 52 52 rfl _ _ _ W1 rfl rfl r1 ?_ | refine wpList_append_run _ rfl (.tmp 9) (.tmp 10) 52 52 rfl _ _ _ W2 rfl rfl r2 ?_ | refine wpList_append_run _ rfl (.tmp 16) (.tmp 18) 47 47 rfl _ _ _ W3 rfl rfl r3 ?_)
 go_ret
 exact ⟨A, k, na', nc', rfl, HE.out⟩
end Go.Proofs.YtknlpjcdemijgaaGreat
