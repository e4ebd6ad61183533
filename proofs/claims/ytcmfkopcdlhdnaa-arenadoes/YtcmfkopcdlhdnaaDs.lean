import Derived.Test.YtcmfkopcdlhdnaaDm
namespace Go.Proofs.Ytcmfkopcdlhdnaa
open Go.ChangeShapes Go.WideShapes Go.ChangeAt Go.RowKit
set_option linter.unusedVariables false

/-- A step of the script. -/
structure Opn where
  kind : Int
  pages : Int
  old : Bool
  at_ : Nat
  base : Nat
  b : Nat
structure Opn.Ok (x : Opn) : Prop where
  k : InI x.kind
  p : InI x.pages
  a : x.at_ < 4294967296
  bs : x.base < 4294967296
  bb : x.b < 256
def Opn.cells (x : Opn) : Array Value := #[.int .i64 x.kind, .int .i64 x.pages, .bool x.old, .int .u32 x.at_, .int .u32 x.base, .int .u8 x.b]

/-- What a step may write. -/
def Sx (Wb B M : Nat) (f : Nat → Option Nat) (R P : Nat) (g : Nat → Option Nat) (d : Pd) (k : Nat) : Prop := k = Wb ∨ k = d.A ∨ k = d.A6 ∨ Mf B M f k ∨ Rf R P g k

def effT (kk : Nat) (d : Pd) : Nat := if kk ≤ 1 then tkTo d.pages d.t d.s else d.t
def effS (kk : Nat) (d : Pd) : Bool := if kk = 2 then true else d.s
/-- What a step leaves. -/
def StepEnd (w wr : World) (Wb B M n : Nat) (f : Nat → Option Nat) (R P : Nat) (g : Nat → Option Nat) (d : Pd) (o : Option Pd) (kk : Nat) (w' : World) : Prop :=
  ∃ f' m' g' d' o', Wd w w' Wb B M n f' m' R P g' m' d' d'.t d'.s d'.t d'.s o' ∧ Chg wr w' (Sx Wb B M f R P g d) ∧ (kk ≠ 5 → d'.A = d.A ∧ d'.A6 = d.A6 ∧ d'.p0 = d.p0 ∧ d'.pages = d.pages ∧ o' = o ∧ d'.t = effT kk d ∧ d'.s = effS kk d)

theorem code_chg {w0 w w' : World} {Wb B M : Nat} {f f1 : Nat → Option Nat} {R P : Nat} {g g1 : Nat → Option Nat} {d : Pd} (hc : Chg w0 w (Sx Wb B M f R P g d)) (hf : ∀ j x, f1 j = some x → f j = some x ∨ w0.heap.size ≤ x) (h : Chg w w' (fun k => k = d.A ∨ Mf B M f1 k)) : Chg w0 w' (Sx Wb B M f R P g d) := by
  refine hc.trans h ?_
  rintro i hi (e | e | e | ⟨p, hp⟩)
  · exact .inr (.inl e)
  · exact .inr (.inr (.inr (.inl (.inl e))))
  · exact .inr (.inr (.inr (.inl (.inr (.inl e)))))
  · rcases hf p i hp with e | e
    · exact .inr (.inr (.inr (.inl (.inr (.inr ⟨p, e⟩)))))
    · omega
theorem doc_chg {w0 w w' : World} {Wb B M : Nat} {f : Nat → Option Nat} {R P : Nat} {g g1 : Nat → Option Nat} {d : Pd} (hc : Chg w0 w (Sx Wb B M f R P g d)) (hf : ∀ j x, g1 j = some x → g j = some x ∨ w0.heap.size ≤ x) (h : Chg w w' (fun k => k = d.A6 ∨ Rf R P g1 k)) : Chg w0 w' (Sx Wb B M f R P g d) := by
  refine hc.trans h ?_
  rintro i hi (e | e | e | ⟨p, hp⟩)
  · exact .inr (.inr (.inl e))
  · exact .inr (.inr (.inr (.inr (.inl e))))
  · exact .inr (.inr (.inr (.inr (.inr (.inl e)))))
  · rcases hf p i hp with e | e
    · exact .inr (.inr (.inr (.inr (.inr (.inr ⟨p, e⟩)))))
    · omega
theorem Wd.sync {w wr : World} {Wb B M n : Nat} {f : Nat → Option Nat} {m1 : Nat → Nat} {R P : Nat} {g : Nat → Option Nat} {m2 : Nat → Nat} {d : Pd} {t : Nat} {s : Bool} {o : Option Pd} (h : Wd w wr Wb B M n f m1 R P g m2 d t s t s o) : Wd w wr Wb B M n f m1 R P g m2 ⟨d.A, d.A6, d.p0, d.pages, t, s⟩ t s t s o :=
  ⟨h.sd, h.box, h.yb, ⟨h.pr.a, h.pr.r, h.pr.le, h.pr.ya, h.pr.yr⟩, h.old⟩
def Sf (Wb B R Ob b : Nat) (w : World) : Prop := w.cell? ⟨Wb, 0, none⟩ = some (.pointer (some ⟨B, 0, none⟩)) ∧ w.cell? ⟨Wb, 1, none⟩ = some (.pointer (some ⟨R, 0, none⟩)) ∧ w.cell? ⟨Ob, 5, none⟩ = some (.int .u8 b)

set_option maxHeartbeats 2000000 in
set_option maxRecDepth 10000 in
theorem step_take (w wr : World) (Wb B M n : Nat) (f : Nat → Option Nat) (m : Nat → Nat) (R P : Nat) (g : Nat → Option Nat) (d : Pd) (o : Option Pd) (h : Wd w wr Wb B M n f m R P g m d d.t d.s d.t d.s o) (x : Opn) (hx : x.Ok) (ho : x.old = false ∨ o = none) (hk : pk x.kind 6 = 0 ∨ pk x.kind 6 = 1) :
    Calls Try.prog 21 #[.pointer (some ⟨Wb, 0, none⟩), .agg x.cells] wr fun e w' => e = .returned (.bool true) ∧ StepEnd w wr Wb B M n f R P g d o (pk x.kind 6) w' := by
  obtain ⟨kind, pages, old, at_, base, b⟩ := x
  obtain ⟨hx1, hx2, hx3, hx4, hx5⟩ := hx
  simp only at hx1 hx2 hx3 hx4 hx5 ho hk
  simp only [Opn.cells]
  obtain ⟨w1, hw1⟩ : ∃ w1, w1 = wr.alloc (.cells #[.int .i64 kind, .int .i64 pages, .bool old, .int .u32 at_, .int .u32 base, .int .u8 b] 56) := ⟨_, rfl⟩
  obtain ⟨Ob, hOb⟩ : ∃ Ob, Ob = wr.heap.size := ⟨_, rfl⟩
  have hC1 : Chg wr w1 (fun _ => False) := by rw [hw1]; exact (Chg.refl _ _).alloc _
  have hO1 : w1.heap[Ob]? = some (.cells #[.int .i64 kind, .int .i64 pages, .bool old, .int .u32 at_, .int .u32 base, .int .u8 b] 56 (0, 0)) := by rw [hw1, hOb]; exact heap_alloc_new wr _
  have h1 := h.same hC1
  have P6 : Calls Try.prog 6 #[.int .i64 kind, .int .i64 6] w1 _ := pick_any w1 kind 6 (by omega) (by omega) hx1.1 hx1.2
  obtain ⟨c0, c1, c2, c3, c4, c5⟩ := h1.cells
  have o0 : w1.cell? ⟨Ob, 0, none⟩ = some (.int .i64 kind) := by simpa using (cells_at hO1 0).1
  have o1 : w1.cell? ⟨Ob, 1, none⟩ = some (.int .i64 pages) := by simpa using (cells_at hO1 1).1
  have o2 : w1.cell? ⟨Ob, 2, none⟩ = some (.bool old) := by simpa using (cells_at hO1 2).1
  have o3 : w1.cell? ⟨Ob, 3, none⟩ = some (.int .u32 at_) := by simpa using (cells_at hO1 3).1
  have o4 : w1.cell? ⟨Ob, 4, none⟩ = some (.int .u32 base) := by simpa using (cells_at hO1 4).1
  have o5 : w1.cell? ⟨Ob, 5, none⟩ = some (.int .u8 b) := by simpa using (cells_at hO1 5).1
  have hC1' : Chg wr w1 (Sx Wb B M f R P g d) := hC1.mono (fun _ _ h => h.elim)
  have K1 : Hid (Wd w w1 Wb B M n f m R P g m d d.t d.s d.t d.s o ∧ Chg wr w1 (Sx Wb B M f R P g d) ∧ wr.heap.size ≤ w1.heap.size ∧ w1.heap[Ob]? = some (.cells #[.int .i64 kind, .int .i64 pages, .bool old, .int .u32 at_, .int .u32 base, .int .u8 b] 56 (0, 0))) := ⟨h1, hC1', hC1.size, hO1⟩
  clear h h1 hC1 hC1' hO1
  have ho : old = false ∨ (old = true ∧ o = none) := by
    cases old
    · exact .inl rfl
    · exact .inr ⟨rfl, ho.resolve_left (by simp)⟩
  rcases hk with hk | hk
  all_goals
   rw [hk] at P6
  all_goals rcases ho with rfl | ⟨rfl, rfl⟩
  all_goals
    go_enter Try.func21, Try.ntmps21
    go_upto_region 1 with fail
    rw [← hOb, ← hw1]
    have hOb' : Hid (Ob = wr.heap.size) := hOb
    clear hw1 hOb
    try simp only [show qA none = none from rfl] at c4
    go_wp2_with fail
    go_at_call 6
    refine P6.mono ?_
    rintro e wq ⟨rfl, hw⟩
    rw [hw]; clear hw wq
    have T1 := take_any w1 d.A B M n d.p0 d.pages d.t d.s f m K1.out.1.pr.a K1.out.1.sd.mem K1.out.1.pr.le
    obtain ⟨ta, hta⟩ : ∃ ta, ta = tkAt d.p0 d.pages d.t d.s := ⟨_, rfl⟩
    obtain ⟨te, hte⟩ : ∃ te, te = tkErr d.pages d.t d.s := ⟨_, rfl⟩
    rw [← hta, ← hte] at T1
    have HT : Hid (ta = tkAt d.p0 d.pages d.t d.s ∧ te = tkErr d.pages d.t d.s) := ⟨hta, hte⟩
    have hnum := num_any
    clear hta hte
    go_wp2_with fail
    go_at_call 9
    refine T1.mono ?_
    rintro e w2 ⟨rfl, hA2, f2, hM2, hC2, hn2⟩
    have h2 := K1.out.1.code hM2 hA2 hC2 hn2
    have hc2 := code_chg (g1 := g) K1.out.2.1 (fun _ _ h => .inl h) hC2
    have T2 := r6take_any w2 d.A6 R P n d.p0 d.pages d.t d.s g m h2.pr.r h2.sd.ref h2.pr.le
    rw [← HT.out.1, ← HT.out.2] at T2
    clear c0 c1 c2 c3 c4 c5 o0 o1 o2 o3 o4 o5 T1
    obtain ⟨c0, c1, c2, c3, c4, c5⟩ := h2.cells
    have K2 : Hid (Wd w w2 Wb B M n f2 _ R P g m d _ _ _ _ _ ∧ Chg wr w2 (Sx Wb B M f R P g d)) := ⟨h2, hc2⟩
    clear h2 hA2 hM2 hC2 hn2 hc2 K1
    go_wp2_with fail
    go_at_call 32
    refine T2.mono ?_
    rintro e w3 ⟨rfl, hA3, g3, hM3, hC3, hn3⟩
    have h3 := K2.out.1.doc hM3 hA3 hC3 hn3
    have hc3 := doc_chg K2.out.2 (fun _ _ h => .inl h) hC3
    have K3 : Hid (Wd w w3 Wb B M n f2 (tkM m d.p0 d.pages d.t d.s) R P g3 (tkM m d.p0 d.pages d.t d.s) d (tkTo d.pages d.t d.s) d.s (tkTo d.pages d.t d.s) d.s _ ∧ Chg wr w3 (Sx Wb B M f R P g d)) := ⟨h3, hc3⟩
    clear c0 c1 c2 c3 c4 c5 h3 hA3 hM3 hC3 hn3 hc3 T2 K2
    have b1 : ((ta : Int) == ta) = true := by simp
    have b2 : (te == te) = true := by simp
    go_wp2_with (first
      | (go_at_call 19; refine (hnum _ _).mono ?_; rintro e wq ⟨rfl, hw⟩; rw [hw]; clear hw wq)
      | fail)
    go_ret
    exact ⟨rfl, f2, _, g3, ⟨d.A, d.A6, d.p0, d.pages, tkTo d.pages d.t d.s, d.s⟩, _, K3.out.1.sync, K3.out.2, fun _ => ⟨rfl, rfl, rfl, rfl, rfl, by simp [effT, hk], by simp [effS, hk]⟩⟩

set_option maxHeartbeats 2000000 in
set_option maxRecDepth 10000 in
theorem step_seal (w wr : World) (Wb B M n : Nat) (f : Nat → Option Nat) (m : Nat → Nat) (R P : Nat) (g : Nat → Option Nat) (d : Pd) (o : Option Pd) (h : Wd w wr Wb B M n f m R P g m d d.t d.s d.t d.s o) (x : Opn) (hx : x.Ok) (ho : x.old = false ∨ o = none) (hk : pk x.kind 6 = 2) :
    Calls Try.prog 21 #[.pointer (some ⟨Wb, 0, none⟩), .agg x.cells] wr fun e w' => e = .returned (.bool true) ∧ StepEnd w wr Wb B M n f R P g d o (pk x.kind 6) w' := by
  obtain ⟨kind, pages, old, at_, base, b⟩ := x
  obtain ⟨hx1, hx2, hx3, hx4, hx5⟩ := hx
  simp only at hx1 hx2 hx3 hx4 hx5 ho hk
  simp only [Opn.cells]
  obtain ⟨w1, hw1⟩ : ∃ w1, w1 = wr.alloc (.cells #[.int .i64 kind, .int .i64 pages, .bool old, .int .u32 at_, .int .u32 base, .int .u8 b] 56) := ⟨_, rfl⟩
  obtain ⟨Ob, hOb⟩ : ∃ Ob, Ob = wr.heap.size := ⟨_, rfl⟩
  have hC1 : Chg wr w1 (fun _ => False) := by rw [hw1]; exact (Chg.refl _ _).alloc _
  have hO1 : w1.heap[Ob]? = some (.cells #[.int .i64 kind, .int .i64 pages, .bool old, .int .u32 at_, .int .u32 base, .int .u8 b] 56 (0, 0)) := by rw [hw1, hOb]; exact heap_alloc_new wr _
  have h1 := h.same hC1
  have P6 : Calls Try.prog 6 #[.int .i64 kind, .int .i64 6] w1 _ := pick_any w1 kind 6 (by omega) (by omega) hx1.1 hx1.2
  obtain ⟨c0, c1, c2, c3, c4, c5⟩ := h1.cells
  have o0 : w1.cell? ⟨Ob, 0, none⟩ = some (.int .i64 kind) := by simpa using (cells_at hO1 0).1
  have o1 : w1.cell? ⟨Ob, 1, none⟩ = some (.int .i64 pages) := by simpa using (cells_at hO1 1).1
  have o2 : w1.cell? ⟨Ob, 2, none⟩ = some (.bool old) := by simpa using (cells_at hO1 2).1
  have o3 : w1.cell? ⟨Ob, 3, none⟩ = some (.int .u32 at_) := by simpa using (cells_at hO1 3).1
  have o4 : w1.cell? ⟨Ob, 4, none⟩ = some (.int .u32 base) := by simpa using (cells_at hO1 4).1
  have o5 : w1.cell? ⟨Ob, 5, none⟩ = some (.int .u8 b) := by simpa using (cells_at hO1 5).1
  have hC1' : Chg wr w1 (Sx Wb B M f R P g d) := hC1.mono (fun _ _ h => h.elim)
  have K1 : Hid (Wd w w1 Wb B M n f m R P g m d d.t d.s d.t d.s o ∧ Chg wr w1 (Sx Wb B M f R P g d) ∧ wr.heap.size ≤ w1.heap.size ∧ w1.heap[Ob]? = some (.cells #[.int .i64 kind, .int .i64 pages, .bool old, .int .u32 at_, .int .u32 base, .int .u8 b] 56 (0, 0))) := ⟨h1, hC1', hC1.size, hO1⟩
  clear h h1 hC1 hC1' hO1
  have ho : old = false ∨ (old = true ∧ o = none) := by
    cases old
    · exact .inl rfl
    · exact .inr ⟨rfl, ho.resolve_left (by simp)⟩
  rw [hk] at P6
  rcases ho with rfl | ⟨rfl, rfl⟩
  all_goals
    go_enter Try.func21, Try.ntmps21
    go_upto_region 1 with fail
    rw [← hOb, ← hw1]
    have hOb' : Hid (Ob = wr.heap.size) := hOb
    clear hw1 hOb
    try simp only [show qA none = none from rfl] at c4
    go_wp2_with fail
    go_at_call 6
    refine P6.mono ?_
    rintro e wq ⟨rfl, hw⟩
    rw [hw]; clear hw wq
    have T1 := seal_any w1 d.A B d.p0 d.pages d.t d.s K1.out.1.pr.a
    go_wp2_with fail
    go_at_call 16
    refine T1.mono ?_
    rintro e w2 ⟨rfl, hA2, hC2⟩
    have hM2 : IsM w2 B M n f m := K1.out.1.sd.mem.other hC2 (fun k hk e => K1.out.1.sd.mem.no K1.out.1.pr.a.box (by decide) (e ▸ hk))
    have hC2' : Chg w1 w2 (fun k => k = d.A ∨ Mf B M f k) := hC2.mono (fun _ _ h => .inl h)
    have h2 := K1.out.1.code hM2 hA2 hC2' (fun _ _ h => .inl h)
    have hc2 := code_chg (g1 := g) K1.out.2.1 (fun _ _ h => .inl h) hC2'
    have T2 := r6seal_any w2 d.A6 R d.p0 d.pages d.t d.s h2.pr.r
    clear c0 c1 c2 c3 c4 c5 o0 o1 o2 o3 o4 o5 T1
    obtain ⟨c0, c1, c2, c3, c4, c5⟩ := h2.cells
    have K2 : Hid (Wd w w2 Wb B M n f m R P g m d _ _ _ _ _ ∧ Chg wr w2 (Sx Wb B M f R P g d)) := ⟨h2, hc2⟩
    clear h2 hA2 hM2 hC2 hC2' hc2 K1
    go_wp2_with fail
    go_at_call 33
    refine T2.mono ?_
    rintro e w3 ⟨rfl, hA3, hC3⟩
    have hM3 : IsR w3 R P n g m := K2.out.1.sd.ref.other hC3 (fun k hk e => K2.out.1.sd.ref.no K2.out.1.pr.r.box (by decide) (e ▸ hk))
    have hC3' : Chg w2 w3 (fun k => k = d.A6 ∨ Rf R P g k) := hC3.mono (fun _ _ h => .inl h)
    have h3 := K2.out.1.doc hM3 hA3 hC3' (fun _ _ h => .inl h)
    have hc3 := doc_chg K2.out.2 (fun _ _ h => .inl h) hC3'
    have K3 : Hid (Wd w w3 Wb B M n f m R P g m d d.t true d.t true _ ∧ Chg wr w3 (Sx Wb B M f R P g d)) := ⟨h3, hc3⟩
    clear c0 c1 c2 c3 c4 c5 h3 hA3 hM3 hC3 hC3' hc3 T2 K2
    go_wp2
    go_ret
    exact ⟨rfl, f, _, g, ⟨d.A, d.A6, d.p0, d.pages, d.t, true⟩, _, K3.out.1.sync, K3.out.2, fun _ => ⟨rfl, rfl, rfl, rfl, rfl, by simp [effT, hk], by simp [effS, hk]⟩⟩

set_option maxHeartbeats 2000000 in
set_option maxRecDepth 10000 in
theorem step_told (w wr : World) (Wb B M n : Nat) (f : Nat → Option Nat) (m : Nat → Nat) (R P : Nat) (g : Nat → Option Nat) (d : Pd) (o : Option Pd) (h : Wd w wr Wb B M n f m R P g m d d.t d.s d.t d.s o) (x : Opn) (hx : x.Ok) (ho : x.old = false ∨ o = none) (hk : pk x.kind 6 = 3) :
    Calls Try.prog 21 #[.pointer (some ⟨Wb, 0, none⟩), .agg x.cells] wr fun e w' => e = .returned (.bool true) ∧ StepEnd w wr Wb B M n f R P g d o (pk x.kind 6) w' := by
  obtain ⟨kind, pages, old, at_, base, b⟩ := x
  obtain ⟨hx1, hx2, hx3, hx4, hx5⟩ := hx
  simp only at hx1 hx2 hx3 hx4 hx5 ho hk
  simp only [Opn.cells]
  obtain ⟨w1, hw1⟩ : ∃ w1, w1 = wr.alloc (.cells #[.int .i64 kind, .int .i64 pages, .bool old, .int .u32 at_, .int .u32 base, .int .u8 b] 56) := ⟨_, rfl⟩
  obtain ⟨Ob, hOb⟩ : ∃ Ob, Ob = wr.heap.size := ⟨_, rfl⟩
  have hC1 : Chg wr w1 (fun _ => False) := by rw [hw1]; exact (Chg.refl _ _).alloc _
  have hO1 : w1.heap[Ob]? = some (.cells #[.int .i64 kind, .int .i64 pages, .bool old, .int .u32 at_, .int .u32 base, .int .u8 b] 56 (0, 0)) := by rw [hw1, hOb]; exact heap_alloc_new wr _
  have h1 := h.same hC1
  have P6 : Calls Try.prog 6 #[.int .i64 kind, .int .i64 6] w1 _ := pick_any w1 kind 6 (by omega) (by omega) hx1.1 hx1.2
  obtain ⟨c0, c1, c2, c3, c4, c5⟩ := h1.cells
  have o0 : w1.cell? ⟨Ob, 0, none⟩ = some (.int .i64 kind) := by simpa using (cells_at hO1 0).1
  have o1 : w1.cell? ⟨Ob, 1, none⟩ = some (.int .i64 pages) := by simpa using (cells_at hO1 1).1
  have o2 : w1.cell? ⟨Ob, 2, none⟩ = some (.bool old) := by simpa using (cells_at hO1 2).1
  have o3 : w1.cell? ⟨Ob, 3, none⟩ = some (.int .u32 at_) := by simpa using (cells_at hO1 3).1
  have o4 : w1.cell? ⟨Ob, 4, none⟩ = some (.int .u32 base) := by simpa using (cells_at hO1 4).1
  have o5 : w1.cell? ⟨Ob, 5, none⟩ = some (.int .u8 b) := by simpa using (cells_at hO1 5).1
  have hC1' : Chg wr w1 (Sx Wb B M f R P g d) := hC1.mono (fun _ _ h => h.elim)
  have K1 : Hid (Wd w w1 Wb B M n f m R P g m d d.t d.s d.t d.s o ∧ Chg wr w1 (Sx Wb B M f R P g d) ∧ wr.heap.size ≤ w1.heap.size ∧ w1.heap[Ob]? = some (.cells #[.int .i64 kind, .int .i64 pages, .bool old, .int .u32 at_, .int .u32 base, .int .u8 b] 56 (0, 0))) := ⟨h1, hC1', hC1.size, hO1⟩
  clear h h1 hC1 hC1' hO1
  have ho : old = false ∨ (old = true ∧ o = none) := by
    cases old
    · exact .inl rfl
    · exact .inr ⟨rfl, ho.resolve_left (by simp)⟩
  rw [hk] at P6
  rcases ho with rfl | ⟨rfl, rfl⟩
  all_goals
    go_enter Try.func21, Try.ntmps21
    go_upto_region 1 with fail
    rw [← hOb, ← hw1]
    have hOb' : Hid (Ob = wr.heap.size) := hOb
    clear hw1 hOb
    try simp only [show qA none = none from rfl] at c4
    go_wp2_with fail
    go_at_call 6
    refine P6.mono ?_
    rintro e wq ⟨rfl, hw⟩
    rw [hw]; clear hw wq
    have T1 := told_any w w1 Wb B M n f m R P g m d d.t d.s _ K1.out.1 at_ hx3
    go_wp2_with fail
    go_at_call 22
    refine T1.mono ?_
    rintro e w2 ⟨rfl, hC2⟩
    have K2 : Hid (Wd w w2 Wb B M n f m R P g m d d.t d.s d.t d.s _ ∧ Chg wr w2 (Sx Wb B M f R P g d)) := ⟨K1.out.1.same hC2, K1.out.2.1.trans hC2 (fun _ _ h => h.elim)⟩
    clear hC2 K1 T1
    go_wp2
    go_ret
    exact ⟨rfl, f, _, g, d, _, K2.out.1, K2.out.2, fun _ => ⟨rfl, rfl, rfl, rfl, rfl, by simp [effT, hk], by simp [effS, hk]⟩⟩
end Go.Proofs.Ytcmfkopcdlhdnaa
