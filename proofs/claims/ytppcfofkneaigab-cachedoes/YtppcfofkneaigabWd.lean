import Derived.Test.YtppcfofkneaigabNw
namespace Go.Proofs.Ytppcfofkneaigab
open Go.ChangeShapes Go.WideShapes Go.ChangeAt Go.RowKit
set_option linter.unusedVariables false

/-- Which of n things the raw number speaks of. -/
def pk (c : Int) (n : Nat) : Nat := (if c < 0 then -(c + 1) else c).toNat % n
theorem pk_lt (c : Int) (n : Nat) (h : 0 < n) : pk c n < n := Nat.mod_lt _ h
def InI (c : Int) : Prop := -9223372036854775808 ≤ c ∧ c ≤ 9223372036854775807

theorem al_old {w : World} (o : Obj) {k : Nat} {x : Obj} (h : w.heap[k]? = some x) : (w.alloc o).heap[k]? = some x := ((Chg.refl w (fun _ => False)).alloc o).heap h (fun h => h)
theorem al_size (w : World) (o : Obj) : (w.alloc o).heap.size = w.heap.size + 1 := by simp
def tS (i : Nat) : Nat := [1, 2, 4, 8, 16, 256].getD i 0
def tL (i : Nat) : Nat := [16, 32, 64, 256].getD i 0
theorem tS_get (i : Nat) (h : i < 6) : (#[Value.int .i64 1, .int .i64 2, .int .i64 4, .int .i64 8, .int .i64 16, .int .i64 256])[i]? = some (.int .i64 (tS i : Nat)) ∧ Pow (tS i) ∧ 1 ≤ tS i ∧ tS i ≤ 256 := by
  have : i = 0 ∨ i = 1 ∨ i = 2 ∨ i = 3 ∨ i = 4 ∨ i = 5 := by omega
  rcases this with rfl | rfl | rfl | rfl | rfl | rfl <;> exact ⟨rfl, by simp [tS, Pow], by decide, by decide⟩
theorem tL_get (i : Nat) (h : i < 4) : (#[Value.int .i64 16, .int .i64 32, .int .i64 64, .int .i64 256])[i]? = some (.int .i64 (tL i : Nat)) ∧ Pow (tL i) ∧ 16 ≤ tL i ∧ tL i ≤ 256 := by
  have : i = 0 ∨ i = 1 ∨ i = 2 ∨ i = 3 := by omega
  rcases this with rfl | rfl | rfl | rfl <;> exact ⟨rfl, by simp [tL, Pow], by decide, by decide⟩

end Go.Proofs.Ytppcfofkneaigab
namespace Go.Proofs.Ytppcfofkneaigab
open Go.ChangeShapes Go.WideShapes Go.ChangeAt Go.RowKit
set_option linter.unusedVariables false

theorem ptr_nil_no (b : Nat) (w : World) : (binOp BinOp.eql 39 (Value.pointer (some ⟨b, 0, none⟩)) (Value.pointer none)).run Try.prog w = .ok (.bool false) w := by
  kernel_rfl

end Go.Proofs.Ytppcfofkneaigab
namespace Go.Proofs.Ytppcfofkneaigab
open Go.ChangeShapes Go.WideShapes Go.ChangeAt Go.RowKit
set_option linter.unusedVariables false

/-- A list of uses that can be read. -/
structure UsesIn (w : World) (a : Option Addr) (len : Nat) (F : Nat → Nat × Bool) : Prop where
  src : len = 0 ∨ ∃ b off, a = some ⟨b, off, none⟩ ∧ b < w.heap.size ∧ ∀ i, i < len → w.cell? ⟨b, off + i * 2, none⟩ = some (.int .u32 ((F i).1 : Nat)) ∧ w.cell? ⟨b, off + i * 2 + 1, none⟩ = some (.bool (F i).2)
  lt : ∀ i, i < len → (F i).1 < 4294967296
  le : len ≤ 17592186043904
theorem UsesIn.kept {w w' : World} {a : Option Addr} {len : Nat} {F : Nat → Nat × Bool} (h : UsesIn w a len F) {S : Nat → Prop} (hc : Chg w w' S) (hS : ∀ k, k < w.heap.size → ¬ S k) : UsesIn w' a len F := by
  refine ⟨h.src.imp_right ?_, h.lt, h.le⟩
  rintro ⟨b, off, rfl, hb, hh⟩
  exact ⟨b, off, rfl, Nat.lt_of_lt_of_le hb hc.size, fun i hi => ⟨(hc.cell hb (hS b hb)).trans (hh i hi).1, (hc.cell hb (hS b hb)).trans (hh i hi).2⟩⟩

/-- What an access leaves. -/
def accS (sets ways line : Nat) (st : Nat → List Ln) (a : Nat) (wr : Bool) : Nat → List Ln := setS st (setOf sets line a) (useL (st (setOf sets line a)) (tagOf sets line a) ways wr)
def hitA (sets line : Nat) (st : Nat → List Ln) (a : Nat) : Bool := hitL (st (setOf sets line a)) (tagOf sets line a)
def backA (sets ways line : Nat) (st : Nat → List Ln) (a : Nat) : Bool := backL (st (setOf sets line a)) (tagOf sets line a) ways
theorem acc_any (w : World) (B sets ways line : Nat) (st : Nat → List Ln) (h : IsC w B sets ways line st) (a : Nat) (ha : a < 4294967296) (wr : Bool) :
    Calls Try.prog 18 #[.pointer (some ⟨B, 0, none⟩), .int .u32 a, .bool wr] w fun e w' => e = .returned (.agg #[.bool (hitA sets line st a), .bool (backA sets ways line st a), .int .i64 (cyc (hitA sets line st a) (backA sets ways line st a))]) ∧
      IsC w' B sets ways line (accS sets ways line st a wr) ∧ Chg w w' (fun k => k = B) := access_any w B sets ways line st h a ha wr

/-- The narrow one has the first lines of the wide one. -/
def Wide (n : Nat) (s1 s2 : Nat → List Ln) : Prop := ∀ k, tags (s1 k) = (tags (s2 k)).take n
theorem Wide.acc {n m sets line : Nat} {s1 s2 : Nat → List Ln} (h : Wide n s1 s2) (hn : 1 ≤ n) (hnm : n ≤ m) (hg : ∀ k, Good (s2 k) m) (a : Nat) (wr : Bool) :
    Wide n (accS sets n line s1 a wr) (accS sets m line s2 a wr) ∧ (hitA sets line s1 a = true → hitA sets line s2 a = true) := by
  have hw := wider (s1 (setOf sets line a)) (s2 (setOf sets line a)) (tagOf sets line a) n m wr wr hn hnm (hg _).le (h _)
  refine ⟨fun k => ?_, hw.2⟩
  unfold accS setS
  split
  · exact hw.1
  · exact h k

/-- All ways come to one. -/
theorem of_leaf {G X : Prop} (h : G) (k : G → X) : X := k h

/-- All ways come to one, in a world and with a block of its own each. -/
theorem of_leaf2 {G : Nat → World → Prop} {X : Prop} (P : Nat → World → Prop) (h : ∀ p w, P p w → G p w) (k : (∀ p w, P p w → G p w) → X) : X := k h

/-- A variable of three cells is written. -/
theorem box3 {w V : World} {p : Nat} {a b c : Value} {T : TypeId} (h : w.heap[p]? = some (.cells #[a, b, c] T (0, 0))) (x y z : Value) (hV : V = (((w.setCell ⟨p, 0, none⟩ x).setCell ⟨p, 1, none⟩ y).setCell ⟨p, 2, none⟩ z)) :
    V.heap[p]? = some (.cells #[x, y, z] T (0, 0)) ∧ V.heap.size = w.heap.size ∧ Chg w V (fun k => k = p) := by
  subst hV
  have h1 := heap_setCell_same w p 0 _ T x h
  have h2 := heap_setCell_same _ p 1 _ T y h1
  have h3 := heap_setCell_same _ p 2 _ T z h2
  refine ⟨h3, by simp [World.setCell], ?_⟩
  exact Chg.setCell (S := fun k => k = p) (Chg.setCell (S := fun k => k = p) (Chg.setCell (S := fun k => k = p) (Chg.refl w _) (.inl rfl) _) (.inl rfl) _) (.inl rfl) _
theorem cells3 {w : World} {p : Nat} {a b c : Value} {T : TypeId} (h : w.heap[p]? = some (.cells #[a, b, c] T (0, 0))) :
    w.cell? ⟨p, 0, none⟩ = some a ∧ w.cell? ⟨p, 1, none⟩ = some b ∧ w.cell? ⟨p, 2, none⟩ = some c ∧ w.frozen? ⟨p, 0, none⟩ = false ∧ w.frozen? ⟨p, 1, none⟩ = false ∧ w.frozen? ⟨p, 2, none⟩ = false :=
  ⟨by rw [(cells_at h _).1]; rfl, by rw [(cells_at h _).1]; rfl, by rw [(cells_at h _).1]; rfl, (cells_at h _).2, (cells_at h _).2, (cells_at h _).2⟩

/-- Behind an access and its variable, in either order. -/
structure Leaf (wr : World) (B sets ways line : Nat) (st : Nat → List Ln) (hit back : Bool) (p : Nat) (w6 : World) : Prop where
  res : w6.heap[p]? = some (.cells #[.bool hit, .bool back, .int .i64 (cyc hit back)] 56 (0, 0))
  isc : IsC w6 B sets ways line st
  chg : Chg wr w6 (fun k => k = B)
  new : wr.heap.size ≤ p
theorem leafA {wr w5 w6 : World} {B sets ways line : Nat} {st : Nat → List Ln} {hit back : Bool} {p : Nat} (hw : w6 = w5.alloc (.cells #[.bool hit, .bool back, .int .i64 (cyc hit back)] 56)) (hp : p = w5.heap.size) (hI : IsC w5 B sets ways line st) (hC : Chg wr.drew w5 (fun k => k = B)) : Leaf wr B sets ways line st hit back p w6 := by
  subst hw hp
  have hc : Chg wr w5 (fun k => k = B) := (Chg.refl wr _).drew.trans hC (fun _ _ h => h)
  exact ⟨heap_alloc_new w5 _, hI.kept ((Chg.refl w5 (fun _ => False)).alloc _) (fun h => h), hc.alloc _, hc.size⟩
theorem leafB {wr w5 w6 : World} {B sets ways line : Nat} {st : Nat → List Ln} {hit back : Bool} {p : Nat} (hp : p = wr.heap.size) (hw : w6 = ((w5.setCell ⟨p, 0, none⟩ (.bool hit)).setCell ⟨p, 1, none⟩ (.bool back)).setCell ⟨p, 2, none⟩ (.int .i64 (cyc hit back)))
    (hB : B < wr.heap.size) (hI : IsC w5 B sets ways line st) (hC : Chg (wr.alloc (.cells #[.bool false, .bool false, .int .i64 0] 56)).drew w5 (fun k => k = B)) : Leaf wr B sets ways line st hit back p w6 := by
  have h1 := hC.heap (k := p) (o := .cells #[.bool false, .bool false, .int .i64 0] 56 (0, 0)) (by rw [hp]; exact heap_alloc_new wr _) (by omega)
  obtain ⟨v1, v2, v3⟩ := box3 h1 _ _ _ hw
  refine ⟨v1, hI.kept v3 (by omega), ?_, by omega⟩
  refine (((Chg.refl wr (fun k => k = B)).alloc _).drew.trans hC (fun _ _ h => h)).trans v3 (fun i hi e => by omega)

end Go.Proofs.Ytppcfofkneaigab
