import Derived.Test.YtcmfkopcdlhdnaaFa
import Derived.Test.YtcmfkopcdlhdnaaCl
namespace Go.Proofs.Ytcmfkopcdlhdnaa
open Go.ChangeShapes Go.WideShapes Go.ChangeAt Go.RowKit
set_option linter.unusedVariables false

/-- Numbers of 32 bits that can be read. -/
structure WordsIn (w : World) (a : Option Addr) (len : Nat) (Z : Nat → Nat) : Prop where
  src : len = 0 ∨ ∃ b off, a = some ⟨b, off, none⟩ ∧ b < w.heap.size ∧ ∀ i, i < len → w.cell? ⟨b, off + i, none⟩ = some (.int .u32 (Z i : Nat))
  le : len ≤ 35184372087808
  u32 : ∀ i, Z i < 4294967296
theorem WordsIn.kept {w w' : World} {a : Option Addr} {len : Nat} {Z : Nat → Nat} (h : WordsIn w a len Z) (hc : Chg w w' (fun _ => False)) : WordsIn w' a len Z := by
  refine ⟨h.src.imp_right ?_, h.le, h.u32⟩
  rintro ⟨b, off, rfl, hb, hh⟩
  exact ⟨b, off, rfl, Nat.lt_of_lt_of_le hb hc.size, fun i hi => (hc.cell hb (fun h => h)).trans (hh i hi)⟩

/-- A memory younger than w. -/
structure Ym (w wr : World) (B M n : Nat) (f : Nat → Option Nat) (m : Nat → Nat) : Prop where
  mem : IsM wr B M n f m
  yg : ∀ k, Mf B M f k → w.heap.size ≤ k
  chg : Chg w wr (fun _ => False)
theorem Ym.step {w wr w' : World} {B M n : Nat} {f f' : Nat → Option Nat} {m m' : Nat → Nat} (h : Ym w wr B M n f m) (h1 : IsM w' B M n f' m') (h2 : Chg wr w' (Mf B M f)) (h3 : ∀ j x, f' j = some x → f j = some x ∨ wr.heap.size ≤ x) : Ym w w' B M n f' m' := by
  refine ⟨h1, ?_, h.chg.trans h2 (fun i hi e => by have := h.yg i e; omega)⟩
  rintro k (e | e | ⟨p, hp⟩)
  · exact h.yg k (.inl e)
  · exact h.yg k (.inr (.inl e))
  · rcases h3 p k hp with e | e
    · exact h.yg k (.inr (.inr ⟨p, e⟩))
    · have := h.chg.size; omega

/-- An arena, its memory, and beside them a copy of that. -/
structure Apt (w wr : World) (A B M n p0 cnt i : Nat) (s : Bool) (f : Nat → Option Nat) (m : Nat → Nat) (B' M' : Nat) (f' : Nat → Option Nat) (m0 : Nat → Nat) : Prop where
  y : Yg w wr A B M n p0 cnt i s f m
  cl : IsM wr B' M' n f' m0
  yc : ∀ k, Mf B' M' f' k → w.heap.size ≤ k
  dis : ∀ k, Mf B' M' f' k → ¬ Mf B M f k ∧ k ≠ A
section
variable {w wr w2 : World} {A B M n p0 cnt i : Nat} {s : Bool} {f : Nat → Option Nat} {m : Nat → Nat} {B' M' : Nat} {f' : Nat → Option Nat} {m0 : Nat → Nat}
theorem Apt.same (h : Apt w wr A B M n p0 cnt i s f m B' M' f' m0) (hc : Chg wr w2 (fun _ => False)) : Apt w w2 A B M n p0 cnt i s f m B' M' f' m0 :=
  ⟨h.y.same hc, h.cl.other hc (fun _ _ h => h), h.yc, h.dis⟩
theorem Apt.take (h : Apt w wr A B M n p0 cnt i false f m B' M' f' m0) (hn : p0 + cnt ≤ n) (hi : i < cnt) :
    Calls Try.prog 9 #[.pointer (some ⟨A, 0, none⟩)] wr fun e w' => e = .returned (.tuple #[.int .u32 (4096 * (p0 + i) : Nat), .int .i64 0]) ∧ ∃ f2, Apt w w' A B M n p0 cnt (i + 1) false f2 (fillN m (4096 * (p0 + i)) 4096 0) B' M' f' m0 := by
  refine (h.y.take hn hi).mono ?_
  rintro e w' ⟨rfl, f2, h1, h2, h3⟩
  refine ⟨rfl, f2, h1, h.cl.other h2 ?_, h.yc, ?_⟩
  · rintro k hk (e | e)
    · exact (h.dis k hk).2 e
    · exact (h.dis k hk).1 e
  · intro k hk
    refine ⟨?_, (h.dis k hk).2⟩
    rintro (e | e | ⟨p, hp⟩)
    · exact (h.dis k hk).1 (.inl e)
    · exact (h.dis k hk).1 (.inr (.inl e))
    · rcases h3 p k hp with e | e
      · exact (h.dis k hk).1 (.inr (.inr ⟨p, e⟩))
      · have := h.cl.lt k hk; omega
theorem Apt.seal (h : Apt w wr A B M n p0 cnt i s f m B' M' f' m0) :
    Calls Try.prog 16 #[.pointer (some ⟨A, 0, none⟩)] wr fun e w' => e = .returned (.tuple #[]) ∧ Apt w w' A B M n p0 cnt i true f m B' M' f' m0 := by
  refine (seal_any wr A B p0 cnt i s h.y.ar).mono ?_
  rintro e w' ⟨rfl, h1, h2⟩
  exact ⟨rfl, ⟨h1, h.y.mem.other h2 (fun k hk e => h.y.ap (e ▸ hk)), h.y.ap, h.y.yg, h.y.ya, h.y.chg.trans h2 (fun k hk e => by have := h.y.ya; omega)⟩, h.cl.other h2 (fun k hk e => (h.dis k hk).2 e), h.yc, h.dis⟩
end

/-- The bytes when so many pages are taken. -/
def tkN (m : Nat → Nat) (p0 k : Nat) : Nat → Nat := fillN m (4096 * p0) (4096 * k) 0
theorem tkN_zero (m : Nat → Nat) (p0 : Nat) : tkN m p0 0 = m := fillN_zero m _ 0
theorem tkN_step (m : Nat → Nat) (p0 k : Nat) : fillN (tkN m p0 k) (4096 * (p0 + k)) 4096 0 = tkN m p0 (k + 1) := by
  funext x
  unfold tkN fillN
  by_cases h : 4096 * (p0 + k) ≤ x ∧ x < 4096 * (p0 + k) + 4096
  · rw [if_pos h, if_pos (by omega)]
  · rw [if_neg h]
    by_cases h2 : 4096 * p0 ≤ x ∧ x < 4096 * p0 + 4096 * k
    · rw [if_pos h2, if_pos (by omega)]
    · rw [if_neg h2, if_neg (by omega)]
theorem tkN_in (m : Nat → Nat) (p0 k i j : Nat) (hj : j < 4096) (h : p0 ≤ i ∧ i < p0 + k) : tkN m p0 k (4096 * i + j) = 0 := by
  unfold tkN fillN; rw [if_pos (by omega)]
theorem tkN_out (m : Nat → Nat) (p0 k i j : Nat) (hj : j < 4096) (h : ¬ (p0 ≤ i ∧ i < p0 + k)) : tkN m p0 k (4096 * i + j) = m (4096 * i + j) := by
  unfold tkN fillN; rw [if_neg (by omega)]
end Go.Proofs.Ytcmfkopcdlhdnaa
