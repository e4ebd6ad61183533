import Derived.Test.YtknlpjcdemijgaaGreatZj
namespace Go.Proofs.YtknlpjcdemijgaaGreat
open Go.ChangeShapes Go.WideShapes Go.ChangeAt Go.RowKit
set_option linter.unusedVariables false
theorem fields24 : Tryz.prog.underlying 24 = some (.struct (Tryz.prog.fieldsOf 24)) := by simp [Program.fieldsOf, Tryz.underlying24]
theorem stood24 : Tryz.prog.stoodInHeld 24 = false := by kernel_rfl
theorem sameCf (g h : Cf) : g = h ↔ (g.m.pg = h.m.pg) ∧ (g.m.ob = h.m.ob) ∧ (g.m.op = h.m.op) ∧ (g.m.st = h.m.st ∧ g.m.wy = h.m.wy ∧ g.m.li = h.m.li) ∧ (g.m.sl = h.m.sl) ∧ (g.m.mj = h.m.mj) ∧ (g.cs = h.cs) ∧ (g.ws = h.ws) ∧ (g.ss = h.ss) ∧ (g.qs = h.qs) := by
 constructor
 ·rintro rfl; simp
 ·rintro ⟨h1, h2, h3, ⟨h4, h5, h6⟩, h7, h8, h9, h10, h11, h12⟩
  obtain ⟨m, _, _, _, _⟩ := g
  obtain ⟨n, _, _, _, _⟩ := h
  cases m; cases n
  simp_all
def Two (w : World) (B : Nat) (u v : Array Value) : Prop := w.heap[B]? = some (.cells u 31 (0, 0)) ∧ w.heap[B + 1]? = some (.cells v 31 (0, 0))
theorem Two.kp {w w' : World} {B : Nat} {u v : Array Value} (h : Two w B u v) (k : Kp w w') : Two w' B u v := ⟨k.heap h.1, k.heap h.2⟩
theorem WiAts.kp {w wi : World} {N : Nat} {la : Option Addr} {xs : List Wi} (h : RdL w N 3 WiAt la xs) (k : Kp w wi) : RdL wi N 3 WiAt la xs := h.mono fun b o y _ p => ⟨p.1.kp k, p.2⟩
theorem QuAts.kp {w wi : World} {N : Nat} {la : Option Addr} {xs : List Qu} (h : RdL w N 6 QuAt la xs) (k : Kp w wi) : RdL wi N 6 QuAt la xs := h.mono fun b o y _ p => ⟨p.1.kp k, p.2⟩
theorem CeAts.kp {w wi : World} {N : Nat} {la : Option Addr} {xs : List Ce} (h : RdL w N 4 (CeAt N) la xs) (k : Kp w wi) : RdL wi N 4 (CeAt N) la xs := h.mono fun b o y _ p => p.kp k
theorem SaAts.kp {w wi : World} {N : Nat} {la : Option Addr} {xs : List Sa} (h : RdL w N 3 (SaAt N) la xs) (k : Kp w wi) : RdL wi N 3 (SaAt N) la xs := h.mono fun b o y _ p => p.kp k

end Go.Proofs.YtknlpjcdemijgaaGreat
