import Derived.Test.YtknlpjcdemijgaaGreatXk
import Derived.Test.YtknlpjcdemijgaaGreatXb
import Derived.Test.YtknlpjcdemijgaaGreatXc
import Derived.Test.YtknlpjcdemijgaaGreatXd
import Derived.Test.YtknlpjcdemijgaaGreatXe
namespace Go.Proofs.YtknlpjcdemijgaaGreat
open Go.ChangeShapes Go.WideShapes Go.ChangeAt Go.RowKit
set_option linter.unusedVariables false
section
variable {w wi w' : World} {X B M : Nat} {v : Value} {x x' : WX}
theorem XE.refl (h : IsX w X B M v x) : XE w w X B M v x := XE.of_kp h (Kp.refl w)
theorem XE.cell (h : XE w wi X B M v x) {b o : Nat} {u : Value} (hb : ¬ Xf X B M v b) (hc : w.cell? ⟨b, o, none⟩ = some u) : wi.cell? ⟨b, o, none⟩ = some u := (h.cells hb hc).1
theorem XE.next (hE : XE w wi X B M v x) {F : Nat} {args : Array Value} (C : ∀ v', IsX wi.drew X B M v' x → (∀ b, b < w.heap.size → ¬ Xf X B M v b → ¬ Xf X B M v' b) → Calls Tryz.prog F args wi.drew fun r w' => r = .returned (.tuple #[]) ∧ XE wi.drew w' X B M v' x') :
  Calls Tryz.prog F args wi.drew fun e x1 => e = .returned (.tuple #[]) ∧ True ∧ XE w x1 X B M v x' := by
 obtain ⟨v1, i1, c1, l1⟩ := hE
 refine (C v1 (i1.kp (Kp.drew wi)) (fun b hb n e => n (l1.xf hb e))).mono ?_
 rintro r w' ⟨rfl, q⟩
 refine ⟨rfl, trivial, ?_⟩
 obtain ⟨v2, i2, c2, l2⟩ := q.pre (Kp.drew wi) (fun k e => i1.lt e)
 exact ⟨v2, i2, c1.trans c2 (fun b hb e => l1.xf hb e), l1.trans l2 c1.size⟩
theorem XE.step (hE : XE w wi X B M v x) {F : Nat} {args : Array Value} (C : ∀ v', IsX wi X B M v' x → (∀ b, b < w.heap.size → ¬ Xf X B M v b → ¬ Xf X B M v' b) → Calls Tryz.prog F args wi fun r w' => r = .returned (.tuple #[]) ∧ XE wi w' X B M v' x') :
  Calls Tryz.prog F args wi fun e x1 => e = .returned (.tuple #[]) ∧ XE w x1 X B M v x' := by
 obtain ⟨v1, i1, c1, l1⟩ := hE
 refine (C v1 i1 (fun b hb n e => n (l1.xf hb e))).mono ?_
 rintro r w' ⟨rfl, v2, i2, c2, l2⟩
 exact ⟨rfl, v2, i2, c1.trans c2 (fun b hb e => l1.xf hb e), l1.trans l2 c1.size⟩
end
structure Rg where
 v : Int
 p : Int
 n : Int
 m : Int
structure Rg.ok (r : Rg) : Prop where
 v : 0 ≤ r.v ∧ r.v < 4294967296
 p : 0 ≤ r.p ∧ r.p < 4294967296
 n : -9223372036854775808 ≤ r.n ∧ r.n ≤ 9223372036854775807
 m : 0 ≤ r.m ∧ r.m < 256
def Rg.cells (r : Rg) : List Value := [.int .u32 r.v, .int .u32 r.p, .int .i64 r.n, .int .u8 r.m]
structure Wi where
 c : Int
 s : Int
 l : Int
structure Wi.ok (r : Wi) : Prop where
 c : -9223372036854775808 ≤ r.c ∧ r.c ≤ 9223372036854775807
 s : 0 ≤ r.s ∧ r.s < 18446744073709551616
 l : 0 ≤ r.l ∧ r.l < 18446744073709551616
def Wi.cells (r : Wi) : List Value := [.int .i64 r.c, .int .u64 r.s, .int .u64 r.l]
structure Qu where
 w : Int
 r : Int
 s : Int
 d : Int
 q : Int
 f : Bool
structure Qu.ok (z : Qu) : Prop where
 w : -9223372036854775808 ≤ z.w ∧ z.w ≤ 9223372036854775807
 r : -9223372036854775808 ≤ z.r ∧ z.r ≤ 9223372036854775807
 s : -9223372036854775808 ≤ z.s ∧ z.s ≤ 9223372036854775807
 d : -9223372036854775808 ≤ z.d ∧ z.d ≤ 9223372036854775807
 q : -9223372036854775808 ≤ z.q ∧ z.q ≤ 9223372036854775807
def Qu.cells (r : Qu) : List Value := [.int .i64 r.w, .int .i64 r.r, .int .i64 r.s, .int .i64 r.d, .int .i64 r.q, .bool r.f]
def At (w : World) (b o : Nat) (l : List Value) : Prop := ∀ i u, l[i]? = some u → w.cell? ⟨b, o + i, none⟩ = some u
def WX.rg (x : WX) (r : Rg) : WX := ((((x.raw (le r.v.toNat 4)).raw (le r.p.toNat 4)).num 4 r.n).raw (le r.m.toNat 1)).pad
def WX.wi (x : WX) (r : Wi) : WX := (((x.num 1 r.c).pad).raw (le r.s.toNat 8)).raw (le r.l.toNat 8)
def WX.qu (x : WX) (r : Qu) : WX := (((((((x.num 1 r.w).num 1 r.r).num 2 r.s).num 2 r.d).num 2 r.q).raw (le (if r.f then 1 else 0) 1))).pad
end Go.Proofs.YtknlpjcdemijgaaGreat
