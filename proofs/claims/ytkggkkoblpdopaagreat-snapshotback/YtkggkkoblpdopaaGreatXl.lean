import Derived.Test.YtkggkkoblpdopaaGreatXk
import Derived.Test.YtkggkkoblpdopaaGreatXb
import Derived.Test.YtkggkkoblpdopaaGreatXc
import Derived.Test.YtkggkkoblpdopaaGreatXd
import Derived.Test.YtkggkkoblpdopaaGreatXe
namespace Go.Proofs.YtkggkkoblpdopaaGreat
open Go.ChangeShapes Go.WideShapes Go.ChangeAt Go.RowKit
set_option linter.unusedVariables false
section
variable {w wi w' : World} {X B M N : Nat} {v : Value} {x x' : WX}
theorem XE.next (hE : XE w wi X B M v x) {F : Nat} {args : Array Value} (C : ∀ v', IsX wi.drew X B M v' x → (∀ b, b < w.heap.size → ¬ Xf X B M v b → ¬ Xf X B M v' b) → Calls Tryz.prog F args wi.drew fun r w' => r = .returned (.tuple #[]) ∧ XE wi.drew w' X B M v' x') :
  Calls Tryz.prog F args wi.drew fun e x1 => e = .returned (.tuple #[]) ∧ True ∧ XE w x1 X B M v x' := by
 obtain ⟨v1, i1, c1, l1⟩ := hE
 refine (C v1 (i1.kp (Kp.drew wi)) (fun b hb n e => n (l1.xf hb e))).mono ?_
 rintro r w' ⟨rfl, q⟩
 refine ⟨rfl, trivial, ?_⟩
 obtain ⟨v2, i2, c2, l2⟩ := q.pre (Kp.drew wi) (fun k e => i1.lt e)
 exact ⟨v2, i2, c1.trans c2 (fun b hb e => l1.xf hb e), l1.trans l2 c1.size⟩
theorem XE.step (hE : XE w wi X B M v x) {F : Nat} {args : Array Value} (C : ∀ v', IsX wi X B M v' x → (∀ b, b < w.heap.size → ¬ Xf X B M v b → ¬ Xf X B M v' b) → Calls Tryz.prog F args wi fun r w' => r = .returned (.tuple #[]) ∧ XE wi w' X B M v' x') :
  Calls Tryz.prog F args wi fun e x1 => e = .returned (.tuple #[]) ∧ XE w x1 X B M v x' := by
 obtain ⟨v1, i1, c1, l1⟩ := hE
 refine (C v1 i1 (fun b hb n e => n (l1.xf hb e))).mono ?_
 rintro r w' ⟨rfl, v2, i2, c2, l2⟩
 exact ⟨rfl, v2, i2, c1.trans c2 (fun b hb e => l1.xf hb e), l1.trans l2 c1.size⟩
theorem XE.kpr (h : XE w wi X B M v x) (hk : Kp wi w') : XE w w' X B M v x := by
 obtain ⟨v1, i1, c1, l1⟩ := h
 exact ⟨v1, i1.kp hk, c1.trans hk (fun _ _ e => e.elim), l1⟩
def Hi (N X B M : Nat) (v : Value) : Prop := ∀ k, Xf X B M v k → N ≤ k
theorem Hi.no (h : Hi N X B M v) {b : Nat} (hb : b < N) : ¬ Xf X B M v b := fun e => by have := h b e; omega
theorem Hi.of (hN : Hi N X B M v) (hw : N ≤ w.heap.size) {v' : Value} (nb : ∀ b, b < w.heap.size → ¬ Xf X B M v b → ¬ Xf X B M v' b) : Hi N X B M v' := fun k e => by
 rcases Nat.lt_or_ge k N with hk | hk
 ·exact absurd e (nb k (by omega) (hN.no hk))
 ·exact hk
theorem XE.size (h : XE w wi X B M v x) : w.heap.size ≤ wi.heap.size := by
 obtain ⟨v1, i1, c1, l1⟩ := h
 exact c1.size
def At (w : World) (b o : Nat) (l : List Value) : Prop := ∀ i u, l[i]? = some u → w.cell? ⟨b, o + i, none⟩ = some u
theorem At.xe {b o : Nat} {l : List Value} (h : At w b o l) (hE : XE w wi X B M v x) (hb : ¬ Xf X B M v b) : At wi b o l := fun i u hu => hE.cell hb (h i u hu)
theorem At.kp {b o : Nat} {l : List Value} (h : At w b o l) (hE : Kp w wi) : At wi b o l := fun i u hu => hE.cell (h i u hu)
def i64ok (n : Int) : Prop := -9223372036854775808 ≤ n ∧ n ≤ 9223372036854775807
def u64ok (n : Int) : Prop := 0 ≤ n ∧ n < 18446744073709551616
def u32ok (n : Int) : Prop := 0 ≤ n ∧ n < 4294967296
def u8ok (n : Int) : Prop := 0 ≤ n ∧ n < 256
def RdB (w : World) (N : Nat) (a : Option Addr) (bs : List Int) : Prop := Bs w a bs.length bs ∧ ∀ k q, a = some ⟨k, q, none⟩ → 0 < bs.length → k < N
theorem RdB.xe {a : Option Addr} {bs : List Int} (h : RdB w N a bs) (hE : XE w wi X B M v x) (hN : Hi N X B M v) : RdB wi N a bs := by
 obtain ⟨v1, i1, c1, l1⟩ := hE
 exact ⟨h.1.chg c1 (fun k q e hn => hN.no (h.2 k q e hn)), h.2⟩
theorem RdB.kp {a : Option Addr} {bs : List Int} (h : RdB w N a bs) (hk : Kp w wi) : RdB wi N a bs := ⟨h.1.chg hk (fun _ _ _ _ e => e), h.2⟩
def RdL {α : Type} (w : World) (N sz : Nat) (P : World → Nat → Nat → α → Prop) (la : Option Addr) (xs : List α) : Prop := xs.length ≤ 140737488355328 ∧ (xs.length = 0 ∨ ∃ b o, la = some ⟨b, o, none⟩ ∧ b < N ∧ ∀ i (h : i < xs.length), P w b (o + i * sz) xs[i])
theorem RdL.xe {α : Type} {sz : Nat} {P : World → Nat → Nat → α → Prop} {la : Option Addr} {xs : List α} (h : RdL w N sz P la xs) (hE : XE w wi X B M v x) (hP : ∀ b o y, b < N → P w b o y → P wi b o y) : RdL wi N sz P la xs := by
 refine ⟨h.1, ?_⟩
 rcases h.2 with e | ⟨b, o, e, hb, hc⟩
 ·exact .inl e
 ·exact .inr ⟨b, o, e, hb, fun i hi => hP _ _ _ hb (hc i hi)⟩
def WX.rowL {α : Type} (x : WX) (f : WX → α → WX) (l : List α) : WX := WX.upto (fun y k => (l[k]?).elim y (f y)) (x.num 4 (l.length : Nat)) l.length
end
structure Mg where
 d : List Int
 t : Int
def MgAt (N : Nat) (w : World) (b o : Nat) (r : Mg) : Prop := u64ok r.t ∧ ∃ a c, At w b o [.slice a r.d.length c, .int .u64 r.t] ∧ RdB w N a r.d
def WX.mg (x : WX) (r : Mg) : WX := (x.raw (le r.t.toNat 8)).bytes r.d
structure Pg where
 n : Int
 d : List Int
def PgAt (N : Nat) (w : World) (b o : Nat) (r : Pg) : Prop := u32ok r.n ∧ ∃ a c, At w b o [.int .u32 r.n, .slice a r.d.length c] ∧ RdB w N a r.d
def WX.pg (x : WX) (r : Pg) : WX := (x.raw (le r.n.toNat 4)).bytes r.d
structure Lne where
 s : Int
 t : Int
 d : Bool
structure Lne.ok (r : Lne) : Prop where
 s : u32ok r.s
 t : u32ok r.t
def Lne.cells (r : Lne) : List Value := [.int .u32 r.s, .int .u32 r.t, .bool r.d]
def LneAt (w : World) (b o : Nat) (r : Lne) : Prop := At w b o r.cells ∧ r.ok
def WX.lne (x : WX) (r : Lne) : WX := (((x.raw (le r.s.toNat 4)).raw (le r.t.toNat 4)).raw (le (if r.d then 1 else 0) 1)).pad
structure Slt where
 c : Int
 p : Int
 f : Int
 m : Int
structure Slt.ok (r : Slt) : Prop where
 c : i64ok r.c
 p : u32ok r.p
 f : u32ok r.f
 m : u8ok r.m
def Slt.cells (r : Slt) : List Value := [.int .i64 r.c, .int .u32 r.p, .int .u32 r.f, .int .u8 r.m]
def SltAt (w : World) (b o : Nat) (r : Slt) : Prop := At w b o r.cells ∧ r.ok
def WX.slt (x : WX) (r : Slt) : WX := ((((x.num 4 r.c).raw (le r.p.toNat 4)).raw (le r.f.toNat 4)).raw (le r.m.toNat 1)).pad
structure Arr where
 t : Int
 l : Int
structure Arr.ok (r : Arr) : Prop where
 t : u64ok r.t
 l : i64ok r.l
def Arr.cells (r : Arr) : List Value := [.int .u64 r.t, .int .i64 r.l]
def ArrAt (w : World) (b o : Nat) (r : Arr) : Prop := At w b o r.cells ∧ r.ok
def WX.arr (x : WX) (r : Arr) : WX := ((x.raw (le r.t.toNat 8)).num 1 r.l).pad
structure Cel where
 r : List Int
 pc : Int
 ve : Int
 ba : Int
 on : Bool
 hd : Bool
 ha : Bool
structure Cel.ok (z : Cel) : Prop where
 l : z.r.length = 16
 r : ∀ n ∈ z.r, u32ok n
 pc : u32ok z.pc
 ve : u32ok z.ve
 ba : u32ok z.ba
def Cel.cells (z : Cel) : List Value := z.r.map (.int .u32) ++ [.int .u32 z.pc, .int .u32 z.ve, .int .u32 z.ba, .bool z.on, .bool z.hd, .bool z.ha]
def CelAt (w : World) (b o : Nat) (z : Cel) : Prop := At w b o z.cells ∧ z.ok
def WX.words (x : WX) (l : List Int) : WX := l.foldl (fun x n => x.raw (le n.toNat 4)) x
def WX.nums1 (x : WX) (l : List Int) : WX := l.foldl (fun x n => x.num 1 n) x
def WX.cel (x : WX) (z : Cel) : WX := (((((((x.words z.r).raw (le z.pc.toNat 4)).raw (le z.ve.toNat 4)).raw (le z.ba.toNat 4)).raw (le (if z.on then 1 else 0) 1)).raw (le (if z.hd then 1 else 0) 1)).raw (le (if z.ha then 1 else 0) 1)).pad
structure Gi where
 r : List Int
 p : Int
 m : Int
structure Gi.ok (z : Gi) : Prop where
 l : z.r.length = 32
 r : ∀ n ∈ z.r, i64ok n
 p : u32ok z.p
 m : u32ok z.m
def Gi.cells (z : Gi) : List Value := z.r.map (.int .i64) ++ [.int .u32 z.p, .int .u32 z.m]
def WX.gi (x : WX) (z : Gi) : WX := ((x.nums1 z.r).raw (le z.p.toNat 4)).raw (le z.m.toNat 4)
structure Spl where
 a : Bool
 b : Bool
 l : Mg
 n : Mg
def SplAt (N : Nat) (w : World) (b o : Nat) (z : Spl) : Prop := At w b o [.bool z.a, .bool z.b] ∧ MgAt N w b (o + 2) z.l ∧ MgAt N w b (o + 4) z.n
def WX.spl (x : WX) (z : Spl) : WX := ((((x.raw (le (if z.a then 1 else 0) 1)).raw (le (if z.b then 1 else 0) 1)).pad).mg z.l).mg z.n
structure Que where
 c0 : Int
 c1 : Int
 c2 : Int
 c3 : Int
 c4 : Int
 q : List Mg
 s : List Mg
structure Que.ok (z : Que) : Prop where
 c0 : i64ok z.c0
 c1 : i64ok z.c1
 c2 : i64ok z.c2
 c3 : i64ok z.c3
 c4 : i64ok z.c4
def QueAt (N : Nat) (w : World) (b o : Nat) (z : Que) : Prop := z.ok ∧ ∃ qa qc sa sc, At w b o [.int .i64 z.c0, .int .i64 z.c1, .int .i64 z.c2, .int .i64 z.c3, .int .i64 z.c4, .slice qa z.q.length qc, .slice sa z.s.length sc] ∧ RdL w N 2 (MgAt N) qa z.q ∧ RdL w N 2 (MgAt N) sa z.s
def WX.que (x : WX) (z : Que) : WX := ((((((x.num 8 z.c0).num 8 z.c1).num 8 z.c2).num 8 z.c3).num 8 z.c4).rowL WX.mg z.q).rowL WX.mg z.s
structure Ste where
 bl : List Int
 t : Int
 w : Bool
 pg : List Pg
 ce : List Cel
 ln : List Lne
 sl : List Slt
 gi : Gi
 sa : List Spl
 qu : List Que
 ar : List Arr
def WX.ste (x : WX) (z : Ste) : WX := (((((((((((x.raw (le z.t.toNat 8)).raw (le (if z.w then 1 else 0) 1)).pad).bytes z.bl).rowL WX.pg z.pg).rowL WX.cel z.ce).rowL WX.lne z.ln).rowL WX.slt z.sl).gi z.gi).rowL WX.spl z.sa).rowL WX.que z.qu).rowL WX.arr z.ar
section
variable {w wi w' : World} {X B M N : Nat} {v : Value} {x x' : WX} {b o : Nat}
theorem MgAt.xe {r : Mg} (h : MgAt N w b o r) (hE : XE w wi X B M v x) (hN : Hi N X B M v) (hb : b < N) : MgAt N wi b o r := by
 obtain ⟨h1, a, c, h2, h3⟩ := h
 exact ⟨h1, a, c, h2.xe hE (hN.no hb), h3.xe hE hN⟩
theorem PgAt.xe {r : Pg} (h : PgAt N w b o r) (hE : XE w wi X B M v x) (hN : Hi N X B M v) (hb : b < N) : PgAt N wi b o r := by
 obtain ⟨h1, a, c, h2, h3⟩ := h
 exact ⟨h1, a, c, h2.xe hE (hN.no hb), h3.xe hE hN⟩
theorem SplAt.xe {r : Spl} (h : SplAt N w b o r) (hE : XE w wi X B M v x) (hN : Hi N X B M v) (hb : b < N) : SplAt N wi b o r :=
 ⟨h.1.xe hE (hN.no hb), h.2.1.xe hE hN hb, h.2.2.xe hE hN hb⟩
theorem QueAt.xe {r : Que} (h : QueAt N w b o r) (hE : XE w wi X B M v x) (hN : Hi N X B M v) (hb : b < N) : QueAt N wi b o r := by
 obtain ⟨h1, qa, qc, sa, sc, h2, h3, h4⟩ := h
 exact ⟨h1, qa, qc, sa, sc, h2.xe hE (hN.no hb), h3.xe hE (fun b o y hb p => p.xe hE hN hb), h4.xe hE (fun b o y hb p => p.xe hE hN hb)⟩
end
end Go.Proofs.YtkggkkoblpdopaaGreat
