import Derived.Test.YtkggkkoblpdopaaGreatHc
import Derived.Deep.RegionHeld3
import Derived.Shelf.Abstract
namespace Go.Proofs.YtkggkkoblpdopaaGreat
open Go.ChangeShapes Go.WideShapes Go.ChangeAt Go.RowKit
set_option linter.unusedVariables false
abbrev gd' (n : Nat) : Edge := { on := n, ground := Ground.data }
abbrev gp' (n : Nat) : Edge := { on := n, ground := Ground.phase }
abbrev gc' (n : Nat) : Edge := { on := n, ground := Ground.chain }
theorem sl0' (l : List Value) (i : Nat) (a : Value) : l.toArray.setIfInBounds i a = (l.set i a).toArray := by simp
theorem sl1' (a b : Value) (l : List Value) : (a :: l).set 0 b = b :: l := rfl
theorem sl2' (a b : Value) (l : List Value) (n : Nat) : (a :: l).set (n + 1) b = a :: l.set n b := rfl
theorem tk {md : Region.Mode} {ops : Array Oper} {S : World → Prop} {Q : Exit → Act → World → Prop} {i : Nat} {oi : Oper} {v : Value} {fuel : Nat} {listed : Array Bool} {a : Act} {w : World}
    (hP : ∀ c (a : Act) w (d : Option Tmp) v, Q (.panic c) (a.put d v) w → Q (.panic c) a w) (hi : ops[i]? = some oi)
    (hc : (Region.noSelect ops && Region.free md ops listed i && (Region.ready md ops listed).contains i) = true)
    (hy : YieldsIf Tryz.prog ops S oi v a) (hS : S w) (h : wpAnyH Tryz.prog md ops Q S fuel (listed.setIfInBounds i true) (a.put oi.dst v) w) : wpAnyH Tryz.prog md ops Q S (fuel + 1) listed a w := by
  simp only [Bool.and_eq_true] at hc
  exact wpAnyH_take hi hc.1.1 hc.1.2 hc.2 (fun _ _ _ h => hP _ _ _ _ _ h) hy hS h
theorem hmx : Tryz.prog.follows .mixedOrders = true := by kernel_rfl
structure Mth (HT : TypeId) (HV : Value) (nm : String) (F : Nat) (RV : Value) : Prop where
 m : ∀ w, (method 558 HT HV nm).run Tryz.prog w = .ok (F, RV) w
 n : ∀ w, (nilAhead 558 HT HV nm).run Tryz.prog w = .ok (some false) w
 e : ∀ args w, (callFunc F args).run Tryz.prog w = .ok (.enter F args) w
abbrev hW (X : Nat) : Value := .pointer (some ⟨X, 0, none⟩)
theorem mw_byteOf (X : Nat) : Mth 84 (hW X) "cloister/snapshot.byteOf" 223 (hW X) := ⟨fun w => by kernel_rfl, fun w => by kernel_rfl, fun args w => by kernel_rfl⟩
theorem mw_bytes (X : Nat) : Mth 84 (hW X) "cloister/snapshot.bytes" 224 (hW X) := ⟨fun w => by kernel_rfl, fun w => by kernel_rfl, fun args w => by kernel_rfl⟩
theorem mw_flag (X : Nat) : Mth 84 (hW X) "cloister/snapshot.flag" 225 (hW X) := ⟨fun w => by kernel_rfl, fun w => by kernel_rfl, fun args w => by kernel_rfl⟩
theorem mw_long (X : Nat) : Mth 84 (hW X) "cloister/snapshot.long" 226 (hW X) := ⟨fun w => by kernel_rfl, fun w => by kernel_rfl, fun args w => by kernel_rfl⟩
theorem mw_longOf (X : Nat) : Mth 84 (hW X) "cloister/snapshot.longOf" 227 (hW X) := ⟨fun w => by kernel_rfl, fun w => by kernel_rfl, fun args w => by kernel_rfl⟩
theorem mw_over (X : Nat) : Mth 84 (hW X) "cloister/snapshot.over" 228 (hW X) := ⟨fun w => by kernel_rfl, fun w => by kernel_rfl, fun args w => by kernel_rfl⟩
theorem mw_pad (X : Nat) : Mth 84 (hW X) "cloister/snapshot.pad" 229 (hW X) := ⟨fun w => by kernel_rfl, fun w => by kernel_rfl, fun args w => by kernel_rfl⟩
theorem mw_perm (X : Nat) : Mth 84 (hW X) "cloister/snapshot.perm" 230 (hW X) := ⟨fun w => by kernel_rfl, fun w => by kernel_rfl, fun args w => by kernel_rfl⟩
theorem mw_word (X : Nat) : Mth 84 (hW X) "cloister/snapshot.word" 231 (hW X) := ⟨fun w => by kernel_rfl, fun w => by kernel_rfl, fun args w => by kernel_rfl⟩
theorem mw_wordOf (X : Nat) : Mth 84 (hW X) "cloister/snapshot.wordOf" 232 (hW X) := ⟨fun w => by kernel_rfl, fun w => by kernel_rfl, fun args w => by kernel_rfl⟩
abbrev hR (R : Nat) : Value := .agg #[.pointer (some ⟨R, 0, none⟩)]
theorem mr_byteOf (R : Nat) : Mth 101 (hR R) "cloister/snapshot.byteOf" 247 (hR R) := ⟨fun w => by kernel_rfl, fun w => by kernel_rfl, fun args w => by kernel_rfl⟩
theorem mr_bytes (R : Nat) : Mth 101 (hR R) "cloister/snapshot.bytes" 248 (hR R) := ⟨fun w => by kernel_rfl, fun w => by kernel_rfl, fun args w => by kernel_rfl⟩
theorem mr_flag (R : Nat) : Mth 101 (hR R) "cloister/snapshot.flag" 249 (hR R) := ⟨fun w => by kernel_rfl, fun w => by kernel_rfl, fun args w => by kernel_rfl⟩
theorem mr_long (R : Nat) : Mth 101 (hR R) "cloister/snapshot.long" 250 (hR R) := ⟨fun w => by kernel_rfl, fun w => by kernel_rfl, fun args w => by kernel_rfl⟩
theorem mr_longOf (R : Nat) : Mth 101 (hR R) "cloister/snapshot.longOf" 251 (hR R) := ⟨fun w => by kernel_rfl, fun w => by kernel_rfl, fun args w => by kernel_rfl⟩
theorem mr_over (R : Nat) : Mth 101 (hR R) "cloister/snapshot.over" 31 (hR R) := ⟨fun w => by kernel_rfl, fun w => by kernel_rfl, fun args w => by kernel_rfl⟩
theorem mr_pad (R : Nat) : Mth 101 (hR R) "cloister/snapshot.pad" 252 (hR R) := ⟨fun w => by kernel_rfl, fun w => by kernel_rfl, fun args w => by kernel_rfl⟩
theorem mr_perm (R : Nat) : Mth 101 (hR R) "cloister/snapshot.perm" 253 (hR R) := ⟨fun w => by kernel_rfl, fun w => by kernel_rfl, fun args w => by kernel_rfl⟩
theorem mr_word (R : Nat) : Mth 101 (hR R) "cloister/snapshot.word" 254 (hR R) := ⟨fun w => by kernel_rfl, fun w => by kernel_rfl, fun args w => by kernel_rfl⟩
theorem mr_wordOf (R : Nat) : Mth 101 (hR R) "cloister/snapshot.wordOf" 255 (hR R) := ⟨fun w => by kernel_rfl, fun w => by kernel_rfl, fun args w => by kernel_rfl⟩
end Go.Proofs.YtkggkkoblpdopaaGreat
