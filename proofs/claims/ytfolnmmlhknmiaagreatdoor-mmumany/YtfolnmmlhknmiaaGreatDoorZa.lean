import Derived.Test.YtfolnmmlhknmiaaGreatDoorTm
import Derived.Test.YtfolnmmlhknmiaaGreatDoorXq
import Derived.Test.YtfolnmmlhknmiaaGreatDoorYe
namespace Go.Proofs.YtfolnmmlhknmiaaGreatDoor
open Go.ChangeShapes Go.WideShapes Go.ChangeAt Go.RowKit
set_option linter.unusedVariables false

theorem keyed3 : Maps.Keyed Tryz.prog 3 := Maps.int_keyed Tryz.underlying3
theorem key3 (c : Int) (hc : Ent.InI c) : keyOf Tryz.prog 3 (.int .i64 c) = some (.int .i64 c) :=
  Maps.keyOf_int_mk Tryz.underlying3 (by simp [Lit.wf, IntKind.min, IntKind.max, IntKind.signed, IntKind.bits]; exact hc)
/-- How a root reads. -/
def rElem : Value → Option (DataW Unit × List MemPlace)
  | .int .u32 (.ofNat n) => some (.lit (.int .u32 (.ofNat n)), [])
  | _ => none
def rD (n : Nat) : DataW Unit := .lit (.int .u32 ((n : Nat) : Int))
theorem rElem_V (n : Nat) : rElem (.int .u32 ((n : Nat) : Int)) = some (rD n, []) := rfl
theorem rElem_at {v : Value} {n : Nat} {ps : List MemPlace} (h : rElem v = some (rD n, ps)) : v = .int .u32 ((n : Nat) : Int) := by
  unfold rElem at h
  split at h
  · rename_i k
    have h1 := (Prod.mk.inj (Option.some.inj h)).1
    simp [rD] at h1
    rw [show k = n by omega]; rfl
  · cases h
theorem zero22 (w : World) : (zeroValue 22).run Tryz.prog w = .ok (.int .u32 0) w := by kernel_rfl
/-- Block Q is the map of the roots. -/
structure RM (w : World) (Q n : Nat) (f : Int → Option Nat) : Prop where
  ex : ∃ es, w.ownsMap Tryz.prog 3 rElem Q n (.map es) ∧ ∀ k : Int, Ent.InI k → (DataW.map es).atKey (.int .i64 k) (rD 0) = rD ((f k).getD 0) ∧ Maps.has (DataW.map es) (.int .i64 k) = (f k).isSome
theorem RM.made (w : World) : RM (w.alloc (.map #[] 0)) w.heap.size 0 (fun _ => none) :=
  ⟨[], World.ownsMap_made w Tryz.prog 3 rElem, fun t _ => ⟨rfl, rfl⟩⟩
theorem RM.lookOk {w : World} {Q n : Nat} {f : Int → Option Nat} (h : RM w Q n f) (k : Int) (hk : Ent.InI k) : (Instr.lookup 103 (.map (some Q)) (.int .i64 k) true).run Tryz.prog w = .ok (.tuple #[.int .u32 (((f k).getD 0 : Nat) : Int), .bool (f k).isSome]) w := by
  obtain ⟨es, h1, h2⟩ := h.ex
  obtain ⟨v, ps, hr, hv⟩ := h1.look_ok keyed3 Tryz.underlying103 (zero22 w) (zd := rD 0) (zp := []) (rElem_V 0) (key3 k hk)
  rw [(h2 k hk).1] at hv
  rw [hr, rElem_at hv, (h2 k hk).2]
def setR (f : Int → Option Nat) (k : Int) (e : Nat) (x : Int) : Option Nat := if x = k then some e else f x
theorem RM.store {w : World} {Q n : Nat} {f : Int → Option Nat} (h : RM w Q n f) (k : Int) (hk : Ent.InI k) (e : Nat) (hn : n ≤ 2000000000) :
    ∃ w', (Instr.mapUpdate 103 (.map (some Q)) (.int .i64 k) (.int .u32 ((e : Nat) : Int))).run Tryz.prog w = .ok () w' ∧ RM w' Q (n + 1) (setR f k e) ∧ w.grownBy w' (some Q) := by
  obtain ⟨es, h1, h2⟩ := h.ex
  obtain ⟨w', hr, h4, h5⟩ := h1.update keyed3 Tryz.underlying103 (by simp [maxLen]; omega) (key3 k hk) (rElem_V e)
  have hm := h1.isMap
  have hD : (DataW.map es).put (.int .i64 k) (rD e) = .map (DataW.insert (.int .i64 k, rD e) (es.filter fun p => !p.1.sameKey (.int .i64 k))) := rfl
  refine ⟨w', hr, ⟨_, by rw [hD] at h4; exact h4, ?_⟩, h5⟩
  intro a ha
  rw [← hD]
  unfold setR
  by_cases h : a = k
  · subst h
    rw [if_pos rfl]
    exact ⟨Maps.atKey_put_same hm (keyed3.key (key3 a ha)) _ _, Maps.has_put_same hm (keyed3.key (key3 a ha)) _⟩
  · rw [if_neg h]
    have hne : (Lit.int .i64 a) ≠ .int .i64 k := by intro e; simp at e; exact h e
    rw [Maps.atKey_put_other hne, Maps.has_put_other hne]
    exact h2 a ha
theorem RM.kept {w w' : World} {Q n : Nat} {f : Int → Option Nat} {S : Nat → Prop} (h : RM w Q n f) (hc : Chg w w' S) (hM : ¬ S Q) : RM w' Q n f := by
  obtain ⟨es, ⟨es2, clock, q1, r⟩, h2⟩ := h.ex
  exact ⟨es, ⟨es2, clock, hc.heap q1 hM, r⟩, h2⟩
theorem RM.lt {w : World} {Q n : Nat} {f : Int → Option Nat} (h : RM w Q n f) : Q < w.heap.size := by
  obtain ⟨es, ⟨es2, clock, q1, r⟩, _⟩ := h.ex
  exact (Array.getElem?_eq_some_iff.1 q1).1

/-- An MMU's blocks: its own U and Q, memory's box B and map M, cache C, the TLB's box T, map K and row v; k, q: how often the two maps were written. -/
structure Bl where
  U : Nat
  Q : Nat
  q : Nat
  B : Nat
  M : Nat
  f : Nat → Option Nat
  C : Nat
  T : Nat
  K : Nat
  v : Value
  k : Nat
/-- What it holds. -/
structure Ms where
  pages : Nat
  m : Nat → Nat
  sets : Nat
  ways : Nat
  line : Nat
  st : Nat → List Cac.Ln
  n : Nat
  s : Tlb.Sta
  rt : Int → Option Nat
def Bl.mm (b : Bl) (i : Nat) : Prop := Mf b.B b.M b.f i
def Bl.tt (b : Bl) (i : Nat) : Prop := Tlb.Ft b.T b.K b.v i
/-- All of its blocks. -/
def Bl.all (b : Bl) (i : Nat) : Prop := i = b.U ∨ i = b.Q ∨ i = b.C ∨ b.mm i ∨ b.tt i
structure Bl.Ap (b : Bl) : Prop where
  mt : ∀ i, b.mm i → ¬ b.tt i
  mc : ¬ b.mm b.C
  mq : ¬ b.mm b.Q
  mu : ¬ b.mm b.U
  tc : ¬ b.tt b.C
  tq : ¬ b.tt b.Q
  tu : ¬ b.tt b.U
  cq : b.C ≠ b.Q
  cu : b.C ≠ b.U
  qu : b.Q ≠ b.U
structure IsU (w : World) (b : Bl) (x : Ms) : Prop where
  box : w.heap[b.U]? = some (.cells #[.pointer (some ⟨b.B, 0, none⟩), .pointer (some ⟨b.C, 0, none⟩), .pointer (some ⟨b.T, 0, none⟩), .map (some b.Q)] 105 (0, 0))
  mem : IsM w b.B b.M x.pages b.f x.m
  cac : Cac.IsC w b.C x.sets x.ways x.line x.st
  tlb : Tlb.IsT w b.T b.K b.v x.n b.k x.s
  rts : RM w b.Q b.q x.rt
  ap : b.Ap
theorem IsU.lt {w : World} {b : Bl} {x : Ms} (h : IsU w b x) {i : Nat} (hi : b.all i) : i < w.heap.size := by
  rcases hi with rfl | rfl | rfl | hi | hi
  · exact (Array.getElem?_eq_some_iff.1 h.box).1
  · exact h.rts.lt
  · exact h.cac.lt
  · exact h.mem.lt _ hi
  · exact h.tlb.lt hi
theorem IsU.kept {w w' : World} {b : Bl} {x : Ms} {S : Nat → Prop} (h : IsU w b x) (hc : Chg w w' S) (hS : ∀ i, b.all i → ¬ S i) : IsU w' b x :=
  ⟨hc.heap h.box (hS _ (.inl rfl)), h.mem.other hc (fun i hi => hS i (.inr (.inr (.inr (.inl hi))))), h.cac.kept hc (hS _ (.inr (.inr (.inl rfl)))), h.tlb.kept hc (fun i hi => hS i (.inr (.inr (.inr (.inr hi))))), h.rts.kept hc (hS _ (.inr (.inl rfl))), h.ap⟩
theorem IsU.cells {w : World} {b : Bl} {x : Ms} (h : IsU w b x) : w.cell? ⟨b.U, 0, none⟩ = some (.pointer (some ⟨b.B, 0, none⟩)) ∧ w.cell? ⟨b.U, 1, none⟩ = some (.pointer (some ⟨b.C, 0, none⟩)) ∧ w.cell? ⟨b.U, 2, none⟩ = some (.pointer (some ⟨b.T, 0, none⟩)) ∧ w.cell? ⟨b.U, 3, none⟩ = some (.map (some b.Q)) :=
  ⟨(Cac.cells_at h.box 0).1, (Cac.cells_at h.box 1).1, (Cac.cells_at h.box 2).1, (Cac.cells_at h.box 3).1⟩
/-- Blocks b' are those of b, or new in w. -/
def Bl.Grow (w : World) (b b' : Bl) : Prop := b'.U = b.U ∧ b'.Q = b.Q ∧ b'.C = b.C ∧ b'.B = b.B ∧ b'.M = b.M ∧ b'.T = b.T ∧ b'.K = b.K ∧ ∀ i, b'.all i → b.all i ∨ w.heap.size ≤ i
theorem Bl.Grow.refl (w : World) (b : Bl) : Bl.Grow w b b := ⟨rfl, rfl, rfl, rfl, rfl, rfl, rfl, fun i h => .inl h⟩
theorem Bl.Grow.trans {w w' : World} {a b c : Bl} (h : Bl.Grow w a b) (k : Bl.Grow w' b c) (hs : w.heap.size ≤ w'.heap.size) : Bl.Grow w a c := by
  obtain ⟨a1, a2, a3, a4, a5, a6, a7, a8⟩ := h
  obtain ⟨b1, b2, b3, b4, b5, b6, b7, b8⟩ := k
  exact ⟨b1.trans a1, b2.trans a2, b3.trans a3, b4.trans a4, b5.trans a5, b6.trans a6, b7.trans a7, fun i hi => by
    rcases b8 i hi with h | h
    · exact a8 i h
    · exact .inr (by omega)⟩
/-- The cache has moved. -/
theorem IsU.cached {w w' : World} {b : Bl} {x : Ms} (h : IsU w b x) {st : Nat → List Cac.Ln} (hC : Cac.IsC w' b.C x.sets x.ways x.line st) (hc : Chg w w' (fun i => i = b.C)) : IsU w' b { x with st := st } :=
  ⟨hc.heap h.box (fun e => h.ap.cu e.symm), h.mem.other hc (fun i hi e => h.ap.mc (e ▸ hi)), hC, h.tlb.kept hc (fun i hi e => h.ap.tc (e ▸ hi)), h.rts.kept hc (fun e => h.ap.cq e.symm), h.ap⟩
/-- The TLB has moved. -/
theorem IsU.looked {w w' : World} {b : Bl} {x : Ms} (h : IsU w b x) {v' : Value} {k' : Nat} {s' : Tlb.Sta} (hT : Tlb.IsT w' b.T b.K v' x.n k' s') (hc : Chg w w' (Tlb.Ft b.T b.K b.v)) (hl : v'.ownBlock = b.v.ownBlock ∨ ∃ g, v'.ownBlock = some g ∧ w.heap.size ≤ g) : IsU w' { b with v := v', k := k' } { x with s := s' } ∧ Bl.Grow w b { b with v := v', k := k' } := by
  have new : ∀ i, Tlb.Ft b.T b.K v' i → Tlb.Ft b.T b.K b.v i ∨ w.heap.size ≤ i := fun i hi => by
    rcases hi with e | e | e
    · exact .inl (.inl e)
    · exact .inl (.inr (.inl e))
    · rcases hl with hl | ⟨g, hg, hs⟩
      · exact .inl (.inr (.inr (hl ▸ e)))
      · rw [hg] at e; cases e; exact .inr hs
  refine ⟨⟨hc.heap h.box h.ap.tu, h.mem.other hc (fun i hi e => h.ap.mt i hi e), h.cac.kept hc h.ap.tc, hT, h.rts.kept hc h.ap.tq, ⟨fun i hi e => ?_, h.ap.mc, h.ap.mq, h.ap.mu, fun e => ?_, fun e => ?_, fun e => ?_, h.ap.cq, h.ap.cu, h.ap.qu⟩⟩, rfl, rfl, rfl, rfl, rfl, rfl, rfl, fun i hi => ?_⟩
  · rcases new i e with e | e
    · exact h.ap.mt i hi e
    · have := h.mem.lt _ hi; omega
  · rcases new _ e with e | e
    · exact h.ap.tc e
    · have := h.cac.lt; simp only at e; omega
  · rcases new _ e with e | e
    · exact h.ap.tq e
    · have := h.rts.lt; simp only at e; omega
  · rcases new _ e with e | e
    · exact h.ap.tu e
    · have := h.lt (.inl rfl); simp only at e; omega
  · rcases hi with e | e | e | e | e
    · exact .inl (.inl e)
    · exact .inl (.inr (.inl e))
    · exact .inl (.inr (.inr (.inl e)))
    · exact .inl (.inr (.inr (.inr (.inl e))))
    · rcases new i e with e | e
      · exact .inl (.inr (.inr (.inr (.inr e))))
      · exact .inr e
/-- Memory has moved. -/
theorem IsU.stored {w w' : World} {b : Bl} {x : Ms} (h : IsU w b x) {f' : Nat → Option Nat} {m' : Nat → Nat} (hM : IsM w' b.B b.M x.pages f' m') {S : Nat → Prop} (hc : Chg w w' S) (hS : ∀ i, b.all i → S i → b.mm i) (hl : ∀ i, Mf b.B b.M f' i → b.mm i ∨ w.heap.size ≤ i) : IsU w' { b with f := f' } { x with m := m' } ∧ Bl.Grow w b { b with f := f' } := by
  refine ⟨⟨hc.heap h.box (fun e => h.ap.mu (hS _ (.inl rfl) e)), hM, h.cac.kept hc (fun e => h.ap.mc (hS _ (.inr (.inr (.inl rfl))) e)), h.tlb.kept hc (fun i hi e => h.ap.mt i (hS _ (.inr (.inr (.inr (.inr hi)))) e) hi), h.rts.kept hc (fun e => h.ap.mq (hS _ (.inr (.inl rfl)) e)), ⟨fun i hi e => ?_, fun e => ?_, fun e => ?_, fun e => ?_, h.ap.tc, h.ap.tq, h.ap.tu, h.ap.cq, h.ap.cu, h.ap.qu⟩⟩, rfl, rfl, rfl, rfl, rfl, rfl, rfl, fun i hi => ?_⟩
  · rcases hl i hi with q | q
    · exact h.ap.mt i q e
    · have := h.tlb.lt e; omega
  · rcases hl _ e with q | q
    · exact h.ap.mc q
    · have := h.cac.lt; simp only at q; omega
  · rcases hl _ e with q | q
    · exact h.ap.mq q
    · have := h.rts.lt; simp only at q; omega
  · rcases hl _ e with q | q
    · exact h.ap.mu q
    · have := h.lt (.inl rfl); simp only at q; omega
  · rcases hi with e | e | e | e | e
    · exact .inl (.inl e)
    · exact .inl (.inr (.inl e))
    · exact .inl (.inr (.inr (.inl e)))
    · rcases hl i e with q | q
      · exact .inl (.inr (.inr (.inr (.inl q))))
      · exact .inr q
    · exact .inl (.inr (.inr (.inr (.inr e))))
end Go.Proofs.YtfolnmmlhknmiaaGreatDoor
