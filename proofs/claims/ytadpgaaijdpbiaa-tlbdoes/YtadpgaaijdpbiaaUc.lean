import Derived.Test.YtadpgaaijdpbiaaUb
import Derived.Test.YtadpgaaijdpbiaaTf
namespace Go.Proofs.Ytadpgaaijdpbiaa
open Go.ChangeShapes Go.WideShapes Go.ChangeAt Go.RowKit Go.Shelf
set_option linter.unusedVariables false

/-- All pairs know the same, and not much was done yet. -/
def SyncK (ps : List Pr) (c : Nat) : Prop := ∀ p ∈ ps, p.l = p.s.slots ∧ p.k ≤ 1000 + c
theorem SyncK.up {ps : List Pr} {c : Nat} (h : SyncK ps c) : SyncK ps (c + 1) := fun p hp => ⟨(h p hp).1, by have := (h p hp).2; omega⟩
theorem SyncK.set {ps : List Pr} {c i : Nat} {p p' : Pr} (h : SyncK ps c) (hi : ps[i]? = some p) (h1 : p'.l = p'.s.slots) (h2 : p'.k ≤ p.k + 1) : SyncK (ps.set i p') (c + 1) := by
  intro q hq
  rcases List.mem_or_eq_of_mem_set hq with hq | rfl
  · exact h.up q hq
  · exact ⟨h1, by have := (h p (List.mem_of_getElem? hi)).2; omega⟩
theorem SyncK.ld {ps ps' : List Pr} {c : Nat} (h : SyncK ps c) (hl : Ld1 ps ps') : SyncK ps' (c + 1) := by
  rcases hl with rfl | ⟨p, rfl, h1, h2⟩
  · exact h.up
  · intro q hq
    rcases List.mem_append.1 hq with hq | hq
    · exact h.up q hq
    · rw [List.mem_singleton.1 hq]; exact ⟨h1, by omega⟩
theorem Ld1.ne {ps ps' : List Pr} (h : Ld1 ps ps') (hn : ps ≠ []) : ps' ≠ [] := by
  rcases h with rfl | ⟨p, rfl, _⟩
  · exact hn
  · simp

section
variable {W W2 W3 W4 : World} {lab : Nat → Nat} {D : Nat} {R : Rows} {ps : List Pr} {hs : List Hd} {i : Nat} {p : Pr} {v' : Value} {k' : Nat} {s' : Sta} {u' : Value} {l' : List Sl4}
/-- The code's side has moved. -/
theorem WI.one (h : WI W lab D R ps hs) (hi : ps[i]? = some p) (hT : IsT W2 p.B p.M v' p.n k' s') (hC : Chg W W2 (Ft p.B p.M p.v)) (hL : Loc W p.v v') (hK : Kp W2 W3) :
    ∃ lab', WI W3 lab' D R (ps.set i { p with v := v', k := k', s := s' }) hs ∧ Nx W lab W3 lab' := by
  have h2 := h.doT hi hT hC hL
  have n2 : Nx W lab W2 (relab lab W.heap.size (10 + 2 * i)) := Nx.relab hC (fun b hb e => by have := (h.ps i p hi).ft b e; omega) _
  exact ⟨_, h2.later hK, n2.trans (Nx.kp hK 7)⟩
theorem set_at {ps : List Pr} {i : Nat} {p p' : Pr} (hi : ps[i]? = some p) : (ps.set i p')[i]? = some p' := by
  obtain ⟨h1, _⟩ := List.getElem?_eq_some_iff.1 hi
  simp [h1]
/-- Then the document's. -/
theorem WI.other {pT : Pr} (h : WI W3 lab D R (ps.set i pT) hs) (hi : ps[i]? = some p) (hR : IsR W4 pT.C u' pT.n l') (hC : Chg W3 W4 (fun b => b = pT.C)) (hL : ∀ b, u'.ownBlock = some b → W3.heap.size ≤ b) :
    ∃ lab', WI W4 lab' D R (ps.set i { pT with u := u', l := l' }) hs ∧ Nx W3 lab W4 lab' := by
  have h2 := h.doR (set_at hi) hR hC hL
  have n2 : Nx W3 lab W4 (relab lab W3.heap.size (11 + 2 * i)) := Nx.relab hC (fun b hb e => by have := (h.ps i _ (set_at hi)).gt b (.inl e); omega) _
  rw [List.set_set] at h2
  exact ⟨_, h2, n2⟩
end
theorem set_ne {ps : List Pr} {i : Nat} {p : Pr} (h : ps ≠ []) : ps.set i p ≠ [] := by
  intro e
  have := congrArg List.length e
  simp at this
  exact h this

/-- A step of the script. -/
structure Opv where
  kind : Int
  t : Int
  n : Int
  tg : Tg
  mp : Mp
  ca : Option Addr
  cl : Nat
  cc : Nat
  la : Option Addr
  ll : Nat
  lc : Nat
def Opv.cells (x : Opv) : Array Value := #[.int .i64 x.kind, .int .i64 x.t, .int .i64 x.n, .int .i64 x.tg.1, .int .u32 ((x.tg.2 : Nat) : Int), .int .u32 ((x.mp.1 : Nat) : Int), .int .u8 ((x.mp.2 : Nat) : Int), .slice x.ca x.cl x.cc, .slice x.la x.ll x.lc]
structure OpvOk (w : World) (lab : Nat → Nat) (x : Opv) (Z : Nat → Int) (l : List Sl4) : Prop where
  k : InI x.kind
  t : InI x.t
  n : InI x.n
  tg : TOk x.tg
  mp : MOk x.mp
  ci : IntsIn w x.ca x.cl Z
  cb : ∀ a : Addr, x.ca = some a → x.cl ≠ 0 → lab a.block = 6
  li : SlotsIn w x.la x.ll l
  lo : SOk l
  l13 : x.ll ≤ 10000000000000
theorem OpvOk.later {w w' : World} {lab lab' : Nat → Nat} {x : Opv} {Z : Nat → Int} {l : List Sl4} (h : OpvOk w lab x Z l) (hC : Kp w w') (hl : ∀ i, i < w.heap.size → lab' i = lab i) : OpvOk w' lab' x Z l := by
  refine ⟨h.k, h.t, h.n, h.tg, h.mp, h.ci.kept (S := fun _ => False) hC (fun _ _ h => h), fun a ha h0 => ?_, h.li.kept (S := fun _ => False) hC (fun _ _ h => h), h.lo, h.l13⟩
  have := h.cb a ha h0
  rcases h.ci.src with e | ⟨b, off, e, hb, _⟩
  · exact absurd e h0
  · rw [e] at ha; cases ha
    rw [hl _ hb]; exact this

theorem num26 (w : World) (x : Int) : Calls Try.prog 26 #[.int .i64 x] w fun e w' => e = .returned (.int .i64 x) ∧ w' = w := by
  go_enter Try.func26, Try.ntmps26
  go_wp2
  go_ret
  exact ⟨rfl, rfl⟩
/-- What a step leaves. -/
def SEnd (w : World) (lab : Nat → Nat) (D c : Nat) (w' : World) : Prop := ∃ lab' R' ps' hs', WI w' lab' D R' ps' hs' ∧ Nx w lab w' lab' ∧ SyncK ps' (c + 1) ∧ hs'.length ≤ 4 * (c + 1) ∧ ps' ≠ []
end Go.Proofs.Ytadpgaaijdpbiaa
