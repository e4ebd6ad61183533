import Derived.Test.YthgpcmickgcdhaaDb
import Derived.Deep.Cut
namespace Go.Proofs.Ythgpcmickgcdhaa
open Go.ChangeShapes Go.WideShapes Go.ChangeAt Go.RowKit
set_option linter.unusedVariables false
theorem infoP (E : Nat) (z : Value) (k b : Nat) (hz : (Try.prog.info? E).map (fun i => (i.zero, i.size, i.bytes)) = some (some z, k, b)) : ∃ i, Try.prog.info? E = some i ∧ i.zero = some z ∧ i.size = k ∧ i.bytes = b := by
  cases hq : Try.prog.info? E with
  | none => rw [hq] at hz; cases hz
  | some i =>
    rw [hq] at hz
    have hz2 : i.zero = some z ∧ i.size = k ∧ i.bytes = b := by simpa using hz
    exact ⟨i, rfl, hz2⟩
theorem info81p : ∃ i, Try.prog.info? 81 = some i ∧ i.zero = some (.agg #[.string ⟨#[]⟩, .int .u32 0, .slice none 0 0, .slice none 0 0]) ∧ i.size = 4 ∧ i.bytes = 72 := infoP _ _ _ _ (by kernel_rfl)
theorem info46p : ∃ i, Try.prog.info? 46 = some i ∧ i.zero = some (.agg #[.int .i64 0, .int .i64 0, .slice none 0 0]) ∧ i.size = 3 ∧ i.bytes = 40 := infoP _ _ _ _ (by kernel_rfl)
theorem info33p : ∃ i, Try.prog.info? 33 = some i ∧ i.zero = some (.agg #[.int .i64 0, .int .i64 0, .int .i64 0, .int .i64 0, .int .i64 0, .bool false]) ∧ i.size = 6 ∧ i.bytes = 48 := infoP _ _ _ _ (by kernel_rfl)
theorem info34p : ∃ i, Try.prog.info? 34 = some i ∧ i.zero = some (.slice none 0 0) ∧ i.size = 1 ∧ i.bytes = 24 := infoP _ _ _ _ (by kernel_rfl)
section
variable (w : World) (v : Value) (n : Nat) (xs : List Value)
theorem appC (cs : List Value) (h : w.ownsRow 0 81 4 v n xs) (hc : cs.length = 4) (h1 : ∀ u, u ∈ cs → u.oneCell' = true) (hl : n < 4000000) :
    ∃ v' w', (Builtin.append_ #[26, 26] 26 #[v, .slice (some ⟨w.heap.size, 0, none⟩) 1 1]).run Try.prog (w.alloc (.cells cs.toArray 81)) = .ok v' w' ∧ w'.ownsRow 0 81 4 v' (n + 1) (xs ++ cs) ∧ Chg w w' (fun i => v.ownBlock = some i) ∧ (v'.ownBlock = v.ownBlock ∨ ∃ k, v'.ownBlock = some k ∧ w.heap.size < k) ∧ ∃ g nn cc, v' = .slice (some ⟨g, 0, none⟩) nn cc := by
  obtain ⟨i, h0, h2, h3, h4⟩ := info81p
  exact app_one 26 81 4 72 i _ Try.underlying26 h0 h2 h3 h4 rfl (by omega) (by omega) w v n xs cs h hc h1 hl
theorem appS (cs : List Value) (h : w.ownsRow 0 46 3 v n xs) (hc : cs.length = 3) (h1 : ∀ u, u ∈ cs → u.oneCell' = true) (hl : n < 4000000) :
    ∃ v' w', (Builtin.append_ #[28, 28] 28 #[v, .slice (some ⟨w.heap.size, 0, none⟩) 1 1]).run Try.prog (w.alloc (.cells cs.toArray 46)) = .ok v' w' ∧ w'.ownsRow 0 46 3 v' (n + 1) (xs ++ cs) ∧ Chg w w' (fun i => v.ownBlock = some i) ∧ (v'.ownBlock = v.ownBlock ∨ ∃ k, v'.ownBlock = some k ∧ w.heap.size < k) ∧ ∃ g nn cc, v' = .slice (some ⟨g, 0, none⟩) nn cc := by
  obtain ⟨i, h0, h2, h3, h4⟩ := info46p
  exact app_one 28 46 3 40 i _ Try.underlying28 h0 h2 h3 h4 rfl (by omega) (by omega) w v n xs cs h hc h1 hl
theorem appQ (cs : List Value) (h : w.ownsRow 0 33 6 v n xs) (hc : cs.length = 6) (h1 : ∀ u, u ∈ cs → u.oneCell' = true) (hl : n < 4000000) :
    ∃ v' w', (Builtin.append_ #[29, 29] 29 #[v, .slice (some ⟨w.heap.size, 0, none⟩) 1 1]).run Try.prog (w.alloc (.cells cs.toArray 33)) = .ok v' w' ∧ w'.ownsRow 0 33 6 v' (n + 1) (xs ++ cs) ∧ Chg w w' (fun i => v.ownBlock = some i) ∧ (v'.ownBlock = v.ownBlock ∨ ∃ k, v'.ownBlock = some k ∧ w.heap.size < k) ∧ ∃ g nn cc, v' = .slice (some ⟨g, 0, none⟩) nn cc := by
  obtain ⟨i, h0, h2, h3, h4⟩ := info33p
  exact app_one 29 33 6 48 i _ Try.underlying29 h0 h2 h3 h4 rfl (by omega) (by omega) w v n xs cs h hc h1 hl
theorem appR (x : Value) (h : w.ownsRow 0 34 1 v n xs) (h1 : x.oneCell' = true) (hl : n < 4000000) :
    ∃ v' w', (Builtin.append_ #[49, 49] 49 #[v, .slice (some ⟨w.heap.size, 0, none⟩) 1 1]).run Try.prog (w.alloc (.cells #[x] 34)) = .ok v' w' ∧ w'.ownsRow 0 34 1 v' (n + 1) (xs ++ [x]) ∧ Chg w w' (fun i => v.ownBlock = some i) ∧ (v'.ownBlock = v.ownBlock ∨ ∃ k, v'.ownBlock = some k ∧ w.heap.size < k) ∧ ∃ g nn cc, v' = .slice (some ⟨g, 0, none⟩) nn cc := by
  obtain ⟨i, h0, h2, h3, h4⟩ := info34p
  exact app_one 49 34 1 24 i _ Try.underlying49 h0 h2 h3 h4 rfl (by omega) (by omega) w v n xs [x] h rfl (fun u hu => by simp at hu; subst hu; exact h1) hl
end
/-- Cells, readers and queues that are taken over. -/
def clF (p : Inp) (i : Nat) : List Value := (List.range i).flatMap (fun j => [.string (p.cs j), .int .u32 (p.ce j), .slice none 0 0, .slice none 0 0])
theorem clF_step (p : Inp) (i : Nat) : clF p (i + 1) = clF p i ++ [.string (p.cs i), .int .u32 (p.ce i), .slice none 0 0, .slice none 0 0] := by simp [clF, List.range_succ]
def rdr (p : Inp) (i : Nat) : List Int := (List.range (min (p.sl i) 60)).map (p.sr i)
def qlF (p : Inp) (i : Nat) : List Value := (List.range i).flatMap (qcs p)
theorem qlF_step (p : Inp) (i : Nat) : qlF p (i + 1) = qlF p i ++ qcs p i := by simp [qlF, List.range_succ]
/-- The sampling ports that were taken over. -/
def SmOk (p : Inp) (i : Nat) (sm : List Sm) : Prop := sm.length = i ∧ ∀ j (h : j < sm.length), sm[j].w = p.sw j ∧ sm[j].r = rdr p j
theorem SmOk.app {p : Inp} {i : Nat} {sm : List Sm} (h : SmOk p i sm) (s : Sm) (h1 : s.w = p.sw i) (h2 : s.r = rdr p i) : SmOk p (i + 1) (sm ++ [s]) := by
  refine ⟨by simp [h.1], fun j hj => ?_⟩
  by_cases e : j < sm.length
  · rw [List.getElem_append_left e]; exact h.2 j e
  · have : j = sm.length := by simp at hj; omega
    subst this
    rw [List.getElem_append_right (Nat.le_refl _)]
    simp [h1, h2, h.1]
end Go.Proofs.Ythgpcmickgcdhaa
