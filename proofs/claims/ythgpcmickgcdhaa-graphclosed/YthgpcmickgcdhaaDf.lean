import Derived.Test.YthgpcmickgcdhaaDe
namespace Go.Proofs.Ythgpcmickgcdhaa
open Go.ChangeShapes Go.WideShapes Go.ChangeAt Go.RowKit
set_option linter.unusedVariables false
theorem own_shape {w : World} {e k n : Nat} {v : Value} {xs : List Value} (h : w.ownsRow 0 e k v n xs) : ∃ a cap, v = .slice a n cap := by
  rcases h.2 with ⟨e, h0⟩ | ⟨g, cap, cur, e, _⟩
  · exact ⟨none, 0, by rw [e, h0]⟩
  · exact ⟨_, cap, e⟩
theorem own_some {w : World} {e k n : Nat} {v : Value} {xs : List Value} (h : w.ownsRow 0 e k v n xs) (hn : 0 < n) : ∃ g cap, v = .slice (some ⟨g, 0, none⟩) n cap ∧ n ≤ cap ∧ cap ≤ 9223372036854775807 := by
  rcases h.2 with ⟨e, h0⟩ | ⟨g, cap, cur, e, _, _, h1, h2, _⟩
  · omega
  · exact ⟨g, cap, e, h1, by simp only [maxLen] at h2; exact h2⟩
section
variable {w wr wx wa : World} {X : Nat} {rv cv sv qv : Value} {nc : Nat} {cl : List Value} {sm : List Sm} {rows : List Value} {nq : Nat} {ql : List Value}
theorem LnI.keepG {S : Nat → Prop} (F : LnI w wr X rv cv sv qv nc cl sm rows nq ql) (k : Chg wr wx S) (hX : ¬ S X) (h1 : ∀ i, cv.ownBlock = some i → ¬ S i) (h2 : ∀ i, sv.ownBlock = some i → ¬ S i) (h3 : ∀ i, rv.ownBlock = some i → ¬ S i) (h4 : ∀ i, qv.ownBlock = some i → ¬ S i) (hS2 : ∀ s, s ∈ sm → ∀ k, blk s.vr = some k → ¬ S k) (hS3 : ∀ i, i < w.heap.size → ¬ S i) : LnI w wx X rv cv sv qv nc cl sm rows nq ql := by
  refine ⟨k.heap F.box hX, k.owns F.oc h1, k.owns F.os h2, k.owns F.orw h3, k.owns F.oq h4, fun s hs => ⟨(F.rd s hs).1.chg k (fun i hi => hS2 s hs i hi), fun i hi => ⟨((F.rd s hs).2 i hi).1, ?_⟩⟩, F.nX, F.nc, F.ns, F.nr, F.nq, Chg.trans F.kp k (fun i hi e => hS3 i hi e)⟩
  obtain ⟨cur, hc⟩ := ((F.rd s hs).2 i hi).2
  exact ⟨cur, k.heap hc (hS2 s hs i hi)⟩
/-- While a sampling port is taken over. -/
structure InL (w wr : World) (X eb : Nat) (rv cv sv qv : Value) (nc : Nat) (cl : List Value) (sm : List Sm) (rows : List Value) (nq : Nat) (ql : List Value) (ec : List Value) (lv : Value) (l : List Int) : Prop where
  F : LnI w wr X rv cv sv qv nc cl sm rows nq ql
  ebx : wr.heap[eb]? = some (.cells ec.toArray 46 (0, 0))
  own : OI wr lv l
  lnew : ∀ k, lv.ownBlock = some k → w.heap.size ≤ k
  lap : ∀ s, s ∈ sm → ∀ k, blk s.vr = some k → lv.ownBlock ≠ some k
  eb1 : w.heap.size ≤ eb
  eb2 : sv.ownBlock ≠ some eb
variable {eb : Nat} {ec : List Value} {lv : Value} {l : List Int}
theorem InL.step (I : InL w wr X eb rv cv sv qv nc cl sm rows nq ql ec lv l) {x : Int} {v' : Value} (ho : OI wa v' (l ++ [x])) (hch : Chg wr wa (fun i => lv.ownBlock = some i)) (hL : v'.ownBlock = lv.ownBlock ∨ ∃ k, v'.ownBlock = some k ∧ wr.heap.size < k) : InL w wa X eb rv cv sv qv nc cl sm rows nq ql ec v' (l ++ [x]) := by
  refine ⟨I.F.keep hch (fun i hi => I.own.ty hi) (fun s hs k hk e => I.lap s hs k hk e) (fun i hi e => by have := I.lnew i e; omega), hch.heap I.ebx (fun e => ne_ty (I.own.ty e) ⟨_, I.ebx⟩ (by decide) rfl), ho, fun k hk => ?_, fun s hs k hk => ?_, I.eb1, I.eb2⟩
  · rcases hL with e | ⟨k', e, hk'⟩
    · rw [e] at hk; exact I.lnew k hk
    · rw [e] at hk; obtain rfl : k' = k := by simpa using hk
      have := I.F.kp.size; omega
  · rcases hL with e | ⟨k', e, hk'⟩
    · rw [e]; exact I.lap s hs k hk
    · rw [e]; intro e2; obtain rfl : k' = k := by simpa using e2
      obtain ⟨cur, hc⟩ := ((I.F.rd s hs).2 k' hk).2
      have := hp_lt hc; omega
/-- The row was put onto the list of rows. -/
theorem InL.row (I : InL w wr X eb rv cv sv qv nc cl sm rows nq ql ec lv l) {v' : Value} (ho : wa.ownsRow 0 34 1 v' (rows.length + 1) (rows ++ [lv])) (hch : Chg wr wa (fun i => rv.ownBlock = some i)) (hL : v'.ownBlock = rv.ownBlock ∨ ∃ k, v'.ownBlock = some k ∧ wr.heap.size < k) : InL w (wa.setCell ⟨X, 12, none⟩ v') X eb v' cv sv qv nc cl sm (rows ++ [lv]) nq ql ec lv l := by
  have hN := I.F.appR lv ho hch hL
  have ty : ∀ i, rv.ownBlock = some i → ∃ cur, wr.heap[i]? = some (.cells cur 34 (0, 0)) := fun i hi => own_ty I.F.orw hi
  have kc : Chg wa (wa.setCell ⟨X, 12, none⟩ v') (fun k => k = X) := Chg.setCell (S := fun k => k = X) (Chg.refl wa _) (.inl rfl) _
  have e1 := hch.heap I.ebx (fun e => ne_ty (ty _ e) ⟨_, I.ebx⟩ (by decide) rfl)
  have gX : wa.heap[X]? = _ := hch.heap I.F.box (fun e => ne_ty (ty _ e) ⟨_, I.F.box⟩ (by decide) rfl)
  have o1 : OI wa lv l := hch.owns I.own (fun i hi e => ne_ty (ty _ e) (I.own.ty hi) (by decide) rfl)
  exact ⟨hN, kc.heap e1 (fun e => ne_ty ⟨_, e1⟩ ⟨_, gX⟩ (by decide) e), kc.owns o1 (fun i hi e => ne_ty (o1.ty hi) ⟨_, gX⟩ (by decide) e), I.lnew, I.lap, I.eb1, I.eb2⟩
/-- The port's own list is the row. -/
theorem InL.put {a b c0 : Value} (I : InL w wr X eb rv cv sv qv nc cl sm rows nq ql [a, b, c0] lv l) (x : Value) : InL w (wr.setCell ⟨eb, 2, none⟩ x) X eb rv cv sv qv nc cl sm rows nq ql [a, b, x] lv l := by
  have kc : Chg wr (wr.setCell ⟨eb, 2, none⟩ x) (fun k => k = eb) := Chg.setCell (S := fun k => k = eb) (Chg.refl wr _) (.inl rfl) _
  have te : ∃ cur, wr.heap[eb]? = some (.cells cur 46 (0, 0)) := ⟨_, I.ebx⟩
  refine ⟨I.F.keepG kc (fun e => ne_ty te ⟨_, I.F.box⟩ (by decide) e.symm) (fun i hi e => ne_ty te (own_ty I.F.oc hi) (by decide) e.symm) (fun i hi e => I.eb2 (e ▸ hi)) (fun i hi e => ne_ty te (own_ty I.F.orw hi) (by decide) e.symm) (fun i hi e => ne_ty te (own_ty I.F.oq hi) (by decide) e.symm) (fun s hs k hk e => ne_ty te ((I.F.rd s hs).2 k hk).2 (by decide) e.symm) (fun i hi e => by have := I.eb1; omega), ?_, kc.owns I.own (fun i hi e => ne_ty te (I.own.ty hi) (by decide) e.symm), I.lnew, I.lap, I.eb1, I.eb2⟩
  have := heap_setCell_same wr eb 2 _ 46 x I.ebx
  rw [this]; rfl
end
theorem OI.pre {w : World} {g n cap : Nat} {l l' : List Int} (h : OI w (.slice (some ⟨g, 0, none⟩) n cap) (l ++ l')) : RdI w (.slice (some ⟨g, 0, none⟩) l.length cap) l := by
  rcases h.at with ⟨e, _⟩ | ⟨g', cap', e, _, _, _, hc, _⟩
  · cases e
  · simp only [Value.slice.injEq, Option.some.injEq, Addr.mk.injEq, and_true] at e
    obtain ⟨rfl, _, rfl⟩ := e
    refine ⟨_, _, rfl, .inr ⟨g, 0, rfl, fun j hj => ?_⟩⟩
    rw [Nat.zero_add, hc j (by simp; omega), List.getElem_append_left hj]
def mS (k : Nat) : List Sm := List.replicate k ⟨71, 0, .slice none 0 0, []⟩
theorem mS_step (k : Nat) : mS (k + 1) = mS k ++ [⟨71, 0, .slice none 0 0, []⟩] := by simp [mS, List.replicate_succ']
def mC (k : Nat) : List Value := (List.replicate k [Value.string ⟨#[98, 101, 104, 105, 110, 100]⟩, .int .u32 0, .slice none 0 0, .slice none 0 0]).flatten
theorem mC_step (k : Nat) : mC (k + 1) = mC k ++ [.string ⟨#[98, 101, 104, 105, 110, 100]⟩, .int .u32 0, .slice none 0 0, .slice none 0 0] := by simp [mC, List.replicate_succ']
def mQ (k : Nat) : List Value := (List.replicate k [Value.int .i64 71, .int .i64 0, .int .i64 0, .int .i64 0, .int .i64 0, .bool false]).flatten
theorem mQ_step (k : Nat) : mQ (k + 1) = mQ k ++ [.int .i64 71, .int .i64 0, .int .i64 0, .int .i64 0, .int .i64 0, .bool false] := by simp [mQ, List.replicate_succ']
theorem rdr_len (p : Inp) (i : Nat) : (rdr p i).length = min (p.sl i) 60 := by simp [rdr]
theorem rdr_take (p : Inp) (i k : Nat) (h : k < (rdr p i).length) : (rdr p i).take (k + 1) = (rdr p i).take k ++ [p.sr i k] := by
  rw [List.take_succ_eq_append_getElem h]
  simp [rdr]
end Go.Proofs.Ythgpcmickgcdhaa
