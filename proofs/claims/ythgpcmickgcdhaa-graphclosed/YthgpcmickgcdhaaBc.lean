import Derived.Test.YthgpcmickgcdhaaBb
import Derived.BigRegion
namespace Go.Proofs.Ythgpcmickgcdhaa
open Go.ChangeShapes Go.WideShapes Go.ChangeAt Go.RowKit
set_option linter.unusedVariables false
/-- Numbers as the memory has them. -/
def zs (l : List Nat) : List Int := l.map (fun x : Nat => (x : Int))
theorem zs_len (l : List Nat) : (zs l).length = l.length := by simp [zs]
theorem zs_app (l : List Nat) (x : Nat) : zs (l ++ [x]) = zs l ++ [(x : Int)] := by simp [zs]
def lenV : Value → Nat
  | .slice _ l _ => l
  | _ => 0
/-- How much is ahead, as the memory has it. -/
def sumW (w : World) (b : Nat) : Nat → Nat
  | 0 => 0
  | m + 1 => sumW w b m + lenV ((w.cell? ⟨b, m, none⟩).getD undef)
theorem RdI.lenV {w : World} {v : Value} {l : List Int} (h : RdI w v l) : lenV v = l.length := by obtain ⟨a, cap, rfl, _⟩ := h.ex; rfl
theorem IsW.sum {w : World} {W Bb Ba n : Nat} {been : Nat → Bool} {vs : Nat → Value} {A : Nat → List Int} (h : IsW w W Bb Ba n been vs A) : ∀ m, m ≤ n + 1 → sumW w Ba m = sumA A m := by
  intro m hm
  induction m with
  | zero => rfl
  | succ m ih => simp only [sumW, sumA]; rw [ih (by omega), h.ca m (by omega)]; simp only [Option.getD_some]; rw [(h.rd m (by omega)).lenV]
/-- A list less its last. -/
theorem OI.pop {w : World} {g cap : Nat} {l : List Int} {x : Int} {m : Nat} (h : OI w (.slice (some ⟨g, 0, none⟩) m cap) (l ++ [x])) : OI w (.slice (some ⟨g, 0, none⟩) l.length cap) l := by
  rcases h.2 with ⟨h1, h2⟩ | ⟨g', cap', cur, h1, h2, h3, h4, h5, h6, h7⟩
  · simp at h2
  · simp only [Value.slice.injEq, Option.some.injEq, Addr.mk.injEq, and_true] at h1
    obtain ⟨rfl, _, rfl⟩ := h1
    refine ⟨by simp, .inr ⟨g, cap, cur, rfl, h2, h3, by simp at h4; omega, h5, h6, ?_⟩⟩
    simp only [Nat.mul_one, List.length_append, List.length_singleton, List.map_append] at h7 ⊢
    have := congrArg (List.take l.length) h7
    rw [List.take_take, Nat.min_eq_left (by omega)] at this
    rw [this, List.take_left' (by simp)]
structure FrI (w wr : World) (W Bb Ba n c : Nat) (D : Nat → Nat → Prop) (A0 : Nat → List Nat) (been : Nat → Bool) (vs : Nat → Value) (ahead : Nat → List Nat) (path left : List Nat) (vl vp : Value) : Prop where
  isw : IsW wr W Bb Ba n been vs (fun i => zs (ahead i))
  inv : WInv D A0 n c been ahead path left
  op : OI wr vp (zs path)
  ol : OI wr vl (zs left)
  np : ∀ k, vp.ownBlock = some k → w.heap.size ≤ k
  nl : ∀ k, vl.ownBlock = some k → w.heap.size ≤ k ∧ vp.ownBlock ≠ some k
  rows : Rows0 n w.heap.size Bb Ba vs
  kp : Chg w wr (fun k => k = Bb ∨ k = Ba)
  lt : W < w.heap.size ∧ Bb < w.heap.size ∧ Ba < w.heap.size
  no : W ≠ Bb ∧ W ≠ Ba ∧ Bb ≠ Ba
section
variable {w wr : World} {W Bb Ba n c : Nat} {D : Nat → Nat → Prop} {A0 : Nat → List Nat} {been : Nat → Bool} {vs : Nat → Value} {ahead : Nat → List Nat} {path left : List Nat} {vl vp : Value}
theorem WInv.plen (h : WInv D A0 n c been ahead path left) : path.length ≤ n ∧ left.length ≤ n := by
  have h1 := nodup_le h.nd (fun x hx => h.rg x (List.mem_append.1 hx))
  simp at h1; omega
/-- A cell is left. -/
theorem FrI.leave {p : List Nat} {h g cap : Nat} (F : FrI w wr W Bb Ba n c D A0 been vs ahead (p ++ [h]) left vl (.slice (some ⟨g, 0, none⟩) (p.length + 1) cap)) (ha : ahead h = []) {vl' : Value} {w' : World}
    (ho : OI w' vl' (zs left ++ [(h : Int)])) (hc : Chg wr w' (fun i => vl.ownBlock = some i)) (hL : vl'.ownBlock = vl.ownBlock ∨ ∃ k, vl'.ownBlock = some k ∧ wr.heap.size < k) :
    FrI w w' W Bb Ba n c D A0 been vs ahead p (left ++ [h]) vl' (.slice (some ⟨g, 0, none⟩) p.length cap) := by
  have hgs := F.np g rfl
  have hop : OI wr (.slice (some ⟨g, 0, none⟩) p.length cap) (zs p) := by
    have := F.op; rw [zs_app] at this; have := this.pop; rwa [zs_len] at this
  obtain ⟨l1, l2, l3⟩ := F.lt
  refine ⟨F.isw.chg hc (fun e => ?_) (fun e => ?_) (fun e => ?_) (fun i k hi hk e => ?_), F.inv.leave ha, hc.owns hop (fun k hk e => ?_), by rw [zs_app]; exact ho, fun k hk => by cases hk; exact hgs, fun k hk => ?_, F.rows, Chg.trans F.kp hc (fun i hi e => ?_), F.lt, F.no⟩
  · have := (F.nl _ e).1; omega
  · have := (F.nl _ e).1; omega
  · have := (F.nl _ e).1; omega
  · have := (F.nl _ e).1; have := (F.rows i k hi hk).1; omega
  · exact (F.nl _ e).2 hk
  · rcases hL with e | ⟨k', e, hk'⟩
    · rw [e] at hk; exact F.nl k hk
    · rw [e] at hk
      obtain rfl : k' = k := by simpa using hk
      have := F.kp.size
      refine ⟨by omega, fun e2 => ?_⟩
      have := F.op.lt (k := g) rfl
      have e3 : g = k' := by simpa [Value.ownBlock] using e2
      omega
  · have := (F.nl _ e).1; omega
/-- An edge is gone along. -/
theorem FrI.gone {p : List Nat} {h : Nat} {ys : List Nat} (F : FrI w wr W Bb Ba n c D A0 been vs ahead (p ++ [h]) left vl vp) (hh : h ≤ n) {v' : Value} (hv : RdI wr v' (zs ys)) (hcp : capOK v') (hb : ∀ k, blk v' = some k → k < w.heap.size ∧ k ≠ Bb ∧ k ≠ Ba) :
    IsW (wr.setCell ⟨Ba, h, none⟩ v') W Bb Ba n been (upd vs h v') (fun i => zs (upd ahead h ys i)) ∧ OI (wr.setCell ⟨Ba, h, none⟩ v') vp (zs (p ++ [h])) ∧ OI (wr.setCell ⟨Ba, h, none⟩ v') vl (zs left) ∧ Rows0 n w.heap.size Bb Ba (upd vs h v') ∧ Chg w (wr.setCell ⟨Ba, h, none⟩ v') (fun k => k = Bb ∨ k = Ba) := by
  obtain ⟨l1, l2, l3⟩ := F.lt
  obtain ⟨n1, n2, n3⟩ := F.no
  have hc : Chg wr (wr.setCell ⟨Ba, h, none⟩ v') (fun k => k = Ba) := Chg.setCell (S := fun k => k = Ba) (Chg.refl wr _) (.inl rfl) _
  have hrw : Rows0 n w.heap.size Bb Ba (upd vs h v') := fun i k hi hk => by
    by_cases e : i = h
    · subst e; rw [upd_same] at hk; exact hb k hk
    · rw [upd_other _ _ e] at hk; exact F.rows i k hi hk
  refine ⟨⟨hc.heap F.isw.box n2, hc.heap F.isw.bn n3, ?_, fun i hi => ?_, fun i hi => ?_⟩, hc.owns F.op (fun k hk e => by have := F.np k hk; omega), hc.owns F.ol (fun k hk e => by have := (F.nl k hk).1; omega), hrw, F.kp.trans hc (fun _ _ e => .inr e)⟩
  · rw [← ahC_set n vs h hh v']
    exact heap_setCell_same wr Ba h _ 34 v' F.isw.ah
  · show RdI _ _ (zs (upd ahead h ys i))
    by_cases e : i = h
    · subst e; rw [upd_same, upd_same]; exact hv.chg hc (fun k hk e => (hb k hk).2.2 e)
    · rw [upd_other _ _ e, upd_other _ _ e]; exact (F.isw.rd i hi).chg hc (fun k hk e => (F.rows i k hi hk).2.2 e)
  · by_cases e : i = h
    · subst e; rw [upd_same]; exact hcp
    · rw [upd_other _ _ e]; exact F.isw.cp i hi
end
end Go.Proofs.Ythgpcmickgcdhaa
