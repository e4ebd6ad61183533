import Derived.Test.YtcmfkopcdlhdnaaFi
import Derived.Laws.CopyRow
namespace Go.Proofs.Ytcmfkopcdlhdnaa
open Go.ChangeShapes Go.WideShapes Go.ChangeAt Go.RowKit Go.Shelf
set_option linter.unusedVariables false

/-- Bytes that can be read. -/
structure Bs (w : World) (a : Option Addr) (len : Nat) (bs : List Nat) : Prop where
  len_eq : bs.length = len
  byte : ∀ x ∈ bs, x < 256
  src : len = 0 ∨ ∃ b off, a = some ⟨b, off, none⟩ ∧ ∀ i, i < len → w.cell? ⟨b, off + i, none⟩ = some (.int .u8 (bs.getD i 0 : Nat))

/-- Bytes laid over a memory. -/
def layN (m : Nat → Nat) (at_ : Nat) (bs : List Nat) : Nat → Nat := fun x => if at_ ≤ x ∧ x < at_ + bs.length then bs.getD (x - at_) 0 else m x

theorem layN_nil (m : Nat → Nat) (at_ : Nat) : layN m at_ [] = m := by
  funext x; simp only [layN]; rw [if_neg (by simp)]
theorem layN_app (m : Nat → Nat) (at_ : Nat) (xs ys : List Nat) : layN (layN m at_ xs) (at_ + xs.length) ys = layN m at_ (xs ++ ys) := by
  funext x; simp only [layN, List.length_append]
  by_cases h1 : at_ + xs.length ≤ x ∧ x < at_ + xs.length + ys.length
  · rw [if_pos h1, if_pos (by omega), List.getD_eq_getElem?_getD, List.getD_eq_getElem?_getD, List.getElem?_append_right (by omega), show x - at_ - xs.length = x - (at_ + xs.length) by omega]
  · rw [if_neg h1]
    by_cases h2 : at_ ≤ x ∧ x < at_ + xs.length
    · rw [if_pos h2, if_pos (by omega), List.getD_eq_getElem?_getD, List.getD_eq_getElem?_getD, List.getElem?_append_left (by omega)]
    · rw [if_neg h2, if_neg (by omega)]

def bv (bs : List Nat) : List Value := bs.map fun x => Value.int .u8 (x : Nat)
theorem bv_len (bs : List Nat) : (bv bs).length = bs.length := by simp [bv]
theorem bv_get (bs : List Nat) (i : Nat) (hi : i < bs.length) : (bv bs)[i]? = some (.int .u8 (bs.getD i 0 : Nat)) := by
  simp [bv, List.getElem?_eq_getElem hi, List.getD_eq_getElem?_getD]
theorem bv_one (bs : List Nat) : ∀ u ∈ bv bs, u.oneCell' = true := by
  intro u hu; simp [bv] at hu; obtain ⟨x, _, rfl⟩ := hu; rfl

/-- A page with bytes laid over it. -/
theorem pageOf_lay (m : Nat → Nat) (k fr : Nat) (bs : List Nat) (h : fr + bs.length ≤ 4096) :
    ((pageOf m k).toList.take fr ++ bv bs ++ (pageOf m k).toList.drop (fr + (bv bs).length)).toArray = pageOf (layN m (4096 * k + fr) bs) k := by
  apply Array.ext_getElem?
  intro j
  rw [bv_len]
  have hsz : (pageOf m k).toList.length = 4096 := by rw [Array.length_toList]; exact pageOf_size m k
  have hg : ∀ i, i < 4096 → (pageOf m k).toList[i]? = some (.int .u8 (m (4096 * k + i) : Nat)) := fun i hi => by
    rw [Array.getElem?_toList]; exact pageOf_get m k i hi
  by_cases hj : j < 4096
  · rw [pageOf_get _ _ _ hj, List.getElem?_toArray]
    simp only [layN]
    by_cases h1 : j < fr
    · rw [if_neg (by omega), List.append_assoc, List.getElem?_append_left (by simp [hsz]; omega), List.getElem?_take_of_lt h1, hg j hj]
    · by_cases h2 : j < fr + bs.length
      · rw [if_pos (by omega), List.append_assoc, List.getElem?_append_right (by simp [hsz]; omega), List.getElem?_append_left (by simp [bv_len, hsz]; omega)]
        have e : (List.take fr (pageOf m k).toList).length = fr := by simp [hsz]; omega
        rw [e, bv_get _ _ (by omega)]
        rw [show 4096 * k + j - (4096 * k + fr) = j - fr by omega]
      · rw [if_neg (by omega), List.getElem?_append_right (by simp [hsz, bv_len]; omega), List.getElem?_drop]
        have e : (List.take fr (pageOf m k).toList ++ bv bs).length = fr + bs.length := by simp [hsz, bv_len]; omega
        rw [e, show fr + bs.length + (j - (fr + bs.length)) = j by omega, hg j hj]
  · rw [Array.getElem?_eq_none (by simp [hsz, bv_len]; omega), Array.getElem?_eq_none (by rw [pageOf_size]; omega)]

theorem Chg.setRow {a b : World} {S : Nat → Prop} (h : Chg a b S) {g : Nat} (hp : S g ∨ a.heap.size ≤ g) (cs : Array Value) : Chg a (b.setRow g cs) S :=
  h.trans (T := fun k => k = g) ⟨rfl, rfl, rfl, by simp [World.setRow], fun k hk hn => setRow_other b g k cs hn⟩
    (fun i hi x => by subst x; rcases hp with h | h; exact h; omega)

theorem IsM.lay {w : World} {B M pages : Nat} {f : Nat → Option Nat} {m : Nat → Nat} (h : IsM w B M pages f m) {k b : Nat} (hf : f k = some b) (fr : Nat) (bs : List Nat) (hi : fr + bs.length ≤ 4096) (hv : ∀ x ∈ bs, x < 256) :
    IsM (w.setRow b ((pageOf m k).toList.take fr ++ bv bs ++ (pageOf m k).toList.drop (fr + (bv bs).length)).toArray) B M pages f (layN m (4096 * k + fr) bs) := by
  have hap := h.apart
  have hb := hap.2 k b hf
  rw [pageOf_lay m k fr bs hi]
  have hc : Chg w (w.setRow b (pageOf (layN m (4096 * k + fr) bs) k)) (fun x => x = b) := Chg.setRow (S := fun x => x = b) (Chg.refl _ _) (.inl rfl) _
  refine ⟨hc.heap h.box (fun e => hb.1 e.symm), h.map.kept hc (fun e => hb.2 e.symm), ?_, ?_, h.inj, ?_, h.ge, h.le⟩
  · intro j x hj
    refine ⟨(h.page j x hj).1, ?_⟩
    by_cases e : j = k
    · subst e
      rw [hf] at hj; cases hj
      exact setRow_heap w b _ _ 70 _ (h.page j b hf).2
    · have hx : x ≠ b := fun e2 => e (h.inj j k x hj (by rw [e2]; exact hf))
      rw [hc.heap (h.page j x hj).2 hx]
      rw [pageOf_congr (m := m) (m' := layN m (4096 * k + fr) bs)]
      intro l hl
      simp only [layN]; rw [if_neg (by omega)]
  · intro j l hj hl
    have e : j ≠ k := by rintro rfl; rw [hf] at hj; cases hj
    simp only [layN]; rw [if_neg (by omega)]
    exact h.none_ j l hj hl
  · intro a
    simp only [layN]; split
    · rename_i hh
      rw [List.getD_eq_getElem?_getD, List.getElem?_eq_getElem (by omega)]
      exact hv _ (List.getElem_mem _)
    · exact h.byte a

theorem MAf.lay {w0 : World} {f0 : Nat → Option Nat} {s : Nat} {A : World} {B M pages : Nat} {f : Nat → Option Nat} {m : Nat → Nat} (h : MAf w0 f0 s A B M pages f m) {k b : Nat} (hf : f k = some b) (fr : Nat) (bs : List Nat) (hi : fr + bs.length ≤ 4096) (hv : ∀ x ∈ bs, x < 256) :
    MAf w0 f0 s (A.setRow b ((pageOf m k).toList.take fr ++ bv bs ++ (pageOf m k).toList.drop (fr + (bv bs).length)).toArray) B M pages f (layN m (4096 * k + fr) bs) := by
  refine ⟨h.base, h.isM.lay hf fr bs hi hv, Chg.setRow h.chg ?_ _, h.new, h.two⟩
  rcases h.new k b hf with h1 | h1
  · exact .inl (.inr (.inr ⟨k, h1⟩))
  · exact .inr h1

/-- 'p[fr:to]' of a page. -/
theorem sub99 (bp fr to : Nat) (h1 : fr < to) (h2 : to ≤ 4096) (w : World) :
    (Instr.sliceAt 70 (.pointer (some ⟨bp, 0, none⟩)) (some (.int .i64 fr)) (some (.int .i64 to)) none).run Try.prog w = .ok (.slice (some ⟨bp, fr, none⟩) (to - fr) (4096 - fr)) w := by
  have e5 : (sizeOf 5).run Try.prog w = .ok 1 w := by kernel_rfl
  have hne : ¬ (4096 = fr) := by omega
  have hb1 : (0 : Int) ≤ fr ∧ (fr : Int) ≤ to := by omega
  have hb2 : (0 : Int) ≤ to ∧ (to : Int) ≤ (4096 : Nat) := by omega
  simp [Instr.sliceAt, Instr.sureAddr, run_underlying Try.underlying70, Instr.sliceBounds, Instr.sliceBound, asIntOf, e5, hne, h2, Nat.le_of_lt h1, Addr.add_lit]

/-- 's[d:]' of bytes. -/
theorem sub38 (g o len cap d : Nat) (h : d ≤ len) : ∃ ad : Addr, (d < cap → ad = ⟨g, o + d, none⟩) ∧ ∀ w, (Instr.slice 39 (.slice (some ⟨g, o, none⟩) len cap) (some (.int .i64 d)) none none).run Try.prog w = .ok (.slice (some ad) (len - d) (cap - d)) w := by
  have e5 : ∀ w, (sizeOf 5).run Try.prog w = .ok 1 w := fun w => by kernel_rfl
  by_cases hc : cap = d
  · refine ⟨⟨g, o, none⟩, fun hd => by omega, fun w => ?_⟩
    simp [Instr.slice, run_underlying Try.underlying39, Instr.sliceBounds, Instr.sliceBound, asIntOf, e5, hc, h]
  · refine ⟨⟨g, o + d, none⟩, fun _ => rfl, fun w => ?_⟩
    simp [Instr.slice, run_underlying Try.underlying39, Instr.sliceBounds, Instr.sliceBound, asIntOf, e5, hc, h, Addr.add_lit]

theorem IsM.notBlock {w : World} {B M pages : Nat} {f : Nat → Option Nat} {m : Nat → Nat} (h : IsM w B M pages f m) {x : Nat} {c : Array Value} {e : TypeId} {fz : Nat × Nat} (hx : w.heap[x]? = some (.cells c e fz)) (h1 : e ≠ 60) (h2 : e ≠ 70) : ¬ Mf B M f x := by
  rintro (rfl | rfl | ⟨p, hp⟩)
  · have := h.box; rw [hx] at this; simp at this; exact h1 this.2.1
  · obtain ⟨es, c, hh⟩ := h.map.heap; rw [hh] at hx; cases hx
  · have := (h.page p x hp).2; rw [hx] at this; simp at this; exact h2 this.2.1

theorem one5 : (Try.prog.info? 5).map (·.size) = some 1 := by kernel_rfl
end Go.Proofs.Ytcmfkopcdlhdnaa
