import Derived.Test.YtfcpkcbiinbmiabRt
import Derived.Test.YtfcpkcbiinbmiabBw
namespace Go.Proofs.Ytfcpkcbiinbmiab
open Go.ChangeShapes Go.WideShapes Go.ChangeAt Go.RowKit
set_option linter.unusedVariables false

/-- One step of a script, as it lies in memory. -/
structure OpV where
  kind : Int
  n : Int
  k : Int
  ba : Option Addr
  bl : Nat
  bc : Nat
  bs : List Int
  str : ByteArray

def OpAt (w : World) (b o : Nat) (v : OpV) : Prop :=
  w.cell? ⟨b, o, none⟩ = some (.int .i64 v.kind) ∧ w.cell? ⟨b, o + 1, none⟩ = some (.int .u64 v.n) ∧ w.cell? ⟨b, o + 2, none⟩ = some (.int .i64 v.k) ∧ w.cell? ⟨b, o + 3, none⟩ = some (.slice v.ba v.bl v.bc) ∧ w.cell? ⟨b, o + 4, none⟩ = some (.string v.str)

theorem OpAt.below {w w' : World} {b o : Nat} {v : OpV} (h : OpAt w b o v) (hb : Below w.heap.size w w') : OpAt w' b o v := by
  have hlt := World.block_lt_of_cell? w _ h.1
  unfold OpAt at *
  rw [hb.cell hlt, hb.cell (p := ⟨b, o + 1, none⟩) hlt, hb.cell (p := ⟨b, o + 2, none⟩) hlt, hb.cell (p := ⟨b, o + 3, none⟩) hlt, hb.cell (p := ⟨b, o + 4, none⟩) hlt]
  exact h

/-- Numbers that fit. -/
def OpV.ok (v : OpV) : Prop := (-9223372036854775808 ≤ v.kind ∧ v.kind ≤ 9223372036854775807) ∧ (0 ≤ v.n ∧ v.n ≤ 18446744073709551615) ∧ (-9223372036854775808 ≤ v.k ∧ v.k ≤ 9223372036854775807)

/-- A script in memory. -/
def OpsIn (w : World) (a : Option Addr) (os : List OpV) : Prop :=
  os.length ≤ 9223372036854775807 ∧ (∀ v ∈ os, v.ok) ∧ (os.length = 0 ∨ ∃ b o, a = some ⟨b, o, none⟩ ∧ ∀ i (h : i < os.length), OpAt w b (o + i * 5) os[i])

structure RInv (w0 wr : World) (R : Nat) (a : Option Addr) (cap : Nat) (s : RS) : Prop where
  rs : IsRS wr R a cap s
  below : Below w0.heap.size w0 wr
  new : w0.heap.size ≤ R
  bytes : ∀ b o, a = some ⟨b, o, none⟩ → 0 < s.bs.length → w0.heap.size ≤ b

theorem RInv.alloc {w0 wr : World} {R : Nat} {a : Option Addr} {cap : Nat} {s : RS} (h : RInv w0 wr R a cap s) (o : Obj) : RInv w0 (wr.alloc o) R a cap s :=
  ⟨h.rs.other (S := fun _ => False) ((Chg.refl _ _).alloc o) (by simp) (by simp), h.below.alloc h.below.size o, h.new, h.bytes⟩
theorem RInv.step {w0 w w' : World} {R : Nat} {a : Option Addr} {cap : Nat} {s s' : RS} (h : RInv w0 w R a cap s) (hr : IsRS w' R a cap s') (hc : Chg w w' (fun k => k = R)) (hb : s'.bs = s.bs) : RInv w0 w' R a cap s' :=
  ⟨hr, h.below.trans (hc.below h.below.size (fun k hk e => by have := h.new; omega)), h.new, by rw [hb]; exact h.bytes⟩
theorem RInv.drewN {w0 wr : World} {R : Nat} {a : Option Addr} {cap : Nat} {s : RS} (h : RInv w0 wr R a cap s) {w' : World} (hr : IsRS w' R a cap s) (hc : Chg wr w' (fun _ => False)) : RInv w0 w' R a cap s :=
  h.step hr hc.toR rfl

theorem RS.fail_bad (s : RS) (e p : Int) (h : s.err ≠ 0) : s.fail e p = s := by simp [RS.fail, errOf, whOf, h]
theorem RS.take_bad (s : RS) (n : Nat) (h : s.err ≠ 0) : s.take n = ([], s) := by simp [RS.take, h]
theorem RS.raw_bad (s : RS) (n : Int) (h : s.err ≠ 0) : s.raw n = ([], s) := by
  unfold RS.raw; rw [s.fail_bad _ _ h, s.take_bad _ h]; simp
theorem RS.num_bad (s : RS) (k : Nat) (h : s.err ≠ 0) : s.num k = 0 := by unfold RS.num; rw [s.take_bad _ h]; rfl
theorem RS.left_bad (s : RS) (h : s.err ≠ 0) : s.left = 0 := by simp [RS.left, h]
theorem RS.counted_bad (s : RS) (k m : Nat) (h : s.err ≠ 0) : s.counted k m = ([], s) := by
  unfold RS.counted
  rw [s.num_bad _ h, s.take_bad _ h]
  simp [s.left_bad h, s.take_bad _ h]
theorem RS.text_bad (s : RS) (n : Int) (h : s.err ≠ 0) : s.text n = ([], s) := by
  unfold RS.text; rw [s.fail_bad _ _ h, s.counted_bad _ _ h]; simp
theorem RS.part_bad (s : RS) (h : s.err ≠ 0) : s.part = (⟨[], 0, s.err, 0⟩, s) := by unfold RS.part; rw [s.counted_bad _ _ h]
theorem RS.end_bad (s : RS) (h : s.err ≠ 0) : s.end = s := by simp [RS.end, s.left_bad h]
theorem RS.pad_bad (s : RS) (n : Int) (h : s.err ≠ 0) : s.pad n = s := by
  unfold RS.pad; rw [s.fail_bad _ _ h, s.take_bad _ h, s.padded_none _ (by simp)]; simp

section
variable {w0 w : World} {R : Nat} {a : Option Addr} {cap : Nat} {s : RS}
theorem bad_raw (h : RInv w0 w R a cap s) (he : s.err ≠ 0) (n : Int) (hn : n ≤ 9223372036854775807) :
    Calls Try.prog 45 #[.pointer (some ⟨R, 0, none⟩), .int .i64 n] w fun r w' => ∃ a1 c1, r = .returned (.slice a1 0 c1) ∧ RInv w0 w' R a cap s := by
  refine (raw_any w R a cap s n hn h.rs).mono ?_
  rw [s.raw_bad n he]
  rintro r w' ⟨v, rfl, h1, h2, h3, h4⟩
  obtain ⟨a1, c1, rfl, _⟩ := h1.shape (by simp)
  exact ⟨a1, c1, rfl, h.step h3 h4 rfl⟩
theorem bad_text (h : RInv w0 w R a cap s) (he : s.err ≠ 0) (n : Int) (hn : n ≤ 9223372036854775807) :
    Calls Try.prog 48 #[.pointer (some ⟨R, 0, none⟩), .int .i64 n] w fun r w' => r = .returned (.string ⟨#[]⟩) ∧ RInv w0 w' R a cap s := by
  refine (text_any w R a cap s n hn h.rs).mono ?_
  rw [s.text_bad n he]
  rintro r w' ⟨rfl, h3, h4⟩
  exact ⟨rfl, h.step h3 h4 rfl⟩
theorem bad_pad (h : RInv w0 w R a cap s) (he : s.err ≠ 0) (n : Int) :
    Calls Try.prog 50 #[.pointer (some ⟨R, 0, none⟩), .int .i64 n] w fun r w' => r = .returned (.tuple #[]) ∧ RInv w0 w' R a cap s := by
  refine (rpad_any w R a cap s n h.rs).mono ?_
  rw [s.pad_bad n he]
  rintro r w' ⟨rfl, h3, h4⟩
  exact ⟨rfl, h.step h3 h4 rfl⟩
theorem bad_end (h : RInv w0 w R a cap s) (he : s.err ≠ 0) :
    Calls Try.prog 52 #[.pointer (some ⟨R, 0, none⟩)] w fun r w' => r = .returned (.tuple #[]) ∧ RInv w0 w' R a cap s := by
  refine (end_any w R a cap s h.rs).mono ?_
  rw [s.end_bad he]
  rintro r w' ⟨rfl, h3, h4⟩
  exact ⟨rfl, h.step h3 h4 rfl⟩
theorem bad_fail (h : RInv w0 w R a cap s) (he : s.err ≠ 0) (e : Int) :
    Calls Try.prog 54 #[.pointer (some ⟨R, 0, none⟩), .int .i64 e] w fun r w' => r = .returned (.tuple #[]) ∧ RInv w0 w' R a cap s := by
  refine (rfail_any w R a cap s e h.rs).mono ?_
  rw [s.fail_bad _ _ he]
  rintro r w' ⟨rfl, h3, h4⟩
  exact ⟨rfl, h.step h3 h4 rfl⟩
theorem bad_long (h : RInv w0 w R a cap s) (he : s.err ≠ 0) :
    Calls Try.prog 44 #[.pointer (some ⟨R, 0, none⟩)] w fun r w' => r = .returned (.int .u64 0) ∧ RInv w0 w' R a cap s := by
  refine (m64_any w R a cap s h.rs).mono ?_
  rw [s.num_bad _ he, s.take_bad _ he]
  rintro r w' ⟨rfl, h3, h4⟩
  exact ⟨rfl, h.step h3 h4 rfl⟩
theorem bad_byte (h : RInv w0 w R a cap s) (he : s.err ≠ 0) :
    Calls Try.prog 41 #[.pointer (some ⟨R, 0, none⟩)] w fun r w' => r = .returned (.int .u8 0) ∧ RInv w0 w' R a cap s := by
  refine (m8_any w R a cap s h.rs).mono ?_
  rw [s.num_bad _ he, s.take_bad _ he]
  rintro r w' ⟨rfl, h3, h4⟩
  exact ⟨rfl, h.step h3 h4 rfl⟩
theorem inv_err (h : RInv w0 w R a cap s) :
    Calls Try.prog 28 #[.pointer (some ⟨R, 0, none⟩)] w fun r w' => r = .returned (.tuple #[.int .i64 s.err, .int .i64 s.wh]) ∧ RInv w0 w' R a cap s := by
  refine (rerr_any w R a cap s h.rs).mono ?_
  rintro r w' ⟨rfl, h3, h4⟩
  exact ⟨rfl, h.drewN h3 h4⟩
theorem inv_at (h : RInv w0 w R a cap s) :
    Calls Try.prog 57 #[.pointer (some ⟨R, 0, none⟩)] w fun r w' => r = .returned (.int .i64 s.at_) ∧ RInv w0 w' R a cap s := by
  refine (rat_any w R a cap s h.rs).mono ?_
  rintro r w' ⟨rfl, rfl⟩
  exact ⟨rfl, h⟩
theorem inv_left (h : RInv w0 w R a cap s) :
    Calls Try.prog 58 #[.pointer (some ⟨R, 0, none⟩)] w fun r w' => r = .returned (.int .i64 s.left) ∧ RInv w0 w' R a cap s := by
  refine (left_any w R a cap s h.rs).mono ?_
  rintro r w' ⟨rfl, h3, h4⟩
  exact ⟨rfl, h.drewN h3 h4⟩
end

/-- A second reader is asked; the first one stays. -/
theorem inv_err2 {w0 w : World} {R R2 : Nat} {a a2 : Option Addr} {cap cap2 : Nat} {s s2 : RS} (h : RInv w0 w R a cap s) (h2 : RInv w0 w R2 a2 cap2 s2) :
    Calls Try.prog 28 #[.pointer (some ⟨R2, 0, none⟩)] w fun r w' => r = .returned (.tuple #[.int .i64 s2.err, .int .i64 s2.wh]) ∧ RInv w0 w' R a cap s ∧ RInv w0 w' R2 a2 cap2 s2 := by
  refine (rerr_any w R2 a2 cap2 s2 h2.rs).mono ?_
  rintro r w' ⟨rfl, h3, h4⟩
  exact ⟨rfl, h.drewN (h.rs.other h4 (by simp) (by simp)) h4, h2.drewN h3 h4⟩
theorem inv_left2 {w0 w : World} {R R2 : Nat} {a a2 : Option Addr} {cap cap2 : Nat} {s s2 : RS} (h : RInv w0 w R a cap s) (h2 : RInv w0 w R2 a2 cap2 s2) :
    Calls Try.prog 58 #[.pointer (some ⟨R2, 0, none⟩)] w fun r w' => r = .returned (.int .i64 s2.left) ∧ RInv w0 w' R a cap s := by
  refine (left_any w R2 a2 cap2 s2 h2.rs).mono ?_
  rintro r w' ⟨rfl, h3, h4⟩
  exact ⟨rfl, h.drewN (h.rs.other h4 (by simp) (by simp)) h4⟩
end Go.Proofs.Ytfcpkcbiinbmiab
