import Derived.Test.YtkggkkoblpdopaaGreatRn
import Derived.Laws.IdiomStrings
namespace Go.Proofs.YtkggkkoblpdopaaGreat
open Go.ChangeShapes Go.WideShapes Go.ChangeAt Go.RowKit
set_option linter.unusedVariables false

structure RS where
 bs : List Int
 at_ : Nat
 err : Int
 wh : Int

def IsRS (w : World) (R : Nat) (a : Option Addr) (cap : Nat) (s : RS) : Prop := IsR w R a cap s.bs s.at_ s.err s.wh

def RS.fail (s : RS) (e p : Int) : RS := { s with err := errOf s.err e, wh := whOf s.err s.wh e p }
def RS.take (s : RS) (n : Nat) : List Int × RS :=
 if s.err ≠ 0 then ([], s)
 else if s.bs.length < s.at_ + n then ([], { s with err := 11, wh := s.at_ })
 else ((s.bs.drop s.at_).take n, { s with at_ := s.at_ + n })
def RS.left (s : RS) : Nat := if s.err ≠ 0 then 0 else s.bs.length - s.at_

theorem RS.take_bs (s : RS) (n : Nat) : (s.take n).2.bs = s.bs := by unfold RS.take; split; rfl; split <;> rfl
theorem RS.take_range (s : RS) (n : Nat) (h : ∀ x ∈ s.bs, 0 ≤ x ∧ x ≤ 255) : ∀ x ∈ (s.take n).1, 0 ≤ x ∧ x ≤ 255 := by
 unfold RS.take
 split
 ·simp
 ·split
  ·simp
  ·intro x hx; exact h x (List.mem_of_mem_drop (List.mem_of_mem_take hx))
theorem RS.take_len (s : RS) (n : Nat) : (s.take n).1.length ≤ n := by
 unfold RS.take
 split
 ·simp
 ·split
  ·simp
  ·simp; omega

theorem take_any (w : World) (R : Nat) (a : Option Addr) (cap : Nat) (s : RS) (n : Nat) (h : IsRS w R a cap s) :
  Calls Tryz.prog 112 #[.pointer (some ⟨R, 0, none⟩), .int .u64 n] w fun r w' => ∃ a' cap', r = .returned (.slice a' (s.take n).1.length cap') ∧ Bs w' a' (s.take n).1.length (s.take n).1 ∧ IsRS w' R a cap (s.take n).2 ∧ Chg w w' (fun k => k = R) ∧ (s.take n).1.length ≤ cap' ∧ (∀ b o, a' = some ⟨b, o, none⟩ → 0 < (s.take n).1.length → ∃ o', a = some ⟨b, o', none⟩) ∧ (a' = none → cap' = 0) := by
 obtain ⟨bs, at_, err, wh⟩ := s
 unfold IsRS at *
 simp only at h ⊢
 by_cases he : err = 0
 ·subst he
  by_cases hn : bs.length < at_ + n
  ·refine (take_short w R a cap bs at_ n wh h hn).mono ?_
   rintro r w' ⟨rfl, h1, h2⟩
   have e : RS.take ⟨bs, at_, 0, wh⟩ n = ([], ⟨bs, at_, 11, at_⟩) := by simp [RS.take, hn]
   rw [e]
   exact ⟨none, 0, rfl, ⟨rfl, by simp, by simp, .inl rfl⟩, h1, h2, by simp, (fun b o e => by cases e), fun _ => rfl⟩
  ·refine (take_ok w R a cap bs at_ n wh h (by omega)).mono ?_
   rintro r w' ⟨a', cap', rfl, h1, h2, h3, h4, h5, h6⟩
   have e : RS.take ⟨bs, at_, 0, wh⟩ n = ((bs.drop at_).take n, ⟨bs, at_ + n, 0, wh⟩) := by simp [RS.take, hn]
   rw [e]
   have hl : ((bs.drop at_).take n).length = n := h1.1
   simp only [hl]
   exact ⟨a', cap', rfl, h1, h2, h3, h4, h5, h6⟩
 ·refine (take_bad w R a cap bs at_ n err wh h (by simpa using he)).mono ?_
  rintro r w' ⟨rfl, h1, h2⟩
  have e : RS.take ⟨bs, at_, err, wh⟩ n = ([], ⟨bs, at_, err, wh⟩) := by simp [RS.take, he]
  rw [e]
  exact ⟨none, 0, rfl, ⟨rfl, by simp, by simp, .inl rfl⟩, h1, h2, by simp, (fun b o e => by cases e), fun _ => rfl⟩

theorem rfail_any (w : World) (R : Nat) (a : Option Addr) (cap : Nat) (s : RS) (e : Int) (h : IsRS w R a cap s) :
  Calls Tryz.prog 81 #[.pointer (some ⟨R, 0, none⟩), .int .i64 e] w fun r w' => r = .returned (.tuple #[]) ∧ IsRS w' R a cap (s.fail e s.at_) ∧ Chg w w' (fun k => k = R) :=
 fail_any w R a cap s.bs s.at_ s.err s.wh e h

theorem rfailAt_any (w : World) (R : Nat) (a : Option Addr) (cap : Nat) (s : RS) (e p : Int) (h : IsRS w R a cap s) :
  Calls Tryz.prog 115 #[.pointer (some ⟨R, 0, none⟩), .int .i64 e, .int .i64 p] w fun r w' => r = .returned (.tuple #[]) ∧ IsRS w' R a cap (s.fail e p) ∧ Chg w w' (fun k => k = R) :=
 failAt_any w R a cap s.bs s.at_ s.err s.wh e p h

theorem left_any (w : World) (R : Nat) (a : Option Addr) (cap : Nat) (s : RS) (h : IsRS w R a cap s) :
  Calls Tryz.prog 80 #[.pointer (some ⟨R, 0, none⟩)] w fun r w' => r = .returned (.int .i64 s.left) ∧ IsRS w' R a cap s ∧ Chg w w' (fun _ => False) := by
 obtain ⟨bs, at_, err, wh⟩ := s
 unfold IsRS at *
 by_cases he : err = 0
 ·subst he
  refine (left_ok w R a cap bs at_ wh h).mono ?_
  rintro r w' ⟨rfl, h1⟩
  exact ⟨by simp [RS.left], h1⟩
 ·refine (left_bad w R a cap bs at_ err wh h (by simpa using he)).mono ?_
  rintro r w' ⟨rfl, rfl⟩
  exact ⟨by simp [RS.left, he], h, Chg.refl _ _⟩

theorem rerr_any (w : World) (R : Nat) (a : Option Addr) (cap : Nat) (s : RS) (h : IsRS w R a cap s) :
  Calls Tryz.prog 79 #[.pointer (some ⟨R, 0, none⟩)] w fun r w' => r = .returned (.tuple #[.int .i64 s.err, .int .i64 s.wh]) ∧ IsRS w' R a cap s ∧ Chg w w' (fun _ => False) :=
 err_any w R a cap s.bs s.at_ s.err s.wh h
theorem rat_any (w : World) (R : Nat) (a : Option Addr) (cap : Nat) (s : RS) (h : IsRS w R a cap s) :
  Calls Tryz.prog 77 #[.pointer (some ⟨R, 0, none⟩)] w fun r w' => r = .returned (.int .i64 s.at_) ∧ w' = w :=
 at_any w R a cap s.bs s.at_ s.err s.wh h

def RS.num (s : RS) (k : Nat) : Nat := ofLe (s.take k).1

theorem m8_any (w : World) (R : Nat) (a : Option Addr) (cap : Nat) (s : RS) (h : IsRS w R a cap s) :
  Calls Tryz.prog 256 #[.pointer (some ⟨R, 0, none⟩)] w fun r w' => r = .returned (.int .u8 (s.num 1 : Nat)) ∧ IsRS w' R a cap (s.take 1).2 ∧ Chg w w' (fun k => k = R) := by
 obtain ⟨bs, at_, err, wh⟩ := s
 unfold IsRS RS.num at *
 by_cases he : err = 0
 ·subst he
  by_cases hn : bs.length < at_ + 1
  ·refine (r8_short w R a cap bs at_ wh h hn).mono ?_
   rintro r w' ⟨rfl, h1⟩
   have e : RS.take ⟨bs, at_, 0, wh⟩ 1 = ([], ⟨bs, at_, 11, at_⟩) := by simp [RS.take, hn]
   rw [e]
   exact ⟨rfl, h1⟩
  ·refine (r8_ok w R a cap bs at_ wh h (by omega)).mono ?_
   rintro r w' ⟨rfl, h1⟩
   have e : RS.take ⟨bs, at_, 0, wh⟩ 1 = ((bs.drop at_).take 1, ⟨bs, at_ + 1, 0, wh⟩) := by simp [RS.take, hn]
   rw [e]
   exact ⟨rfl, h1⟩
 ·refine (r8_bad w R a cap bs at_ err wh h (by simpa using he)).mono ?_
  rintro r w' ⟨rfl, h1⟩
  have e : RS.take ⟨bs, at_, err, wh⟩ 1 = ([], ⟨bs, at_, err, wh⟩) := by simp [RS.take, he]
  rw [e]
  exact ⟨rfl, h1⟩

theorem num32_any (w : World) (R : Nat) (a : Option Addr) (cap : Nat) (s : RS) (h : IsRS w R a cap s) :
  Calls Tryz.prog 114 #[.pointer (some ⟨R, 0, none⟩)] w fun r w' => r = .returned (.int .u32 (s.num 4 : Nat)) ∧ IsRS w' R a cap (s.take 4).2 ∧ Chg w w' (fun k => k = R) := by
 obtain ⟨bs, at_, err, wh⟩ := s
 unfold IsRS RS.num at *
 by_cases he : err = 0
 ·subst he
  by_cases hn : bs.length < at_ + 4
  ·refine (read32_short w R a cap bs at_ wh h hn).mono ?_
   rintro r w' ⟨rfl, h1⟩
   have e : RS.take ⟨bs, at_, 0, wh⟩ 4 = ([], ⟨bs, at_, 11, at_⟩) := by simp [RS.take, hn]
   rw [e]
   exact ⟨rfl, h1⟩
  ·refine (read32_ok w R a cap bs at_ wh h (by omega)).mono ?_
   rintro r w' ⟨rfl, h1⟩
   have e : RS.take ⟨bs, at_, 0, wh⟩ 4 = ((bs.drop at_).take 4, ⟨bs, at_ + 4, 0, wh⟩) := by simp [RS.take, hn]
   rw [e]
   exact ⟨rfl, h1⟩
 ·refine (read32_bad w R a cap bs at_ err wh h (by simpa using he)).mono ?_
  rintro r w' ⟨rfl, h1⟩
  have e : RS.take ⟨bs, at_, err, wh⟩ 4 = ([], ⟨bs, at_, err, wh⟩) := by simp [RS.take, he]
  rw [e]
  exact ⟨rfl, h1⟩

theorem m32_any (w : World) (R : Nat) (a : Option Addr) (cap : Nat) (s : RS) (h : IsRS w R a cap s) :
  Calls Tryz.prog 78 #[.pointer (some ⟨R, 0, none⟩)] w fun r w' => r = .returned (.int .u32 (s.num 4 : Nat)) ∧ IsRS w' R a cap (s.take 4).2 ∧ Chg w w' (fun k => k = R) := by
 obtain ⟨bs, at_, err, wh⟩ := s
 unfold IsRS RS.num at *
 by_cases he : err = 0
 ·subst he
  by_cases hn : bs.length < at_ + 4
  ·refine (r32_short w R a cap bs at_ wh h hn).mono ?_
   rintro r w' ⟨rfl, h1⟩
   have e : RS.take ⟨bs, at_, 0, wh⟩ 4 = ([], ⟨bs, at_, 11, at_⟩) := by simp [RS.take, hn]
   rw [e]
   exact ⟨rfl, h1⟩
  ·refine (r32_ok w R a cap bs at_ wh h (by omega)).mono ?_
   rintro r w' ⟨rfl, h1⟩
   have e : RS.take ⟨bs, at_, 0, wh⟩ 4 = ((bs.drop at_).take 4, ⟨bs, at_ + 4, 0, wh⟩) := by simp [RS.take, hn]
   rw [e]
   exact ⟨rfl, h1⟩
 ·refine (r32_bad w R a cap bs at_ err wh h (by simpa using he)).mono ?_
  rintro r w' ⟨rfl, h1⟩
  have e : RS.take ⟨bs, at_, err, wh⟩ 4 = ([], ⟨bs, at_, err, wh⟩) := by simp [RS.take, he]
  rw [e]
  exact ⟨rfl, h1⟩

theorem m64_any (w : World) (R : Nat) (a : Option Addr) (cap : Nat) (s : RS) (h : IsRS w R a cap s) :
  Calls Tryz.prog 257 #[.pointer (some ⟨R, 0, none⟩)] w fun r w' => r = .returned (.int .u64 (s.num 8 : Nat)) ∧ IsRS w' R a cap (s.take 8).2 ∧ Chg w w' (fun k => k = R) := by
 obtain ⟨bs, at_, err, wh⟩ := s
 unfold IsRS RS.num at *
 by_cases he : err = 0
 ·subst he
  by_cases hn : bs.length < at_ + 8
  ·refine (r64_short w R a cap bs at_ wh h hn).mono ?_
   rintro r w' ⟨rfl, h1⟩
   have e : RS.take ⟨bs, at_, 0, wh⟩ 8 = ([], ⟨bs, at_, 11, at_⟩) := by simp [RS.take, hn]
   rw [e]
   exact ⟨rfl, h1⟩
  ·refine (r64_ok w R a cap bs at_ wh h (by omega)).mono ?_
   rintro r w' ⟨rfl, h1⟩
   have e : RS.take ⟨bs, at_, 0, wh⟩ 8 = ((bs.drop at_).take 8, ⟨bs, at_ + 8, 0, wh⟩) := by simp [RS.take, hn]
   rw [e]
   exact ⟨rfl, h1⟩
 ·refine (r64_bad w R a cap bs at_ err wh h (by simpa using he)).mono ?_
  rintro r w' ⟨rfl, h1⟩
  have e : RS.take ⟨bs, at_, err, wh⟩ 8 = ([], ⟨bs, at_, err, wh⟩) := by simp [RS.take, he]
  rw [e]
  exact ⟨rfl, h1⟩

theorem Chg.toR {w w' : World} {R : Nat} (h : Chg w w' (fun _ => False)) : Chg w w' (fun k => k = R) := h.weak
theorem IsRS.other {w w' : World} {R : Nat} {a : Option Addr} {cap : Nat} {s : RS} {S : Nat → Prop} (h : IsRS w R a cap s) (hc : Chg w w' S) (h1 : ¬ S R) (h2 : ∀ b o, a = some ⟨b, o, none⟩ → 0 < s.bs.length → ¬ S b) : IsRS w' R a cap s :=
 ⟨hc.heap h.box h1, h.bytes.chg hc h2, h.at_le, h.cap_le, h.nil⟩

def RS.raw (s : RS) (n : Int) : List Int × RS := if n < 0 then ([], s.fail 10 s.at_) else s.take n.toNat

set_option maxRecDepth 10000 in
theorem raw_any (w : World) (R : Nat) (a : Option Addr) (cap : Nat) (s : RS) (n : Int) (hn : n ≤ 9223372036854775807) (h : IsRS w R a cap s) :
  Calls Tryz.prog 75 #[.pointer (some ⟨R, 0, none⟩), .int .i64 n] w fun r w' => ∃ v, r = .returned v ∧ OwnB w' v (s.raw n).1 ∧ Fresh w.heap.size v ∧ IsRS w' R a cap (s.raw n).2 ∧ Chg w w' (fun k => k = R) := by
 by_cases h0 : n < 0
 ·have e : s.raw n = ([], s.fail 10 s.at_) := by simp [RS.raw, h0]
  rw [e]
  clear e
  go_enter Tryz.func75, Tryz.ntmps75
  go_wp2_with fail
  go_at_call 81
  refine (rfail_any w R a cap s 10 h).mono ?_
  rintro r w1 ⟨rfl, h1, h2⟩
  go_wp2
  go_ret
  exact ⟨_, rfl, ⟨World.ownsRow_nil _ _ _ _, by simp⟩, (by intro k hk; cases hk), h1, h2⟩
 ·have e : s.raw n = s.take n.toNat := by simp [RS.raw, h0]
  rw [e]
  clear e
  obtain ⟨m, rfl⟩ : ∃ m : Nat, n = m := ⟨n.toNat, by omega⟩
  simp only [Int.toNat_natCast]
  have hT := take_any w R a cap s m h
  generalize s.take m = q at hT ⊢
  go_enter Tryz.func75, Tryz.ntmps75
  go_wp2_with fail
  go_at_call 112
  refine hT.mono ?_
  clear hT
  rintro r w1 ⟨a', cap', rfl, hB, h1, h2, h3, h4, h5⟩
  have K : Hid (Bs w1 a' q.1.length q.1 ∧ IsRS w1 R a cap q.2 ∧ Chg w w1 (fun k => k = R)) := ⟨hB, h1, h2⟩
  clear hB h1 h2 h3 h4 h5 h
  go_wp2_with fail
  go_at_call 71
  refine (clone_any w1 a' _ cap' q.1 K.out.1).mono ?_
  rintro r w2 ⟨v, rfl, k1, k2, k3⟩
  obtain ⟨hB, h1, h2⟩ := K.out
  have k4 : Fresh w.heap.size v := fun k hk => Nat.le_trans h2.size (k2 k hk)
  have k5 : IsRS w2 R a cap q.2 := h1.other k3 (by simp) (by simp)
  have k6 : Chg w w2 (fun k => k = R) := h2.trans k3 (fun _ _ x => x.elim)
  clear K hB h1 h2 k2 k3
  go_wp2
  go_ret
  exact ⟨v, rfl, k1, k4, k5, k6⟩

def RS.end (s : RS) : RS := if 0 < s.left then s.fail 14 s.at_ else s

theorem end_any (w : World) (R : Nat) (a : Option Addr) (cap : Nat) (s : RS) (h : IsRS w R a cap s) :
  Calls Tryz.prog 30 #[.pointer (some ⟨R, 0, none⟩)] w fun r w' => r = .returned (.tuple #[]) ∧ IsRS w' R a cap s.end ∧ Chg w w' (fun k => k = R) := by
 by_cases h0 : 0 < s.left
 ·have e : s.end = s.fail 14 s.at_ := by simp [RS.end, h0]
  rw [e]
  go_enter Tryz.func30, Tryz.ntmps30
  go_wp2_with fail
  go_at_call 80
  refine (left_any w R a cap s h).mono ?_
  rintro r w1 ⟨rfl, h1, h2⟩
  clear e
  go_wp2_with fail
  go_at_call 81
  refine (rfail_any w1 R a cap s 14 h1).mono ?_
  rintro r w2 ⟨rfl, h3, h4⟩
  go_wp2
  go_end0
  exact ⟨rfl, h3, h2.toR.trans h4 (fun _ _ x => x)⟩
 ·have e : s.end = s := by simp [RS.end, h0]
  rw [e]
  have h0' : s.left = 0 := by omega
  go_enter Tryz.func30, Tryz.ntmps30
  go_wp2_with fail
  go_at_call 80
  refine (left_any w R a cap s h).mono ?_
  rintro r w1 ⟨rfl, h1, h2⟩
  clear e
  go_wp2
  go_end0
  exact ⟨rfl, h1, h2.toR⟩

def RS.counted (s : RS) (k most : Nat) : List Int × RS :=
 if most < s.num k then ({ (s.take k).2 with at_ := s.at_ }.fail 15 s.at_).take (s.num k)
 else if (s.take k).2.left < s.num k then ({ (s.take k).2 with at_ := s.at_ }.fail 11 s.at_).take (s.num k)
 else (s.take k).2.take (s.num k)

theorem IsRS.setAt {w : World} {R : Nat} {a : Option Addr} {cap : Nat} {s : RS} (h : IsRS w R a cap s) (p : Nat) (hp : p ≤ s.bs.length) : IsRS (w.setCell ⟨R, 1, none⟩ (.int .i64 p)) R a cap { s with at_ := p } ∧ Chg w (w.setCell ⟨R, 1, none⟩ (.int .i64 p)) (fun k => k = R) := by
 have hC : Chg w (w.setCell ⟨R, 1, none⟩ (.int .i64 p)) (fun k => k = R) := Chg.setCell (S := fun k => k = R) (Chg.refl _ _) (.inl rfl) _
 exact ⟨IsR.set h hC (by rw [box4_set1 h.box _]) hp, hC⟩
theorem RS.num_lt (s : RS) (k : Nat) (h : ∀ x ∈ s.bs, 0 ≤ x ∧ x ≤ 255) : s.num k < 2 ^ (8 * k) := by
 have h1 := ofLe_lt _ (s.take_range k h)
 have h2 := s.take_len k
 exact Nat.lt_of_lt_of_le h1 (Nat.pow_le_pow_right (by omega) (by omega))

set_option maxRecDepth 10000 in
set_option maxRecDepth 10000 in
theorem counted32_any (w : World) (R : Nat) (a : Option Addr) (cap : Nat) (s : RS) (most : Nat) (hm : most ≤ 9223372036854775807) (h : IsRS w R a cap s) :
  Calls Tryz.prog 113 #[.pointer (some ⟨R, 0, none⟩), .int .u64 most] w fun r w' => ∃ a' cap', r = .returned (.slice a' (s.counted 4 most).1.length cap') ∧ Bs w' a' (s.counted 4 most).1.length (s.counted 4 most).1 ∧ IsRS w' R a cap (s.counted 4 most).2 ∧ Chg w w' (fun k => k = R) ∧ (s.counted 4 most).1.length ≤ cap' ∧ (∀ b o, a' = some ⟨b, o, none⟩ → 0 < (s.counted 4 most).1.length → ∃ o', a = some ⟨b, o', none⟩) ∧ (a' = none → cap' = 0) := by
 have hN := num32_any w R a cap s h
 have hlt := s.num_lt 4 h.bytes.2.2.1
 have hatl : s.at_ ≤ s.bs.length := h.at_le
 have hbs := s.take_bs 4
 have hlb : s.bs.length ≤ 140737488355328 := h.bytes.2.1
 obtain ⟨c0, c1, c2, c3, cf⟩ := h.cells
 clear c0 c2 c3 cf
 unfold RS.counted
 generalize s.num 4 = n at *
 generalize (s.take 4).2 = s1 at *
 have hl1 : s1.left ≤ 140737488355328 := by unfold RS.left; split; omega; rw [hbs]; omega
 simp only [show 8 * 4 = 32 from rfl] at hlt
 by_cases h1 : most < n
 ·simp only [if_pos h1]
  generalize hs3 : ({ s1 with at_ := s.at_ } : RS).fail 15 s.at_ = s3
  go_enter Tryz.func113, Tryz.ntmps113
  go_wp2_with fail
  go_at_call 114
  refine hN.mono ?_
  rintro r w1 ⟨rfl, q1, q2⟩
  obtain ⟨q3, q4⟩ := IsRS.setAt q1 s.at_ (by rw [hbs]; exact hatl)
  have d1 := (IsR.cells q1).2.1
  have d2 := (IsR.cells q1).2.2.2.2 1
  have K : Hid (Chg w w1 (fun k => k = R) ∧ IsRS (w1.setCell ⟨R, 1, none⟩ (.int .i64 s.at_)) R a cap { s1 with at_ := s.at_ } ∧ Chg w1 (w1.setCell ⟨R, 1, none⟩ (.int .i64 s.at_)) (fun k => k = R)) := ⟨q2, q3, q4⟩
  have HS : Hid (({ s1 with at_ := s.at_ } : RS).fail 15 s.at_ = s3) := hs3
  clear q1 q2 q3 q4 hN h hbs hs3
  go_wp2_with fail
  go_at_call 81
  refine (rfail_any _ R a cap { s1 with at_ := s.at_ } 15 K.out.2.1).mono ?_
  rintro r w2 ⟨rfl, q1, q2⟩
  have q1' : IsRS w2 R a cap s3 := by rw [← HS.out]; exact q1
  have K2 : Hid (Chg w w2 (fun k => k = R)) := (K.out.1.trans K.out.2.2 (fun _ _ x => x)).trans q2 (fun _ _ x => x)
  clear K q1 q2 d1 d2 HS c1
  have hT := take_any w2 R a cap s3 n q1'
  clear q1'
  go_wp2_with fail
  go_at_call 112
  refine hT.mono ?_
  rintro r w3 ⟨a', cap', rfl, t1, t2, t3, t4⟩
  have t3' : Chg w w3 (fun k => k = R) := K2.out.trans t3 (fun _ _ x => x)
  clear hT t3 K2
  go_wp2
  go_ret
  exact ⟨a', cap', rfl, t1, t2, t3', t4⟩
 ·simp only [if_neg h1]
  by_cases h2 : s1.left < n
  ·simp only [if_pos h2]
   generalize hs3 : ({ s1 with at_ := s.at_ } : RS).fail 11 s.at_ = s3
   go_enter Tryz.func113, Tryz.ntmps113
   go_wp2_with fail
   go_at_call 114
   refine hN.mono ?_
   rintro r w1 ⟨rfl, q1, q2⟩
   clear hN
   have hL := left_any w1 R a cap s1 q1
   clear q1
   go_wp2_with fail
   go_at_call 80
   refine hL.mono ?_
   rintro r w1b ⟨rfl, q1, q2b⟩
   clear hL
   obtain ⟨q3, q4⟩ := IsRS.setAt q1 s.at_ (by rw [hbs]; exact hatl)
   have d1 := (IsR.cells q1).2.1
   have d2 := (IsR.cells q1).2.2.2.2 1
   have K : Hid (Chg w w1b (fun k => k = R) ∧ IsRS (w1b.setCell ⟨R, 1, none⟩ (.int .i64 s.at_)) R a cap { s1 with at_ := s.at_ } ∧ Chg w1b (w1b.setCell ⟨R, 1, none⟩ (.int .i64 s.at_)) (fun k => k = R)) := ⟨q2.trans q2b (fun _ _ x => x.elim), q3, q4⟩
   have HS : Hid (({ s1 with at_ := s.at_ } : RS).fail 11 s.at_ = s3) := hs3
   clear q1 q2 q3 q4 h hbs hs3 q2b
   go_wp2_with fail
   go_at_call 81
   refine (rfail_any _ R a cap { s1 with at_ := s.at_ } 11 K.out.2.1).mono ?_
   rintro r w2 ⟨rfl, q1, q2⟩
   have q1' : IsRS w2 R a cap s3 := by rw [← HS.out]; exact q1
   have K2 : Hid (Chg w w2 (fun k => k = R)) := (K.out.1.trans K.out.2.2 (fun _ _ x => x)).trans q2 (fun _ _ x => x)
   clear K q1 q2 d1 d2 HS c1
   have hT := take_any w2 R a cap s3 n q1'
   clear q1'
   go_wp2_with fail
   go_at_call 112
   refine hT.mono ?_
   rintro r w3 ⟨a', cap', rfl, t1, t2, t3, t4⟩
   have t3' : Chg w w3 (fun k => k = R) := K2.out.trans t3 (fun _ _ x => x)
   clear hT t3 K2
   go_wp2
   go_ret
   exact ⟨a', cap', rfl, t1, t2, t3', t4⟩
  ·simp only [if_neg h2]
   go_enter Tryz.func113, Tryz.ntmps113
   go_wp2_with fail
   go_at_call 114
   refine hN.mono ?_
   rintro r w1 ⟨rfl, q1, q2⟩
   clear hN
   have hL := left_any w1 R a cap s1 q1
   clear q1
   go_wp2_with fail
   go_at_call 80
   refine hL.mono ?_
   rintro r w1b ⟨rfl, q1, q2b⟩
   clear hL
   have K2 : Hid (Chg w w1b (fun k => k = R)) := q2.trans q2b (fun _ _ x => x.elim)
   have hT := take_any w1b R a cap s1 n q1
   clear q1 q2 q2b h hbs c1
   go_wp2_with fail
   go_at_call 112
   refine hT.mono ?_
   rintro r w3 ⟨a', cap', rfl, t1, t2, t3, t4⟩
   have t3' : Chg w w3 (fun k => k = R) := K2.out.trans t3 (fun _ _ x => x)
   clear hT t3 K2
   go_wp2
   go_ret
   exact ⟨a', cap', rfl, t1, t2, t3', t4⟩
end Go.Proofs.YtkggkkoblpdopaaGreat
namespace Go.Proofs.YtkggkkoblpdopaaGreat
open Go.ChangeShapes Go.WideShapes Go.ChangeAt Go.RowKit
set_option linter.unusedVariables false

def strOf (bs : List Int) : ByteArray := bs.foldl (fun r n => r.push (UInt8.ofNat n.toNat)) ByteArray.empty

set_option maxRecDepth 100000 in
theorem conv_str (w : World) (a : Option Addr) (len cap : Nat) (bs : List Int) (h : Bs w a len bs) : (convert 22 9 (.slice a len cap)).run Tryz.prog w = .ok (.string (strOf bs)) w := by
 rw [run_convert_bytes_string w 22 9 5 a len cap Tryz.underlying22 Tryz.underlying5 Tryz.underlying9]
 cases a with
 | none =>
  obtain ⟨h1, h2, h3, h4⟩ := h
  have h0 : len = 0 := by rcases h4 with h | ⟨b, o, e, _⟩; exact h; cases e
  have : bs = [] := List.eq_nil_of_length_eq_zero (by omega)
  subst this
  simp [Conv.bytesToString, strOf]
 | some x =>
  obtain ⟨h1, h2, h3, h4⟩ := h
  have hl := run_loadCells_list (P := Tryz.prog) w x (bs.map (Value.int .u8)) (fun j v hj => by
   rcases h4 with h0 | ⟨b, o, e, hc⟩
   ·have : bs = [] := List.eq_nil_of_length_eq_zero (by omega)
    subst this; simp at hj
   ·have hj' : j < bs.length := by have := (List.getElem?_eq_some_iff.1 hj).1; simpa using this
    simp only [Option.some.injEq] at e
    subst e
    rw [Addr.add_lit, hc j (by omega), ← getD_map_u8 _ _ hj']
    exact hj)
  simp only [List.length_map, h1] at hl
  exact run_bytesToString w x len cap bs hl

def RS.text (s : RS) (most : Int) : List Int × RS := if most < 0 then ([], s.fail 10 s.at_) else s.counted 2 most.toNat

set_option maxRecDepth 10000 in
def RS.part (s : RS) : RS × RS := (⟨(s.counted 4 4294967295).1, 0, (s.counted 4 4294967295).2.err, 0⟩, (s.counted 4 4294967295).2)

set_option maxRecDepth 100000 in
theorem part_any (w : World) (R : Nat) (a : Option Addr) (cap : Nat) (s : RS) (h : IsRS w R a cap s) :
  Calls Tryz.prog 76 #[.pointer (some ⟨R, 0, none⟩)] w fun r w' => ∃ R2 a2 cap2, r = .returned (.pointer (some ⟨R2, 0, none⟩)) ∧ IsRS w' R2 a2 cap2 s.part.1 ∧ IsRS w' R a cap s.part.2 ∧ Chg w w' (fun k => k = R) ∧ w.heap.size ≤ R2 ∧ (∀ b o, a2 = some ⟨b, o, none⟩ → 0 < s.part.1.bs.length → ∃ o', a = some ⟨b, o', none⟩) := by
 have hT := counted32_any w R a cap s 4294967295 (by omega) h
 unfold RS.part
 generalize s.counted 4 4294967295 = q at hT ⊢
 go_enter Tryz.func76, Tryz.ntmps76
 go_wp2_with fail
 go_at_call 113
 refine hT.mono ?_
 clear hT
 rintro r w1 ⟨a', cap', rfl, hB, h1, h2, h3, h4, h5⟩
 have d2 := (IsR.cells h1).2.2.1
 have K : Hid (Bs w1 a' q.1.length q.1 ∧ IsRS w1 R a cap q.2 ∧ Chg w w1 (fun k => k = R) ∧ q.1.length ≤ cap' ∧ (∀ b o, a' = some ⟨b, o, none⟩ → 0 < q.1.length → ∃ o', a = some ⟨b, o', none⟩) ∧ (a' = none → cap' = 0)) := ⟨hB, h1, h2, h3, h4, h5⟩
 clear hB h1 h2 h3 h4 h5 h
 go_wp2
 go_ret
 obtain ⟨hB, h1, h2, h3, h4, h5⟩ := K.out
 have hA : Chg w1 (w1.alloc (.cells #[.slice a' q.1.length cap', .int .i64 0, .int .i64 q.2.err, .int .i64 0] 256)) (fun _ => False) := (Chg.refl _ _).alloc _
 exact ⟨w1.heap.size, a', cap', rfl, ⟨heap_alloc_new w1 _, hB.chg hA (by simp), by simp, h3, h5⟩, IsRS.other h1 hA (by simp) (by simp), h2.alloc _, h2.size, h4⟩

set_option maxRecDepth 100000 in
theorem mayPad_any (w : World) (n : Int) : Calls Tryz.prog 241 #[.int .i64 n] w fun r w' => r = .returned (.bool (decide (1 ≤ n ∧ n ≤ 4096))) ∧ w' = w := by
 by_cases h1 : 1 ≤ n
 ·by_cases h2 : n ≤ 4096
  ·go_enter Tryz.func241, Tryz.ntmps241
   go_wp2
   go_ret
   exact ⟨by simp [h1, h2], rfl⟩
  ·go_enter Tryz.func241, Tryz.ntmps241
   go_wp2
   go_ret
   exact ⟨by simp; omega, rfl⟩
 ·have h1' : decide (1 ≤ n) = false := by simpa using h1
  go_enter Tryz.func241, Tryz.ntmps241
  go_wp2
  go_ret
  exact ⟨by first | rfl | (simp; done) | (simp; omega), rfl⟩

def padN (place to : Nat) : Nat := (to - place % to) % to
set_option maxRecDepth 100000 in
theorem padN_lt (p t : Nat) (h : 0 < t) : padN p t < t := Nat.mod_lt _ h

set_option maxRecDepth 100000 in
theorem padding_any (w : World) (p t : Nat) (hp : p ≤ 140737488355328) (h1 : 1 ≤ t) (h2 : t ≤ 4096) : Calls Tryz.prog 242 #[.int .i64 p, .int .i64 t] w fun r w' => r = .returned (.int .i64 (padN p t : Nat)) ∧ w' = w := by
 have hne : ((t : Int) == 0) = false := by simp; omega
 have hne2 : ((t : Int) == -1) = false := by simp
 have hm : (p : Int) % t < t := Int.emod_lt_of_pos _ (by omega)
 have hm0 : 0 ≤ (p : Int) % t := Int.emod_nonneg _ (by omega)
 go_enter Tryz.func242, Tryz.ntmps242
 go_wp2
 go_ret
 refine ⟨ret_int ?_, rfl⟩
 have hlt : p % t < t := Nat.mod_lt _ (by omega)
 have e1 : (p : Int) % t = ((p % t : Nat) : Int) := by simp
 have e2 : (t : Int) - ((p % t : Nat) : Int) = ((t - p % t : Nat) : Int) := by omega
 unfold padN
 first
  | (rw [e1, e2]; simp)
  | (simp only [e1, e2]; simp)

def RS.padded (s : RS) (q : List Int × RS) : RS :=
 match q.1.findIdx? (fun x => x != 0) with
 | some i => { q.2 with at_ := s.at_ }.fail 13 (s.at_ + i : Nat)
 | none => q.2
set_option maxRecDepth 100000 in
theorem RS.padded_some (s : RS) (q : List Int × RS) (i : Nat) (h : q.1.findIdx? (fun x => x != 0) = some i) : s.padded q = { q.2 with at_ := s.at_ }.fail 13 (s.at_ + i : Nat) := by
 unfold RS.padded; rw [h]
set_option maxRecDepth 100000 in
theorem RS.padded_none (s : RS) (q : List Int × RS) (h : q.1.findIdx? (fun x => x != 0) = none) : s.padded q = q.2 := by
 unfold RS.padded; rw [h]
def RS.pad (s : RS) (to : Int) : RS :=
 if 1 ≤ to ∧ to ≤ 4096 then s.padded (s.take (padN s.at_ to.toNat)) else s.fail 10 s.at_

set_option maxRecDepth 100000 in
theorem findIdx_none {l : List Int} (h : ∀ i, i < l.length → l.getD i 0 = 0) : l.findIdx? (fun x => x != 0) = none := by
 rw [List.findIdx?_eq_none_iff]
 intro x hx
 obtain ⟨i, hi, rfl⟩ := List.mem_iff_getElem.1 hx
 have := h i hi
 rw [List.getD_eq_getElem?_getD, List.getElem?_eq_getElem hi] at this
 simpa using this
set_option maxRecDepth 100000 in
theorem findIdx_some {l : List Int} {k : Nat} (hk : k < l.length) (h : ∀ i, i < k → l.getD i 0 = 0) (hn : l.getD k 0 ≠ 0) : l.findIdx? (fun x => x != 0) = some k := by
 rw [List.findIdx?_eq_some_iff_getElem]
 refine ⟨hk, ?_, ?_⟩
 ·rw [List.getD_eq_getElem?_getD, List.getElem?_eq_getElem hk] at hn
  simpa using hn
 ·intro j hj
  have := h j hj
  rw [List.getD_eq_getElem?_getD, List.getElem?_eq_getElem (by omega)] at this
  simpa using this

set_option maxRecDepth 100000 in
theorem rpad_any (w : World) (R : Nat) (a : Option Addr) (cap : Nat) (s : RS) (n : Int) (h : IsRS w R a cap s) :
  Calls Tryz.prog 258 #[.pointer (some ⟨R, 0, none⟩), .int .i64 n] w fun r w' => r = .returned (.tuple #[]) ∧ IsRS w' R a cap (s.pad n) ∧ Chg w w' (fun k => k = R) := by
 by_cases h0 : 1 ≤ n ∧ n ≤ 4096
 ·obtain ⟨t, rfl⟩ : ∃ t : Nat, n = t := ⟨n.toNat, by omega⟩
  have hd : decide (1 ≤ (t : Int) ∧ (t : Int) ≤ 4096) = true := by simpa using h0
  have hT := take_any w R a cap s (padN s.at_ t) h
  have hat : s.at_ ≤ s.bs.length := h.at_le
  have hlb : s.bs.length ≤ 140737488355328 := h.bytes.2.1
  have hbs := s.take_bs (padN s.at_ t)
  have hlen := s.take_len (padN s.at_ t)
  have hpl := padN_lt s.at_ t (by omega)
  obtain ⟨c0, c1, c2, c3, cf⟩ := h.cells
  clear c0 c2 c3 cf
  unfold RS.pad
  rw [if_pos h0]
  simp only [Int.toNat_natCast]
  generalize s.take (padN s.at_ t) = q at *
  go_enter Tryz.func258, Tryz.ntmps258
  go_wp2_with (first | (go_at_call 241; refine (mayPad_any _ _).mono ?_; rintro e w ⟨rfl, rfl⟩; rw [hd]) | (go_at_call 242; refine (padding_any _ _ _ (by omega) (by omega) (by omega)).mono ?_; rintro e w ⟨rfl, rfl⟩))
  go_at_call 112
  refine hT.mono ?_
  clear hT
  rintro r w1 ⟨a', cap', rfl, hB, h1, h2, h3, h4, h5⟩
  have K : Hid (IsRS w1 R a cap q.2 ∧ Chg w w1 (fun k => k = R)) := ⟨h1, h2⟩
  obtain ⟨q1, q2, q3, q4⟩ := hB
  obtain ⟨u3,u4⟩ := IsRS.setAt h1 s.at_ (by rw [hbs]; exact hat)
  have d1 := (IsR.cells h1).2.1
  have d2 := (IsR.cells h1).2.2.2.2 1
  have U : Hid (IsRS (w1.setCell ⟨R, 1, none⟩ (.int .i64 s.at_)) R a cap { q.2 with at_ := s.at_ } ∧ Chg w1 (w1.setCell ⟨R, 1, none⟩ (.int .i64 s.at_)) (fun k => k = R)) := ⟨u3,u4⟩
  clear h1 h2 h3 h4 h5 u3 u4 h hbs
  go_wp2
  go_loop [23] (fun i => ∃ k : Nat, k ≤ q.1.length ∧ i = .int .i64 k ∧ ∀ j, j < k → q.1.getD j 0 = 0) (fun i => q.1.length - (intOf i).toNat)
  case atStart => exact ⟨0, by omega, rfl, by intro j hj; omega⟩
  case round =>
   obtain ⟨k, hk, rfl, hz⟩ := hrel
   have HZ : Hid (∀ j, j < k → q.1.getD j 0 = 0) := hz
   clear hz
   by_cases hlt : k < q.1.length
   ·obtain ⟨b, off, ha, hc⟩ := q4.resolve_left (by omega)
    have hck := hc k hlt
    have HQ : Hid (q.1.getD k 0 = q.1.getD k 0) := rfl
    obtain ⟨y, hy⟩ : ∃ y, y = q.1.getD k 0 := ⟨_, rfl⟩
    rw [← hy] at hck
    have HY : Hid (y = q.1.getD k 0) := hy
    clear hy hc q4 HQ
    subst ha
    by_cases hy0 : y = 0
    ·have hyb : (y != 0) = false := by simpa using hy0
     have HY0 : Hid (y = 0) := hy0
     clear hy0
     go_wp2
     go_round
     case rel => exact ⟨k + 1, by omega, by go_num, by
      intro j hj
      by_cases e : j = k
      ·subst e; rw [← HY.out, HY0.out]
      ·exact HZ.out j (by omega)⟩
     case measure => simp [intOf]; omega
    ·have hyb : (y != 0) = true := by simpa using hy0
     have hF := findIdx_some hlt HZ.out (by rw [← HY.out]; exact hy0)
     have HF : Hid (q.1.findIdx? (fun x => x != 0) = some k) := hF
     clear hF hy0
     go_wp2_with fail
     go_at_call 115
     refine (rfailAt_any _ R a cap { q.2 with at_ := s.at_ } 13 _ U.out.1).mono ?_
     rintro r w2 ⟨rfl, t1, t2⟩
     go_wp2
     refine bodyPost_ret (results_none rfl _ _ _) rfl ?_
     rw [RS.padded_some s q k HF.out]
     refine ⟨rfl, ?_, (K.out.2.trans U.out.2 (fun _ _ x => x)).trans t2 (fun _ _ x => x)⟩
     simpa using t1
   ·have hF := findIdx_none (l := q.1) (fun i hi => HZ.out i (by omega))
    have HF : Hid (q.1.findIdx? (fun x => x != 0) = none) := hF
    clear hF
    go_wp2
    go_end0
    rw [RS.padded_none s q HF.out]
    exact ⟨rfl, K.out⟩
 ·have hd : decide (1 ≤ n ∧ n ≤ 4096) = false := by simpa using h0
  have e : s.pad n = s.fail 10 s.at_ := by simp only [RS.pad, if_neg h0]
  rw [e]
  clear e
  go_enter Tryz.func258, Tryz.ntmps258
  go_wp2_with (go_at_call 241; refine (mayPad_any _ _).mono ?_; rintro e w ⟨rfl, rfl⟩; rw [hd])
  go_at_call 81
  refine (rfail_any w R a cap s 10 h).mono ?_
  rintro r w1 ⟨rfl, h1, h2⟩
  go_wp2
  refine bodyPost_ret (results_none rfl _ _ _) rfl ?_
  exact ⟨rfl, h1, h2⟩
end Go.Proofs.YtkggkkoblpdopaaGreat
namespace Go.Proofs.YtkggkkoblpdopaaGreat
open Go.ChangeShapes Go.WideShapes Go.ChangeAt Go.RowKit
set_option linter.unusedVariables false

theorem own_shape {w : World} {v : Value} {bs : List Int} (h : OwnB w v bs) (hp : 0 < bs.length) : ∃ g cap, v = .slice (some ⟨g, 0, none⟩) bs.length cap ∧ bs.length ≤ cap := own_nonnil h.1 hp

theorem run_appB (w : World) (v : Value) (xs : List Int) (hown : OwnB w v xs) (ao : Option Addr) (m c : Nat) (ys : List Int) (hs : Bs w ao m ys) (hb : xs.length + m ≤ 140737488355328) (ty : TypeId) :
  ∃ v' w', (Builtin.append_ #[22, 22] ty #[v, .slice ao m c]).run Tryz.prog w = .ok v' w' ∧ OwnB w' v' (xs ++ ys) ∧ w.grownBy w' v.ownBlock ∧ Loc w v v' := by
 obtain ⟨i0, hi, hz0, hz1, hz2⟩ := info_parts info5
 obtain ⟨v', w', hr, k1, k2, k3⟩ := run_app (P := Tryz.prog) w 22 ty 5 i0 (.int .u8 0) 1 1 Tryz.underlying22 hi hz0 hz1 hz2 rfl (by decide) v xs.length _ hown.1 ao m c (ys.map (Value.int .u8)) (by simp [hs.1]) hs.src (oneCell_u8 ys) (by simp [maxLen]; omega) (by omega)
 refine ⟨v', w', hr, ⟨?_, ?_⟩, k2, k3⟩
 ·have e : (xs ++ ys).length = xs.length + m := by simp [hs.1]
  rw [e]; simpa using k1
 ·intro n hn
  rcases List.mem_append.1 hn with h | h
  ·exact hown.2 n h
  ·exact hs.2.2.1 n h

theorem OwnB.alloc {w : World} {v : Value} {bs : List Int} (h : OwnB w v bs) (o : Obj) : OwnB (w.alloc o) v bs := ⟨h.1.alloc o, h.2⟩
theorem OwnB.chg {w w' : World} {v : Value} {bs : List Int} {S : Nat → Prop} (h : OwnB w v bs) (hc : Chg w w' S) (hn : ∀ k, v.ownBlock = some k → ¬ S k) : OwnB w' v bs := ⟨hc.owns h.1 hn, h.2⟩
theorem OwnB.nil (w : World) : OwnB w (.slice none 0 0) [] := ⟨World.ownsRow_nil _ _ _ _, by simp⟩

set_option maxRecDepth 10000 in
theorem OwnB.cellAt {w : World} {g cap : Nat} {bs : List Int} (h : OwnB w (.slice (some ⟨g, 0, none⟩) bs.length cap) bs) (j : Nat) (hj : j < bs.length) : w.cell? ⟨g, j, none⟩ = some (.int .u8 (bs.getD j 0)) ∧ w.frozen? ⟨g, j, none⟩ = false := by
 refine ⟨?_, h.1.frozenAt j⟩
 rw [h.1.cellAt j (by omega), getD_map_u8 _ _ hj]

def over (xs : List Int) (k : Nat) : List Int := List.replicate k 238 ++ xs.drop k
end Go.Proofs.YtkggkkoblpdopaaGreat
