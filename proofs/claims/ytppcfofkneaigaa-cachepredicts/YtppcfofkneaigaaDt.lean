import Derived.Test.YtppcfofkneaigaaUd
namespace Go.Proofs.Ytppcfofkneaigaa
open Go.ChangeShapes Go.WideShapes Go.ChangeAt Go.RowKit
set_option linter.unusedVariables false

/-- How many lines are dirty: of a list, of the first sets. -/
def cntD : List Ln → Nat
  | [] => 0
  | x :: l => (if x.2 then 1 else 0) + cntD l
def dirtyN (st : Nat → List Ln) : Nat → Nat
  | 0 => 0
  | n + 1 => dirtyN st n + cntD (st n)
theorem cntD_le : ∀ l, cntD l ≤ l.length
  | [] => by simp [cntD]
  | x :: l => by have := cntD_le l; simp only [cntD, List.length_cons]; split <;> omega
theorem cntD_app : ∀ a b, cntD (a ++ b) = cntD a + cntD b
  | [], b => by simp [cntD]
  | x :: a, b => by simp only [List.cons_append, cntD, cntD_app a b]; omega
theorem cntD_take (l : List Ln) (j : Nat) (h : j < l.length) : cntD (l.take (j + 1)) = cntD (l.take j) + (if (l[j]).2 then 1 else 0) := by
  rw [List.take_add_one, cntD_app, List.getElem?_eq_getElem h]
  simp [cntD]
theorem dirtyN_le (st : Nat → List Ln) (h : ∀ k, (st k).length ≤ 8) : ∀ n, dirtyN st n ≤ n * 8
  | 0 => by simp [dirtyN]
  | n + 1 => by have := dirtyN_le st h n; have := cntD_le (st n); have := h n; simp only [dirtyN]; omega

set_option maxHeartbeats 1000000 in
set_option maxRecDepth 10000 in
theorem dirty_any (w : World) (B sets ways line : Nat) (st : Nat → List Ln) (h : IsC w B sets ways line st) :
    Calls Try.prog 24 #[.pointer (some ⟨B, 0, none⟩)] w fun e w' => e = .returned (.int .i64 (dirtyN st sets : Nat)) ∧ Chg w w' (fun _ => False) := by
  obtain ⟨arr, hb, hsz, a0, a1, a2, hset⟩ := h.ex
  have c0 : w.cell? ⟨B, 0, none⟩ = some (.int .i64 sets) := by rw [(cells_at hb _).1, a0]
  have hs256 := h.sh.s2
  have h8 : ∀ k, (st k).length ≤ 8 := fun k => Nat.le_trans (h.good k).le h.sh.w2
  have hdl := dirtyN_le st h8
  have K : Hid (w.heap[B]? = some (.cells arr 70 (0, 0)) ∧ (∀ k, k < 256 → SetAt arr (3 + k * 17) (st k))) := ⟨hb, hset⟩
  have KH : Hid ((∀ k, (st k).length ≤ 8) ∧ ∀ n, dirtyN st n ≤ n * 8) := ⟨h8, hdl⟩
  clear h hb hsz a0 a1 a2 hset h8 hdl
  go_enter Try.func24, Try.ntmps24
  go_wp2
  go_loopw [3, 12] (fun c i wr => ∃ m : Nat, m ≤ sets ∧ i = .int .i64 m ∧ c = .int .i64 (dirtyN st m : Nat) ∧ Chg w wr (fun _ => False)) (fun _ i _ => sets - (intOf i).toNat)
  case atStart => exact ⟨0, by omega, rfl, rfl, Chg.refl _ _⟩
  case round =>
    obtain ⟨m, hm, rfl, rfl, hC⟩ := hrel
    by_cases hlt : m < sets
    · have hS := K.out.2 m (by omega)
      have hbr := hC.heap K.out.1 (fun h => h)
      have hH := held_any wr B (3 + m * 17) arr 70 hbr (st m) hS
      have hl8 := KH.out.1 m
      have hm256 : (m : Int) < 256 := by omega
      have KC : Hid (Chg w wr (fun _ => False)) := hC
      have hdm := KH.out.2 m
      clear hC hS hbr
      obtain ⟨len, hlen⟩ : ∃ len, len = (st m).length := ⟨_, rfl⟩
      rw [← hlen] at hH hl8
      obtain ⟨d, hd⟩ : ∃ d, d = dirtyN st m := ⟨_, rfl⟩
      rw [← hd] at hdm ⊢
      have HL : Hid (len = (st m).length ∧ d = dirtyN st m) := ⟨hlen, hd⟩
      clear hlen hd
      go_wp2_with fail
      go_at_call 31
      refine hH.mono ?_
      rintro e w1 ⟨rfl, hC1⟩
      have K1 : Hid (Chg w w1 (fun _ => False)) := KC.out.trans hC1 (fun _ _ h => h)
      clear hC1 hH KC
      go_wp2
      go_loopw [3, 22] (fun c i wr => ∃ j : Nat, j ≤ len ∧ i = .int .i64 j ∧ c = .int .i64 ((d + cntD ((st m).take j) : Nat) : Int) ∧ Chg w wr (fun _ => False)) (fun _ i _ => len - (intOf i).toNat)
      case atStart => exact ⟨0, by omega, rfl, by simp [cntD], K1.out⟩
      case round =>
        obtain ⟨j, hj, rfl, rfl, hC⟩ := hrel
        by_cases hjl : j < len
        · have hjl' : j < (st m).length := by have := HL.out.1; omega
          obtain ⟨c0, c1⟩ := ln_cells K.out.1 (K.out.2 m (by omega)) hC j hjl'
          have hT := cntD_take (st m) j hjl'
          have hle := cntD_le ((st m).take j)
          rw [List.length_take] at hle
          have KC : Hid (Chg w wr (fun _ => False)) := hC
          clear hC
          obtain ⟨cd, hcd⟩ : ∃ cd, cd = d + cntD ((st m).take j) := ⟨_, rfl⟩
          rw [← hcd]
          have hcl : cd ≤ 4096 := by omega
          generalize (st m)[j].1 = tg at c0
          generalize hdd : (st m)[j].2 = dd at c1 hT
          have KT : Hid (cntD ((st m).take (j + 1)) = cntD ((st m).take j) + (if dd then 1 else 0) ∧ cd = d + cntD ((st m).take j)) := ⟨hT, hcd⟩
          clear hT hle hcd hdd
          cases dd
          · go_wp2
            refine ⟨⟨j + 1, by omega, by go_num, ?_, KC.out.alloc _⟩, by simp [intOf]; omega⟩
            have := KT.out
            congr 1; simp at this; omega
          · go_wp2
            refine ⟨⟨j + 1, by omega, by go_num, ?_, KC.out.alloc _⟩, by simp [intOf]; omega⟩
            have := KT.out
            congr 1; simp at this; omega
        · go_wp2
          refine ⟨⟨m + 1, by omega, by go_num, ?_, hC⟩, by simp [intOf]; omega⟩
          have h1 := HL.out
          have : (st m).take j = st m := List.take_of_length_le (by omega)
          rw [this]
          simp only [dirtyN]; congr 1; omega
    · have : m = sets := by omega
      subst this
      go_wp2
      go_ret
      exact ⟨rfl, hC⟩
end Go.Proofs.Ytppcfofkneaigaa
