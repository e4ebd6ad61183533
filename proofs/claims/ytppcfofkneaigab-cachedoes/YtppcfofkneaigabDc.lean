import Derived.Test.YtppcfofkneaigabDb
import Derived.Test.YtppcfofkneaigabQc
import Derived.Test.YtppcfofkneaigabLw
import Derived.BigQuiet
namespace Go.Proofs.Ytppcfofkneaigab
open Go.ChangeShapes Go.WideShapes Go.ChangeAt Go.RowKit
set_option linter.unusedVariables false

def sumN (st : Nat → List Ln) : Nat → Nat
  | 0 => 0
  | n + 1 => sumN st n + (st n).length
theorem sumN_le (st : Nat → List Ln) (c : Nat) (h : ∀ k, (st k).length ≤ c) : ∀ n, sumN st n ≤ n * c
  | 0 => by simp [sumN]
  | n + 1 => by have h1 := sumN_le st c h n; have h2 := h n; simp only [sumN]; rw [Nat.add_mul]; omega
theorem len_upto (sets : Nat) (L : List HL) (n : Nat) : L.countP (fun e => decide (e.1 % sets < n + 1)) = L.countP (fun e => decide (e.1 % sets < n)) + (L.filter (inS sets n)).length := by
  induction L with
  | nil => simp
  | cons e L ih =>
    simp only [List.countP_cons, List.filter_cons, ih, inS]
    by_cases h1 : e.1 % sets = n
    · simp [h1]; omega
    · have h2 : (e.1 % sets < n + 1) ↔ (e.1 % sets < n) := by omega
      simp [h1, h2]; omega
theorem Rel.total {sets : Nat} {st : Nat → List Ln} {L : List HL} {now : Nat} {su : Nat → List HL} (h : Rel sets st L now su) (h0 : 1 ≤ sets) (h2 : sets ≤ 256) (h8 : ∀ k, (st k).length ≤ 8) : L.length ≤ 2048 := by
  have key : ∀ n, n ≤ sets → L.countP (fun e => decide (e.1 % sets < n)) = sumN st n := by
    intro n
    induction n with
    | zero => intro _; simp [sumN]
    | succ n ih => intro hn; rw [len_upto, ih (by omega), sumN, (h.len (show n < sets by omega)).1]
  have h3 : L.countP (fun e => decide (e.1 % sets < sets)) = L.length := by
    rw [List.countP_eq_length]
    intro e _
    have := Nat.mod_lt e.1 (show 0 < sets by omega)
    simp [this]
  rw [← h3, key sets (Nat.le_refl _)]
  have := sumN_le st 8 h8 sets
  omega

/-! The document's cache in memory. -/
def hC (e : HL) : List Value := [.int .u32 (e.1 : Nat), .int .i64 (e.2.1 : Nat), .bool e.2.2]
def hF : List HL → List Value
  | [] => []
  | e :: r => hC e ++ hF r
theorem hF_app : ∀ a b, hF (a ++ b) = hF a ++ hF b
  | [], b => rfl
  | x :: a, b => by simp [hF, hF_app a b]
theorem hF_len : ∀ l, (hF l).length = l.length * 3
  | [] => rfl
  | x :: l => by simp [hF, hF_len l, hC]; omega
theorem hF_get : ∀ (l : List HL) (i q : Nat) (h : i < l.length), q < 3 → (hF l)[i * 3 + q]? = (hC (l[i]))[q]?
  | x :: l, 0, q, h, hq => by
    rw [hF, List.getElem?_append_left (by simp [hC]; omega)]
    simp
  | x :: l, i + 1, q, h, hq => by
    have e : (i + 1) * 3 + q = 3 + (i * 3 + q) := by omega
    have hl : (hC x).length = 3 := rfl
    rw [hF, List.getElem?_append_right (by omega), hl, e, Nat.add_sub_cancel_left]
    exact hF_get l i q (by simpa using h) hq
theorem hF_take : ∀ (l : List HL) (n : Nat), hF (l.take n) = (hF l).take (n * 3)
  | [], n => by simp [hF]
  | x :: l, 0 => by simp [hF]
  | x :: l, n + 1 => by
    have e : (n + 1) * 3 = n * 3 + 1 + 1 + 1 := by omega
    rw [List.take_succ_cons, hF, hF, hF_take l n, e]
    rfl
theorem hF_drop : ∀ (l : List HL) (n : Nat), hF (l.drop n) = (hF l).drop (n * 3)
  | [], n => by simp [hF]
  | x :: l, 0 => by simp [hF]
  | x :: l, n + 1 => by
    have e : (n + 1) * 3 = n * 3 + 1 + 1 + 1 := by omega
    rw [List.drop_succ_cons, hF, hF_drop l n, e]
    rfl
theorem hF_one : ∀ (l : List HL), ∀ u ∈ hF l, u.oneCell' = true
  | x :: l, u, h => by
    rw [hF] at h
    rcases List.mem_append.1 h with h | h
    · simp [hC] at h; rcases h with rfl | rfl | rfl <;> rfl
    · exact hF_one l u h

structure RC (w : World) (B sets ways line : Nat) (v : Value) (L : List HL) (now : Nat) : Prop where
  at_ : w.heap[B]? = some (.cells #[.int .i64 (sets : Nat), .int .i64 (ways : Nat), .int .i64 (line : Nat), v, .int .i64 (now : Nat)] 79 (0, 0))
  row : w.ownsRow 0 85 3 v L.length (hF L)
  sh : ShOk sets ways line
  bd : ∀ e ∈ L, e.1 < 4294967296
theorem RC.lt {w : World} {B sets ways line : Nat} {v : Value} {L : List HL} {now : Nat} (h : RC w B sets ways line v L now) : B < w.heap.size := (Array.getElem?_eq_some_iff.1 h.at_).1
theorem RC.blk {w : World} {B sets ways line : Nat} {v : Value} {L : List HL} {now : Nat} (h : RC w B sets ways line v L now) {k : Nat} (hk : v.ownBlock = some k) : k < w.heap.size ∧ k ≠ B := by
  rcases h.row.2 with ⟨rfl, _⟩ | ⟨g, cap, cur, rfl, _, hg, _⟩
  · cases hk
  · simp [Value.ownBlock] at hk; subst hk
    refine ⟨(Array.getElem?_eq_some_iff.1 hg).1, fun e => ?_⟩
    subst e
    rw [h.at_] at hg; simp at hg
theorem RC.kept {w w' : World} {B sets ways line : Nat} {v : Value} {L : List HL} {now : Nat} {S : Nat → Prop} (h : RC w B sets ways line v L now) (hc : Chg w w' S) (h1 : ¬ S B) (h2 : ∀ k, v.ownBlock = some k → ¬ S k) : RC w' B sets ways line v L now :=
  ⟨hc.heap h.at_ h1, hc.owns h.row h2, h.sh, h.bd⟩
theorem RC.keptF {w w' : World} {B sets ways line : Nat} {v : Value} {L : List HL} {now : Nat} (h : RC w B sets ways line v L now) (hc : Chg w w' (fun _ => False)) : RC w' B sets ways line v L now := h.kept hc (fun h => h) (fun _ _ h => h)
theorem RC.len {w : World} {B sets ways line : Nat} {v : Value} {L : List HL} {now : Nat} (h : RC w B sets ways line v L now) : ∃ a cap, v = .slice a L.length cap := by
  rcases h.row.2 with ⟨rfl, h0⟩ | ⟨g, cap, cur, rfl, _⟩
  · exact ⟨none, 0, by rw [h0]⟩
  · exact ⟨_, _, rfl⟩
theorem RC.cells {w : World} {B sets ways line : Nat} {v : Value} {L : List HL} {now : Nat} (h : RC w B sets ways line v L now) : w.cell? ⟨B, 0, none⟩ = some (.int .i64 (sets : Nat)) ∧ w.cell? ⟨B, 1, none⟩ = some (.int .i64 (ways : Nat)) ∧ w.cell? ⟨B, 2, none⟩ = some (.int .i64 (line : Nat)) ∧ w.cell? ⟨B, 3, none⟩ = some v ∧ w.cell? ⟨B, 4, none⟩ = some (.int .i64 (now : Nat)) ∧ w.frozen? ⟨B, 3, none⟩ = false ∧ w.frozen? ⟨B, 4, none⟩ = false :=
  ⟨by rw [(cells_at h.at_ _).1]; rfl, by rw [(cells_at h.at_ _).1]; rfl, by rw [(cells_at h.at_ _).1]; rfl, by rw [(cells_at h.at_ _).1]; rfl, by rw [(cells_at h.at_ _).1]; rfl, (cells_at h.at_ _).2, (cells_at h.at_ _).2⟩
theorem RC.at {w : World} {B sets ways line n cap : Nat} {a : Option Addr} {L : List HL} {now : Nat} (h : RC w B sets ways line (.slice a n cap) L now) (j : Nat) (hj : j < L.length) :
    ∃ g, a = some ⟨g, 0, none⟩ ∧ g < w.heap.size ∧ w.cell? ⟨g, j * 3, none⟩ = some (.int .u32 (((L[j]).1 : Nat) : Int)) ∧ w.cell? ⟨g, j * 3 + 1, none⟩ = some (.int .i64 (((L[j]).2.1 : Nat) : Int)) ∧ w.cell? ⟨g, j * 3 + 2, none⟩ = some (.bool (L[j]).2.2) ∧
      w.frozen? ⟨g, j * 3 + 1, none⟩ = false ∧ w.frozen? ⟨g, j * 3 + 2, none⟩ = false := by
  obtain ⟨g, cap', cur, e, _, hg, hnc, _⟩ := h.row.2.resolve_left (by rintro ⟨_, h⟩; omega)
  simp only [Value.slice.injEq] at e
  obtain ⟨rfl, rfl, rfl⟩ := e
  have q : ∀ q, q < 3 → w.cell? ⟨g, j * 3 + q, none⟩ = (hC (L[j]))[q]? := fun q hq => by
    rw [h.row.cellAt (j * 3 + q) (by omega), hF_get L j q hj hq]
  exact ⟨g, rfl, (Array.getElem?_eq_some_iff.1 hg).1, q 0 (by omega), q 1 (by omega), q 2 (by omega), (cells_at hg _).2, (cells_at hg _).2⟩

def atI (L : List HL) (n : Nat) : Int := if atH L n < L.length then (atH L n : Nat) else -1

set_option maxHeartbeats 1000000 in
set_option maxRecDepth 10000 in
theorem at_any (w : World) (B sets ways line : Nat) (v : Value) (L : List HL) (now : Nat) (h : RC w B sets ways line v L now) (hl : L.length ≤ 2048) (n : Nat) :
    Calls Try.prog 29 #[.pointer (some ⟨B, 0, none⟩), .int .u32 (n : Nat)] w fun e w' => e = .returned (.int .i64 (atI L n)) ∧ w' = w := by
  obtain ⟨a, cap, rfl⟩ := h.len
  obtain ⟨_, _, _, c3, _, _, _⟩ := h.cells
  have K : Hid (RC w B sets ways line (.slice a L.length cap) L now) := h
  obtain ⟨m, hm⟩ : ∃ m, m = atH L n := ⟨_, rfl⟩
  have hml := atH_le L n
  have hne := atH_ne L n
  have hgt := atH_get L n
  obtain ⟨R, hR⟩ : ∃ R, R = atI L n := ⟨_, rfl⟩
  rw [← hR]
  unfold atI at hR
  rw [← hm] at hml hR
  have KH : Hid ((∀ j (hj : j < m) (hj2 : j < L.length), (L[j]).1 ≠ n) ∧ (∀ h : m < L.length, (L[m]).1 = n)) := by
    subst hm; exact ⟨hne, hgt⟩
  clear h hne hgt hm
  go_enter Try.func29, Try.ntmps29
  go_wp2
  go_loopw [5] (fun i wr => ∃ j : Nat, j ≤ m ∧ i = .int .i64 j ∧ wr = w) (fun i _ => L.length - (intOf i).toNat)
  case atStart => exact ⟨0, by omega, rfl, rfl⟩
  case round =>
    obtain ⟨j, hj, rfl, rfl⟩ := hrel
    by_cases hlt : j < L.length
    · have hltz : (j : Int) < (L.length : Int) := by omega
      obtain ⟨g, rfl, _, x0, _⟩ := K.out.at j hlt
      by_cases e : j = m
      · subst e
        rw [KH.out.2 hlt] at x0
        rw [if_pos hlt] at hR
        subst hR
        go_wp2
        go_ret
        exact ⟨rfl, rfl⟩
      · have hnn := KH.out.1 j (by omega) hlt
        have hnz : ¬ (((L[j]).1 : Nat) : Int) = (n : Int) := by omega
        generalize (L[j]).1 = y at *
        go_wp2
        exact ⟨⟨j + 1, by omega, by go_num, by trivial⟩, by simp [intOf]; omega⟩
    · have hltz : ¬ (j : Int) < (L.length : Int) := by omega
      rw [if_neg (by omega)] at hR
      subst hR
      go_wp2
      go_ret
      exact ⟨rfl, rfl⟩

theorem badN_take (L : List HL) (j : Nat) (h : j < L.length) : badN (L.take (j + 1)) = badN (L.take j) + (if (L[j]).2.2 = true then 1 else 0) := by
  unfold badN
  rw [List.take_add_one, List.getElem?_eq_getElem h, List.countP_append]
  simp
theorem badN_le (L : List HL) : badN L ≤ L.length := List.countP_le_length

set_option maxHeartbeats 1000000 in
set_option maxRecDepth 10000 in
theorem rdirty_any (w : World) (B sets ways line : Nat) (v : Value) (L : List HL) (now : Nat) (h : RC w B sets ways line v L now) (hl : L.length ≤ 2048) :
    Calls Try.prog 25 #[.pointer (some ⟨B, 0, none⟩)] w fun e w' => e = .returned (.int .i64 (badN L : Nat)) ∧ w' = w := by
  obtain ⟨a, cap, rfl⟩ := h.len
  obtain ⟨_, _, _, c3, _, _, _⟩ := h.cells
  have K : Hid (RC w B sets ways line (.slice a L.length cap) L now) := h
  clear h
  go_enter Try.func25, Try.ntmps25
  go_wp2
  go_loopw [3, 4] (fun c i wr => ∃ j : Nat, j ≤ L.length ∧ i = .int .i64 j ∧ c = .int .i64 (badN (L.take j) : Nat) ∧ wr = w) (fun _ i _ => L.length - (intOf i).toNat)
  case atStart => exact ⟨0, by omega, rfl, by simp [badN], rfl⟩
  case round =>
    obtain ⟨j, hj, rfl, rfl, rfl⟩ := hrel
    by_cases hlt : j < L.length
    · have hltz : (j : Int) < (L.length : Int) := by omega
      obtain ⟨g, rfl, _, _, _, x2, _⟩ := K.out.at j hlt
      have hnx := badN_take L j hlt
      have hbl := badN_le (L.take j)
      rw [List.length_take] at hbl
      generalize badN (L.take j) = b at *
      cases hd : (L[j]).2.2
      · rw [hd] at x2 hnx
        have KN0 : badN (L.take (j + 1)) = b := by simpa using hnx
        have KN : Hid (badN (L.take (j + 1)) = b) := KN0
        clear KN0
        clear hnx
        go_wp2
        exact ⟨⟨j + 1, by omega, by go_num, by rw [KN.out], by trivial⟩, by simp [intOf]; omega⟩
      · rw [hd] at x2 hnx
        have KN0 : badN (L.take (j + 1)) = b + 1 := by simpa using hnx
        have KN : Hid (badN (L.take (j + 1)) = b + 1) := KN0
        clear KN0
        clear hnx
        go_wp2
        exact ⟨⟨j + 1, by omega, by go_num, by rw [KN.out]; go_num, by trivial⟩, by simp [intOf]; omega⟩
    · have hltz : ¬ (j : Int) < (L.length : Int) := by omega
      have e : j = L.length := by omega
      rw [e, List.take_length]
      have hltz2 : ¬ (L.length : Int) < (L.length : Int) := by omega
      go_wp2
      go_ret
      exact ⟨rfl, rfl⟩
end Go.Proofs.Ytppcfofkneaigab
