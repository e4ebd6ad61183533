import Derived.Test.YtadpgaaijdpbiaaOwn
namespace Go.Proofs.Ytadpgaaijdpbiaa
open Go.ChangeShapes Go.WideShapes Go.ChangeAt Go.RowKit
set_option linter.unusedVariables false

/-- A tag: a cell and a page. A mapping: a frame and a permission. -/
abbrev Tg := Int × Nat
abbrev Mp := Nat × Nat
def TOk (t : Tg) : Prop := -9223372036854775808 ≤ t.1 ∧ t.1 ≤ 9223372036854775807 ∧ t.2 < 4294967296
def MOk (m : Mp) : Prop := m.1 < 4294967296 ∧ m.2 < 256
def tV (t : Tg) : Value := .agg #[.int .i64 t.1, .int .u32 ((t.2 : Nat) : Int)]
def mV (m : Mp) : Value := .agg #[.int .u32 ((m.1 : Nat) : Int), .int .u8 ((m.2 : Nat) : Int)]

/-- Tags as cells. -/
def tcs : List Tg → List Value
  | [] => []
  | x :: r => .int .i64 x.1 :: .int .u32 ((x.2 : Nat) : Int) :: tcs r
theorem tcs_len : ∀ l, (tcs l).length = l.length * 2
  | [] => rfl
  | x :: r => by simp [tcs, tcs_len r]; omega
theorem tcs_one : ∀ l, ∀ v ∈ tcs l, v.oneCell' = true
  | [], v, h => by cases h
  | x :: r, v, h => by
    simp only [tcs, List.mem_cons] at h
    rcases h with rfl | rfl | h
    · rfl
    · rfl
    · exact tcs_one r v h
theorem tcs_app : ∀ a b, tcs (a ++ b) = tcs a ++ tcs b
  | [], b => rfl
  | x :: r, b => by simp [tcs, tcs_app r b]
theorem tcs_get : ∀ (l : List Tg) (i : Nat) (h : i < l.length), (tcs l)[i * 2]? = some (.int .i64 (l[i]).1) ∧ (tcs l)[i * 2 + 1]? = some (.int .u32 (((l[i]).2 : Nat) : Int))
  | x :: r, 0, h => ⟨rfl, rfl⟩
  | x :: r, i + 1, h => by
    have := tcs_get r i (by simpa using h)
    have e1 : (i + 1) * 2 = i * 2 + 1 + 1 := by omega
    rw [e1]
    simpa [tcs] using this
theorem tcs_take (l : List Tg) (k : Nat) : tcs (l.take k) = (tcs l).take (k * 2) := by
  induction l generalizing k with
  | nil => simp [tcs]
  | cons x r ih =>
    cases k with
    | zero => simp [tcs]
    | succ k => rw [show (k + 1) * 2 = k * 2 + 1 + 1 by omega]; simp [tcs, ih k]
theorem tcs_drop (l : List Tg) (k : Nat) : tcs (l.drop k) = (tcs l).drop (k * 2) := by
  induction l generalizing k with
  | nil => simp [tcs]
  | cons x r ih =>
    cases k with
    | zero => simp
    | succ k => rw [show (k + 1) * 2 = k * 2 + 1 + 1 by omega]; simp [tcs, ih k]

/-- What a TLB knows: mappings by tags, and the tags in the order of use. -/
structure Sta where
  f : Tg → Option Mp
  l : List Tg
structure Sta.Ok (s : Sta) (n : Nat) : Prop where
  nd : s.l.Nodup
  len : s.l.length ≤ n
  tok : ∀ t ∈ s.l, TOk t
  mem : ∀ t, TOk t → (t ∈ s.l ↔ (s.f t).isSome = true)
  mok : ∀ t m, s.f t = some m → MOk m
def mv (t : Tg) (l : List Tg) : List Tg := t :: l.erase t
def Sta.none : Sta := ⟨fun _ => Option.none, []⟩
def Sta.drop (s : Sta) (p : Tg → Bool) : Sta := ⟨fun t => if p t then Option.none else s.f t, s.l.filter (fun t => !p t)⟩
def Sta.look (s : Sta) (t : Tg) : Sta := if (s.f t).isSome then ⟨s.f, mv t s.l⟩ else s
def Sta.room (s : Sta) (n : Nat) (t : Tg) : Sta := if (s.f t).isSome || decide (s.l.length < n) then s else s.drop (fun x => decide (x = s.l.getLast?.getD (0, 0)))
def Sta.gone (s : Sta) (n : Nat) (t : Tg) : Tg := if (s.f t).isSome || decide (s.l.length < n) then (0, 0) else s.l.getLast?.getD (0, 0)
def Sta.went (s : Sta) (n : Nat) (t : Tg) : Bool := !((s.f t).isSome || decide (s.l.length < n))
def Sta.set (s : Sta) (t : Tg) (m : Mp) : Sta := ⟨fun x => if x = t then some m else s.f x, mv t s.l⟩
def Sta.put (s : Sta) (n : Nat) (t : Tg) (m : Mp) : Sta := (s.room n t).set t m

theorem mem_mv {t x : Tg} {l : List Tg} (h : l.Nodup) : x ∈ mv t l ↔ x = t ∨ x ∈ l := by
  unfold mv
  rw [List.mem_cons, h.mem_erase_iff]
  by_cases e : x = t <;> simp [e]
theorem mv_nodup {t : Tg} {l : List Tg} (h : l.Nodup) : (mv t l).Nodup := by
  unfold mv
  rw [List.nodup_cons, h.mem_erase_iff]
  exact ⟨fun x => x.1 rfl, h.erase _⟩
theorem mv_len {t : Tg} {l : List Tg} : (mv t l).length = if t ∈ l then l.length else l.length + 1 := by
  unfold mv
  rw [List.length_cons, List.length_erase]
  split
  · rename_i h; have := List.length_pos_of_mem h; omega
  · rfl
theorem Sta.none_ok (n : Nat) : Sta.none.Ok n := ⟨List.nodup_nil, Nat.zero_le _, fun t h => absurd h (by simp [Sta.none]), fun t _ => by simp [Sta.none], fun t m h => by simp [Sta.none] at h⟩
theorem Sta.Ok.drop {s : Sta} {n : Nat} (h : s.Ok n) (p : Tg → Bool) : (s.drop p).Ok n := by
  refine ⟨h.nd.filter _, Nat.le_trans (List.length_filter_le _ _) h.len, fun t ht => h.tok t (List.mem_filter.1 ht).1, fun t ht => ?_, fun t m hm => ?_⟩
  · simp only [Sta.drop, List.mem_filter, h.mem t ht]
    cases p t <;> simp
  · simp only [Sta.drop] at hm
    cases hp : p t <;> simp [hp] at hm
    exact h.mok t m hm
theorem Sta.Ok.look {s : Sta} {n : Nat} (h : s.Ok n) {t : Tg} (ht : TOk t) : (s.look t).Ok n := by
  unfold Sta.look
  split
  · rename_i hs
    have hm := (h.mem t ht).2 hs
    refine ⟨mv_nodup h.nd, by show (mv t s.l).length ≤ n; rw [mv_len, if_pos hm]; exact h.len, fun x hx => ?_, fun x hx => ?_, h.mok⟩
    · rcases (mem_mv h.nd).1 hx with rfl | hx
      · exact ht
      · exact h.tok x hx
    · show x ∈ mv t s.l ↔ _
      rw [mem_mv h.nd, ← h.mem x hx]
      exact ⟨fun e => by rcases e with rfl | e; exact hm; exact e, fun e => .inr e⟩
  · exact h
theorem Sta.Ok.last {s : Sta} {n : Nat} (h : s.Ok n) (hl : 0 < s.l.length) : s.l.getLast?.getD (0, 0) ∈ s.l ∧ TOk (s.l.getLast?.getD (0, 0)) := by
  have hne : s.l ≠ [] := by intro e; rw [e] at hl; simp at hl
  have : s.l.getLast?.getD (0, 0) ∈ s.l := by rw [List.getLast?_eq_some_getLast hne]; exact List.getLast_mem hne
  exact ⟨this, h.tok _ this⟩
theorem Sta.Ok.room {s : Sta} {n : Nat} (h : s.Ok n) (hn : 0 < n) {t : Tg} (ht : TOk t) : (s.room n t).Ok n ∧ (((s.room n t).f t).isSome = true ∨ (s.room n t).l.length < n) := by
  unfold Sta.room
  split
  · rename_i hs
    refine ⟨h, ?_⟩
    rcases Bool.or_eq_true_iff.1 hs with h1 | h1
    · exact .inl h1
    · exact .inr (of_decide_eq_true h1)
  · rename_i hs
    refine ⟨h.drop _, .inr ?_⟩
    have hln : ¬ s.l.length < n := by intro e; apply hs; simp [e]
    obtain ⟨h1, h2⟩ := h.last (by omega)
    have h3 : (s.l.filter fun t => !decide (t = s.l.getLast?.getD (0, 0))).length < s.l.length := by
      have := List.length_filter_lt_length_iff_exists (p := fun t => !decide (t = s.l.getLast?.getD (0, 0))) (l := s.l)
      exact this.2 ⟨_, h1, by simp⟩
    have h4 := h.len
    show (s.l.filter fun t => !decide (t = s.l.getLast?.getD (0, 0))).length < n
    omega
theorem Sta.Ok.set {s : Sta} {n : Nat} (h : s.Ok n) {t : Tg} (ht : TOk t) {m : Mp} (hm : MOk m) (hr : (s.f t).isSome = true ∨ s.l.length < n) : (s.set t m).Ok n := by
  refine ⟨mv_nodup h.nd, ?_, fun x hx => ?_, fun x hx => ?_, fun x y hy => ?_⟩
  · show (mv t s.l).length ≤ n
    have := h.len
    rw [mv_len]
    split
    · exact this
    · rename_i hn
      rcases hr with hr | hr
      · exact absurd ((h.mem t ht).2 hr) hn
      · omega
  · rcases (mem_mv h.nd).1 hx with rfl | hx
    · exact ht
    · exact h.tok x hx
  · show x ∈ mv t s.l ↔ (if x = t then some m else s.f x).isSome = true
    rw [mem_mv h.nd]
    by_cases e : x = t
    · simp [e]
    · simp [e, h.mem x hx]
  · simp only [Sta.set] at hy
    by_cases e : x = t
    · simp [e] at hy; rw [← hy]; exact hm
    · simp [e] at hy; exact h.mok x y hy
theorem Sta.Ok.put {s : Sta} {n : Nat} (h : s.Ok n) (hn : 0 < n) {t : Tg} (ht : TOk t) {m : Mp} (hm : MOk m) : (s.put n t m).Ok n := by
  obtain ⟨h1, h2⟩ := h.room hn ht
  exact h1.set ht hm h2
end Go.Proofs.Ytadpgaaijdpbiaa
