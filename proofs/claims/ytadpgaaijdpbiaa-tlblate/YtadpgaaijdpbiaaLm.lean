import Derived.Test.YtadpgaaijdpbiaaBk
namespace Go.Proofs.Ytadpgaaijdpbiaa
open Go.ChangeShapes Go.WideShapes Go.ChangeAt Go.RowKit Go.Shelf
set_option linter.unusedVariables false

/-! What Load makes, and what two TLBs that know the same do alike. -/

def SOk (l : List Sl4) : Prop := ∀ x ∈ l, TOk x.1 ∧ MOk x.2
theorem bAt_ok {l : List Sl4} (h : SOk l) (k : Nat) (hk : k < l.length) : TOk (bAt l k).1 ∧ MOk (bAt l k).2 := by
  rw [bAt_get l k hk]
  exact h _ (List.getElem_mem hk)
/-- What is known behind k rounds. -/
def ldF (n : Nat) (l : List Sl4) : Nat → Sta
  | 0 => Sta.none
  | k + 1 => (ldF n l k).put n (bAt l (l.length - 1 - k)).1 (bAt l (l.length - 1 - k)).2
theorem ldF_ok (n : Nat) (l : List Sl4) (hn : 0 < n) (h : SOk l) : ∀ k, k ≤ l.length → (ldF n l k).Ok n
  | 0, _ => Sta.none_ok n
  | k + 1, hk => by
    have := bAt_ok h (l.length - 1 - k) (by omega)
    exact (ldF_ok n l hn h k (by omega)).put hn this.1 this.2
theorem room_small (s : Sta) (n : Nat) (t : Tg) (h : s.l.length < n) : s.room n t = s := by
  unfold Sta.room
  rw [if_pos (by simp [h])]
theorem mv_le (t : Tg) (l : List Tg) : (mv t l).length ≤ l.length + 1 := by
  rw [mv_len]; split <;> omega
theorem ldF_len (n : Nat) (l : List Sl4) (hl : l.length ≤ n) : ∀ k, k ≤ l.length → (ldF n l k).l.length ≤ k
  | 0, _ => by simp [ldF, Sta.none]
  | k + 1, hk => by
    have h1 := ldF_len n l hl k (by omega)
    show ((ldF n l k).put n _ _).l.length ≤ k + 1
    unfold Sta.put
    rw [room_small _ _ _ (by omega)]
    have := mv_le (bAt l (l.length - 1 - k)).1 (ldF n l k).l
    show (mv _ (ldF n l k).l).length ≤ k + 1
    omega
theorem drop_step (l : List Sl4) (k : Nat) (hk : k < l.length) : l.drop (l.length - (k + 1)) = bAt l (l.length - 1 - k) :: l.drop (l.length - k) := by
  have h1 : l.length - (k + 1) < l.length := by omega
  rw [List.drop_eq_getElem_cons h1, ← bAt_get l _ h1]
  have e1 : l.length - (k + 1) = l.length - 1 - k := by omega
  have e2 : l.length - (k + 1) + 1 = l.length - k := by omega
  rw [e2, e1]
theorem ldF_is (n : Nat) (l : List Sl4) (hl : l.length ≤ n) (hd : (l.map (·.1)).Nodup) : ∀ k, k ≤ l.length → (ldF n l k).l = (l.drop (l.length - k)).map (·.1) ∧ ∀ x ∈ l.drop (l.length - k), (ldF n l k).f x.1 = some x.2
  | 0, _ => by simp [ldF, Sta.none]
  | k + 1, hk => by
    obtain ⟨h1, h2⟩ := ldF_is n l hl hd k (by omega)
    have h3 := ldF_len n l hl k (by omega)
    have hst := drop_step l k (by omega)
    have hnd : ((l.drop (l.length - (k + 1))).map (·.1)).Nodup := by
      rw [List.map_drop]; exact hd.sublist (List.drop_sublist _ _)
    rw [hst, List.map_cons, List.nodup_cons] at hnd
    have e : ldF n l (k + 1) = (ldF n l k).set (bAt l (l.length - 1 - k)).1 (bAt l (l.length - 1 - k)).2 := by
      show (ldF n l k).put n _ _ = _
      unfold Sta.put
      rw [room_small _ _ _ (by omega)]
    rw [e, hst]
    refine ⟨?_, fun x hx => ?_⟩
    · show mv _ (ldF n l k).l = _
      unfold mv
      rw [h1, List.map_cons, List.erase_of_not_mem hnd.1]
    · show (if x.1 = _ then _ else _) = _
      rcases List.mem_cons.1 hx with rfl | hx
      · rw [if_pos rfl]
      · rw [if_neg (fun e => hnd.1 (by rw [← e]; exact List.mem_map_of_mem hx)), h2 x hx]
theorem ldF_all (n : Nat) (l : List Sl4) (hl : l.length ≤ n) (hd : (l.map (·.1)).Nodup) : (ldF n l l.length).l = l.map (·.1) ∧ ∀ x ∈ l, (ldF n l l.length).f x.1 = some x.2 := by
  have := ldF_is n l hl hd l.length (Nat.le_refl _)
  rw [Nat.sub_self, List.drop_zero] at this
  exact this

/-- The same known. -/
structure Eqv (s s' : Sta) : Prop where
  l : s.l = s'.l
  f : ∀ t, TOk t → s.f t = s'.f t
theorem Eqv.look {s s' : Sta} (h : Eqv s s') {t : Tg} (ht : TOk t) : Eqv (s.look t) (s'.look t) := by
  unfold Sta.look
  rw [← h.f t ht]
  split
  · exact ⟨by show mv t s.l = mv t s'.l; rw [h.l], h.f⟩
  · exact h
theorem Eqv.gone {s s' : Sta} (h : Eqv s s') (n : Nat) {t : Tg} (ht : TOk t) : s.gone n t = s'.gone n t ∧ s.went n t = s'.went n t := by
  unfold Sta.gone Sta.went
  rw [← h.f t ht, h.l]
  exact ⟨rfl, rfl⟩
theorem Eqv.put {s s' : Sta} (h : Eqv s s') (n : Nat) {t : Tg} (ht : TOk t) (m : Mp) : Eqv (s.put n t m) (s'.put n t m) := by
  have hr : Eqv (s.room n t) (s'.room n t) := by
    unfold Sta.room
    rw [← h.f t ht, h.l]
    split
    · exact h
    · refine ⟨by show s.l.filter _ = s'.l.filter _; rw [h.l], fun x hx => ?_⟩
      show (if _ then _ else s.f x) = if _ then _ else s'.f x
      rw [h.f x hx]
  refine ⟨by show mv t _ = mv t _; rw [hr.l], fun x hx => ?_⟩
  show (if x = t then _ else (s.room n t).f x) = if x = t then _ else (s'.room n t).f x
  rw [hr.f x hx]
theorem Eqv.slots {s s' : Sta} (h : Eqv s s') {n : Nat} (hs : s.Ok n) : s.slots = s'.slots := by
  unfold Sta.slots
  rw [← h.l]
  apply List.map_congr_left
  intro t ht
  rw [h.f t (hs.tok t ht)]
theorem slots_ok {s : Sta} {n : Nat} (h : s.Ok n) : SOk s.slots := by
  intro x hx
  obtain ⟨t, ht, rfl⟩ := List.mem_map.1 hx
  have := h.tok t ht
  refine ⟨this, ?_⟩
  obtain ⟨m, hm⟩ := Option.isSome_iff_exists.1 ((h.mem t this).1 ht)
  rw [hm]
  exact h.mok t m hm
theorem slots_tags (s : Sta) : s.slots.map (·.1) = s.l := by
  unfold Sta.slots
  rw [List.map_map]
  exact List.map_id' _
theorem ldF_eqv {s : Sta} {n : Nat} (h : s.Ok n) (hn : 0 < n) : Eqv s (ldF n s.slots s.slots.length) ∧ (ldF n s.slots s.slots.length).l.length = s.slots.length := by
  have hl : s.slots.length ≤ n := by rw [s.slots_len]; exact h.len
  obtain ⟨h1, h2⟩ := ldF_all n s.slots hl (by rw [slots_tags]; exact h.nd)
  have hok := ldF_ok n s.slots hn (slots_ok h) s.slots.length (Nat.le_refl _)
  rw [slots_tags] at h1
  refine ⟨⟨h1.symm, fun t ht => ?_⟩, by rw [h1, s.slots_len]⟩
  by_cases hm : t ∈ s.l
  · have := h2 (t, (s.f t).getD m0) (List.mem_map.2 ⟨t, hm, rfl⟩)
    rw [this]
    obtain ⟨m, hm'⟩ := Option.isSome_iff_exists.1 ((h.mem t ht).1 hm)
    rw [hm']; rfl
  · have e1 : s.f t = Option.none := by
      cases hf : s.f t with
      | none => rfl
      | some m => exact absurd ((h.mem t ht).2 (by rw [hf]; rfl)) hm
    have e2 : (ldF n s.slots s.slots.length).f t = Option.none := by
      cases hf : (ldF n s.slots s.slots.length).f t with
      | none => rfl
      | some m => exact absurd ((hok.mem t ht).2 (by rw [hf]; rfl)) (by rw [h1]; exact hm)
    rw [e1, e2]

theorem fields58 : Try.prog.underlying 58 = some (.struct (Try.prog.fieldsOf 58)) := by simp [Program.fieldsOf, Try.underlying58]
theorem stood58 : Try.prog.stoodInHeld 58 = false := by kernel_rfl
theorem fields36 : Try.prog.underlying 36 = some (.struct (Try.prog.fieldsOf 36)) := by simp [Program.fieldsOf, Try.underlying36]
theorem stood36 : Try.prog.stoodInHeld 36 = false := by kernel_rfl
/-- Two mappings held against each other. -/
theorem neq36 (a x b y : Int) (w : World) : (binOp BinOp.neq 36 (.agg #[.int .u32 a, .int .u8 b]) (.agg #[.int .u32 x, .int .u8 y])).run Try.prog w = .ok (.bool (!decide (a = x ∧ b = y))) w := by
  rw [run_neq_struct, run_equalIn_agg w 9999 36 _ _ fields36 stood36]
  simp [Program.fieldsOf, Try.underlying36, go_sem]
  by_cases h1 : a = x <;> by_cases h2 : b = y <;> simp [h1, h2]
theorem map_eq (s t : Mp) : decide (((s.1 : Nat) : Int) = ((t.1 : Nat) : Int) ∧ ((s.2 : Nat) : Int) = ((t.2 : Nat) : Int)) = decide (s = t) := by
  have : (((s.1 : Nat) : Int) = ((t.1 : Nat) : Int) ∧ ((s.2 : Nat) : Int) = ((t.2 : Nat) : Int)) ↔ s = t := ⟨fun h => Prod.ext (by omega) (by omega), fun h => by rw [h]; exact ⟨rfl, rfl⟩⟩
  simp [this]
end Go.Proofs.Ytadpgaaijdpbiaa
