import Derived.Test.YtibpbemenjgncaaGe
namespace Go.Proofs.Ytibpbemenjgncaa
open Go.ChangeShapes Go.WideShapes Go.ChangeAt Go.RowKit
set_option linter.unusedVariables false
def bx (V : Nat → Value) : Array Value := #[V 0, V 1, V 2, V 3, V 4, V 5, V 6, V 7, V 8]
theorem box_set {w : World} {K : Nat} {V : Nat → Value} (h : w.heap[K]? = some (.cells (bx V) 57 (0, 0))) {i : Nat} (hi : i < 9) (v : Value) : (w.setCell ⟨K, i, none⟩ v).heap[K]? = some (.cells (bx (upd V i v)) 57 (0, 0)) := by
  rw [heap_setCell_same w K i _ 57 v h]
  have : i = 0 ∨ i = 1 ∨ i = 2 ∨ i = 3 ∨ i = 4 ∨ i = 5 ∨ i = 6 ∨ i = 7 ∨ i = 8 := by omega
  rcases this with rfl | rfl | rfl | rfl | rfl | rfl | rfl | rfl | rfl <;> simp [upd, bx]
theorem box_cell {w : World} {K : Nat} {V : Nat → Value} (h : w.heap[K]? = some (.cells (bx V) 57 (0, 0))) {i : Nat} (hi : i < 9) : w.cell? ⟨K, i, none⟩ = some (V i) ∧ w.frozen? ⟨K, i, none⟩ = false := by
  have := cells_at h i
  refine ⟨?_, this.2⟩
  rw [this.1]
  have : i = 0 ∨ i = 1 ∨ i = 2 ∨ i = 3 ∨ i = 4 ∨ i = 5 ∨ i = 6 ∨ i = 7 ∨ i = 8 := by omega
  rcases this with rfl | rfl | rfl | rfl | rfl | rfl | rfl | rfl | rfl <;> simp [bx]
/-- What came is held, and nothing has come. -/
def shV (V : Nat → Value) : Nat → Value := upd (upd (upd (upd V 4 (V 2)) 5 (V 3)) 2 (.slice none 0 0)) 3 (.slice none 0 0)
def shX (X : Nat → List Value) : Nat → List Value := upd (upd (upd (upd X 4 (X 2)) 5 (X 3)) 2 []) 3 []
def shW (w : World) (K : Nat) (V : Nat → Value) : World := (((w.setCell ⟨K, 4, none⟩ (V 2)).setCell ⟨K, 5, none⟩ (V 3)).setCell ⟨K, 2, none⟩ (.slice none 0 0)).setCell ⟨K, 3, none⟩ (.slice none 0 0)
theorem shW_chg (w : World) (K : Nat) (V : Nat → Value) : Chg w (shW w K V) (fun k => k = K) :=
  Chg.setCell (S := fun k => k = K) (Chg.setCell (S := fun k => k = K) (Chg.setCell (S := fun k => k = K) (Chg.setCell (S := fun k => k = K) (Chg.refl w _) (.inl rfl) _) (.inl rfl) _) (.inl rfl) _) (.inl rfl) _
theorem shB {w : World} {K : Nat} {V : Nat → Value} (h : w.heap[K]? = some (.cells (bx V) 57 (0, 0))) : (shW w K V).heap[K]? = some (.cells (bx (shV V)) 57 (0, 0)) :=
  box_set (box_set (box_set (box_set h (i := 4) (by omega) _) (i := 5) (by omega) _) (i := 2) (by omega) _) (i := 3) (by omega) _
theorem BkM.shift {w : World} {K : Nat} {V : Nat → Value} {X : Nat → List Value} (h : BkM w K V X) : BkM (shW w K V) K (shV V) (shX X) := by
  have hc := shW_chg w K V
  have ow : ∀ i, i < 6 → i ≠ 1 → (shW w K V).ownsRow 0 26 1 (V i) (X i).length (X i) := fun i hi h1 => hc.owns (h.own i hi h1) (fun k hk e => h.notbox hi h1 (by rw [hk, e]))
  have nl : (shW w K V).ownsRow 0 26 1 (.slice none 0 0) ([] : List Value).length [] := ⟨rfl, .inl ⟨rfl, rfl⟩⟩
  refine ⟨shB h.box, fun i hi h1 => ?_, fun i j b hi hj h1 h2 hne hb hb' => ?_⟩
  · have : i = 0 ∨ i = 2 ∨ i = 3 ∨ i = 4 ∨ i = 5 := by omega
    rcases this with rfl | rfl | rfl | rfl | rfl
    · exact ow 0 (by omega) (by omega)
    · exact nl
    · exact nl
    · exact ow 2 (by omega) (by omega)
    · exact ow 3 (by omega) (by omega)
  · have e0 : shV V 0 = V 0 := rfl
    have e2 : shV V 2 = .slice none 0 0 := rfl
    have e3 : shV V 3 = .slice none 0 0 := rfl
    have e4 : shV V 4 = V 2 := rfl
    have e5 : shV V 5 = V 3 := rfl
    have dj := h.dj
    have a1 : i = 0 ∨ i = 2 ∨ i = 3 ∨ i = 4 ∨ i = 5 := by omega
    have a2 : j = 0 ∨ j = 2 ∨ j = 3 ∨ j = 4 ∨ j = 5 := by omega
    rcases a1 with rfl | rfl | rfl | rfl | rfl <;> rcases a2 with rfl | rfl | rfl | rfl | rfl <;> first
      | exact hne rfl
      | (rw [e2] at hb; simp [Value.ownBlock] at hb; done)
      | (rw [e3] at hb; simp [Value.ownBlock] at hb; done)
      | (rw [e2] at hb'; simp [Value.ownBlock] at hb'; done)
      | (rw [e3] at hb'; simp [Value.ownBlock] at hb'; done)
      | (rw [e0] at hb; rw [e4] at hb'; exact dj 0 2 b (by omega) (by omega) (by omega) (by omega) (by omega) hb hb')
      | (rw [e0] at hb; rw [e5] at hb'; exact dj 0 3 b (by omega) (by omega) (by omega) (by omega) (by omega) hb hb')
      | (rw [e4] at hb; rw [e0] at hb'; exact dj 2 0 b (by omega) (by omega) (by omega) (by omega) (by omega) hb hb')
      | (rw [e5] at hb; rw [e0] at hb'; exact dj 3 0 b (by omega) (by omega) (by omega) (by omega) (by omega) hb hb')
      | (rw [e4] at hb; rw [e5] at hb'; exact dj 2 3 b (by omega) (by omega) (by omega) (by omega) (by omega) hb hb')
      | (rw [e5] at hb; rw [e4] at hb'; exact dj 3 2 b (by omega) (by omega) (by omega) (by omega) (by omega) hb hb')
section
variable {W w0 w w' : World} {σ0 σ : Nat → Nat} {K : Nat} {V0 V : Nat → Value} {X0 X : Nat → List Value} {MM : List Int} {fr hd ll : List Ent}
theorem L4.done (hB : BkA W w0 σ0 K V0 X0 MM fr hd ll) (h : L4 W w0 w σ0 σ K V0 V X0 X MM fr hd ll hd.length) :
    BkA W (shW w K V) σ K (shV V) (shX X) (MM ++ mms ll.length hd ++ mms ll.length hd) [] fr (ll ++ mks ll.length hd ++ lgs ll.length hd) ∧ Pg W w0 (shW w K V) σ0 := by
  have hk := h.k
  rw [List.take_of_length_le (by rw [mms_len]; omega), List.take_of_length_le (by rw [lgs_len]; omega)] at hk
  have hc := shW_chg w K V
  have FF : Fg W w (shW w K V) := ⟨_, hc, fun b hb => by subst hb; exact ⟨⟨_, 57, hk.m.box, .inl rfl⟩, hk.ok.1⟩⟩
  have nd := hB.nd
  rw [List.map_append, List.nodup_append] at nd
  refine ⟨⟨hk.m.shift, hk.mm.fg FF, hk.lm, fun j h6 h9 => ?_, Rows.nil _ _ _, Rows.nil _ _ _, hk.r2.fg FF, hk.r3.fg FF, hk.r0.fg FF, ?_, hk.mq, by simpa using nd.2.1, fun e he e' he' => ?_, fun e he => ?_, hk.s2, fun b hb => hk.fz b (Nat.le_trans FF.size hb), hk.od, hk.ok.1, fun i b hi h1 hb => ?_⟩, h.pg.trans h.ol (FF.pg _)⟩
  · obtain ⟨xs, g1, g2, g3⟩ := hk.bf j h6 h9
    have : shV V j = V j := by
      unfold shV
      rw [upd_other _ _ (by omega), upd_other _ _ (by omega), upd_other _ _ (by omega), upd_other _ _ (by omega)]
    rw [this]
    exact ⟨xs, g1.fg FF, g2, g3⟩
  · simp [mms_len, mks_len, lgs_len, hB.ml]
  · rw [List.append_nil] at he'
    have id : e ∈ ll ∨ ∃ a, a ∈ hd ∧ e.1 = a.1 := by
      rcases List.mem_append.1 he with g | g
      · rcases List.mem_append.1 g with g | g
        · exact .inl g
        · obtain ⟨t, a, _, ha, q⟩ := mks_mem (n := ll.length) (hd := hd) (i := hd.length) (by rw [List.take_of_length_le (by rw [mks_len]; omega)]; exact g)
          exact .inr ⟨a, List.mem_of_getElem? ha, by rw [q]⟩
      · obtain ⟨t, a, _, ha, q⟩ := lgs_mem (n := ll.length) (hd := hd) (i := hd.length) (by rw [List.take_of_length_le (by rw [lgs_len]; omega)]; exact g)
        exact .inr ⟨a, List.mem_of_getElem? ha, by rw [q]⟩
    rcases id with g | ⟨a, ha, q⟩
    · exact hB.ap e g e' (List.mem_append.2 (.inr he'))
    · rw [q]
      exact nd.2.2 a.1 (List.mem_map_of_mem ha) e'.1 (List.mem_map_of_mem he')
  · rw [List.append_nil] at he
    exact hB.s1 e (List.mem_append.2 (.inr he))
  · have : i = 0 ∨ i = 2 ∨ i = 3 ∨ i = 4 ∨ i = 5 := by omega
    rcases this with rfl | rfl | rfl | rfl | rfl
    · exact hk.ok.2 0 b (by omega) (by omega) hb
    · simp [shV, upd, Value.ownBlock] at hb
    · simp [shV, upd, Value.ownBlock] at hb
    · exact hk.ok.2 2 b (by omega) (by omega) hb
    · exact hk.ok.2 3 b (by omega) (by omega) hb
end
end Go.Proofs.Ytibpbemenjgncaa
