import Derived.Test.YtnblhaeojlpmmaaAg
namespace Go.Proofs.Ytnblhaeojlpmmaa
open Go.ChangeShapes Go.WideShapes Go.ChangeAt Go.RowKit
set_option linter.unusedVariables false
/-- How many bytes messages have. -/
def bsum : List Mg → Nat
  | [] => 0
  | m :: l => m.bs.length + bsum l
theorem bsum_app : ∀ a b : List Mg, bsum (a ++ b) = bsum a + bsum b
  | [], b => by simp [bsum]
  | m :: l, b => by simp [bsum, bsum_app l b]; omega
theorem bsum_take {l : List Mg} {i : Nat} (hi : i < l.length) : bsum (l.take (i + 1)) = bsum (l.take i) + l[i].bs.length := by
  rw [← List.take_append_getElem hi, bsum_app]
  simp [bsum]
/-- Messages that can be read. -/
structure RdM (w : World) (v : Value) (l : List Mg) : Prop where
  ex : ∃ a cap, v = .slice a l.length cap ∧ (l = [] ∨ ∃ b o, a = some ⟨b, o, none⟩ ∧ ∀ i (h : i < l.length), w.cell? ⟨b, o + i * 2, none⟩ = some l[i].v ∧ w.cell? ⟨b, o + i * 2 + 1, none⟩ = some (.int .u64 l[i].tk))
  sh : ∀ m, m ∈ l → ∃ a c, m.v = .slice a m.bs.length c
  ln : l.length ≤ 1000000
  bl : ∀ m, m ∈ l → m.bs.length ≤ 1000000
theorem RdM.chg {w w' : World} {v : Value} {l : List Mg} {S : Nat → Prop} (h : RdM w v l) (hc : Chg w w' S) (hn : ∀ k, blk v = some k → ¬ S k) : RdM w' v l := by
  obtain ⟨a, cap, hv, hx⟩ := h.ex
  subst hv
  refine ⟨?_, h.sh, h.ln, h.bl⟩
  rcases hx with h1 | ⟨b, o, ha, h1⟩
  · exact ⟨a, cap, rfl, .inl h1⟩
  · subst ha
    exact ⟨_, cap, rfl, .inr ⟨b, o, rfl, fun j hj => ⟨hc.cell' (hn b rfl) (h1 j hj).1, hc.cell' (hn b rfl) (h1 j hj).2⟩⟩⟩
theorem RdM.kp {w w' : World} {v : Value} {l : List Mg} (h : RdM w v l) (hc : Kp w w') : RdM w' v l := h.chg hc (fun _ _ x => x)
theorem bsum_le {l : List Mg} (h : ∀ m, m ∈ l → m.bs.length ≤ 1000000) : bsum l ≤ l.length * 1000000 := by
  induction l with
  | nil => simp [bsum]
  | cons m l ih =>
    have h1 := h m (by simp)
    have h2 := ih (fun x hx => h x (by simp [hx]))
    simp only [bsum, List.length_cons]
    omega
set_option maxHeartbeats 2000000 in
theorem bytesOf_any (w : World) (v : Value) (l : List Mg) (h : RdM w v l) :
    Calls Try.prog 24 #[v] w fun e w' => e = .returned (.int .i64 (bsum l : Nat)) ∧ Kp w w' := by
  obtain ⟨a, cap, rfl, hx⟩ := h.ex
  have hl := h.ln
  have HH : Hid (RdM w (.slice a l.length cap) l) := h
  have HS : Hid (∀ i, i ≤ l.length → (bsum (l.take i) : Int) ≤ 1000000000000 ) := fun i hi => by
    have h1 := bsum_le (l := l.take i) (fun m hm => h.bl m (List.mem_of_mem_take hm))
    have h2 : (l.take i).length ≤ 1000000 := by simp; omega
    have : (l.take i).length * 1000000 ≤ 1000000 * 1000000 := Nat.mul_le_mul_right _ h2
    omega
  clear h
  go_enter Try.func24, Try.ntmps24
  go_wp2_with fail
  go_loopw [3, 5, 8, 9, 10, 11] (fun s3 s5 s8 s9 s10 s11 wr => ∃ i : Nat, s3 = .int .i64 (bsum (l.take i) : Nat) ∧ s8 = .int .i64 i ∧ i ≤ l.length ∧ Hid (Kp w wr)) (fun _ _ s8 _ _ _ _ => l.length - nI s8)
  case atStart => exact ⟨0, rfl, rfl, by omega, Kp.refl _⟩
  case round =>
    obtain ⟨i, rfl, rfl, hi, HK⟩ := hrel
    by_cases hlt : i < l.length
    · have hz : (i : Int) < (l.length : Int) := by omega
      rcases hx with rfl | ⟨b, o, rfl, hc⟩
      · simp at hlt
      obtain ⟨x0, x1⟩ := hc i hlt
      have x0 := HK.out.cell x0
      have x1 := HK.out.cell x1
      obtain ⟨ma, mc, hm⟩ := HH.out.sh l[i] (List.getElem_mem hlt)
      have hb := HH.out.bl l[i] (List.getElem_mem hlt)
      have hS := HS.out i hi
      have HT : Hid (bsum (l.take (i + 1)) = bsum (l.take i) + l[i].bs.length) := bsum_take hlt
      rw [hm] at x0
      have hK2 := HK.out
      have HK2 : Hid (∀ o, Kp w (wr.alloc o)) := fun o => Chg.alloc hK2 o
      clear hm hc HK hK2
      generalize l[i].bs.length = nb at *
      generalize l[i].tk = tk at *
      have hw : IntKind.i64.wrap ((bsum (l.take i) : Int) + (nb : Int)) = (bsum (l.take i) : Int) + (nb : Int) := w64 (by omega) (by omega)
      generalize hbs : bsum (l.take i) = sb at *
      clear hbs
      go_wp2_with fail
      refine ⟨⟨i + 1, ?_, by go_num, by omega, HK2.out _⟩, by simp [nI]; omega⟩
      rw [HT.out]
      simp
    · have hz : ¬ (i : Int) < (l.length : Int) := by omega
      have he : l.take i = l := List.take_of_length_le (by omega)
      rw [he]
      go_wp2_with fail
      go_ret
      exact ⟨rfl, HK.out⟩
end Go.Proofs.Ytnblhaeojlpmmaa
