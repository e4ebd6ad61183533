import Derived.Test.YtkggkkoblpdopaaGreatBb
namespace Go.Proofs.YtkggkkoblpdopaaGreat
open Go.ChangeShapes Go.WideShapes Go.ChangeAt Go.RowKit Go.ChangeMaps
set_option linter.unusedVariables false
/-- Nothing that was there has changed. -/
abbrev Kp (w w' : World) : Prop := Chg w w' (fun _ => False)
theorem Kp.trans {a b c : World} (h : Kp a b) (k : Kp b c) : Kp a c := Chg.trans h k (fun _ _ x => x)
theorem lt_of_cell {w : World} {b o : Nat} {v : Value} (hc : w.cell? ⟨b, o, none⟩ = some v) : b < w.heap.size := by
  rcases Nat.lt_or_ge b w.heap.size with h | h
  · exact h
  · exfalso
    have : w.heap[b]? = none := Array.getElem?_eq_none h
    simp [World.cell?, this] at hc
theorem Chg.cell' {w w' : World} {S : Nat → Prop} (h : Chg w w' S) {b o : Nat} {v : Value} (hn : ¬ S b) (hc : w.cell? ⟨b, o, none⟩ = some v) : w'.cell? ⟨b, o, none⟩ = some v := by
  rw [Chg.cell h (lt_of_cell hc) hn]; exact hc
theorem Kp.cell {w w' : World} (h : Kp w w') {b o : Nat} {v : Value} (hc : w.cell? ⟨b, o, none⟩ = some v) : w'.cell? ⟨b, o, none⟩ = some v := Chg.cell' h (fun x => x) hc
theorem Kp.heap {w w' : World} (h : Kp w w') {k : Nat} {o : Obj} (hk : w.heap[k]? = some o) : w'.heap[k]? = some o := Chg.heap h hk (fun x => x)
theorem Kp.refl (w : World) : Kp w w := Chg.refl w _
theorem Kp.drew (w : World) : Kp w w.drew := Chg.drew (Chg.refl w _)
theorem Kp.drewN (w : World) (n : Nat) : Kp w (w.drewN n) := Chg.drewN (Chg.refl w _) n
theorem Kp.al (w : World) (o : Obj) : Kp w (w.alloc o) := Chg.alloc (Chg.refl w _) o
theorem Kp.any {w w' : World} {S : Nat → Prop} (h : Kp w w') : Chg w w' S := Chg.mono h (fun _ _ x => x.elim)
theorem hp_lt {w : World} {k : Nat} {o : Obj} (h : w.heap[k]? = some o) : k < w.heap.size := (Array.getElem?_eq_some_iff.1 h).1
theorem own_tp {w : World} {e size n : Nat} {v : Value} {xs : List Value} (h : w.ownsRow 0 e size v n xs) {k : Nat} (hk : v.ownBlock = some k) : ∃ cur, w.heap[k]? = some (.cells cur e (0, 0)) := by
  rcases h.2 with ⟨e, _⟩ | ⟨g, cap, cur, e, _, hg, _⟩
  · rw [e] at hk; cases hk
  · rw [e] at hk; cases hk; exact ⟨cur, hg⟩
/-- New, if there is one. -/
def Nw (w : World) (v : Value) : Prop := ∀ k, v.ownBlock = some k → w.heap.size ≤ k
theorem own_lt {w : World} {e size n : Nat} {v : Value} {xs : List Value} (h : w.ownsRow 0 e size v n xs) {k : Nat} (hk : v.ownBlock = some k) : k < w.heap.size := by
  obtain ⟨cur, hg⟩ := own_tp h hk
  exact hp_lt hg
theorem bs_of_block {w : World} {g e : Nat} {fr : Nat × Nat} {bs : List Int} (h : w.heap[g]? = some (.cells (bs.map (Value.int .u8)).toArray e fr)) (hl : bs.length ≤ 140737488355328) (hr : ∀ n ∈ bs, 0 ≤ n ∧ n ≤ 255) : Bs w (some ⟨g, 0, none⟩) bs.length bs := by
  refine ⟨rfl, hl, hr, .inr ⟨g, 0, rfl, fun i hi => ?_⟩⟩
  rw [cell_of_row w g (0 + i) _ e fr h]
  have := getD_map_u8 bs i hi
  simpa using this

theorem sum_one (w : World) (g c : Nat) (a : Option Addr) (len cap : Nat) (bs : List Int) (hg : w.heap[g]? = some (.cells #[.slice a len cap] 22 (0, 0))) (hb : Bs w a len bs) :
    Calls Tryz.prog 28 #[.slice (some ⟨g, 0, none⟩) 1 c] w fun e w' => e = .returned (.int .u32 (crc bs : Nat)) ∧ w' = w := by
  have := sum_any [⟨a, len, cap, bs⟩] (some ⟨g, 0, none⟩) c w (by simp) (.inr ⟨g, 0, rfl, fun i hi => by
    have h0 : i = 0 := by simpa using hi
    subst h0
    have := (cells_at hg 0).1
    simpa using this⟩) (by intro p hp; simp at hp; subst hp; exact hb)
  simpa [allBytes] using this

theorem Bs.alloc {w : World} {a : Option Addr} {len : Nat} {bs : List Int} (h : Bs w a len bs) (o : Obj) : Bs (w.alloc o) a len bs := h.chg (S := fun _ => False) ((Chg.refl _ _).alloc o) (by simp)
end Go.Proofs.YtkggkkoblpdopaaGreat
