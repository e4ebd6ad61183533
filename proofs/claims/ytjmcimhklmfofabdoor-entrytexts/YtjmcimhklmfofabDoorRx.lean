import Derived.Test.YtjmcimhklmfofabDoorRd
namespace Go.Proofs.YtjmcimhklmfofabDoor
open Go.ChangeShapes Go.WideShapes Go.ChangeAt Go.RowKit
set_option linter.unusedVariables false

/-- What Read and Decode answer: an entry, or that of none, and what is wrong. -/
def EnE (c k : Int) (p f : Nat) : Value := .tuple #[.agg #[.int .i64 (at0 c k), .int .u8 (at0 c p), .int .u32 (at0 c f)], .int .i64 c]

theorem str_ne {q s : ByteArray} (h : q ≠ s) : (q.toList == s.toList) = false := by
  rw [ByteArray.toList_eq, ByteArray.toList_eq]
  simp only [beq_eq_false_iff_ne]
  exact fun e => h (bytes_inj e)

set_option maxRecDepth 100000 in
set_option maxHeartbeats 4000000 in
theorem Read_any (s : ByteArray) (w : World) (hG : Gl w) (hE : Es w) (hm : s.size ≤ 9223372036854775807) :
    Calls Tryd.prog 5 #[.string s] w fun e w' => e = .returned (EnE (rde s.data.toList) (lkk s.data.toList) (lkp s.data.toList) (lkf s.data.toList)) ∧ Kp w w' := by
  have hL : ∀ V, Kp w V → Calls Tryd.prog 10 #[.string s] V fun e w' => e = .returned (En (lkk s.data.toList) (lkp s.data.toList) (lkf s.data.toList)) ∧ Kp V w' := fun V hV => likely_any s V (hE.kp hV) hm
  have hp : lkp s.data.toList < 256 := by have := lkp_lt s.data.toList; omega
  have hS : ∀ V, Kp w V → Calls Tryd.prog 9 #[En (lkk s.data.toList) (lkp s.data.toList) (lkf s.data.toList)] V fun e w' => e = .returned (.string ⟨(tx (lkk s.data.toList) (lkp s.data.toList) (lkf s.data.toList)).toArray⟩) ∧ Kp V w' := fun V hV => Show_any V (hG.kp hV) _ _ _ hp
  obtain ⟨q, hq⟩ : ∃ q : ByteArray, q = ⟨(tx (lkk s.data.toList) (lkp s.data.toList) (lkf s.data.toList)).toArray⟩ := ⟨_, rfl⟩
  have hr : rde s.data.toList = if q = s then 0 else 44 := by
    unfold rde
    have e : (tx (lkk s.data.toList) (lkp s.data.toList) (lkf s.data.toList) = s.data.toList) ↔ q = s := by
      rw [hq]
      constructor
      · intro h; rw [h]
      · intro h; exact congrArg (fun x : ByteArray => x.data.toList) h
    simp only [e]
  rw [← hq] at hS
  clear hq hp
  rw [hr]
  clear hr
  generalize lkk s.data.toList = k at *
  generalize lkp s.data.toList = p at *
  generalize lkf s.data.toList = f at *
  by_cases h : q = s
  · subst h
    rw [if_pos rfl]
    have e0 : EnE 0 k p f = .tuple #[.agg #[.int .i64 k, .int .u8 p, .int .u32 f], .int .i64 0] := by simp [EnE, at0]
    rw [e0]
    go_enter Tryd.func5, Tryd.ntmps5
    go_wp2_with (go_at_call 10; refine (hL _ ((Chg.refl _ _).alloc _)).mono ?_; rintro e w1 ⟨rfl, k1⟩; have kk : Kp w w1 := Kp.trans ((Chg.refl _ _).alloc _) k1)
    go_wp2_with (go_at_call 9; refine (hS _ (kk.alloc _)).mono ?_; rintro e w3 ⟨rfl, k3⟩; have g0 := Kp.heap k3 (al_old _ (Kp.heap k1 (heap_alloc_new w _))); have g1 := Kp.heap k3 (heap_alloc_new w1 _); obtain ⟨a0, a1, a2, f0, f1, f2⟩ := cells3 g0; obtain ⟨b0, b1, b2, _, _, _⟩ := cells3 g1)
    obtain ⟨V, hV⟩ : ∃ V, V = (((w3.setCell ⟨w.heap.size, 0, none⟩ (.int .i64 k)).setCell ⟨w.heap.size, 1, none⟩ (.int .u8 p)).setCell ⟨w.heap.size, 2, none⟩ (.int .u32 f)) := ⟨_, rfl⟩
    rw [← hV]
    obtain ⟨v1, v2, v3⟩ := box3 g0 _ _ _ hV
    obtain ⟨r0, r1, r2, _, _, _⟩ := cells3 v1
    refine bodyPost_ret (v := .tuple #[.agg #[.int .i64 k, .int .u8 p, .int .u32 f], .int .i64 0]) (by simp [results, Tryd.results5, go_sem, r0, r1, r2]) rfl ⟨rfl, ?_⟩
    exact Chg.trans (T := fun k => k = w.heap.size) (Kp.trans (kk.alloc _) k3) v3 (fun i hi e => absurd e (Nat.ne_of_lt hi))
  · rw [if_neg h]
    have hne := str_ne h
    have e0 : EnE 44 k p f = .tuple #[.agg #[.int .i64 0, .int .u8 0, .int .u32 0], .int .i64 44] := by simp [EnE, at0]
    rw [e0]
    go_enter Tryd.func5, Tryd.ntmps5
    go_wp2_with (go_at_call 10; refine (hL _ ((Chg.refl _ _).alloc _)).mono ?_; rintro e w1 ⟨rfl, k1⟩; have kk : Kp w w1 := Kp.trans ((Chg.refl _ _).alloc _) k1)
    go_wp2_with (go_at_call 9; refine (hS _ (kk.alloc _)).mono ?_; rintro e w3 ⟨rfl, k3⟩; have g0 := Kp.heap k3 (al_old _ (Kp.heap k1 (heap_alloc_new w _))); obtain ⟨a0, a1, a2, f0, f1, f2⟩ := cells3 g0)
    obtain ⟨V, hV⟩ : ∃ V, V = (((w3.setCell ⟨w.heap.size, 0, none⟩ (.int .i64 0)).setCell ⟨w.heap.size, 1, none⟩ (.int .u8 0)).setCell ⟨w.heap.size, 2, none⟩ (.int .u32 0)) := ⟨_, rfl⟩
    rw [← hV]
    obtain ⟨v1, v2, v3⟩ := box3 g0 _ _ _ hV
    obtain ⟨r0, r1, r2, _, _, _⟩ := cells3 v1
    refine bodyPost_ret (v := .tuple #[.agg #[.int .i64 0, .int .u8 0, .int .u32 0], .int .i64 44]) (by simp [results, Tryd.results5, go_sem, r0, r1, r2]) rfl ⟨rfl, ?_⟩
    exact Chg.trans (T := fun k => k = w.heap.size) (Kp.trans (kk.alloc _) k3) v3 (fun i hi e => absurd e (Nat.ne_of_lt hi))
end Go.Proofs.YtjmcimhklmfofabDoor
