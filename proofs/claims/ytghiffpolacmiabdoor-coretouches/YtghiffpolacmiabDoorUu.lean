import Derived.Test.YtghiffpolacmiabDoorUt
namespace Go.Proofs.YtghiffpolacmiabDoor
open Go.ChangeShapes Go.WideShapes Go.ChangeAt Go.RowKit Go.Shelf
set_option linter.unusedVariables false

theorem ent_any (n : Nat) (h0 : 0 < n) (h49 : n < 49) : ∀ args w, (callFunc (dTab.getD n 0) args).run Tryd.prog w = .ok (.enter (dTab.getD n 0) args) w := by
  have hn : n = 1 ∨ n = 2 ∨ n = 3 ∨ n = 4 ∨ n = 5 ∨ n = 6 ∨ n = 7 ∨ n = 8 ∨ n = 9 ∨ n = 10 ∨ n = 11 ∨ n = 12 ∨ n = 13 ∨ n = 14 ∨ n = 15 ∨ n = 16 ∨ n = 17 ∨ n = 18 ∨ n = 19 ∨ n = 20 ∨ n = 21 ∨ n = 22 ∨ n = 23 ∨ n = 24 ∨ n = 25 ∨ n = 26 ∨ n = 27 ∨ n = 28 ∨ n = 29 ∨ n = 30 ∨ n = 31 ∨ n = 32 ∨ n = 33 ∨ n = 34 ∨ n = 35 ∨ n = 36 ∨ n = 37 ∨ n = 38 ∨ n = 39 ∨ n = 40 ∨ n = 41 ∨ n = 42 ∨ n = 43 ∨ n = 44 ∨ n = 45 ∨ n = 46 ∨ n = 47 ∨ n = 48 := by omega
  rcases hn with rfl | rfl | rfl | rfl | rfl | rfl | rfl | rfl | rfl | rfl | rfl | rfl | rfl | rfl | rfl | rfl | rfl | rfl | rfl | rfl | rfl | rfl | rfl | rfl | rfl | rfl | rfl | rfl | rfl | rfl | rfl | rfl | rfl | rfl | rfl | rfl | rfl | rfl | rfl | rfl | rfl | rfl | rfl | rfl | rfl | rfl | rfl | rfl
  · exact enters_of Tryd.func31 (by kernel_rfl) rfl
  · exact enters_of Tryd.func32 (by kernel_rfl) rfl
  · exact enters_of Tryd.func33 (by kernel_rfl) rfl
  · exact enters_of Tryd.func34 (by kernel_rfl) rfl
  · exact enters_of Tryd.func35 (by kernel_rfl) rfl
  · exact enters_of Tryd.func36 (by kernel_rfl) rfl
  · exact enters_of Tryd.func37 (by kernel_rfl) rfl
  · exact enters_of Tryd.func38 (by kernel_rfl) rfl
  · exact enters_of Tryd.func39 (by kernel_rfl) rfl
  · exact enters_of Tryd.func40 (by kernel_rfl) rfl
  · exact enters_of Tryd.func41 (by kernel_rfl) rfl
  · exact enters_of Tryd.func42 (by kernel_rfl) rfl
  · exact enters_of Tryd.func43 (by kernel_rfl) rfl
  · exact enters_of Tryd.func31 (by kernel_rfl) rfl
  · exact enters_of Tryd.func36 (by kernel_rfl) rfl
  · exact enters_of Tryd.func37 (by kernel_rfl) rfl
  · exact enters_of Tryd.func38 (by kernel_rfl) rfl
  · exact enters_of Tryd.func39 (by kernel_rfl) rfl
  · exact enters_of Tryd.func40 (by kernel_rfl) rfl
  · exact enters_of Tryd.func41 (by kernel_rfl) rfl
  · exact enters_of Tryd.func42 (by kernel_rfl) rfl
  · exact enters_of Tryd.func43 (by kernel_rfl) rfl
  · exact enters_of Tryd.func44 (by kernel_rfl) rfl
  · exact enters_of Tryd.func45 (by kernel_rfl) rfl
  · exact enters_of Tryd.func46 (by kernel_rfl) rfl
  · exact enters_of Tryd.func47 (by kernel_rfl) rfl
  · exact enters_of Tryd.func48 (by kernel_rfl) rfl
  · exact enters_of Tryd.func49 (by kernel_rfl) rfl
  · exact enters_of Tryd.func50 (by kernel_rfl) rfl
  · exact enters_of Tryd.func51 (by kernel_rfl) rfl
  · exact enters_of Tryd.func52 (by kernel_rfl) rfl
  · exact enters_of Tryd.func53 (by kernel_rfl) rfl
  · exact enters_of Tryd.func54 (by kernel_rfl) rfl
  · exact enters_of Tryd.func55 (by kernel_rfl) rfl
  · exact enters_of Tryd.func56 (by kernel_rfl) rfl
  · exact enters_of Tryd.func57 (by kernel_rfl) rfl
  · exact enters_of Tryd.func58 (by kernel_rfl) rfl
  · exact enters_of Tryd.func59 (by kernel_rfl) rfl
  · exact enters_of Tryd.func60 (by kernel_rfl) rfl
  · exact enters_of Tryd.func61 (by kernel_rfl) rfl
  · exact enters_of Tryd.func62 (by kernel_rfl) rfl
  · exact enters_of Tryd.func63 (by kernel_rfl) rfl
  · exact enters_of Tryd.func64 (by kernel_rfl) rfl
  · exact enters_of Tryd.func65 (by kernel_rfl) rfl
  · exact enters_of Tryd.func66 (by kernel_rfl) rfl
  · exact enters_of Tryd.func67 (by kernel_rfl) rfl
  · exact enters_of Tryd.func68 (by kernel_rfl) rfl
  · exact enters_of Tryd.func69 (by kernel_rfl) rfl
theorem dR_lt (w l p : Nat) : dR w l p < 16 := by unfold dR; split <;> omega
theorem de_op {v : Nat} (h : de v = 0) : isO (dO v) = true := by
  unfold de at h
  by_cases ho : isO (dO v) = false
  · rw [if_pos ho] at h; omega
  · simpa using ho
theorem doS_lv (n : Nat) (t : St) (y : Bd) (v : Value) : doS n t (y.lvTo v) = doS n t y := by
  unfold doS
  split <;> rfl
theorem doB_lv (n : Nat) (t : St) (y : Bd) (v v' : Value) : (doB n t (y.lvTo v)).lvTo v' = (doB n t y).lvTo v' := by
  unfold doB
  split <;> rfl
/-- An instruction, whatever is fetched. -/
def St.c0 (s : St) (x : Bd) : St := s.s0.cost (nxt x.cy x.ic)
def insS (s : St) (x : Bd) : St :=
  if nxt x.fa x.jf ≠ 0 then ((s.c0 x).fault (nxt x.fa x.jf) s.g.pc).pcTo
  else if de (nxt x.ws x.iw).toNat ≠ 0 then ((s.c0 x).fault 6 s.g.pc).pcTo
  else (doS (dO (nxt x.ws x.iw).toNat).toNat ((s.c0 x).ins (nxt x.ws x.iw).toNat) (x.fet s.g.pc)).pcTo
def insB (s : St) (x : Bd) : Bd :=
  if nxt x.fa x.jf ≠ 0 then x.fet s.g.pc
  else if de (nxt x.ws x.iw).toNat ≠ 0 then x.fet s.g.pc
  else doB (dO (nxt x.ws x.iw).toNat).toNat ((s.c0 x).ins (nxt x.ws x.iw).toNat) (x.fet s.g.pc)
theorem ins_any (w : World) (B bb : Nat) (s : St) (x : Bd) (h : On w B bb s x) (hx : x.ok) (hr : ∀ i, 0 ≤ s.g.R i ∧ s.g.R i < 4294967296) :
    Calls Tryd.prog 17 #[.pointer (some ⟨B, 0, none⟩)] w fun e w' => e = .returned (.tuple #[]) ∧ Od w B bb x (insS s x) (insB s x) w' := by
  have hl := hx.le.more (m := 9999) (by omega)
  unfold insS insB
  by_cases hf : nxt x.fa x.jf = 0
  · have hf' : ¬ (nxt x.fa x.jf ≠ 0) := by simpa using hf
    rw [if_neg hf', if_neg hf']
    have hw := hx.ws x.iw
    obtain ⟨v, hv⟩ : ∃ v : Nat, nxt x.ws x.iw = v := ⟨(nxt x.ws x.iw).toNat, by omega⟩
    rw [hv] at hw ⊢
    rw [show ((v : Int)).toNat = v from rfl]
    by_cases hd : de v = 0
    · have hd' : ¬ (de v ≠ 0) := by simpa using hd
      rw [if_neg hd', if_neg hd']
      have hop := de_op hd
      have hop2 := (isO_iff (dO v)).1 hop
      have h1 : 0 < (dO v).toNat := by omega
      have h2 : (dO v).toNat < 49 := by omega
      have hlf : (x.fet s.g.pc).le 9999 := by
        obtain ⟨q1, q2, q3, q4, q5⟩ := hx.le
        refine ⟨?_, ?_, ?_, ?_, ?_⟩
        · show (if x.ws = [] then x.iw else x.iw + 1) ≤ 9999
          split <;> omega
        · show x.iv ≤ 9999; omega
        · show x.ic + 1 ≤ 9999; omega
        · show x.jf + 1 ≤ 9999; omega
        · show (x.lg ++ [_]).length ≤ 9999
          simp; omega
      exact ins_yes w B bb (dTab.getD (dO v).toNat 0) s ((s.c0 x).ins v) _ x (x.fet s.g.pc) _ h (fun W hW => fet_ok W B bb s.s0 x hW hl hf v (by omega) hv hd) hop rfl (ent_any _ h1 h2)
        (fun W v' hW => (deed_any W B bb (dO v).toNat ((s.c0 x).ins v) ((x.fet s.g.pc).lvTo v') hW ⟨dR_lt _ _ _, dR_lt _ _ _, dR_lt _ _ _, hr⟩ hlf hx.tm (hx.vs x.iv) h1 h2).mono (fun e w' hq => by
          obtain ⟨q1, v2, q2, q3, q4⟩ := hq
          rw [doS_lv, doB_lv] at q2
          exact ⟨q1, v2, q2, q3, q4⟩)) (doS_bus _ _ _).1 (doS_bus _ _ _).2
    · rw [if_pos hd, if_pos hd]
      exact ins_no w B bb s _ x _ h (fun W hW => fet_bad W B bb s.s0 x hW hl hf v (by omega) hv hd)
  · rw [if_pos hf, if_pos hf]
    exact ins_no w B bb s _ x _ h (fun W hW => fet_fault W B bb s.s0 x hW hl hf)
end Go.Proofs.YtghiffpolacmiabDoor
