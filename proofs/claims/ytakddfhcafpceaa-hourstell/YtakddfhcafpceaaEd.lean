import Derived.Test.YtakddfhcafpceaaEc
namespace Go.Proofs.Ytakddfhcafpceaa
open Go.ChangeShapes Go.WideShapes Go.ChangeAt Go.RowKit Go.Shelf
set_option linter.unusedVariables false
/-- What the document's New leaves. -/
def RnE (w w' : World) (M : Nat) (L : List Wn) (e : Ending) : Prop :=
  (mayH M L = true ∧ ∃ B, e = .returned (.pointer (some ⟨B, 0, none⟩)) ∧ IsHa w.heap.size w' B ⟨M, L⟩) ∨ (mayH M L = false ∧ e = .returned (.pointer none))
set_option maxHeartbeats 4000000 in
set_option maxRecDepth 10000 in
theorem rnew_any (w : World) (M : Nat) (hM : M < 18446744073709551616) (a : Option Addr) (L : List Wn) (cap : Nat) (hL : WsI w a L) :
    Calls Try.prog 26 #[.int .u64 (M : Nat), .slice a L.length cap] w fun e w' => RnE w w' M L e ∧ Kp w w' := by
  have HE : Hid (mayH M L = (mjB M && (decide (1 ≤ L.length) && decide (L.length ≤ 32) && okL M 0 L))) := rfl
  have hl := hL.l
  have HL : Hid (WsI w a L) := hL
  obtain ⟨n, hn⟩ : ∃ n, n = L.length := ⟨_, rfl⟩
  have HN : Hid (n = L.length) := hn
  rw [← hn] at HE hl ⊢
  clear hL hn
  by_cases h0 : M = 0
  · subst h0
    have HF : Hid (mayH 0 L = false) := by show mayH 0 L = false; rw [HE.out]; simp [mjB]
    clear HE
    go_enter Try.func26, Try.ntmps26
    go_wp2
    go_ret
    exact ⟨.inr ⟨HF.out, rfl⟩, Kp.refl _⟩
  · have h0z : ¬ (M : Int) = 0 := by omega
    have h0b : ((M : Int) == 0) = false := by simp; omega
    by_cases h1 : 1099511627776 < M
    · have h1z : (1099511627776 : Int) < M := by omega
      have HF : Hid (mayH M L = false) := by show mayH M L = false; rw [HE.out]; simp [mjB]; omega
      go_enter Try.func26, Try.ntmps26
      go_wp2
      go_ret
      exact ⟨.inr ⟨HF.out, rfl⟩, Kp.refl _⟩
    · have h1z : ¬ (1099511627776 : Int) < M := by omega
      by_cases h2 : n = 0
      · subst h2
        have HF : Hid (mayH M L = false) := by show mayH M L = false; rw [HE.out]; simp
        go_enter Try.func26, Try.ntmps26
        go_wp2
        go_ret
        exact ⟨.inr ⟨HF.out, rfl⟩, Kp.refl _⟩
      · have h2z : ¬ (n : Int) = 0 := by omega
        have h2b : ((n : Int) == 0) = false := by simp; omega
        by_cases h3 : 32 < n
        · have h3z : (32 : Int) < n := by omega
          have HF : Hid (mayH M L = false) := by show mayH M L = false; rw [HE.out]; simp; omega
          go_enter Try.func26, Try.ntmps26
          go_wp2
          go_ret
          exact ⟨.inr ⟨HF.out, rfl⟩, Kp.refl _⟩
        · have h3z : ¬ (32 : Int) < n := by omega
          obtain ⟨b, o, rfl, hr⟩ : ∃ b o, a = some ⟨b, o, none⟩ ∧ RdW w b o L := by
            rcases HL.out.c with e | e
            · exfalso; have := HN.out; rw [e] at this; simp at this; omega
            · exact e
          have HR : Hid (RdW w b o L) := hr
          have HE2 : Hid (mayH M L = okL M 0 (L.drop 0)) := by
            show mayH M L = _
            rw [HE.out, show mjB M = true from decide_eq_true ⟨by omega, by omega⟩, decide_eq_true (show 1 ≤ n by omega), decide_eq_true (show n ≤ 32 by omega)]; simp
          clear hr HE
          go_enter Try.func26, Try.ntmps26
          go_wp2_with fail
          go_loopw [5, 6] (fun s5 s6 wr => ∃ i f : Nat, s5 = .int .u64 (f : Nat) ∧ s6 = .int .i64 (i : Nat) ∧ i ≤ n ∧ f < 18446744073709551616 ∧ Hid (Kp w wr ∧ mayH M L = okL M f (L.drop i))) (fun _ s6 _ => n - (intOf s6).toNat)
          case atStart => exact ⟨0, 0, rfl, rfl, by omega, by omega, ⟨Kp.refl w, HE2.out⟩⟩
          case round =>
            clear HE2
            obtain ⟨i, f, rfl, rfl, hi, hf, HI⟩ := hrel
            by_cases hlt : i < n
            · have hltz : (i : Int) < n := by omega
              have hil : i < L.length := by rw [← HN.out]; exact hlt
              obtain ⟨c0, c1, c2⟩ := (HR.out.kp HI.out.1).c i hil
              have hrr := HL.out.r _ (List.getElem_mem hil)
              have hok := okL_at (M := M) (f := f) hil
              have HP : Hid (mayH M L = okL M f (L.drop i)) := HI.out.2
              rw [hok] at HP
              unfold clB wiB at HP
              have HK : Hid (Kp w wr) := HI.out.1
              clear hok HI
              generalize L[i].c = qc at *
              generalize L[i].s = qs at *
              generalize L[i].l = ql at *
              have k1 := Kp.al wr (.cells #[.int .i64 qc, .int .u64 (qs : Nat), .int .u64 (ql : Nat)] 36)
              have HK1 : Hid (Kp w (wr.alloc (.cells #[.int .i64 qc, .int .u64 (qs : Nat), .int .u64 (ql : Nat)] 36))) := HK.out.trans k1
              clear k1
              by_cases e0 : qc < 1
              · have e0z : (qc : Int) < 1 := by omega
                have HF : Hid (mayH M L = false) := by show mayH M L = false; rw [HP.out]; simp; omega
                go_wp2
                go_ret
                exact ⟨.inr ⟨HF.out, rfl⟩, HK1.out⟩
              · have e0z : ¬ (qc : Int) < 1 := by omega
                by_cases e1 : 8 < qc
                · have e1z : (8 : Int) < qc := by omega
                  have HF : Hid (mayH M L = false) := by show mayH M L = false; rw [HP.out]; simp; omega
                  go_wp2
                  go_ret
                  exact ⟨.inr ⟨HF.out, rfl⟩, HK1.out⟩
                · have e1z : ¬ (8 : Int) < qc := by omega
                  by_cases e2 : ql = 0
                  · have e2z : (ql : Int) = 0 := by omega
                    have e2b : ((ql : Int) == 0) = true := by simp; omega
                    have HF : Hid (mayH M L = false) := by show mayH M L = false; rw [HP.out]; simp; omega
                    go_wp2
                    go_ret
                    exact ⟨.inr ⟨HF.out, rfl⟩, by have e := HK1.out; rw [e2] at e; exact e⟩
                  · have e2z : ¬ (ql : Int) = 0 := by omega
                    have e2b : ((ql : Int) == 0) = false := by simp; omega
                    by_cases e3 : M < ql
                    · have e3z : (M : Int) < ql := by omega
                      have HF : Hid (mayH M L = false) := by show mayH M L = false; rw [HP.out]; simp; omega
                      go_wp2
                      go_ret
                      exact ⟨.inr ⟨HF.out, rfl⟩, HK1.out⟩
                    · have e3z : ¬ (M : Int) < ql := by omega
                      by_cases e4 : M < qs
                      · have e4z : (M : Int) < qs := by omega
                        have HF : Hid (mayH M L = false) := by show mayH M L = false; rw [HP.out]; simp; omega
                        go_wp2
                        go_ret
                        exact ⟨.inr ⟨HF.out, rfl⟩, HK1.out⟩
                      · have e4z : ¬ (M : Int) < qs := by omega
                        by_cases e5 : qs < f
                        · have e5z : (qs : Int) < f := by omega
                          have HF : Hid (mayH M L = false) := by show mayH M L = false; rw [HP.out]; simp; omega
                          go_wp2
                          go_ret
                          exact ⟨.inr ⟨HF.out, rfl⟩, HK1.out⟩
                        · have e5z : ¬ (qs : Int) < f := by omega
                          have hsum0 : IntKind.u64.wrap ((qs : Int) + (ql : Nat)) = (qs : Int) + ql := by rw [← Int.natCast_add]; exact u64n (by omega)
                          by_cases e6 : M < qs + ql
                          · have e6z : (M : Int) < qs + ql := by omega
                            have HF : Hid (mayH M L = false) := by show mayH M L = false; rw [HP.out]; simp; omega
                            go_wp2
                            go_ret
                            exact ⟨.inr ⟨HF.out, rfl⟩, HK1.out⟩
                          · have e6z : ¬ (M : Int) < qs + ql := by omega
                            have hsum : IntKind.u64.wrap ((qs : Int) + (ql : Nat)) = ((qs + ql : Nat) : Int) := by rw [← Int.natCast_add]; exact u64n (by omega)
                            have HN2 : Hid (mayH M L = okL M (qs + ql) (L.drop (i + 1))) := by show mayH M L = _; rw [HP.out]; simp; omega
                            go_wp2
                            exact ⟨⟨i + 1, qs + ql, by go_num, by go_num, by omega, by omega, ⟨HK1.out, HN2.out⟩⟩, by simp [intOf]; omega⟩
            · have hltz : ¬ (i : Int) < n := by omega
              have HF : Hid (mayH M L = true ∧ Kp w wr) := ⟨by rw [HI.out.2, List.drop_of_length_le (by rw [← HN.out]; omega)]; rfl, HI.out.1⟩
              clear HI
              have ka := Kp.al wr (.cells #[.int .u64 (M : Nat), .slice none 0 0] 59)
              have ga := heap_alloc_new wr (.cells #[.int .u64 (M : Nat), .slice none 0 0] 59)
              obtain ⟨v', w', hrun, ho, hcg, hlc⟩ := run_appW (wr.alloc (.cells #[.int .u64 (M : Nat), .slice none 0 0] 59)) (.slice none 0 0) [] (OW.nil _) (some ⟨b, o, none⟩) cap L ((HL.out.kp HF.out.2).kp ka) (by have := HN.out; simp; omega) 39
              rw [List.nil_append] at ho
              obtain ⟨g, c', hv', hgb, hrd⟩ : ∃ g c', v' = .slice (some ⟨g, 0, none⟩) n c' ∧ wr.heap.size < g ∧ RdW w' g 0 L := by
                rcases ho.at with ⟨_, e⟩ | ⟨g, c', e, ⟨cur, hg⟩, r⟩
                · exfalso; have := HN.out; rw [e] at this; simp at this; omega
                · refine ⟨g, c', by rw [e, ← HN.out], ?_, r⟩
                  rw [e] at hlc
                  rcases hlc with e2 | ⟨k, e2, h2⟩
                  · simp [Value.ownBlock] at e2
                  · simp [Value.ownBlock] at e2; simp at h2; omega
              subst hv'
              rw [← HN.out] at hrun
              have ka' : Kp (wr.alloc (.cells #[.int .u64 (M : Nat), .slice none 0 0] 59)) w' := hcg.mono (fun i _ e => by simp [Value.ownBlock] at e)
              have ga' := ka'.heap ga
              obtain ⟨y1, z1⟩ := cells_at ga' 1
              simp only [List.getElem?_toArray, List.getElem?_cons_zero, List.getElem?_cons_succ] at y1
              have HFin : Hid (Kp w (w'.setCell ⟨wr.heap.size, 1, none⟩ (.slice (some ⟨g, 0, none⟩) n c')) ∧ IsHa w.heap.size (w'.setCell ⟨wr.heap.size, 1, none⟩ (.slice (some ⟨g, 0, none⟩) n c')) wr.heap.size ⟨M, L⟩) := by
                have hset : Chg w' (w'.setCell ⟨wr.heap.size, 1, none⟩ (.slice (some ⟨g, 0, none⟩) n c')) (fun i => i = wr.heap.size) := Chg.setCell (Chg.refl w' _) (.inl (show wr.heap.size = wr.heap.size from rfl)) _
                refine ⟨Chg.trans ((HF.out.2.trans ka).trans ka') hset (fun i hi e => by have := HF.out.2.size; omega), HF.out.2.size, ⟨g, c', by have := HF.out.2.size; omega, ?_, ?_, ?_⟩, mayH_ok HF.out.1⟩
                · have := heap_setCell_same w' wr.heap.size 1 _ 59 (.slice (some ⟨g, 0, none⟩) n c') ga'
                  exact (cells_at this 0).1
                · have := heap_setCell_same w' wr.heap.size 1 _ 59 (.slice (some ⟨g, 0, none⟩) n c') ga'
                  rw [(cells_at this 1).1, HN.out]; rfl
                · exact ⟨fun j hj => ⟨hset.cell' (by omega) (hrd.c j hj).1, hset.cell' (by omega) (hrd.c j hj).2.1, hset.cell' (by omega) (hrd.c j hj).2.2⟩⟩
              clear ho hcg hlc hrd ka ka' ga ga'
              go_wp2_with (at_builtin; refine wpList_append_run _ rfl (.tmp 87) (.tmp 88) 39 39 rfl _ _ _ w' rfl rfl hrun ?_)
              go_ret
              exact ⟨.inl ⟨HF.out.1, _, rfl, HFin.out.2⟩, HFin.out.1⟩
end Go.Proofs.Ytakddfhcafpceaa
