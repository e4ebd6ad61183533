import Derived.Test.YtppcfofkneaigabDe
namespace Go.Proofs.Ytppcfofkneaigab
open Go.ChangeShapes Go.WideShapes Go.ChangeAt Go.RowKit
set_option linter.unusedVariables false

theorem info85 : (Try.prog.info? 85).map (fun i => (i.zero, i.size, i.bytes)) = some (some (.agg #[.int .u32 0, .int .i64 0, .bool false]), 3, 24) := by kernel_rfl
/-- append to the document's list. -/
theorem app_H (w : World) (v : Value) (l r : List HL) (hown : w.ownsRow 0 85 3 v l.length (hF l)) (ao : Option Addr) (m c : Nat) (hm : r.length = m)
    (hsrc : m = 0 ∨ ∃ b off, ao = some ⟨b, off, none⟩ ∧ ∀ j u, (hF r)[j]? = some u → w.cell? ⟨b, off + j, none⟩ = some u) (hb : l.length + m ≤ 100000) (ty : TypeId) :
    ∃ v' w', (Builtin.append_ #[77, 77] ty #[v, .slice ao m c]).run Try.prog w = .ok v' w' ∧ w'.ownsRow 0 85 3 v' (l ++ r).length (hF (l ++ r)) ∧ Chg w w' (fun k => v.ownBlock = some k) ∧ (v'.ownBlock = v.ownBlock ∨ ∃ k, v'.ownBlock = some k ∧ w.heap.size ≤ k) := by
  obtain ⟨i0, hi, hz0, hz1, hz2⟩ := info_parts info85
  obtain ⟨v', w', hr, h1, h2, h3⟩ := run_app (P := Try.prog) w 77 ty 85 i0 (.agg #[.int .u32 0, .int .i64 0, .bool false]) 3 24 Try.underlying77 hi hz0 hz1 hz2 rfl (by decide) v _ _ hown ao m c (hF r) (by rw [hF_len, hm]) hsrc (hF_one r) (by simp [maxLen]; omega) (by omega)
  refine ⟨v', w', hr, ?_, (Chg.refl w _).grown h2 (fun k e => .inl e), h3⟩
  rw [hF_app, List.length_append, hm]
  exact h1

theorem RC.cap {w : World} {B sets ways line n cap : Nat} {a : Option Addr} {L : List HL} {now : Nat} (h : RC w B sets ways line (.slice a n cap) L now) (hl : 0 < L.length) : L.length ≤ cap ∧ cap ≤ maxLen ∧ n = L.length ∧ ∃ g, a = some ⟨g, 0, none⟩ ∧ g < w.heap.size ∧ ∀ j u, (hF L)[j]? = some u → w.cell? ⟨g, j, none⟩ = some u := by
  obtain ⟨g, cap', cur, e, _, hg, hnc, hcm, _⟩ := h.row.2.resolve_left (by rintro ⟨_, h⟩; omega)
  simp only [Value.slice.injEq] at e
  obtain ⟨rfl, rfl, rfl⟩ := e
  refine ⟨hnc, hcm, rfl, g, rfl, (Array.getElem?_eq_some_iff.1 hg).1, fun j u hu => ?_⟩
  have hj : j < L.length * 3 := by have := (List.getElem?_eq_some_iff.1 hu).1; rw [hF_len] at this; exact this
  rw [h.row.cellAt j (by omega), hu]

theorem own_len {w : World} {e size : Nat} {v : Value} {n : Nat} {xs : List Value} (h : w.ownsRow 0 e size v n xs) : ∃ a cap, v = .slice a n cap := by
  rcases h.2 with ⟨rfl, h0⟩ | ⟨g, cap, cur, rfl, _⟩
  · exact ⟨none, 0, by rw [h0]⟩
  · exact ⟨_, _, rfl⟩
/-- What 'without' leaves. -/
theorem without_end {w w1 w2 : World} {B sets ways line i : Nat} {v v1 v2 : Value} {L : List HL} {now : Nat} (h : RC w1 B sets ways line v L now) (hC : Chg w w1 (fun _ => False)) (hB : B < w.heap.size) (n1 : ∀ k, v1.ownBlock = some k → w.heap.size ≤ k)
    (C2 : Chg w1 w2 (fun k => v1.ownBlock = some k)) (o2 : w2.ownsRow 0 85 3 v2 (L.take i ++ L.drop (i + 1)).length (hF (L.take i ++ L.drop (i + 1)))) (N2 : v2.ownBlock = v1.ownBlock ∨ ∃ k, v2.ownBlock = some k ∧ w1.heap.size ≤ k) :
    RC (w2.setCell ⟨B, 3, none⟩ v2) B sets ways line v2 (L.take i ++ L.drop (i + 1)) now ∧ Chg w (w2.setCell ⟨B, 3, none⟩ v2) (fun k => k = B) ∧ (∀ k, v2.ownBlock = some k → w.heap.size ≤ k) := by
  have hn : ∀ k, v2.ownBlock = some k → w.heap.size ≤ k := fun k hk => by
    rcases N2 with e | ⟨k', e, hk'⟩
    · rw [e] at hk; exact n1 k hk
    · rw [e] at hk; simp at hk; have := hC.size; omega
  have hB1 : ∀ k, v1.ownBlock = some k → k ≠ B := fun k hk => by have := n1 k hk; omega
  have z2 := C2.heap h.at_ (fun e => hB1 B e rfl)
  have hw2 : Chg w w2 (fun _ => False) := hC.trans C2 (fun k hk e => by have := n1 k e; omega)
  have hS : Chg w2 (w2.setCell ⟨B, 3, none⟩ v2) (fun k => k = B) := Chg.setCell (S := fun k => k = B) (Chg.refl w2 _) (.inl rfl) _
  refine ⟨⟨heap_setCell_same w2 B 3 _ 79 v2 z2, hS.owns o2 (fun k hk e => by have := hn k hk; omega), h.sh, fun e he => ?_⟩, (hw2.mono (fun _ _ h => h.elim)).trans hS (fun _ _ h => h), hn⟩
  rcases List.mem_append.1 he with h1 | h1
  · exact h.bd e (List.mem_of_mem_take h1)
  · exact h.bd e (List.mem_of_mem_drop h1)

set_option maxHeartbeats 2000000 in
set_option maxRecDepth 10000 in
/-- A line goes. -/
theorem without_any (w : World) (B sets ways line : Nat) (v : Value) (L : List HL) (now : Nat) (h : RC w B sets ways line v L now) (hl : L.length ≤ 2048) (i : Nat) (hi : i < L.length) :
    Calls Try.prog 35 #[.pointer (some ⟨B, 0, none⟩), .int .i64 (i : Nat)] w fun e w' => e = .returned (.tuple #[]) ∧ ∃ v', RC w' B sets ways line v' (L.take i ++ L.drop (i + 1)) now ∧ Chg w w' (fun k => k = B) ∧ (∀ k, v'.ownBlock = some k → w.heap.size ≤ k) := by
  obtain ⟨a, cap, rfl⟩ := h.len
  obtain ⟨hlc, hcm, _, g, rfl, hg, hcell⟩ := h.cap (by omega)
  obtain ⟨_, _, _, c3, _, f3, _⟩ := h.cells
  have hBl := h.lt
  obtain ⟨v1, w1, hr1, o1, C1, N1⟩ := app_H w (.slice none 0 0) [] (L.take i) (World.ownsRow_nil _ _ _ _) (some ⟨g, 0, none⟩) i cap (by simp; omega) (.inr ⟨g, 0, rfl, fun j u hu => by
    rw [hF_take] at hu
    have hj := (List.getElem?_eq_some_iff.1 hu).1
    rw [List.getElem?_take] at hu
    split at hu
    · rw [Nat.zero_add]; exact hcell j u hu
    · cases hu⟩) (by simp; omega) 77
  have C1' : Chg w w1 (fun _ => False) := C1.mono (fun k hk e => by simp [Value.ownBlock] at e)
  have N1' : ∀ k, v1.ownBlock = some k → w.heap.size ≤ k := fun k hk => by
    rcases N1 with e | ⟨k', e, hk'⟩
    · rw [e] at hk; cases hk
    · rw [e] at hk; simp at hk; omega
  simp only [List.nil_append] at o1
  have h1 := h.keptF C1'
  have hcell1 : ∀ j u, (hF L)[j]? = some u → w1.cell? ⟨g, j, none⟩ = some u := fun j u hu => (C1'.cell hg (fun h => h)).trans (hcell j u hu)
  obtain ⟨_, _, _, d3, _, e3, _⟩ := h1.cells
  have K : Hid (RC w1 B sets ways line (.slice (some ⟨g, 0, none⟩) L.length cap) L now ∧ Chg w w1 (fun _ => False) ∧ w1.ownsRow 0 85 3 v1 (L.take i).length (hF (L.take i)) ∧ (∀ k, v1.ownBlock = some k → w.heap.size ≤ k)) := ⟨h1, C1', o1, N1'⟩
  have hiz : (i : Int) < (L.length : Int) := by omega
  have hic : (i : Int) ≤ (cap : Int) := by omega
  have hin : ¬ (i : Int) < 0 := by omega
  have hlcz : (L.length : Int) ≤ (cap : Int) := by omega
  have hil : (i : Int) + 1 ≤ (L.length : Int) := by omega
  have hin2 : ¬ (i : Int) + 1 < 0 := by omega
  clear h h1 o1 C1 C1' N1 N1' hcell
  have hbound : (L.take i).length + (L.length - (i + 1)) ≤ 100000 := by simp; omega
  by_cases hcap : cap = i + 1
  · have hLi : L.length = i + 1 := by omega
    obtain ⟨v2, w2, hr2, o2, C2, N2⟩ := app_H w1 v1 (L.take i) (L.drop (i + 1)) K.out.2.2.1 (some ⟨g, 0, none⟩) 0 0 (by simp; omega) (.inl rfl) (by simp; omega) 77
    obtain ⟨a2, c2, rfl⟩ := own_len o2
    have KW := without_end K.out.1 K.out.2.1 hBl K.out.2.2.2 C2 o2 N2
    have z2 := C2.heap K.out.1.at_ (fun e => by have := K.out.2.2.2 B e; omega)
    have y3 : w2.cell? ⟨B, 3, none⟩ = some (.slice (some ⟨g, 0, none⟩) L.length cap) := by rw [(cells_at z2 _).1]; rfl
    have y4 : w2.frozen? ⟨B, 3, none⟩ = false := (cells_at z2 _).2
    have KE : Hid (RC (w2.setCell ⟨B, 3, none⟩ (.slice a2 (L.take i ++ L.drop (i + 1)).length c2)) B sets ways line (.slice a2 (L.take i ++ L.drop (i + 1)).length c2) (L.take i ++ L.drop (i + 1)) now ∧ Chg w (w2.setCell ⟨B, 3, none⟩ (.slice a2 (L.take i ++ L.drop (i + 1)).length c2)) (fun k => k = B) ∧ (∀ k, (Value.slice a2 (L.take i ++ L.drop (i + 1)).length c2).ownBlock = some k → w.heap.size ≤ k)) := KW
    obtain ⟨M, hM⟩ : ∃ M, M = L.take i ++ L.drop (i + 1) := ⟨_, rfl⟩
    rw [← hM] at hr2 KE ⊢
    subst hcap
    rw [hLi] at *
    clear C2 o2 N2 z2 KW hM hcell1 hbound
    go_enter Try.func35, Try.ntmps35
    go_wp2_with (first | (at_builtin; refine wpList_append_run _ rfl (.tmp 5) (.tmp 11) 77 77 rfl _ _ v1 w1 rfl rfl hr1 ?_) | (at_builtin; refine wpList_append_run _ rfl (.tmp 14) (.tmp 21) 77 77 rfl v1 (.slice (some ⟨g, 0, none⟩) 0 0) _ w2 rfl (by simp [Act.eval]) hr2 ?_))
    refine bodyPost_end (results_none rfl _ _ _) rfl ?_
    exact ⟨rfl, _, KE.out⟩
  · have hcz : ¬ (cap : Int) = (i : Int) + 1 := by omega
    obtain ⟨v2, w2, hr2, o2, C2, N2⟩ := app_H w1 v1 (L.take i) (L.drop (i + 1)) K.out.2.2.1 (some ⟨g, (i + 1) * 3, none⟩) (L.length - (i + 1)) (cap - (i + 1)) (by simp) (.inr ⟨g, (i + 1) * 3, rfl, fun j u hu => by
      rw [hF_drop, List.getElem?_drop] at hu
      exact hcell1 _ u hu⟩) (by simp; omega) 77
    obtain ⟨a2, c2, rfl⟩ := own_len o2
    have KW := without_end K.out.1 K.out.2.1 hBl K.out.2.2.2 C2 o2 N2
    have z2 := C2.heap K.out.1.at_ (fun e => by have := K.out.2.2.2 B e; omega)
    have y3 : w2.cell? ⟨B, 3, none⟩ = some (.slice (some ⟨g, 0, none⟩) L.length cap) := by rw [(cells_at z2 _).1]; rfl
    have y4 : w2.frozen? ⟨B, 3, none⟩ = false := (cells_at z2 _).2
    have KE : Hid (RC (w2.setCell ⟨B, 3, none⟩ (.slice a2 (L.take i ++ L.drop (i + 1)).length c2)) B sets ways line (.slice a2 (L.take i ++ L.drop (i + 1)).length c2) (L.take i ++ L.drop (i + 1)) now ∧ Chg w (w2.setCell ⟨B, 3, none⟩ (.slice a2 (L.take i ++ L.drop (i + 1)).length c2)) (fun k => k = B) ∧ (∀ k, (Value.slice a2 (L.take i ++ L.drop (i + 1)).length c2).ownBlock = some k → w.heap.size ≤ k)) := KW
    obtain ⟨M, hM⟩ : ∃ M, M = L.take i ++ L.drop (i + 1) := ⟨_, rfl⟩
    rw [← hM] at hr2 KE ⊢
    clear C2 o2 N2 z2 KW hM hcell1 hbound
    go_enter Try.func35, Try.ntmps35
    go_wp2_with (first | (at_builtin; refine wpList_append_run _ rfl (.tmp 5) (.tmp 11) 77 77 rfl _ _ v1 w1 rfl rfl hr1 ?_) | (at_builtin; refine wpList_append_run _ rfl (.tmp 14) (.tmp 21) 77 77 rfl v1 (.slice (some ⟨g, (i + 1) * 3, none⟩) (L.length - (i + 1)) (cap - (i + 1))) _ w2 rfl (by simp [Act.eval]) hr2 ?_))
    refine bodyPost_end (results_none rfl _ _ _) rfl ?_
    exact ⟨rfl, _, KE.out⟩
end Go.Proofs.Ytppcfofkneaigab
