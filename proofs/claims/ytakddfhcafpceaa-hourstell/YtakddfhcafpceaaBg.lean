import Derived.Test.YtakddfhcafpceaaBf
namespace Go.Proofs.Ytakddfhcafpceaa
open Go.ChangeShapes Go.WideShapes Go.ChangeAt Go.RowKit Go.Shelf
set_option linter.unusedVariables false
/-- The cells of windows. -/
def wcs : List Wn → List Value
  | [] => []
  | x :: r => .int .i64 x.c :: .int .u64 (x.s : Nat) :: .int .u64 (x.l : Nat) :: wcs r
theorem wcs_len : ∀ L : List Wn, (wcs L).length = L.length * 3
  | [] => rfl
  | x :: r => by simp [wcs, wcs_len r]; omega
theorem wcs_app : ∀ (L R : List Wn), wcs (L ++ R) = wcs L ++ wcs R
  | [], R => rfl
  | x :: r, R => by simp [wcs, wcs_app r R]
theorem wcs_at : ∀ (L : List Wn) (i : Nat) (h : i < L.length), (wcs L)[i * 3]? = some (.int .i64 L[i].c) ∧ (wcs L)[i * 3 + 1]? = some (.int .u64 (L[i].s : Nat)) ∧ (wcs L)[i * 3 + 2]? = some (.int .u64 (L[i].l : Nat))
  | [], i, h => by simp at h
  | x :: r, 0, _ => ⟨rfl, rfl, rfl⟩
  | x :: r, i + 1, h => by
    have := wcs_at r i (by simpa using h)
    rw [show (i + 1) * 3 = i * 3 + 3 by omega]
    exact this
theorem wcs_one (L : List Wn) : ∀ u ∈ wcs L, u.oneCell' = true := by
  induction L with
  | nil => simp [wcs]
  | cons x r ih => intro u hu; simp [wcs] at hu; rcases hu with rfl | rfl | rfl | h; rfl; rfl; rfl; exact ih u h
theorem RdW.src {w : World} {b o : Nat} {L : List Wn} (h : RdW w b o L) : ∀ j u, (wcs L)[j]? = some u → w.cell? ⟨b, o + j, none⟩ = some u := by
  intro j u hu
  have hj : j < L.length * 3 := by rw [← wcs_len]; exact (List.getElem?_eq_some_iff.1 hu).1
  have hi : j / 3 < L.length := by omega
  obtain ⟨a1, a2, a3⟩ := wcs_at L (j / 3) hi
  obtain ⟨c1, c2, c3⟩ := h.c (j / 3) hi
  have h3 : j % 3 = 0 ∨ j % 3 = 1 ∨ j % 3 = 2 := by omega
  rcases h3 with e | e | e
  · have ej : j / 3 * 3 = j := by omega
    rw [ej] at a1 c1; rw [a1] at hu; rw [c1]; exact hu
  · have ej : j / 3 * 3 + 1 = j := by omega
    rw [ej] at a2; rw [Nat.add_assoc, ej] at c2; rw [a2] at hu; rw [c2]; exact hu
  · have ej : j / 3 * 3 + 2 = j := by omega
    rw [ej] at a3; rw [Nat.add_assoc, ej] at c3; rw [a3] at hu; rw [c3]; exact hu
/-- Windows, in a list of one's own. -/
abbrev OW (w : World) (v : Value) (L : List Wn) : Prop := w.ownsRow 0 36 3 v L.length (wcs L)
theorem OW.nil (w : World) : OW w (.slice none 0 0) [] := ⟨rfl, .inl ⟨rfl, rfl⟩⟩
theorem OW.at {w : World} {v : Value} {L : List Wn} (h : OW w v L) : (v = .slice none 0 0 ∧ L = []) ∨ ∃ g cap, v = .slice (some ⟨g, 0, none⟩) L.length cap ∧ (∃ cur, w.heap[g]? = some (.cells cur 36 (0, 0))) ∧ RdW w g 0 L := by
  rcases h.2 with ⟨h1, h2⟩ | ⟨g, cap, cur, h1, h2, h3, h4, h5, h6, h7⟩
  · left; exact ⟨h1, List.eq_nil_of_length_eq_zero h2⟩
  · right
    refine ⟨g, cap, h1, ⟨_, h3⟩, ⟨fun i hi => ?_⟩⟩
    obtain ⟨a1, a2, a3⟩ := wcs_at L i hi
    have key : ∀ j u, (wcs L)[j]? = some u → w.cell? ⟨g, j, none⟩ = some u := fun j u hu => by
      rw [(cells_at h3 j).1, ← Array.getElem?_toList]
      have hj : j < L.length * 3 := by rw [← wcs_len]; exact (List.getElem?_eq_some_iff.1 hu).1
      rw [← h7, List.getElem?_take, if_pos hj] at hu
      exact hu
    rw [Nat.zero_add]
    exact ⟨key _ _ a1, key _ _ a2, key _ _ a3⟩
theorem OW.wsI {w : World} {v : Value} {L : List Wn} (h : OW w v L) (hl : L.length ≤ 140737488351232) (hr : ∀ x ∈ L, x.s < 18446744073709551616 ∧ x.l < 18446744073709551616) : ∃ a cap, v = .slice a L.length cap ∧ WsI w a L := by
  rcases h.at with ⟨rfl, rfl⟩ | ⟨g, cap, rfl, _, r⟩
  · exact ⟨_, _, rfl, .inl rfl, hl, hr⟩
  · exact ⟨_, _, rfl, .inr ⟨g, 0, rfl, r⟩, hl, hr⟩
theorem info36p : ∃ i, Try.prog.info? 36 = some i ∧ i.zero = some (.agg #[.int .i64 0, .int .u64 0, .int .u64 0]) ∧ i.size = 3 ∧ i.bytes = 24 := by
  have hz : (Try.prog.info? 36).map (fun i => (i.zero, i.size, i.bytes)) = some (some (.agg #[.int .i64 0, .int .u64 0, .int .u64 0]), 3, 24) := by kernel_rfl
  cases hq : Try.prog.info? 36 with
  | none => rw [hq] at hz; cases hz
  | some i =>
    rw [hq] at hz
    have hz2 : i.zero = some (.agg #[.int .i64 0, .int .u64 0, .int .u64 0]) ∧ i.size = 3 ∧ i.bytes = 24 := by simpa using hz
    exact ⟨i, rfl, hz2⟩
/-- append onto windows of one's own. -/
theorem run_appW (w : World) (v : Value) (L : List Wn) (hown : OW w v L) (a : Option Addr) (c : Nat) (R : List Wn) (hs : WsI w a R) (hb : (L.length + R.length) * 24 ≤ 140737488355328) (ty : TypeId) :
    ∃ v' w', (Builtin.append_ #[39, 39] ty #[v, .slice a R.length c]).run Try.prog w = .ok v' w' ∧ OW w' v' (L ++ R) ∧ Chg w w' (fun i => v.ownBlock = some i) ∧ (v'.ownBlock = v.ownBlock ∨ ∃ k, v'.ownBlock = some k ∧ w.heap.size ≤ k) := by
  obtain ⟨i0, hi, hz, hsz, hby⟩ := info36p
  obtain ⟨v', w', hr, ho, hg, hL⟩ := run_app (P := Try.prog) w 39 ty 36 i0 _ 3 24 Try.underlying39 hi hz hsz hby rfl (by omega) v L.length _ hown a R.length c (wcs R) (wcs_len R) (by
    rcases hs.c with h | ⟨b, o, ha, hc⟩
    · left; rw [h]; rfl
    · exact .inr ⟨b, o, ha, hc.src⟩) (wcs_one R) (by simp [maxLen]; omega) hb
  refine ⟨v', w', hr, ?_, Chg.grown (Chg.refl w _) hg (fun k hk => .inl hk), hL⟩
  unfold OW
  rw [wcs_app, List.length_append]
  exact ho
theorem eq_nil_no (x : Addr) (len cap : Nat) (w : World) : (binOp BinOp.eql 39 (Value.slice (some x) len cap) (Value.slice none 0 0)).run Try.prog w = .ok (.bool false) w := by
  kernel_rfl
set_option maxHeartbeats 1000000 in
theorem clone_any (w : World) (a : Option Addr) (L : List Wn) (cap : Nat) (hL : WsI w a L) (h1 : 1 ≤ L.length) (h32 : L.length ≤ 32) :
    Calls Try.prog 34 #[.slice a L.length cap] w fun e w' => ∃ g c', e = .returned (.slice (some ⟨g, 0, none⟩) L.length c') ∧ RdW w' g 0 L ∧ Kp w w' ∧ w.heap.size ≤ g ∧ g < w'.heap.size := by
  obtain ⟨b, o, rfl, hr⟩ : ∃ b o, a = some ⟨b, o, none⟩ ∧ RdW w b o L := by
    rcases hL.c with e | e
    · rw [e] at h1; simp at h1
    · exact e
  have k1 := Kp.al w (.cells #[] 36)
  have g1 := heap_alloc_new w (.cells #[] 36)
  obtain ⟨v', w', hrun, ho, hc, hl⟩ := run_appW (w.alloc (.cells #[] 36)) (.slice (some ⟨w.heap.size, 0, none⟩) 0 0) [] ⟨rfl, .inr ⟨w.heap.size, 0, #[], rfl, Nat.zero_le _, g1, by simp, by simp [maxLen], by simp, by simp [wcs]⟩⟩ (some ⟨b, o, none⟩) cap L (hL.kp k1) (by simp; omega) 39
  rw [List.nil_append] at ho
  have HO : Hid (∃ g c', v' = .slice (some ⟨g, 0, none⟩) L.length c' ∧ RdW w' g 0 L ∧ Kp w w' ∧ w.heap.size ≤ g ∧ g < w'.heap.size) := by
    rcases ho.at with ⟨_, e⟩ | ⟨g, c', e, ⟨cur, hg⟩, r⟩
    · rw [e] at h1; simp at h1
    · refine ⟨g, c', e, r, Chg.trans k1 hc (fun i hi e => by simp [Value.ownBlock] at e; omega), ?_, hp_lt hg⟩
      rw [e] at hl
      rcases hl with e2 | ⟨k, e2, h2⟩
      · simp [Value.ownBlock] at e2; omega
      · simp [Value.ownBlock] at e2; simp at h2; omega
  generalize L.length = n at *
  have hnil := eq_nil_no
  clear ho hc hl
  go_enter Try.func34, Try.ntmps34
  go_wp2_with (at_builtin; refine wpList_append_run _ rfl (.tmp 5) (.tmp 6) 39 39 rfl _ _ v' w' rfl rfl hrun ?_)
  go_ret
  obtain ⟨g, c', e, r⟩ := HO.out
  exact ⟨g, c', by rw [← e]; rfl, r⟩
/-- May a time table be? -/
def mayH (M : Nat) (L : List Wn) : Bool := mjB M && ftB M L
theorem okL_ok {M : Nat} : ∀ (L : List Wn) (f : Nat), okL M f L = true → (∀ i (hi : i < L.length), 1 ≤ L[i].c ∧ L[i].c ≤ 8 ∧ 1 ≤ L[i].l ∧ L[i].s + L[i].l ≤ M ∧ f ≤ L[i].s) ∧ (∀ i j (hi : i < L.length) (hj : j < L.length), i < j → L[i].s + L[i].l ≤ L[j].s)
  | [], f, _ => ⟨fun i hi => by simp at hi, fun i j hi => by simp at hi⟩
  | x :: r, f, h => by
    simp only [okL, Bool.and_eq_true, decide_eq_true_eq] at h
    obtain ⟨⟨⟨⟨h1, h2⟩, h3⟩, h4⟩, h5⟩ := h
    obtain ⟨i1, i2⟩ := okL_ok r _ h5
    simp only [clB, decide_eq_true_eq] at h1
    simp only [wiB, decide_eq_true_eq] at h4
    constructor
    · intro i hi
      cases i with
      | zero => exact ⟨h1.1, h1.2, h2, h4, h3⟩
      | succ i =>
        obtain ⟨q1, q2, q3, q4, q5⟩ := i1 i (by simpa using hi)
        exact ⟨q1, q2, q3, q4, by simp only [List.getElem_cons_succ]; omega⟩
    · intro i j hi hj hij
      cases j with
      | zero => omega
      | succ j =>
        cases i with
        | zero => exact (i1 j (by simpa using hj)).2.2.2.2
        | succ i => exact i2 i j (by simpa using hi) (by simpa using hj) (by omega)
theorem mayH_ok {M : Nat} {L : List Wn} (h : mayH M L = true) : (⟨M, L⟩ : Hr).ok := by
  simp only [mayH, mjB, ftB, Bool.and_eq_true, decide_eq_true_eq] at h
  obtain ⟨⟨h1, h2⟩, ⟨h3, h4⟩, h5⟩ := h
  obtain ⟨i1, i2⟩ := okL_ok L 0 h5
  exact ⟨h1, h2, h3, h4, fun i hi => by obtain ⟨q1, q2, q3, q4, _⟩ := i1 i hi; exact ⟨q1, q2, q3, q4⟩, i2⟩
/-- A time table that was made in a world of size s or later. -/
structure IsHa (s : Nat) (w : World) (B : Nat) (h : Hr) : Prop where
  lB : s ≤ B
  ex : ∃ g cap, s ≤ g ∧ w.cell? ⟨B, 0, none⟩ = some (.int .u64 (h.M : Nat)) ∧ w.cell? ⟨B, 1, none⟩ = some (.slice (some ⟨g, 0, none⟩) h.L.length cap) ∧ RdW w g 0 h.L
  ok : h.ok
theorem IsHa.isH {s : Nat} {w : World} {B : Nat} {h : Hr} (i : IsHa s w B h) : IsH w B h := by
  obtain ⟨g, cap, _, h1, h2, h3⟩ := i.ex
  exact ⟨⟨g, cap, h1, h2, h3⟩, i.ok⟩
theorem IsHa.chg {s : Nat} {w w' : World} {B : Nat} {h : Hr} {S : Nat → Prop} (i : IsHa s w B h) (hc : Chg w w' S) (hS : ∀ k, s ≤ k → ¬ S k) : IsHa s w' B h := by
  obtain ⟨g, cap, hg, h1, h2, h3⟩ := i.ex
  exact ⟨i.lB, ⟨g, cap, hg, hc.cell' (hS _ i.lB) h1, hc.cell' (hS _ i.lB) h2, ⟨fun j hj => ⟨hc.cell' (hS _ hg) (h3.c j hj).1, hc.cell' (hS _ hg) (h3.c j hj).2.1, hc.cell' (hS _ hg) (h3.c j hj).2.2⟩⟩⟩, i.ok⟩
/-- What New leaves. -/
def NwE (w w' : World) (M : Nat) (L : List Wn) (e : Ending) : Prop :=
  (mayH M L = true ∧ ∃ B, e = .returned (.tuple #[.pointer (some ⟨B, 0, none⟩), .int .i64 0]) ∧ IsHa w.heap.size w' B ⟨M, L⟩) ∨
  (mayH M L = false ∧ e = .returned (.tuple #[.pointer none, .int .i64 180]))
set_option maxHeartbeats 1000000 in
theorem new_any (w : World) (M : Nat) (hM : M < 18446744073709551616) (a : Option Addr) (L : List Wn) (cap : Nat) (hL : WsI w a L) :
    Calls Try.prog 21 #[.int .u64 (M : Nat), .slice a L.length cap] w fun e w' => NwE w w' M L e ∧ Kp w w' := by
  have hF := fit_any w M hM a L cap hL
  have hMj := isMajor_any w M
  have HM : Hid (mayH M L = (mjB M && ftB M L)) := rfl
  cases h1 : mjB M with
  | false =>
    have HF : Hid (mayH M L = false) := by show mayH M L = false; rw [HM.out, h1]; rfl
    rw [h1] at hMj
    clear hF h1 HM
    generalize L.length = n at *
    go_enter Try.func21, Try.ntmps21
    go_wp2_with fail
    go_at_call 32
    refine hMj.mono ?_
    rintro e w1 ⟨rfl, rfl⟩
    go_wp2
    go_ret2
    exact ⟨.inr ⟨HF.out, rfl⟩, Kp.refl _⟩
  | true =>
    rw [h1] at hMj
    cases h2 : ftB M L with
    | false =>
      have HF : Hid (mayH M L = false) := by show mayH M L = false; rw [HM.out, h1, h2]; rfl
      rw [h2] at hF
      clear h1 h2 HM
      generalize L.length = n at *
      go_enter Try.func21, Try.ntmps21
      go_wp2_with fail
      go_at_call 32
      refine hMj.mono ?_
      rintro e w1 ⟨rfl, rfl⟩
      go_wp2_with fail
      go_at_call 33
      refine hF.mono ?_
      rintro e w2 ⟨rfl, k2⟩
      go_wp2
      go_ret2
      exact ⟨.inr ⟨HF.out, rfl⟩, k2⟩
    | true =>
      have HF : Hid (mayH M L = true) := by show mayH M L = true; rw [HM.out, h1, h2]; rfl
      have ho := mayH_ok HF.out
      rw [h2] at hF
      have hC : ∀ W, Kp w W → Calls Try.prog 34 #[.slice a L.length cap] W fun e w' => ∃ g c', e = .returned (.slice (some ⟨g, 0, none⟩) L.length c') ∧ RdW w' g 0 L ∧ Kp W w' ∧ W.heap.size ≤ g ∧ g < w'.heap.size := fun W k => clone_any W a L cap (hL.kp k) ho.n1 ho.n2
      have HO : Hid (⟨M, L⟩ : Hr).ok := ho
      clear h1 h2 HM ho
      obtain ⟨n, hn⟩ : ∃ n, n = L.length := ⟨_, rfl⟩
      rw [← hn] at hF hC ⊢
      have HN : Hid (n = L.length) := hn
      clear hn hL
      go_enter Try.func21, Try.ntmps21
      go_wp2_with fail
      go_at_call 32
      refine hMj.mono ?_
      rintro e w1 ⟨rfl, rfl⟩
      go_wp2_with fail
      go_at_call 33
      refine hF.mono ?_
      rintro e w2 ⟨rfl, k2⟩
      have hC2 := hC w2 k2
      clear hC hF hMj
      go_wp2_with fail
      go_at_call 34
      refine hC2.mono ?_
      rintro e w3 ⟨g, c', rfl, r3, k3, hg, hg2⟩
      have HK : Hid (Kp w1 w3 ∧ RdW w3 g 0 L ∧ w1.heap.size ≤ g ∧ w1.heap.size ≤ w3.heap.size) := ⟨k2.trans k3, r3, by have := k2.size; omega, (k2.trans k3).size⟩
      clear hC2 k2 k3 r3
      go_wp2
      go_ret2
      have ka := Kp.al w3 (.cells #[.int .u64 (M : Nat), .slice (some ⟨g, 0, none⟩) n c'] 55)
      have ga := heap_alloc_new w3 (.cells #[.int .u64 (M : Nat), .slice (some ⟨g, 0, none⟩) n c'] 55)
      refine ⟨.inl ⟨HF.out, _, rfl, HK.out.2.2.2, ⟨g, c', HK.out.2.2.1, (cells_at ga 0).1, ?_, HK.out.2.1.kp ka⟩, HO.out⟩, HK.out.1.trans ka⟩
      have := (cells_at ga 1).1
      rw [← HN.out]
      exact this
end Go.Proofs.Ytakddfhcafpceaa
