import Derived.Test.YtppcfofkneaigabEa
namespace Go.Proofs.Ytppcfofkneaigab
open Go.ChangeShapes Go.WideShapes Go.ChangeAt Go.RowKit
set_option linter.unusedVariables false

/-- A list of lines that is read. -/
def RdL (w : World) (v : Value) (lst : List (Nat × Ln)) : Prop := ∃ a cap, v = .slice a lst.length cap ∧ LsIn w a lst
theorem RdL.kept {w w' : World} {v : Value} {lst : List (Nat × Ln)} (h : RdL w v lst) (hc : Chg w w' (fun _ => False)) : RdL w' v lst := by
  obtain ⟨a, cap, e, hl⟩ := h; exact ⟨a, cap, e, hl.kept hc⟩
/-- A row of values (of one cell each) that is read. -/
def RdV (w : World) (v : Value) (xs : List Value) : Prop := ∃ a cap, v = .slice a xs.length cap ∧ (xs = [] ∨ ∃ b off, a = some ⟨b, off, none⟩ ∧ b < w.heap.size ∧ ∀ i (hi : i < xs.length), w.cell? ⟨b, off + i, none⟩ = some xs[i])
theorem RdV.kept {w w' : World} {v : Value} {xs : List Value} (h : RdV w v xs) (hc : Chg w w' (fun _ => False)) : RdV w' v xs := by
  obtain ⟨a, cap, e, hl⟩ := h
  refine ⟨a, cap, e, hl.imp_right ?_⟩
  rintro ⟨b, off, rfl, hb, hh⟩
  exact ⟨b, off, rfl, Nat.lt_of_lt_of_le hb hc.size, fun i hi => (hc.cell hb (fun h => h)).trans (hh i hi)⟩

/-- The Book as it is read: what is held beside what it must read as, and what is its owner's with its mark. -/
structure BkR (w : World) (K : Nat) (hv wv lv mv : Value) (H : List (Value × Value × List (Nat × Ln))) (T : List (Value × Nat × Nat)) : Prop where
  at_ : w.heap[K]? = some (.cells #[hv, wv, lv, mv] 29 (0, 0))
  h : RdV w hv (H.map (·.1))
  m : RdV w wv (H.map (·.2.1))
  l : RdV w lv (T.map (·.1))
  k : RdV w mv (T.map (fun t => .int .u32 ((t.2.1 : Nat) : Int)))
  hr : ∀ e ∈ H, RdL w e.1 e.2.2 ∧ RdL w e.2.1 e.2.2 ∧ e.2.2.length ≤ 1000000
  lr : ∀ t ∈ T, RdL w t.1 (List.replicate t.2.2 (9999, t.2.1, false)) ∧ t.2.2 ≤ 1000000
  hl : H.length ≤ 1000000
  tl : T.length ≤ 1000000
theorem BkR.kept {w w' : World} {K : Nat} {hv wv lv mv : Value} {H : List (Value × Value × List (Nat × Ln))} {T : List (Value × Nat × Nat)} (h : BkR w K hv wv lv mv H T) (hc : Chg w w' (fun _ => False)) : BkR w' K hv wv lv mv H T :=
  ⟨hc.heap h.at_ (fun h => h), h.h.kept hc, h.m.kept hc, h.l.kept hc, h.k.kept hc, fun e he => ⟨(h.hr e he).1.kept hc, (h.hr e he).2.1.kept hc, (h.hr e he).2.2⟩, fun t ht => ⟨(h.lr t ht).1.kept hc, (h.lr t ht).2⟩, h.hl, h.tl⟩

set_option maxHeartbeats 4000000 in
set_option maxRecDepth 100000 in
theorem untouched_any (w : World) (K : Nat) (hv wv lv mv : Value) (H : List (Value × Value × List (Nat × Ln))) (T : List (Value × Nat × Nat)) (h : BkR w K hv wv lv mv H T) :
    Calls Try.prog 8 #[.pointer (some ⟨K, 0, none⟩)] w fun e w' => e = .returned (.bool true) ∧ Chg w w' (fun _ => False) := by
  have KB : Hid (BkR w K hv wv lv mv H T) := h
  obtain ⟨ah, ch, rfl, hh⟩ := h.h
  obtain ⟨am, cm, rfl, hm⟩ := h.m
  simp only [List.length_map] at KB ⊢
  have hHl := h.hl
  have h0 : w.cell? ⟨K, 0, none⟩ = some (.slice ah H.length ch) := by rw [(cells_at h.at_ _).1]; simp
  have h1 : w.cell? ⟨K, 1, none⟩ = some (.slice am H.length cm) := by rw [(cells_at h.at_ _).1]; simp
  have KC : Hid (w.cell? ⟨K, 0, none⟩ = some (.slice ah H.length ch) ∧ w.cell? ⟨K, 1, none⟩ = some (.slice am H.length cm)) := ⟨h0, h1⟩
  have KH : Hid (((H.map (·.1)) = [] ∨ ∃ b off, ah = some ⟨b, off, none⟩ ∧ b < w.heap.size ∧ ∀ i (hi : i < (H.map (·.1)).length), w.cell? ⟨b, off + i, none⟩ = some (H.map (·.1))[i]) ∧ ((H.map (·.2.1)) = [] ∨ ∃ b off, am = some ⟨b, off, none⟩ ∧ b < w.heap.size ∧ ∀ i (hi : i < (H.map (·.2.1)).length), w.cell? ⟨b, off + i, none⟩ = some (H.map (·.2.1))[i])) := ⟨hh, hm⟩
  have hKl : K < w.heap.size := (Array.getElem?_eq_some_iff.1 h.at_).1
  clear h hh hm h0 h1
  go_enter Try.func8, Try.ntmps8
  go_wp2
  go_loopw [3] (fun s3 wr => ∃ i : Nat, i ≤ H.length ∧ s3 = .int .i64 i ∧ Hid (Chg w wr (fun _ => False))) (fun s3 _ => H.length - (intOf s3).toNat)
  case atStart => exact ⟨0, by omega, rfl, Chg.refl _ _⟩
  case round =>
    obtain ⟨i, hi, rfl, HC⟩ := hrel
    rename World => Wi
    have d0 := (HC.out.cell hKl (fun h => h)).trans KC.out.1
    have d1 := (HC.out.cell hKl (fun h => h)).trans KC.out.2
    by_cases hil : i < H.length
    · have hilz : (i : Int) < (H.length : Int) := by omega
      have hne1 : H.map (·.1) ≠ [] := by intro e; simp at e; rw [e] at hil; simp at hil
      have hne2 : H.map (·.2.1) ≠ [] := by intro e; simp at e; rw [e] at hil; simp at hil
      obtain ⟨b1, o1, rfl, hb1, hx1⟩ := KH.out.1.resolve_left hne1
      obtain ⟨b2, o2, rfl, hb2, hx2⟩ := KH.out.2.resolve_left hne2
      have y1 := (HC.out.cell hb1 (fun h => h)).trans (hx1 i (by simpa using hil))
      have y2 := (HC.out.cell hb2 (fun h => h)).trans (hx2 i (by simpa using hil))
      simp only [List.getElem_map] at y1 y2
      obtain ⟨r1, r2, hlen⟩ := KB.out.hr _ (List.getElem_mem hil)
      generalize H[i] = E at *
      obtain ⟨u1, u2, lst⟩ := E
      simp only at y1 y2 r1 r2 hlen
      obtain ⟨a1, c1, rfl, L1⟩ := r1
      obtain ⟨a2, c2, rfl, L2⟩ := r2
      obtain ⟨n, hn⟩ : ∃ n, n = lst.length := ⟨_, rfl⟩
      rw [← hn] at y1 y2 hlen
      have KN : Hid (n = lst.length) := hn
      have KL : Hid (LsIn w a1 lst ∧ LsIn w a2 lst) := ⟨L1, L2⟩
      have KY : Hid (w.cell? ⟨b1, o1 + i, none⟩ = some (.slice a1 n c1) ∧ w.cell? ⟨b2, o2 + i, none⟩ = some (.slice a2 n c2) ∧ b1 < w.heap.size ∧ b2 < w.heap.size) := ⟨(HC.out.cell hb1 (fun h => h)).symm.trans y1, (HC.out.cell hb2 (fun h => h)).symm.trans y2, hb1, hb2⟩
      clear hx1 hx2 hne1 hne2 L1 L2 hn
      go_wp2_with fail
      go_quiet (fail)
      rename Nat => na
      go_wp2
      obtain ⟨V, hV⟩ : ∃ V, V = Wi.drewN na := ⟨_, rfl⟩
      rw [← hV]
      have HV : Hid (Chg w V (fun _ => False)) := by rw [hV]; exact HC.out.drewN _
      clear hV HC d0 d1 y1 y2
      clear na
      go_loopw [4] (fun s4 wr => ∃ k : Nat, k ≤ n ∧ s4 = .int .i64 k ∧ Hid (Chg w wr (fun _ => False))) (fun s4 _ => n - (intOf s4).toNat)
      case atStart => exact ⟨0, by omega, rfl, HV⟩
      case round =>
        obtain ⟨k, hk, rfl, HK⟩ := hrel
        rename World => Wk
        have d0 := (HK.out.cell hKl (fun h => h)).trans KC.out.1
        have d1 := (HK.out.cell hKl (fun h => h)).trans KC.out.2
        have y1 := (HK.out.cell KY.out.2.2.1 (fun h => h)).trans KY.out.1
        have y2 := (HK.out.cell KY.out.2.2.2 (fun h => h)).trans KY.out.2.1
        by_cases hkl : k < n
        · have hklz : (k : Int) < (n : Int) := by omega
          have hkL : k < lst.length := by have := KN.out; omega
          have hnl : lst ≠ [] := by rintro rfl; simp at hkL
          obtain ⟨g1, f1, rfl, hg1, hz1⟩ := KL.out.1.src.resolve_left hnl
          obtain ⟨g2, f2, rfl, hg2, hz2⟩ := KL.out.2.src.resolve_left hnl
          obtain ⟨p0, p1, p2⟩ := hz1 k hkL
          obtain ⟨q0, q1, q2⟩ := hz2 k hkL
          replace p0 := (HK.out.cell hg1 (fun h => h)).trans p0
          replace p1 := (HK.out.cell hg1 (fun h => h)).trans p1
          replace p2 := (HK.out.cell hg1 (fun h => h)).trans p2
          replace q0 := (HK.out.cell hg2 (fun h => h)).trans q0
          replace q1 := (HK.out.cell hg2 (fun h => h)).trans q1
          replace q2 := (HK.out.cell hg2 (fun h => h)).trans q2
          generalize lst[k] = X at *
          obtain ⟨x, t, d⟩ := X
          simp only at p0 p1 p2 q0 q1 q2
          clear hz1 hz2 hnl
          go_wp2_with fail
          go_quiet (fail)
          go_wp2
          exact ⟨⟨k + 1, by omega, by go_num, HK.out.drewN _⟩, by simp [intOf] <;> omega⟩
        · have hklz : ¬ (k : Int) < (n : Int) := by omega
          go_wp2
          exact ⟨⟨i + 1, by omega, by go_num, HK⟩, by simp [intOf] <;> omega⟩
    · have hilz : ¬ (i : Int) < (H.length : Int) := by omega
      go_wp2
      go_ret
      exact ⟨rfl, HC.out⟩
end Go.Proofs.Ytppcfofkneaigab
namespace Go.Proofs.Ytppcfofkneaigab
open Go.ChangeShapes Go.WideShapes Go.ChangeAt Go.RowKit
set_option linter.unusedVariables false

set_option maxHeartbeats 4000000 in
set_option maxRecDepth 100000 in
theorem looks_any (w : World) (K : Nat) (hv wv lv mv : Value) (H : List (Value × Value × List (Nat × Ln))) (T : List (Value × Nat × Nat)) (h : BkR w K hv wv lv mv H T) :
    Calls Try.prog 7 #[.pointer (some ⟨K, 0, none⟩)] w fun e w' => e = .returned (.bool true) ∧ Chg w w' (fun _ => False) := by
  have KB : Hid (BkR w K hv wv lv mv H T) := h
  obtain ⟨ah, ch, rfl, hh⟩ := h.l
  obtain ⟨am, cm, rfl, hm⟩ := h.k
  simp only [List.length_map] at KB ⊢
  have hTl := h.tl
  have h0 : w.cell? ⟨K, 2, none⟩ = some (.slice ah T.length ch) := by rw [(cells_at h.at_ _).1]; simp
  have h1 : w.cell? ⟨K, 3, none⟩ = some (.slice am T.length cm) := by rw [(cells_at h.at_ _).1]; simp
  have KC : Hid (w.cell? ⟨K, 2, none⟩ = some (.slice ah T.length ch) ∧ w.cell? ⟨K, 3, none⟩ = some (.slice am T.length cm)) := ⟨h0, h1⟩
  have KH : Hid (((T.map (·.1)) = [] ∨ ∃ b off, ah = some ⟨b, off, none⟩ ∧ b < w.heap.size ∧ ∀ i (hi : i < (T.map (·.1)).length), w.cell? ⟨b, off + i, none⟩ = some (T.map (·.1))[i]) ∧ ((T.map (fun t => Value.int .u32 ((t.2.1 : Nat) : Int))) = [] ∨ ∃ b off, am = some ⟨b, off, none⟩ ∧ b < w.heap.size ∧ ∀ i (hi : i < (T.map (fun t => Value.int .u32 ((t.2.1 : Nat) : Int))).length), w.cell? ⟨b, off + i, none⟩ = some (T.map (fun t => Value.int .u32 ((t.2.1 : Nat) : Int)))[i])) := ⟨hh, hm⟩
  have hKl : K < w.heap.size := (Array.getElem?_eq_some_iff.1 h.at_).1
  clear h hh hm h0 h1
  go_enter Try.func7, Try.ntmps7
  go_wp2
  go_loopw [3] (fun s3 wr => ∃ i : Nat, i ≤ T.length ∧ s3 = .int .i64 i ∧ Hid (Chg w wr (fun _ => False))) (fun s3 _ => T.length - (intOf s3).toNat)
  case atStart => exact ⟨0, by omega, rfl, Chg.refl _ _⟩
  case round =>
    obtain ⟨i, hi, rfl, HC⟩ := hrel
    rename World => Wi
    have d0 := (HC.out.cell hKl (fun h => h)).trans KC.out.1
    have d1 := (HC.out.cell hKl (fun h => h)).trans KC.out.2
    by_cases hil : i < T.length
    · have hilz : (i : Int) < (T.length : Int) := by omega
      have hne1 : T.map (·.1) ≠ [] := by intro e; simp at e; rw [e] at hil; simp at hil
      have hne2 : T.map (fun t => Value.int .u32 ((t.2.1 : Nat) : Int)) ≠ [] := by intro e; simp at e; rw [e] at hil; simp at hil
      obtain ⟨b1, o1, rfl, hb1, hx1⟩ := KH.out.1.resolve_left hne1
      obtain ⟨b2, o2, rfl, hb2, hx2⟩ := KH.out.2.resolve_left hne2
      have y1 := hx1 i (by simpa using hil)
      have y2 := hx2 i (by simpa using hil)
      simp only [List.getElem_map] at y1 y2
      obtain ⟨r1, hlen⟩ := KB.out.lr _ (List.getElem_mem hil)
      generalize T[i] = E at *
      obtain ⟨u1, mk, n⟩ := E
      simp only at y1 y2 r1 hlen
      obtain ⟨a1, c1, rfl, L1⟩ := r1
      rw [List.length_replicate] at y1
      have KL : Hid (LsIn w a1 (List.replicate n (9999, mk, false))) := L1
      have KY : Hid (w.cell? ⟨b1, o1 + i, none⟩ = some (.slice a1 n c1) ∧ w.cell? ⟨b2, o2 + i, none⟩ = some (.int .u32 (mk : Int)) ∧ b1 < w.heap.size ∧ b2 < w.heap.size) := ⟨y1, y2, hb1, hb2⟩
      clear hx1 hx2 hne1 hne2 L1 y1 y2
      go_wp2
      clear d0 d1
      go_loopw [4] (fun s4 wr => ∃ k : Nat, k ≤ n ∧ s4 = .int .i64 k ∧ Hid (Chg w wr (fun _ => False))) (fun s4 _ => n - (intOf s4).toNat)
      case atStart => exact ⟨0, by omega, rfl, HC⟩
      case round =>
        obtain ⟨k, hk, rfl, HK⟩ := hrel
        rename World => Wk
        have d0 := (HK.out.cell hKl (fun h => h)).trans KC.out.1
        have d1 := (HK.out.cell hKl (fun h => h)).trans KC.out.2
        have y1 := (HK.out.cell KY.out.2.2.1 (fun h => h)).trans KY.out.1
        have y2 := (HK.out.cell KY.out.2.2.2 (fun h => h)).trans KY.out.2.1
        by_cases hkl : k < n
        · have hklz : (k : Int) < (n : Int) := by omega
          have hkL : k < (List.replicate n ((9999, mk, false) : Nat × Ln)).length := by simpa using hkl
          have hnl : List.replicate n ((9999, mk, false) : Nat × Ln) ≠ [] := by intro e; rw [e] at hkL; simp at hkL
          obtain ⟨g1, f1, rfl, hg1, hz1⟩ := KL.out.src.resolve_left hnl
          obtain ⟨p0, p1, p9⟩ := hz1 k hkL
          clear p9
          simp only [List.getElem_replicate] at p0 p1
          replace p0 := (HK.out.cell hg1 (fun h => h)).trans p0
          replace p1 := (HK.out.cell hg1 (fun h => h)).trans p1
          clear hz1 hnl hkL
          go_wp2_with fail
          go_quiet (fail)
          go_wp2
          exact ⟨⟨k + 1, by omega, by go_num, HK.out.drewN _⟩, by simp [intOf] <;> omega⟩
        · have hklz : ¬ (k : Int) < (n : Int) := by omega
          go_wp2
          exact ⟨⟨i + 1, by omega, by go_num, HK⟩, by simp [intOf] <;> omega⟩
    · have hilz : ¬ (i : Int) < (T.length : Int) := by omega
      go_wp2
      go_ret
      exact ⟨rfl, HC.out⟩
end Go.Proofs.Ytppcfofkneaigab
namespace Go.Proofs.Ytppcfofkneaigab
open Go.ChangeShapes Go.WideShapes Go.ChangeAt Go.RowKit
set_option linter.unusedVariables false

theorem info35 : (Try.prog.info? 35).map (fun i => (i.zero, i.size, i.bytes)) = some (some (.slice none 0 0), 1, 24) := by kernel_rfl
theorem info34 : (Try.prog.info? 34).map (fun i => (i.zero, i.size, i.bytes)) = some (some (.int .u32 0), 1, 4) := by kernel_rfl
/-- append to a row of lists. -/
theorem app_V (w : World) (v : Value) (xs ys : List Value) (hown : w.ownsRow 0 35 1 v xs.length xs) (ao : Option Addr) (m c : Nat) (hm : ys.length = m)
    (hsrc : m = 0 ∨ ∃ b off, ao = some ⟨b, off, none⟩ ∧ ∀ j u, ys[j]? = some u → w.cell? ⟨b, off + j, none⟩ = some u) (h1 : ∀ u ∈ ys, u.oneCell' = true) (hb : xs.length + m ≤ 100000) (ty : TypeId) :
    ∃ v' w', (Builtin.append_ #[26, 26] ty #[v, .slice ao m c]).run Try.prog w = .ok v' w' ∧ w'.ownsRow 0 35 1 v' (xs ++ ys).length (xs ++ ys) ∧ Chg w w' (fun k => v.ownBlock = some k) ∧ (v'.ownBlock = v.ownBlock ∨ ∃ k, v'.ownBlock = some k ∧ w.heap.size ≤ k) := by
  obtain ⟨i0, hi, hz0, hz1, hz2⟩ := info_parts info35
  obtain ⟨v', w', hr, q1, q2, q3⟩ := run_app (P := Try.prog) w 26 ty 35 i0 (.slice none 0 0) 1 24 Try.underlying26 hi hz0 hz1 hz2 rfl (by decide) v _ _ hown ao m c ys (by omega) hsrc h1 (by simp [maxLen]; omega) (by omega)
  refine ⟨v', w', hr, ?_, (Chg.refl w _).grown q2 (fun k e => .inl e), q3⟩
  rw [List.length_append, hm]
  exact q1
/-- append to a row of marks. -/
theorem app_U (w : World) (v : Value) (xs ys : List Value) (hown : w.ownsRow 0 34 1 v xs.length xs) (ao : Option Addr) (m c : Nat) (hm : ys.length = m)
    (hsrc : m = 0 ∨ ∃ b off, ao = some ⟨b, off, none⟩ ∧ ∀ j u, ys[j]? = some u → w.cell? ⟨b, off + j, none⟩ = some u) (h1 : ∀ u ∈ ys, u.oneCell' = true) (hb : xs.length + m ≤ 100000) (ty : TypeId) :
    ∃ v' w', (Builtin.append_ #[27, 27] ty #[v, .slice ao m c]).run Try.prog w = .ok v' w' ∧ w'.ownsRow 0 34 1 v' (xs ++ ys).length (xs ++ ys) ∧ Chg w w' (fun k => v.ownBlock = some k) ∧ (v'.ownBlock = v.ownBlock ∨ ∃ k, v'.ownBlock = some k ∧ w.heap.size ≤ k) := by
  obtain ⟨i0, hi, hz0, hz1, hz2⟩ := info_parts info34
  obtain ⟨v', w', hr, q1, q2, q3⟩ := run_app (P := Try.prog) w 27 ty 34 i0 (.int .u32 0) 1 4 Try.underlying27 hi hz0 hz1 hz2 rfl (by decide) v _ _ hown ao m c ys (by omega) hsrc h1 (by simp [maxLen]; omega) (by omega)
  refine ⟨v', w', hr, ?_, (Chg.refl w _).grown q2 (fun k e => .inl e), q3⟩
  rw [List.length_append, hm]
  exact q1

/-- The Book: its rows, what is held (of its own, made since the last settling: blocks from e on), what is its owner's (below e). -/
structure BkI (w : World) (K e : Nat) (hv wv lv mv : Value) (H : List (Value × Value × List (Nat × Ln))) (T : List (Value × Nat × Nat)) : Prop where
  at_ : w.heap[K]? = some (.cells #[hv, wv, lv, mv] 29 (0, 0))
  h : w.ownsRow 0 35 1 hv (H.map (·.1)).length (H.map (·.1))
  m : w.ownsRow 0 35 1 wv (H.map (·.2.1)).length (H.map (·.2.1))
  l : w.ownsRow 0 35 1 lv (T.map (·.1)).length (T.map (·.1))
  k : w.ownsRow 0 34 1 mv (T.map (fun t => Value.int .u32 ((t.2.1 : Nat) : Int))).length (T.map (fun t => .int .u32 ((t.2.1 : Nat) : Int)))
  hm : ∀ k, hv.ownBlock = some k → wv.ownBlock ≠ some k
  hl : ∀ k, hv.ownBlock = some k → lv.ownBlock ≠ some k
  ml : ∀ k, wv.ownBlock = some k → lv.ownBlock ≠ some k
  hr : ∀ x ∈ H, Lv w e x.1 x.2.2 ∧ Lv w 0 x.2.1 x.2.2 ∧ x.2.2.length ≤ 2048 ∧ ∀ p ∈ x.2.2, p.1 < 4294967296 ∧ p.2.1 < 4294967296
  ap : H.Pairwise (fun x y => ∀ k, x.1.ownBlock = some k → y.1.ownBlock ≠ some k)
  lr : ∀ t ∈ T, Lv w 0 t.1 (List.replicate t.2.2 (9999, t.2.1, false)) ∧ (∀ k, t.1.ownBlock = some k → k < e) ∧ t.2.2 ≤ 3000 ∧ t.2.1 < 4294967296
  e_ : e ≤ w.heap.size
theorem Lv.rd {w : World} {e : Nat} {v : Value} {lst : List (Nat × Ln)} (h : Lv w e v lst) (hb : ∀ p ∈ lst, p.1 < 4294967296 ∧ p.2.1 < 4294967296) : RdL w v lst := by
  by_cases h0 : 0 < lst.length
  · obtain ⟨g, cap, rfl, _, hg, _, hh⟩ := h.cells h0
    exact ⟨_, cap, rfl, ⟨.inr ⟨g, 0, rfl, hg, fun i hi => by simpa using hh i hi⟩, hb⟩⟩
  · have : lst = [] := by cases lst with | nil => rfl | cons => simp at h0
    subst this
    rcases h.row.2 with ⟨rfl, _⟩ | ⟨g, cap, cur, rfl, _⟩
    · exact ⟨none, 0, rfl, .inl rfl, hb⟩
    · exact ⟨_, cap, rfl, .inl rfl, hb⟩
theorem own_rd {w : World} {T : TypeId} {v : Value} {xs : List Value} (h : w.ownsRow 0 T 1 v xs.length xs) : RdV w v xs := by
  by_cases h0 : 0 < xs.length
  · obtain ⟨g, cap, cur, rfl, _, hg, hnc, _⟩ := h.2.resolve_left (by rintro ⟨_, h⟩; omega)
    refine ⟨_, cap, rfl, .inr ⟨g, 0, rfl, (Array.getElem?_eq_some_iff.1 hg).1, fun i hi => ?_⟩⟩
    rw [Nat.zero_add, h.cellAt i (by omega), List.getElem?_eq_getElem hi]
  · have : xs = [] := by cases xs with | nil => rfl | cons => simp at h0
    subst this
    rcases h.2 with ⟨rfl, _⟩ | ⟨g, cap, cur, rfl, _⟩
    · exact ⟨none, 0, rfl, .inl rfl⟩
    · exact ⟨_, cap, rfl, .inl rfl⟩
theorem BkI.rd {w : World} {K e : Nat} {hv wv lv mv : Value} {H : List (Value × Value × List (Nat × Ln))} {T : List (Value × Nat × Nat)} (h : BkI w K e hv wv lv mv H T) (n1 : H.length ≤ 1000000) (n2 : T.length ≤ 1000000) : BkR w K hv wv lv mv H T :=
  ⟨h.at_, own_rd h.h, own_rd h.m, own_rd h.l, own_rd h.k, fun x hx => ⟨(h.hr x hx).1.rd (h.hr x hx).2.2.2, (h.hr x hx).2.1.rd (h.hr x hx).2.2.2, by have := (h.hr x hx).2.2.1; omega⟩, fun t ht => ⟨(h.lr t ht).1.rd (fun p hp => by have := (List.mem_replicate.1 hp).2; subst this; exact ⟨show (9999 : Nat) < 4294967296 by decide, (h.lr t ht).2.2.2⟩), by have := (h.lr t ht).2.2.1; omega⟩, n1, n2⟩
end Go.Proofs.Ytppcfofkneaigab
