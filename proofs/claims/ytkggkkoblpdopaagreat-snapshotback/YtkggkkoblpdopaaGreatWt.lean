import Derived.Test.YtkggkkoblpdopaaGreatPut
namespace Go.Proofs.YtkggkkoblpdopaaGreat
open Go.ChangeShapes Go.WideShapes Go.ChangeAt Go.RowKit
set_option linter.unusedVariables false

theorem IsW.cells {w : World} {B M : Nat} {v : Value} {mo : Obj} {lim : Nat} {data : List Int} {err : Int} (h : IsW w B M v mo lim data err) :
  w.cell? ⟨B, 0, none⟩ = some (.int .i64 lim) ∧ w.cell? ⟨B, 1, none⟩ = some v ∧ w.cell? ⟨B, 2, none⟩ = some (.map (some M)) ∧ w.cell? ⟨B, 3, none⟩ = some (.int .i64 err) ∧ ∀ i, w.frozen? ⟨B, i, none⟩ = false := by
 refine ⟨?_, ?_, ?_, ?_, fun i => (cells_at h.box i).2⟩
 ·have := (cells_at h.box 0).1; simpa using this
 ·have := (cells_at h.box 1).1; simpa using this
 ·have := (cells_at h.box 2).1; simpa using this
 ·have := (cells_at h.box 3).1; simpa using this

theorem IsW.apartB {w : World} {B M : Nat} {v : Value} {mo : Obj} {lim : Nat} {data : List Int} {err : Int} (h : IsW w B M v mo lim data err) : M ≠ B ∧ v.ownBlock ≠ some B ∧ v.ownBlock ≠ some M := by
 refine ⟨?_, ?_, ?_⟩
 ·rintro rfl; have := h.map; rw [h.box] at this; simp at this; exact h.nomap _ _ _ this.symm
 ·intro e
  rcases h.own.1.2 with ⟨rfl, _⟩ | ⟨g, cap, cur, rfl, _, hh, _⟩
  ·cases e
  ·simp [Value.ownBlock] at e; subst e; rw [h.box] at hh; simp at hh
 ·intro e
  rcases h.own.1.2 with ⟨rfl, _⟩ | ⟨g, cap, cur, rfl, _, hh, _⟩
  ·cases e
  ·simp [Value.ownBlock] at e; subst e; rw [h.map] at hh; simp at hh; exact h.nomap _ _ _ hh

theorem lt_heap {w : World} {k : Nat} {o : Obj} (h : w.heap[k]? = some o) : k < w.heap.size := (Array.getElem?_eq_some_iff.1 h).1

theorem IsW.appended {w w2 : World} {B M : Nat} {v v2 : Value} {mo : Obj} {lim : Nat} {data data2 : List Int} {err : Int} (h : IsW w B M v mo lim data err)
  (ho : w2.ownsRow 0 5 1 v2 data2.length (data2.map (Value.int .u8))) (hg : w.grownBy w2 v.ownBlock) (hl : Loc w v v2) (hr : ∀ n ∈ data2, 0 ≤ n ∧ n ≤ 255) (hle : data2.length ≤ lim) :
  w2.cell? ⟨B, 1, none⟩ = some v ∧ w2.frozen? ⟨B, 1, none⟩ = false ∧ IsW (w2.setCell ⟨B, 1, none⟩ v2) B M v2 mo lim data2 err ∧ Chg w (w2.setCell ⟨B, 1, none⟩ v2) (Wf B M v) := by
 obtain ⟨n1, n2, n3⟩ := h.apartB
 have hb2 : w2.heap[B]? = some (.cells #[.int .i64 lim, v, .map (some M), .int .i64 err] 135 (0, 0)) := by rw [hg.block B (lt_heap h.box) (fun e => n2 e.symm)]; exact h.box
 have hm2 : w2.heap[M]? = some mo := by rw [hg.block M (lt_heap h.map) (fun e => n3 e.symm)]; exact h.map
 have hv2 : v2.ownBlock ≠ some B := by
  rcases hl with e | ⟨k, e, hk⟩
  ·rw [e]; exact n2
  ·rw [e]; intro e2; simp at e2; have := lt_heap h.box; omega
 refine ⟨by have := (cells_at hb2 1).1; simpa using this, (cells_at hb2 1).2, ⟨?_, ?_, ⟨?_, hr⟩, h.lim_le, hle, h.nomap⟩, ?_⟩
 ·rw [heap_setCell_same w2 B 1 _ 135 _ hb2]; rfl
 ·rw [Below.heap_setCell _ _ _ _ (by simpa using n1)]; exact hm2
 ·refine ⟨ho.1, ?_⟩
  rcases ho.2 with h2 | ⟨g, cap, cur, hv, hg', hh, r⟩
  ·exact .inl h2
  ·have : g ≠ B := by rintro rfl; rw [hv] at hv2; exact hv2 rfl
   exact .inr ⟨g, cap, cur, hv, hg', by rw [Below.heap_setCell _ _ _ _ (by simpa using this)]; exact hh, r⟩
 ·exact Chg.setCell (S := Wf B M v) ((Chg.refl w _).grown hg (fun k e => .inl (.inr (.inr e)))) (.inl (.inl rfl)) _

theorem IsW.put {w w' : World} {B M g cap : Nat} {mo : Obj} {lim : Nat} {data data' : List Int} {err : Int} (h : IsW w B M (.slice (some ⟨g, 0, none⟩) data.length cap) mo lim data err)
  (ho : OwnB w' (.slice (some ⟨g, 0, none⟩) data.length cap) data') (hlen : data'.length = data.length) (hc : Chg w w' (fun k => k = g)) : IsW w' B M (.slice (some ⟨g, 0, none⟩) data.length cap) mo lim data' err := by
 obtain ⟨n1, n2, n3⟩ := h.apartB
 refine ⟨hc.heap h.box ?_, hc.heap h.map ?_, ho, h.lim_le, by rw [hlen]; exact h.len_le, h.nomap⟩
 ·rintro rfl; exact n2 rfl
 ·rintro rfl; exact n3 rfl

theorem putN_end (data : List Int) (n k : Nat) : putN (data ++ List.replicate k 0) data.length n k = data ++ le n k := by
 have := putN_eq data (List.replicate k 0) [] n k (by simp) k (by omega)
 simpa using this

theorem own_nonnil {w : World} {v : Value} {n : Nat} {xs : List Value} (h : w.ownsRow 0 5 1 v n xs) (hn : 0 < n) : ∃ g cap, v = .slice (some ⟨g, 0, none⟩) n cap ∧ n ≤ cap := by
 rcases h.2 with ⟨_, h0⟩ | ⟨g, cap, cur, rfl, _, _, hnc, _⟩
 ·omega
 ·exact ⟨g, cap, rfl, hnc⟩

theorem Chg.weak {w w' : World} {S : Nat → Prop} (h : Chg w w' (fun _ => False)) : Chg w w' S := h.mono (fun _ _ x => x.elim)


set_option maxRecDepth 10000 in
theorem write8_yes (w : World) (B M : Nat) (v : Value) (mo : Obj) (lim : Nat) (data : List Int) (n : Nat) (hn : n < 256) (h : IsW w B M v mo lim data 0) (hl : data.length + 1 ≤ lim) :
  Calls Tryz.prog 239 #[.pointer (some ⟨B, 0, none⟩), .int .u8 n] w fun r w' => r = .returned (.tuple #[]) ∧ ∃ v', IsW w' B M v' mo lim (data ++ le n 1) 0 ∧ Chg w w' (Wf B M v) ∧ Loc w v v' := by
 have hlim := h.lim_le
 go_enter Tryz.func239, Tryz.ntmps239
 go_wp2_with (go_at_call 243; refine (width8 _).mono ?_; rintro e w ⟨rfl, rfl⟩)
 go_at_call 45
 refine (takes_yes _ B M v mo lim data 1 h hl).mono ?_
 rintro e w1 ⟨rfl, hW1, hC1⟩
 obtain ⟨a, cap, rfl, hac, hnil, hBs⟩ := hW1.own.shape (by omega)
 obtain ⟨c0, c1, c2, c3, cf⟩ := hW1.cells
 obtain ⟨i0, hi, hz0, hz1, hz2⟩ := info_parts info5
 obtain ⟨v2, w2, hr, k1, k2, k3⟩ := run_appz (P := Tryz.prog) w1 22 3 22 5 .i64 i0 (.int .u8 0) 1 Tryz.underlying22 Tryz.underlying3 hi hz0 hz1 hz2 rfl rfl _ data.length _ hW1.own.1 .i64 1 (by simp [maxLen]; omega) (by omega)
 obtain ⟨d1, d2, hW2, hC2⟩ := hW1.appended (data2 := data ++ List.replicate 1 0) (by simpa using k1) k2 k3 (by intro x hx; simp at hx; rcases hx with h | h; exact hW1.own.2 x h; omega) (by simp; omega)
 obtain ⟨g, cap2, rfl, hcap2⟩ := own_nonnil k1 (by omega)
 have e1 := (hW2.cells).2.1
 have hlen2 : (data ++ List.replicate 1 (0 : Int)).length = data.length + 1 := by simp
 have hown2 : OwnB (w2.setCell ⟨B, 1, none⟩ (.slice (some ⟨g, 0, none⟩) (data.length + 1) cap2)) (.slice (some ⟨g, 0, none⟩) (data ++ List.replicate 1 (0 : Int)).length cap2) (data ++ List.replicate 1 0) := by rw [hlen2]; exact hW2.own
 have hloc : Loc w (.slice a data.length cap) (.slice (some ⟨g, 0, none⟩) (data.length + 1) cap2) := by
  rcases k3 with e | ⟨j, e, hj⟩
  ·exact .inl e
  ·exact .inr ⟨j, e, Nat.le_trans hC1.size hj⟩
 have K : Hid (Chg w w1 (fun _ => False) ∧ IsW (w2.setCell ⟨B, 1, none⟩ (.slice (some ⟨g, 0, none⟩) (data.length + 1) cap2)) B M (.slice (some ⟨g, 0, none⟩) (data.length + 1) cap2) mo lim (data ++ List.replicate 1 0) 0 ∧ Chg w1 (w2.setCell ⟨B, 1, none⟩ (.slice (some ⟨g, 0, none⟩) (data.length + 1) cap2)) (Wf B M (.slice a data.length cap)) ∧ Loc w (.slice a data.length cap) (.slice (some ⟨g, 0, none⟩) (data.length + 1) cap2)) := ⟨hC1, hW2, hC2, hloc⟩
 have O : Hid (OwnB (w2.setCell ⟨B, 1, none⟩ (.slice (some ⟨g, 0, none⟩) (data.length + 1) cap2)) (.slice (some ⟨g, 0, none⟩) (data ++ List.replicate 1 (0 : Int)).length cap2) (data ++ List.replicate 1 0)) := hown2
 have L : Hid ((data ++ List.replicate 1 (0 : Int)).length = data.length + 1) := hlen2
 clear hW1 hC1 hW2 hC2 k1 k2 k3 hBs hi hz0 hz1 hz2 h hnil cf hloc hown2 hlen2
 go_wp2_with (at_builtin; refine wpList_append_run _ rfl (.tmp 20) (.tmp 21) 22 3 rfl _ _ (.slice (some ⟨g, 0, none⟩) (data.length + 1) cap2) w2 rfl rfl hr ?_)
 go_at_call 244
 refine (put8 _ g cap2 data.length _ _ (data ++ List.replicate 1 0) n hn O.out (by rw [L.out]; omega) (by omega)).mono ?_
 rintro e w4 ⟨rfl, ho4, hc4⟩
 obtain ⟨hC1, hW2, hC2, hloc⟩ := K.out
 have hW2' : IsW (w2.setCell ⟨B, 1, none⟩ (.slice (some ⟨g, 0, none⟩) (data.length + 1) cap2)) B M (.slice (some ⟨g, 0, none⟩) (data ++ List.replicate 1 (0 : Int)).length cap2) mo lim (data ++ List.replicate 1 0) 0 := by rw [L.out]; exact hW2
 have hW4 := hW2'.put ho4 (putN_len _ _ _ _) hc4
 rw [putN_end, L.out] at hW4
 have hC4 : Chg w w4 (Wf B M (.slice a data.length cap)) := (hC1.weak.trans hC2 (fun _ _ x => x)).trans hc4 (fun i hi x => by
  subst x
  rcases hloc with e | ⟨j, e, hj⟩
  ·exact .inr (.inr e.symm)
  ·simp [Value.ownBlock] at e; omega)
 clear ho4 hc4 hW2' hW2 hC2 hC1 K O L hr
 go_wp2
 go_end0
 exact ⟨rfl, _, hW4, hC4, hloc⟩

set_option maxRecDepth 10000 in
theorem write8_full (w : World) (B M : Nat) (v : Value) (mo : Obj) (lim : Nat) (data : List Int) (n : Nat) (h : IsW w B M v mo lim data 0) (hl : lim < data.length + 1) :
  Calls Tryz.prog 239 #[.pointer (some ⟨B, 0, none⟩), .int .u8 n] w fun r w' => r = .returned (.tuple #[]) ∧ IsW w' B M v mo lim data 12 ∧ Chg w w' (fun k => k = B) := by
 go_enter Tryz.func239, Tryz.ntmps239
 go_wp2_with (go_at_call 243; refine (width8 _).mono ?_; rintro e w ⟨rfl, rfl⟩)
 go_at_call 45
 refine (takes_full _ B M v mo lim data 1 h hl (by omega)).mono ?_
 rintro e w1 ⟨rfl, hW1, hC1⟩
 go_wp2
 refine bodyPost_ret (results_none rfl _ _ _) rfl ?_
 exact ⟨rfl, hW1, hC1⟩

set_option maxRecDepth 10000 in
theorem write8_bad (w : World) (B M : Nat) (v : Value) (mo : Obj) (lim : Nat) (data : List Int) (err : Int) (n : Nat) (h : IsW w B M v mo lim data err) (he : (err == 0) = false) :
  Calls Tryz.prog 239 #[.pointer (some ⟨B, 0, none⟩), .int .u8 n] w fun r w' => r = .returned (.tuple #[]) ∧ IsW w' B M v mo lim data err ∧ Chg w w' (fun _ => False) := by
 go_enter Tryz.func239, Tryz.ntmps239
 go_wp2_with (go_at_call 243; refine (width8 _).mono ?_; rintro e w ⟨rfl, rfl⟩)
 go_at_call 45
 refine (takes_bad _ B M v mo lim data err 1 h he (by omega)).mono ?_
 rintro e w1 ⟨rfl, hW1, hC1⟩
 go_wp2
 refine bodyPost_ret (results_none rfl _ _ _) rfl ?_
 exact ⟨rfl, hW1, hC1⟩

set_option maxRecDepth 10000 in
theorem write32_yes (w : World) (B M : Nat) (v : Value) (mo : Obj) (lim : Nat) (data : List Int) (n : Nat) (hn : n < 4294967296) (h : IsW w B M v mo lim data 0) (hl : data.length + 4 ≤ lim) :
  Calls Tryz.prog 72 #[.pointer (some ⟨B, 0, none⟩), .int .u32 n] w fun r w' => r = .returned (.tuple #[]) ∧ ∃ v', IsW w' B M v' mo lim (data ++ le n 4) 0 ∧ Chg w w' (Wf B M v) ∧ Loc w v v' := by
 have hlim := h.lim_le
 go_enter Tryz.func72, Tryz.ntmps72
 go_wp2_with (go_at_call 69; refine (width32 _).mono ?_; rintro e w ⟨rfl, rfl⟩)
 go_at_call 45
 refine (takes_yes _ B M v mo lim data 4 h hl).mono ?_
 rintro e w1 ⟨rfl, hW1, hC1⟩
 obtain ⟨a, cap, rfl, hac, hnil, hBs⟩ := hW1.own.shape (by omega)
 obtain ⟨c0, c1, c2, c3, cf⟩ := hW1.cells
 obtain ⟨i0, hi, hz0, hz1, hz2⟩ := info_parts info5
 obtain ⟨v2, w2, hr, k1, k2, k3⟩ := run_appz (P := Tryz.prog) w1 22 3 22 5 .i64 i0 (.int .u8 0) 1 Tryz.underlying22 Tryz.underlying3 hi hz0 hz1 hz2 rfl rfl _ data.length _ hW1.own.1 .i64 4 (by simp [maxLen]; omega) (by omega)
 obtain ⟨d1, d2, hW2, hC2⟩ := hW1.appended (data2 := data ++ List.replicate 4 0) (by simpa using k1) k2 k3 (by intro x hx; simp at hx; rcases hx with h | h; exact hW1.own.2 x h; omega) (by simp; omega)
 obtain ⟨g, cap2, rfl, hcap2⟩ := own_nonnil k1 (by omega)
 have e1 := (hW2.cells).2.1
 have hlen2 : (data ++ List.replicate 4 (0 : Int)).length = data.length + 4 := by simp
 have hown2 : OwnB (w2.setCell ⟨B, 1, none⟩ (.slice (some ⟨g, 0, none⟩) (data.length + 4) cap2)) (.slice (some ⟨g, 0, none⟩) (data ++ List.replicate 4 (0 : Int)).length cap2) (data ++ List.replicate 4 0) := by rw [hlen2]; exact hW2.own
 have hloc : Loc w (.slice a data.length cap) (.slice (some ⟨g, 0, none⟩) (data.length + 4) cap2) := by
  rcases k3 with e | ⟨j, e, hj⟩
  ·exact .inl e
  ·exact .inr ⟨j, e, Nat.le_trans hC1.size hj⟩
 have K : Hid (Chg w w1 (fun _ => False) ∧ IsW (w2.setCell ⟨B, 1, none⟩ (.slice (some ⟨g, 0, none⟩) (data.length + 4) cap2)) B M (.slice (some ⟨g, 0, none⟩) (data.length + 4) cap2) mo lim (data ++ List.replicate 4 0) 0 ∧ Chg w1 (w2.setCell ⟨B, 1, none⟩ (.slice (some ⟨g, 0, none⟩) (data.length + 4) cap2)) (Wf B M (.slice a data.length cap)) ∧ Loc w (.slice a data.length cap) (.slice (some ⟨g, 0, none⟩) (data.length + 4) cap2)) := ⟨hC1, hW2, hC2, hloc⟩
 have O : Hid (OwnB (w2.setCell ⟨B, 1, none⟩ (.slice (some ⟨g, 0, none⟩) (data.length + 4) cap2)) (.slice (some ⟨g, 0, none⟩) (data ++ List.replicate 4 (0 : Int)).length cap2) (data ++ List.replicate 4 0)) := hown2
 have L : Hid ((data ++ List.replicate 4 (0 : Int)).length = data.length + 4) := hlen2
 clear hW1 hC1 hW2 hC2 k1 k2 k3 hBs hi hz0 hz1 hz2 h hnil cf hloc hown2 hlen2
 go_wp2_with (at_builtin; refine wpList_append_run _ rfl (.tmp 20) (.tmp 21) 22 3 rfl _ _ (.slice (some ⟨g, 0, none⟩) (data.length + 4) cap2) w2 rfl rfl hr ?_)
 go_at_call 70
 refine (put32 _ g cap2 data.length _ _ (data ++ List.replicate 4 0) n hn O.out (by rw [L.out]; omega) (by omega)).mono ?_
 rintro e w4 ⟨rfl, ho4, hc4⟩
 obtain ⟨hC1, hW2, hC2, hloc⟩ := K.out
 have hW2' : IsW (w2.setCell ⟨B, 1, none⟩ (.slice (some ⟨g, 0, none⟩) (data.length + 4) cap2)) B M (.slice (some ⟨g, 0, none⟩) (data ++ List.replicate 4 (0 : Int)).length cap2) mo lim (data ++ List.replicate 4 0) 0 := by rw [L.out]; exact hW2
 have hW4 := hW2'.put ho4 (putN_len _ _ _ _) hc4
 rw [putN_end, L.out] at hW4
 have hC4 : Chg w w4 (Wf B M (.slice a data.length cap)) := (hC1.weak.trans hC2 (fun _ _ x => x)).trans hc4 (fun i hi x => by
  subst x
  rcases hloc with e | ⟨j, e, hj⟩
  ·exact .inr (.inr e.symm)
  ·simp [Value.ownBlock] at e; omega)
 clear ho4 hc4 hW2' hW2 hC2 hC1 K O L hr
 go_wp2
 go_end0
 exact ⟨rfl, _, hW4, hC4, hloc⟩

set_option maxRecDepth 10000 in
theorem write32_full (w : World) (B M : Nat) (v : Value) (mo : Obj) (lim : Nat) (data : List Int) (n : Nat) (h : IsW w B M v mo lim data 0) (hl : lim < data.length + 4) :
  Calls Tryz.prog 72 #[.pointer (some ⟨B, 0, none⟩), .int .u32 n] w fun r w' => r = .returned (.tuple #[]) ∧ IsW w' B M v mo lim data 12 ∧ Chg w w' (fun k => k = B) := by
 go_enter Tryz.func72, Tryz.ntmps72
 go_wp2_with (go_at_call 69; refine (width32 _).mono ?_; rintro e w ⟨rfl, rfl⟩)
 go_at_call 45
 refine (takes_full _ B M v mo lim data 4 h hl (by omega)).mono ?_
 rintro e w1 ⟨rfl, hW1, hC1⟩
 go_wp2
 refine bodyPost_ret (results_none rfl _ _ _) rfl ?_
 exact ⟨rfl, hW1, hC1⟩

set_option maxRecDepth 10000 in
theorem write32_bad (w : World) (B M : Nat) (v : Value) (mo : Obj) (lim : Nat) (data : List Int) (err : Int) (n : Nat) (h : IsW w B M v mo lim data err) (he : (err == 0) = false) :
  Calls Tryz.prog 72 #[.pointer (some ⟨B, 0, none⟩), .int .u32 n] w fun r w' => r = .returned (.tuple #[]) ∧ IsW w' B M v mo lim data err ∧ Chg w w' (fun _ => False) := by
 go_enter Tryz.func72, Tryz.ntmps72
 go_wp2_with (go_at_call 69; refine (width32 _).mono ?_; rintro e w ⟨rfl, rfl⟩)
 go_at_call 45
 refine (takes_bad _ B M v mo lim data err 4 h he (by omega)).mono ?_
 rintro e w1 ⟨rfl, hW1, hC1⟩
 go_wp2
 refine bodyPost_ret (results_none rfl _ _ _) rfl ?_
 exact ⟨rfl, hW1, hC1⟩

set_option maxRecDepth 10000 in
theorem write64_yes (w : World) (B M : Nat) (v : Value) (mo : Obj) (lim : Nat) (data : List Int) (n : Nat) (hn : n < 18446744073709551616) (h : IsW w B M v mo lim data 0) (hl : data.length + 8 ≤ lim) :
  Calls Tryz.prog 240 #[.pointer (some ⟨B, 0, none⟩), .int .u64 n] w fun r w' => r = .returned (.tuple #[]) ∧ ∃ v', IsW w' B M v' mo lim (data ++ le n 8) 0 ∧ Chg w w' (Wf B M v) ∧ Loc w v v' := by
 have hlim := h.lim_le
 go_enter Tryz.func240, Tryz.ntmps240
 go_wp2_with (go_at_call 245; refine (width64 _).mono ?_; rintro e w ⟨rfl, rfl⟩)
 go_at_call 45
 refine (takes_yes _ B M v mo lim data 8 h hl).mono ?_
 rintro e w1 ⟨rfl, hW1, hC1⟩
 obtain ⟨a, cap, rfl, hac, hnil, hBs⟩ := hW1.own.shape (by omega)
 obtain ⟨c0, c1, c2, c3, cf⟩ := hW1.cells
 obtain ⟨i0, hi, hz0, hz1, hz2⟩ := info_parts info5
 obtain ⟨v2, w2, hr, k1, k2, k3⟩ := run_appz (P := Tryz.prog) w1 22 3 22 5 .i64 i0 (.int .u8 0) 1 Tryz.underlying22 Tryz.underlying3 hi hz0 hz1 hz2 rfl rfl _ data.length _ hW1.own.1 .i64 8 (by simp [maxLen]; omega) (by omega)
 obtain ⟨d1, d2, hW2, hC2⟩ := hW1.appended (data2 := data ++ List.replicate 8 0) (by simpa using k1) k2 k3 (by intro x hx; simp at hx; rcases hx with h | h; exact hW1.own.2 x h; omega) (by simp; omega)
 obtain ⟨g, cap2, rfl, hcap2⟩ := own_nonnil k1 (by omega)
 have e1 := (hW2.cells).2.1
 have hlen2 : (data ++ List.replicate 8 (0 : Int)).length = data.length + 8 := by simp
 have hown2 : OwnB (w2.setCell ⟨B, 1, none⟩ (.slice (some ⟨g, 0, none⟩) (data.length + 8) cap2)) (.slice (some ⟨g, 0, none⟩) (data ++ List.replicate 8 (0 : Int)).length cap2) (data ++ List.replicate 8 0) := by rw [hlen2]; exact hW2.own
 have hloc : Loc w (.slice a data.length cap) (.slice (some ⟨g, 0, none⟩) (data.length + 8) cap2) := by
  rcases k3 with e | ⟨j, e, hj⟩
  ·exact .inl e
  ·exact .inr ⟨j, e, Nat.le_trans hC1.size hj⟩
 have K : Hid (Chg w w1 (fun _ => False) ∧ IsW (w2.setCell ⟨B, 1, none⟩ (.slice (some ⟨g, 0, none⟩) (data.length + 8) cap2)) B M (.slice (some ⟨g, 0, none⟩) (data.length + 8) cap2) mo lim (data ++ List.replicate 8 0) 0 ∧ Chg w1 (w2.setCell ⟨B, 1, none⟩ (.slice (some ⟨g, 0, none⟩) (data.length + 8) cap2)) (Wf B M (.slice a data.length cap)) ∧ Loc w (.slice a data.length cap) (.slice (some ⟨g, 0, none⟩) (data.length + 8) cap2)) := ⟨hC1, hW2, hC2, hloc⟩
 have O : Hid (OwnB (w2.setCell ⟨B, 1, none⟩ (.slice (some ⟨g, 0, none⟩) (data.length + 8) cap2)) (.slice (some ⟨g, 0, none⟩) (data ++ List.replicate 8 (0 : Int)).length cap2) (data ++ List.replicate 8 0)) := hown2
 have L : Hid ((data ++ List.replicate 8 (0 : Int)).length = data.length + 8) := hlen2
 clear hW1 hC1 hW2 hC2 k1 k2 k3 hBs hi hz0 hz1 hz2 h hnil cf hloc hown2 hlen2
 go_wp2_with (at_builtin; refine wpList_append_run _ rfl (.tmp 20) (.tmp 21) 22 3 rfl _ _ (.slice (some ⟨g, 0, none⟩) (data.length + 8) cap2) w2 rfl rfl hr ?_)
 go_at_call 246
 refine (put64 _ g cap2 data.length _ _ (data ++ List.replicate 8 0) n hn O.out (by rw [L.out]; omega) (by omega)).mono ?_
 rintro e w4 ⟨rfl, ho4, hc4⟩
 obtain ⟨hC1, hW2, hC2, hloc⟩ := K.out
 have hW2' : IsW (w2.setCell ⟨B, 1, none⟩ (.slice (some ⟨g, 0, none⟩) (data.length + 8) cap2)) B M (.slice (some ⟨g, 0, none⟩) (data ++ List.replicate 8 (0 : Int)).length cap2) mo lim (data ++ List.replicate 8 0) 0 := by rw [L.out]; exact hW2
 have hW4 := hW2'.put ho4 (putN_len _ _ _ _) hc4
 rw [putN_end, L.out] at hW4
 have hC4 : Chg w w4 (Wf B M (.slice a data.length cap)) := (hC1.weak.trans hC2 (fun _ _ x => x)).trans hc4 (fun i hi x => by
  subst x
  rcases hloc with e | ⟨j, e, hj⟩
  ·exact .inr (.inr e.symm)
  ·simp [Value.ownBlock] at e; omega)
 clear ho4 hc4 hW2' hW2 hC2 hC1 K O L hr
 go_wp2
 go_end0
 exact ⟨rfl, _, hW4, hC4, hloc⟩

set_option maxRecDepth 10000 in
theorem write64_full (w : World) (B M : Nat) (v : Value) (mo : Obj) (lim : Nat) (data : List Int) (n : Nat) (h : IsW w B M v mo lim data 0) (hl : lim < data.length + 8) :
  Calls Tryz.prog 240 #[.pointer (some ⟨B, 0, none⟩), .int .u64 n] w fun r w' => r = .returned (.tuple #[]) ∧ IsW w' B M v mo lim data 12 ∧ Chg w w' (fun k => k = B) := by
 go_enter Tryz.func240, Tryz.ntmps240
 go_wp2_with (go_at_call 245; refine (width64 _).mono ?_; rintro e w ⟨rfl, rfl⟩)
 go_at_call 45
 refine (takes_full _ B M v mo lim data 8 h hl (by omega)).mono ?_
 rintro e w1 ⟨rfl, hW1, hC1⟩
 go_wp2
 refine bodyPost_ret (results_none rfl _ _ _) rfl ?_
 exact ⟨rfl, hW1, hC1⟩

set_option maxRecDepth 10000 in
theorem write64_bad (w : World) (B M : Nat) (v : Value) (mo : Obj) (lim : Nat) (data : List Int) (err : Int) (n : Nat) (h : IsW w B M v mo lim data err) (he : (err == 0) = false) :
  Calls Tryz.prog 240 #[.pointer (some ⟨B, 0, none⟩), .int .u64 n] w fun r w' => r = .returned (.tuple #[]) ∧ IsW w' B M v mo lim data err ∧ Chg w w' (fun _ => False) := by
 go_enter Tryz.func240, Tryz.ntmps240
 go_wp2_with (go_at_call 245; refine (width64 _).mono ?_; rintro e w ⟨rfl, rfl⟩)
 go_at_call 45
 refine (takes_bad _ B M v mo lim data err 8 h he (by omega)).mono ?_
 rintro e w1 ⟨rfl, hW1, hC1⟩
 go_wp2
 refine bodyPost_ret (results_none rfl _ _ _) rfl ?_
 exact ⟨rfl, hW1, hC1⟩
end Go.Proofs.YtkggkkoblpdopaaGreat
