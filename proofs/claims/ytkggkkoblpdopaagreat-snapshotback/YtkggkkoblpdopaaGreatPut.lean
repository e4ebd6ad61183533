import Derived.Test.YtkggkkoblpdopaaGreatOwn
namespace Go.Proofs.YtkggkkoblpdopaaGreat
open Go.ChangeShapes Go.WideShapes Go.ChangeAt Go.RowKit
set_option linter.unusedVariables false

theorem eq_nil_no (x : Addr) (len cap : Nat) (w : World) : (binOp BinOp.eql 22 (Value.slice (some x) len cap) (Value.slice none 0 0)).run Tryz.prog w = .ok (.bool false) w := by
 kernel_rfl
theorem eq_nil_yes (len cap : Nat) (w : World) : (binOp BinOp.eql 22 (Value.slice none len cap) (Value.slice none 0 0)).run Tryz.prog w = .ok (.bool true) w := by
 kernel_rfl
theorem info5 : (Tryz.prog.info? 5).map (fun i => (i.zero, i.size, i.bytes)) = some (some (.int .u8 0), 1, 1) := by kernel_rfl

def OwnB (w : World) (v : Value) (bs : List Int) : Prop := w.ownsRow 0 5 1 v bs.length (bs.map (Value.int .u8)) ∧ ∀ n ∈ bs, 0 ≤ n ∧ n ≤ 255
def Fresh (B : Nat) (v : Value) : Prop := ∀ k, v.ownBlock = some k → B ≤ k

theorem getD_map_u8 (bs : List Int) (i : Nat) (h : i < bs.length) : (bs.map (Value.int .u8))[i]? = some (.int .u8 (bs.getD i 0)) := by
 simp [List.getElem?_eq_getElem h, List.getD_eq_getElem?_getD]

theorem OwnB.shape {w : World} {v : Value} {bs : List Int} (h : OwnB w v bs) (hl : bs.length ≤ 140737488355328) : ∃ a cap, v = .slice a bs.length cap ∧ bs.length ≤ cap ∧ (a = none → bs.length = 0 ∧ cap = 0) ∧ Bs w a bs.length bs := by
 obtain ⟨h1, h2⟩ := h
 rcases h1.2 with ⟨rfl, h0⟩ | ⟨g, cap, cur, rfl, hb, hg, hnc, hcm, hcs, ht⟩
 ·exact ⟨none, 0, by rw [h0], by omega, fun _ => ⟨h0, rfl⟩, rfl, by omega, h2, .inl h0⟩
 ·refine ⟨_, cap, rfl, hnc, (by intro e; cases e), rfl, hl, h2, .inr ⟨g, 0, rfl, fun i hi => ?_⟩⟩
  have := h1.cellAt i (by omega)
  rw [Nat.zero_add, this, getD_map_u8 _ _ hi]

theorem Bs.src {w : World} {a : Option Addr} {len : Nat} {bs : List Int} (h : Bs w a len bs) : len = 0 ∨ ∃ b off, a = some ⟨b, off, none⟩ ∧ ∀ j u, (bs.map (Value.int .u8))[j]? = some u → w.cell? ⟨b, off + j, none⟩ = some u := by
 obtain ⟨h1, h2, h3, h4⟩ := h
 rcases h4 with h | ⟨b, off, ha, hc⟩
 ·exact .inl h
 ·refine .inr ⟨b, off, ha, fun j u hu => ?_⟩
  have hj : j < bs.length := by have := (List.getElem?_eq_some_iff.1 hu).1; simpa using this
  rw [getD_map_u8 _ _ hj] at hu
  rw [hc j (by omega)]; exact hu

theorem oneCell_u8 (bs : List Int) : ∀ u ∈ bs.map (Value.int .u8), u.oneCell' = true := by
 intro u hu; simp at hu; obtain ⟨x, _, rfl⟩ := hu; rfl

theorem cells_at {w : World} {B : Nat} {cs : Array Value} {e : TypeId} (h : w.heap[B]? = some (.cells cs e (0, 0))) (i : Nat) : w.cell? ⟨B, i, none⟩ = cs[i]? ∧ w.frozen? ⟨B, i, none⟩ = false :=
 ⟨cell_of_row w B i cs e (0, 0) h, frozen_of_row w B i cs e h⟩

set_option maxRecDepth 20000 in
theorem clone_any (w : World) (a : Option Addr) (len cap : Nat) (bs : List Int) (hb : Bs w a len bs) :
  Calls Tryz.prog 71 #[.slice a len cap] w fun e w' => ∃ v, e = .returned v ∧ OwnB w' v bs ∧ Fresh w.heap.size v ∧ Chg w w' (fun _ => False) := by
 cases a with
 | none =>
  have h0 : len = 0 := by obtain ⟨_, _, _, h | ⟨b, off, h, _⟩⟩ := hb; exact h; cases h
  have hbs : bs = [] := List.eq_nil_of_length_eq_zero (by rw [hb.1, h0])
  subst h0 hbs
  have h := eq_nil_yes
  go_enter Tryz.func71, Tryz.ntmps71
  go_wp2
  go_ret
  exact ⟨_, rfl, ⟨World.ownsRow_nil _ _ _ _, by simp⟩, (by intro k hk; cases hk), Chg.refl _ _⟩
 | some x =>
  have h := eq_nil_no
  obtain ⟨i0, hi, hz0, hz1, hz2⟩ := info_parts info5
  have hown : (w.alloc (.cells #[] 5)).ownsRow 0 5 1 (.slice (some ⟨w.heap.size, 0, none⟩) 0 0) 0 [] := World.ownsRow_made w #[] 0 (Nat.zero_le _) (by simp [maxLen]) (by simp)
  have hsrc : Bs (w.alloc (.cells #[] 5)) (some x) len bs := by
   obtain ⟨h1, h2, h3, h4⟩ := hb
   refine ⟨h1, h2, h3, h4.imp_right ?_⟩
   rintro ⟨b, off, e, hc⟩
   refine ⟨b, off, e, fun i hi => ?_⟩
   have hlt := World.block_lt_of_cell? w _ (hc i hi)
   exact (World.cell?_of_block (w := w) (Below.heap_alloc _ _ _ hlt)).trans (hc i hi)
  obtain ⟨v', w', hr, k1, k2, k3⟩ := run_app (P := Tryz.prog) (w.alloc (.cells #[] 5)) 22 22 5 i0 (.int .u8 0) 1 1 Tryz.underlying22 hi hz0 hz1 hz2 rfl (by decide) _ 0 [] hown (some x) len cap (bs.map (Value.int .u8)) (by simp [hb.1]) hsrc.src (oneCell_u8 bs) (by have := hb.2.1; simp [maxLen]; omega) (by have := hb.2.1; omega)
  have HB : Hid (Bs w (some x) len bs) := hb
  have K : Hid (w'.ownsRow 0 5 1 v' (0 + len) ([] ++ bs.map (Value.int .u8)) ∧ (w.alloc (.cells #[] 5)).grownBy w' (some w.heap.size) ∧ Loc (w.alloc (.cells #[] 5)) (.slice (some ⟨w.heap.size, 0, none⟩) 0 0) v') := ⟨k1, k2, k3⟩
  clear k1 k2 k3 hsrc hown hb
  go_enter Tryz.func71, Tryz.ntmps71
  go_wp2_with (at_builtin; refine wpList_append_run _ rfl (.tmp 5) (.tmp 6) 22 22 rfl _ _ v' w' rfl rfl hr ?_)
  go_ret
  obtain ⟨k1, k2, k3⟩ := K.out
  refine ⟨v', rfl, ⟨by simpa [HB.out.1] using k1, HB.out.2.2.1⟩, ?_, ?_⟩
  ·intro k hk
   rcases k3 with e | ⟨k', e, hk'⟩
   ·rw [e] at hk; simp [Value.ownBlock] at hk; omega
   ·rw [e] at hk; simp at hk hk'; omega
  ·exact ((Chg.refl w _).alloc _).grown k2 (fun k e => .inr (by simp at e; omega))

set_option maxRecDepth 20000 in
theorem len64_any (w : World) (k : Nat) (n : Int) (h : (k = 1 ∧ n = 255) ∨ (k = 2 ∧ n = 65535) ∨ (k = 4 ∧ n = 4294967295) ∨ (k = 8 ∧ n = 18446744073709551615)) :
  Calls Tryz.prog 111 #[.int .u64 n] w fun e w' => e = .returned (.int .i64 (8 * k : Nat)) ∧ w' = w := by
 rcases h with ⟨rfl, rfl⟩ | ⟨rfl, rfl⟩ | ⟨rfl, rfl⟩ | ⟨rfl, rfl⟩
 all_goals
  go_enter Tryz.func111, Tryz.ntmps111
  go_wp2
  go_ret
  exact ⟨ret_int (by decide +kernel), rfl⟩

set_option maxRecDepth 20000 in
theorem width8 (w : World) :
  Calls Tryz.prog 243 #[] w fun e w' => e = .returned (.int .i64 1) ∧ w' = w := by
 have e1 : bits .xor .u8 IntKind.u8.max 0 = 255 := by decide +kernel
 have e2 : IntKind.u64.wrap 255 = 255 := by decide +kernel
 go_enter Tryz.func243, Tryz.ntmps243
 go_wp2_with (go_at_call 111; refine (len64_any _ 1 255 (by omega)).mono ?_; rintro e w' ⟨rfl, rfl⟩)
 go_ret
 exact ⟨rfl, rfl⟩

set_option maxRecDepth 20000 in
theorem width32 (w : World) :
  Calls Tryz.prog 69 #[] w fun e w' => e = .returned (.int .i64 4) ∧ w' = w := by
 have e1 : bits .xor .u32 IntKind.u32.max 0 = 4294967295 := by decide +kernel
 have e2 : IntKind.u64.wrap 4294967295 = 4294967295 := by decide +kernel
 go_enter Tryz.func69, Tryz.ntmps69
 go_wp2_with (go_at_call 111; refine (len64_any _ 4 4294967295 (by omega)).mono ?_; rintro e w' ⟨rfl, rfl⟩)
 go_ret
 exact ⟨rfl, rfl⟩

set_option maxRecDepth 20000 in
theorem width64 (w : World) :
  Calls Tryz.prog 245 #[] w fun e w' => e = .returned (.int .i64 8) ∧ w' = w := by
 have e1 : bits .xor .u64 IntKind.u64.max 0 = 18446744073709551615 := by decide +kernel
 have e2 : IntKind.u64.wrap 18446744073709551615 = 18446744073709551615 := by decide +kernel
 go_enter Tryz.func245, Tryz.ntmps245
 go_wp2_with (go_at_call 111; refine (len64_any _ 8 18446744073709551615 (by omega)).mono ?_; rintro e w' ⟨rfl, rfl⟩)
 go_ret
 exact ⟨rfl, rfl⟩
end Go.Proofs.YtkggkkoblpdopaaGreat
namespace Go.Proofs.YtkggkkoblpdopaaGreat
open Go.ChangeShapes Go.WideShapes Go.ChangeAt Go.RowKit
set_option linter.unusedVariables false

structure IsW (w : World) (B M : Nat) (v : Value) (mo : Obj) (lim : Nat) (data : List Int) (err : Int) : Prop where
 box : w.heap[B]? = some (.cells #[.int .i64 lim, v, .map (some M), .int .i64 err] 135 (0, 0))
 map : w.heap[M]? = some mo
 own : OwnB w v data
 lim_le : lim ≤ 67108864
 len_le : data.length ≤ lim
 nomap : ∀ c e f, mo ≠ .cells c e f

theorem IsW.drew {w : World} {B M : Nat} {v : Value} {mo : Obj} {lim : Nat} {data : List Int} {err : Int} (h : IsW w B M v mo lim data err) : IsW w.drew B M v mo lim data err :=
 ⟨h.box, h.map, ⟨(Chg.refl w (fun _ => False)).drew.owns h.own.1 (by simp), h.own.2⟩, h.lim_le, h.len_le, h.nomap⟩
theorem IsW.drewN {w : World} {B M : Nat} {v : Value} {mo : Obj} {lim : Nat} {data : List Int} {err : Int} (h : IsW w B M v mo lim data err) (n : Nat) : IsW (w.drewN n) B M v mo lim data err :=
 ⟨h.box, h.map, ⟨((Chg.refl w (fun _ => False)).drewN n).owns h.own.1 (by simp), h.own.2⟩, h.lim_le, h.len_le, h.nomap⟩

def Wf (B M : Nat) (v : Value) (k : Nat) : Prop := k = B ∨ k = M ∨ v.ownBlock = some k

theorem IsW.other {w w' : World} {B M : Nat} {v : Value} {mo : Obj} {lim : Nat} {data : List Int} {err : Int} {S : Nat → Prop} (h : IsW w B M v mo lim data err) (hc : Chg w w' S) (hS : ∀ k, Wf B M v k → ¬ S k) : IsW w' B M v mo lim data err :=
 ⟨hc.heap h.box (hS B (.inl rfl)), hc.heap h.map (hS M (.inr (.inl rfl))), ⟨hc.owns h.own.1 (fun k hk => hS k (.inr (.inr hk))), h.own.2⟩, h.lim_le, h.len_le, h.nomap⟩

theorem IsW.setErr {w : World} {B M : Nat} {v : Value} {mo : Obj} {lim : Nat} {data : List Int} {err : Int} (h : IsW w B M v mo lim data err) (e : Int) : IsW (w.setCell ⟨B, 3, none⟩ (.int .i64 e)) B M v mo lim data e := by
 have hMB : M ≠ B := by rintro rfl; have := h.map; rw [h.box] at this; simp at this; exact h.nomap _ _ _ this.symm
 refine ⟨?_, ?_, ⟨?_, h.own.2⟩, h.lim_le, h.len_le, h.nomap⟩
 ·rw [heap_setCell_same w B 3 _ 135 _ h.box]; rfl
 ·rw [Below.heap_setCell _ _ _ _ (by simpa using hMB)]; exact h.map
 ·refine ⟨h.own.1.1, ?_⟩
  rcases h.own.1.2 with h2 | ⟨g, cap, cur, hv, hg, hh, r⟩
  ·exact .inl h2
  ·have hgB : g ≠ B := by rintro rfl; rw [h.box] at hh; simp at hh
   exact .inr ⟨g, cap, cur, hv, hg, by rw [Below.heap_setCell _ _ _ _ (by simpa using hgB)]; exact hh, r⟩

theorem fail_yes (w : World) (B : Nat) (e : Int) (h0 : w.cell? ⟨B, 3, none⟩ = some (.int .i64 0)) (hf : w.frozen? ⟨B, 3, none⟩ = false) :
  Calls Tryz.prog 68 #[.pointer (some ⟨B, 0, none⟩), .int .i64 e] w fun r w' => r = .returned (.tuple #[]) ∧ w' = w.setCell ⟨B, 3, none⟩ (.int .i64 e) := by
 go_enter Tryz.func68, Tryz.ntmps68
 go_wp2
 go_end0
 exact ⟨rfl, rfl⟩
theorem fail_no (w : World) (B : Nat) (e err : Int) (h0 : w.cell? ⟨B, 3, none⟩ = some (.int .i64 err)) (he : (err == 0) = false) :
  Calls Tryz.prog 68 #[.pointer (some ⟨B, 0, none⟩), .int .i64 e] w fun r w' => r = .returned (.tuple #[]) ∧ w' = w := by
 go_enter Tryz.func68, Tryz.ntmps68
 go_wp2
 go_end0
 exact ⟨rfl, rfl⟩

theorem takes_yes (w : World) (B M : Nat) (v : Value) (mo : Obj) (lim : Nat) (data : List Int) (n : Nat) (h : IsW w B M v mo lim data 0) (hn : data.length + n ≤ lim) :
  Calls Tryz.prog 45 #[.pointer (some ⟨B, 0, none⟩), .int .i64 n] w fun r w' => r = .returned (.bool true) ∧ IsW w' B M v mo lim data 0 ∧ Chg w w' (fun _ => False) := by
 have hl := h.lim_le
 obtain ⟨a, cap, rfl, _⟩ := h.own.shape (by have := h.len_le; omega)
 have c0 := (cells_at h.box 0).1
 have c1 := (cells_at h.box 1).1
 have c3 := (cells_at h.box 3).1
 simp only [List.getElem?_toArray, List.getElem?_cons_zero, List.getElem?_cons_succ] at c0 c1 c3
 have H : Hid (IsW w B M (.slice a data.length cap) mo lim data 0) := h
 clear h
 go_enter Tryz.func45, Tryz.ntmps45
 go_wp2_with fail
 go_quiet (fail)
 go_wp2
 go_ret
 exact ⟨rfl, H.out.drewN _, (Chg.refl _ _).drewN _⟩

theorem takes_full (w : World) (B M : Nat) (v : Value) (mo : Obj) (lim : Nat) (data : List Int) (n : Nat) (h : IsW w B M v mo lim data 0) (hn : lim < data.length + n) (hn2 : n ≤ 140737488355328) :
  Calls Tryz.prog 45 #[.pointer (some ⟨B, 0, none⟩), .int .i64 n] w fun r w' => r = .returned (.bool false) ∧ IsW w' B M v mo lim data 12 ∧ Chg w w' (fun k => k = B) := by
 have hl := h.lim_le
 have hd := h.len_le
 obtain ⟨a, cap, rfl, _⟩ := h.own.shape (by have := h.len_le; omega)
 have c0 := (cells_at h.box 0).1
 have c1 := (cells_at h.box 1).1
 have c3 := (cells_at h.box 3).1
 have f3 := (cells_at h.box 3).2
 simp only [List.getElem?_toArray, List.getElem?_cons_zero, List.getElem?_cons_succ] at c0 c1 c3
 have H : Hid (IsW w B M (.slice a data.length cap) mo lim data 0) := h
 clear h
 go_enter Tryz.func45, Tryz.ntmps45
 go_wp2_with fail
 go_quiet (fail)
 go_wp2_with (go_at_call 68; refine (fail_yes _ _ _ (by go_simp) (by go_simp)).mono ?_; rintro e w' ⟨rfl, rfl⟩)
 go_ret
 exact ⟨rfl, (H.out.drewN _).setErr 12, Chg.setCell (S := fun k => k = B) ((Chg.refl _ _).drewN _) (.inl rfl) _⟩

theorem takes_bad (w : World) (B M : Nat) (v : Value) (mo : Obj) (lim : Nat) (data : List Int) (err : Int) (n : Nat) (h : IsW w B M v mo lim data err) (he : (err == 0) = false) (hn2 : n ≤ 140737488355328) :
  Calls Tryz.prog 45 #[.pointer (some ⟨B, 0, none⟩), .int .i64 n] w fun r w' => r = .returned (.bool false) ∧ IsW w' B M v mo lim data err ∧ Chg w w' (fun _ => False) := by
 have hl := h.lim_le
 have hd := h.len_le
 obtain ⟨a, cap, rfl, _⟩ := h.own.shape (by have := h.len_le; omega)
 have c0 := (cells_at h.box 0).1
 have c1 := (cells_at h.box 1).1
 have c3 := (cells_at h.box 3).1
 simp only [List.getElem?_toArray, List.getElem?_cons_zero, List.getElem?_cons_succ] at c0 c1 c3
 have H : Hid (IsW w B M (.slice a data.length cap) mo lim data err) := h
 clear h
 go_enter Tryz.func45, Tryz.ntmps45
 go_wp2_with fail
 go_quiet (fail)
 go_wp2_with (go_at_call 68; refine (fail_no _ _ _ err (by go_simp) he).mono ?_; rintro e w' ⟨rfl, rfl⟩)
 all_goals go_ret
 all_goals exact ⟨rfl, H.out.drewN _, (Chg.refl _ _).drewN _⟩
end Go.Proofs.YtkggkkoblpdopaaGreat
namespace Go.Proofs.YtkggkkoblpdopaaGreat
open Go.ChangeShapes Go.WideShapes Go.ChangeAt Go.RowKit
set_option linter.unusedVariables false

def leB (n : Nat) (i : Nat) : Int := ((n / 2 ^ (8 * i) % 256 : Nat) : Int)
def le (n : Nat) : Nat → List Int
 | 0 => []
 | k + 1 => le n k ++ [leB n k]
theorem le_len (n k : Nat) : (le n k).length = k := by induction k <;> simp_all [le]
theorem leB_range (n i : Nat) : 0 ≤ leB n i ∧ leB n i ≤ 255 := by unfold leB; omega
theorem le_range (n k : Nat) : ∀ x ∈ le n k, 0 ≤ x ∧ x ≤ 255 := by
 induction k with
 | zero => simp [le]
 | succ k ih => intro x hx; simp [le] at hx; rcases hx with h | h; exact ih x h; rw [h]; exact leB_range n k
def putN (data : List Int) (p n : Nat) : Nat → List Int
 | 0 => data
 | k + 1 => (putN data p n k).set (p + k) (leB n k)
theorem putN_len (data : List Int) (p n k : Nat) : (putN data p n k).length = data.length := by induction k <;> simp_all [putN]
theorem putN_eq (a b c : List Int) (n k : Nat) (hb : b.length = k) : ∀ j, j ≤ k → putN (a ++ b ++ c) a.length n j = a ++ le n j ++ b.drop j ++ c := by
 intro j hj
 induction j with
 | zero => simp [putN, le]
 | succ j ih =>
  rw [putN, ih (by omega), le]
  have hj' : j < b.length := by omega
  have e1 : b.drop j = b[j] :: b.drop (j + 1) := List.drop_eq_getElem_cons hj'
  rw [e1]
  have e2 : a ++ le n j ++ b[j] :: List.drop (j + 1) b ++ c = (a ++ le n j) ++ (b[j] :: (List.drop (j + 1) b ++ c)) := by simp only [List.append_assoc, List.cons_append]
  rw [e2, List.set_append_right _ _ (by simp [le_len])]
  simp [le_len]

theorem OwnB.set {w : World} {g cap : Nat} {data : List Int} (h : OwnB w (.slice (some ⟨g, 0, none⟩) data.length cap) data) (j : Nat) (x : Int) (hx : 0 ≤ x ∧ x ≤ 255) :
  OwnB (w.setCell ⟨g, j, none⟩ (.int .u8 x)) (.slice (some ⟨g, 0, none⟩) data.length cap) (data.set j x) := by
 refine ⟨?_, fun n hn => ?_⟩
 ·have := (h.1.stored j (.int .u8 x)).1
  simpa [List.map_set] using this
 ·rcases List.mem_or_eq_of_mem_set hn with h1 | h1
  ·exact h.2 n h1
  ·rw [h1]; exact hx

theorem wrap_u8_div (n i : Nat) : IntKind.u8.wrap ((n : Int) / 2 ^ (8 * i)) = leB n i := by
 rw [wrap_u8]
 unfold leB
 have : ((n : Int) / 2 ^ (8 * i)) = ((n / 2 ^ (8 * i) : Nat) : Int) := by simp
 rw [this]; omega

theorem leB_u8 (n j : Nat) (hn : n < 256) (hj : j < 1) : leB n j = (n : Int) / 2 ^ (8 * j) := by
 obtain rfl : j = 0 := by omega
 simp [leB]; omega

theorem put8 (w : World) (g cap p l c : Nat) (data : List Int) (n : Nat) (hn : n < 256) (h : OwnB w (.slice (some ⟨g, 0, none⟩) data.length cap) data) (hp : p + 1 ≤ data.length) (hl : 1 ≤ l) :
  Calls Tryz.prog 244 #[.slice (some ⟨g, p, none⟩) l c, .int .u8 n] w fun r w' => r = .returned (.tuple #[]) ∧ OwnB w' (.slice (some ⟨g, 0, none⟩) data.length cap) (putN data p n 1) ∧ Chg w w' (fun k => k = g) := by
 have H : Hid (OwnB w (.slice (some ⟨g, 0, none⟩) data.length cap) data) := h
 clear h
 go_enter Tryz.func244, Tryz.ntmps244
 go_wp2_with (go_at_call 243; refine (width8 _).mono ?_; rintro e w' ⟨rfl, rfl⟩)
 go_loopw [6] (fun i wr => ∃ j : Nat, j ≤ 1 ∧ i = .int .i64 j ∧ OwnB wr (.slice (some ⟨g, 0, none⟩) data.length cap) (putN data p n j) ∧ Chg w' wr (fun k => k = g)) (fun i _ => 1 - (intOf i).toNat)
 case atStart => exact ⟨0, by omega, rfl, H.out, Chg.refl _ _⟩
 case round =>
  obtain ⟨j, hj, rfl, ho, hc⟩ := hrel
  by_cases hlt : j < 1
  ·have hlen := putN_len data p n j
   rw [← hlen] at ho
   have hcell := (ho.1.cellAt (p + j) (by omega))
   rw [getD_map_u8 _ _ (by omega)] at hcell
   have hfr := ho.1.frozenAt (p + j)
   have hst := ho.set (p + j) (leB n j) (leB_range n j)
   have HS : Hid (OwnB (wr.setCell ⟨g, p + j, none⟩ (.int .u8 (leB n j))) (.slice (some ⟨g, 0, none⟩) (putN data p n j).length cap) (putN data p n (j + 1))) := hst
   have HL : Hid ((putN data p n j).length = data.length) := hlen
   have HC : Hid (Chg w' wr (fun k => k = g)) := hc
   clear ho hst hlen hc
   have hw8 := wrap_u8_div n j
   go_wp2
   go_roundw
   case rel => exact ⟨j + 1, by omega, by go_num, by have := HS.out; rw [HL.out] at this; first | exact this | (rw [← hw8] at this; exact this) | (rw [leB_u8 n j hn hlt] at this; exact this), Chg.setCell (S := fun k => k = g) HC.out (.inl rfl) _⟩
   case measure => simp [intOf]; omega
  ·go_wp2
   go_end0
   have : j = 1 := by omega
   subst this
   exact ⟨rfl, ho, hc⟩

theorem put32 (w : World) (g cap p l c : Nat) (data : List Int) (n : Nat) (hn : n < 4294967296) (h : OwnB w (.slice (some ⟨g, 0, none⟩) data.length cap) data) (hp : p + 4 ≤ data.length) (hl : 4 ≤ l) :
  Calls Tryz.prog 70 #[.slice (some ⟨g, p, none⟩) l c, .int .u32 n] w fun r w' => r = .returned (.tuple #[]) ∧ OwnB w' (.slice (some ⟨g, 0, none⟩) data.length cap) (putN data p n 4) ∧ Chg w w' (fun k => k = g) := by
 have H : Hid (OwnB w (.slice (some ⟨g, 0, none⟩) data.length cap) data) := h
 clear h
 go_enter Tryz.func70, Tryz.ntmps70
 go_wp2_with (go_at_call 69; refine (width32 _).mono ?_; rintro e w' ⟨rfl, rfl⟩)
 go_loopw [6] (fun i wr => ∃ j : Nat, j ≤ 4 ∧ i = .int .i64 j ∧ OwnB wr (.slice (some ⟨g, 0, none⟩) data.length cap) (putN data p n j) ∧ Chg w' wr (fun k => k = g)) (fun i _ => 4 - (intOf i).toNat)
 case atStart => exact ⟨0, by omega, rfl, H.out, Chg.refl _ _⟩
 case round =>
  obtain ⟨j, hj, rfl, ho, hc⟩ := hrel
  by_cases hlt : j < 4
  ·have hlen := putN_len data p n j
   rw [← hlen] at ho
   have hcell := (ho.1.cellAt (p + j) (by omega))
   rw [getD_map_u8 _ _ (by omega)] at hcell
   have hfr := ho.1.frozenAt (p + j)
   have hst := ho.set (p + j) (leB n j) (leB_range n j)
   have HS : Hid (OwnB (wr.setCell ⟨g, p + j, none⟩ (.int .u8 (leB n j))) (.slice (some ⟨g, 0, none⟩) (putN data p n j).length cap) (putN data p n (j + 1))) := hst
   have HL : Hid ((putN data p n j).length = data.length) := hlen
   have HC : Hid (Chg w' wr (fun k => k = g)) := hc
   clear ho hst hlen hc
   have hw8 := wrap_u8_div n j
   go_wp2
   go_roundw
   case rel => exact ⟨j + 1, by omega, by go_num, by have := HS.out; rw [HL.out] at this; first | exact this | (rw [← hw8] at this; exact this), Chg.setCell (S := fun k => k = g) HC.out (.inl rfl) _⟩
   case measure => simp [intOf]; omega
  ·go_wp2
   go_end0
   have : j = 4 := by omega
   subst this
   exact ⟨rfl, ho, hc⟩

theorem put64 (w : World) (g cap p l c : Nat) (data : List Int) (n : Nat) (hn : n < 18446744073709551616) (h : OwnB w (.slice (some ⟨g, 0, none⟩) data.length cap) data) (hp : p + 8 ≤ data.length) (hl : 8 ≤ l) :
  Calls Tryz.prog 246 #[.slice (some ⟨g, p, none⟩) l c, .int .u64 n] w fun r w' => r = .returned (.tuple #[]) ∧ OwnB w' (.slice (some ⟨g, 0, none⟩) data.length cap) (putN data p n 8) ∧ Chg w w' (fun k => k = g) := by
 have H : Hid (OwnB w (.slice (some ⟨g, 0, none⟩) data.length cap) data) := h
 clear h
 go_enter Tryz.func246, Tryz.ntmps246
 go_wp2_with (go_at_call 245; refine (width64 _).mono ?_; rintro e w' ⟨rfl, rfl⟩)
 go_loopw [6] (fun i wr => ∃ j : Nat, j ≤ 8 ∧ i = .int .i64 j ∧ OwnB wr (.slice (some ⟨g, 0, none⟩) data.length cap) (putN data p n j) ∧ Chg w' wr (fun k => k = g)) (fun i _ => 8 - (intOf i).toNat)
 case atStart => exact ⟨0, by omega, rfl, H.out, Chg.refl _ _⟩
 case round =>
  obtain ⟨j, hj, rfl, ho, hc⟩ := hrel
  by_cases hlt : j < 8
  ·have hlen := putN_len data p n j
   rw [← hlen] at ho
   have hcell := (ho.1.cellAt (p + j) (by omega))
   rw [getD_map_u8 _ _ (by omega)] at hcell
   have hfr := ho.1.frozenAt (p + j)
   have hst := ho.set (p + j) (leB n j) (leB_range n j)
   have HS : Hid (OwnB (wr.setCell ⟨g, p + j, none⟩ (.int .u8 (leB n j))) (.slice (some ⟨g, 0, none⟩) (putN data p n j).length cap) (putN data p n (j + 1))) := hst
   have HL : Hid ((putN data p n j).length = data.length) := hlen
   have HC : Hid (Chg w' wr (fun k => k = g)) := hc
   clear ho hst hlen hc
   have hw8 := wrap_u8_div n j
   go_wp2
   go_roundw
   case rel => exact ⟨j + 1, by omega, by go_num, by have := HS.out; rw [HL.out] at this; first | exact this | (rw [← hw8] at this; exact this), Chg.setCell (S := fun k => k = g) HC.out (.inl rfl) _⟩
   case measure => simp [intOf]; omega
  ·go_wp2
   go_end0
   have : j = 8 := by omega
   subst this
   exact ⟨rfl, ho, hc⟩
end Go.Proofs.YtkggkkoblpdopaaGreat
