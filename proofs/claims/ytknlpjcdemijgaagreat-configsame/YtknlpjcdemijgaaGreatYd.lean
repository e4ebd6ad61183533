import Derived.Test.YtknlpjcdemijgaaGreatYc
namespace Go.Proofs.YtknlpjcdemijgaaGreat
open Go.ChangeShapes Go.WideShapes Go.ChangeAt Go.RowKit
set_option linter.unusedVariables false
theorem made_at (Z : Array Value) (n i k : Nat) (hk : k < Z.size) (hi : i < n) : (madeCells Z (n * Z.size))[i * Z.size + k]? = Z[k]? := by
 have h1 : i * Z.size + k < n * Z.size := by
  have : (i + 1) * Z.size ≤ n * Z.size := Nat.mul_le_mul_right _ hi
  have e : (i + 1) * Z.size = i * Z.size + Z.size := by rw [Nat.add_mul, Nat.one_mul]
  omega
 unfold madeCells
 rw [Array.getElem?_map, Array.getElem?_range, if_pos h1]
 simp only [Option.map_some]
 rw [Nat.mul_comm, Nat.mul_add_mod, Nat.mod_eq_of_lt hk, Array.getElem?_eq_getElem hk]
 simp [hk]
def NewRow (w w' : World) (la : Option Addr) (n : Nat) (T : TypeId) (Z : Array Value) : Prop := (n = 0 ∧ la = none) ∨ (0 < n ∧ ∃ nb, la = some ⟨nb, 0, none⟩ ∧ w.heap.size ≤ nb ∧ w'.heap[nb]? = some (.cells (madeCells Z (n * Z.size)) T (0, 0)))
theorem set_self {cs : Array Value} {o : Nat} {u : Value} (h : cs[o]? = some u) : cs.setIfInBounds o u = cs := by
 apply Array.ext_getElem?
 intro j
 by_cases e : o = j
 ·subst e
  rw [Array.getElem?_setIfInBounds_self_of_lt (Array.getElem?_eq_some_iff.1 h).1, h]
 ·rw [Array.getElem?_setIfInBounds_ne e]
abbrev zCe : Array Value := #[.string ByteArray.empty, .int .u32 0, .slice none 0 0, .slice none 0 0]
theorem info_zCe : (Tryz.prog.info? 89).map (fun i => (i.zero, i.size, i.bytes)) = some (some (.agg #[.string ByteArray.empty, .int .u32 0, .slice none 0 0, .slice none 0 0]), 4, 72) := by kernel_rfl
theorem mk_zCe (n : Nat) (hn : n ≤ 255) (w : World) : (Instr.makeSlice 26 (.int .i64 n) (.int .i64 n)).run Tryz.prog w = .ok (.slice (some ⟨w.heap.size, 0, none⟩) n n) (w.alloc (.cells (madeCells zCe (n * zCe.size)) 89)) := by
 obtain ⟨i0, hi, hz0, hz1, hz2⟩ := info_parts info_zCe
 have := run_make (P := Tryz.prog) w 26 89 i0 (.agg #[.string ByteArray.empty, .int .u32 0, .slice none 0 0, .slice none 0 0]) Tryz.underlying26 hi hz0 .i64 .i64 n n (by omega) (by omega) (by rw [hz2]; omega) (by omega)
 rw [this, Int.toNat_natCast, hz1]
 rfl
set_option maxRecDepth 10000 in
theorem rcount59 {w : World} {R : Nat} {a : Option Addr} {cap : Nat} {s : RS} {b : Nat} {cs : Array Value} {ty : TypeId} (h : R1 w R a cap s b cs ty) (o : Nat) (hz : cs[o]? = some (.slice none 0 0)) :
  Calls Tryz.prog 59 #[.iface 83 (hR R), .pointer (some ⟨b, o, none⟩)] w fun r w' => r = .returned (.tuple #[]) ∧ ∃ la, RX w w' R a cap (s.take 1).2 b (cs.setIfInBounds o (.slice la (s.num 1) (s.num 1))) ty ∧ NewRow w w' la (s.num 1) 89 zCe := by
 have hlt : s.num 1 < 256 := RS.num_lt s 1 h.rs.rng
 have hbl := hp_lt h.bl
 have hRl := hp_lt h.rs.box
 have hal : ∀ x off, a = some ⟨x, off, none⟩ → 0 < s.bs.length → x < w.heap.size := fun x off e hl => by
  obtain ⟨q1, q2, q3, q4⟩ := h.rs.bytes
  rcases q4 with q4 | ⟨bb, oo, q4, q5⟩
  ·omega
  ·rw [e] at q4; cases q4
   exact lt_of_cell (q5 0 hl)
 have cz : w.cell? ⟨b, o, none⟩ = some (.slice none 0 0) := by rw [(cells_at h.bl o).1]; exact hz
 obtain ⟨w1, hw1⟩ : ∃ w1, w1 = w.alloc (.cells #[.int .i64 0] 3) := ⟨_, rfl⟩
 have k1 : Kp w w1 := by rw [hw1]; exact Kp.al _ _
 have hK : w1.heap[w.heap.size]? = some (.cells #[.int .i64 0] 3 (0, 0)) := by rw [hw1]; exact heap_alloc_new w _
 have rK : R1 w1 R a cap s w.heap.size #[.int .i64 0] 3 := ⟨h.rs.other k1 (fun e => e) (fun _ _ _ _ e => e), hK, by omega, fun x off e hl => by have := hal x off e hl; omega⟩
 have A1 := rbyteOf rK 0 (by simp)
 have HR : Hid (R1 w R a cap s b cs ty ∧ Kp w w1) := ⟨h, k1⟩
 have hm := (mr_byteOf R).m
 clear h k1 hK rK
 generalize hn : s.num 1 = n at *
 clear hn
 go_enter Tryz.func59, Tryz.ntmps59
 go_wp2_with fail
 rw [← hw1]
 clear hw1
 go_at_call 144
 refine A1.mono ?_
 clear A1 hm
 rintro e w2 ⟨rfl, r2, c2⟩
 have hn2 : w2.cell? ⟨w.heap.size, 0, none⟩ = some (.int .i64 n) := by rw [(cells_at r2.bl 0).1]; rfl
 have hb2 : w2.heap[b]? = some (.cells cs ty (0, 0)) := c2.heap (HR.out.2.heap HR.out.1.bl) (by rintro (e | e); exact HR.out.1.ne e.symm; omega)
 have q2 : R1 w2 R a cap (s.take 1).2 b cs ty := ⟨r2.rs, hb2, HR.out.1.ne, by rw [RS.take_bs]; exact HR.out.1.ab⟩
 have cz2 : w2.cell? ⟨b, o, none⟩ = some (.slice none 0 0) := by rw [(cells_at hb2 o).1]; exact hz
 have H2 : Hid (R1 w2 R a cap (s.take 1).2 b cs ty ∧ Chg w w2 (fun k => k = R ∨ k = b) ∧ w.heap.size ≤ w2.heap.size) := ⟨q2, Chg.trans HR.out.2.any c2 (fun i hi e => by rcases e with e | e; exact .inl e; omega), Nat.le_trans HR.out.2.size c2.size⟩
 clear r2 c2 hb2 q2 HR cz
 go_upto_region 2 with fail
 go_quiet (fail)
 by_cases h0 : n = 0
 ·subst h0
  have HY : ∀ m, Hid (∃ la, RX w (w2.drewN m) R a cap (s.take 1).2 b (cs.setIfInBounds o (.slice la 0 0)) ty ∧ NewRow w (w2.drewN m) la 0 89 zCe) := fun m => by
   refine ⟨none, ⟨?_, H2.out.2.1.drewN m⟩, .inl ⟨rfl, rfl⟩⟩
   rw [set_self hz]
   exact H2.out.1.kp (Kp.drewN _ m)
  clear H2 hn2 cz2
  go_wp2
  exact ⟨rfl, _, results_none rfl _ _ _, rfl, (HY _).out⟩
 ·have h0z : ¬ (n : Int) = 0 := by omega
  have hmk := fun w => mk_zCe n (by omega) w
  have HY : ∀ m, Hid (R1 (w2.drewN m) R a cap (s.take 1).2 b cs ty ∧ Chg w (w2.drewN m) (fun k => k = R ∨ k = b) ∧ w.heap.size ≤ w2.heap.size) := fun m => ⟨H2.out.1.kp (Kp.drewN _ m), H2.out.2.1.drewN m, H2.out.2.2⟩
  clear H2
  rename_i nq
  have hY := (HY nq).out
  clear HY
  obtain ⟨w3, hw3⟩ : ∃ w3, w3 = w2.drewN nq := ⟨_, rfl⟩
  have hsz : w3.heap.size = w2.heap.size := by rw [hw3]; rfl
  have c3 : w3.cell? ⟨w.heap.size, 0, none⟩ = some (.int .i64 n) := by rw [hw3]; exact Kp.cell (Kp.drewN _ _) hn2
  rw [← hw3] at hY ⊢
  clear hw3 hn2 cz2
  obtain ⟨q1, q2, q3⟩ := hY
  have k4 := Kp.al w3 (.cells (madeCells zCe (n * zCe.size)) 89)
  have q4 := q1.kp k4
  obtain ⟨u4, hu4⟩ := q4.cell o (Array.getElem?_eq_some_iff.1 hz).1
  have hf4 := q4.fr o
  obtain ⟨q5, c5⟩ := q4.put o (.slice (some ⟨w3.heap.size, 0, none⟩) n n)
  have hnew := c5.heap (heap_alloc_new w3 (.cells (madeCells zCe (n * zCe.size)) 89)) (by show ¬ w3.heap.size = b; omega)
  have HZ : Hid (RX w ((w3.alloc (.cells (madeCells zCe (n * zCe.size)) 89)).setCell ⟨b, o, none⟩ (.slice (some ⟨w3.heap.size, 0, none⟩) n n)) R a cap (s.take 1).2 b (cs.setIfInBounds o (.slice (some ⟨w3.heap.size, 0, none⟩) n n)) ty ∧ NewRow w ((w3.alloc (.cells (madeCells zCe (n * zCe.size)) 89)).setCell ⟨b, o, none⟩ (.slice (some ⟨w3.heap.size, 0, none⟩) n n)) (some ⟨w3.heap.size, 0, none⟩) n 89 zCe) := ⟨⟨q5, Chg.trans (Chg.trans q2 k4.any (fun _ _ e => e)) c5 (fun _ _ e => .inr e)⟩, .inr ⟨by omega, w3.heap.size, rfl, by omega, hnew⟩⟩
  clear q1 q2 q3 q4 q5 k4 c5 hnew hsz
  generalize madeCells zCe (n * zCe.size) = mc at *
  go_wp2
  exact ⟨rfl, _, results_none rfl _ _ _, rfl, _, HZ.out⟩
abbrev zWi : Array Value := #[.int .i64 0, .int .u64 0, .int .u64 0]
theorem info_zWi : (Tryz.prog.info? 65).map (fun i => (i.zero, i.size, i.bytes)) = some (some (.agg #[.int .i64 0, .int .u64 0, .int .u64 0]), 3, 24) := by kernel_rfl
theorem mk_zWi (n : Nat) (hn : n ≤ 255) (w : World) : (Instr.makeSlice 27 (.int .i64 n) (.int .i64 n)).run Tryz.prog w = .ok (.slice (some ⟨w.heap.size, 0, none⟩) n n) (w.alloc (.cells (madeCells zWi (n * zWi.size)) 65)) := by
 obtain ⟨i0, hi, hz0, hz1, hz2⟩ := info_parts info_zWi
 have := run_make (P := Tryz.prog) w 27 65 i0 (.agg #[.int .i64 0, .int .u64 0, .int .u64 0]) Tryz.underlying27 hi hz0 .i64 .i64 n n (by omega) (by omega) (by rw [hz2]; omega) (by omega)
 rw [this, Int.toNat_natCast, hz1]
 rfl
set_option maxRecDepth 10000 in
theorem rcount60 {w : World} {R : Nat} {a : Option Addr} {cap : Nat} {s : RS} {b : Nat} {cs : Array Value} {ty : TypeId} (h : R1 w R a cap s b cs ty) (o : Nat) (hz : cs[o]? = some (.slice none 0 0)) :
  Calls Tryz.prog 60 #[.iface 83 (hR R), .pointer (some ⟨b, o, none⟩)] w fun r w' => r = .returned (.tuple #[]) ∧ ∃ la, RX w w' R a cap (s.take 1).2 b (cs.setIfInBounds o (.slice la (s.num 1) (s.num 1))) ty ∧ NewRow w w' la (s.num 1) 65 zWi := by
 have hlt : s.num 1 < 256 := RS.num_lt s 1 h.rs.rng
 have hbl := hp_lt h.bl
 have hRl := hp_lt h.rs.box
 have hal : ∀ x off, a = some ⟨x, off, none⟩ → 0 < s.bs.length → x < w.heap.size := fun x off e hl => by
  obtain ⟨q1, q2, q3, q4⟩ := h.rs.bytes
  rcases q4 with q4 | ⟨bb, oo, q4, q5⟩
  ·omega
  ·rw [e] at q4; cases q4
   exact lt_of_cell (q5 0 hl)
 have cz : w.cell? ⟨b, o, none⟩ = some (.slice none 0 0) := by rw [(cells_at h.bl o).1]; exact hz
 obtain ⟨w1, hw1⟩ : ∃ w1, w1 = w.alloc (.cells #[.int .i64 0] 3) := ⟨_, rfl⟩
 have k1 : Kp w w1 := by rw [hw1]; exact Kp.al _ _
 have hK : w1.heap[w.heap.size]? = some (.cells #[.int .i64 0] 3 (0, 0)) := by rw [hw1]; exact heap_alloc_new w _
 have rK : R1 w1 R a cap s w.heap.size #[.int .i64 0] 3 := ⟨h.rs.other k1 (fun e => e) (fun _ _ _ _ e => e), hK, by omega, fun x off e hl => by have := hal x off e hl; omega⟩
 have A1 := rbyteOf rK 0 (by simp)
 have HR : Hid (R1 w R a cap s b cs ty ∧ Kp w w1) := ⟨h, k1⟩
 have hm := (mr_byteOf R).m
 clear h k1 hK rK
 generalize hn : s.num 1 = n at *
 clear hn
 go_enter Tryz.func60, Tryz.ntmps60
 go_wp2_with fail
 rw [← hw1]
 clear hw1
 go_at_call 144
 refine A1.mono ?_
 clear A1 hm
 rintro e w2 ⟨rfl, r2, c2⟩
 have hn2 : w2.cell? ⟨w.heap.size, 0, none⟩ = some (.int .i64 n) := by rw [(cells_at r2.bl 0).1]; rfl
 have hb2 : w2.heap[b]? = some (.cells cs ty (0, 0)) := c2.heap (HR.out.2.heap HR.out.1.bl) (by rintro (e | e); exact HR.out.1.ne e.symm; omega)
 have q2 : R1 w2 R a cap (s.take 1).2 b cs ty := ⟨r2.rs, hb2, HR.out.1.ne, by rw [RS.take_bs]; exact HR.out.1.ab⟩
 have cz2 : w2.cell? ⟨b, o, none⟩ = some (.slice none 0 0) := by rw [(cells_at hb2 o).1]; exact hz
 have H2 : Hid (R1 w2 R a cap (s.take 1).2 b cs ty ∧ Chg w w2 (fun k => k = R ∨ k = b) ∧ w.heap.size ≤ w2.heap.size) := ⟨q2, Chg.trans HR.out.2.any c2 (fun i hi e => by rcases e with e | e; exact .inl e; omega), Nat.le_trans HR.out.2.size c2.size⟩
 clear r2 c2 hb2 q2 HR cz
 go_upto_region 2 with fail
 go_quiet (fail)
 by_cases h0 : n = 0
 ·subst h0
  have HY : ∀ m, Hid (∃ la, RX w (w2.drewN m) R a cap (s.take 1).2 b (cs.setIfInBounds o (.slice la 0 0)) ty ∧ NewRow w (w2.drewN m) la 0 65 zWi) := fun m => by
   refine ⟨none, ⟨?_, H2.out.2.1.drewN m⟩, .inl ⟨rfl, rfl⟩⟩
   rw [set_self hz]
   exact H2.out.1.kp (Kp.drewN _ m)
  clear H2 hn2 cz2
  go_wp2
  exact ⟨rfl, _, results_none rfl _ _ _, rfl, (HY _).out⟩
 ·have h0z : ¬ (n : Int) = 0 := by omega
  have hmk := fun w => mk_zWi n (by omega) w
  have HY : ∀ m, Hid (R1 (w2.drewN m) R a cap (s.take 1).2 b cs ty ∧ Chg w (w2.drewN m) (fun k => k = R ∨ k = b) ∧ w.heap.size ≤ w2.heap.size) := fun m => ⟨H2.out.1.kp (Kp.drewN _ m), H2.out.2.1.drewN m, H2.out.2.2⟩
  clear H2
  rename_i nq
  have hY := (HY nq).out
  clear HY
  obtain ⟨w3, hw3⟩ : ∃ w3, w3 = w2.drewN nq := ⟨_, rfl⟩
  have hsz : w3.heap.size = w2.heap.size := by rw [hw3]; rfl
  have c3 : w3.cell? ⟨w.heap.size, 0, none⟩ = some (.int .i64 n) := by rw [hw3]; exact Kp.cell (Kp.drewN _ _) hn2
  rw [← hw3] at hY ⊢
  clear hw3 hn2 cz2
  obtain ⟨q1, q2, q3⟩ := hY
  have k4 := Kp.al w3 (.cells (madeCells zWi (n * zWi.size)) 65)
  have q4 := q1.kp k4
  obtain ⟨u4, hu4⟩ := q4.cell o (Array.getElem?_eq_some_iff.1 hz).1
  have hf4 := q4.fr o
  obtain ⟨q5, c5⟩ := q4.put o (.slice (some ⟨w3.heap.size, 0, none⟩) n n)
  have hnew := c5.heap (heap_alloc_new w3 (.cells (madeCells zWi (n * zWi.size)) 65)) (by show ¬ w3.heap.size = b; omega)
  have HZ : Hid (RX w ((w3.alloc (.cells (madeCells zWi (n * zWi.size)) 65)).setCell ⟨b, o, none⟩ (.slice (some ⟨w3.heap.size, 0, none⟩) n n)) R a cap (s.take 1).2 b (cs.setIfInBounds o (.slice (some ⟨w3.heap.size, 0, none⟩) n n)) ty ∧ NewRow w ((w3.alloc (.cells (madeCells zWi (n * zWi.size)) 65)).setCell ⟨b, o, none⟩ (.slice (some ⟨w3.heap.size, 0, none⟩) n n)) (some ⟨w3.heap.size, 0, none⟩) n 65 zWi) := ⟨⟨q5, Chg.trans (Chg.trans q2 k4.any (fun _ _ e => e)) c5 (fun _ _ e => .inr e)⟩, .inr ⟨by omega, w3.heap.size, rfl, by omega, hnew⟩⟩
  clear q1 q2 q3 q4 q5 k4 c5 hnew hsz
  generalize madeCells zWi (n * zWi.size) = mc at *
  go_wp2
  exact ⟨rfl, _, results_none rfl _ _ _, rfl, _, HZ.out⟩
abbrev zSa : Array Value := #[.int .i64 0, .int .i64 0, .slice none 0 0]
theorem info_zSa : (Tryz.prog.info? 94).map (fun i => (i.zero, i.size, i.bytes)) = some (some (.agg #[.int .i64 0, .int .i64 0, .slice none 0 0]), 3, 40) := by kernel_rfl
theorem mk_zSa (n : Nat) (hn : n ≤ 255) (w : World) : (Instr.makeSlice 28 (.int .i64 n) (.int .i64 n)).run Tryz.prog w = .ok (.slice (some ⟨w.heap.size, 0, none⟩) n n) (w.alloc (.cells (madeCells zSa (n * zSa.size)) 94)) := by
 obtain ⟨i0, hi, hz0, hz1, hz2⟩ := info_parts info_zSa
 have := run_make (P := Tryz.prog) w 28 94 i0 (.agg #[.int .i64 0, .int .i64 0, .slice none 0 0]) Tryz.underlying28 hi hz0 .i64 .i64 n n (by omega) (by omega) (by rw [hz2]; omega) (by omega)
 rw [this, Int.toNat_natCast, hz1]
 rfl
set_option maxRecDepth 10000 in
theorem rcount61 {w : World} {R : Nat} {a : Option Addr} {cap : Nat} {s : RS} {b : Nat} {cs : Array Value} {ty : TypeId} (h : R1 w R a cap s b cs ty) (o : Nat) (hz : cs[o]? = some (.slice none 0 0)) :
  Calls Tryz.prog 61 #[.iface 83 (hR R), .pointer (some ⟨b, o, none⟩)] w fun r w' => r = .returned (.tuple #[]) ∧ ∃ la, RX w w' R a cap (s.take 1).2 b (cs.setIfInBounds o (.slice la (s.num 1) (s.num 1))) ty ∧ NewRow w w' la (s.num 1) 94 zSa := by
 have hlt : s.num 1 < 256 := RS.num_lt s 1 h.rs.rng
 have hbl := hp_lt h.bl
 have hRl := hp_lt h.rs.box
 have hal : ∀ x off, a = some ⟨x, off, none⟩ → 0 < s.bs.length → x < w.heap.size := fun x off e hl => by
  obtain ⟨q1, q2, q3, q4⟩ := h.rs.bytes
  rcases q4 with q4 | ⟨bb, oo, q4, q5⟩
  ·omega
  ·rw [e] at q4; cases q4
   exact lt_of_cell (q5 0 hl)
 have cz : w.cell? ⟨b, o, none⟩ = some (.slice none 0 0) := by rw [(cells_at h.bl o).1]; exact hz
 obtain ⟨w1, hw1⟩ : ∃ w1, w1 = w.alloc (.cells #[.int .i64 0] 3) := ⟨_, rfl⟩
 have k1 : Kp w w1 := by rw [hw1]; exact Kp.al _ _
 have hK : w1.heap[w.heap.size]? = some (.cells #[.int .i64 0] 3 (0, 0)) := by rw [hw1]; exact heap_alloc_new w _
 have rK : R1 w1 R a cap s w.heap.size #[.int .i64 0] 3 := ⟨h.rs.other k1 (fun e => e) (fun _ _ _ _ e => e), hK, by omega, fun x off e hl => by have := hal x off e hl; omega⟩
 have A1 := rbyteOf rK 0 (by simp)
 have HR : Hid (R1 w R a cap s b cs ty ∧ Kp w w1) := ⟨h, k1⟩
 have hm := (mr_byteOf R).m
 clear h k1 hK rK
 generalize hn : s.num 1 = n at *
 clear hn
 go_enter Tryz.func61, Tryz.ntmps61
 go_wp2_with fail
 rw [← hw1]
 clear hw1
 go_at_call 144
 refine A1.mono ?_
 clear A1 hm
 rintro e w2 ⟨rfl, r2, c2⟩
 have hn2 : w2.cell? ⟨w.heap.size, 0, none⟩ = some (.int .i64 n) := by rw [(cells_at r2.bl 0).1]; rfl
 have hb2 : w2.heap[b]? = some (.cells cs ty (0, 0)) := c2.heap (HR.out.2.heap HR.out.1.bl) (by rintro (e | e); exact HR.out.1.ne e.symm; omega)
 have q2 : R1 w2 R a cap (s.take 1).2 b cs ty := ⟨r2.rs, hb2, HR.out.1.ne, by rw [RS.take_bs]; exact HR.out.1.ab⟩
 have cz2 : w2.cell? ⟨b, o, none⟩ = some (.slice none 0 0) := by rw [(cells_at hb2 o).1]; exact hz
 have H2 : Hid (R1 w2 R a cap (s.take 1).2 b cs ty ∧ Chg w w2 (fun k => k = R ∨ k = b) ∧ w.heap.size ≤ w2.heap.size) := ⟨q2, Chg.trans HR.out.2.any c2 (fun i hi e => by rcases e with e | e; exact .inl e; omega), Nat.le_trans HR.out.2.size c2.size⟩
 clear r2 c2 hb2 q2 HR cz
 go_upto_region 2 with fail
 go_quiet (fail)
 by_cases h0 : n = 0
 ·subst h0
  have HY : ∀ m, Hid (∃ la, RX w (w2.drewN m) R a cap (s.take 1).2 b (cs.setIfInBounds o (.slice la 0 0)) ty ∧ NewRow w (w2.drewN m) la 0 94 zSa) := fun m => by
   refine ⟨none, ⟨?_, H2.out.2.1.drewN m⟩, .inl ⟨rfl, rfl⟩⟩
   rw [set_self hz]
   exact H2.out.1.kp (Kp.drewN _ m)
  clear H2 hn2 cz2
  go_wp2
  exact ⟨rfl, _, results_none rfl _ _ _, rfl, (HY _).out⟩
 ·have h0z : ¬ (n : Int) = 0 := by omega
  have hmk := fun w => mk_zSa n (by omega) w
  have HY : ∀ m, Hid (R1 (w2.drewN m) R a cap (s.take 1).2 b cs ty ∧ Chg w (w2.drewN m) (fun k => k = R ∨ k = b) ∧ w.heap.size ≤ w2.heap.size) := fun m => ⟨H2.out.1.kp (Kp.drewN _ m), H2.out.2.1.drewN m, H2.out.2.2⟩
  clear H2
  rename_i nq
  have hY := (HY nq).out
  clear HY
  obtain ⟨w3, hw3⟩ : ∃ w3, w3 = w2.drewN nq := ⟨_, rfl⟩
  have hsz : w3.heap.size = w2.heap.size := by rw [hw3]; rfl
  have c3 : w3.cell? ⟨w.heap.size, 0, none⟩ = some (.int .i64 n) := by rw [hw3]; exact Kp.cell (Kp.drewN _ _) hn2
  rw [← hw3] at hY ⊢
  clear hw3 hn2 cz2
  obtain ⟨q1, q2, q3⟩ := hY
  have k4 := Kp.al w3 (.cells (madeCells zSa (n * zSa.size)) 94)
  have q4 := q1.kp k4
  obtain ⟨u4, hu4⟩ := q4.cell o (Array.getElem?_eq_some_iff.1 hz).1
  have hf4 := q4.fr o
  obtain ⟨q5, c5⟩ := q4.put o (.slice (some ⟨w3.heap.size, 0, none⟩) n n)
  have hnew := c5.heap (heap_alloc_new w3 (.cells (madeCells zSa (n * zSa.size)) 94)) (by show ¬ w3.heap.size = b; omega)
  have HZ : Hid (RX w ((w3.alloc (.cells (madeCells zSa (n * zSa.size)) 94)).setCell ⟨b, o, none⟩ (.slice (some ⟨w3.heap.size, 0, none⟩) n n)) R a cap (s.take 1).2 b (cs.setIfInBounds o (.slice (some ⟨w3.heap.size, 0, none⟩) n n)) ty ∧ NewRow w ((w3.alloc (.cells (madeCells zSa (n * zSa.size)) 94)).setCell ⟨b, o, none⟩ (.slice (some ⟨w3.heap.size, 0, none⟩) n n)) (some ⟨w3.heap.size, 0, none⟩) n 94 zSa) := ⟨⟨q5, Chg.trans (Chg.trans q2 k4.any (fun _ _ e => e)) c5 (fun _ _ e => .inr e)⟩, .inr ⟨by omega, w3.heap.size, rfl, by omega, hnew⟩⟩
  clear q1 q2 q3 q4 q5 k4 c5 hnew hsz
  generalize madeCells zSa (n * zSa.size) = mc at *
  go_wp2
  exact ⟨rfl, _, results_none rfl _ _ _, rfl, _, HZ.out⟩
abbrev zQu : Array Value := #[.int .i64 0, .int .i64 0, .int .i64 0, .int .i64 0, .int .i64 0, .bool false]
theorem info_zQu : (Tryz.prog.info? 98).map (fun i => (i.zero, i.size, i.bytes)) = some (some (.agg #[.int .i64 0, .int .i64 0, .int .i64 0, .int .i64 0, .int .i64 0, .bool false]), 6, 48) := by kernel_rfl
theorem mk_zQu (n : Nat) (hn : n ≤ 255) (w : World) : (Instr.makeSlice 29 (.int .i64 n) (.int .i64 n)).run Tryz.prog w = .ok (.slice (some ⟨w.heap.size, 0, none⟩) n n) (w.alloc (.cells (madeCells zQu (n * zQu.size)) 98)) := by
 obtain ⟨i0, hi, hz0, hz1, hz2⟩ := info_parts info_zQu
 have := run_make (P := Tryz.prog) w 29 98 i0 (.agg #[.int .i64 0, .int .i64 0, .int .i64 0, .int .i64 0, .int .i64 0, .bool false]) Tryz.underlying29 hi hz0 .i64 .i64 n n (by omega) (by omega) (by rw [hz2]; omega) (by omega)
 rw [this, Int.toNat_natCast, hz1]
 rfl
set_option maxRecDepth 10000 in
theorem rcount62 {w : World} {R : Nat} {a : Option Addr} {cap : Nat} {s : RS} {b : Nat} {cs : Array Value} {ty : TypeId} (h : R1 w R a cap s b cs ty) (o : Nat) (hz : cs[o]? = some (.slice none 0 0)) :
  Calls Tryz.prog 62 #[.iface 83 (hR R), .pointer (some ⟨b, o, none⟩)] w fun r w' => r = .returned (.tuple #[]) ∧ ∃ la, RX w w' R a cap (s.take 1).2 b (cs.setIfInBounds o (.slice la (s.num 1) (s.num 1))) ty ∧ NewRow w w' la (s.num 1) 98 zQu := by
 have hlt : s.num 1 < 256 := RS.num_lt s 1 h.rs.rng
 have hbl := hp_lt h.bl
 have hRl := hp_lt h.rs.box
 have hal : ∀ x off, a = some ⟨x, off, none⟩ → 0 < s.bs.length → x < w.heap.size := fun x off e hl => by
  obtain ⟨q1, q2, q3, q4⟩ := h.rs.bytes
  rcases q4 with q4 | ⟨bb, oo, q4, q5⟩
  ·omega
  ·rw [e] at q4; cases q4
   exact lt_of_cell (q5 0 hl)
 have cz : w.cell? ⟨b, o, none⟩ = some (.slice none 0 0) := by rw [(cells_at h.bl o).1]; exact hz
 obtain ⟨w1, hw1⟩ : ∃ w1, w1 = w.alloc (.cells #[.int .i64 0] 3) := ⟨_, rfl⟩
 have k1 : Kp w w1 := by rw [hw1]; exact Kp.al _ _
 have hK : w1.heap[w.heap.size]? = some (.cells #[.int .i64 0] 3 (0, 0)) := by rw [hw1]; exact heap_alloc_new w _
 have rK : R1 w1 R a cap s w.heap.size #[.int .i64 0] 3 := ⟨h.rs.other k1 (fun e => e) (fun _ _ _ _ e => e), hK, by omega, fun x off e hl => by have := hal x off e hl; omega⟩
 have A1 := rbyteOf rK 0 (by simp)
 have HR : Hid (R1 w R a cap s b cs ty ∧ Kp w w1) := ⟨h, k1⟩
 have hm := (mr_byteOf R).m
 clear h k1 hK rK
 generalize hn : s.num 1 = n at *
 clear hn
 go_enter Tryz.func62, Tryz.ntmps62
 go_wp2_with fail
 rw [← hw1]
 clear hw1
 go_at_call 144
 refine A1.mono ?_
 clear A1 hm
 rintro e w2 ⟨rfl, r2, c2⟩
 have hn2 : w2.cell? ⟨w.heap.size, 0, none⟩ = some (.int .i64 n) := by rw [(cells_at r2.bl 0).1]; rfl
 have hb2 : w2.heap[b]? = some (.cells cs ty (0, 0)) := c2.heap (HR.out.2.heap HR.out.1.bl) (by rintro (e | e); exact HR.out.1.ne e.symm; omega)
 have q2 : R1 w2 R a cap (s.take 1).2 b cs ty := ⟨r2.rs, hb2, HR.out.1.ne, by rw [RS.take_bs]; exact HR.out.1.ab⟩
 have cz2 : w2.cell? ⟨b, o, none⟩ = some (.slice none 0 0) := by rw [(cells_at hb2 o).1]; exact hz
 have H2 : Hid (R1 w2 R a cap (s.take 1).2 b cs ty ∧ Chg w w2 (fun k => k = R ∨ k = b) ∧ w.heap.size ≤ w2.heap.size) := ⟨q2, Chg.trans HR.out.2.any c2 (fun i hi e => by rcases e with e | e; exact .inl e; omega), Nat.le_trans HR.out.2.size c2.size⟩
 clear r2 c2 hb2 q2 HR cz
 go_upto_region 2 with fail
 go_quiet (fail)
 by_cases h0 : n = 0
 ·subst h0
  have HY : ∀ m, Hid (∃ la, RX w (w2.drewN m) R a cap (s.take 1).2 b (cs.setIfInBounds o (.slice la 0 0)) ty ∧ NewRow w (w2.drewN m) la 0 98 zQu) := fun m => by
   refine ⟨none, ⟨?_, H2.out.2.1.drewN m⟩, .inl ⟨rfl, rfl⟩⟩
   rw [set_self hz]
   exact H2.out.1.kp (Kp.drewN _ m)
  clear H2 hn2 cz2
  go_wp2
  exact ⟨rfl, _, results_none rfl _ _ _, rfl, (HY _).out⟩
 ·have h0z : ¬ (n : Int) = 0 := by omega
  have hmk := fun w => mk_zQu n (by omega) w
  have HY : ∀ m, Hid (R1 (w2.drewN m) R a cap (s.take 1).2 b cs ty ∧ Chg w (w2.drewN m) (fun k => k = R ∨ k = b) ∧ w.heap.size ≤ w2.heap.size) := fun m => ⟨H2.out.1.kp (Kp.drewN _ m), H2.out.2.1.drewN m, H2.out.2.2⟩
  clear H2
  rename_i nq
  have hY := (HY nq).out
  clear HY
  obtain ⟨w3, hw3⟩ : ∃ w3, w3 = w2.drewN nq := ⟨_, rfl⟩
  have hsz : w3.heap.size = w2.heap.size := by rw [hw3]; rfl
  have c3 : w3.cell? ⟨w.heap.size, 0, none⟩ = some (.int .i64 n) := by rw [hw3]; exact Kp.cell (Kp.drewN _ _) hn2
  rw [← hw3] at hY ⊢
  clear hw3 hn2 cz2
  obtain ⟨q1, q2, q3⟩ := hY
  have k4 := Kp.al w3 (.cells (madeCells zQu (n * zQu.size)) 98)
  have q4 := q1.kp k4
  obtain ⟨u4, hu4⟩ := q4.cell o (Array.getElem?_eq_some_iff.1 hz).1
  have hf4 := q4.fr o
  obtain ⟨q5, c5⟩ := q4.put o (.slice (some ⟨w3.heap.size, 0, none⟩) n n)
  have hnew := c5.heap (heap_alloc_new w3 (.cells (madeCells zQu (n * zQu.size)) 98)) (by show ¬ w3.heap.size = b; omega)
  have HZ : Hid (RX w ((w3.alloc (.cells (madeCells zQu (n * zQu.size)) 98)).setCell ⟨b, o, none⟩ (.slice (some ⟨w3.heap.size, 0, none⟩) n n)) R a cap (s.take 1).2 b (cs.setIfInBounds o (.slice (some ⟨w3.heap.size, 0, none⟩) n n)) ty ∧ NewRow w ((w3.alloc (.cells (madeCells zQu (n * zQu.size)) 98)).setCell ⟨b, o, none⟩ (.slice (some ⟨w3.heap.size, 0, none⟩) n n)) (some ⟨w3.heap.size, 0, none⟩) n 98 zQu) := ⟨⟨q5, Chg.trans (Chg.trans q2 k4.any (fun _ _ e => e)) c5 (fun _ _ e => .inr e)⟩, .inr ⟨by omega, w3.heap.size, rfl, by omega, hnew⟩⟩
  clear q1 q2 q3 q4 q5 k4 c5 hnew hsz
  generalize madeCells zQu (n * zQu.size) = mc at *
  go_wp2
  exact ⟨rfl, _, results_none rfl _ _ _, rfl, _, HZ.out⟩
abbrev zRg : Array Value := #[.int .u32 0, .int .u32 0, .int .i64 0, .int .u8 0]
theorem info_zRg : (Tryz.prog.info? 101).map (fun i => (i.zero, i.size, i.bytes)) = some (some (.agg #[.int .u32 0, .int .u32 0, .int .i64 0, .int .u8 0]), 4, 24) := by kernel_rfl
theorem mk_zRg (n : Nat) (hn : n ≤ 255) (w : World) : (Instr.makeSlice 87 (.int .i64 n) (.int .i64 n)).run Tryz.prog w = .ok (.slice (some ⟨w.heap.size, 0, none⟩) n n) (w.alloc (.cells (madeCells zRg (n * zRg.size)) 101)) := by
 obtain ⟨i0, hi, hz0, hz1, hz2⟩ := info_parts info_zRg
 have := run_make (P := Tryz.prog) w 87 101 i0 (.agg #[.int .u32 0, .int .u32 0, .int .i64 0, .int .u8 0]) Tryz.underlying87 hi hz0 .i64 .i64 n n (by omega) (by omega) (by rw [hz2]; omega) (by omega)
 rw [this, Int.toNat_natCast, hz1]
 rfl
set_option maxRecDepth 10000 in
theorem rcount91 {w : World} {R : Nat} {a : Option Addr} {cap : Nat} {s : RS} {b : Nat} {cs : Array Value} {ty : TypeId} (h : R1 w R a cap s b cs ty) (o : Nat) (hz : cs[o]? = some (.slice none 0 0)) :
  Calls Tryz.prog 91 #[.iface 83 (hR R), .pointer (some ⟨b, o, none⟩)] w fun r w' => r = .returned (.tuple #[]) ∧ ∃ la, RX w w' R a cap (s.take 1).2 b (cs.setIfInBounds o (.slice la (s.num 1) (s.num 1))) ty ∧ NewRow w w' la (s.num 1) 101 zRg := by
 have hlt : s.num 1 < 256 := RS.num_lt s 1 h.rs.rng
 have hbl := hp_lt h.bl
 have hRl := hp_lt h.rs.box
 have hal : ∀ x off, a = some ⟨x, off, none⟩ → 0 < s.bs.length → x < w.heap.size := fun x off e hl => by
  obtain ⟨q1, q2, q3, q4⟩ := h.rs.bytes
  rcases q4 with q4 | ⟨bb, oo, q4, q5⟩
  ·omega
  ·rw [e] at q4; cases q4
   exact lt_of_cell (q5 0 hl)
 have cz : w.cell? ⟨b, o, none⟩ = some (.slice none 0 0) := by rw [(cells_at h.bl o).1]; exact hz
 obtain ⟨w1, hw1⟩ : ∃ w1, w1 = w.alloc (.cells #[.int .i64 0] 3) := ⟨_, rfl⟩
 have k1 : Kp w w1 := by rw [hw1]; exact Kp.al _ _
 have hK : w1.heap[w.heap.size]? = some (.cells #[.int .i64 0] 3 (0, 0)) := by rw [hw1]; exact heap_alloc_new w _
 have rK : R1 w1 R a cap s w.heap.size #[.int .i64 0] 3 := ⟨h.rs.other k1 (fun e => e) (fun _ _ _ _ e => e), hK, by omega, fun x off e hl => by have := hal x off e hl; omega⟩
 have A1 := rbyteOf rK 0 (by simp)
 have HR : Hid (R1 w R a cap s b cs ty ∧ Kp w w1) := ⟨h, k1⟩
 have hm := (mr_byteOf R).m
 clear h k1 hK rK
 generalize hn : s.num 1 = n at *
 clear hn
 go_enter Tryz.func91, Tryz.ntmps91
 go_wp2_with fail
 rw [← hw1]
 clear hw1
 go_at_call 144
 refine A1.mono ?_
 clear A1 hm
 rintro e w2 ⟨rfl, r2, c2⟩
 have hn2 : w2.cell? ⟨w.heap.size, 0, none⟩ = some (.int .i64 n) := by rw [(cells_at r2.bl 0).1]; rfl
 have hb2 : w2.heap[b]? = some (.cells cs ty (0, 0)) := c2.heap (HR.out.2.heap HR.out.1.bl) (by rintro (e | e); exact HR.out.1.ne e.symm; omega)
 have q2 : R1 w2 R a cap (s.take 1).2 b cs ty := ⟨r2.rs, hb2, HR.out.1.ne, by rw [RS.take_bs]; exact HR.out.1.ab⟩
 have cz2 : w2.cell? ⟨b, o, none⟩ = some (.slice none 0 0) := by rw [(cells_at hb2 o).1]; exact hz
 have H2 : Hid (R1 w2 R a cap (s.take 1).2 b cs ty ∧ Chg w w2 (fun k => k = R ∨ k = b) ∧ w.heap.size ≤ w2.heap.size) := ⟨q2, Chg.trans HR.out.2.any c2 (fun i hi e => by rcases e with e | e; exact .inl e; omega), Nat.le_trans HR.out.2.size c2.size⟩
 clear r2 c2 hb2 q2 HR cz
 go_upto_region 2 with fail
 go_quiet (fail)
 by_cases h0 : n = 0
 ·subst h0
  have HY : ∀ m, Hid (∃ la, RX w (w2.drewN m) R a cap (s.take 1).2 b (cs.setIfInBounds o (.slice la 0 0)) ty ∧ NewRow w (w2.drewN m) la 0 101 zRg) := fun m => by
   refine ⟨none, ⟨?_, H2.out.2.1.drewN m⟩, .inl ⟨rfl, rfl⟩⟩
   rw [set_self hz]
   exact H2.out.1.kp (Kp.drewN _ m)
  clear H2 hn2 cz2
  go_wp2
  exact ⟨rfl, _, results_none rfl _ _ _, rfl, (HY _).out⟩
 ·have h0z : ¬ (n : Int) = 0 := by omega
  have hmk := fun w => mk_zRg n (by omega) w
  have HY : ∀ m, Hid (R1 (w2.drewN m) R a cap (s.take 1).2 b cs ty ∧ Chg w (w2.drewN m) (fun k => k = R ∨ k = b) ∧ w.heap.size ≤ w2.heap.size) := fun m => ⟨H2.out.1.kp (Kp.drewN _ m), H2.out.2.1.drewN m, H2.out.2.2⟩
  clear H2
  rename_i nq
  have hY := (HY nq).out
  clear HY
  obtain ⟨w3, hw3⟩ : ∃ w3, w3 = w2.drewN nq := ⟨_, rfl⟩
  have hsz : w3.heap.size = w2.heap.size := by rw [hw3]; rfl
  have c3 : w3.cell? ⟨w.heap.size, 0, none⟩ = some (.int .i64 n) := by rw [hw3]; exact Kp.cell (Kp.drewN _ _) hn2
  rw [← hw3] at hY ⊢
  clear hw3 hn2 cz2
  obtain ⟨q1, q2, q3⟩ := hY
  have k4 := Kp.al w3 (.cells (madeCells zRg (n * zRg.size)) 101)
  have q4 := q1.kp k4
  obtain ⟨u4, hu4⟩ := q4.cell o (Array.getElem?_eq_some_iff.1 hz).1
  have hf4 := q4.fr o
  obtain ⟨q5, c5⟩ := q4.put o (.slice (some ⟨w3.heap.size, 0, none⟩) n n)
  have hnew := c5.heap (heap_alloc_new w3 (.cells (madeCells zRg (n * zRg.size)) 101)) (by show ¬ w3.heap.size = b; omega)
  have HZ : Hid (RX w ((w3.alloc (.cells (madeCells zRg (n * zRg.size)) 101)).setCell ⟨b, o, none⟩ (.slice (some ⟨w3.heap.size, 0, none⟩) n n)) R a cap (s.take 1).2 b (cs.setIfInBounds o (.slice (some ⟨w3.heap.size, 0, none⟩) n n)) ty ∧ NewRow w ((w3.alloc (.cells (madeCells zRg (n * zRg.size)) 101)).setCell ⟨b, o, none⟩ (.slice (some ⟨w3.heap.size, 0, none⟩) n n)) (some ⟨w3.heap.size, 0, none⟩) n 101 zRg) := ⟨⟨q5, Chg.trans (Chg.trans q2 k4.any (fun _ _ e => e)) c5 (fun _ _ e => .inr e)⟩, .inr ⟨by omega, w3.heap.size, rfl, by omega, hnew⟩⟩
  clear q1 q2 q3 q4 q5 k4 c5 hnew hsz
  generalize madeCells zRg (n * zRg.size) = mc at *
  go_wp2
  exact ⟨rfl, _, results_none rfl _ _ _, rfl, _, HZ.out⟩
abbrev zIn : Array Value := #[.int .i64 0]
theorem info_zIn : (Tryz.prog.info? 3).map (fun i => (i.zero, i.size, i.bytes)) = some (some (.int .i64 0), 1, 8) := by kernel_rfl
theorem mk_zIn (n : Nat) (hn : n ≤ 255) (w : World) : (Instr.makeSlice 52 (.int .i64 n) (.int .i64 n)).run Tryz.prog w = .ok (.slice (some ⟨w.heap.size, 0, none⟩) n n) (w.alloc (.cells (madeCells zIn (n * zIn.size)) 3)) := by
 obtain ⟨i0, hi, hz0, hz1, hz2⟩ := info_parts info_zIn
 have := run_make (P := Tryz.prog) w 52 3 i0 (.int .i64 0) Tryz.underlying52 hi hz0 .i64 .i64 n n (by omega) (by omega) (by rw [hz2]; omega) (by omega)
 rw [this, Int.toNat_natCast, hz1]
 rfl
set_option maxRecDepth 10000 in
theorem rcount92 {w : World} {R : Nat} {a : Option Addr} {cap : Nat} {s : RS} {b : Nat} {cs : Array Value} {ty : TypeId} (h : R1 w R a cap s b cs ty) (o : Nat) (hz : cs[o]? = some (.slice none 0 0)) :
  Calls Tryz.prog 92 #[.iface 83 (hR R), .pointer (some ⟨b, o, none⟩)] w fun r w' => r = .returned (.tuple #[]) ∧ ∃ la, RX w w' R a cap (s.take 1).2 b (cs.setIfInBounds o (.slice la (s.num 1) (s.num 1))) ty ∧ NewRow w w' la (s.num 1) 3 zIn := by
 have hlt : s.num 1 < 256 := RS.num_lt s 1 h.rs.rng
 have hbl := hp_lt h.bl
 have hRl := hp_lt h.rs.box
 have hal : ∀ x off, a = some ⟨x, off, none⟩ → 0 < s.bs.length → x < w.heap.size := fun x off e hl => by
  obtain ⟨q1, q2, q3, q4⟩ := h.rs.bytes
  rcases q4 with q4 | ⟨bb, oo, q4, q5⟩
  ·omega
  ·rw [e] at q4; cases q4
   exact lt_of_cell (q5 0 hl)
 have cz : w.cell? ⟨b, o, none⟩ = some (.slice none 0 0) := by rw [(cells_at h.bl o).1]; exact hz
 obtain ⟨w1, hw1⟩ : ∃ w1, w1 = w.alloc (.cells #[.int .i64 0] 3) := ⟨_, rfl⟩
 have k1 : Kp w w1 := by rw [hw1]; exact Kp.al _ _
 have hK : w1.heap[w.heap.size]? = some (.cells #[.int .i64 0] 3 (0, 0)) := by rw [hw1]; exact heap_alloc_new w _
 have rK : R1 w1 R a cap s w.heap.size #[.int .i64 0] 3 := ⟨h.rs.other k1 (fun e => e) (fun _ _ _ _ e => e), hK, by omega, fun x off e hl => by have := hal x off e hl; omega⟩
 have A1 := rbyteOf rK 0 (by simp)
 have HR : Hid (R1 w R a cap s b cs ty ∧ Kp w w1) := ⟨h, k1⟩
 have hm := (mr_byteOf R).m
 clear h k1 hK rK
 generalize hn : s.num 1 = n at *
 clear hn
 go_enter Tryz.func92, Tryz.ntmps92
 go_wp2_with fail
 rw [← hw1]
 clear hw1
 go_at_call 144
 refine A1.mono ?_
 clear A1 hm
 rintro e w2 ⟨rfl, r2, c2⟩
 have hn2 : w2.cell? ⟨w.heap.size, 0, none⟩ = some (.int .i64 n) := by rw [(cells_at r2.bl 0).1]; rfl
 have hb2 : w2.heap[b]? = some (.cells cs ty (0, 0)) := c2.heap (HR.out.2.heap HR.out.1.bl) (by rintro (e | e); exact HR.out.1.ne e.symm; omega)
 have q2 : R1 w2 R a cap (s.take 1).2 b cs ty := ⟨r2.rs, hb2, HR.out.1.ne, by rw [RS.take_bs]; exact HR.out.1.ab⟩
 have cz2 : w2.cell? ⟨b, o, none⟩ = some (.slice none 0 0) := by rw [(cells_at hb2 o).1]; exact hz
 have H2 : Hid (R1 w2 R a cap (s.take 1).2 b cs ty ∧ Chg w w2 (fun k => k = R ∨ k = b) ∧ w.heap.size ≤ w2.heap.size) := ⟨q2, Chg.trans HR.out.2.any c2 (fun i hi e => by rcases e with e | e; exact .inl e; omega), Nat.le_trans HR.out.2.size c2.size⟩
 clear r2 c2 hb2 q2 HR cz
 go_upto_region 2 with fail
 go_quiet (fail)
 by_cases h0 : n = 0
 ·subst h0
  have HY : ∀ m, Hid (∃ la, RX w (w2.drewN m) R a cap (s.take 1).2 b (cs.setIfInBounds o (.slice la 0 0)) ty ∧ NewRow w (w2.drewN m) la 0 3 zIn) := fun m => by
   refine ⟨none, ⟨?_, H2.out.2.1.drewN m⟩, .inl ⟨rfl, rfl⟩⟩
   rw [set_self hz]
   exact H2.out.1.kp (Kp.drewN _ m)
  clear H2 hn2 cz2
  go_wp2
  exact ⟨rfl, _, results_none rfl _ _ _, rfl, (HY _).out⟩
 ·have h0z : ¬ (n : Int) = 0 := by omega
  have hmk := fun w => mk_zIn n (by omega) w
  have HY : ∀ m, Hid (R1 (w2.drewN m) R a cap (s.take 1).2 b cs ty ∧ Chg w (w2.drewN m) (fun k => k = R ∨ k = b) ∧ w.heap.size ≤ w2.heap.size) := fun m => ⟨H2.out.1.kp (Kp.drewN _ m), H2.out.2.1.drewN m, H2.out.2.2⟩
  clear H2
  rename_i nq
  have hY := (HY nq).out
  clear HY
  obtain ⟨w3, hw3⟩ : ∃ w3, w3 = w2.drewN nq := ⟨_, rfl⟩
  have hsz : w3.heap.size = w2.heap.size := by rw [hw3]; rfl
  have c3 : w3.cell? ⟨w.heap.size, 0, none⟩ = some (.int .i64 n) := by rw [hw3]; exact Kp.cell (Kp.drewN _ _) hn2
  rw [← hw3] at hY ⊢
  clear hw3 hn2 cz2
  obtain ⟨q1, q2, q3⟩ := hY
  have k4 := Kp.al w3 (.cells (madeCells zIn (n * zIn.size)) 3)
  have q4 := q1.kp k4
  obtain ⟨u4, hu4⟩ := q4.cell o (Array.getElem?_eq_some_iff.1 hz).1
  have hf4 := q4.fr o
  obtain ⟨q5, c5⟩ := q4.put o (.slice (some ⟨w3.heap.size, 0, none⟩) n n)
  have hnew := c5.heap (heap_alloc_new w3 (.cells (madeCells zIn (n * zIn.size)) 3)) (by show ¬ w3.heap.size = b; omega)
  have HZ : Hid (RX w ((w3.alloc (.cells (madeCells zIn (n * zIn.size)) 3)).setCell ⟨b, o, none⟩ (.slice (some ⟨w3.heap.size, 0, none⟩) n n)) R a cap (s.take 1).2 b (cs.setIfInBounds o (.slice (some ⟨w3.heap.size, 0, none⟩) n n)) ty ∧ NewRow w ((w3.alloc (.cells (madeCells zIn (n * zIn.size)) 3)).setCell ⟨b, o, none⟩ (.slice (some ⟨w3.heap.size, 0, none⟩) n n)) (some ⟨w3.heap.size, 0, none⟩) n 3 zIn) := ⟨⟨q5, Chg.trans (Chg.trans q2 k4.any (fun _ _ e => e)) c5 (fun _ _ e => .inr e)⟩, .inr ⟨by omega, w3.heap.size, rfl, by omega, hnew⟩⟩
  clear q1 q2 q3 q4 q5 k4 c5 hnew hsz
  generalize madeCells zIn (n * zIn.size) = mc at *
  go_wp2
  exact ⟨rfl, _, results_none rfl _ _ _, rfl, _, HZ.out⟩
end Go.Proofs.YtknlpjcdemijgaaGreat
