import Derived.Test.YtkggkkoblpdopaaGreatYb
namespace Go.Proofs.YtkggkkoblpdopaaGreat
open Go.ChangeShapes Go.WideShapes Go.ChangeAt Go.RowKit
set_option linter.unusedVariables false
section
variable {w wi w' : World} {R : Nat} {a : Option Addr} {cap : Nat} {s s' : RS} {b : Nat} {cs cs' : Array Value} {ty : TypeId}
theorem RX.refl (h : R1 w R a cap s b cs ty) : RX w w R a cap s b cs ty := ⟨h, Chg.refl _ _⟩
theorem RX.next (hE : RX w wi R a cap s b cs ty) {F : Nat} {args : Array Value} (C : R1 wi.drew R a cap s b cs ty → Calls Tryz.prog F args wi.drew fun r w' => r = .returned (.tuple #[]) ∧ RX wi.drew w' R a cap s' b cs' ty) :
    Calls Tryz.prog F args wi.drew fun e x1 => e = .returned (.tuple #[]) ∧ True ∧ RX w x1 R a cap s' b cs' ty := by
  refine (C (hE.1.kp (Kp.drew wi))).mono ?_
  rintro r w' ⟨rfl, q⟩
  exact ⟨rfl, trivial, q.1, Chg.trans hE.2 (Chg.trans (Kp.drew wi).any q.2 (fun _ _ e => e)) (fun _ _ e => e)⟩
theorem RX.step (hE : RX w wi R a cap s b cs ty) {F : Nat} {args : Array Value} (C : R1 wi R a cap s b cs ty → Calls Tryz.prog F args wi fun r w' => r = .returned (.tuple #[]) ∧ RX wi w' R a cap s' b cs' ty) :
    Calls Tryz.prog F args wi fun e x1 => e = .returned (.tuple #[]) ∧ RX w x1 R a cap s' b cs' ty := by
  refine (C hE.1).mono ?_
  rintro r w' ⟨rfl, q⟩
  exact ⟨rfl, q.1, Chg.trans hE.2 q.2 (fun _ _ e => e)⟩
end
set_option maxRecDepth 10000 in
theorem rrow0_46 {w : World} {R : Nat} {a : Option Addr} {cap : Nat} {s : RS} {b : Nat} {cs : Array Value} {ty : TypeId} (h : R1 w R a cap s b cs ty) (o : Nat) (hcs : cs[o]? = some (.slice none 0 0)) (h0 : s.num 4 = 0) (fv : Value) :
    Calls Tryz.prog 46 #[.iface 101 (hR R), .pointer (some ⟨b, o, none⟩), fv] w fun r w' => r = .returned (.tuple #[]) ∧ RX w w' R a cap (s.take 4).2 b cs ty := by
  have hbl := hp_lt h.bl
  have hRl := hp_lt h.rs.box
  have hal := h.rs.bytes
  have cL : w.cell? ⟨b, o, none⟩ = some (.slice none 0 0) := by rw [(cells_at h.bl o).1]; exact hcs
  obtain ⟨w1, hw1⟩ : ∃ w1, w1 = w.alloc (.cells #[.int .i64 0] 3) := ⟨_, rfl⟩
  have k1 : Kp w w1 := by rw [hw1]; exact Kp.al _ _
  have hx : w1.heap[w.heap.size]? = some (.cells #[.int .i64 0] 3 (0, 0)) := by rw [hw1]; exact heap_alloc_new w _
  have r1 : R1 w1 R a cap s w.heap.size #[.int .i64 0] 3 := by
    refine ⟨(h.kp k1).rs, hx, by omega, fun x off e hl hxx => ?_⟩
    obtain ⟨q1, q2, q3, q4⟩ := hal
    rcases q4 with q4 | ⟨bb, oo, q4, q5⟩
    · omega
    · rw [e] at q4; cases q4
      have := lt_of_cell (q5 0 hl)
      omega
  have A1 := rwordOf r1 0 (by simp)
  rw [h0] at A1
  have HR : Hid (R1 w R a cap s b cs ty ∧ Kp w w1 ∧ w.heap.size < w1.heap.size) := ⟨h, k1, hp_lt hx⟩
  clear h k1 r1 hx hal
  have hm := (mr_wordOf R).m
  go_enter Tryz.func46, Tryz.ntmps46
  go_wp2_with fail
  rw [← hw1]
  clear hw1
  go_at_call 255
  refine A1.mono ?_
  clear A1 hm cL
  rintro e w2 ⟨rfl, q⟩
  have c2 : w2.cell? ⟨w.heap.size, 0, none⟩ = some (.int .i64 0) := by rw [(cells_at q.1.bl 0).1]; rfl
  have HX : Hid (RX w w2 R a cap (s.take 4).2 b cs ty) := by
    obtain ⟨hr, k1, hs⟩ := HR.out
    have c : Chg w w2 (fun k => k = R) := Chg.trans (Chg.trans k1.any q.2 (S := fun k => k = R ∨ k = w.heap.size) (fun _ _ e => e)) (Chg.refl w2 (fun _ => False)) (fun _ _ e => e.elim) |>.mono (fun k hk e => e.resolve_right (by omega))
    have r2 := hr.read (s' := (s.take 4).2) q.1.rs c (RS.take_bs s 4)
    exact ⟨r2, c.mono (fun _ _ e => .inl e)⟩
  clear HR q
  go_wp2_with fail
  refine wp_loop_rounds 1 ?_
  rw [rounds_succ]
  go_wp2
  exact ⟨rfl, _, results_none rfl _ _ _, rfl, HX.out⟩
set_option maxRecDepth 10000 in
theorem rrow0_49 {w : World} {R : Nat} {a : Option Addr} {cap : Nat} {s : RS} {b : Nat} {cs : Array Value} {ty : TypeId} (h : R1 w R a cap s b cs ty) (o : Nat) (hcs : cs[o]? = some (.slice none 0 0)) (h0 : s.num 4 = 0) (fv : Value) :
    Calls Tryz.prog 49 #[.iface 101 (hR R), .pointer (some ⟨b, o, none⟩), fv] w fun r w' => r = .returned (.tuple #[]) ∧ RX w w' R a cap (s.take 4).2 b cs ty := by
  have hbl := hp_lt h.bl
  have hRl := hp_lt h.rs.box
  have hal := h.rs.bytes
  have cL : w.cell? ⟨b, o, none⟩ = some (.slice none 0 0) := by rw [(cells_at h.bl o).1]; exact hcs
  obtain ⟨w1, hw1⟩ : ∃ w1, w1 = w.alloc (.cells #[.int .i64 0] 3) := ⟨_, rfl⟩
  have k1 : Kp w w1 := by rw [hw1]; exact Kp.al _ _
  have hx : w1.heap[w.heap.size]? = some (.cells #[.int .i64 0] 3 (0, 0)) := by rw [hw1]; exact heap_alloc_new w _
  have r1 : R1 w1 R a cap s w.heap.size #[.int .i64 0] 3 := by
    refine ⟨(h.kp k1).rs, hx, by omega, fun x off e hl hxx => ?_⟩
    obtain ⟨q1, q2, q3, q4⟩ := hal
    rcases q4 with q4 | ⟨bb, oo, q4, q5⟩
    · omega
    · rw [e] at q4; cases q4
      have := lt_of_cell (q5 0 hl)
      omega
  have A1 := rwordOf r1 0 (by simp)
  rw [h0] at A1
  have HR : Hid (R1 w R a cap s b cs ty ∧ Kp w w1 ∧ w.heap.size < w1.heap.size) := ⟨h, k1, hp_lt hx⟩
  clear h k1 r1 hx hal
  have hm := (mr_wordOf R).m
  go_enter Tryz.func49, Tryz.ntmps49
  go_wp2_with fail
  rw [← hw1]
  clear hw1
  go_at_call 255
  refine A1.mono ?_
  clear A1 hm cL
  rintro e w2 ⟨rfl, q⟩
  have c2 : w2.cell? ⟨w.heap.size, 0, none⟩ = some (.int .i64 0) := by rw [(cells_at q.1.bl 0).1]; rfl
  have HX : Hid (RX w w2 R a cap (s.take 4).2 b cs ty) := by
    obtain ⟨hr, k1, hs⟩ := HR.out
    have c : Chg w w2 (fun k => k = R) := Chg.trans (Chg.trans k1.any q.2 (S := fun k => k = R ∨ k = w.heap.size) (fun _ _ e => e)) (Chg.refl w2 (fun _ => False)) (fun _ _ e => e.elim) |>.mono (fun k hk e => e.resolve_right (by omega))
    have r2 := hr.read (s' := (s.take 4).2) q.1.rs c (RS.take_bs s 4)
    exact ⟨r2, c.mono (fun _ _ e => .inl e)⟩
  clear HR q
  go_wp2_with fail
  refine wp_loop_rounds 1 ?_
  rw [rounds_succ]
  go_wp2
  exact ⟨rfl, _, results_none rfl _ _ _, rfl, HX.out⟩
set_option maxRecDepth 10000 in
theorem rrow0_52 {w : World} {R : Nat} {a : Option Addr} {cap : Nat} {s : RS} {b : Nat} {cs : Array Value} {ty : TypeId} (h : R1 w R a cap s b cs ty) (o : Nat) (hcs : cs[o]? = some (.slice none 0 0)) (h0 : s.num 4 = 0) (fv : Value) :
    Calls Tryz.prog 52 #[.iface 101 (hR R), .pointer (some ⟨b, o, none⟩), fv] w fun r w' => r = .returned (.tuple #[]) ∧ RX w w' R a cap (s.take 4).2 b cs ty := by
  have hbl := hp_lt h.bl
  have hRl := hp_lt h.rs.box
  have hal := h.rs.bytes
  have cL : w.cell? ⟨b, o, none⟩ = some (.slice none 0 0) := by rw [(cells_at h.bl o).1]; exact hcs
  obtain ⟨w1, hw1⟩ : ∃ w1, w1 = w.alloc (.cells #[.int .i64 0] 3) := ⟨_, rfl⟩
  have k1 : Kp w w1 := by rw [hw1]; exact Kp.al _ _
  have hx : w1.heap[w.heap.size]? = some (.cells #[.int .i64 0] 3 (0, 0)) := by rw [hw1]; exact heap_alloc_new w _
  have r1 : R1 w1 R a cap s w.heap.size #[.int .i64 0] 3 := by
    refine ⟨(h.kp k1).rs, hx, by omega, fun x off e hl hxx => ?_⟩
    obtain ⟨q1, q2, q3, q4⟩ := hal
    rcases q4 with q4 | ⟨bb, oo, q4, q5⟩
    · omega
    · rw [e] at q4; cases q4
      have := lt_of_cell (q5 0 hl)
      omega
  have A1 := rwordOf r1 0 (by simp)
  rw [h0] at A1
  have HR : Hid (R1 w R a cap s b cs ty ∧ Kp w w1 ∧ w.heap.size < w1.heap.size) := ⟨h, k1, hp_lt hx⟩
  clear h k1 r1 hx hal
  have hm := (mr_wordOf R).m
  go_enter Tryz.func52, Tryz.ntmps52
  go_wp2_with fail
  rw [← hw1]
  clear hw1
  go_at_call 255
  refine A1.mono ?_
  clear A1 hm cL
  rintro e w2 ⟨rfl, q⟩
  have c2 : w2.cell? ⟨w.heap.size, 0, none⟩ = some (.int .i64 0) := by rw [(cells_at q.1.bl 0).1]; rfl
  have HX : Hid (RX w w2 R a cap (s.take 4).2 b cs ty) := by
    obtain ⟨hr, k1, hs⟩ := HR.out
    have c : Chg w w2 (fun k => k = R) := Chg.trans (Chg.trans k1.any q.2 (S := fun k => k = R ∨ k = w.heap.size) (fun _ _ e => e)) (Chg.refl w2 (fun _ => False)) (fun _ _ e => e.elim) |>.mono (fun k hk e => e.resolve_right (by omega))
    have r2 := hr.read (s' := (s.take 4).2) q.1.rs c (RS.take_bs s 4)
    exact ⟨r2, c.mono (fun _ _ e => .inl e)⟩
  clear HR q
  go_wp2_with fail
  refine wp_loop_rounds 1 ?_
  rw [rounds_succ]
  go_wp2
  exact ⟨rfl, _, results_none rfl _ _ _, rfl, HX.out⟩
set_option maxRecDepth 10000 in
theorem rrow0_55 {w : World} {R : Nat} {a : Option Addr} {cap : Nat} {s : RS} {b : Nat} {cs : Array Value} {ty : TypeId} (h : R1 w R a cap s b cs ty) (o : Nat) (hcs : cs[o]? = some (.slice none 0 0)) (h0 : s.num 4 = 0) (fv : Value) :
    Calls Tryz.prog 55 #[.iface 101 (hR R), .pointer (some ⟨b, o, none⟩), fv] w fun r w' => r = .returned (.tuple #[]) ∧ RX w w' R a cap (s.take 4).2 b cs ty := by
  have hbl := hp_lt h.bl
  have hRl := hp_lt h.rs.box
  have hal := h.rs.bytes
  have cL : w.cell? ⟨b, o, none⟩ = some (.slice none 0 0) := by rw [(cells_at h.bl o).1]; exact hcs
  obtain ⟨w1, hw1⟩ : ∃ w1, w1 = w.alloc (.cells #[.int .i64 0] 3) := ⟨_, rfl⟩
  have k1 : Kp w w1 := by rw [hw1]; exact Kp.al _ _
  have hx : w1.heap[w.heap.size]? = some (.cells #[.int .i64 0] 3 (0, 0)) := by rw [hw1]; exact heap_alloc_new w _
  have r1 : R1 w1 R a cap s w.heap.size #[.int .i64 0] 3 := by
    refine ⟨(h.kp k1).rs, hx, by omega, fun x off e hl hxx => ?_⟩
    obtain ⟨q1, q2, q3, q4⟩ := hal
    rcases q4 with q4 | ⟨bb, oo, q4, q5⟩
    · omega
    · rw [e] at q4; cases q4
      have := lt_of_cell (q5 0 hl)
      omega
  have A1 := rwordOf r1 0 (by simp)
  rw [h0] at A1
  have HR : Hid (R1 w R a cap s b cs ty ∧ Kp w w1 ∧ w.heap.size < w1.heap.size) := ⟨h, k1, hp_lt hx⟩
  clear h k1 r1 hx hal
  have hm := (mr_wordOf R).m
  go_enter Tryz.func55, Tryz.ntmps55
  go_wp2_with fail
  rw [← hw1]
  clear hw1
  go_at_call 255
  refine A1.mono ?_
  clear A1 hm cL
  rintro e w2 ⟨rfl, q⟩
  have c2 : w2.cell? ⟨w.heap.size, 0, none⟩ = some (.int .i64 0) := by rw [(cells_at q.1.bl 0).1]; rfl
  have HX : Hid (RX w w2 R a cap (s.take 4).2 b cs ty) := by
    obtain ⟨hr, k1, hs⟩ := HR.out
    have c : Chg w w2 (fun k => k = R) := Chg.trans (Chg.trans k1.any q.2 (S := fun k => k = R ∨ k = w.heap.size) (fun _ _ e => e)) (Chg.refl w2 (fun _ => False)) (fun _ _ e => e.elim) |>.mono (fun k hk e => e.resolve_right (by omega))
    have r2 := hr.read (s' := (s.take 4).2) q.1.rs c (RS.take_bs s 4)
    exact ⟨r2, c.mono (fun _ _ e => .inl e)⟩
  clear HR q
  go_wp2_with fail
  refine wp_loop_rounds 1 ?_
  rw [rounds_succ]
  go_wp2
  exact ⟨rfl, _, results_none rfl _ _ _, rfl, HX.out⟩
set_option maxRecDepth 10000 in
theorem rrow0_59 {w : World} {R : Nat} {a : Option Addr} {cap : Nat} {s : RS} {b : Nat} {cs : Array Value} {ty : TypeId} (h : R1 w R a cap s b cs ty) (o : Nat) (hcs : cs[o]? = some (.slice none 0 0)) (h0 : s.num 4 = 0) (fv : Value) :
    Calls Tryz.prog 59 #[.iface 101 (hR R), .pointer (some ⟨b, o, none⟩), fv] w fun r w' => r = .returned (.tuple #[]) ∧ RX w w' R a cap (s.take 4).2 b cs ty := by
  have hbl := hp_lt h.bl
  have hRl := hp_lt h.rs.box
  have hal := h.rs.bytes
  have cL : w.cell? ⟨b, o, none⟩ = some (.slice none 0 0) := by rw [(cells_at h.bl o).1]; exact hcs
  obtain ⟨w1, hw1⟩ : ∃ w1, w1 = w.alloc (.cells #[.int .i64 0] 3) := ⟨_, rfl⟩
  have k1 : Kp w w1 := by rw [hw1]; exact Kp.al _ _
  have hx : w1.heap[w.heap.size]? = some (.cells #[.int .i64 0] 3 (0, 0)) := by rw [hw1]; exact heap_alloc_new w _
  have r1 : R1 w1 R a cap s w.heap.size #[.int .i64 0] 3 := by
    refine ⟨(h.kp k1).rs, hx, by omega, fun x off e hl hxx => ?_⟩
    obtain ⟨q1, q2, q3, q4⟩ := hal
    rcases q4 with q4 | ⟨bb, oo, q4, q5⟩
    · omega
    · rw [e] at q4; cases q4
      have := lt_of_cell (q5 0 hl)
      omega
  have A1 := rwordOf r1 0 (by simp)
  rw [h0] at A1
  have HR : Hid (R1 w R a cap s b cs ty ∧ Kp w w1 ∧ w.heap.size < w1.heap.size) := ⟨h, k1, hp_lt hx⟩
  clear h k1 r1 hx hal
  have hm := (mr_wordOf R).m
  go_enter Tryz.func59, Tryz.ntmps59
  go_wp2_with fail
  rw [← hw1]
  clear hw1
  go_at_call 255
  refine A1.mono ?_
  clear A1 hm cL
  rintro e w2 ⟨rfl, q⟩
  have c2 : w2.cell? ⟨w.heap.size, 0, none⟩ = some (.int .i64 0) := by rw [(cells_at q.1.bl 0).1]; rfl
  have HX : Hid (RX w w2 R a cap (s.take 4).2 b cs ty) := by
    obtain ⟨hr, k1, hs⟩ := HR.out
    have c : Chg w w2 (fun k => k = R) := Chg.trans (Chg.trans k1.any q.2 (S := fun k => k = R ∨ k = w.heap.size) (fun _ _ e => e)) (Chg.refl w2 (fun _ => False)) (fun _ _ e => e.elim) |>.mono (fun k hk e => e.resolve_right (by omega))
    have r2 := hr.read (s' := (s.take 4).2) q.1.rs c (RS.take_bs s 4)
    exact ⟨r2, c.mono (fun _ _ e => .inl e)⟩
  clear HR q
  go_wp2_with fail
  refine wp_loop_rounds 1 ?_
  rw [rounds_succ]
  go_wp2
  exact ⟨rfl, _, results_none rfl _ _ _, rfl, HX.out⟩
set_option maxRecDepth 10000 in
theorem rrow0_62 {w : World} {R : Nat} {a : Option Addr} {cap : Nat} {s : RS} {b : Nat} {cs : Array Value} {ty : TypeId} (h : R1 w R a cap s b cs ty) (o : Nat) (hcs : cs[o]? = some (.slice none 0 0)) (h0 : s.num 4 = 0) (fv : Value) :
    Calls Tryz.prog 62 #[.iface 101 (hR R), .pointer (some ⟨b, o, none⟩), fv] w fun r w' => r = .returned (.tuple #[]) ∧ RX w w' R a cap (s.take 4).2 b cs ty := by
  have hbl := hp_lt h.bl
  have hRl := hp_lt h.rs.box
  have hal := h.rs.bytes
  have cL : w.cell? ⟨b, o, none⟩ = some (.slice none 0 0) := by rw [(cells_at h.bl o).1]; exact hcs
  obtain ⟨w1, hw1⟩ : ∃ w1, w1 = w.alloc (.cells #[.int .i64 0] 3) := ⟨_, rfl⟩
  have k1 : Kp w w1 := by rw [hw1]; exact Kp.al _ _
  have hx : w1.heap[w.heap.size]? = some (.cells #[.int .i64 0] 3 (0, 0)) := by rw [hw1]; exact heap_alloc_new w _
  have r1 : R1 w1 R a cap s w.heap.size #[.int .i64 0] 3 := by
    refine ⟨(h.kp k1).rs, hx, by omega, fun x off e hl hxx => ?_⟩
    obtain ⟨q1, q2, q3, q4⟩ := hal
    rcases q4 with q4 | ⟨bb, oo, q4, q5⟩
    · omega
    · rw [e] at q4; cases q4
      have := lt_of_cell (q5 0 hl)
      omega
  have A1 := rwordOf r1 0 (by simp)
  rw [h0] at A1
  have HR : Hid (R1 w R a cap s b cs ty ∧ Kp w w1 ∧ w.heap.size < w1.heap.size) := ⟨h, k1, hp_lt hx⟩
  clear h k1 r1 hx hal
  have hm := (mr_wordOf R).m
  go_enter Tryz.func62, Tryz.ntmps62
  go_wp2_with fail
  rw [← hw1]
  clear hw1
  go_at_call 255
  refine A1.mono ?_
  clear A1 hm cL
  rintro e w2 ⟨rfl, q⟩
  have c2 : w2.cell? ⟨w.heap.size, 0, none⟩ = some (.int .i64 0) := by rw [(cells_at q.1.bl 0).1]; rfl
  have HX : Hid (RX w w2 R a cap (s.take 4).2 b cs ty) := by
    obtain ⟨hr, k1, hs⟩ := HR.out
    have c : Chg w w2 (fun k => k = R) := Chg.trans (Chg.trans k1.any q.2 (S := fun k => k = R ∨ k = w.heap.size) (fun _ _ e => e)) (Chg.refl w2 (fun _ => False)) (fun _ _ e => e.elim) |>.mono (fun k hk e => e.resolve_right (by omega))
    have r2 := hr.read (s' := (s.take 4).2) q.1.rs c (RS.take_bs s 4)
    exact ⟨r2, c.mono (fun _ _ e => .inl e)⟩
  clear HR q
  go_wp2_with fail
  refine wp_loop_rounds 1 ?_
  rw [rounds_succ]
  go_wp2
  exact ⟨rfl, _, results_none rfl _ _ _, rfl, HX.out⟩
set_option maxRecDepth 10000 in
theorem rrow0_65 {w : World} {R : Nat} {a : Option Addr} {cap : Nat} {s : RS} {b : Nat} {cs : Array Value} {ty : TypeId} (h : R1 w R a cap s b cs ty) (o : Nat) (hcs : cs[o]? = some (.slice none 0 0)) (h0 : s.num 4 = 0) (fv : Value) :
    Calls Tryz.prog 65 #[.iface 101 (hR R), .pointer (some ⟨b, o, none⟩), fv] w fun r w' => r = .returned (.tuple #[]) ∧ RX w w' R a cap (s.take 4).2 b cs ty := by
  have hbl := hp_lt h.bl
  have hRl := hp_lt h.rs.box
  have hal := h.rs.bytes
  have cL : w.cell? ⟨b, o, none⟩ = some (.slice none 0 0) := by rw [(cells_at h.bl o).1]; exact hcs
  obtain ⟨w1, hw1⟩ : ∃ w1, w1 = w.alloc (.cells #[.int .i64 0] 3) := ⟨_, rfl⟩
  have k1 : Kp w w1 := by rw [hw1]; exact Kp.al _ _
  have hx : w1.heap[w.heap.size]? = some (.cells #[.int .i64 0] 3 (0, 0)) := by rw [hw1]; exact heap_alloc_new w _
  have r1 : R1 w1 R a cap s w.heap.size #[.int .i64 0] 3 := by
    refine ⟨(h.kp k1).rs, hx, by omega, fun x off e hl hxx => ?_⟩
    obtain ⟨q1, q2, q3, q4⟩ := hal
    rcases q4 with q4 | ⟨bb, oo, q4, q5⟩
    · omega
    · rw [e] at q4; cases q4
      have := lt_of_cell (q5 0 hl)
      omega
  have A1 := rwordOf r1 0 (by simp)
  rw [h0] at A1
  have HR : Hid (R1 w R a cap s b cs ty ∧ Kp w w1 ∧ w.heap.size < w1.heap.size) := ⟨h, k1, hp_lt hx⟩
  clear h k1 r1 hx hal
  have hm := (mr_wordOf R).m
  go_enter Tryz.func65, Tryz.ntmps65
  go_wp2_with fail
  rw [← hw1]
  clear hw1
  go_at_call 255
  refine A1.mono ?_
  clear A1 hm cL
  rintro e w2 ⟨rfl, q⟩
  have c2 : w2.cell? ⟨w.heap.size, 0, none⟩ = some (.int .i64 0) := by rw [(cells_at q.1.bl 0).1]; rfl
  have HX : Hid (RX w w2 R a cap (s.take 4).2 b cs ty) := by
    obtain ⟨hr, k1, hs⟩ := HR.out
    have c : Chg w w2 (fun k => k = R) := Chg.trans (Chg.trans k1.any q.2 (S := fun k => k = R ∨ k = w.heap.size) (fun _ _ e => e)) (Chg.refl w2 (fun _ => False)) (fun _ _ e => e.elim) |>.mono (fun k hk e => e.resolve_right (by omega))
    have r2 := hr.read (s' := (s.take 4).2) q.1.rs c (RS.take_bs s 4)
    exact ⟨r2, c.mono (fun _ _ e => .inl e)⟩
  clear HR q
  go_wp2_with fail
  refine wp_loop_rounds 1 ?_
  rw [rounds_succ]
  go_wp2
  exact ⟨rfl, _, results_none rfl _ _ _, rfl, HX.out⟩
end Go.Proofs.YtkggkkoblpdopaaGreat
