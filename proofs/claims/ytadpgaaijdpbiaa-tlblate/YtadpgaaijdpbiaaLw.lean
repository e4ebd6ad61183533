import Derived.Test.YtadpgaaijdpbiaaLx
import Derived.Deep.CutBlock
import Derived.Sort.QuietIn
import Derived.Sort.CutIn
import Derived.Deep.CutRange
namespace Go.Proofs.Ytadpgaaijdpbiaa
open Go.ChangeShapes Go.WideShapes Go.ChangeAt Go.RowKit Go.Shelf
set_option linter.unusedVariables false
attribute [local go_sem] Oper.semAt_some
theorem run_store_fn {P : Program} {w : World} {a : Addr} {m : Mode} (fn : Fn) (first captured : Array Value) : (store a (.func fn first captured) m).run P w = stored P w a (.func fn first captured) m := run_store P w a _ m rfl
attribute [local go_sem] run_store_fn

/-- What the boxes hold. -/
def H0 (w : World) (a1 : Option Addr) (l1 c1 b3 b4 b6 b8 bq B : Nat) : HL := [(b3, .cells #[.slice a1 l1 c1] 41 (0, 0)), (b4, .cells #[.bool false] 4 (0, 0)), (b6, .cells #[.pointer (some ⟨B, 0, none⟩)] 26 (0, 0)), (b8, .cells #[.func (.func 37) #[] #[.pointer (some ⟨bq, 0, none⟩)]] 53 (0, 0)), (bq, .cells #[.pointer (some ⟨B, 0, none⟩)] 26 (0, 0))]
def Su11 (b6 B b0 o : Nat) (y0 y1 y2 : Int) (wx : World) : Prop := wx.cell? ⟨b6, 0, none⟩ = some (.pointer (some ⟨B, 0, none⟩)) ∧ wx.cell? ⟨b0, o, none⟩ = some (.int .i64 y0) ∧ wx.cell? ⟨b0, o + 1, none⟩ = some (.int .i64 y1) ∧ wx.cell? ⟨b0, o + 2, none⟩ = some (.int .i64 y2)
def Su22 (b6 B b3 b0 off0 l1 c1 o : Nat) (y0 y1 y2 : Int) (wx : World) : Prop := wx.cell? ⟨b6, 0, none⟩ = some (.pointer (some ⟨B, 0, none⟩)) ∧ wx.cell? ⟨b3, 0, none⟩ = some (.slice (some ⟨b0, off0, none⟩) l1 c1) ∧ wx.cell? ⟨b0, o, none⟩ = some (.int .i64 y0) ∧ wx.cell? ⟨b0, o + 1, none⟩ = some (.int .i64 y1) ∧ wx.cell? ⟨b0, o + 2, none⟩ = some (.int .i64 y2)
theorem fn_nil_no (g : Nat) (cs lb : Array Value) (w : World) : (binOp BinOp.eql 53 (.func (.func g) cs lb) Value.nilFunc).run Try.prog w = .ok (.bool false) w := by kernel_rfl

set_option maxHeartbeats 4000000 in
set_option maxRecDepth 100000 in
theorem late_walk (w : World) (a a1 : Option Addr) (la ca l1 c1 : Nat) (F G : Nat → Int × Int × Int) (hU : UsesIn w a la ca F) (hV : UsesIn w a1 l1 c1 G) :
    Calls Try.prog 6 #[.slice a la ca, .slice a1 l1 c1] w fun e w' => e = .returned (.bool true) ∧ Below w.heap.size w w' := by
  have hN : ∀ w, Calls Try.prog 11 #[.int .i64 8] w _ := fun w => New_any w 8 (by omega) (by omega)
  have KU : Hid (UsesIn w a la ca F) := hU
  have KV : Hid (UsesIn w a1 l1 c1 G) := hV
  have hlen := hU.le
  have hlenV := hV.le
  clear hU hV
  refine (callsIn_wide (n := 8)).1 ?_
  refine callsIn_of_wp_marks Try.func6 rfl trivial ?_ rfl
  simp only [Try.ntmps6, List.size_toArray, List.length_cons, List.length_nil, Nat.reduceAdd, Nat.reduceSub, Array.replicate_succ, Array.replicate_zero, List.push_toArray, List.append_toArray, List.nil_append, List.cons_append]
  refine wpIn_wide.2 ?_
  go_upto_region 1 with fail
  obtain ⟨W0, hW0⟩ : ∃ W, W = (w.alloc (.cells #[.slice a1 l1 c1] 41)).alloc (.cells #[.bool false] 4) := ⟨_, rfl⟩
  obtain ⟨b3, hb3⟩ : ∃ b, b = w.heap.size := ⟨_, rfl⟩
  obtain ⟨b4, hb4⟩ : ∃ b, b = w.heap.size + 1 := ⟨_, rfl⟩
  have k0 : Kp w W0 := by rw [hW0]; exact ((Chg.refl w _).alloc _).alloc _
  have x3 : W0.heap[b3]? = some (.cells #[.slice a1 l1 c1] 41 (0, 0)) := by rw [hW0, hb3]; exact al_old _ (heap_alloc_new w _)
  have x4 : W0.heap[b4]? = some (.cells #[.bool false] 4 (0, 0)) := by
    have := heap_alloc_new (w.alloc (.cells #[.slice a1 l1 c1] 41)) (.cells #[.bool false] 4)
    rw [al_size] at this
    rw [hW0, hb4]; exact this
  rw [← hW0, ← hb4, ← hb3]
  have HX : Hid (Kp w W0 ∧ W0.heap[b3]? = some (.cells #[.slice a1 l1 c1] 41 (0, 0)) ∧ W0.heap[b4]? = some (.cells #[.bool false] 4 (0, 0)) ∧ w.heap.size ≤ b3 ∧ w.heap.size ≤ b4 ∧ b3 < b4) := ⟨k0, x3, x4, by omega, by omega, by omega⟩
  clear hW0 k0 x3 x4 hb3 hb4
  go_wp2_with fail
  go_at_call 9
  refine (works_any W0).mono ?_
  rintro e W1 ⟨rfl, hk1⟩
  go_wp2_with fail
  go_at_call 11
  refine (hN _).mono ?_
  rintro e W2 ⟨rfl, hT2, hk2⟩
  obtain ⟨B, hB⟩ : ∃ B, B = W1.heap.size + 1 := ⟨_, rfl⟩
  obtain ⟨M, hM⟩ : ∃ M, M = W1.heap.size := ⟨_, rfl⟩
  rw [← hB, ← hM] at hT2
  go_upto_region 3 with fail
  obtain ⟨W3, hW3⟩ : ∃ W, W = W2.alloc (.cells #[.pointer (some ⟨W1.heap.size + 1, 0, none⟩)] 26) := ⟨_, rfl⟩
  obtain ⟨b6, hb6⟩ : ∃ b, b = W2.heap.size := ⟨_, rfl⟩
  rw [← hW3, ← hb6, ← hB]
  rw [← hB] at hW3
  have k3 : Kp W2 W3 := by rw [hW3]; exact (Chg.refl W2 _).alloc _
  have x6 : W3.heap[b6]? = some (.cells #[.pointer (some ⟨B, 0, none⟩)] 26 (0, 0)) := by rw [hW3, hb6]; exact heap_alloc_new W2 _
  obtain ⟨c6, _⟩ := cells_at x6 0
  have c6' : W3.cell? ⟨b6, 0, none⟩ = some (.pointer (some ⟨B, 0, none⟩)) := c6
  have hAll := All_any W3 B
  have HY : Hid (Kp W0 W1 ∧ Kp W1 W2 ∧ Kp W2 W3 ∧ IsT W2 B M (.slice none 0 0) 8 0 Sta.none ∧ B = W1.heap.size + 1 ∧ M = W1.heap.size ∧ W3.heap[b6]? = some (.cells #[.pointer (some ⟨B, 0, none⟩)] 26 (0, 0)) ∧ b6 = W2.heap.size) := ⟨hk1, hk2, k3, hT2, hB, hM, x6, hb6⟩
  clear hk1 hk2 k3 hT2 hB hM x6 hb6 hW3 c6 hN
  go_wp2_with fail
  go_at_call 20
  refine hAll.mono ?_
  rintro e W4 ⟨rfl, hW4⟩
  obtain ⟨bq, hbq⟩ : ∃ b, b = W3.heap.size := ⟨_, rfl⟩
  have k4 : Kp W3 W4 := by rw [hW4]; exact (Chg.refl W3 _).alloc _
  have xq : W4.heap[bq]? = some (.cells #[.pointer (some ⟨B, 0, none⟩)] 26 (0, 0)) := by rw [hW4, hbq]; exact heap_alloc_new W3 _
  have hs4 : W4.heap.size = bq + 1 := by rw [hW4, hbq]; simp
  have HQ : Hid (bq = W3.heap.size ∧ W4.heap.size = bq + 1) := ⟨hbq, hs4⟩
  clear hW4 hAll hbq hs4
  go_upto_region 6 with fail
  obtain ⟨hbq, hs4⟩ := HQ.out
  obtain ⟨W5, hW5⟩ : ∃ W, W = W4.alloc (.cells #[.func (.func 37) #[] #[.pointer (some ⟨W3.heap.size, 0, none⟩)]] 53) := ⟨_, rfl⟩
  obtain ⟨b8, hb8⟩ : ∃ b, b = W4.heap.size := ⟨_, rfl⟩
  rw [← hW5, ← hb8, ← hbq]
  rw [← hbq] at hW5
  have k5 : Kp W4 W5 := by rw [hW5]; exact (Chg.refl W4 _).alloc _
  have x8 : W5.heap[b8]? = some (.cells #[.func (.func 37) #[] #[.pointer (some ⟨bq, 0, none⟩)]] 53 (0, 0)) := by rw [hW5, hb8]; exact heap_alloc_new W4 _
  have KL : Hid (Lx w W5 B M (.slice none 0 0) 8 0 Sta.none (H0 w a1 l1 c1 b3 b4 b6 b8 bq B) (fun _ => False)) := by
    obtain ⟨q1, q2, q3, q4, q5, q6, q7, q8⟩ := HY.out
    obtain ⟨r1, r2, r3, r4, r5⟩ := HX.out
    have hT5 : IsT W5 B M (.slice none 0 0) 8 0 Sta.none := ((q4.kp q3).kp k4).kp k5
    have z1 := q1.size
    have z2 := q2.size
    have z3 := q3.size
    have z0 := r1.size
    have y3 := Hs.lt (H := [(b3, _)]) (W := W0) (fun p hp => by rw [List.mem_singleton.1 hp]; exact r2) (List.mem_singleton.2 rfl)
    have y4 := Hs.lt (H := [(b4, _)]) (W := W0) (fun p hp => by rw [List.mem_singleton.1 hp]; exact r3) (List.mem_singleton.2 rfl)
    have y6 := Hs.lt (H := [(b6, _)]) (W := W3) (fun p hp => by rw [List.mem_singleton.1 hp]; exact q7) (List.mem_singleton.2 rfl)
    have yB := q4.lt (.inl rfl)
    have yM := q4.lt (.inr (.inl rfl))
    refine ⟨hT5, Kp.trans (Kp.trans (Kp.trans (Kp.trans (Kp.trans r1 q1) q2) q3) k4) k5, fun i hi => ?_, ?_, ?_, fun _ h => h.elim, fun _ h => h.elim⟩
    · rcases hi with e | e | e
      · omega
      · omega
      · cases e
    · intro p hp
      simp only [H0, List.mem_cons, List.not_mem_nil, or_false] at hp
      rcases hp with rfl | rfl | rfl | rfl | rfl
      · exact k5.heap (k4.heap (q3.heap (q2.heap (q1.heap r2))))
      · exact k5.heap (k4.heap (q3.heap (q2.heap (q1.heap r3))))
      · exact k5.heap (k4.heap q7)
      · exact x8
      · exact k5.heap xq
    · intro p hp hf
      simp only [H0, List.mem_cons, List.not_mem_nil, or_false] at hp
      rcases hf with e | e | e
      · rcases hp with rfl | rfl | rfl | rfl | rfl <;> simp at e y3 y4 y6 <;> omega
      · rcases hp with rfl | rfl | rfl | rfl | rfl <;> simp at e y3 y4 y6 <;> omega
      · cases e
  have KB : Hid (w.heap.size ≤ b3 ∧ w.heap.size ≤ b4 ∧ b3 < b4 ∧ b4 < b6 ∧ b6 < bq ∧ bq < b8) := by
    obtain ⟨q1, q2, q3, q4, q5, q6, q7, q8⟩ := HY.out
    obtain ⟨r1, r2, r3, r4, r5, r6⟩ := HX.out
    have z1 := q1.size
    have z2 := q2.size
    have z3 := q3.size
    have y4 := Hs.lt (H := [(b4, _)]) (W := W0) (fun p hp => by rw [List.mem_singleton.1 hp]; exact r3) (List.mem_singleton.2 rfl)
    have y6 := Hs.lt (H := [(b6, _)]) (W := W3) (fun p hp => by rw [List.mem_singleton.1 hp]; exact q7) (List.mem_singleton.2 rfl)
    simp at y4 y6
    exact ⟨r4, r5, r6, by omega, by omega, by omega⟩
  have c8 : W5.cell? ⟨b8, 0, none⟩ = some (.func (.func 37) #[] #[.pointer (some ⟨bq, 0, none⟩)]) := by rw [(cells_at x8 _).1]; rfl
  have hnil := fun W => fn_nil_no 37 #[] #[.pointer (some ⟨bq, 0, none⟩)] W
  clear HX HY k4 k5 xq x8 hW5 hb8 hbq hs4 c6' HQ
  go_upto_block 0 with fail
  go_cut [9] from 45 to 64 (fun s9 wx => ∃ (v : Value) (s : Sta) (k : Nat), k ≤ 100 ∧ Hid (Lx w wx B M v 8 k s (H0 w a1 l1 c1 b3 b4 b6 b8 bq B) (fun _ => False)))
  case first =>
    go_wp2_with fail
    go_loopw [9] (fun s9 wr => ∃ (v : Value) (s : Sta) (k j : Nat), s9 = .int .i64 j ∧ j ≤ la ∧ j ≤ 100 ∧ k ≤ j ∧ Hid (Lx w wr B M v 8 k s (H0 w a1 l1 c1 b3 b4 b6 b8 bq B) (fun _ => False))) (fun s9 _ => 100 - (intOf s9).toNat)
    case atStart => exact ⟨.slice none 0 0, Sta.none, 0, 0, rfl, by omega, by omega, by omega, KL⟩
    case round =>
      clear KL c8 hnil
      obtain ⟨v, s, k, j, rfl, hjl, hj3, hkj, HI⟩ := hrel
      by_cases hj1 : j < la
      · have hz1 : (j : Int) < (la : Int) := by omega
        by_cases hj2 : j < 100
        · have hz2 : (j : Int) < 100 := by omega
          obtain ⟨b0, off0, hab, hb0, hcells⟩ := KU.out.src.resolve_left (by omega)
          subst hab
          have huo := KU.out.ok j hj1
          obtain ⟨u0, u1, u2⟩ := hcells j hj1
          have htk : TOk (uTag (F j)) := uTag_ok _
          have hTag := tag_any wr.drew (F j) huo
          unfold uV tV at hTag
          generalize uTag (F j) = t at hTag htk
          generalize (F j).1 = y0 at hTag u0
          generalize (F j).2.1 = y1 at hTag u1
          generalize (F j).2.2 = y2 at hTag u2
          have hS1 : Su11 b6 B b0 (off0 + j * 3) y0 y1 y2 wr.drew := by
            have h6 := HI.out.hs (b6, .cells #[.pointer (some ⟨B, 0, none⟩)] 26 (0, 0)) (by simp [H0])
            exact ⟨by show wr.cell? _ = _; rw [(cells_at h6 _).1]; rfl, Kp.cell HI.out.kp u0, Kp.cell HI.out.kp u1, Kp.cell HI.out.kp u2⟩
          have w32 : IntKind.u32.wrap (j : Int) = (j : Int) := by simp [IntKind.wrap, IntKind.bits, IntKind.signed]; omega
          clear hcells huo u0 u1 u2
          go_wp2_with fail
          refine wp_ok ?_
          refine wp_region_held_drew (S := Su11 b6 B b0 (off0 + j * 3) y0 y1 y2) hmx hS1 (fun hS => ?_)
          refine wpAnyH_take (i := 0) (oi := { dst := some 55, op := Go.Op.load 26 (Go.Operand.tmp 6), type := 26, pos := "law.go:441", after := #[], guard := none }) (v := .pointer (some ⟨B, 0, none⟩)) rfl (by kernel_rfl) (by kernel_rfl) (by kernel_rfl) (fun _ _ _ h => h) (Or.inl ⟨by rfl, ?_⟩) hS ?_
          · rintro wx ⟨d0, d1, d2, d3⟩
            go_simp
          simp only [Act.put, List.setIfInBounds_toArray, List.set_cons_zero, List.set_cons_succ]
          refine wpAnyH_take (i := 1) (oi := { dst := some 56, op := Go.Op.move (Go.Operand.tmp 0), type := 41, pos := "law.go:441", after := #[], guard := none }) (v := .slice (some ⟨b0, off0, none⟩) la ca) rfl (by kernel_rfl) (by kernel_rfl) (by kernel_rfl) (fun _ _ _ h => h) (Or.inl ⟨by rfl, ?_⟩) hS ?_
          · rintro wx ⟨d0, d1, d2, d3⟩
            go_simp
          simp only [Act.put, List.setIfInBounds_toArray, List.set_cons_zero, List.set_cons_succ]
          refine wpAnyH_take (i := 2) (oi := { dst := some 57, op := Go.Op.move (Go.Operand.tmp 9), type := 3, pos := "law.go:441", after := #[], guard := none }) (v := .int .i64 ((j : Nat) : Int)) rfl (by kernel_rfl) (by kernel_rfl) (by kernel_rfl) (fun _ _ _ h => h) (Or.inl ⟨by rfl, ?_⟩) hS ?_
          · rintro wx ⟨d0, d1, d2, d3⟩
            go_simp
          simp only [Act.put, List.setIfInBounds_toArray, List.set_cons_zero, List.set_cons_succ]
          refine wpAnyH_take (i := 3) (oi := { dst := some 58, op := Go.Op.indexAddr 41 (Go.Operand.tmp 56) (Go.Operand.tmp 57), type := 0, pos := "law.go:441", after := #[{ on := 1, ground := Go.Ground.data }, { on := 2, ground := Go.Ground.data }], guard := none }) (v := .pointer (some ⟨b0, off0 + j * 3, none⟩)) rfl (by kernel_rfl) (by kernel_rfl) (by kernel_rfl) (fun _ _ _ h => h) (Or.inl ⟨by rfl, ?_⟩) hS ?_
          · rintro wx ⟨d0, d1, d2, d3⟩
            go_simp
          simp only [Act.put, List.setIfInBounds_toArray, List.set_cons_zero, List.set_cons_succ]
          refine wpAnyH_take (i := 4) (oi := { dst := some 59, op := Go.Op.load 44 (Go.Operand.tmp 58), type := 44, pos := "law.go:441", after := #[{ on := 3, ground := Go.Ground.data }], guard := none }) (v := .agg #[.int .i64 y0, .int .i64 y1, .int .i64 y2]) rfl (by kernel_rfl) (by kernel_rfl) (by kernel_rfl) (fun _ _ _ h => h) (Or.inl ⟨by rfl, ?_⟩) hS ?_
          · rintro wx ⟨d0, d1, d2, d3⟩
            go_simp
          simp only [Act.put, List.setIfInBounds_toArray, List.set_cons_zero, List.set_cons_succ]
          refine wpAnyH_take (i := 6) (oi := { dst := some 61, op := Go.Op.move (Go.Operand.tmp 9), type := 3, pos := "law.go:441", after := #[], guard := none }) (v := .int .i64 ((j : Nat) : Int)) rfl (by kernel_rfl) (by kernel_rfl) (by kernel_rfl) (fun _ _ _ h => h) (Or.inl ⟨by rfl, ?_⟩) hS ?_
          · rintro wx ⟨d0, d1, d2, d3⟩
            go_simp
          simp only [Act.put, List.setIfInBounds_toArray, List.set_cons_zero, List.set_cons_succ]
          refine wpAnyH_take (i := 7) (oi := { dst := some 62, op := Go.Op.convert 3 22 (Go.Operand.tmp 61), type := 22, pos := "law.go:441", after := #[{ on := 6, ground := Go.Ground.data }], guard := none }) (v := .int .u32 ((j : Nat) : Int)) rfl (by kernel_rfl) (by kernel_rfl) (by kernel_rfl) (fun _ _ _ h => h) (Or.inl ⟨by rfl, ?_⟩) hS ?_
          · rintro wx ⟨d0, d1, d2, d3⟩
            go_simp
          simp only [Act.put, List.setIfInBounds_toArray, List.set_cons_zero, List.set_cons_succ]
          refine wpAnyH_take (i := 8) (oi := { dst := some 63, op := Go.Op.build 36 #[(0, Go.Operand.tmp 62)], type := 36, pos := "law.go:441", after := #[{ on := 7, ground := Go.Ground.data }], guard := none }) (v := .agg #[.int .u32 ((j : Nat) : Int), .int .u8 0]) rfl (by kernel_rfl) (by kernel_rfl) (by kernel_rfl) (fun _ _ _ h => h) (Or.inl ⟨by rfl, ?_⟩) hS ?_
          · rintro wx ⟨d0, d1, d2, d3⟩
            go_simp
          simp only [Act.put, List.setIfInBounds_toArray, List.set_cons_zero, List.set_cons_succ]
          refine wpAnyH_ready (rs := [5]) (by kernel_rfl) (by simp) ?_
          refine AllReadyH.cons (o := { dst := some 60, op := Go.Op.call { callee := Go.Callee.value (Go.Operand.func 15), args := #[Go.Operand.tmp 59], argTypes := #[44] }, type := 31, pos := "law.go:441", after := #[{ on := 4, ground := Go.Ground.data }], guard := none }) rfl (fun K hK => ?_) AllReadyH.nil
          rw [if_pos (by rfl)]
          go_simp
          refine hTag.mono ?_
          rintro e W2 ⟨rfl, hk2⟩
          have hk2' : Kp wr W2 := ⟨hk2.os, hk2.tape, hk2.output, hk2.size, hk2.block⟩
          have hL2 := HI.out.later hk2'
          have hP := Put_any W2 B M v 8 k s hL2.t t htk (j, 0) (by unfold MOk; simp; omega) (by omega)
          generalize s.gone 8 t = gn at hP
          generalize s.went 8 t = wn at hP
          unfold tV mV at hP
          have hS2 : Su11 b6 B b0 (off0 + j * 3) y0 y1 y2 W2 := ⟨Kp.cell hk2' hS1.1, Kp.cell hk2' hS1.2.1, Kp.cell hk2' hS1.2.2.1, Kp.cell hk2' hS1.2.2.2⟩
          refine hK.out _ _ hS2 (fun hS3 => ?_)
          clear hK K hTag
          refine wpAnyH_ready (rs := [9]) (by kernel_rfl) (by simp) ?_
          refine AllReadyH.cons (o := { dst := some 64, op := Go.Op.call { callee := Go.Callee.value (Go.Operand.func 12), args := #[Go.Operand.tmp 55, Go.Operand.tmp 60, Go.Operand.tmp 63], argTypes := #[26, 31, 36] }, type := 32, pos := "law.go:441", after := #[{ on := 0, ground := Go.Ground.data }, { on := 5, ground := Go.Ground.data }, { on := 8, ground := Go.Ground.data }, { on := 5, ground := Go.Ground.chain }], guard := none }) rfl (fun K hK => ?_) AllReadyH.nil
          rw [if_pos (by rfl)]
          go_simp
          refine hP.mono ?_
          rintro e W3 ⟨rfl, v3, hT3, hC3, hL3⟩
          have KX : Hid (Lx w W3 B M v3 8 (k + 1) (s.put 8 t (j, 0)) (H0 w a1 l1 c1 b3 b4 b6 b8 bq B) (fun _ => False)) := hL2.step hT3 hC3 hL3
          have hS4 : Su11 b6 B b0 (off0 + j * 3) y0 y1 y2 W3 := by
            obtain ⟨q1, q2, q3, q4⟩ := hS2
            have hb6 := KX.out.hs (b6, .cells #[.pointer (some ⟨B, 0, none⟩)] 26 (0, 0)) (by simp [H0])
            have hnf : ¬ Ft B M v b0 := fun e => by have h1 := HI.out.new b0 e; omega
            have hbl : b0 < W2.heap.size := by have := KX.out.kp.size; have := hk2'.size; have := HI.out.kp.size; omega
            exact ⟨by rw [(cells_at hb6 _).1]; rfl, (hC3.cell hbl hnf).trans q2, (hC3.cell hbl hnf).trans q3, (hC3.cell hbl hnf).trans q4⟩
          refine hK.out _ _ hS4 (fun hS5 => ?_)
          clear hK K
          refine wpAnyH_done (by kernel_rfl) ?_ _
          unfold okEnd
          clear hS5 hS4 hS3 hS2 hS1 hP hT3 hC3 hL3 hL2 hk2 hk2' HI
          go_wp2
          exact ⟨⟨v3, _, k + 1, j + 1, by go_num, by omega, by omega, by omega, KX⟩, by simp [intOf]; omega⟩
        · have hz2 : ¬ (j : Int) < 100 := by omega
          go_wp2_with fail
          go_meet
          case rel => exact ⟨v, s, k, by omega, HI⟩
      · have hz1 : ¬ (j : Int) < (la : Int) := by omega
        go_wp2_with fail
        go_meet
        case rel => exact ⟨v, s, k, by omega, HI⟩
  case rest =>
    obtain ⟨v, s, k, hk3, HI⟩ := hcut
    clear KL c8 hnil
    have hSl := Slots_any wc B M v 8 k s HI.out.t
    have x6 := HI.out.hs (b6, .cells #[.pointer (some ⟨B, 0, none⟩)] 26 (0, 0)) (by simp [H0])
    have c6 : wc.cell? ⟨b6, 0, none⟩ = some (.pointer (some ⟨B, 0, none⟩)) := by rw [(cells_at x6 _).1]; rfl
    go_wp2_with fail
    go_at_call 21
    refine hSl.mono ?_
    rintro e W6 ⟨vb, rfl, hb2, hbn, hk2⟩
    obtain ⟨va, vc, rfl⟩ := hb2.form
    obtain ⟨R, hR1, hR2, hR3⟩ := hb2.blocks
    obtain ⟨L, hL⟩ : ∃ L, L = s.slots.length := ⟨_, rfl⟩
    rw [← hL] at hb2 hbn hR2 hR3 ⊢
    have hL64 : L ≤ 64 := by rw [hL, s.slots_len]; have := HI.out.t.ok.len; omega
    obtain ⟨W7, hW7⟩ : ∃ W, W = (W6.alloc (.cells #[.slice va L vc] 55)).alloc (.cells #[.int .i64 0] 3) := ⟨_, rfl⟩
    obtain ⟨b10, hb10⟩ : ∃ b, b = W6.heap.size := ⟨_, rfl⟩
    obtain ⟨b11, hb11⟩ : ∃ b, b = W6.heap.size + 1 := ⟨_, rfl⟩
    have k7 : Kp W6 W7 := by rw [hW7]; exact ((Chg.refl W6 _).alloc _).alloc _
    have x10 : W7.heap[b10]? = some (.cells #[.slice va L vc] 55 (0, 0)) := by rw [hW7, hb10]; exact al_old _ (heap_alloc_new W6 _)
    have x11 : W7.heap[b11]? = some (.cells #[.int .i64 ((0 : Nat) : Int)] 3 (0, 0)) := by
      have := heap_alloc_new (W6.alloc (.cells #[.slice va L vc] 55)) (.cells #[.int .i64 0] 3)
      rw [al_size] at this
      rw [hW7, hb11]; exact this
    have s7 : W7.heap.size = b10 + 2 := by rw [hW7, hb10]; simp
    have HM : Hid (L = s.slots.length ∧ Hs R W6 ∧ (∀ p ∈ R, (Value.slice va L vc).ownBlock = some p.1) ∧ (∀ W', Hs R W' → SlotsIn W' va L s.slots) ∧ (∀ b, (Value.slice va L vc).ownBlock = some b → wc.heap.size ≤ b) ∧ Kp wc W6) := ⟨hL, hR1, hR2, hR3, hbn, hk2⟩
    clear c6 x6 hSl hL hR1 hR2 hR3 hbn hk2 hb2
    go_upto_region 14 with fail
    rw [← hW7, ← hb11, ← hb10]
    have HI7 : Lx w W7 B M v 8 k s ((b11, .cells #[.int .i64 ((0 : Nat) : Int)] 3 (0, 0)) :: (b10, .cells #[.slice va L vc] 55 (0, 0)) :: (R ++ H0 w a1 l1 c1 b3 b4 b6 b8 bq B)) (fun _ => False) := by
      obtain ⟨m1, m2, m3, m4, m5, m6⟩ := HM.out
      have h6 : Lx w W6 B M v 8 k s (R ++ H0 w a1 l1 c1 b3 b4 b6 b8 bq B) (fun _ => False) := by
        have h5 := HI.out.later m6
        refine ⟨h5.t, h5.kp, h5.new, fun p hp => ?_, fun p hp hf => ?_, h5.yap, h5.ylt⟩
        · rcases List.mem_append.1 hp with hp | hp
          · exact m2 p hp
          · exact h5.hs p hp
        · rcases List.mem_append.1 hp with hp | hp
          · have h1 := m5 _ (m3 p hp)
            have h2 := HI.out.t.lt hf
            omega
          · exact h5.ap p hp hf
      exact (h6.laid k7 x10 (by omega)).cons x11 (fun e => by have := h6.t.lt e; omega)
    have HN : Hid (∀ p ∈ ((b11, .cells #[.int .i64 ((0 : Nat) : Int)] 3 (0, 0)) :: (b10, .cells #[.slice va L vc] 55 (0, 0)) :: (R ++ H0 w a1 l1 c1 b3 b4 b6 b8 bq B) : HL), p.1 < W7.heap.size) := fun p hp => HI7.hs.lt hp
    obtain ⟨Hc, hHc⟩ : ∃ x : HL, x = (b10, .cells #[.slice va L vc] 55 (0, 0)) :: (R ++ H0 w a1 l1 c1 b3 b4 b6 b8 bq B) := ⟨_, rfl⟩
    have HC : Hid ((∀ p ∈ H0 w a1 l1 c1 b3 b4 b6 b8 bq B, p ∈ Hc) ∧ (b10, .cells #[.slice va L vc] 55 (0, 0)) ∈ Hc ∧ (∀ p ∈ R, p ∈ Hc) ∧ (∀ p ∈ Hc, p.1 ≠ b11)) := by
      rw [hHc]
      refine ⟨fun p hp => by simp [hp], by simp, fun p hp => by simp [hp], fun p hp e => ?_⟩
      obtain ⟨m1, m2, m3, m4, m5, m6⟩ := HM.out
      rcases List.mem_cons.1 hp with rfl | hp
      · simp at e; omega
      rcases List.mem_append.1 hp with hp | hp
      · have := m2.lt hp
        omega
      · have := (HI.out.later m6).hs.lt hp
        omega
    rw [← hHc] at HI7 HN
    have HB : Hid (w.heap.size ≤ b11 ∧ b11 < W7.heap.size) := ⟨by have := HI.out.kp.size; have := HM.out.2.2.2.2.2.size; omega, by omega⟩
    clear hHc HI hW7 hb10 hb11 k7 x10 x11 s7
    have x8 := HI7.hs (b8, .cells #[.func (.func 37) #[] #[.pointer (some ⟨bq, 0, none⟩)]] 53 (0, 0)) (List.mem_cons_of_mem _ (HC.out.1 _ (by simp [H0])))
    have c8 : W7.cell? ⟨b8, 0, none⟩ = some (.func (.func 37) #[] #[.pointer (some ⟨bq, 0, none⟩)]) := by rw [(cells_at x8 _).1]; rfl
    have xq := HI7.hs (bq, .cells #[.pointer (some ⟨B, 0, none⟩)] 26 (0, 0)) (List.mem_cons_of_mem _ (HC.out.1 _ (by simp [H0])))
    have hseq := all_seqD 2 W7 6 B M v 8 k s HI7.t bq (by rw [(cells_at xq _).1]; rfl)
    have KI : Hid (Lx w W7 B M v 8 k s ((b11, .cells #[.int .i64 ((0 : Nat) : Int)] 3 (0, 0)) :: Hc) (fun _ => False)) := HI7
    have hbl : ∀ (q : Nat) (p : Nat × Obj), p ∈ ((b11, .cells #[.int .i64 ((q : Nat) : Int)] 3 (0, 0)) :: Hc : HL) → p.1 < W7.heap.size := fun q p hp => by
      rcases List.mem_cons.1 hp with rfl | hp
      · exact HB.out.2
      · exact HN.out p (List.mem_cons_of_mem _ hp)
    clear xq x8 HI7
    go_upto_block 2 with fail
    clear c8
    go_wp2_with fail
    refine (wpIn_wide (n := 8)).1 ?_
    refine range_ownH (gf := 37) rfl (enters_of Try.func37 (by kernel_rfl) rfl) hseq (fun _ _ => rfl)
      (fun g q W => ∃ v' k' s', Lx w W B M v' 8 k' s' ((g, .cells (scs s.slots).toArray 58 (0, 0)) :: (b11, .cells #[.int .i64 ((q : Nat) : Int)] 3 (0, 0)) :: Hc) (Two W7.heap.size) ∧ k' ≤ 100 + 5 * q ∧ W7.heap.size + 2 ≤ g)
      (fun _ _ => False) ?_ (fun _ _ _ h _ => h) ?_ ?_ ?_
      (fun g q a' W => ∃ b12 b13 v' k' s', Lx w W B M v' 8 k' s' ((b12, .cells #[.int .i64 (sAt s q).1.1, .int .u32 (((sAt s q).1.2 : Nat) : Int)] 31 (0, 0)) :: (b13, .cells #[.int .u32 (((sAt s q).2.1 : Nat) : Int), .int .u8 (((sAt s q).2.2 : Nat) : Int)] 36 (0, 0)) :: (g, .cells (scs s.slots).toArray 58 (0, 0)) :: (b11, .cells #[.int .i64 ((q : Nat) : Int)] 3 (0, 0)) :: Hc) (Two W7.heap.size) ∧ k' ≤ 100 + 5 * q ∧ W7.heap.size + 2 ≤ g ∧ W7.heap.size + 2 ≤ b12 ∧ W7.heap.size + 2 ≤ b13 ∧ b12 ≠ b13 ∧ a' = ⟨#[.slice a la ca, .slice a1 l1 c1, undef, .pointer (some ⟨b3, 0, none⟩), .pointer (some ⟨b4, 0, none⟩), .bool true, .pointer (some ⟨b6, 0, none⟩), .int .i64 0, .pointer (some ⟨b8, 0, none⟩), u9, .pointer (some ⟨b10, 0, none⟩), .pointer (some ⟨b11, 0, none⟩), .pointer (some ⟨b12, 0, none⟩), .pointer (some ⟨b13, 0, none⟩), undef, undef, undef, undef, undef, undef, undef, undef, undef, undef, undef, undef, .bool true, .tuple #[.pointer (some ⟨B, 0, none⟩), .int .i64 0], .tuple #[.pointer (some ⟨B, 0, none⟩), .int .i64 0], .pointer (some ⟨B, 0, none⟩), .int .i64 0, .bool true, .bool false, .bool false, .int .i64 0, .bool false, .bool false, .bool false, .pointer (some ⟨B, 0, none⟩), .bool false, .bool false, .pointer (some ⟨B, 0, none⟩), .func (.func 37) #[] #[.pointer (some ⟨bq, 0, none⟩)], .func (.func 37) #[] #[.pointer (some ⟨bq, 0, none⟩)], .bool false, u45, u46, u47, u48, u49, u50, u51, u52, u53, u54, u55, u56, u57, u58, u59, u60, u61, u62, u63, u64, .pointer (some ⟨B, 0, none⟩), .slice va L vc, .func (.func 37) #[] #[.pointer (some ⟨bq, 0, none⟩)], .agg #[.int .i64 (sAt s q).1.1, .int .u32 (((sAt s q).1.2 : Nat) : Int)], .agg #[.int .u32 (((sAt s q).2.1 : Nat) : Int), .int .u8 (((sAt s q).2.2 : Nat) : Int)], undef, undef, undef, undef, undef, undef, undef, undef, undef, undef, undef, undef, undef, undef, undef, undef, undef, undef, undef, undef, undef, undef, undef, undef, undef, undef, undef, undef, undef, undef, undef, undef, undef, undef, undef, undef, undef, undef, undef, undef, undef, undef, undef, undef, undef, undef, undef, undef, undef, undef, undef, undef, undef, undef, undef, undef, undef, undef, undef, undef, undef, undef, undef, undef, undef, undef, undef, undef, undef, undef, undef, undef, undef, undef, undef, undef, undef, undef, undef, undef, undef, undef, undef, undef, undef, undef, undef, undef, undef, undef, undef, undef, undef, undef, undef, undef, undef, undef, undef, undef, undef, undef, undef, undef, undef, undef, undef, undef, undef, undef, undef, undef, undef, undef, undef, undef, undef, undef, undef, undef, undef, undef, undef, undef, undef, undef, undef, undef, undef, undef, undef, undef, undef, undef, undef, undef, undef], []⟩) ?_ ?assign ?body ?done (fun _ _ h => h.elim)
    · rintro g q A C ⟨v', k', s', h, hk', hg⟩ hC
      exact ⟨v', k', s', h.other hC (fun i hi => h.yap i hi) (fun i hi => by have := KI.out.kp.size; rcases hi with e | e <;> omega) (fun p hp e => by
        rcases List.mem_cons.1 hp with rfl | hp
        · rcases e with e | e <;> simp at e <;> omega
        · have := hbl q p hp
          rcases e with e | e <;> omega), hk', hg⟩
    · intro g A C D hAC hK hg hrow
      exact hK hg (Chg.heap hAC hrow (by rintro (e | e) <;> omega))
    · intro g A C D hK hCD hg hrow
      exact Chg.heap hCD (hK hg hrow) (by rintro (e | e) <;> omega)
    · intro g W W1 hW hs hG
      obtain ⟨g1, g2, g3⟩ := hG
      refine ⟨⟨v, k, s, ((KI.out.later hW).laid g1 g3 (by omega)).why (fun i hi => .inr ⟨?_, fun hf => ?_⟩), by omega, by omega⟩, g1⟩
      · have := g1.size
        rcases hi with e | e <;> omega
      · have := KI.out.t.lt hf
        rcases hi with e | e <;> omega
    · rintro g q a' A C ⟨b12, b13, v', k', s', h, hk', hg, h12, h13, hne, ha⟩ hC
      refine ⟨b12, b13, v', k', s', h.other hC (fun i hi => h.yap i hi) (fun i hi => by have := KI.out.kp.size; rcases hi with e | e <;> omega) (fun p hp e => ?_), hk', hg, h12, h13, hne, ha⟩
      rcases List.mem_cons.1 hp with rfl | hp
      · rcases e with e | e <;> simp at e <;> omega
      rcases List.mem_cons.1 hp with rfl | hp
      · rcases e with e | e <;> simp at e <;> omega
      rcases List.mem_cons.1 hp with rfl | hp
      · rcases e with e | e <;> simp at e <;> omega
      · have := hbl q p hp
        rcases e with e | e <;> omega
    case assign =>
      rintro g q W K' hq ⟨v', k', s', h, hk', hg⟩ hs hK'
      unfold aArgs
      gi_wp2
      refine hK' _ _ (((Chg.refl _ _).alloc _).alloc _) ⟨W.heap.size, W.heap.size + 1, v', k', s', ?_, hk', hg, hs, by omega, by omega, rfl⟩
      have y1 : Kp W (W.alloc (.cells #[.int .i64 (sAt s q).1.1, .int .u32 (((sAt s q).1.2 : Nat) : Int)] 31 (0, 0))) := (Chg.refl W _).alloc _
      have y2 : Kp (W.alloc (.cells #[.int .i64 (sAt s q).1.1, .int .u32 (((sAt s q).1.2 : Nat) : Int)] 31 (0, 0))) ((W.alloc (.cells #[.int .i64 (sAt s q).1.1, .int .u32 (((sAt s q).1.2 : Nat) : Int)] 31 (0, 0))).alloc (.cells #[.int .u32 (((sAt s q).2.1 : Nat) : Int), .int .u8 (((sAt s q).2.2 : Nat) : Int)] 36 (0, 0))) := (Chg.refl _ _).alloc _
      have y3 := heap_alloc_new (W.alloc (.cells #[.int .i64 (sAt s q).1.1, .int .u32 (((sAt s q).1.2 : Nat) : Int)] 31 (0, 0))) (.cells #[.int .u32 (((sAt s q).2.1 : Nat) : Int), .int .u8 (((sAt s q).2.2 : Nat) : Int)] 36 (0, 0))
      rw [al_size] at y3
      exact (((h.later y1).laid y2 y3 (by simp)).cons (al_old _ (heap_alloc_new W _)) (fun e => Nat.lt_irrefl _ (h.t.lt e)))
    case body =>
      rintro g q a' W hq ⟨r0, hr⟩ hI ⟨b12, b13, v', k', s', h, hk', hg, h12, h13, hne, rfl⟩ hs
      clear hI
      obtain ⟨o0, ho⟩ : ∃ o, W.heap[W7.heap.size]? = some o := ⟨_, Array.getElem?_eq_getElem (by omega)⟩
      have h2 := (h.cons hr (h.yap _ (.inr rfl))).cons ho (h.yap _ (.inl rfl))
      obtain ⟨m1, m2, m3, m4, m5, m6⟩ := HM.out
      have hqL : q < L := by omega
      have hsl := m4 W (fun p hp => h.hs p (List.mem_cons_of_mem _ (List.mem_cons_of_mem _ (List.mem_cons_of_mem _ (List.mem_cons_of_mem _ (HC.out.2.2.1 p hp))))))
      obtain ⟨gv, ov, ev, _, cv⟩ := hsl.src.resolve_left (by omega)
      subst ev
      obtain ⟨p0, p1, p2, p3⟩ := cv q hq
      rw [← sAt_get s q hq] at p0 p1 p2 p3
      obtain ⟨x, hx⟩ : ∃ x, x = sAt s q := ⟨_, rfl⟩
      rw [← hx] at p0 p1 p2 p3 h2 ⊢
      obtain ⟨d0, d1, _, _⟩ := cells2 (h2.hs (b12, .cells #[.int .i64 x.1.1, .int .u32 ((x.1.2 : Nat) : Int)] 31 (0, 0)) (by simp))
      obtain ⟨e0, e1, _, _⟩ := cells2 (h2.hs (b13, .cells #[.int .u32 ((x.2.1 : Nat) : Int), .int .u8 ((x.2.2 : Nat) : Int)] 36 (0, 0)) (by simp))
      have f11 : W.cell? ⟨b11, 0, none⟩ = some (.int .i64 ((q : Nat) : Int)) := by rw [(cells_at (h2.hs (b11, .cells #[.int .i64 ((q : Nat) : Int)] 3 (0, 0)) (by simp)) _).1]; rfl
      have f10 : W.cell? ⟨b10, 0, none⟩ = some (.slice (some ⟨gv, ov, none⟩) L vc) := by rw [(cells_at (h2.hs (b10, .cells #[.slice (some ⟨gv, ov, none⟩) L vc] 55 (0, 0)) (by simp [HC.out.2.1])) _).1]; rfl
      have n31 := fun W => neq31 x.1.1 x.1.1 ((x.1.2 : Nat) : Int) ((x.1.2 : Nat) : Int) W
      rw [decide_eq_true ⟨rfl, rfl⟩] at n31
      have n36 := fun W => neq36 ((x.2.1 : Nat) : Int) ((x.2.1 : Nat) : Int) ((x.2.2 : Nat) : Int) ((x.2.2 : Nat) : Int) W
      rw [decide_eq_true ⟨rfl, rfl⟩] at n36
      have g1 : ¬ ((L : Int) ≤ (q : Int)) := by omega
      have g2 : decide ((L : Int) ≤ (q : Int)) = false := decide_eq_false g1
      have g3 : decide (L ≤ q) = false := decide_eq_false (by omega)
      have g4 : (q : Int) < (L : Int) := by omega
      have K2 : Hid (Lx w W B M v' 8 k' s' ((W7.heap.size, o0) :: (W7.heap.size + 1, .loop r0) :: (b12, .cells #[.int .i64 x.1.1, .int .u32 ((x.1.2 : Nat) : Int)] 31 (0, 0)) :: (b13, .cells #[.int .u32 ((x.2.1 : Nat) : Int), .int .u8 ((x.2.2 : Nat) : Int)] 36 (0, 0)) :: (g, .cells (scs s.slots).toArray 58 (0, 0)) :: (b11, .cells #[.int .i64 ((q : Nat) : Int)] 3 (0, 0)) :: Hc) (Two W7.heap.size)) := h2
      have KX : Hid (x = sAt s q ∧ q < s.slots.length ∧ TOk x.1) := ⟨hx, hq, by
        rw [hx, sAt_get s q hq]
        exact (slots_ok KI.out.t.ok _ (List.getElem_mem hq)).1⟩
      obtain ⟨HH, hHH⟩ : ∃ y : HL, y = (W7.heap.size, o0) :: (W7.heap.size + 1, .loop r0) :: (b12, .cells #[.int .i64 x.1.1, .int .u32 ((x.1.2 : Nat) : Int)] 31 (0, 0)) :: (b13, .cells #[.int .u32 ((x.2.1 : Nat) : Int), .int .u8 ((x.2.2 : Nat) : Int)] 36 (0, 0)) :: (g, .cells (scs s.slots).toArray 58 (0, 0)) :: (b11, .cells #[.int .i64 ((q : Nat) : Int)] 3 (0, 0)) :: Hc := ⟨_, rfl⟩
      rw [← hHH] at K2
      have KH : Hid (HH = (W7.heap.size, o0) :: (W7.heap.size + 1, .loop r0) :: (b12, .cells #[.int .i64 x.1.1, .int .u32 ((x.1.2 : Nat) : Int)] 31 (0, 0)) :: (b13, .cells #[.int .u32 ((x.2.1 : Nat) : Int), .int .u8 ((x.2.2 : Nat) : Int)] 36 (0, 0)) :: (g, .cells (scs s.slots).toArray 58 (0, 0)) :: (b11, .cells #[.int .i64 ((q : Nat) : Int)] 3 (0, 0)) :: Hc) := hHH
      have KW : Hid (W.heap[W7.heap.size]? = some o0 ∧ W.heap[W7.heap.size + 1]? = some (.loop r0)) := ⟨ho, hr⟩
      have m3' : (b3, .cells #[.slice a1 l1 c1] 41 (0, 0)) ∈ HH := by rw [hHH]; simp [HC.out.1 (b3, .cells #[.slice a1 l1 c1] 41 (0, 0)) (by simp [H0])]
      have m6' : (b6, .cells #[.pointer (some ⟨B, 0, none⟩)] 26 (0, 0)) ∈ HH := by rw [hHH]; simp [HC.out.1 (b6, .cells #[.pointer (some ⟨B, 0, none⟩)] 26 (0, 0)) (by simp [H0])]
      have m8' : (b8, .cells #[.func (.func 37) #[] #[.pointer (some ⟨bq, 0, none⟩)]] 53 (0, 0)) ∈ HH := by rw [hHH]; simp [HC.out.1 (b8, .cells #[.func (.func 37) #[] #[.pointer (some ⟨bq, 0, none⟩)]] 53 (0, 0)) (by simp [H0])]
      have mq' : (bq, .cells #[.pointer (some ⟨B, 0, none⟩)] 26 (0, 0)) ∈ HH := by rw [hHH]; simp [HC.out.1 (bq, .cells #[.pointer (some ⟨B, 0, none⟩)] 26 (0, 0)) (by simp [H0])]
      have m12' : (b12, .cells #[.int .i64 x.1.1, .int .u32 ((x.1.2 : Nat) : Int)] 31 (0, 0)) ∈ HH := by rw [hHH]; simp
      have KM : Hid ((b3, .cells #[.slice a1 l1 c1] 41 (0, 0)) ∈ HH ∧ (b6, .cells #[.pointer (some ⟨B, 0, none⟩)] 26 (0, 0)) ∈ HH ∧ (b8, .cells #[.func (.func 37) #[] #[.pointer (some ⟨bq, 0, none⟩)]] 53 (0, 0)) ∈ HH ∧ (bq, .cells #[.pointer (some ⟨B, 0, none⟩)] 26 (0, 0)) ∈ HH ∧ (b12, .cells #[.int .i64 x.1.1, .int .u32 ((x.1.2 : Nat) : Int)] 31 (0, 0)) ∈ HH) := ⟨m3', m6', m8', mq', m12'⟩
      clear m1 m2 m3 m4 m5 m6 h h2 hsl cv hx ho hr hHH m3' m6' m8' mq' m12'
      gi_wp2_with fail
      refine region_round_quiet _ _ (by kernel_rfl) (by kernel_rfl) (by kernel_rfl) ?_
      repeat (go_big_quiet_step (fail))
      refine wpQuiet_nil ?_
      intro _ hw'
      obtain ⟨nq, hw''⟩ := hw'
      subst hw''
      gi_wp2_with fail
      rename_i Kk hKk
      have HX : ∀ (u14 u70 u71 u72 u73 u74 u75 u76 u77 u78 u79 u80 u81 u82 u83 u84 u85 u86 u87 u88 u89 u90 u91 u92 u93 u94 u95 u96 u97 u98 u99 u100 u101 u102 u103 u104 u105 u106 u107 u108 u109 u110 u111 u112 : Value) (wz : World) (v3 : Value) (k3 : Nat) (s3 : Sta), k3 ≤ k' + 5 → Hid (Lx w wz B M v3 8 k3 s3 HH (Two W7.heap.size)) → Kk ⟨#[.slice a la ca, .slice a1 l1 c1, undef, .pointer (some ⟨b3, 0, none⟩), .pointer (some ⟨b4, 0, none⟩), .bool true, .pointer (some ⟨b6, 0, none⟩), .int .i64 0, .pointer (some ⟨b8, 0, none⟩), u9, .pointer (some ⟨b10, 0, none⟩), .pointer (some ⟨b11, 0, none⟩), .pointer (some ⟨b12, 0, none⟩), .pointer (some ⟨b13, 0, none⟩), u14, undef, undef, undef, undef, undef, undef, undef, undef, undef, undef, undef, .bool true, .tuple #[.pointer (some ⟨B, 0, none⟩), .int .i64 0], .tuple #[.pointer (some ⟨B, 0, none⟩), .int .i64 0], .pointer (some ⟨B, 0, none⟩), .int .i64 0, .bool true, .bool false, .bool false, .int .i64 0, .bool false, .bool false, .bool false, .pointer (some ⟨B, 0, none⟩), .bool false, .bool false, .pointer (some ⟨B, 0, none⟩), .func (.func 37) #[] #[.pointer (some ⟨bq, 0, none⟩)], .func (.func 37) #[] #[.pointer (some ⟨bq, 0, none⟩)], .bool false, u45, u46, u47, u48, u49, u50, u51, u52, u53, u54, u55, u56, u57, u58, u59, u60, u61, u62, u63, u64, .pointer (some ⟨B, 0, none⟩), .slice (some ⟨gv, ov, none⟩) L vc, .func (.func 37) #[] #[.pointer (some ⟨bq, 0, none⟩)], .agg #[.int .i64 x.1.1, .int .u32 ((x.1.2 : Nat) : Int)], .agg #[.int .u32 ((x.2.1 : Nat) : Int), .int .u8 ((x.2.2 : Nat) : Int)], u70, u71, u72, u73, u74, u75, u76, u77, u78, u79, u80, u81, u82, u83, u84, u85, u86, u87, u88, u89, u90, u91, u92, u93, u94, u95, u96, u97, u98, u99, u100, u101, u102, u103, u104, u105, u106, u107, u108, u109, u110, u111, u112, undef, undef, undef, undef, undef, undef, undef, undef, undef, undef, undef, undef, undef, undef, undef, undef, undef, undef, undef, undef, undef, undef, undef, undef, undef, undef, undef, undef, undef, undef, undef, undef, undef, undef, undef, undef, undef, undef, undef, undef, undef, undef, undef, undef, undef, undef, undef, undef, undef, undef, undef, undef, undef, undef, undef, undef, undef, undef, undef, undef, undef, undef, undef, undef, undef, undef, undef, undef, undef, undef, undef, undef, undef, undef, undef, undef, undef, undef, undef, undef, undef, undef, undef, undef, undef, undef, undef, undef, undef, undef, undef, undef, undef, undef], []⟩ wz := by
        intro u14 u70 u71 u72 u73 u74 u75 u76 u77 u78 u79 u80 u81 u82 u83 u84 u85 u86 u87 u88 u89 u90 u91 u92 u93 u94 u95 u96 u97 u98 u99 u100 u101 u102 u103 u104 u105 u106 u107 u108 u109 u110 u111 u112 wz v3 k3 s3 hk3 KL
        refine hKk _ _ ?_
        clear hKk p0 p1 p2 p3 d0 d1 e0 e1 f11 f10 n31 n36
        have hSl2 := Slots_any wz B M v3 8 k3 s3 KL.out.t
        have f6 : wz.cell? ⟨b6, 0, none⟩ = some (.pointer (some ⟨B, 0, none⟩)) := by rw [(cells_at (KL.out.hs _ KM.out.2.1) _).1]; rfl
        gi_wp2_with fail
        refine ⟨trivial, ?_⟩
        gi_at_call 21
        refine (CallsIn.inRound _ (callsIn_wide.2 hSl2)).mono ?_
        rintro e W6z ⟨vb, rfl, hb2, hbn, hk2⟩
        obtain ⟨va2, vc2, rfl⟩ := hb2.form
        obtain ⟨R2, hR1, hR2, hR3⟩ := hb2.blocks
        obtain ⟨L2, hL2⟩ : ∃ L, L = s3.slots.length := ⟨_, rfl⟩
        rw [← hL2] at hb2 hbn hR2 hR3 ⊢
        have hL264 : L2 ≤ 64 := by rw [hL2, s3.slots_len]; have := KL.out.t.ok.len; omega
        obtain ⟨W8, hW8⟩ : ∃ W, W = (W6z.alloc (.cells #[.slice va2 L2 vc2] 55)).alloc (.cells #[.int .i64 0] 3) := ⟨_, rfl⟩
        obtain ⟨b15, hb15⟩ : ∃ b, b = W6z.heap.size := ⟨_, rfl⟩
        obtain ⟨b16, hb16⟩ : ∃ b, b = W6z.heap.size + 1 := ⟨_, rfl⟩
        have k8 : Kp W6z W8 := by rw [hW8]; exact ((Chg.refl W6z _).alloc _).alloc _
        have x15 : W8.heap[b15]? = some (.cells #[.slice va2 L2 vc2] 55 (0, 0)) := by rw [hW8, hb15]; exact al_old _ (heap_alloc_new W6z _)
        have x16 : W8.heap[b16]? = some (.cells #[.int .i64 ((0 : Nat) : Int)] 3 (0, 0)) := by
          have := heap_alloc_new (W6z.alloc (.cells #[.slice va2 L2 vc2] 55)) (.cells #[.int .i64 0] 3)
          rw [al_size] at this
          rw [hW8, hb16]; exact this
        have s8 : W8.heap.size = b15 + 2 := by rw [hW8, hb15]; simp
        have HM2 : Hid (L2 = s3.slots.length ∧ Hs R2 W6z ∧ (∀ p ∈ R2, (Value.slice va2 L2 vc2).ownBlock = some p.1) ∧ (∀ W', Hs R2 W' → SlotsIn W' va2 L2 s3.slots) ∧ (∀ b, (Value.slice va2 L2 vc2).ownBlock = some b → wz.heap.size ≤ b) ∧ Kp wz W6z) := ⟨hL2, hR1, hR2, hR3, hbn, hk2⟩
        clear f6 hSl2 hL2 hR1 hR2 hR3 hbn hk2 hb2
        gi_upto_region 26 with fail
        rw [← hW8, ← hb16, ← hb15]
        have HI8 : Lx w W8 B M v3 8 k3 s3 ((b16, .cells #[.int .i64 ((0 : Nat) : Int)] 3 (0, 0)) :: (b15, .cells #[.slice va2 L2 vc2] 55 (0, 0)) :: (R2 ++ HH)) (fun _ => False) := by
          obtain ⟨m1, m2, m3, m4, m5, m6⟩ := HM2.out
          have h6 : Lx w W6z B M v3 8 k3 s3 (R2 ++ HH) (fun _ => False) := by
            have h5 := KL.out.later m6
            refine ⟨h5.t, h5.kp, h5.new, fun p hp => ?_, fun p hp hf => ?_, fun _ h => h.elim, fun _ h => h.elim⟩
            · rcases List.mem_append.1 hp with hp | hp
              · exact m2 p hp
              · exact h5.hs p hp
            · rcases List.mem_append.1 hp with hp | hp
              · have h1 := m5 _ (m3 p hp)
                have h2 := KL.out.t.lt hf
                omega
              · exact h5.ap p hp hf
          exact (h6.laid k8 x15 (by omega)).cons x16 (fun e => by have := h6.t.lt e; omega)
        obtain ⟨Hd, hHd⟩ : ∃ x : HL, x = (b15, .cells #[.slice va2 L2 vc2] 55 (0, 0)) :: (R2 ++ HH) := ⟨_, rfl⟩
        have HC2 : Hid ((∀ p ∈ HH, p ∈ Hd) ∧ (b15, .cells #[.slice va2 L2 vc2] 55 (0, 0)) ∈ Hd ∧ (∀ p ∈ R2, p ∈ Hd) ∧ (∀ p ∈ Hd, p.1 ≠ b16)) := by
          rw [hHd]
          refine ⟨fun p hp => by simp [hp], by simp, fun p hp => by simp [hp], fun p hp e => ?_⟩
          obtain ⟨m1, m2, m3, m4, m5, m6⟩ := HM2.out
          rcases List.mem_cons.1 hp with rfl | hp
          · simp at e; omega
          rcases List.mem_append.1 hp with hp | hp
          · have := m2.lt hp
            omega
          · have := (KL.out.later m6).hs.lt hp
            omega
        rw [← hHd] at HI8
        have HB2 : Hid (w.heap.size ≤ b16 ∧ b16 < W8.heap.size) := ⟨by have := KL.out.kp.size; have := HM2.out.2.2.2.2.2.size; omega, by omega⟩
        have hbl2 : ∀ (q : Nat) (p : Nat × Obj), p ∈ ((b16, .cells #[.int .i64 ((q : Nat) : Int)] 3 (0, 0)) :: Hd : HL) → p.1 < W8.heap.size := fun q p hp => by
          rcases List.mem_cons.1 hp with rfl | hp
          · exact HB2.out.2
          · exact HI8.hs.lt (List.mem_cons_of_mem _ hp)
        clear hHd KL hW8 hb15 hb16 k8 x15 x16 s8
        have x8 := HI8.hs _ (List.mem_cons_of_mem _ (HC2.out.1 _ KM.out.2.2.1))
        have c8 : W8.cell? ⟨b8, 0, none⟩ = some (.func (.func 37) #[] #[.pointer (some ⟨bq, 0, none⟩)]) := by rw [(cells_at x8 _).1]; rfl
        have xq := HI8.hs _ (List.mem_cons_of_mem _ (HC2.out.1 _ KM.out.2.2.2.1))
        have hseq2 := all_seqD 1 W8 4 B M v3 8 k3 s3 HI8.t bq (by rw [(cells_at xq _).1]; rfl)
        have hl0 : W8.heap[W7.heap.size + 1]? = some (.loop r0) := HI8.hs (W7.heap.size + 1, .loop r0) (List.mem_cons_of_mem _ (HC2.out.1 _ (by rw [KH.out]; simp)))
        have KI2 : Hid (Lx w W8 B M v3 8 k3 s3 ((b16, .cells #[.int .i64 ((0 : Nat) : Int)] 3 (0, 0)) :: Hd) (fun _ => False)) := HI8
        clear xq x8 HI8
        gi_wp2_with fail
        clear c8
        refine range_in (m := 6) hl0 (gf := 37) rfl (enters_of Try.func37 (by kernel_rfl) rfl) hseq2 (fun _ _ => rfl)
          (fun g2 q2 W => Lx w W B M v3 8 k3 s3 ((g2, .cells (scs s3.slots).toArray 58 (0, 0)) :: (b16, .cells #[.int .i64 ((q2 : Nat) : Int)] 3 (0, 0)) :: Hd) (One W8.heap.size) ∧ W8.heap.size + 1 ≤ g2)
          (fun _ _ => False) ?_ (fun _ _ _ h _ => h) ?_ ?_ ?_
          (fun g2 q2 a' W => ∃ b17 b18, Lx w W B M v3 8 k3 s3 ((b17, .cells #[.int .i64 (sAt s3 q2).1.1, .int .u32 (((sAt s3 q2).1.2 : Nat) : Int)] 31 (0, 0)) :: (b18, .cells #[.int .u32 (((sAt s3 q2).2.1 : Nat) : Int), .int .u8 (((sAt s3 q2).2.2 : Nat) : Int)] 36 (0, 0)) :: (g2, .cells (scs s3.slots).toArray 58 (0, 0)) :: (b16, .cells #[.int .i64 ((q2 : Nat) : Int)] 3 (0, 0)) :: Hd) (One W8.heap.size) ∧ W8.heap.size + 1 ≤ g2 ∧ W8.heap.size + 1 ≤ b17 ∧ W8.heap.size + 1 ≤ b18 ∧ a' = ⟨#[.slice a la ca, .slice a1 l1 c1, undef, .pointer (some ⟨b3, 0, none⟩), .pointer (some ⟨b4, 0, none⟩), .bool true, .pointer (some ⟨b6, 0, none⟩), .int .i64 0, .pointer (some ⟨b8, 0, none⟩), u9, .pointer (some ⟨b10, 0, none⟩), .pointer (some ⟨b11, 0, none⟩), .pointer (some ⟨b12, 0, none⟩), .pointer (some ⟨b13, 0, none⟩), u14, .pointer (some ⟨b15, 0, none⟩), .pointer (some ⟨b16, 0, none⟩), .pointer (some ⟨b17, 0, none⟩), .pointer (some ⟨b18, 0, none⟩), undef, undef, undef, undef, undef, undef, undef, .bool true, .tuple #[.pointer (some ⟨B, 0, none⟩), .int .i64 0], .tuple #[.pointer (some ⟨B, 0, none⟩), .int .i64 0], .pointer (some ⟨B, 0, none⟩), .int .i64 0, .bool true, .bool false, .bool false, .int .i64 0, .bool false, .bool false, .bool false, .pointer (some ⟨B, 0, none⟩), .bool false, .bool false, .pointer (some ⟨B, 0, none⟩), .func (.func 37) #[] #[.pointer (some ⟨bq, 0, none⟩)], .func (.func 37) #[] #[.pointer (some ⟨bq, 0, none⟩)], .bool false, u45, u46, u47, u48, u49, u50, u51, u52, u53, u54, u55, u56, u57, u58, u59, u60, u61, u62, u63, u64, .pointer (some ⟨B, 0, none⟩), .slice (some ⟨gv, ov, none⟩) L vc, .func (.func 37) #[] #[.pointer (some ⟨bq, 0, none⟩)], .agg #[.int .i64 x.1.1, .int .u32 ((x.1.2 : Nat) : Int)], .agg #[.int .u32 ((x.2.1 : Nat) : Int), .int .u8 ((x.2.2 : Nat) : Int)], u70, u71, u72, u73, u74, u75, u76, u77, u78, u79, u80, u81, u82, u83, u84, u85, u86, u87, u88, u89, u90, u91, u92, u93, u94, u95, u96, u97, u98, u99, u100, u101, u102, u103, u104, u105, u106, u107, u108, u109, u110, u111, u112, .pointer (some ⟨B, 0, none⟩), .slice va2 L2 vc2, .func (.func 37) #[] #[.pointer (some ⟨bq, 0, none⟩)], .agg #[.int .i64 (sAt s3 q2).1.1, .int .u32 (((sAt s3 q2).1.2 : Nat) : Int)], .agg #[.int .u32 (((sAt s3 q2).2.1 : Nat) : Int), .int .u8 (((sAt s3 q2).2.2 : Nat) : Int)], undef, undef, undef, undef, undef, undef, undef, undef, undef, undef, undef, undef, undef, undef, undef, undef, undef, undef, undef, undef, undef, undef, undef, undef, undef, undef, undef, undef, undef, undef, undef, undef, undef, undef, undef, undef, undef, undef, undef, undef, undef, undef, undef, undef, undef, undef, undef, undef, undef, undef, undef, undef, undef, undef, undef, undef, undef, undef, undef, undef, undef, undef, undef, undef, undef, undef, undef, undef, undef, undef, undef, undef, undef, undef, undef, undef, undef, undef, undef, undef, undef, undef, undef, undef, undef, undef, undef, undef, undef], []⟩) ?_ ?assign2 ?body2 ?done2 (fun _ _ h => h.elim)
        · rintro g2 q2 A C ⟨h, hg2⟩ hC
          refine ⟨h.other hC (fun i hi => h.yap i hi) (fun i hi => by have := KI2.out.kp.size; rw [show i = W8.heap.size from hi]; exact this) (fun p hp e => ?_), hg2⟩
          have e' : p.1 = W8.heap.size := e
          rcases List.mem_cons.1 hp with rfl | hp
          · simp at e'; omega
          · have := hbl2 q2 p hp
            omega
        · intro g2 A C D hAC hK hg2 hrow
          exact hK hg2 (Chg.heap hAC hrow (by intro e; have e' : g2 = W8.heap.size := e; omega))
        · intro g2 A C D hK hCD hg2 hrow
          exact Chg.heap hCD (hK hg2 hrow) (by intro e; have e' : g2 = W8.heap.size := e; omega)
        · intro g2 Wq Wq1 hW hsq hG
          obtain ⟨g1, g2', g3'⟩ := hG
          refine ⟨⟨((KI2.out.later hW).laid g1 g3' (by omega)).why (fun i hi => .inr ⟨?_, fun hf => ?_⟩), by omega⟩, g1⟩
          · have := g1.size
            have e' : i = W8.heap.size := hi
            omega
          · have := KI2.out.t.lt hf
            have e' : i = W8.heap.size := hi
            omega
        · rintro g2 q2 a' A C ⟨b17, b18, h, hg2, h17, h18, ha⟩ hC
          refine ⟨b17, b18, h.other hC (fun i hi => h.yap i hi) (fun i hi => by have := KI2.out.kp.size; rw [show i = W8.heap.size from hi]; exact this) (fun p hp e => ?_), hg2, h17, h18, ha⟩
          have e' : p.1 = W8.heap.size := e
          rcases List.mem_cons.1 hp with rfl | hp
          · simp at e'; omega
          rcases List.mem_cons.1 hp with rfl | hp
          · simp at e'; omega
          rcases List.mem_cons.1 hp with rfl | hp
          · simp at e'; omega
          · have := hbl2 q2 p hp
            omega
        case assign2 =>
          rintro g2 q2 Wq K' hq2 ⟨h, hg2⟩ hsq hK'
          unfold aArgs
          gi_wp2
          refine hK' _ _ (((Chg.refl _ _).alloc _).alloc _) ⟨Wq.heap.size, Wq.heap.size + 1, ?_, hg2, hsq, by omega, rfl⟩
          have y1 : Kp Wq (Wq.alloc (.cells #[.int .i64 (sAt s3 q2).1.1, .int .u32 (((sAt s3 q2).1.2 : Nat) : Int)] 31 (0, 0))) := (Chg.refl Wq _).alloc _
          have y2 : Kp (Wq.alloc (.cells #[.int .i64 (sAt s3 q2).1.1, .int .u32 (((sAt s3 q2).1.2 : Nat) : Int)] 31 (0, 0))) ((Wq.alloc (.cells #[.int .i64 (sAt s3 q2).1.1, .int .u32 (((sAt s3 q2).1.2 : Nat) : Int)] 31 (0, 0))).alloc (.cells #[.int .u32 (((sAt s3 q2).2.1 : Nat) : Int), .int .u8 (((sAt s3 q2).2.2 : Nat) : Int)] 36 (0, 0))) := (Chg.refl _ _).alloc _
          have y3 := heap_alloc_new (Wq.alloc (.cells #[.int .i64 (sAt s3 q2).1.1, .int .u32 (((sAt s3 q2).1.2 : Nat) : Int)] 31 (0, 0))) (.cells #[.int .u32 (((sAt s3 q2).2.1 : Nat) : Int), .int .u8 (((sAt s3 q2).2.2 : Nat) : Int)] 36 (0, 0))
          rw [al_size] at y3
          exact (((h.later y1).laid y2 y3 (by simp)).cons (al_old _ (heap_alloc_new Wq _)) (fun e => Nat.lt_irrefl _ (h.t.lt e)))
        case body2 =>
          rintro g2 q2 a' Wq hq2 _ _ ⟨b17, b18, h, hg2, h17, h18, rfl⟩ hsq
          obtain ⟨m1, m2, m3, m4, m5, m6⟩ := HM2.out
          have hqL2 : q2 < L2 := by omega
          have hsl2 := m4 Wq (fun p hp => h.hs p (List.mem_cons_of_mem _ (List.mem_cons_of_mem _ (List.mem_cons_of_mem _ (List.mem_cons_of_mem _ (HC2.out.2.2.1 p hp))))))
          obtain ⟨gv2, ov2, ev2, _, cv2⟩ := hsl2.src.resolve_left (by omega)
          subst ev2
          obtain ⟨p0, p1, p2, p3⟩ := cv2 q2 hq2
          rw [← sAt_get s3 q2 hq2] at p0 p1 p2 p3
          obtain ⟨y, hy⟩ : ∃ y, y = sAt s3 q2 := ⟨_, rfl⟩
          rw [← hy] at p0 p1 p2 p3 h ⊢
          obtain ⟨d0, d1, _, _⟩ := cells2 (h.hs (b17, .cells #[.int .i64 y.1.1, .int .u32 ((y.1.2 : Nat) : Int)] 31 (0, 0)) (by simp))
          obtain ⟨e0, e1, _, _⟩ := cells2 (h.hs (b18, .cells #[.int .u32 ((y.2.1 : Nat) : Int), .int .u8 ((y.2.2 : Nat) : Int)] 36 (0, 0)) (by simp))
          have x16 := h.hs (b16, .cells #[.int .i64 ((q2 : Nat) : Int)] 3 (0, 0)) (by simp)
          have f16 : Wq.cell? ⟨b16, 0, none⟩ = some (.int .i64 ((q2 : Nat) : Int)) := by rw [(cells_at x16 _).1]; rfl
          have z16 : Wq.frozen? ⟨b16, 0, none⟩ = false := (cells_at x16 _).2
          have f15 : Wq.cell? ⟨b15, 0, none⟩ = some (.slice (some ⟨gv2, ov2, none⟩) L2 vc2) := by rw [(cells_at (h.hs (b15, .cells #[.slice (some ⟨gv2, ov2, none⟩) L2 vc2] 55 (0, 0)) (by simp [HC2.out.2.1])) _).1]; rfl
          have n31 := fun W => neq31 y.1.1 y.1.1 ((y.1.2 : Nat) : Int) ((y.1.2 : Nat) : Int) W
          rw [decide_eq_true ⟨rfl, rfl⟩] at n31
          have n36 := fun W => neq36 ((y.2.1 : Nat) : Int) ((y.2.1 : Nat) : Int) ((y.2.2 : Nat) : Int) ((y.2.2 : Nat) : Int) W
          rw [decide_eq_true ⟨rfl, rfl⟩] at n36
          have g11 : ¬ ((L2 : Int) ≤ (q2 : Int)) := by omega
          have g12 : decide ((L2 : Int) ≤ (q2 : Int)) = false := decide_eq_false g11
          have g13 : decide (L2 ≤ q2) = false := decide_eq_false (by omega)
          have g14 : (q2 : Int) < (L2 : Int) := by omega
          have w64 : IntKind.i64.wrap ((q2 : Int) + 1) = ((q2 + 1 : Nat) : Int) := by simp [IntKind.wrap, IntKind.bits, IntKind.signed]; omega
          have KQ : Hid (Lx w Wq B M v3 8 k3 s3 ((b17, .cells #[.int .i64 y.1.1, .int .u32 ((y.1.2 : Nat) : Int)] 31 (0, 0)) :: (b18, .cells #[.int .u32 ((y.2.1 : Nat) : Int), .int .u8 ((y.2.2 : Nat) : Int)] 36 (0, 0)) :: (g2, .cells (scs s3.slots).toArray 58 (0, 0)) :: (b16, .cells #[.int .i64 ((q2 : Nat) : Int)] 3 (0, 0)) :: Hd) (One W8.heap.size)) := h
          clear m1 m2 m3 m4 m5 m6 h hsl2 cv2 hy x16
          gi_wp2_with fail
          refine region_round_quiet _ _ (by kernel_rfl) (by kernel_rfl) (by kernel_rfl) ?_
          repeat (go_big_quiet_step (fail))
          refine wpQuiet_nil ?_
          intro _ hw'
          obtain ⟨nq2, hw''⟩ := hw'
          subst hw''
          gi_wp2
          clear p0 p1 p2 p3 d0 d1 e0 e1 f16 f15 n31 n36 z16
          obtain ⟨W9, hW9⟩ : ∃ W, W = (Wq.drewN nq2).setCell ⟨b16, 0, none⟩ (.int .i64 ((q2 + 1 : Nat) : Int)) := ⟨_, rfl⟩
          have hQ2 : Lx w (Wq.drewN nq2) B M v3 8 k3 s3 ((b16, .cells #[.int .i64 ((q2 : Nat) : Int)] 3 (0, 0)) :: (g2, .cells (scs s3.slots).toArray 58 (0, 0)) :: Hd) (One W8.heap.size) := (KQ.out.later (Chg.drewN (Chg.refl Wq _) nq2)).sub (fun p hp => by
            simp only [List.mem_cons] at hp ⊢
            rcases hp with hp | hp | hp
            · exact .inr (.inr (.inr (.inl hp)))
            · exact .inr (.inr (.inl hp))
            · exact .inr (.inr (.inr (.inr hp))))
          have hC9 : Chg (Wq.drewN nq2) W9 (fun i => i = b16) := by rw [hW9]; exact Chg.setCell (S := fun i => i = b16) (Chg.refl _ _) (.inl rfl) _
          have hb9 : W9.heap[b16]? = some (.cells #[.int .i64 ((q2 + 1 : Nat) : Int)] 3 (0, 0)) := by
            rw [hW9]
            exact heap_setCell_same _ b16 0 _ 3 _ (hQ2.hs (b16, .cells #[.int .i64 ((q2 : Nat) : Int)] 3 (0, 0)) (by simp))
          have h9 := hQ2.put hC9 hb9 HB2.out.1 (fun p hp => by
            rcases List.mem_cons.1 hp with rfl | hp
            · have := HB2.out.2; simp; omega
            · exact HC2.out.2.2.2 p hp)
          have h10 := h9.sub (H' := (g2, .cells (scs s3.slots).toArray 58 (0, 0)) :: (b16, .cells #[.int .i64 ((q2 + 1 : Nat) : Int)] 3 (0, 0)) :: Hd) (fun p hp => by
            simp only [List.mem_cons] at hp ⊢
            rcases hp with hp | hp | hp
            · exact .inr (.inl hp)
            · exact .inl hp
            · exact .inr (.inr hp))
          have hfin : (∀ i, One W8.heap.size i → W9.heap[i]? = Wq.heap[i]?) ∧ ((Lx w W9 B M v3 8 k3 s3 ((g2, .cells (scs s3.slots).toArray 58 (0, 0)) :: (b16, .cells #[.int .i64 ((q2 + 1 : Nat) : Int)] 3 (0, 0)) :: Hd) (One W8.heap.size) ∧ W8.heap.size + 1 ≤ g2) ∧ aKpD 1 W8 s3 g2 Wq W9) :=
            ⟨fun i hi => (hC9.block i (by have e' : i = W8.heap.size := hi; show i < Wq.heap.size; omega) (fun e => by have := HB2.out.2; have e' : i = W8.heap.size := hi; omega)), ⟨h10, hg2⟩, fun _ _ => h10.hs (g2, .cells (scs s3.slots).toArray 58 (0, 0)) (by simp)⟩
          rw [hW9] at hfin
          exact hfin
        case done2 =>
          rintro g2 Wq ⟨h, hg2⟩
          rw [← HM2.out.1] at h
          have f16 : Wq.cell? ⟨b16, 0, none⟩ = some (.int .i64 ((L2 : Nat) : Int)) := by rw [(cells_at (h.hs (b16, .cells #[.int .i64 ((L2 : Nat) : Int)] 3 (0, 0)) (by simp)) _).1]; rfl
          have f15 : Wq.cell? ⟨b15, 0, none⟩ = some (.slice va2 L2 vc2) := by rw [(cells_at (h.hs (b15, .cells #[.slice va2 L2 vc2] 55 (0, 0)) (by simp [HC2.out.2.1])) _).1]; rfl
          have h3 : Lx w Wq B M v3 8 k3 s3 ((b11, .cells #[.int .i64 ((q : Nat) : Int)] 3 (0, 0)) :: (W7.heap.size, o0) :: (W7.heap.size + 1, .loop r0) :: (g, .cells (scs s.slots).toArray 58 (0, 0)) :: Hc) (fun _ => False) := (h.sub (fun p hp => by
            refine List.mem_cons_of_mem _ (List.mem_cons_of_mem _ (HC2.out.1 p ?_))
            rw [KH.out]
            simp only [List.mem_cons] at hp ⊢
            rcases hp with hp | hp | hp | hp | hp
            · exact .inr (.inr (.inr (.inr (.inr (.inl hp)))))
            · exact .inl hp
            · exact .inr (.inl hp)
            · exact .inr (.inr (.inr (.inr (.inl hp))))
            · exact .inr (.inr (.inr (.inr (.inr (.inr hp))))))).why (fun _ h => h.elim)
          have x11 := h3.hs (b11, .cells #[.int .i64 ((q : Nat) : Int)] 3 (0, 0)) (by simp)
          have f11 : Wq.cell? ⟨b11, 0, none⟩ = some (.int .i64 ((q : Nat) : Int)) := by rw [(cells_at x11 _).1]; rfl
          have z11 : Wq.frozen? ⟨b11, 0, none⟩ = false := (cells_at x11 _).2
          have w64 : IntKind.i64.wrap ((q : Int) + 1) = ((q + 1 : Nat) : Int) := by simp [IntKind.wrap, IntKind.bits, IntKind.signed]; omega
          have hne2 : ((L2 : Int) != (L2 : Int)) = false := by simp
          have KQ : Hid (Lx w Wq B M v3 8 k3 s3 ((b11, .cells #[.int .i64 ((q : Nat) : Int)] 3 (0, 0)) :: (W7.heap.size, o0) :: (W7.heap.size + 1, .loop r0) :: (g, .cells (scs s.slots).toArray 58 (0, 0)) :: Hc) (fun _ => False)) := h3
          clear h h3 x11
          gi_wp2
          clear f16 f15 f11 z11
          obtain ⟨W9, hW9⟩ : ∃ W, W = Wq.setCell ⟨b11, 0, none⟩ (.int .i64 ((q + 1 : Nat) : Int)) := ⟨_, rfl⟩
          have hC9 : Chg Wq W9 (fun i => i = b11) := by rw [hW9]; exact Chg.setCell (S := fun i => i = b11) (Chg.refl _ _) (.inl rfl) _
          have hb9 : W9.heap[b11]? = some (.cells #[.int .i64 ((q + 1 : Nat) : Int)] 3 (0, 0)) := by
            rw [hW9]
            exact heap_setCell_same _ b11 0 _ 3 _ (KQ.out.hs (b11, .cells #[.int .i64 ((q : Nat) : Int)] 3 (0, 0)) (by simp))
          have h9 := KQ.out.put hC9 hb9 HB.out.1 (fun p hp => by
            simp only [List.mem_cons] at hp
            have := HB.out.2
            rcases hp with rfl | rfl | rfl | hp
            · simp; omega
            · simp; omega
            · simp; omega
            · exact HC.out.2.2.2 p hp)
          have t0 := h9.hs (W7.heap.size, o0) (by simp)
          have t1 := h9.hs (W7.heap.size + 1, .loop r0) (by simp)
          have hfin : (∀ i, Two W7.heap.size i → W9.heap[i]? = W.heap[i]?) ∧ ((∃ v' k' s', Lx w W9 B M v' 8 k' s' ((g, .cells (scs s.slots).toArray 58 (0, 0)) :: (b11, .cells #[.int .i64 ((q + 1 : Nat) : Int)] 3 (0, 0)) :: Hc) (Two W7.heap.size) ∧ k' ≤ 100 + 5 * (q + 1) ∧ W7.heap.size + 2 ≤ g) ∧ aKpD 2 W7 s g W W9) := by
            refine ⟨fun i hi => ?_, ⟨v3, k3, s3, (h9.sub (fun p hp => ?_)).why (fun i hi => ?_), by omega, hg⟩, fun _ _ => h9.hs (g, .cells (scs s.slots).toArray 58 (0, 0)) (by simp)⟩
            · rcases hi with rfl | rfl
              · rw [KW.out.1]; exact t0
              · rw [KW.out.2]; exact t1
            · simp only [List.mem_cons] at hp ⊢
              rcases hp with hp | hp | hp
              · exact .inr (.inr (.inr (.inl hp)))
              · exact .inl hp
              · exact .inr (.inr (.inr (.inr hp)))
            · rcases hi with rfl | rfl
              · exact .inr ⟨h9.hs.lt (p := (W7.heap.size, o0)) (by simp), h9.ap (W7.heap.size, o0) (by simp)⟩
              · exact .inr ⟨h9.hs.lt (p := (W7.heap.size + 1, .loop r0)) (by simp), h9.ap (W7.heap.size + 1, .loop r0) (by simp)⟩
          rw [hW9] at hfin
          exact hfin
      clear p0 p1 p2 p3 d0 d1 e0 e1 f11 f10 n31 n36
      have KD : Hid (Lx w (W.drewN nq) B M v' 8 k' s' HH (Two W7.heap.size)) := K2.out.later (Chg.drewN (Chg.refl W _) nq)
      clear hKk
      gi_loopw [14] (fun s14 wr => ∃ (v3 : Value) (s3 : Sta) (k3 j : Nat), s14 = .int .i64 j ∧ j ≤ l1 ∧ j ≤ 5 ∧ k3 ≤ k' + j ∧ Hid (Lx w wr B M v3 8 k3 s3 HH (Two W7.heap.size))) (fun s14 _ => 5 - (intOf s14).toNat)
      case atStart => exact ⟨v', s', k', 0, rfl, by omega, by omega, by omega, KD⟩
      case round =>
        obtain ⟨v3, s3, k3, j, rfl, hjl, hj5, hkj, HI⟩ := hrel
        have f3 : wr.cell? ⟨b3, 0, none⟩ = some (.slice a1 l1 c1) := by rw [(cells_at (HI.out.hs _ KM.out.1) _).1]; rfl
        by_cases hj1 : j < l1
        · have hz1 : (j : Int) < (l1 : Int) := by omega
          by_cases hj2 : j < 5
          · have hz2 : (j : Int) < 5 := by omega
            clear HX
            obtain ⟨b0, off0, hab, hb0, hcells⟩ := KV.out.src.resolve_left (by omega)
            subst hab
            have huo := KV.out.ok j hj1
            obtain ⟨u0, u1, u2⟩ := hcells j hj1
            have htk : TOk (uTag (G j)) := uTag_ok _
            have hTag := tag_any wr.drew (G j) huo
            unfold uV tV at hTag
            generalize uTag (G j) = t at hTag htk
            generalize (G j).1 = y0 at hTag u0
            generalize (G j).2.1 = y1 at hTag u1
            generalize (G j).2.2 = y2 at hTag u2
            have hS1 : Su22 b6 B b3 b0 off0 l1 c1 (off0 + j * 3) y0 y1 y2 wr.drew :=
              ⟨by show wr.cell? _ = _; rw [(cells_at (HI.out.hs _ KM.out.2.1) _).1]; rfl, f3, Kp.cell HI.out.kp u0, Kp.cell HI.out.kp u1, Kp.cell HI.out.kp u2⟩
            clear hcells huo u0 u1 u2
            gi_wp2_with fail
            clear f3
            refine wpIn_ok ?_
            refine region_round _ _ (Su22 b6 B b3 b0 off0 l1 c1 (off0 + j * 3) y0 y1 y2) hmx okEnd_out (by kernel_rfl) ?_
            refine wpAnyH_take (i := 0) (oi := { dst := some 102, op := Go.Op.load 26 (Go.Operand.tmp 6), type := 26, pos := "law.go:450", after := #[], guard := none }) (v := .pointer (some ⟨B, 0, none⟩)) rfl (by kernel_rfl) (by kernel_rfl) (by kernel_rfl) (fun _ _ _ h => h) (Or.inl ⟨by rfl, ?_⟩) hS1 ?_
            · rintro wx ⟨d0, d1, d2, d3, d4⟩
              go_simp
            simp only [Act.put, List.setIfInBounds_toArray, List.set_cons_zero, List.set_cons_succ]
            refine wpAnyH_take (i := 1) (oi := { dst := some 103, op := Go.Op.load 41 (Go.Operand.tmp 3), type := 41, pos := "law.go:450", after := #[], guard := none }) (v := .slice (some ⟨b0, off0, none⟩) l1 c1) rfl (by kernel_rfl) (by kernel_rfl) (by kernel_rfl) (fun _ _ _ h => h) (Or.inl ⟨by rfl, ?_⟩) hS1 ?_
            · rintro wx ⟨d0, d1, d2, d3, d4⟩
              go_simp
            simp only [Act.put, List.setIfInBounds_toArray, List.set_cons_zero, List.set_cons_succ]
            refine wpAnyH_take (i := 2) (oi := { dst := some 104, op := Go.Op.move (Go.Operand.tmp 14), type := 3, pos := "law.go:450", after := #[], guard := none }) (v := .int .i64 ((j : Nat) : Int)) rfl (by kernel_rfl) (by kernel_rfl) (by kernel_rfl) (fun _ _ _ h => h) (Or.inl ⟨by rfl, ?_⟩) hS1 ?_
            · rintro wx ⟨d0, d1, d2, d3, d4⟩
              go_simp
            simp only [Act.put, List.setIfInBounds_toArray, List.set_cons_zero, List.set_cons_succ]
            refine wpAnyH_take (i := 3) (oi := { dst := some 105, op := Go.Op.indexAddr 41 (Go.Operand.tmp 103) (Go.Operand.tmp 104), type := 0, pos := "law.go:450", after := #[{ on := 1, ground := Go.Ground.data }, { on := 2, ground := Go.Ground.data }], guard := none }) (v := .pointer (some ⟨b0, off0 + j * 3, none⟩)) rfl (by kernel_rfl) (by kernel_rfl) (by kernel_rfl) (fun _ _ _ h => h) (Or.inl ⟨by rfl, ?_⟩) hS1 ?_
            · rintro wx ⟨d0, d1, d2, d3, d4⟩
              go_simp
            simp only [Act.put, List.setIfInBounds_toArray, List.set_cons_zero, List.set_cons_succ]
            refine wpAnyH_take (i := 4) (oi := { dst := some 106, op := Go.Op.load 44 (Go.Operand.tmp 105), type := 44, pos := "law.go:450", after := #[{ on := 3, ground := Go.Ground.data }], guard := none }) (v := .agg #[.int .i64 y0, .int .i64 y1, .int .i64 y2]) rfl (by kernel_rfl) (by kernel_rfl) (by kernel_rfl) (fun _ _ _ h => h) (Or.inl ⟨by rfl, ?_⟩) hS1 ?_
            · rintro wx ⟨d0, d1, d2, d3, d4⟩
              go_simp
            simp only [Act.put, List.setIfInBounds_toArray, List.set_cons_zero, List.set_cons_succ]
            refine wpAnyH_take (i := 6) (oi := { dst := some 108, op := Go.Op.build 36 #[(0, Go.Operand.const (Go.Value.int Go.IntKind.u32 77))], type := 36, pos := "law.go:450", after := #[], guard := none }) (v := .agg #[.int .u32 77, .int .u8 0]) rfl (by kernel_rfl) (by kernel_rfl) (by kernel_rfl) (fun _ _ _ h => h) (Or.inl ⟨by rfl, ?_⟩) hS1 ?_
            · rintro wx ⟨d0, d1, d2, d3, d4⟩
              go_simp
            simp only [Act.put, List.setIfInBounds_toArray, List.set_cons_zero, List.set_cons_succ]
            refine wpAnyH_ready (rs := [5]) (by kernel_rfl) (by simp) ?_
            refine AllReadyH.cons (o := { dst := some 107, op := Go.Op.call { callee := Go.Callee.value (Go.Operand.func 15), args := #[Go.Operand.tmp 106], argTypes := #[44] }, type := 31, pos := "law.go:450", after := #[{ on := 4, ground := Go.Ground.data }], guard := none }) rfl (fun K hK => ?_) AllReadyH.nil
            rw [if_pos (by rfl)]
            go_simp
            refine hTag.mono ?_
            rintro e W2 ⟨rfl, hk2⟩
            have hk2' : Kp wr W2 := ⟨hk2.os, hk2.tape, hk2.output, hk2.size, hk2.block⟩
            have hL2 := HI.out.later hk2'
            have hP := Put_any W2 B M v3 8 k3 s3 hL2.t t htk (77, 0) (by unfold MOk; simp) (by omega)
            generalize s3.gone 8 t = gn at hP
            generalize s3.went 8 t = wn at hP
            unfold tV mV at hP
            have hS2 : Su22 b6 B b3 b0 off0 l1 c1 (off0 + j * 3) y0 y1 y2 W2 := ⟨Kp.cell hk2' hS1.1, Kp.cell hk2' hS1.2.1, Kp.cell hk2' hS1.2.2.1, Kp.cell hk2' hS1.2.2.2.1, Kp.cell hk2' hS1.2.2.2.2⟩
            refine hK.out _ _ hS2 (fun hS3 => ?_)
            clear hK K hTag
            refine wpAnyH_ready (rs := [7]) (by kernel_rfl) (by simp) ?_
            refine AllReadyH.cons (o := { dst := some 109, op := Go.Op.call { callee := Go.Callee.value (Go.Operand.func 12), args := #[Go.Operand.tmp 102, Go.Operand.tmp 107, Go.Operand.tmp 108], argTypes := #[26, 31, 36] }, type := 32, pos := "law.go:450", after := #[{ on := 0, ground := Go.Ground.data }, { on := 5, ground := Go.Ground.data }, { on := 6, ground := Go.Ground.data }, { on := 5, ground := Go.Ground.chain }], guard := none }) rfl (fun K hK => ?_) AllReadyH.nil
            rw [if_pos (by rfl)]
            go_simp
            refine hP.mono ?_
            rintro e W3 ⟨rfl, v4, hT3, hC3, hL3⟩
            have KX2 : Hid (Lx w W3 B M v4 8 (k3 + 1) (s3.put 8 t (77, 0)) HH (Two W7.heap.size)) := hL2.step hT3 hC3 hL3
            have hS4 : Su22 b6 B b3 b0 off0 l1 c1 (off0 + j * 3) y0 y1 y2 W3 := by
              obtain ⟨q1, q2, q3, q4, q5⟩ := hS2
              have hb6 := KX2.out.hs _ KM.out.2.1
              have hb3 := KX2.out.hs _ KM.out.1
              have hnf : ¬ Ft B M v3 b0 := fun e => by have h1 := HI.out.new b0 e; omega
              have hbl : b0 < W2.heap.size := by have := hk2'.size; have := HI.out.kp.size; omega
              exact ⟨by rw [(cells_at hb6 _).1]; rfl, by rw [(cells_at hb3 _).1]; rfl, (hC3.cell hbl hnf).trans q3, (hC3.cell hbl hnf).trans q4, (hC3.cell hbl hnf).trans q5⟩
            refine hK.out _ _ hS4 (fun hS5 => ?_)
            clear hK K
            refine wpAnyH_done (by kernel_rfl) ?_ _
            unfold okEnd
            clear hS5 hS4 hS3 hS2 hS1 hP hT3 hC3 hL3 hL2 hk2 hk2' HI
            have f6 : W3.cell? ⟨b6, 0, none⟩ = some (.pointer (some ⟨B, 0, none⟩)) := by rw [(cells_at (KX2.out.hs _ KM.out.2.1) _).1]; rfl
            obtain ⟨d0, d1, _, _⟩ := cells2 (KX2.out.hs _ KM.out.2.2.2.2)
            have hDr := Drop_any W3 B M v4 8 (k3 + 1) _ KX2.out.t x.1
            generalize s3.put 8 t (77, 0) = s4 at hDr KX2
            generalize decide (x.1 ∈ s4.l) = rd at hDr
            unfold tV at hDr
            gi_wp2_with fail
            refine ⟨trivial, ?_⟩
            gi_at_call 18
            refine (CallsIn.inRound _ (callsIn_wide.2 hDr)).mono ?_
            rintro e W4 ⟨rfl, v5, hT5, hv5, hC5⟩
            have KX3 : Hid (Lx w W4 B M v5 8 (k3 + 1) (s4.drop (isTag x.1)) HH (Two W7.heap.size)) := KX2.out.step hT5 hC5 (.inl hv5)
            clear hDr hT5 hv5 hC5 f6 d0 d1 KX2
            gi_wp2
            exact ⟨⟨v5, _, k3 + 1, j + 1, by go_num, by omega, by omega, by omega, KX3⟩, by simp [intOf]; omega⟩
          · have hz2 : ¬ (j : Int) < 5 := by omega
            gi_wp2_with fail
            exact HX _ _ _ _ _ _ _ _ _ _ _ _ _ _ _ _ _ _ _ _ _ _ _ _ _ _ _ _ _ _ _ _ _ _ _ _ _ _ _ _ _ _ _ _ _ v3 k3 s3 (by omega) HI
        · have hz1 : ¬ (j : Int) < (l1 : Int) := by omega
          gi_wp2_with fail
          exact HX _ _ _ _ _ _ _ _ _ _ _ _ _ _ _ _ _ _ _ _ _ _ _ _ _ _ _ _ _ _ _ _ _ _ _ _ _ _ _ _ _ _ _ _ _ v3 k3 s3 (by omega) HI
    case done =>
      rintro g W ⟨v', k', s', h, hk', hg⟩ hD
      rw [← HM.out.1] at h hk'
      have h1 : Lx w W B M v' 8 k' s' ((W7.heap.size, .deferred (some [])) :: (b11, .cells #[.int .i64 ((L : Nat) : Int)] 3 (0, 0)) :: Hc) (fun _ => False) := ((h.sub (fun p hp => List.mem_cons_of_mem _ hp)).cons hD (h.yap _ (.inl rfl))).why (fun _ h => h.elim)
      have KA : Hid (Lx w W B M v' 8 k' s' ((W7.heap.size, .deferred (some [])) :: (b11, .cells #[.int .i64 ((L : Nat) : Int)] 3 (0, 0)) :: Hc) (fun _ => False)) := h1
      have f11 : W.cell? ⟨b11, 0, none⟩ = some (.int .i64 ((L : Nat) : Int)) := by rw [(cells_at (h1.hs (b11, .cells #[.int .i64 ((L : Nat) : Int)] 3 (0, 0)) (by simp)) _).1]; rfl
      have f10 : W.cell? ⟨b10, 0, none⟩ = some (.slice va L vc) := by rw [(cells_at (h1.hs (b10, .cells #[.slice va L vc] 55 (0, 0)) (by simp [HC.out.2.1])) _).1]; rfl
      have m6' := HC.out.1 (b6, .cells #[.pointer (some ⟨B, 0, none⟩)] 26 (0, 0)) (by simp [H0])
      have m8' := HC.out.1 (b8, .cells #[.func (.func 37) #[] #[.pointer (some ⟨bq, 0, none⟩)]] 53 (0, 0)) (by simp [H0])
      have mq' := HC.out.1 (bq, .cells #[.pointer (some ⟨B, 0, none⟩)] 26 (0, 0)) (by simp [H0])
      have m4' := HC.out.1 (b4, .cells #[.bool false] 4 (0, 0)) (by simp [H0])
      have KM : Hid ((b6, .cells #[.pointer (some ⟨B, 0, none⟩)] 26 (0, 0)) ∈ Hc ∧ (b8, .cells #[.func (.func 37) #[] #[.pointer (some ⟨bq, 0, none⟩)]] 53 (0, 0)) ∈ Hc ∧ (bq, .cells #[.pointer (some ⟨B, 0, none⟩)] 26 (0, 0)) ∈ Hc ∧ (b4, .cells #[.bool false] 4 (0, 0)) ∈ Hc) := ⟨m6', m8', mq', m4'⟩
      have hne : ((L : Int) != (L : Int)) = false := by simp
      have f6 : W.cell? ⟨b6, 0, none⟩ = some (.pointer (some ⟨B, 0, none⟩)) := by rw [(cells_at (h1.hs (b6, .cells #[.pointer (some ⟨B, 0, none⟩)] 26 (0, 0)) (by simp [m6'])) _).1]; rfl
      have hkk : k' ≤ 420 := by omega
      have hSa := Slots_any W B M v' 8 k' s' h1.t
      clear h h1 hD hg m6' m8' mq' m4' hseq hk'
      go_wp2_with fail
      go_at_call 21
      refine hSa.mono ?_
      rintro e Wa ⟨vb, rfl, hb2, hbn, hk2⟩
      obtain ⟨aa, ac, rfl⟩ := hb2.form
      obtain ⟨Ra, hR1, hR2, hR3⟩ := hb2.blocks
      obtain ⟨La, hLa⟩ : ∃ L, L = s'.slots.length := ⟨_, rfl⟩
      rw [← hLa] at hb2 hbn hR2 hR3 ⊢
      have hLa64 : La ≤ 64 := by rw [hLa, s'.slots_len]; have := KA.out.t.ok.len; omega
      obtain ⟨He, hHe⟩ : ∃ y : HL, y = (W7.heap.size, .deferred (some [])) :: (Ra ++ Hc) := ⟨_, rfl⟩
      have KE : Hid ((∀ p ∈ Hc, p ∈ He) ∧ (∀ p ∈ Ra, p ∈ He) ∧ (W7.heap.size, .deferred (some [])) ∈ He) := by
        rw [hHe]
        exact ⟨fun p hp => by simp [hp], fun p hp => by simp [hp], by simp⟩
      have KL : Hid (Lx w Wa B M v' 8 k' s' ((b11, .cells #[.int .i64 ((L + 0 : Nat) : Int)] 3 (0, 0)) :: He) (fun _ => False) ∧ (∀ p ∈ He, p.1 ≠ b11)) := by
        have h5 := KA.out.later hk2
        rw [hHe]
        refine ⟨⟨h5.t, h5.kp, h5.new, fun p hp => ?_, fun p hp hf => ?_, h5.yap, h5.ylt⟩, fun p hp e => ?_⟩
        · simp only [List.mem_cons, List.mem_append] at hp
          rcases hp with hp | hp | hp | hp
          · exact h5.hs p (by rw [hp]; simp)
          · exact h5.hs p (by rw [hp]; simp)
          · exact hR1 p hp
          · exact h5.hs p (by simp [hp])
        · simp only [List.mem_cons, List.mem_append] at hp
          rcases hp with hp | hp | hp | hp
          · exact h5.ap p (by rw [hp]; simp) hf
          · exact h5.ap p (by rw [hp]; simp) hf
          · have h1 := hbn _ (hR2 p hp)
            have h2 := KA.out.t.lt hf
            omega
          · exact h5.ap p (by simp [hp]) hf
        · simp only [List.mem_cons, List.mem_append] at hp
          have := HB.out.2
          rcases hp with hp | hp | hp
          · rw [hp] at e; simp at e; omega
          · have h1 := hbn _ (hR2 p hp)
            have h2 := KA.out.hs.lt (p := (b11, .cells #[.int .i64 ((L : Nat) : Int)] 3 (0, 0))) (by simp)
            simp at h2
            omega
          · exact HC.out.2.2.2 p hp e
      have KN1 : Hid (W7.heap.size < Wa.heap.size) := KL.out.1.hs.lt (p := (W7.heap.size, .deferred (some []))) (List.mem_cons_of_mem _ KE.out.2.2)
      have HMa : Hid (La = s'.slots.length ∧ (∀ W', Hs Ra W' → SlotsIn W' aa La s'.slots)) := ⟨hLa, hR3⟩
      clear hSa hb2 hbn hk2 hR1 hR2 hR3 hLa hHe KA f11 f10 f6 hne
      have x8 := KL.out.1.hs _ (List.mem_cons_of_mem _ (KE.out.1 _ KM.out.2.1))
      have c8 : Wa.cell? ⟨b8, 0, none⟩ = some (.func (.func 37) #[] #[.pointer (some ⟨bq, 0, none⟩)]) := by rw [(cells_at x8 _).1]; rfl
      have xq := KL.out.1.hs _ (List.mem_cons_of_mem _ (KE.out.1 _ KM.out.2.2.1))
      have hseq := all_seqD 2 Wa 6 B M v' 8 k' s' KL.out.1.t bq (by rw [(cells_at xq _).1]; rfl)
      have hbl2 : ∀ (q : Nat) (p : Nat × Obj), p ∈ ((b11, .cells #[.int .i64 ((L + q : Nat) : Int)] 3 (0, 0)) :: He : HL) → p.1 < Wa.heap.size := fun q p hp => by
        rcases List.mem_cons.1 hp with rfl | hp
        · exact KL.out.1.hs.lt (p := (b11, .cells #[.int .i64 ((L + 0 : Nat) : Int)] 3 (0, 0))) (by simp)
        · exact KL.out.1.hs.lt (List.mem_cons_of_mem _ hp)
      clear x8 xq
      go_wp2_with fail
      clear c8
      refine (wpIn_wide (n := 8)).1 ?_
      refine range_ownH (gf := 37) rfl (enters_of Try.func37 (by kernel_rfl) rfl) hseq (fun _ _ => rfl)
        (fun g q W => Lx w W B M v' 8 k' s' ((g, .cells (scs s'.slots).toArray 58 (0, 0)) :: (b11, .cells #[.int .i64 ((L + q : Nat) : Int)] 3 (0, 0)) :: He) (Two Wa.heap.size) ∧ Wa.heap.size + 2 ≤ g)
        (fun _ _ => False) ?_ (fun _ _ _ h _ => h) ?_ ?_ ?_
        (fun g q a' W => a' = ⟨#[.slice a la ca, .slice a1 l1 c1, undef, .pointer (some ⟨b3, 0, none⟩), .pointer (some ⟨b4, 0, none⟩), .bool true, .pointer (some ⟨b6, 0, none⟩), .int .i64 0, .pointer (some ⟨b8, 0, none⟩), u9, .pointer (some ⟨b10, 0, none⟩), .pointer (some ⟨b11, 0, none⟩), undef, undef, undef, undef, undef, undef, undef, .slice aa La ac, undef, undef, undef, undef, undef, undef, .bool true, .tuple #[.pointer (some ⟨B, 0, none⟩), .int .i64 0], .tuple #[.pointer (some ⟨B, 0, none⟩), .int .i64 0], .pointer (some ⟨B, 0, none⟩), .int .i64 0, .bool true, .bool false, .bool false, .int .i64 0, .bool false, .bool false, .bool false, .pointer (some ⟨B, 0, none⟩), .bool false, .bool false, .pointer (some ⟨B, 0, none⟩), .func (.func 37) #[] #[.pointer (some ⟨bq, 0, none⟩)], .func (.func 37) #[] #[.pointer (some ⟨bq, 0, none⟩)], .bool false, u45, u46, u47, u48, u49, u50, u51, u52, u53, u54, u55, u56, u57, u58, u59, u60, u61, u62, u63, u64, .pointer (some ⟨B, 0, none⟩), .slice va L vc, .func (.func 37) #[] #[.pointer (some ⟨bq, 0, none⟩)], undef, undef, undef, undef, undef, undef, undef, undef, undef, undef, undef, undef, undef, undef, undef, undef, undef, undef, undef, undef, undef, undef, undef, undef, undef, undef, undef, undef, undef, undef, undef, undef, undef, undef, undef, undef, undef, undef, undef, undef, undef, undef, undef, undef, undef, undef, undef, undef, undef, undef, undef, undef, undef, undef, undef, undef, undef, undef, undef, undef, undef, undef, undef, undef, undef, undef, undef, undef, undef, undef, undef, undef, undef, undef, undef, undef, undef, undef, undef, undef, .int .i64 ((L : Nat) : Int), .slice va L vc, .int .i64 ((L : Nat) : Int), .bool false, .pointer (some ⟨B, 0, none⟩), .slice aa La ac, .func (.func 37) #[] #[.pointer (some ⟨bq, 0, none⟩)], .agg #[.int .i64 (sAt s' q).1.1, .int .u32 (((sAt s' q).1.2 : Nat) : Int)], .agg #[.int .u32 (((sAt s' q).2.1 : Nat) : Int), .int .u8 (((sAt s' q).2.2 : Nat) : Int)], undef, undef, undef, undef, undef, undef, undef, undef, undef, undef, undef, undef, undef, undef, undef, undef, undef, undef, undef, undef, undef, undef, undef, undef, undef, undef, undef, undef, undef, undef, undef, undef, undef, undef, undef, undef, undef, undef, undef, undef, undef, undef, undef, undef, undef, undef, undef, undef, undef, undef], []⟩) (fun _ _ _ _ _ h _ => h) ?assignA ?bodyA ?doneA (fun _ _ h => h.elim)
      · rintro g q A C ⟨h, hg⟩ hC
        refine ⟨h.other hC (fun i hi => h.yap i hi) (fun i hi => by have := KL.out.1.kp.size; rcases hi with e | e <;> omega) (fun p hp e => ?_), hg⟩
        rcases List.mem_cons.1 hp with rfl | hp
        · rcases e with e | e <;> simp at e <;> omega
        · have := hbl2 q p hp
          rcases e with e | e <;> omega
      · intro g A C D hAC hK hg hrow
        exact hK hg (Chg.heap hAC hrow (by rintro (e | e) <;> omega))
      · intro g A C D hK hCD hg hrow
        exact Chg.heap hCD (hK hg hrow) (by rintro (e | e) <;> omega)
      · intro g Wq Wq1 hW hsq hG
        obtain ⟨g1, g2, g3⟩ := hG
        refine ⟨⟨((KL.out.1.later hW).laid g1 g3 (by omega)).why (fun i hi => .inr ⟨?_, fun hf => ?_⟩), by omega⟩, g1⟩
        · have := g1.size
          rcases hi with e | e <;> omega
        · have := KL.out.1.t.lt hf
          rcases hi with e | e <;> omega
      case assignA =>
        rintro g q Wq K' hq hI hsq hK'
        unfold aArgs
        gi_wp2
        exact hK' _ _ (Chg.refl _ _) rfl
      case bodyA =>
        rintro g q a' Wq hq _ ⟨h, hg⟩ rfl hsq
        have hqL : q < La := by rw [HMa.out.1]; exact hq
        have hQ2 : Lx w Wq B M v' 8 k' s' ((b11, .cells #[.int .i64 ((L + q : Nat) : Int)] 3 (0, 0)) :: (g, .cells (scs s'.slots).toArray 58 (0, 0)) :: He) (Two Wa.heap.size) := h.sub (fun p hp => by
          simp only [List.mem_cons] at hp ⊢
          rcases hp with hp | hp | hp
          · exact .inr (.inl hp)
          · exact .inl hp
          · exact .inr (.inr hp))
        have x11 := hQ2.hs (b11, .cells #[.int .i64 ((L + q : Nat) : Int)] 3 (0, 0)) (by simp)
        have f11 : Wq.cell? ⟨b11, 0, none⟩ = some (.int .i64 ((L + q : Nat) : Int)) := by rw [(cells_at x11 _).1]; rfl
        have z11 : Wq.frozen? ⟨b11, 0, none⟩ = false := (cells_at x11 _).2
        have hb11 : b11 < Wa.heap.size := hbl2 q (b11, .cells #[.int .i64 ((L + q : Nat) : Int)] 3 (0, 0)) (by simp)
        have KQ : Hid (Lx w Wq B M v' 8 k' s' ((b11, .cells #[.int .i64 ((L + q : Nat) : Int)] 3 (0, 0)) :: (g, .cells (scs s'.slots).toArray 58 (0, 0)) :: He) (Two Wa.heap.size)) := hQ2
        obtain ⟨lq, hlq⟩ : ∃ z : Nat, z = L + q := ⟨_, rfl⟩
        have hlq1 : L + (q + 1) = lq + 1 := by omega
        rw [← hlq] at f11 KQ
        rw [hlq1]
        have w64 : IntKind.i64.wrap ((lq : Int) + 1) = ((lq + 1 : Nat) : Int) := by simp [IntKind.wrap, IntKind.bits, IntKind.signed]; omega
        clear h hQ2 x11 hlq hlq1
        gi_wp2
        clear f11 z11
        obtain ⟨W9, hW9⟩ : ∃ W, W = Wq.setCell ⟨b11, 0, none⟩ (.int .i64 ((lq + 1 : Nat) : Int)) := ⟨_, rfl⟩
        have hC9 : Chg Wq W9 (fun i => i = b11) := by rw [hW9]; exact Chg.setCell (S := fun i => i = b11) (Chg.refl _ _) (.inl rfl) _
        have hb9 : W9.heap[b11]? = some (.cells #[.int .i64 ((lq + 1 : Nat) : Int)] 3 (0, 0)) := by
          rw [hW9]
          exact heap_setCell_same _ b11 0 _ 3 _ (KQ.out.hs (b11, .cells #[.int .i64 ((lq : Nat) : Int)] 3 (0, 0)) (by simp))
        have h9 := KQ.out.put hC9 hb9 HB.out.1 (fun p hp => by
          rcases List.mem_cons.1 hp with rfl | hp
          · simp; omega
          · exact KL.out.2 p hp)
        have hfin : (∀ i, Two Wa.heap.size i → W9.heap[i]? = Wq.heap[i]?) ∧ ((Lx w W9 B M v' 8 k' s' ((g, .cells (scs s'.slots).toArray 58 (0, 0)) :: (b11, .cells #[.int .i64 ((lq + 1 : Nat) : Int)] 3 (0, 0)) :: He) (Two Wa.heap.size) ∧ Wa.heap.size + 2 ≤ g) ∧ aKpD 2 Wa s' g Wq W9) :=
          ⟨fun i hi => hC9.block i (by rcases hi with e | e <;> omega) (fun e => by rcases hi with e' | e' <;> omega), ⟨h9.sub (fun p hp => by
            simp only [List.mem_cons] at hp ⊢
            rcases hp with hp | hp | hp
            · exact .inr (.inl hp)
            · exact .inl hp
            · exact .inr (.inr hp)), hg⟩, fun _ _ => h9.hs (g, .cells (scs s'.slots).toArray 58 (0, 0)) (by simp)⟩
        rw [hW9] at hfin
        exact hfin
      case doneA =>
        rintro g Wq ⟨h, hg⟩ hDa
        have KA : Hid (Lx w Wq B M v' 8 k' s' ((Wa.heap.size, .deferred (some [])) :: He) (fun _ => False)) := ((h.sub (fun p hp => List.mem_cons_of_mem _ (List.mem_cons_of_mem _ hp))).cons hDa (h.yap _ (.inl rfl))).why (fun _ h => h.elim)
        clear h hDa hg hseq hbl2 KL
        have f6 : Wq.cell? ⟨b6, 0, none⟩ = some (.pointer (some ⟨B, 0, none⟩)) := by rw [(cells_at (KA.out.hs _ (List.mem_cons_of_mem _ (KE.out.1 _ KM.out.1))) _).1]; rfl
        have hSb := Slots_any Wq B M v' 8 k' s' KA.out.t
        go_wp2_with fail
        go_at_call 21
        refine hSb.mono ?_
        rintro e Wb ⟨vb, rfl, hb2, hbn, hk2⟩
        obtain ⟨ba, bc, rfl⟩ := hb2.form
        obtain ⟨Rb, hR1, hR2, hR3⟩ := hb2.blocks
        obtain ⟨Lb, hLb⟩ : ∃ L, L = s'.slots.length := ⟨_, rfl⟩
        rw [← hLb] at hb2 hbn hR2 hR3 ⊢
        obtain ⟨Hf, hHf⟩ : ∃ y : HL, y = (Wa.heap.size, .deferred (some [])) :: (Rb ++ He) := ⟨_, rfl⟩
        have KE2 : Hid ((∀ p ∈ He, p ∈ Hf) ∧ (∀ p ∈ Rb, p ∈ Hf) ∧ (Wa.heap.size, .deferred (some [])) ∈ Hf) := by
          rw [hHf]
          exact ⟨fun p hp => by simp [hp], fun p hp => by simp [hp], by simp⟩
        have KL : Hid (Lx w Wb B M v' 8 k' s' Hf (fun _ => False)) := by
          have h5 := KA.out.later hk2
          rw [hHf]
          refine ⟨h5.t, h5.kp, h5.new, fun p hp => ?_, fun p hp hf => ?_, h5.yap, h5.ylt⟩
          · simp only [List.mem_cons, List.mem_append] at hp
            rcases hp with hp | hp | hp
            · exact h5.hs p (by rw [hp]; simp)
            · exact hR1 p hp
            · exact h5.hs p (by simp [hp])
          · simp only [List.mem_cons, List.mem_append] at hp
            rcases hp with hp | hp | hp
            · exact h5.ap p (by rw [hp]; simp) hf
            · have h1 := hbn _ (hR2 p hp)
              have h2 := KA.out.t.lt hf
              omega
            · exact h5.ap p (by simp [hp]) hf
        have KN2 : Hid (Wa.heap.size < Wb.heap.size) := KL.out.hs.lt (p := (Wa.heap.size, .deferred (some []))) KE2.out.2.2
        have HMb : Hid (Lb = s'.slots.length ∧ (∀ W', Hs Rb W' → SlotsIn W' ba Lb s'.slots)) := ⟨hLb, hR3⟩
        clear hSb hb2 hbn hk2 hR1 hR2 hR3 hLb hHf KA f6
        have x8 := KL.out.hs _ (KE2.out.1 _ (KE.out.1 _ KM.out.2.1))
        have c8 : Wb.cell? ⟨b8, 0, none⟩ = some (.func (.func 37) #[] #[.pointer (some ⟨bq, 0, none⟩)]) := by rw [(cells_at x8 _).1]; rfl
        have xq := KL.out.hs _ (KE2.out.1 _ (KE.out.1 _ KM.out.2.2.1))
        have hseq := all_seqD 2 Wb 6 B M v' 8 k' s' KL.out.t bq (by rw [(cells_at xq _).1]; rfl)
        clear x8 xq
        go_wp2_with fail
        clear c8
        rename_i Kk hKk
        have HX : ∀ (Wz : World), Hid (Lx w Wz B M v' 8 k' s' ((Wb.heap.size, .deferred (some [])) :: Hf) (fun _ => False)) → Kk ⟨#[.slice a la ca, .slice a1 l1 c1, undef, .pointer (some ⟨b3, 0, none⟩), .pointer (some ⟨b4, 0, none⟩), .bool true, .pointer (some ⟨b6, 0, none⟩), .int .i64 0, .pointer (some ⟨b8, 0, none⟩), u9, .pointer (some ⟨b10, 0, none⟩), .pointer (some ⟨b11, 0, none⟩), undef, undef, undef, undef, undef, undef, undef, .slice aa La ac, .slice ba Lb bc, undef, undef, undef, undef, undef, .bool true, .tuple #[.pointer (some ⟨B, 0, none⟩), .int .i64 0], .tuple #[.pointer (some ⟨B, 0, none⟩), .int .i64 0], .pointer (some ⟨B, 0, none⟩), .int .i64 0, .bool true, .bool false, .bool false, .int .i64 0, .bool false, .bool false, .bool false, .pointer (some ⟨B, 0, none⟩), .bool false, .bool false, .pointer (some ⟨B, 0, none⟩), .func (.func 37) #[] #[.pointer (some ⟨bq, 0, none⟩)], .func (.func 37) #[] #[.pointer (some ⟨bq, 0, none⟩)], .bool false, u45, u46, u47, u48, u49, u50, u51, u52, u53, u54, u55, u56, u57, u58, u59, u60, u61, u62, u63, u64, .pointer (some ⟨B, 0, none⟩), .slice va L vc, .func (.func 37) #[] #[.pointer (some ⟨bq, 0, none⟩)], undef, undef, undef, undef, undef, undef, undef, undef, undef, undef, undef, undef, undef, undef, undef, undef, undef, undef, undef, undef, undef, undef, undef, undef, undef, undef, undef, undef, undef, undef, undef, undef, undef, undef, undef, undef, undef, undef, undef, undef, undef, undef, undef, undef, undef, undef, undef, undef, undef, undef, undef, undef, undef, undef, undef, undef, undef, undef, undef, undef, undef, undef, undef, undef, undef, undef, undef, undef, undef, undef, undef, undef, undef, undef, undef, undef, undef, undef, undef, undef, .int .i64 ((L : Nat) : Int), .slice va L vc, .int .i64 ((L : Nat) : Int), .bool false, .pointer (some ⟨B, 0, none⟩), .slice aa La ac, .func (.func 37) #[] #[.pointer (some ⟨bq, 0, none⟩)], undef, undef, undef, undef, .pointer (some ⟨B, 0, none⟩), .slice ba Lb bc, .func (.func 37) #[] #[.pointer (some ⟨bq, 0, none⟩)], undef, undef, undef, undef, undef, undef, undef, undef, undef, undef, undef, undef, undef, undef, undef, undef, undef, undef, undef, undef, undef, undef, undef, undef, undef, undef, undef, undef, undef, undef, undef, undef, undef, undef, undef, undef, undef, undef, undef, undef, undef, undef, undef, undef, undef], [{ target := .collected Wb.heap.size, args := #[] }, { target := .collected Wa.heap.size, args := #[] }, { target := .collected W7.heap.size, args := #[] }]⟩ Wz := by
          intro Wz KZ
          refine hKk _ _ ?_
          clear hKk hseq
          have f6 : Wz.cell? ⟨b6, 0, none⟩ = some (.pointer (some ⟨B, 0, none⟩)) := by rw [(cells_at (KZ.out.hs _ (List.mem_cons_of_mem _ (KE2.out.1 _ (KE.out.1 _ KM.out.1)))) _).1]; rfl
          have hP := Put_any Wz B M v' 8 k' s' KZ.out.t (3, 999) (by unfold TOk; simp) (5, 0) (by unfold MOk; simp) (by omega)
          obtain ⟨s5, hs5⟩ : ∃ x, x = s'.put 8 (3, 999) (5, 0) := ⟨_, rfl⟩
          rw [← hs5] at hP
          generalize s'.gone 8 (3, 999) = gn at hP
          generalize s'.went 8 (3, 999) = wn at hP
          unfold tV mV at hP
          clear hs5
          go_wp2_with fail
          go_at_call 12
          refine hP.mono ?_
          rintro e Wp ⟨rfl, v5, hT5, hC5, hL5⟩
          have KP : Hid (Lx w Wp B M v5 8 (k' + 1) s5 ((Wb.heap.size, .deferred (some [])) :: Hf) (fun _ => False)) := KZ.out.step hT5 hC5 hL5
          clear hP hT5 hC5 hL5 KZ f6
          have f6 : Wp.cell? ⟨b6, 0, none⟩ = some (.pointer (some ⟨B, 0, none⟩)) := by rw [(cells_at (KP.out.hs _ (List.mem_cons_of_mem _ (KE2.out.1 _ (KE.out.1 _ KM.out.1)))) _).1]; rfl
          have hSc := Slots_any Wp B M v5 8 (k' + 1) s5 KP.out.t
          go_wp2_with fail
          go_at_call 21
          refine hSc.mono ?_
          rintro e W6 ⟨vb, rfl, hb2, hbn, hk2⟩
          obtain ⟨ca2, cc2, rfl⟩ := hb2.form
          obtain ⟨Rc, hR1, hR2, hR3⟩ := hb2.blocks
          obtain ⟨Lc, hLc⟩ : ∃ L, L = s5.slots.length := ⟨_, rfl⟩
          rw [← hLc] at hb2 hbn hR2 hR3 ⊢
          have hLc64 : Lc ≤ 64 := by rw [hLc, s5.slots_len]; have := KP.out.t.ok.len; omega
          obtain ⟨Wc, hWc⟩ : ∃ W, W = (W6.alloc (.cells #[.slice ca2 Lc cc2] 55)).alloc (.cells #[.int .i64 0] 3) := ⟨_, rfl⟩
          obtain ⟨b21, hb21⟩ : ∃ b, b = W6.heap.size := ⟨_, rfl⟩
          obtain ⟨b22, hb22⟩ : ∃ b, b = W6.heap.size + 1 := ⟨_, rfl⟩
          have kc : Kp W6 Wc := by rw [hWc]; exact ((Chg.refl W6 _).alloc _).alloc _
          have x21 : Wc.heap[b21]? = some (.cells #[.slice ca2 Lc cc2] 55 (0, 0)) := by rw [hWc, hb21]; exact al_old _ (heap_alloc_new W6 _)
          have x22 : Wc.heap[b22]? = some (.cells #[.int .i64 ((0 : Nat) : Int)] 3 (0, 0)) := by
            have := heap_alloc_new (W6.alloc (.cells #[.slice ca2 Lc cc2] 55)) (.cells #[.int .i64 0] 3)
            rw [al_size] at this
            rw [hWc, hb22]; exact this
          have sc : Wc.heap.size = b21 + 2 := by rw [hWc, hb21]; simp
          obtain ⟨Hg, hHg⟩ : ∃ y : HL, y = (b21, .cells #[.slice ca2 Lc cc2] 55 (0, 0)) :: (Wb.heap.size, .deferred (some [])) :: (Rc ++ Hf) := ⟨_, rfl⟩
          have KE3 : Hid ((∀ p ∈ Hf, p ∈ Hg) ∧ (∀ p ∈ Rc, p ∈ Hg) ∧ (Wb.heap.size, .deferred (some [])) ∈ Hg ∧ (b21, .cells #[.slice ca2 Lc cc2] 55 (0, 0)) ∈ Hg) := by
            rw [hHg]
            exact ⟨fun p hp => by simp [hp], fun p hp => by simp [hp], by simp, by simp⟩
          have KC : Hid (Lx w Wc B M v5 8 (k' + 1) s5 ((b22, .cells #[.int .i64 ((0 : Nat) : Int)] 3 (0, 0)) :: Hg) (fun _ => False) ∧ (∀ p ∈ Hg, p.1 ≠ b22) ∧ w.heap.size ≤ b22 ∧ b22 < Wc.heap.size) := by
            have h5 := KP.out.later hk2
            have h6 : Lx w W6 B M v5 8 (k' + 1) s5 ((Wb.heap.size, .deferred (some [])) :: (Rc ++ Hf)) (fun _ => False) := by
              refine ⟨h5.t, h5.kp, h5.new, fun p hp => ?_, fun p hp hf => ?_, h5.yap, h5.ylt⟩
              · simp only [List.mem_cons, List.mem_append] at hp
                rcases hp with hp | hp | hp
                · exact h5.hs p (by rw [hp]; simp)
                · exact hR1 p hp
                · exact h5.hs p (by simp [hp])
              · simp only [List.mem_cons, List.mem_append] at hp
                rcases hp with hp | hp | hp
                · exact h5.ap p (by rw [hp]; simp) hf
                · have h1 := hbn _ (hR2 p hp)
                  have h2 := KP.out.t.lt hf
                  omega
                · exact h5.ap p (by simp [hp]) hf
            have h7 := (h6.laid kc x21 (by omega)).cons x22 (fun e => by have := h6.t.lt e; omega)
            rw [← hHg] at h7
            refine ⟨h7, fun p hp e => ?_, by have := h6.kp.size; omega, by omega⟩
            rw [hHg] at hp
            rcases List.mem_cons.1 hp with rfl | hp
            · simp at e; omega
            · have := h6.hs.lt hp
              omega
          have KN3 : Hid (Wb.heap.size < Wc.heap.size) := KC.out.1.hs.lt (p := (Wb.heap.size, .deferred (some []))) (List.mem_cons_of_mem _ KE3.out.2.2.1)
          have HMc : Hid (Lc = s5.slots.length ∧ (∀ W', Hs Rc W' → SlotsIn W' ca2 Lc s5.slots)) := ⟨hLc, hR3⟩
          clear hSc hb2 hbn hk2 hR1 hR2 hR3 hLc f6 KP hHg
          go_upto_region 45 with fail
          rw [← hWc, ← hb22, ← hb21]
          clear hWc hb21 hb22 kc x21 x22 sc
          have x8 := KC.out.1.hs _ (List.mem_cons_of_mem _ (KE3.out.1 _ (KE2.out.1 _ (KE.out.1 _ KM.out.2.1))))
          have c8 : Wc.cell? ⟨b8, 0, none⟩ = some (.func (.func 37) #[] #[.pointer (some ⟨bq, 0, none⟩)]) := by rw [(cells_at x8 _).1]; rfl
          have xq := KC.out.1.hs _ (List.mem_cons_of_mem _ (KE3.out.1 _ (KE2.out.1 _ (KE.out.1 _ KM.out.2.2.1))))
          have hseq := all_seqD 2 Wc 6 B M v5 8 (k' + 1) s5 KC.out.1.t bq (by rw [(cells_at xq _).1]; rfl)
          have hbl3 : ∀ (q : Nat) (p : Nat × Obj), p ∈ ((b22, .cells #[.int .i64 ((q : Nat) : Int)] 3 (0, 0)) :: Hg : HL) → p.1 < Wc.heap.size := fun q p hp => by
            rcases List.mem_cons.1 hp with rfl | hp
            · exact KC.out.2.2.2
            · exact KC.out.1.hs.lt (List.mem_cons_of_mem _ hp)
          clear x8 xq
          go_wp2_with fail
          clear c8
          refine (wpIn_wide (n := 8)).1 ?_
          refine range_ownH (gf := 37) rfl (enters_of Try.func37 (by kernel_rfl) rfl) hseq (fun _ _ => rfl)
            (fun g q W => Lx w W B M v5 8 (k' + 1) s5 ((g, .cells (scs s5.slots).toArray 58 (0, 0)) :: (b22, .cells #[.int .i64 ((q : Nat) : Int)] 3 (0, 0)) :: Hg) (Two Wc.heap.size) ∧ Wc.heap.size + 2 ≤ g)
            (fun _ _ => False) ?_ (fun _ _ _ h _ => h) ?_ ?_ ?_
            (fun g q a' W => ∃ b23 b24, Lx w W B M v5 8 (k' + 1) s5 ((b23, .cells #[.int .i64 (sAt s5 q).1.1, .int .u32 (((sAt s5 q).1.2 : Nat) : Int)] 31 (0, 0)) :: (b24, .cells #[.int .u32 (((sAt s5 q).2.1 : Nat) : Int), .int .u8 (((sAt s5 q).2.2 : Nat) : Int)] 36 (0, 0)) :: (g, .cells (scs s5.slots).toArray 58 (0, 0)) :: (b22, .cells #[.int .i64 ((q : Nat) : Int)] 3 (0, 0)) :: Hg) (Two Wc.heap.size) ∧ Wc.heap.size + 2 ≤ g ∧ Wc.heap.size + 2 ≤ b23 ∧ Wc.heap.size + 2 ≤ b24 ∧ a' = ⟨#[.slice a la ca, .slice a1 l1 c1, undef, .pointer (some ⟨b3, 0, none⟩), .pointer (some ⟨b4, 0, none⟩), .bool true, .pointer (some ⟨b6, 0, none⟩), .int .i64 0, .pointer (some ⟨b8, 0, none⟩), u9, .pointer (some ⟨b10, 0, none⟩), .pointer (some ⟨b11, 0, none⟩), undef, undef, undef, undef, undef, undef, undef, .slice aa La ac, .slice ba Lb bc, .pointer (some ⟨b21, 0, none⟩), .pointer (some ⟨b22, 0, none⟩), .pointer (some ⟨b23, 0, none⟩), .pointer (some ⟨b24, 0, none⟩), undef, .bool true, .tuple #[.pointer (some ⟨B, 0, none⟩), .int .i64 0], .tuple #[.pointer (some ⟨B, 0, none⟩), .int .i64 0], .pointer (some ⟨B, 0, none⟩), .int .i64 0, .bool true, .bool false, .bool false, .int .i64 0, .bool false, .bool false, .bool false, .pointer (some ⟨B, 0, none⟩), .bool false, .bool false, .pointer (some ⟨B, 0, none⟩), .func (.func 37) #[] #[.pointer (some ⟨bq, 0, none⟩)], .func (.func 37) #[] #[.pointer (some ⟨bq, 0, none⟩)], .bool false, u45, u46, u47, u48, u49, u50, u51, u52, u53, u54, u55, u56, u57, u58, u59, u60, u61, u62, u63, u64, .pointer (some ⟨B, 0, none⟩), .slice va L vc, .func (.func 37) #[] #[.pointer (some ⟨bq, 0, none⟩)], undef, undef, undef, undef, undef, undef, undef, undef, undef, undef, undef, undef, undef, undef, undef, undef, undef, undef, undef, undef, undef, undef, undef, undef, undef, undef, undef, undef, undef, undef, undef, undef, undef, undef, undef, undef, undef, undef, undef, undef, undef, undef, undef, undef, undef, undef, undef, undef, undef, undef, undef, undef, undef, undef, undef, undef, undef, undef, undef, undef, undef, undef, undef, undef, undef, undef, undef, undef, undef, undef, undef, undef, undef, undef, undef, undef, undef, undef, undef, undef, .int .i64 ((L : Nat) : Int), .slice va L vc, .int .i64 ((L : Nat) : Int), .bool false, .pointer (some ⟨B, 0, none⟩), .slice aa La ac, .func (.func 37) #[] #[.pointer (some ⟨bq, 0, none⟩)], undef, undef, undef, undef, .pointer (some ⟨B, 0, none⟩), .slice ba Lb bc, .func (.func 37) #[] #[.pointer (some ⟨bq, 0, none⟩)], undef, undef, .pointer (some ⟨B, 0, none⟩), .agg #[.int .i64 3, .int .u32 999], .agg #[.int .u32 5, .int .u8 0], .tuple #[.agg #[.int .i64 gn.1, .int .u32 ((gn.2 : Nat) : Int)], .bool wn], .pointer (some ⟨B, 0, none⟩), .slice ca2 Lc cc2, .func (.func 37) #[] #[.pointer (some ⟨bq, 0, none⟩)], .agg #[.int .i64 (sAt s5 q).1.1, .int .u32 (((sAt s5 q).1.2 : Nat) : Int)], .agg #[.int .u32 (((sAt s5 q).2.1 : Nat) : Int), .int .u8 (((sAt s5 q).2.2 : Nat) : Int)], undef, undef, undef, undef, undef, undef, undef, undef, undef, undef, undef, undef, undef, undef, undef, undef, undef, undef, undef, undef, undef, undef, undef, undef, undef, undef, undef, undef, undef, undef, undef, undef, undef, undef], []⟩) ?_ ?assignC ?bodyC ?doneC (fun _ _ h => h.elim)
          · rintro g q A C ⟨h, hg⟩ hC
            refine ⟨h.other hC (fun i hi => h.yap i hi) (fun i hi => by have := KC.out.1.kp.size; rcases hi with e | e <;> omega) (fun p hp e => ?_), hg⟩
            rcases List.mem_cons.1 hp with rfl | hp
            · rcases e with e | e <;> simp at e <;> omega
            · have := hbl3 q p hp
              rcases e with e | e <;> omega
          · intro g A C D hAC hK hg hrow
            exact hK hg (Chg.heap hAC hrow (by rintro (e | e) <;> omega))
          · intro g A C D hK hCD hg hrow
            exact Chg.heap hCD (hK hg hrow) (by rintro (e | e) <;> omega)
          · intro g Wq Wq1 hW hsq hG
            obtain ⟨g1, g2, g3⟩ := hG
            refine ⟨⟨((KC.out.1.later hW).laid g1 g3 (by omega)).why (fun i hi => .inr ⟨?_, fun hf => ?_⟩), by omega⟩, g1⟩
            · have := g1.size
              rcases hi with e | e <;> omega
            · have := KC.out.1.t.lt hf
              rcases hi with e | e <;> omega
          · rintro g q a' A C ⟨b23, b24, h, hg, h23, h24, ha⟩ hC
            refine ⟨b23, b24, h.other hC (fun i hi => h.yap i hi) (fun i hi => by have := KC.out.1.kp.size; rcases hi with e | e <;> omega) (fun p hp e => ?_), hg, h23, h24, ha⟩
            rcases List.mem_cons.1 hp with rfl | hp
            · rcases e with e | e <;> simp at e <;> omega
            rcases List.mem_cons.1 hp with rfl | hp
            · rcases e with e | e <;> simp at e <;> omega
            rcases List.mem_cons.1 hp with rfl | hp
            · rcases e with e | e <;> simp at e <;> omega
            · have := hbl3 q p hp
              rcases e with e | e <;> omega
          case assignC =>
            rintro g q Wq K' hq ⟨h, hg⟩ hsq hK'
            unfold aArgs
            gi_wp2
            refine hK' _ _ (((Chg.refl _ _).alloc _).alloc _) ⟨Wq.heap.size, Wq.heap.size + 1, ?_, hg, hsq, by omega, rfl⟩
            have y1 : Kp Wq (Wq.alloc (.cells #[.int .i64 (sAt s5 q).1.1, .int .u32 (((sAt s5 q).1.2 : Nat) : Int)] 31 (0, 0))) := (Chg.refl Wq _).alloc _
            have y2 : Kp (Wq.alloc (.cells #[.int .i64 (sAt s5 q).1.1, .int .u32 (((sAt s5 q).1.2 : Nat) : Int)] 31 (0, 0))) ((Wq.alloc (.cells #[.int .i64 (sAt s5 q).1.1, .int .u32 (((sAt s5 q).1.2 : Nat) : Int)] 31 (0, 0))).alloc (.cells #[.int .u32 (((sAt s5 q).2.1 : Nat) : Int), .int .u8 (((sAt s5 q).2.2 : Nat) : Int)] 36 (0, 0))) := (Chg.refl _ _).alloc _
            have y3 := heap_alloc_new (Wq.alloc (.cells #[.int .i64 (sAt s5 q).1.1, .int .u32 (((sAt s5 q).1.2 : Nat) : Int)] 31 (0, 0))) (.cells #[.int .u32 (((sAt s5 q).2.1 : Nat) : Int), .int .u8 (((sAt s5 q).2.2 : Nat) : Int)] 36 (0, 0))
            rw [al_size] at y3
            exact (((h.later y1).laid y2 y3 (by simp)).cons (al_old _ (heap_alloc_new Wq _)) (fun e => Nat.lt_irrefl _ (h.t.lt e)))
          case bodyC =>
            rintro g q a' Wq hq _ _ ⟨b23, b24, h, hg, h23, h24, rfl⟩ hsq
            obtain ⟨m1, m4⟩ := HMc.out
            have hqLc : q < Lc := by omega
            have hslc := m4 Wq (fun p hp => h.hs p (List.mem_cons_of_mem _ (List.mem_cons_of_mem _ (List.mem_cons_of_mem _ (List.mem_cons_of_mem _ (KE3.out.2.1 p hp))))))
            obtain ⟨gvc, ovc, evc, _, cvc⟩ := hslc.src.resolve_left (by omega)
            subst evc
            obtain ⟨p0, p1, p2, p3⟩ := cvc q hq
            rw [← sAt_get s5 q hq] at p0 p1 p2 p3
            obtain ⟨y, hy⟩ : ∃ y, y = sAt s5 q := ⟨_, rfl⟩
            rw [← hy] at p0 p1 p2 p3 h ⊢
            obtain ⟨d0, d1, _, _⟩ := cells2 (h.hs (b23, .cells #[.int .i64 y.1.1, .int .u32 ((y.1.2 : Nat) : Int)] 31 (0, 0)) (by simp))
            obtain ⟨e0, e1, _, _⟩ := cells2 (h.hs (b24, .cells #[.int .u32 ((y.2.1 : Nat) : Int), .int .u8 ((y.2.2 : Nat) : Int)] 36 (0, 0)) (by simp))
            have x22 := h.hs (b22, .cells #[.int .i64 ((q : Nat) : Int)] 3 (0, 0)) (by simp)
            have f22 : Wq.cell? ⟨b22, 0, none⟩ = some (.int .i64 ((q : Nat) : Int)) := by rw [(cells_at x22 _).1]; rfl
            have z22 : Wq.frozen? ⟨b22, 0, none⟩ = false := (cells_at x22 _).2
            have f21 : Wq.cell? ⟨b21, 0, none⟩ = some (.slice (some ⟨gvc, ovc, none⟩) Lc cc2) := by rw [(cells_at (h.hs (b21, .cells #[.slice (some ⟨gvc, ovc, none⟩) Lc cc2] 55 (0, 0)) (by simp [KE3.out.2.2.2])) _).1]; rfl
            have n31 := fun W => neq31 y.1.1 y.1.1 ((y.1.2 : Nat) : Int) ((y.1.2 : Nat) : Int) W
            rw [decide_eq_true ⟨rfl, rfl⟩] at n31
            have n36 := fun W => neq36 ((y.2.1 : Nat) : Int) ((y.2.1 : Nat) : Int) ((y.2.2 : Nat) : Int) ((y.2.2 : Nat) : Int) W
            rw [decide_eq_true ⟨rfl, rfl⟩] at n36
            have g11 : ¬ ((Lc : Int) ≤ (q : Int)) := by omega
            have g12 : decide ((Lc : Int) ≤ (q : Int)) = false := decide_eq_false g11
            have g13 : decide (Lc ≤ q) = false := decide_eq_false (by omega)
            have g14 : (q : Int) < (Lc : Int) := by omega
            have w64 : IntKind.i64.wrap ((q : Int) + 1) = ((q + 1 : Nat) : Int) := by simp [IntKind.wrap, IntKind.bits, IntKind.signed]; omega
            have KQ : Hid (Lx w Wq B M v5 8 (k' + 1) s5 ((b23, .cells #[.int .i64 y.1.1, .int .u32 ((y.1.2 : Nat) : Int)] 31 (0, 0)) :: (b24, .cells #[.int .u32 ((y.2.1 : Nat) : Int), .int .u8 ((y.2.2 : Nat) : Int)] 36 (0, 0)) :: (g, .cells (scs s5.slots).toArray 58 (0, 0)) :: (b22, .cells #[.int .i64 ((q : Nat) : Int)] 3 (0, 0)) :: Hg) (Two Wc.heap.size)) := h
            clear m1 m4 h hslc cvc hy x22
            gi_wp2_with fail
            refine region_round_quiet _ _ (by kernel_rfl) (by kernel_rfl) (by kernel_rfl) ?_
            repeat (go_big_quiet_step (fail))
            refine wpQuiet_nil ?_
            intro _ hw'
            obtain ⟨nq, hw''⟩ := hw'
            subst hw''
            gi_wp2
            clear p0 p1 p2 p3 d0 d1 e0 e1 f22 f21 n31 n36 z22
            obtain ⟨W9, hW9⟩ : ∃ W, W = (Wq.drewN nq).setCell ⟨b22, 0, none⟩ (.int .i64 ((q + 1 : Nat) : Int)) := ⟨_, rfl⟩
            have hQ2 : Lx w (Wq.drewN nq) B M v5 8 (k' + 1) s5 ((b22, .cells #[.int .i64 ((q : Nat) : Int)] 3 (0, 0)) :: (g, .cells (scs s5.slots).toArray 58 (0, 0)) :: Hg) (Two Wc.heap.size) := (KQ.out.later (Chg.drewN (Chg.refl Wq _) nq)).sub (fun p hp => by
              simp only [List.mem_cons] at hp ⊢
              rcases hp with hp | hp | hp
              · exact .inr (.inr (.inr (.inl hp)))
              · exact .inr (.inr (.inl hp))
              · exact .inr (.inr (.inr (.inr hp))))
            have hC9 : Chg (Wq.drewN nq) W9 (fun i => i = b22) := by rw [hW9]; exact Chg.setCell (S := fun i => i = b22) (Chg.refl _ _) (.inl rfl) _
            have hb9 : W9.heap[b22]? = some (.cells #[.int .i64 ((q + 1 : Nat) : Int)] 3 (0, 0)) := by
              rw [hW9]
              exact heap_setCell_same _ b22 0 _ 3 _ (hQ2.hs (b22, .cells #[.int .i64 ((q : Nat) : Int)] 3 (0, 0)) (by simp))
            have h9 := hQ2.put hC9 hb9 KC.out.2.2.1 (fun p hp => by
              rcases List.mem_cons.1 hp with rfl | hp
              · have := KC.out.2.2.2; simp; omega
              · exact KC.out.2.1 p hp)
            have h10 := h9.sub (H' := (g, .cells (scs s5.slots).toArray 58 (0, 0)) :: (b22, .cells #[.int .i64 ((q + 1 : Nat) : Int)] 3 (0, 0)) :: Hg) (fun p hp => by
              simp only [List.mem_cons] at hp ⊢
              rcases hp with hp | hp | hp
              · exact .inr (.inl hp)
              · exact .inl hp
              · exact .inr (.inr hp))
            have hfin : (∀ i, Two Wc.heap.size i → W9.heap[i]? = Wq.heap[i]?) ∧ ((Lx w W9 B M v5 8 (k' + 1) s5 ((g, .cells (scs s5.slots).toArray 58 (0, 0)) :: (b22, .cells #[.int .i64 ((q + 1 : Nat) : Int)] 3 (0, 0)) :: Hg) (Two Wc.heap.size) ∧ Wc.heap.size + 2 ≤ g) ∧ aKpD 2 Wc s5 g Wq W9) :=
              ⟨fun i hi => (hC9.block i (by show i < Wq.heap.size; rcases hi with e | e <;> omega) (fun e => by have := KC.out.2.2.2; rcases hi with e' | e' <;> omega)), ⟨h10, hg⟩, fun _ _ => h10.hs (g, .cells (scs s5.slots).toArray 58 (0, 0)) (by simp)⟩
            rw [hW9] at hfin
            exact hfin
          case doneC =>
            rintro g Wq ⟨h, hg⟩ hDc
            rw [← HMc.out.1] at h
            have h1 : Lx w Wq B M v5 8 (k' + 1) s5 ((Wc.heap.size, .deferred (some [])) :: (b22, .cells #[.int .i64 ((Lc : Nat) : Int)] 3 (0, 0)) :: Hg) (fun _ => False) := ((h.sub (fun p hp => List.mem_cons_of_mem _ hp)).cons hDc (h.yap _ (.inl rfl))).why (fun _ h => h.elim)
            have hRa : SlotsIn Wq aa La s'.slots := HMa.out.2 Wq (fun p hp => h1.hs p (List.mem_cons_of_mem _ (List.mem_cons_of_mem _ (KE3.out.1 _ (KE2.out.1 _ (KE.out.2.1 p hp))))))
            have hRb : SlotsIn Wq ba Lb s'.slots := HMb.out.2 Wq (fun p hp => h1.hs p (List.mem_cons_of_mem _ (List.mem_cons_of_mem _ (KE3.out.1 _ (KE2.out.2.1 p hp)))))
            have hSm := sameSlots_any Wq aa ba La Lb ac bc s'.slots s'.slots hRa hRb (by omega) true (decide_eq_true rfl).symm
            have KQ : Hid (Lx w Wq B M v5 8 (k' + 1) s5 ((Wc.heap.size, .deferred (some [])) :: (b22, .cells #[.int .i64 ((Lc : Nat) : Int)] 3 (0, 0)) :: Hg) (fun _ => False)) := h1
            clear h h1 hDc hg hseq hRa hRb
            go_wp2_with fail
            go_at_call 22
            refine hSm.mono ?_
            rintro e Wr ⟨rfl, hkr⟩
            have KR : Hid (Lx w Wr B M v5 8 (k' + 1) s5 ((Wc.heap.size, .deferred (some [])) :: (b22, .cells #[.int .i64 ((Lc : Nat) : Int)] 3 (0, 0)) :: Hg) (fun _ => False)) := KQ.out.later hkr
            clear hSm hkr KQ
            have f22 : Wr.cell? ⟨b22, 0, none⟩ = some (.int .i64 ((Lc : Nat) : Int)) := by rw [(cells_at (KR.out.hs (b22, .cells #[.int .i64 ((Lc : Nat) : Int)] 3 (0, 0)) (by simp)) _).1]; rfl
            have f21 : Wr.cell? ⟨b21, 0, none⟩ = some (.slice ca2 Lc cc2) := by rw [(cells_at (KR.out.hs (b21, .cells #[.slice ca2 Lc cc2] 55 (0, 0)) (by simp [KE3.out.2.2.2])) _).1]; rfl
            have x4 := KR.out.hs _ (List.mem_cons_of_mem _ (List.mem_cons_of_mem _ (KE3.out.1 _ (KE2.out.1 _ (KE.out.1 _ KM.out.2.2.2)))))
            have f4 : Wr.cell? ⟨b4, 0, none⟩ = some (.bool false) := by rw [(cells_at x4 _).1]; rfl
            have z4 : Wr.frozen? ⟨b4, 0, none⟩ = false := (cells_at x4 _).2
            have heq : ((Lc : Int) == (Lc : Int)) = true := by simp
            go_wp2
            clear f22 f21 f4 z4 heq
            obtain ⟨Wt, hWt⟩ : ∃ W, W = Wr.setCell ⟨b4, 0, none⟩ (.bool true) := ⟨_, rfl⟩
            rw [← hWt]
            have hC1 : Chg Wr Wt (fun i => i = b4) := by rw [hWt]; exact Chg.setCell (S := fun i => i = b4) (Chg.refl _ _) (.inl rfl) _
            have hb4 : Wt.heap[b4]? = some (.cells #[.bool true] 4 (0, 0)) := by
              rw [hWt]
              exact heap_setCell_same _ b4 0 _ 4 _ x4
            have n7 := KN1.out
            have na := KN2.out
            have nb := KN3.out
            have n4 : b4 < W7.heap.size := HN.out _ (List.mem_cons_of_mem _ KM.out.2.2.2)
            have nw : w.heap.size ≤ W7.heap.size := KI.out.kp.size
            have nw4 := KB.out.2.1
            have t3 : Wt.heap[Wc.heap.size]? = some (.deferred (some [])) := hC1.heap (KR.out.hs (Wc.heap.size, .deferred (some [])) (by simp)) (by omega)
            have t2 : Wt.heap[Wb.heap.size]? = some (.deferred (some [])) := hC1.heap (KR.out.hs (Wb.heap.size, .deferred (some [])) (by simp [KE3.out.2.2.1])) (by omega)
            have t1 : Wt.heap[Wa.heap.size]? = some (.deferred (some [])) := hC1.heap (KR.out.hs (Wa.heap.size, .deferred (some [])) (by simp [KE3.out.1 _ KE2.out.2.2])) (by omega)
            have t0 : Wt.heap[W7.heap.size]? = some (.deferred (some [])) := hC1.heap (KR.out.hs (W7.heap.size, .deferred (some [])) (by simp [KE3.out.1 _ (KE2.out.1 _ KE.out.2.2)])) (by omega)
            have C1 : Chg w Wt (fun i => w.heap.size ≤ i) := Chg.trans (KR.out.kp.mono (fun _ _ h => h.elim)) hC1 (fun i hi e => by omega)
            clear hWt hC1 KR x4
            obtain ⟨V3, hV3⟩ : ∃ V, V = Wt.putObj Wc.heap.size (.deferred none) := ⟨_, rfl⟩
            obtain ⟨V2, hV2⟩ : ∃ V, V = V3.putObj Wb.heap.size (.deferred none) := ⟨_, rfl⟩
            obtain ⟨V1, hV1⟩ : ∃ V, V = V2.putObj Wa.heap.size (.deferred none) := ⟨_, rfl⟩
            obtain ⟨V0, hV0⟩ : ∃ V, V = V1.putObj W7.heap.size (.deferred none) := ⟨_, rfl⟩
            have r2 : V3.heap[Wb.heap.size]? = some (.deferred (some [])) := by rw [hV3, World.putObj_heap_other (by omega)]; exact t2
            have r1 : V2.heap[Wa.heap.size]? = some (.deferred (some [])) := by rw [hV2, World.putObj_heap_other (by omega), hV3, World.putObj_heap_other (by omega)]; exact t1
            have r0 : V1.heap[W7.heap.size]? = some (.deferred (some [])) := by rw [hV1, World.putObj_heap_other (by omega), hV2, World.putObj_heap_other (by omega), hV3, World.putObj_heap_other (by omega)]; exact t0
            have r4 : V0.heap[b4]? = some (.cells #[.bool true] 4 (0, 0)) := by rw [hV0, World.putObj_heap_other (by omega), hV1, World.putObj_heap_other (by omega), hV2, World.putObj_heap_other (by omega), hV3, World.putObj_heap_other (by omega)]; exact hb4
            have C2 : Chg w V0 (fun i => w.heap.size ≤ i) := by
              rw [hV0, hV1, hV2, hV3]
              exact Chg.putObj (Chg.putObj (Chg.putObj (Chg.putObj C1 (.inl (by show w.heap.size ≤ _; omega)) _) (.inl (by show w.heap.size ≤ _; omega)) _) (.inl (by show w.heap.size ≤ _; omega)) _) (.inl (by show w.heap.size ≤ _; omega)) _
            have g4 : V0.cell? ⟨b4, 0, none⟩ = some (.bool true) := by rw [(cells_at r4 _).1]; rfl
            refine ⟨by simp, .inl ⟨_, V3, rfl, by rw [hV3]; exact run_takeDeferred t3, ?_⟩⟩
            refine ⟨by simp, .inl ⟨_, V2, rfl, by rw [hV2]; exact run_takeDeferred r2, ?_⟩⟩
            refine ⟨by simp, .inl ⟨_, V1, rfl, by rw [hV1]; exact run_takeDeferred r1, ?_⟩⟩
            refine ⟨by simp, .inl ⟨_, V0, rfl, by rw [hV0]; exact run_takeDeferred r0, ?_⟩⟩
            refine ⟨.bool true, by simp [results, Try.results6, go_sem, g4], rfl, C2.below (Nat.le_refl _) (fun i hi e => by omega)⟩
        clear hKk
        refine (wpIn_wide (n := 8)).1 ?_
        refine range_ownH (gf := 37) rfl (enters_of Try.func37 (by kernel_rfl) rfl) hseq (fun _ _ => rfl)
          (fun g q W => Lx w W B M v' 8 k' s' ((g, .cells (scs s'.slots).toArray 58 (0, 0)) :: Hf) (Two Wb.heap.size) ∧ Wb.heap.size + 2 ≤ g)
          (fun c W => c = .exit 10 ∧ Lx w W B M v' 8 k' s' Hf (Two Wb.heap.size)) ?_ ?_ ?_ ?_ ?_
          (fun g q a' W => a' = ⟨#[.slice a la ca, .slice a1 l1 c1, undef, .pointer (some ⟨b3, 0, none⟩), .pointer (some ⟨b4, 0, none⟩), .bool true, .pointer (some ⟨b6, 0, none⟩), .int .i64 0, .pointer (some ⟨b8, 0, none⟩), u9, .pointer (some ⟨b10, 0, none⟩), .pointer (some ⟨b11, 0, none⟩), undef, undef, undef, undef, undef, undef, undef, .slice aa La ac, .slice ba Lb bc, undef, undef, undef, undef, undef, .bool true, .tuple #[.pointer (some ⟨B, 0, none⟩), .int .i64 0], .tuple #[.pointer (some ⟨B, 0, none⟩), .int .i64 0], .pointer (some ⟨B, 0, none⟩), .int .i64 0, .bool true, .bool false, .bool false, .int .i64 0, .bool false, .bool false, .bool false, .pointer (some ⟨B, 0, none⟩), .bool false, .bool false, .pointer (some ⟨B, 0, none⟩), .func (.func 37) #[] #[.pointer (some ⟨bq, 0, none⟩)], .func (.func 37) #[] #[.pointer (some ⟨bq, 0, none⟩)], .bool false, u45, u46, u47, u48, u49, u50, u51, u52, u53, u54, u55, u56, u57, u58, u59, u60, u61, u62, u63, u64, .pointer (some ⟨B, 0, none⟩), .slice va L vc, .func (.func 37) #[] #[.pointer (some ⟨bq, 0, none⟩)], undef, undef, undef, undef, undef, undef, undef, undef, undef, undef, undef, undef, undef, undef, undef, undef, undef, undef, undef, undef, undef, undef, undef, undef, undef, undef, undef, undef, undef, undef, undef, undef, undef, undef, undef, undef, undef, undef, undef, undef, undef, undef, undef, undef, undef, undef, undef, undef, undef, undef, undef, undef, undef, undef, undef, undef, undef, undef, undef, undef, undef, undef, undef, undef, undef, undef, undef, undef, undef, undef, undef, undef, undef, undef, undef, undef, undef, undef, undef, undef, .int .i64 ((L : Nat) : Int), .slice va L vc, .int .i64 ((L : Nat) : Int), .bool false, .pointer (some ⟨B, 0, none⟩), .slice aa La ac, .func (.func 37) #[] #[.pointer (some ⟨bq, 0, none⟩)], undef, undef, undef, undef, .pointer (some ⟨B, 0, none⟩), .slice ba Lb bc, .func (.func 37) #[] #[.pointer (some ⟨bq, 0, none⟩)], .agg #[.int .i64 (sAt s' q).1.1, .int .u32 (((sAt s' q).1.2 : Nat) : Int)], .agg #[.int .u32 (((sAt s' q).2.1 : Nat) : Int), .int .u8 (((sAt s' q).2.2 : Nat) : Int)], undef, undef, undef, undef, undef, undef, undef, undef, undef, undef, undef, undef, undef, undef, undef, undef, undef, undef, undef, undef, undef, undef, undef, undef, undef, undef, undef, undef, undef, undef, undef, undef, undef, undef, undef, undef, undef, undef, undef, undef, undef, undef, undef], []⟩) (fun _ _ _ _ _ h _ => h) ?assignB ?bodyB ?doneB ?stopB
        · rintro g q A C ⟨h, hg⟩ hC
          refine ⟨h.other hC (fun i hi => h.yap i hi) (fun i hi => by have := KL.out.kp.size; rcases hi with e | e <;> omega) (fun p hp e => ?_), hg⟩
          rcases List.mem_cons.1 hp with rfl | hp
          · rcases e with e | e <;> simp at e <;> omega
          · have := KL.out.hs.lt hp
            rcases e with e | e <;> omega
        · rintro c A C ⟨hc, h⟩ hC
          refine ⟨hc, h.other hC (fun i hi => h.yap i hi) (fun i hi => by have := KL.out.kp.size; rcases hi with e | e <;> omega) (fun p hp e => ?_)⟩
          have := KL.out.hs.lt hp
          rcases e with e | e <;> omega
        · intro g A C D hAC hK hg hrow
          exact hK hg (Chg.heap hAC hrow (by rintro (e | e) <;> omega))
        · intro g A C D hK hCD hg hrow
          exact Chg.heap hCD (hK hg hrow) (by rintro (e | e) <;> omega)
        · intro g Wq Wq1 hW hsq hG
          obtain ⟨g1, g2, g3⟩ := hG
          refine ⟨⟨((KL.out.later hW).laid g1 g3 (by omega)).why (fun i hi => .inr ⟨?_, fun hf => ?_⟩), by omega⟩, g1⟩
          · have := g1.size
            rcases hi with e | e <;> omega
          · have := KL.out.t.lt hf
            rcases hi with e | e <;> omega
        case assignB =>
          rintro g q Wq K' hq hI hsq hK'
          unfold aArgs
          gi_wp2
          exact hK' _ _ (Chg.refl _ _) rfl
        case bodyB =>
          rintro g q a' Wq hq _ ⟨h, hg⟩ rfl hsq
          clear HX
          have KQ : Hid (Lx w Wq B M v' 8 k' s' Hf (Two Wb.heap.size)) := h.sub (fun p hp => List.mem_cons_of_mem _ hp)
          clear h
          gi_wp2
          exact ⟨fun _ _ => rfl, rfl, KQ.out⟩
        case doneB =>
          rintro g Wq ⟨h, hg⟩ hDb
          have KZ : Hid (Lx w Wq B M v' 8 k' s' ((Wb.heap.size, .deferred (some [])) :: Hf) (fun _ => False)) := ((h.sub (fun p hp => List.mem_cons_of_mem _ hp)).cons hDb (h.yap _ (.inl rfl))).why (fun _ h => h.elim)
          exact HX Wq KZ
        case stopB =>
          rintro c Wq ⟨rfl, h⟩ hDb
          have KZ : Hid (Lx w Wq B M v' 8 k' s' ((Wb.heap.size, .deferred (some [])) :: Hf) (fun _ => False)) := (h.cons hDb (h.yap _ (.inl rfl))).why (fun _ h => h.elim)
          refine wpIn_exit ?_
          exact HX Wq KZ
end Go.Proofs.Ytadpgaaijdpbiaa
