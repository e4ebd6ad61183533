import Derived.Test.YtghiffpolacmiabDoorUu
namespace Go.Proofs.YtghiffpolacmiabDoor
open Go.ChangeShapes Go.WideShapes Go.ChangeAt Go.RowKit
set_option linter.unusedVariables false

def Rs.zero : Rs := ⟨0, 0, 0, 0, 0, 0, false, 0, false, 0⟩
def st0 (g : Rg) (bus : Value) : St := ⟨g, bus, 0, 0, 0, 0, 0, 0, Rs.zero⟩
def Rg.zero : Rg := ⟨fun _ => 0, 0, 0, 0, false, false⟩
theorem zeroOf {t : TypeId} {z : Value} (w : World) (h : (Tryd.prog.info? t).bind (·.zero) = some z) : (zeroValue t).run Tryd.prog w = .ok z w := by
  cases hq : Tryd.prog.info? t with
  | none => rw [hq] at h; cases h
  | some i =>
    rw [hq] at h
    have hz2 : i.zero = some z := h
    simp [zeroValue, typeInfo, hq, hz2, go_sem]
theorem zero66 (w : World) : (zeroValue 63).run Tryd.prog w = .ok (.agg (stc (st0 Rg.zero .nilIface)).toArray) w := zeroOf w (by kernel_rfl)
theorem zero38 (w : World) : (zeroValue 43).run Tryd.prog w = .ok (.agg (rsc Rs.zero).toArray) w := zeroOf w (by kernel_rfl)
theorem build66 (w : World) (g : Rg) (bb : Nat) : (Instr.build 63 #[(0, .agg (rgc g).toArray), (1, .iface 38 (.pointer (some ⟨bb, 0, none⟩)))]).run Tryd.prog w = .ok (.agg (stc (st0 g (busV bb))).toArray) w := by kernel_rfl
theorem stc_one (g : Rg) (bb : Nat) : ∀ v ∈ stc (st0 g (busV bb)), v.oneCell' = true := by
  simp [stc, rgc, rsc, st0, busV, Value.oneCell']
theorem size66 : (Tryd.prog.info? 63).map (·.size) = some 38 := by kernel_rfl
theorem size25 : (Tryd.prog.info? 25).map (·.size) = some 21 := by kernel_rfl
theorem size38 : (Tryd.prog.info? 43).map (·.size) = some 10 := by kernel_rfl
theorem stc_len (s : St) : (stc s).length = 38 := rfl
theorem rgc_len (s : Rg) : (rgc s).length = 21 := rfl
theorem rsc_len (s : Rs) : (rsc s).length = 10 := rfl
theorem rgc_one (g : Rg) : ∀ v ∈ rgc g, v.oneCell' = true := by simp [rgc, Value.oneCell']
theorem rsc_one (r : Rs) : ∀ v ∈ rsc r, v.oneCell' = true := by simp [rsc, Value.oneCell']
/-- A variable is written whole. -/
theorem storeAll (w : World) (t : TypeId) (R : Nat) (cur C : Array Value) (T : TypeId) (h : w.heap[R]? = some (.cells cur T (0, 0))) (hs : cur.size = C.size) (hi : (Tryd.prog.info? t).map (·.size) = some C.size) (h1 : ∀ v ∈ C.toList, v.oneCell' = true) :
    (storeVar t ⟨R, 0, none⟩ (.agg C)).run Tryd.prog w = .ok () (w.setRow R C) := by
  have := run_storeVar_row (P := Tryd.prog) w R 0 t C cur T h (by omega) hi h1
  rw [this]
  have e : (cur.toList.take 0 ++ C.toList ++ cur.toList.drop (0 + C.size)).toArray = C := by
    rw [List.take_zero, List.nil_append, List.drop_of_length_le (by rw [Array.length_toList]; omega), List.append_nil]
  rw [e]
theorem rangeOf {w : World} {B o : Nat} {cs : Array Value} {T : TypeId} (h : w.heap[B]? = some (.cells cs T (0, 0))) (l : List Value) (hl : ∀ (j : Nat) v, l[j]? = some v → cs[o + j]? = some v) : w.rangeAt B o l := fun j v hv => by
  rw [(cells_at h _).1]
  exact hl j v hv
theorem IsT.rg {w : World} {B : Nat} {s : St} (h : IsT w B s) : w.rangeAt B 0 (rgc s.g) := rangeOf h _ (fun j v hv => by
  rw [Nat.zero_add, List.getElem?_toArray]
  unfold stc
  rw [List.getElem?_append_left (List.getElem?_eq_some_iff.1 hv).1]
  exact hv)
theorem IsT.rs {w : World} {B : Nat} {s : St} (h : IsT w B s) : w.rangeAt B 28 (rsc s.r) := rangeOf h _ (fun j v hv => by
  rw [List.getElem?_toArray]
  show (rgc s.g ++ ([s.bus, .int .i64 s.op, .int .u8 (s.d : Nat), .int .u8 (s.a : Nat), .int .u8 (s.b : Nat), .int .i32 s.n, .int .u32 s.nx] ++ rsc s.r))[28 + j]? = some v
  rw [List.getElem?_append_right (by simp [rgc]; omega), List.getElem?_append_right (by simp [rgc]; omega)]
  rw [show 28 + j - (rgc s.g).length - [s.bus, .int .i64 s.op, .int .u8 (s.d : Nat), .int .u8 (s.a : Nat), .int .u8 (s.b : Nat), .int .i32 s.n, .int .u32 s.nx].length = j by simp [rgc]; omega]
  exact hv)
theorem wpList_build2 {w : World} {ops : Array Oper} {rest : List Oper} {o : Oper} {a : Act} {Q : Exit → Act → World → Prop} (hgd : o.guard = none) (t : TypeId) (i j : Nat) (x y : Operand) (ho : o.op = .build t #[(i, x), (j, y)]) (vx vy : Value) (hx : a.eval x = vx) (hy : a.eval y = vy) (v : Value) (hrun : (Instr.build t #[(i, vx), (j, vy)]).run Tryd.prog w = .ok v w)
    (h : wpList Tryd.prog ops Q rest (a.put o.dst v) w) : wpList Tryd.prog ops Q (o :: rest) a w :=
  wpList_build_run hgd t _ ho #[(i, vx), (j, vy)] (by simp [hx, hy]) v hrun h
/-- What a step leaves. -/
def Sp (w : World) (G bb : Nat) (x : Bd) (g : Rg) (y : Bd) (w' : World) : Prop :=
  ∃ v', IsRg w' G g ∧ IsB w' bb (y.lvTo v') ∧ Chg w w' (fun k => k = G ∨ x.own bb k) ∧ (v'.ownBlock = x.lv.ownBlock ∨ ∃ k, v'.ownBlock = some k ∧ w.heap.size ≤ k)
/-- Registers and a bus, apart. -/
structure Rb (w : World) (G bb : Nat) (g : Rg) (x : Bd) : Prop where
  r : IsRg w G g
  b : IsB w bb x
  g : Gt w
  G2 : 2 ≤ G
  ne : ∀ k, (x.own bb k ∨ x.row k) → k ≠ G
  o2 : ∀ k, x.own bb k → 2 ≤ k
theorem IsB.olt {w : World} {bb : Nat} {x : Bd} (h : IsB w bb x) (k : Nat) (hk : x.own bb k) : k < w.heap.size := by
  rcases hk with rfl | hk
  · exact hp_lt h.box
  · rcases h.lg.2 with ⟨h1, h2⟩ | ⟨g, cap, cur, h1, h2, h3, _⟩
    · rw [h1] at hk; cases hk
    · rw [h1] at hk; cases hk; exact hp_lt h3
set_option maxRecDepth 100000 in
set_option maxHeartbeats 8000000 in
theorem step_irq (w : World) (G bb : Nat) (g : Rg) (x y1 y2 : Bd) (s2 s3 : St) (h : Rb w G bb g x)
    (hI : ∀ W B, On W B bb ((st0 g (busV bb)).put 0 0) x → Calls Tryd.prog 16 #[.pointer (some ⟨B, 0, none⟩)] W fun e w' => e = .returned (.bool true) ∧ Od W B bb x s2 y1 w') (hrow : ∀ k, y1.row k ↔ x.row k)
     :
    Calls Tryd.prog 8 #[.pointer (some ⟨G, 0, none⟩), .iface 38 (.pointer (some ⟨bb, 0, none⟩))] w fun e w' => e = .returned (.agg (rsc s2.r).toArray) ∧ Sp w G bb x s2.g y1 w' := by
  have hGl := hp_lt h.r
  obtain ⟨w1, hw1⟩ : ∃ w1, w1 = w.alloc (.cells (rsc Rs.zero).toArray 43) := ⟨_, rfl⟩
  have k1 : Kp w w1 := by rw [hw1]; exact (Chg.refl w _).alloc _
  have n1 : w1.heap[w.heap.size]? = some (.cells (rsc Rs.zero).toArray 43 (0, 0)) := by rw [hw1]; exact heap_alloc_new w _
  have z1 : w1.heap.size = w.heap.size + 1 := by rw [hw1]; simp
  obtain ⟨w2, hw2⟩ : ∃ w2, w2 = w1.alloc (.cells (stc (st0 Rg.zero .nilIface)).toArray 63) := ⟨_, rfl⟩
  have k2 : Kp w1 w2 := by rw [hw2]; exact (Chg.refl w1 _).alloc _
  have n2 : w2.heap[w1.heap.size]? = some (.cells (stc (st0 Rg.zero .nilIface)).toArray 63 (0, 0)) := by rw [hw2]; exact heap_alloc_new w1 _
  have z2 : w2.heap.size = w.heap.size + 2 := by rw [hw2]; simp [z1]
  have hst1 := storeAll w2 63 w1.heap.size _ (stc (st0 g (busV bb))).toArray 63 n2 rfl (by rw [size66]; rfl) (by simpa using stc_one g bb)
  obtain ⟨w3, hw3⟩ : ∃ w3, w3 = w2.setRow w1.heap.size (stc (st0 g (busV bb))).toArray := ⟨_, rfl⟩
  have t3 : IsT w3 w1.heap.size (st0 g (busV bb)) := by rw [hw3]; exact setRow_heap w2 _ _ _ 63 (0, 0) n2
  have k3 : Chg w2 w3 (fun k => k = w1.heap.size) := by rw [hw3]; exact Chg.setRow (S := fun k => k = w1.heap.size) (Chg.refl _ _) (.inl rfl) _
  have c30 := t3.cell 0 _ rfl
  have f30 := t3.fr 0
  obtain ⟨t4, k4⟩ := t3.set 0 (.int .u32 0) ((st0 g (busV bb)).put 0 0) rfl
  have K4 : Kp w _ := Chg.trans (Kp.trans k1 k2) (Chg.trans k3 k4 (fun _ _ e => e)) (fun i hi e => by omega)
  have r4 := Kp.heap K4 h.r
  have N4 := Chg.heap (Chg.trans k3 k4 (fun _ _ e => e)) (Kp.heap k2 n1) (by omega)
  have O4 : On _ w1.heap.size bb ((st0 g (busV bb)).put 0 0) x := ⟨t4, h.b.kp K4, rfl, fun k hk => by
      rcases hk with hk | hk
      · have := h.b.olt k hk; omega
      · have := (h.b.ap k hk).2.2; omega, h.g.keep K4, by have := h.G2; omega, h.o2⟩
  have hI4 := hI _ _ O4
  have rrg := fun w (h : IsRg w G g) => (rangeOf (o := 0) h (rgc g) (fun j v hv => by rw [Nat.zero_add, List.getElem?_toArray]; exact hv))
  have rr2 := rrg w1 (Kp.heap k1 h.r)
  have l25 : (Tryd.prog.info? 25).map (·.size) = some (rgc g).length := by kernel_rfl
  have l25b : (Tryd.prog.info? 25).map (·.size) = some (rgc s2.g).length := by kernel_rfl
  have l38 : (Tryd.prog.info? 43).map (·.size) = some (rsc s2.r).length := by kernel_rfl
  have hz66 := fun w => zero66 w
  have hz38 := fun w => zero38 w
  have hbu := fun w => build66 w g bb
  have HX : Hid (Rb w G bb g x) := h
  have HK : Hid (Kp w _ ∧ w.heap.size + 2 ≤ (w3.setCell ⟨w1.heap.size, 0, none⟩ (.int .u32 0)).heap.size) := ⟨K4, by simp [World.setCell]; rw [← z2]; exact k3.size⟩
  have hN : ¬ x.own bb w.heap.size := fun hk => by have := h.b.olt _ hk; omega
  clear h k1 k2 k3 k4 n1 n2 t3 t4 O4 hI K4 rrg z2
  generalize (stc (st0 Rg.zero .nilIface)).toArray = Z66 at *
  have hZ38 : (rsc Rs.zero).toArray.size = 10 := rfl
  generalize (rsc Rs.zero).toArray = Z38 at *
  generalize hL : rgc g = L at *
  generalize (stc (st0 g (busV bb))).toArray = S0 at *
  have u25 := Tryd.underlying25
  have u38 := Tryd.underlying43
  have HB : Hid (w1.heap.size = w.heap.size + 1) := z1
  clear z1
  rw [← hw3] at hst1
  clear hw3
  go_enter Tryd.func8, Tryd.ntmps8
  rw [hw2] at hst1
  go_upto_region 3 with (fail)
  rw [← hw1]
  clear hw1 hw2
  go_upto_region 5 with (first
    | (refine wpList_alloc_zero _ rfl 63 Z66 rfl (hz66 _) ?_)
    | (refine wpList_load_mid rfl 25 (.tmp 14) rfl G 0 rfl L _ rr2 u25 rfl l25 ?_)
    | (refine wpList_build2 rfl 63 0 1 (.tmp 15) (.tmp 16) rfl (.agg L.toArray) (.iface 38 (.pointer (some ⟨bb, 0, none⟩))) rfl rfl (.agg S0) (hbu _) ?_)
    | (refine wpList_store_row rfl 63 (.tmp 5) (.tmp 17) rfl w1.heap.size 0 S0 rfl rfl _ hst1 ?_))
  go_upto_region 7 with (go_at_call 16; refine hI4.mono ?_; rintro e w6 ⟨rfl, v6, o6, K6, l6⟩)
  clear hI4
  have hLl : L.toArray.size = 21 := by rw [← hL]; rfl
  have hb4 := HK.out.2
  have hB1 := HB.out
  have r6 := K6.heap r4 (fun e => by
    rcases e with e | e
    · omega
    · exact HX.out.ne G (.inl e) rfl)
  have N6 := K6.heap N4 (fun e => by
    rcases e with e | e
    · omega
    · exact hN e)
  have rr5 := o6.t.rg
  have hst5 := storeAll w6 25 G _ (rgc s2.g).toArray 25 r6 (by rw [hLl]; rfl) (by rw [size25]; rfl) (by simpa using rgc_one s2.g)
  obtain ⟨w7, hw7⟩ : ∃ w7, w7 = w6.setRow G (rgc s2.g).toArray := ⟨_, rfl⟩
  have r7 : IsRg w7 G s2.g := by rw [hw7]; exact setRow_heap w6 _ _ _ 25 (0, 0) r6
  have k7 : Chg w6 w7 (fun k => k = G) := by rw [hw7]; exact Chg.setRow (S := fun k => k = G) (Chg.refl _ _) (.inl rfl) _
  have t7 := o6.t.chg k7 (by omega)
  have N7 := k7.heap N6 (by omega)
  have rr6 := t7.rs
  have hZ : Z38.size = 10 := hZ38
  have hst6 := storeAll w7 43 w.heap.size _ (rsc s2.r).toArray 43 N7 (by rw [hZ]; rfl) (by rw [size38]; rfl) (by simpa using rsc_one s2.r)
  obtain ⟨w8, hw8⟩ : ∃ w8, w8 = w7.setRow w.heap.size (rsc s2.r).toArray := ⟨_, rfl⟩
  have n8 : w8.heap[w.heap.size]? = some (.cells (rsc s2.r).toArray 43 (0, 0)) := by rw [hw8]; exact setRow_heap w7 _ _ _ 43 (0, 0) N7
  have k8 : Chg w7 w8 (fun k => k = w.heap.size) := by rw [hw8]; exact Chg.setRow (S := fun k => k = w.heap.size) (Chg.refl _ _) (.inl rfl) _
  have hown : ∀ k, (y1.lvTo v6).own bb k ∨ (y1.lvTo v6).row k → k ≠ G ∧ k ≠ w.heap.size := fun k hk => by
    rcases hk with hk | hk
    · have hk2 : x.own bb k ∨ w.heap.size + 2 ≤ k := by
        rcases hk with e | e
        · exact .inl (.inl e)
        · have e2 : v6.ownBlock = some k := e
          rcases l6 with l | ⟨j, l, hj⟩
          · exact .inl (.inr (by rw [← l]; exact e2))
          · rw [l] at e2; cases e2; exact .inr (by omega)
      rcases hk2 with e | e
      · have := HX.out.b.olt k e
        exact ⟨HX.out.ne k (.inl e), by omega⟩
      · exact ⟨by omega, by omega⟩
    · have e := (hrow k).1 hk
      have := (HX.out.b.ap k e).2.2
      exact ⟨HX.out.ne k (.inr e), by omega⟩
  have HE : Hid (Sp w G bb x s2.g y1 w8) := by
    refine ⟨v6, k8.heap r7 (by omega), (o6.b.chg k7 (fun k _ hk => (hown k hk).1)).chg k8 (fun k _ hk => (hown k hk).2), ?_, ?_⟩
    · refine Chg.trans (Chg.trans (Chg.trans (Kp.any HK.out.1) K6 (T := fun k => k = w1.heap.size ∨ x.own bb k) (S := fun k => k = G ∨ x.own bb k) ?_) k7 ?_) k8 ?_
      · intro i hi e
        rcases e with e | e
        · omega
        · exact .inr e
      · exact fun i _ e => .inl e
      · exact fun i hi e => by omega
    · rcases l6 with l | ⟨j, l, hj⟩
      · exact .inl l
      · exact .inr ⟨j, l, by omega⟩
  clear r6 N6 r7 k7 t7 N7 k8 hown o6 K6 l6 hB1 hb4
  rw [← hw7] at hst5
  rw [← hw8] at hst6
  generalize hrs : (rsc s2.r) = RS at *
  generalize hrg : (rgc s2.g) = RG at *
  clear hw7 hw8
  go_wp2_with (first
    | (refine wpList_load_mid rfl 25 (.tmp 25) rfl w1.heap.size 0 rfl RG _ rr5 u25 rfl l25b ?_)
    | (refine wpList_store_row rfl 25 (.tmp 27) (.tmp 26) rfl G 0 RG.toArray rfl rfl _ hst5 ?_)
    | (refine wpList_load_mid rfl 43 (.tmp 28) rfl w1.heap.size 28 rfl RS _ rr6 u38 rfl l38 ?_)
    | (refine wpList_store_row rfl 43 (.tmp 4) (.tmp 29) rfl w.heap.size 0 RS.toArray rfl rfl _ hst6 ?_))
  refine ⟨rfl, .agg RS.toArray, ?_, by rw [hrs], HE.out⟩
  refine results_cell_row rfl _ _ w.heap.size 43 RS.toArray (0, 0) _ rfl n8 Tryd.underlying43 rfl ?_
  rw [size38, ← hrs]; rfl
set_option maxRecDepth 100000 in
set_option maxHeartbeats 8000000 in
theorem step_ins (w : World) (G bb : Nat) (g : Rg) (x y1 y2 : Bd) (s2 s3 : St) (h : Rb w G bb g x)
    (hI : ∀ W B, On W B bb ((st0 g (busV bb)).put 0 0) x → Calls Tryd.prog 16 #[.pointer (some ⟨B, 0, none⟩)] W fun e w' => e = .returned (.bool false) ∧ Od W B bb x s2 y1 w') (hrow : ∀ k, y1.row k ↔ x.row k)
    (hJ : ∀ W B v, On W B bb s2 (y1.lvTo v) → Calls Tryd.prog 17 #[.pointer (some ⟨B, 0, none⟩)] W fun e w' => e = .returned (.tuple #[]) ∧ Od W B bb (y1.lvTo v) s3 y2 w') (hrow2 : ∀ k, y2.row k ↔ x.row k) :
    Calls Tryd.prog 8 #[.pointer (some ⟨G, 0, none⟩), .iface 38 (.pointer (some ⟨bb, 0, none⟩))] w fun e w' => e = .returned (.agg (rsc s3.r).toArray) ∧ Sp w G bb x s3.g y2 w' := by
  have hGl := hp_lt h.r
  obtain ⟨w1, hw1⟩ : ∃ w1, w1 = w.alloc (.cells (rsc Rs.zero).toArray 43) := ⟨_, rfl⟩
  have k1 : Kp w w1 := by rw [hw1]; exact (Chg.refl w _).alloc _
  have n1 : w1.heap[w.heap.size]? = some (.cells (rsc Rs.zero).toArray 43 (0, 0)) := by rw [hw1]; exact heap_alloc_new w _
  have z1 : w1.heap.size = w.heap.size + 1 := by rw [hw1]; simp
  obtain ⟨w2, hw2⟩ : ∃ w2, w2 = w1.alloc (.cells (stc (st0 Rg.zero .nilIface)).toArray 63) := ⟨_, rfl⟩
  have k2 : Kp w1 w2 := by rw [hw2]; exact (Chg.refl w1 _).alloc _
  have n2 : w2.heap[w1.heap.size]? = some (.cells (stc (st0 Rg.zero .nilIface)).toArray 63 (0, 0)) := by rw [hw2]; exact heap_alloc_new w1 _
  have z2 : w2.heap.size = w.heap.size + 2 := by rw [hw2]; simp [z1]
  have hst1 := storeAll w2 63 w1.heap.size _ (stc (st0 g (busV bb))).toArray 63 n2 rfl (by rw [size66]; rfl) (by simpa using stc_one g bb)
  obtain ⟨w3, hw3⟩ : ∃ w3, w3 = w2.setRow w1.heap.size (stc (st0 g (busV bb))).toArray := ⟨_, rfl⟩
  have t3 : IsT w3 w1.heap.size (st0 g (busV bb)) := by rw [hw3]; exact setRow_heap w2 _ _ _ 63 (0, 0) n2
  have k3 : Chg w2 w3 (fun k => k = w1.heap.size) := by rw [hw3]; exact Chg.setRow (S := fun k => k = w1.heap.size) (Chg.refl _ _) (.inl rfl) _
  have c30 := t3.cell 0 _ rfl
  have f30 := t3.fr 0
  obtain ⟨t4, k4⟩ := t3.set 0 (.int .u32 0) ((st0 g (busV bb)).put 0 0) rfl
  have K4 : Kp w _ := Chg.trans (Kp.trans k1 k2) (Chg.trans k3 k4 (fun _ _ e => e)) (fun i hi e => by omega)
  have r4 := Kp.heap K4 h.r
  have N4 := Chg.heap (Chg.trans k3 k4 (fun _ _ e => e)) (Kp.heap k2 n1) (by omega)
  have O4 : On _ w1.heap.size bb ((st0 g (busV bb)).put 0 0) x := ⟨t4, h.b.kp K4, rfl, fun k hk => by
      rcases hk with hk | hk
      · have := h.b.olt k hk; omega
      · have := (h.b.ap k hk).2.2; omega, h.g.keep K4, by have := h.G2; omega, h.o2⟩
  have hI4 := hI _ _ O4
  have rrg := fun w (h : IsRg w G g) => (rangeOf (o := 0) h (rgc g) (fun j v hv => by rw [Nat.zero_add, List.getElem?_toArray]; exact hv))
  have rr2 := rrg w1 (Kp.heap k1 h.r)
  have l25 : (Tryd.prog.info? 25).map (·.size) = some (rgc g).length := by kernel_rfl
  have l25b : (Tryd.prog.info? 25).map (·.size) = some (rgc s3.g).length := by kernel_rfl
  have l38 : (Tryd.prog.info? 43).map (·.size) = some (rsc s3.r).length := by kernel_rfl
  have hz66 := fun w => zero66 w
  have hz38 := fun w => zero38 w
  have hbu := fun w => build66 w g bb
  have HX : Hid (Rb w G bb g x) := h
  have HK : Hid (Kp w _ ∧ w.heap.size + 2 ≤ (w3.setCell ⟨w1.heap.size, 0, none⟩ (.int .u32 0)).heap.size) := ⟨K4, by simp [World.setCell]; rw [← z2]; exact k3.size⟩
  have hN : ¬ x.own bb w.heap.size := fun hk => by have := h.b.olt _ hk; omega
  clear h k1 k2 k3 k4 n1 n2 t3 t4 O4 hI K4 rrg z2
  generalize (stc (st0 Rg.zero .nilIface)).toArray = Z66 at *
  have hZ38 : (rsc Rs.zero).toArray.size = 10 := rfl
  generalize (rsc Rs.zero).toArray = Z38 at *
  generalize hL : rgc g = L at *
  generalize (stc (st0 g (busV bb))).toArray = S0 at *
  have u25 := Tryd.underlying25
  have u38 := Tryd.underlying43
  have HB : Hid (w1.heap.size = w.heap.size + 1) := z1
  clear z1
  rw [← hw3] at hst1
  clear hw3
  go_enter Tryd.func8, Tryd.ntmps8
  rw [hw2] at hst1
  go_upto_region 3 with (fail)
  rw [← hw1]
  clear hw1 hw2
  go_upto_region 5 with (first
    | (refine wpList_alloc_zero _ rfl 63 Z66 rfl (hz66 _) ?_)
    | (refine wpList_load_mid rfl 25 (.tmp 14) rfl G 0 rfl L _ rr2 u25 rfl l25 ?_)
    | (refine wpList_build2 rfl 63 0 1 (.tmp 15) (.tmp 16) rfl (.agg L.toArray) (.iface 38 (.pointer (some ⟨bb, 0, none⟩))) rfl rfl (.agg S0) (hbu _) ?_)
    | (refine wpList_store_row rfl 63 (.tmp 5) (.tmp 17) rfl w1.heap.size 0 S0 rfl rfl _ hst1 ?_))
  go_upto_region 7 with (first
    | (go_at_call 16; refine hI4.mono ?_; rintro e w5 ⟨rfl, v5, o5, k5, l5⟩)
    | (go_at_call 17; refine (hJ _ _ v5 o5).mono ?_; rintro e w6 ⟨rfl, hO6⟩; obtain ⟨v6, o6, K6, l6⟩ := Od.comp (s := s3) (y := y1) k5 l5 hO6))
  clear hI4
  have hLl : L.toArray.size = 21 := by rw [← hL]; rfl
  have hb4 := HK.out.2
  have hB1 := HB.out
  have r6 := K6.heap r4 (fun e => by
    rcases e with e | e
    · omega
    · exact HX.out.ne G (.inl e) rfl)
  have N6 := K6.heap N4 (fun e => by
    rcases e with e | e
    · omega
    · exact hN e)
  have rr5 := o6.t.rg
  have hst5 := storeAll w6 25 G _ (rgc s3.g).toArray 25 r6 (by rw [hLl]; rfl) (by rw [size25]; rfl) (by simpa using rgc_one s3.g)
  obtain ⟨w7, hw7⟩ : ∃ w7, w7 = w6.setRow G (rgc s3.g).toArray := ⟨_, rfl⟩
  have r7 : IsRg w7 G s3.g := by rw [hw7]; exact setRow_heap w6 _ _ _ 25 (0, 0) r6
  have k7 : Chg w6 w7 (fun k => k = G) := by rw [hw7]; exact Chg.setRow (S := fun k => k = G) (Chg.refl _ _) (.inl rfl) _
  have t7 := o6.t.chg k7 (by omega)
  have N7 := k7.heap N6 (by omega)
  have rr6 := t7.rs
  have hZ : Z38.size = 10 := hZ38
  have hst6 := storeAll w7 43 w.heap.size _ (rsc s3.r).toArray 43 N7 (by rw [hZ]; rfl) (by rw [size38]; rfl) (by simpa using rsc_one s3.r)
  obtain ⟨w8, hw8⟩ : ∃ w8, w8 = w7.setRow w.heap.size (rsc s3.r).toArray := ⟨_, rfl⟩
  have n8 : w8.heap[w.heap.size]? = some (.cells (rsc s3.r).toArray 43 (0, 0)) := by rw [hw8]; exact setRow_heap w7 _ _ _ 43 (0, 0) N7
  have k8 : Chg w7 w8 (fun k => k = w.heap.size) := by rw [hw8]; exact Chg.setRow (S := fun k => k = w.heap.size) (Chg.refl _ _) (.inl rfl) _
  have hown : ∀ k, (y2.lvTo v6).own bb k ∨ (y2.lvTo v6).row k → k ≠ G ∧ k ≠ w.heap.size := fun k hk => by
    rcases hk with hk | hk
    · have hk2 : x.own bb k ∨ w.heap.size + 2 ≤ k := by
        rcases hk with e | e
        · exact .inl (.inl e)
        · have e2 : v6.ownBlock = some k := e
          rcases l6 with l | ⟨j, l, hj⟩
          · exact .inl (.inr (by rw [← l]; exact e2))
          · rw [l] at e2; cases e2; exact .inr (by omega)
      rcases hk2 with e | e
      · have := HX.out.b.olt k e
        exact ⟨HX.out.ne k (.inl e), by omega⟩
      · exact ⟨by omega, by omega⟩
    · have e := (hrow2 k).1 hk
      have := (HX.out.b.ap k e).2.2
      exact ⟨HX.out.ne k (.inr e), by omega⟩
  have HE : Hid (Sp w G bb x s3.g y2 w8) := by
    refine ⟨v6, k8.heap r7 (by omega), (o6.b.chg k7 (fun k _ hk => (hown k hk).1)).chg k8 (fun k _ hk => (hown k hk).2), ?_, ?_⟩
    · refine Chg.trans (Chg.trans (Chg.trans (Kp.any HK.out.1) K6 (T := fun k => k = w1.heap.size ∨ x.own bb k) (S := fun k => k = G ∨ x.own bb k) ?_) k7 ?_) k8 ?_
      · intro i hi e
        rcases e with e | e
        · omega
        · exact .inr e
      · exact fun i _ e => .inl e
      · exact fun i hi e => by omega
    · rcases l6 with l | ⟨j, l, hj⟩
      · exact .inl l
      · exact .inr ⟨j, l, by omega⟩
  clear r6 N6 r7 k7 t7 N7 k8 hown o6 K6 l6 hB1 hb4
  rw [← hw7] at hst5
  rw [← hw8] at hst6
  generalize hrs : (rsc s3.r) = RS at *
  generalize hrg : (rgc s3.g) = RG at *
  clear hw7 hw8
  go_wp2_with (first
    | (refine wpList_load_mid rfl 25 (.tmp 25) rfl w1.heap.size 0 rfl RG _ rr5 u25 rfl l25b ?_)
    | (refine wpList_store_row rfl 25 (.tmp 27) (.tmp 26) rfl G 0 RG.toArray rfl rfl _ hst5 ?_)
    | (refine wpList_load_mid rfl 43 (.tmp 28) rfl w1.heap.size 28 rfl RS _ rr6 u38 rfl l38 ?_)
    | (refine wpList_store_row rfl 43 (.tmp 4) (.tmp 29) rfl w.heap.size 0 RS.toArray rfl rfl _ hst6 ?_))
  refine ⟨rfl, .agg RS.toArray, ?_, by rw [hrs], HE.out⟩
  refine results_cell_row rfl _ _ w.heap.size 43 RS.toArray (0, 0) _ rfl n8 Tryd.underlying43 rfl ?_
  rw [size38, ← hrs]; rfl
end Go.Proofs.YtghiffpolacmiabDoor
