import Derived.Test.YtghiffpolacmiabGreatDoorUt
import Derived.Laws.StructEq
import Derived.ChangeKeysEq
namespace Go.Proofs.YtghiffpolacmiabGreatDoor
open Go.ChangeShapes Go.WideShapes Go.ChangeAt Go.RowKit Go.Shelf
set_option linter.unusedVariables false

theorem ent_any (n : Nat) (h0 : 0 < n) (h49 : n < 49) : ∀ args w, (callFunc (dTab.getD n 0) args).run Tryz.prog w = .ok (.enter (dTab.getD n 0) args) w := by
  have hn : n = 1 ∨ n = 2 ∨ n = 3 ∨ n = 4 ∨ n = 5 ∨ n = 6 ∨ n = 7 ∨ n = 8 ∨ n = 9 ∨ n = 10 ∨ n = 11 ∨ n = 12 ∨ n = 13 ∨ n = 14 ∨ n = 15 ∨ n = 16 ∨ n = 17 ∨ n = 18 ∨ n = 19 ∨ n = 20 ∨ n = 21 ∨ n = 22 ∨ n = 23 ∨ n = 24 ∨ n = 25 ∨ n = 26 ∨ n = 27 ∨ n = 28 ∨ n = 29 ∨ n = 30 ∨ n = 31 ∨ n = 32 ∨ n = 33 ∨ n = 34 ∨ n = 35 ∨ n = 36 ∨ n = 37 ∨ n = 38 ∨ n = 39 ∨ n = 40 ∨ n = 41 ∨ n = 42 ∨ n = 43 ∨ n = 44 ∨ n = 45 ∨ n = 46 ∨ n = 47 ∨ n = 48 := by omega
  rcases hn with rfl | rfl | rfl | rfl | rfl | rfl | rfl | rfl | rfl | rfl | rfl | rfl | rfl | rfl | rfl | rfl | rfl | rfl | rfl | rfl | rfl | rfl | rfl | rfl | rfl | rfl | rfl | rfl | rfl | rfl | rfl | rfl | rfl | rfl | rfl | rfl | rfl | rfl | rfl | rfl | rfl | rfl | rfl | rfl | rfl | rfl | rfl | rfl
  · exact enters_of Tryz.func36 (by kernel_rfl) rfl
  · exact enters_of Tryz.func37 (by kernel_rfl) rfl
  · exact enters_of Tryz.func38 (by kernel_rfl) rfl
  · exact enters_of Tryz.func39 (by kernel_rfl) rfl
  · exact enters_of Tryz.func40 (by kernel_rfl) rfl
  · exact enters_of Tryz.func41 (by kernel_rfl) rfl
  · exact enters_of Tryz.func42 (by kernel_rfl) rfl
  · exact enters_of Tryz.func43 (by kernel_rfl) rfl
  · exact enters_of Tryz.func44 (by kernel_rfl) rfl
  · exact enters_of Tryz.func45 (by kernel_rfl) rfl
  · exact enters_of Tryz.func46 (by kernel_rfl) rfl
  · exact enters_of Tryz.func47 (by kernel_rfl) rfl
  · exact enters_of Tryz.func48 (by kernel_rfl) rfl
  · exact enters_of Tryz.func36 (by kernel_rfl) rfl
  · exact enters_of Tryz.func41 (by kernel_rfl) rfl
  · exact enters_of Tryz.func42 (by kernel_rfl) rfl
  · exact enters_of Tryz.func43 (by kernel_rfl) rfl
  · exact enters_of Tryz.func44 (by kernel_rfl) rfl
  · exact enters_of Tryz.func45 (by kernel_rfl) rfl
  · exact enters_of Tryz.func46 (by kernel_rfl) rfl
  · exact enters_of Tryz.func47 (by kernel_rfl) rfl
  · exact enters_of Tryz.func48 (by kernel_rfl) rfl
  · exact enters_of Tryz.func49 (by kernel_rfl) rfl
  · exact enters_of Tryz.func50 (by kernel_rfl) rfl
  · exact enters_of Tryz.func51 (by kernel_rfl) rfl
  · exact enters_of Tryz.func52 (by kernel_rfl) rfl
  · exact enters_of Tryz.func53 (by kernel_rfl) rfl
  · exact enters_of Tryz.func54 (by kernel_rfl) rfl
  · exact enters_of Tryz.func55 (by kernel_rfl) rfl
  · exact enters_of Tryz.func56 (by kernel_rfl) rfl
  · exact enters_of Tryz.func57 (by kernel_rfl) rfl
  · exact enters_of Tryz.func58 (by kernel_rfl) rfl
  · exact enters_of Tryz.func59 (by kernel_rfl) rfl
  · exact enters_of Tryz.func60 (by kernel_rfl) rfl
  · exact enters_of Tryz.func61 (by kernel_rfl) rfl
  · exact enters_of Tryz.func62 (by kernel_rfl) rfl
  · exact enters_of Tryz.func63 (by kernel_rfl) rfl
  · exact enters_of Tryz.func64 (by kernel_rfl) rfl
  · exact enters_of Tryz.func65 (by kernel_rfl) rfl
  · exact enters_of Tryz.func66 (by kernel_rfl) rfl
  · exact enters_of Tryz.func67 (by kernel_rfl) rfl
  · exact enters_of Tryz.func68 (by kernel_rfl) rfl
  · exact enters_of Tryz.func69 (by kernel_rfl) rfl
  · exact enters_of Tryz.func70 (by kernel_rfl) rfl
  · exact enters_of Tryz.func71 (by kernel_rfl) rfl
  · exact enters_of Tryz.func72 (by kernel_rfl) rfl
  · exact enters_of Tryz.func73 (by kernel_rfl) rfl
  · exact enters_of Tryz.func74 (by kernel_rfl) rfl
theorem dR_lt (w l p : Nat) : dR w l p < 16 := by unfold dR; split <;> omega
theorem de_op {v : Nat} (h : de v = 0) : isO (dO v) = true := by
  unfold de at h
  by_cases ho : isO (dO v) = false
  · rw [if_pos ho] at h; omega
  · simpa using ho
theorem doS_lv (n : Nat) (t : St) (y : Bd) (v : Value) : doS n t (y.lvTo v) = doS n t y := by
  unfold doS
  split <;> rfl
theorem doB_lv (n : Nat) (t : St) (y : Bd) (v v' : Value) : (doB n t (y.lvTo v)).lvTo v' = (doB n t y).lvTo v' := by
  unfold doB
  split <;> rfl
/-- An instruction, whatever is fetched. -/
def St.c0 (s : St) (x : Bd) : St := s.s0.cost (nxt x.cy x.ic)
def insS (s : St) (x : Bd) : St :=
  if nxt x.fa x.jf ≠ 0 then ((s.c0 x).fault (nxt x.fa x.jf) s.g.pc).pcTo
  else if de (nxt x.ws x.iw).toNat ≠ 0 then ((s.c0 x).fault 6 s.g.pc).pcTo
  else (doS (dO (nxt x.ws x.iw).toNat).toNat ((s.c0 x).ins (nxt x.ws x.iw).toNat) (x.fet s.g.pc)).pcTo
def insB (s : St) (x : Bd) : Bd :=
  if nxt x.fa x.jf ≠ 0 then x.fet s.g.pc
  else if de (nxt x.ws x.iw).toNat ≠ 0 then x.fet s.g.pc
  else doB (dO (nxt x.ws x.iw).toNat).toNat ((s.c0 x).ins (nxt x.ws x.iw).toNat) (x.fet s.g.pc)
theorem ins_any (w : World) (B bb : Nat) (s : St) (x : Bd) (h : On w B bb s x) (hx : x.ok) (hr : ∀ i, 0 ≤ s.g.R i ∧ s.g.R i < 4294967296) :
    Calls Tryz.prog 12 #[.pointer (some ⟨B, 0, none⟩)] w fun e w' => e = .returned (.tuple #[]) ∧ Od w B bb x (insS s x) (insB s x) w' := by
  have hl := hx.le.more (m := 9999) (by omega)
  unfold insS insB
  by_cases hf : nxt x.fa x.jf = 0
  · have hf' : ¬ (nxt x.fa x.jf ≠ 0) := by simpa using hf
    rw [if_neg hf', if_neg hf']
    have hw := hx.ws x.iw
    obtain ⟨v, hv⟩ : ∃ v : Nat, nxt x.ws x.iw = v := ⟨(nxt x.ws x.iw).toNat, by omega⟩
    rw [hv] at hw ⊢
    rw [show ((v : Int)).toNat = v from rfl]
    by_cases hd : de v = 0
    · have hd' : ¬ (de v ≠ 0) := by simpa using hd
      rw [if_neg hd', if_neg hd']
      have hop := de_op hd
      have hop2 := (isO_iff (dO v)).1 hop
      have h1 : 0 < (dO v).toNat := by omega
      have h2 : (dO v).toNat < 49 := by omega
      have hlf : (x.fet s.g.pc).le 9999 := by
        obtain ⟨q1, q2, q3, q4, q5⟩ := hx.le
        refine ⟨?_, ?_, ?_, ?_, ?_⟩
        · show (if x.ws = [] then x.iw else x.iw + 1) ≤ 9999
          split <;> omega
        · show x.iv ≤ 9999; omega
        · show x.ic + 1 ≤ 9999; omega
        · show x.jf + 1 ≤ 9999; omega
        · show (x.lg ++ [_]).length ≤ 9999
          simp; omega
      exact ins_yes w B bb (dTab.getD (dO v).toNat 0) s ((s.c0 x).ins v) _ x (x.fet s.g.pc) _ h (fun W hW => fet_ok W B bb s.s0 x hW hl hf v (by omega) hv hd) hop rfl (ent_any _ h1 h2)
        (fun W v' hW => (deed_any W B bb (dO v).toNat ((s.c0 x).ins v) ((x.fet s.g.pc).lvTo v') hW ⟨dR_lt _ _ _, dR_lt _ _ _, dR_lt _ _ _, hr⟩ hlf hx.tm (hx.vs x.iv) h1 h2).mono (fun e w' hq => by
          obtain ⟨q1, v2, q2, q3, q4⟩ := hq
          rw [doS_lv, doB_lv] at q2
          exact ⟨q1, v2, q2, q3, q4⟩)) (doS_bus _ _ _).1 (doS_bus _ _ _).2
    · rw [if_pos hd, if_pos hd]
      exact ins_no w B bb s _ x _ h (fun W hW => fet_bad W B bb s.s0 x hW hl hf v (by omega) hv hd)
  · rw [if_pos hf, if_pos hf]
    exact ins_no w B bb s _ x _ h (fun W hW => fet_fault W B bb s.s0 x hW hl hf)
end Go.Proofs.YtghiffpolacmiabGreatDoor
namespace Go.Proofs.YtghiffpolacmiabGreatDoor
open Go.ChangeShapes Go.WideShapes Go.ChangeAt Go.RowKit
set_option linter.unusedVariables false

def Rs.zero : Rs := ⟨0, 0, 0, 0, 0, 0, false, 0, false, 0⟩
def st0 (g : Rg) (bus : Value) : St := ⟨g, bus, 0, 0, 0, 0, 0, 0, Rs.zero⟩
def Rg.zero : Rg := ⟨fun _ => 0, 0, 0, 0, false, false⟩
theorem zeroOf {t : TypeId} {z : Value} (w : World) (h : (Tryz.prog.info? t).bind (·.zero) = some z) : (zeroValue t).run Tryz.prog w = .ok z w := by
  cases hq : Tryz.prog.info? t with
  | none => rw [hq] at h; cases h
  | some i =>
    rw [hq] at h
    have hz2 : i.zero = some z := h
    simp [zeroValue, typeInfo, hq, hz2, go_sem]
theorem zero66 (w : World) : (zeroValue 54).run Tryz.prog w = .ok (.agg (stc (st0 Rg.zero .nilIface)).toArray) w := zeroOf w (by kernel_rfl)
theorem zero38 (w : World) : (zeroValue 40).run Tryz.prog w = .ok (.agg (rsc Rs.zero).toArray) w := zeroOf w (by kernel_rfl)
theorem build66 (w : World) (g : Rg) (bb : Nat) : (Instr.build 54 #[(0, .agg (rgc g).toArray), (1, .iface 33 (.pointer (some ⟨bb, 0, none⟩)))]).run Tryz.prog w = .ok (.agg (stc (st0 g (busV bb))).toArray) w := by kernel_rfl
theorem stc_one (g : Rg) (bb : Nat) : ∀ v ∈ stc (st0 g (busV bb)), v.oneCell' = true := by
  simp [stc, rgc, rsc, st0, busV, Value.oneCell']
theorem size66 : (Tryz.prog.info? 54).map (·.size) = some 38 := by kernel_rfl
theorem size25 : (Tryz.prog.info? 25).map (·.size) = some 21 := by kernel_rfl
theorem size38 : (Tryz.prog.info? 40).map (·.size) = some 10 := by kernel_rfl
theorem stc_len (s : St) : (stc s).length = 38 := rfl
theorem rgc_len (s : Rg) : (rgc s).length = 21 := rfl
theorem rsc_len (s : Rs) : (rsc s).length = 10 := rfl
theorem rgc_one (g : Rg) : ∀ v ∈ rgc g, v.oneCell' = true := by simp [rgc, Value.oneCell']
theorem rsc_one (r : Rs) : ∀ v ∈ rsc r, v.oneCell' = true := by simp [rsc, Value.oneCell']
/-- A variable is written whole. -/
theorem storeAll (w : World) (t : TypeId) (R : Nat) (cur C : Array Value) (T : TypeId) (h : w.heap[R]? = some (.cells cur T (0, 0))) (hs : cur.size = C.size) (hi : (Tryz.prog.info? t).map (·.size) = some C.size) (h1 : ∀ v ∈ C.toList, v.oneCell' = true) :
    (storeVar t ⟨R, 0, none⟩ (.agg C)).run Tryz.prog w = .ok () (w.setRow R C) := by
  have := run_storeVar_row (P := Tryz.prog) w R 0 t C cur T h (by omega) hi h1
  rw [this]
  have e : (cur.toList.take 0 ++ C.toList ++ cur.toList.drop (0 + C.size)).toArray = C := by
    rw [List.take_zero, List.nil_append, List.drop_of_length_le (by rw [Array.length_toList]; omega), List.append_nil]
  rw [e]
theorem rangeOf {w : World} {B o : Nat} {cs : Array Value} {T : TypeId} (h : w.heap[B]? = some (.cells cs T (0, 0))) (l : List Value) (hl : ∀ (j : Nat) v, l[j]? = some v → cs[o + j]? = some v) : w.rangeAt B o l := fun j v hv => by
  rw [(cells_at h _).1]
  exact hl j v hv
theorem IsT.rg {w : World} {B : Nat} {s : St} (h : IsT w B s) : w.rangeAt B 0 (rgc s.g) := rangeOf h _ (fun j v hv => by
  rw [Nat.zero_add, List.getElem?_toArray]
  unfold stc
  rw [List.getElem?_append_left (List.getElem?_eq_some_iff.1 hv).1]
  exact hv)
theorem IsT.rs {w : World} {B : Nat} {s : St} (h : IsT w B s) : w.rangeAt B 28 (rsc s.r) := rangeOf h _ (fun j v hv => by
  rw [List.getElem?_toArray]
  show (rgc s.g ++ ([s.bus, .int .i64 s.op, .int .u8 (s.d : Nat), .int .u8 (s.a : Nat), .int .u8 (s.b : Nat), .int .i32 s.n, .int .u32 s.nx] ++ rsc s.r))[28 + j]? = some v
  rw [List.getElem?_append_right (by simp [rgc]; omega), List.getElem?_append_right (by simp [rgc]; omega)]
  rw [show 28 + j - (rgc s.g).length - [s.bus, .int .i64 s.op, .int .u8 (s.d : Nat), .int .u8 (s.a : Nat), .int .u8 (s.b : Nat), .int .i32 s.n, .int .u32 s.nx].length = j by simp [rgc]; omega]
  exact hv)
theorem wpList_build2 {w : World} {ops : Array Oper} {rest : List Oper} {o : Oper} {a : Act} {Q : Exit → Act → World → Prop} (hgd : o.guard = none) (t : TypeId) (i j : Nat) (x y : Operand) (ho : o.op = .build t #[(i, x), (j, y)]) (vx vy : Value) (hx : a.eval x = vx) (hy : a.eval y = vy) (v : Value) (hrun : (Instr.build t #[(i, vx), (j, vy)]).run Tryz.prog w = .ok v w)
    (h : wpList Tryz.prog ops Q rest (a.put o.dst v) w) : wpList Tryz.prog ops Q (o :: rest) a w :=
  wpList_build_run hgd t _ ho #[(i, vx), (j, vy)] (by simp [hx, hy]) v hrun h
/-- What a step leaves. -/
def Sp (w : World) (G bb : Nat) (x : Bd) (g : Rg) (y : Bd) (w' : World) : Prop :=
  ∃ v', IsRg w' G g ∧ IsB w' bb (y.lvTo v') ∧ Chg w w' (fun k => k = G ∨ x.own bb k) ∧ (v'.ownBlock = x.lv.ownBlock ∨ ∃ k, v'.ownBlock = some k ∧ w.heap.size ≤ k)
/-- Registers and a bus, apart. -/
structure Rb (w : World) (G bb : Nat) (g : Rg) (x : Bd) : Prop where
  r : IsRg w G g
  b : IsB w bb x
  g : Gt w
  G2 : 2 ≤ G
  ne : ∀ k, (x.own bb k ∨ x.row k) → k ≠ G
  o2 : ∀ k, x.own bb k → 2 ≤ k
theorem IsB.olt {w : World} {bb : Nat} {x : Bd} (h : IsB w bb x) (k : Nat) (hk : x.own bb k) : k < w.heap.size := by
  rcases hk with rfl | hk
  · exact hp_lt h.box
  · rcases h.lg.2 with ⟨h1, h2⟩ | ⟨g, cap, cur, h1, h2, h3, _⟩
    · rw [h1] at hk; cases hk
    · rw [h1] at hk; cases hk; exact hp_lt h3
set_option maxRecDepth 100000 in
set_option maxHeartbeats 8000000 in
theorem step_irq (w : World) (G bb : Nat) (g : Rg) (x y1 y2 : Bd) (s2 s3 : St) (h : Rb w G bb g x)
    (hI : ∀ W B, On W B bb ((st0 g (busV bb)).put 0 0) x → Calls Tryz.prog 11 #[.pointer (some ⟨B, 0, none⟩)] W fun e w' => e = .returned (.bool true) ∧ Od W B bb x s2 y1 w') (hrow : ∀ k, y1.row k ↔ x.row k)
     :
    Calls Tryz.prog 5 #[.pointer (some ⟨G, 0, none⟩), .iface 33 (.pointer (some ⟨bb, 0, none⟩))] w fun e w' => e = .returned (.agg (rsc s2.r).toArray) ∧ Sp w G bb x s2.g y1 w' := by
  have hGl := hp_lt h.r
  obtain ⟨w1, hw1⟩ : ∃ w1, w1 = w.alloc (.cells (rsc Rs.zero).toArray 40) := ⟨_, rfl⟩
  have k1 : Kp w w1 := by rw [hw1]; exact (Chg.refl w _).alloc _
  have n1 : w1.heap[w.heap.size]? = some (.cells (rsc Rs.zero).toArray 40 (0, 0)) := by rw [hw1]; exact heap_alloc_new w _
  have z1 : w1.heap.size = w.heap.size + 1 := by rw [hw1]; simp
  obtain ⟨w2, hw2⟩ : ∃ w2, w2 = w1.alloc (.cells (stc (st0 Rg.zero .nilIface)).toArray 54) := ⟨_, rfl⟩
  have k2 : Kp w1 w2 := by rw [hw2]; exact (Chg.refl w1 _).alloc _
  have n2 : w2.heap[w1.heap.size]? = some (.cells (stc (st0 Rg.zero .nilIface)).toArray 54 (0, 0)) := by rw [hw2]; exact heap_alloc_new w1 _
  have z2 : w2.heap.size = w.heap.size + 2 := by rw [hw2]; simp [z1]
  have hst1 := storeAll w2 54 w1.heap.size _ (stc (st0 g (busV bb))).toArray 54 n2 rfl (by rw [size66]; rfl) (by simpa using stc_one g bb)
  obtain ⟨w3, hw3⟩ : ∃ w3, w3 = w2.setRow w1.heap.size (stc (st0 g (busV bb))).toArray := ⟨_, rfl⟩
  have t3 : IsT w3 w1.heap.size (st0 g (busV bb)) := by rw [hw3]; exact setRow_heap w2 _ _ _ 54 (0, 0) n2
  have k3 : Chg w2 w3 (fun k => k = w1.heap.size) := by rw [hw3]; exact Chg.setRow (S := fun k => k = w1.heap.size) (Chg.refl _ _) (.inl rfl) _
  have c30 := t3.cell 0 _ rfl
  have f30 := t3.fr 0
  obtain ⟨t4, k4⟩ := t3.set 0 (.int .u32 0) ((st0 g (busV bb)).put 0 0) rfl
  have K4 : Kp w _ := Chg.trans (Kp.trans k1 k2) (Chg.trans k3 k4 (fun _ _ e => e)) (fun i hi e => by omega)
  have r4 := Kp.heap K4 h.r
  have N4 := Chg.heap (Chg.trans k3 k4 (fun _ _ e => e)) (Kp.heap k2 n1) (by omega)
  have O4 : On _ w1.heap.size bb ((st0 g (busV bb)).put 0 0) x := ⟨t4, h.b.kp K4, rfl, fun k hk => by
      rcases hk with hk | hk
      · have := h.b.olt k hk; omega
      · have := (h.b.ap k hk).2.2; omega, h.g.keep K4, by have := h.G2; omega, h.o2⟩
  have hI4 := hI _ _ O4
  have rrg := fun w (h : IsRg w G g) => (rangeOf (o := 0) h (rgc g) (fun j v hv => by rw [Nat.zero_add, List.getElem?_toArray]; exact hv))
  have rr2 := rrg w1 (Kp.heap k1 h.r)
  have l25 : (Tryz.prog.info? 25).map (·.size) = some (rgc g).length := by kernel_rfl
  have l25b : (Tryz.prog.info? 25).map (·.size) = some (rgc s2.g).length := by kernel_rfl
  have l38 : (Tryz.prog.info? 40).map (·.size) = some (rsc s2.r).length := by kernel_rfl
  have hz66 := fun w => zero66 w
  have hz38 := fun w => zero38 w
  have hbu := fun w => build66 w g bb
  have HX : Hid (Rb w G bb g x) := h
  have HK : Hid (Kp w _ ∧ w.heap.size + 2 ≤ (w3.setCell ⟨w1.heap.size, 0, none⟩ (.int .u32 0)).heap.size) := ⟨K4, by simp [World.setCell]; rw [← z2]; exact k3.size⟩
  have hN : ¬ x.own bb w.heap.size := fun hk => by have := h.b.olt _ hk; omega
  clear h k1 k2 k3 k4 n1 n2 t3 t4 O4 hI K4 rrg z2
  generalize (stc (st0 Rg.zero .nilIface)).toArray = Z66 at *
  have hZ38 : (rsc Rs.zero).toArray.size = 10 := rfl
  generalize (rsc Rs.zero).toArray = Z38 at *
  generalize hL : rgc g = L at *
  generalize (stc (st0 g (busV bb))).toArray = S0 at *
  have u25 := Tryz.underlying25
  have u38 := Tryz.underlying40
  have HB : Hid (w1.heap.size = w.heap.size + 1) := z1
  clear z1
  rw [← hw3] at hst1
  clear hw3
  go_enter Tryz.func5, Tryz.ntmps5
  rw [hw2] at hst1
  go_upto_region 3 with (fail)
  rw [← hw1]
  clear hw1 hw2
  go_upto_region 5 with (first
    | (refine wpList_alloc_zero _ rfl 54 Z66 rfl (hz66 _) ?_)
    | (refine wpList_load_mid rfl 25 (.tmp 14) rfl G 0 rfl L _ rr2 u25 rfl l25 ?_)
    | (refine wpList_build2 rfl 54 0 1 (.tmp 15) (.tmp 16) rfl (.agg L.toArray) (.iface 33 (.pointer (some ⟨bb, 0, none⟩))) rfl rfl (.agg S0) (hbu _) ?_)
    | (refine wpList_store_row rfl 54 (.tmp 5) (.tmp 17) rfl w1.heap.size 0 S0 rfl rfl _ hst1 ?_))
  go_upto_region 7 with (go_at_call 11; refine hI4.mono ?_; rintro e w6 ⟨rfl, v6, o6, K6, l6⟩)
  clear hI4
  have hLl : L.toArray.size = 21 := by rw [← hL]; rfl
  have hb4 := HK.out.2
  have hB1 := HB.out
  have r6 := K6.heap r4 (fun e => by
    rcases e with e | e
    · omega
    · exact HX.out.ne G (.inl e) rfl)
  have N6 := K6.heap N4 (fun e => by
    rcases e with e | e
    · omega
    · exact hN e)
  have rr5 := o6.t.rg
  have hst5 := storeAll w6 25 G _ (rgc s2.g).toArray 25 r6 (by rw [hLl]; rfl) (by rw [size25]; rfl) (by simpa using rgc_one s2.g)
  obtain ⟨w7, hw7⟩ : ∃ w7, w7 = w6.setRow G (rgc s2.g).toArray := ⟨_, rfl⟩
  have r7 : IsRg w7 G s2.g := by rw [hw7]; exact setRow_heap w6 _ _ _ 25 (0, 0) r6
  have k7 : Chg w6 w7 (fun k => k = G) := by rw [hw7]; exact Chg.setRow (S := fun k => k = G) (Chg.refl _ _) (.inl rfl) _
  have t7 := o6.t.chg k7 (by omega)
  have N7 := k7.heap N6 (by omega)
  have rr6 := t7.rs
  have hZ : Z38.size = 10 := hZ38
  have hst6 := storeAll w7 40 w.heap.size _ (rsc s2.r).toArray 40 N7 (by rw [hZ]; rfl) (by rw [size38]; rfl) (by simpa using rsc_one s2.r)
  obtain ⟨w8, hw8⟩ : ∃ w8, w8 = w7.setRow w.heap.size (rsc s2.r).toArray := ⟨_, rfl⟩
  have n8 : w8.heap[w.heap.size]? = some (.cells (rsc s2.r).toArray 40 (0, 0)) := by rw [hw8]; exact setRow_heap w7 _ _ _ 40 (0, 0) N7
  have k8 : Chg w7 w8 (fun k => k = w.heap.size) := by rw [hw8]; exact Chg.setRow (S := fun k => k = w.heap.size) (Chg.refl _ _) (.inl rfl) _
  have hown : ∀ k, (y1.lvTo v6).own bb k ∨ (y1.lvTo v6).row k → k ≠ G ∧ k ≠ w.heap.size := fun k hk => by
    rcases hk with hk | hk
    · have hk2 : x.own bb k ∨ w.heap.size + 2 ≤ k := by
        rcases hk with e | e
        · exact .inl (.inl e)
        · have e2 : v6.ownBlock = some k := e
          rcases l6 with l | ⟨j, l, hj⟩
          · exact .inl (.inr (by rw [← l]; exact e2))
          · rw [l] at e2; cases e2; exact .inr (by omega)
      rcases hk2 with e | e
      · have := HX.out.b.olt k e
        exact ⟨HX.out.ne k (.inl e), by omega⟩
      · exact ⟨by omega, by omega⟩
    · have e := (hrow k).1 hk
      have := (HX.out.b.ap k e).2.2
      exact ⟨HX.out.ne k (.inr e), by omega⟩
  have HE : Hid (Sp w G bb x s2.g y1 w8) := by
    refine ⟨v6, k8.heap r7 (by omega), (o6.b.chg k7 (fun k _ hk => (hown k hk).1)).chg k8 (fun k _ hk => (hown k hk).2), ?_, ?_⟩
    · refine Chg.trans (Chg.trans (Chg.trans (Kp.any HK.out.1) K6 (T := fun k => k = w1.heap.size ∨ x.own bb k) (S := fun k => k = G ∨ x.own bb k) ?_) k7 ?_) k8 ?_
      · intro i hi e
        rcases e with e | e
        · omega
        · exact .inr e
      · exact fun i _ e => .inl e
      · exact fun i hi e => by omega
    · rcases l6 with l | ⟨j, l, hj⟩
      · exact .inl l
      · exact .inr ⟨j, l, by omega⟩
  clear r6 N6 r7 k7 t7 N7 k8 hown o6 K6 l6 hB1 hb4
  rw [← hw7] at hst5
  rw [← hw8] at hst6
  generalize hrs : (rsc s2.r) = RS at *
  generalize hrg : (rgc s2.g) = RG at *
  clear hw7 hw8
  go_wp2_with (first
    | (refine wpList_load_mid rfl 25 (.tmp 25) rfl w1.heap.size 0 rfl RG _ rr5 u25 rfl l25b ?_)
    | (refine wpList_store_row rfl 25 (.tmp 27) (.tmp 26) rfl G 0 RG.toArray rfl rfl _ hst5 ?_)
    | (refine wpList_load_mid rfl 40 (.tmp 28) rfl w1.heap.size 28 rfl RS _ rr6 u38 rfl l38 ?_)
    | (refine wpList_store_row rfl 40 (.tmp 4) (.tmp 29) rfl w.heap.size 0 RS.toArray rfl rfl _ hst6 ?_))
  refine ⟨rfl, .agg RS.toArray, ?_, by rw [hrs], HE.out⟩
  refine results_cell_row rfl _ _ w.heap.size 40 RS.toArray (0, 0) _ rfl n8 Tryz.underlying40 rfl ?_
  rw [size38, ← hrs]; rfl
set_option maxRecDepth 100000 in
set_option maxHeartbeats 8000000 in
theorem step_ins (w : World) (G bb : Nat) (g : Rg) (x y1 y2 : Bd) (s2 s3 : St) (h : Rb w G bb g x)
    (hI : ∀ W B, On W B bb ((st0 g (busV bb)).put 0 0) x → Calls Tryz.prog 11 #[.pointer (some ⟨B, 0, none⟩)] W fun e w' => e = .returned (.bool false) ∧ Od W B bb x s2 y1 w') (hrow : ∀ k, y1.row k ↔ x.row k)
    (hJ : ∀ W B v, On W B bb s2 (y1.lvTo v) → Calls Tryz.prog 12 #[.pointer (some ⟨B, 0, none⟩)] W fun e w' => e = .returned (.tuple #[]) ∧ Od W B bb (y1.lvTo v) s3 y2 w') (hrow2 : ∀ k, y2.row k ↔ x.row k) :
    Calls Tryz.prog 5 #[.pointer (some ⟨G, 0, none⟩), .iface 33 (.pointer (some ⟨bb, 0, none⟩))] w fun e w' => e = .returned (.agg (rsc s3.r).toArray) ∧ Sp w G bb x s3.g y2 w' := by
  have hGl := hp_lt h.r
  obtain ⟨w1, hw1⟩ : ∃ w1, w1 = w.alloc (.cells (rsc Rs.zero).toArray 40) := ⟨_, rfl⟩
  have k1 : Kp w w1 := by rw [hw1]; exact (Chg.refl w _).alloc _
  have n1 : w1.heap[w.heap.size]? = some (.cells (rsc Rs.zero).toArray 40 (0, 0)) := by rw [hw1]; exact heap_alloc_new w _
  have z1 : w1.heap.size = w.heap.size + 1 := by rw [hw1]; simp
  obtain ⟨w2, hw2⟩ : ∃ w2, w2 = w1.alloc (.cells (stc (st0 Rg.zero .nilIface)).toArray 54) := ⟨_, rfl⟩
  have k2 : Kp w1 w2 := by rw [hw2]; exact (Chg.refl w1 _).alloc _
  have n2 : w2.heap[w1.heap.size]? = some (.cells (stc (st0 Rg.zero .nilIface)).toArray 54 (0, 0)) := by rw [hw2]; exact heap_alloc_new w1 _
  have z2 : w2.heap.size = w.heap.size + 2 := by rw [hw2]; simp [z1]
  have hst1 := storeAll w2 54 w1.heap.size _ (stc (st0 g (busV bb))).toArray 54 n2 rfl (by rw [size66]; rfl) (by simpa using stc_one g bb)
  obtain ⟨w3, hw3⟩ : ∃ w3, w3 = w2.setRow w1.heap.size (stc (st0 g (busV bb))).toArray := ⟨_, rfl⟩
  have t3 : IsT w3 w1.heap.size (st0 g (busV bb)) := by rw [hw3]; exact setRow_heap w2 _ _ _ 54 (0, 0) n2
  have k3 : Chg w2 w3 (fun k => k = w1.heap.size) := by rw [hw3]; exact Chg.setRow (S := fun k => k = w1.heap.size) (Chg.refl _ _) (.inl rfl) _
  have c30 := t3.cell 0 _ rfl
  have f30 := t3.fr 0
  obtain ⟨t4, k4⟩ := t3.set 0 (.int .u32 0) ((st0 g (busV bb)).put 0 0) rfl
  have K4 : Kp w _ := Chg.trans (Kp.trans k1 k2) (Chg.trans k3 k4 (fun _ _ e => e)) (fun i hi e => by omega)
  have r4 := Kp.heap K4 h.r
  have N4 := Chg.heap (Chg.trans k3 k4 (fun _ _ e => e)) (Kp.heap k2 n1) (by omega)
  have O4 : On _ w1.heap.size bb ((st0 g (busV bb)).put 0 0) x := ⟨t4, h.b.kp K4, rfl, fun k hk => by
      rcases hk with hk | hk
      · have := h.b.olt k hk; omega
      · have := (h.b.ap k hk).2.2; omega, h.g.keep K4, by have := h.G2; omega, h.o2⟩
  have hI4 := hI _ _ O4
  have rrg := fun w (h : IsRg w G g) => (rangeOf (o := 0) h (rgc g) (fun j v hv => by rw [Nat.zero_add, List.getElem?_toArray]; exact hv))
  have rr2 := rrg w1 (Kp.heap k1 h.r)
  have l25 : (Tryz.prog.info? 25).map (·.size) = some (rgc g).length := by kernel_rfl
  have l25b : (Tryz.prog.info? 25).map (·.size) = some (rgc s3.g).length := by kernel_rfl
  have l38 : (Tryz.prog.info? 40).map (·.size) = some (rsc s3.r).length := by kernel_rfl
  have hz66 := fun w => zero66 w
  have hz38 := fun w => zero38 w
  have hbu := fun w => build66 w g bb
  have HX : Hid (Rb w G bb g x) := h
  have HK : Hid (Kp w _ ∧ w.heap.size + 2 ≤ (w3.setCell ⟨w1.heap.size, 0, none⟩ (.int .u32 0)).heap.size) := ⟨K4, by simp [World.setCell]; rw [← z2]; exact k3.size⟩
  have hN : ¬ x.own bb w.heap.size := fun hk => by have := h.b.olt _ hk; omega
  clear h k1 k2 k3 k4 n1 n2 t3 t4 O4 hI K4 rrg z2
  generalize (stc (st0 Rg.zero .nilIface)).toArray = Z66 at *
  have hZ38 : (rsc Rs.zero).toArray.size = 10 := rfl
  generalize (rsc Rs.zero).toArray = Z38 at *
  generalize hL : rgc g = L at *
  generalize (stc (st0 g (busV bb))).toArray = S0 at *
  have u25 := Tryz.underlying25
  have u38 := Tryz.underlying40
  have HB : Hid (w1.heap.size = w.heap.size + 1) := z1
  clear z1
  rw [← hw3] at hst1
  clear hw3
  go_enter Tryz.func5, Tryz.ntmps5
  rw [hw2] at hst1
  go_upto_region 3 with (fail)
  rw [← hw1]
  clear hw1 hw2
  go_upto_region 5 with (first
    | (refine wpList_alloc_zero _ rfl 54 Z66 rfl (hz66 _) ?_)
    | (refine wpList_load_mid rfl 25 (.tmp 14) rfl G 0 rfl L _ rr2 u25 rfl l25 ?_)
    | (refine wpList_build2 rfl 54 0 1 (.tmp 15) (.tmp 16) rfl (.agg L.toArray) (.iface 33 (.pointer (some ⟨bb, 0, none⟩))) rfl rfl (.agg S0) (hbu _) ?_)
    | (refine wpList_store_row rfl 54 (.tmp 5) (.tmp 17) rfl w1.heap.size 0 S0 rfl rfl _ hst1 ?_))
  go_upto_region 7 with (first
    | (go_at_call 11; refine hI4.mono ?_; rintro e w5 ⟨rfl, v5, o5, k5, l5⟩)
    | (go_at_call 12; refine (hJ _ _ v5 o5).mono ?_; rintro e w6 ⟨rfl, hO6⟩; obtain ⟨v6, o6, K6, l6⟩ := Od.comp (s := s3) (y := y1) k5 l5 hO6))
  clear hI4
  have hLl : L.toArray.size = 21 := by rw [← hL]; rfl
  have hb4 := HK.out.2
  have hB1 := HB.out
  have r6 := K6.heap r4 (fun e => by
    rcases e with e | e
    · omega
    · exact HX.out.ne G (.inl e) rfl)
  have N6 := K6.heap N4 (fun e => by
    rcases e with e | e
    · omega
    · exact hN e)
  have rr5 := o6.t.rg
  have hst5 := storeAll w6 25 G _ (rgc s3.g).toArray 25 r6 (by rw [hLl]; rfl) (by rw [size25]; rfl) (by simpa using rgc_one s3.g)
  obtain ⟨w7, hw7⟩ : ∃ w7, w7 = w6.setRow G (rgc s3.g).toArray := ⟨_, rfl⟩
  have r7 : IsRg w7 G s3.g := by rw [hw7]; exact setRow_heap w6 _ _ _ 25 (0, 0) r6
  have k7 : Chg w6 w7 (fun k => k = G) := by rw [hw7]; exact Chg.setRow (S := fun k => k = G) (Chg.refl _ _) (.inl rfl) _
  have t7 := o6.t.chg k7 (by omega)
  have N7 := k7.heap N6 (by omega)
  have rr6 := t7.rs
  have hZ : Z38.size = 10 := hZ38
  have hst6 := storeAll w7 40 w.heap.size _ (rsc s3.r).toArray 40 N7 (by rw [hZ]; rfl) (by rw [size38]; rfl) (by simpa using rsc_one s3.r)
  obtain ⟨w8, hw8⟩ : ∃ w8, w8 = w7.setRow w.heap.size (rsc s3.r).toArray := ⟨_, rfl⟩
  have n8 : w8.heap[w.heap.size]? = some (.cells (rsc s3.r).toArray 40 (0, 0)) := by rw [hw8]; exact setRow_heap w7 _ _ _ 40 (0, 0) N7
  have k8 : Chg w7 w8 (fun k => k = w.heap.size) := by rw [hw8]; exact Chg.setRow (S := fun k => k = w.heap.size) (Chg.refl _ _) (.inl rfl) _
  have hown : ∀ k, (y2.lvTo v6).own bb k ∨ (y2.lvTo v6).row k → k ≠ G ∧ k ≠ w.heap.size := fun k hk => by
    rcases hk with hk | hk
    · have hk2 : x.own bb k ∨ w.heap.size + 2 ≤ k := by
        rcases hk with e | e
        · exact .inl (.inl e)
        · have e2 : v6.ownBlock = some k := e
          rcases l6 with l | ⟨j, l, hj⟩
          · exact .inl (.inr (by rw [← l]; exact e2))
          · rw [l] at e2; cases e2; exact .inr (by omega)
      rcases hk2 with e | e
      · have := HX.out.b.olt k e
        exact ⟨HX.out.ne k (.inl e), by omega⟩
      · exact ⟨by omega, by omega⟩
    · have e := (hrow2 k).1 hk
      have := (HX.out.b.ap k e).2.2
      exact ⟨HX.out.ne k (.inr e), by omega⟩
  have HE : Hid (Sp w G bb x s3.g y2 w8) := by
    refine ⟨v6, k8.heap r7 (by omega), (o6.b.chg k7 (fun k _ hk => (hown k hk).1)).chg k8 (fun k _ hk => (hown k hk).2), ?_, ?_⟩
    · refine Chg.trans (Chg.trans (Chg.trans (Kp.any HK.out.1) K6 (T := fun k => k = w1.heap.size ∨ x.own bb k) (S := fun k => k = G ∨ x.own bb k) ?_) k7 ?_) k8 ?_
      · intro i hi e
        rcases e with e | e
        · omega
        · exact .inr e
      · exact fun i _ e => .inl e
      · exact fun i hi e => by omega
    · rcases l6 with l | ⟨j, l, hj⟩
      · exact .inl l
      · exact .inr ⟨j, l, by omega⟩
  clear r6 N6 r7 k7 t7 N7 k8 hown o6 K6 l6 hB1 hb4
  rw [← hw7] at hst5
  rw [← hw8] at hst6
  generalize hrs : (rsc s3.r) = RS at *
  generalize hrg : (rgc s3.g) = RG at *
  clear hw7 hw8
  go_wp2_with (first
    | (refine wpList_load_mid rfl 25 (.tmp 25) rfl w1.heap.size 0 rfl RG _ rr5 u25 rfl l25b ?_)
    | (refine wpList_store_row rfl 25 (.tmp 27) (.tmp 26) rfl G 0 RG.toArray rfl rfl _ hst5 ?_)
    | (refine wpList_load_mid rfl 40 (.tmp 28) rfl w1.heap.size 28 rfl RS _ rr6 u38 rfl l38 ?_)
    | (refine wpList_store_row rfl 40 (.tmp 4) (.tmp 29) rfl w.heap.size 0 RS.toArray rfl rfl _ hst6 ?_))
  refine ⟨rfl, .agg RS.toArray, ?_, by rw [hrs], HE.out⟩
  refine results_cell_row rfl _ _ w.heap.size 40 RS.toArray (0, 0) _ rfl n8 Tryz.underlying40 rfl ?_
  rw [size38, ← hrs]; rfl
end Go.Proofs.YtghiffpolacmiabGreatDoor
namespace Go.Proofs.YtghiffpolacmiabGreatDoor
open Go.ChangeShapes Go.WideShapes Go.ChangeAt Go.RowKit
set_option linter.unusedVariables false

theorem doB_row (n : Nat) (t : St) (y : Bd) (k : Nat) : (doB n t y).row k ↔ y.row k := by
  unfold doB
  split <;> exact Iff.rfl
theorem insB_row (s : St) (x : Bd) (k : Nat) : (insB s x).row k ↔ x.row k := by
  unfold insB
  split
  · exact Iff.rfl
  · split
    · exact Iff.rfl
    · exact doB_row _ _ _ k
theorem insS_lv (s : St) (x : Bd) (v : Value) : insS s (x.lvTo v) = insS s x := by
  unfold insS
  rw [show (x.lvTo v).fet s.g.pc = (x.fet s.g.pc).lvTo v from rfl, doS_lv]
  rfl
theorem insB_lv (s : St) (x : Bd) (v v' : Value) : (insB s (x.lvTo v)).lvTo v' = (insB s x).lvTo v' := by
  unfold insB
  show (if nxt x.fa x.jf ≠ 0 then (x.fet s.g.pc).lvTo v else if de (nxt x.ws x.iw).toNat ≠ 0 then (x.fet s.g.pc).lvTo v else doB (dO (nxt x.ws x.iw).toNat).toNat ((s.c0 x).ins (nxt x.ws x.iw).toNat) ((x.fet s.g.pc).lvTo v)).lvTo v' = _
  split
  · rfl
  · split
    · rfl
    · exact doB_lv _ _ _ _ _
/-- A step as it begins. -/
def Rg.st (g : Rg) (bb : Nat) : St := (st0 g (busV bb)).put 0 0
theorem up_r {R : Nat → Int} (h : ∀ i, 0 ≤ R i ∧ R i < 4294967296) (k : Nat) (v : Int) (hv : 0 ≤ v ∧ v < 4294967296) : ∀ i, 0 ≤ upR R k v i ∧ upR R k v i < 4294967296 := fun i => by
  unfold upR
  split
  · exact hv
  · exact h i
/-- A step that takes no interrupt, since none may be taken. -/
theorem step_off (w : World) (G bb : Nat) (g : Rg) (x : Bd) (h : Rb w G bb g x) (hx : x.ok) (hr : ∀ i, 0 ≤ g.R i ∧ g.R i < 4294967296) (hq : g.on = false ∨ g.hd = true) :
    Calls Tryz.prog 5 #[.pointer (some ⟨G, 0, none⟩), .iface 33 (.pointer (some ⟨bb, 0, none⟩))] w fun e w' => e = .returned (.agg (rsc (insS (g.st bb) x).r).toArray) ∧ Sp w G bb x (insS (g.st bb) x).g (insB (g.st bb) x) w' :=
  step_ins w G bb g x x _ (g.st bb) _ h
    (fun W B o => (int_off W B (g.st bb) o.t hq).mono (by rintro e w' ⟨rfl, rfl⟩; exact ⟨rfl, Kp.od o (Kp.refl _)⟩)) (fun k => Iff.rfl)
    (fun W B v o => (ins_any W B bb (g.st bb) (x.lvTo v) o ⟨hx.le, hx.tm, hx.vs, hx.ws⟩ (up_r hr 0 0 (by omega))).mono (by
      rintro e w' ⟨rfl, v2, o2, k2, l2⟩
      rw [insS_lv, insB_lv] at o2
      exact ⟨rfl, v2, o2, k2, l2⟩)) (fun k => insB_row _ _ k)
theorem irqd_row (x : Bd) (k : Nat) : x.irqd.row k ↔ x.row k := by
  unfold Bd.irqd
  split <;> exact Iff.rfl
/-- A step that takes one. -/
theorem step_taken (w : World) (G bb : Nat) (g : Rg) (x : Bd) (h : Rb w G bb g x) (hx : x.ok) (ho : g.on = true) (hd : g.hd = false) (hi : x.irq = true) :
    Calls Tryz.prog 5 #[.pointer (some ⟨G, 0, none⟩), .iface 33 (.pointer (some ⟨bb, 0, none⟩))] w fun e w' => e = .returned (.agg (rsc (Rs.irq x.ln)).toArray) ∧ Sp w G bb x ((g.st bb).g.taken x.ln) x.irqd w' :=
  step_irq w G bb g x x.irqd x.irqd { g.st bb with g := (g.st bb).g.taken x.ln, r := Rs.irq x.ln } (g.st bb) h
    (fun W B o => int_yes W B bb (g.st bb) x o (hx.le.more (by omega)) ho hd hi) (fun k => irqd_row x k)
/-- What a step leaves, as registers and a bus again. -/
theorem Sp.rb {w w' : World} {G bb : Nat} {g g' : Rg} {x y : Bd} (h : Rb w G bb g x) (hs : Sp w G bb x g' y w') (hrow : ∀ k, y.row k ↔ x.row k) : ∃ v', Rb w' G bb g' (y.lvTo v') ∧ Chg w w' (fun k => k = G ∨ x.own bb k) ∧ (v'.ownBlock = x.lv.ownBlock ∨ ∃ k, v'.ownBlock = some k ∧ w.heap.size ≤ k) := by
  obtain ⟨v', h1, h2, h3, h4⟩ := hs
  have hGl := hp_lt h.r
  have ho : ∀ k, (y.lvTo v').own bb k → x.own bb k ∨ w.heap.size ≤ k := fun k hk => by
    rcases hk with e | e
    · exact .inl (.inl e)
    · have e2 : v'.ownBlock = some k := e
      rcases h4 with l | ⟨j, l, hj⟩
      · exact .inl (.inr (by rw [← l]; exact e2))
      · rw [l] at e2; cases e2; exact .inr hj
  refine ⟨v', ⟨h1, h2, h.g.chg h3 ?_ ?_, h.G2, fun k hk => ?_, fun k hk => ?_⟩, h3, h4⟩
  · rintro (e | e)
    · have := h.G2; omega
    · have := h.o2 0 e; omega
  · rintro (e | e)
    · have := h.G2; omega
    · have := h.o2 1 e; omega
  · rcases hk with hk | hk
    · rcases ho k hk with e | e
      · exact h.ne k (.inl e)
      · omega
    · exact h.ne k (.inr ((hrow k).1 hk))
  · rcases ho k hk with e | e
    · exact h.o2 k e
    · have := h.G2; omega
end Go.Proofs.YtghiffpolacmiabGreatDoor
namespace Go.Proofs.YtghiffpolacmiabGreatDoor
open Go.ChangeShapes Go.WideShapes Go.ChangeAt Go.RowKit
set_option linter.unusedVariables false

theorem wpList_build1 {w : World} {ops : Array Oper} {rest : List Oper} {o : Oper} {a : Act} {Q : Exit → Act → World → Prop} (hgd : o.guard = none) (t : TypeId) (i : Nat) (x : Operand) (ho : o.op = .build t #[(i, x)]) (vx : Value) (hx : a.eval x = vx) (v : Value) (hrun : (Instr.build t #[(i, vx)]).run Tryz.prog w = .ok v w)
    (h : wpList Tryz.prog ops Q rest (a.put o.dst v) w) : wpList Tryz.prog ops Q (o :: rest) a w :=
  wpList_build_run hgd t _ ho #[(i, vx)] (by simp [hx]) v hrun h
/-- A bus out of words alone. -/
def litB (q n : Nat) (ws : List Int) (ln : Int) : Bd := ⟨.slice (some ⟨q, 0, none⟩) n n, .slice none 0 0, .slice none 0 0, .slice none 0 0, ws, [], [], [], 0, ln, false, .slice none 0 0, [], 0, 0, 0, 0⟩
theorem rw_none (w : World) (k : IntKind) : Rw w k (.slice none 0 0) [] := ⟨none, 0, rfl, by simp, by simp, .inl rfl⟩
theorem litB_is {w : World} {bb q : Nat} {ws : List Int} {ln : Int} (hb : w.heap[bb]? = some (.cells (bxc (litB q ws.length ws ln)).toArray 36 (0, 0))) (hq : w.heap[q]? = some (.cells (ws.map (Value.int .u32)).toArray 22 (0, 0))) (hne : q ≠ bb) (hl : ws.length < 1000) : IsB w bb (litB q ws.length ws ln) := by
  refine ⟨hb, ⟨_, _, rfl, Nat.le_refl _, by show ws.length < _; omega, .inr ⟨q, 0, rfl, hp_lt hq, fun i x hx => ?_⟩⟩, rw_none _ _, rw_none _ _, rw_none _ _, World.ownsRow_nil w _ _ _, fun k hk => ?_, fun e => by cases e⟩
  · rw [(cells_at hq _).1, Nat.zero_add]
    show ((ws.map (Value.int .u32)).toArray)[i]? = _
    rw [List.getElem?_toArray, List.getElem?_map]
    have hx' : ws[i]? = some x := hx
    rw [hx']; rfl
  · rcases hk with e | e | e | e
    · cases e
      exact ⟨hne, fun e => (by cases e), hp_lt hq⟩
    · cases e
    · cases e
    · cases e
theorem litB_ok (q n : Nat) (ws : List Int) (ln : Int) (h : ∀ i, 0 ≤ nxt ws i ∧ nxt ws i < 4294967296) : (litB q n ws ln).ok :=
  ⟨⟨Nat.zero_le _, Nat.zero_le _, Nat.zero_le _, Nat.zero_le _, Nat.zero_le _⟩, by show (0 : Int) ≤ 0 ∧ (0 : Int) < _; omega, fun i => by show (0 : Int) ≤ 0 ∧ (0 : Int) < _; omega, h⟩
theorem litB_own (q n : Nat) (ws : List Int) (ln : Int) (bb k : Nat) (h : (litB q n ws ln).own bb k) : k = bb := by
  rcases h with e | e
  · exact e
  · cases e
theorem litB_row (q n : Nat) (ws : List Int) (ln : Int) (k : Nat) (h : (litB q n ws ln).row k) : k = q := by
  rcases h with e | e | e | e
  · cases e; rfl
  · cases e
  · cases e
  · cases e
def rg4 : Rg := ⟨fun _ => 0, 4, 0, 0, false, false⟩
theorem build25_4 (w : World) : (Instr.build 25 #[(1, .int .u32 4)]).run Tryz.prog w = .ok (.agg (rgc rg4).toArray) w := by kernel_rfl
theorem build34_2 (w : World) (q n : Nat) (ws : List Int) (ln : Int) : (Instr.build 36 #[(0, .slice (some ⟨q, 0, none⟩) n n), (5, .int .i64 ln)]).run Tryz.prog w = .ok (.agg (bxc (litB q n ws ln)).toArray) w := by kernel_rfl
end Go.Proofs.YtghiffpolacmiabGreatDoor
namespace Go.Proofs.YtghiffpolacmiabGreatDoor
open Go.ChangeShapes Go.WideShapes Go.ChangeAt Go.RowKit
set_option linter.unusedVariables false

theorem IsRg.cell {w : World} {B : Nat} {g : Rg} (h : IsRg w B g) (i : Nat) (v : Value) (hv : (rgc g)[i]? = some v) : w.cell? ⟨B, i, none⟩ = some v := by
  rw [(cells_at h i).1, List.getElem?_toArray, hv]
theorem IsRg.fr {w : World} {B : Nat} {g : Rg} (h : IsRg w B g) (i : Nat) : w.frozen? ⟨B, i, none⟩ = false := (cells_at h i).2
theorem IsRg.chg {S : Nat → Prop} {w w' : World} {B : Nat} {s : Rg} (h : IsRg w B s) (hc : Chg w w' S) (hn : ¬ S B) : IsRg w' B s := hc.heap h hn
theorem IsRg.kp {w w' : World} {B : Nat} {s : Rg} (h : IsRg w B s) (hc : Kp w w') : IsRg w' B s := hc.heap h
theorem IsRg.set {w : World} {B : Nat} {s : Rg} (h : IsRg w B s) (i : Nat) (v : Value) (t : Rg) (ht : (rgc s).set i v = rgc t) : IsRg (w.setCell ⟨B, i, none⟩ v) B t ∧ Chg w (w.setCell ⟨B, i, none⟩ v) (fun k => k = B) := by
  have := heap_setCell_same w B i _ 25 v h
  refine ⟨?_, Chg.setCell (S := fun k => k = B) (Chg.refl w _) (.inl rfl) v⟩
  unfold IsRg
  rw [this, ← ht]
  congr 2
  simp
theorem IsRg.range {w : World} {B : Nat} {g : Rg} (h : IsRg w B g) : w.rangeAt B 0 (rgc g) := rangeOf h _ (fun j v hv => by rw [Nat.zero_add, List.getElem?_toArray]; exact hv)
theorem fault_kind (s : St) (f a : Int) : (s.fault f a).r.kind = 3 := rfl
/-- An instruction's result is none of an interrupt's. -/
theorem doS_kind (n : Nat) (t : St) (y : Bd) (h : t.r.kind = 1) : (doS n t y).r.kind ≠ 6 := by
  have hs : ∀ v, (t.setD v).r.kind ≠ 6 := fun v => by rw [(setD_g t v).2.2.2.1, h]; decide
  have hg : ∀ q, (t.goIf q).r.kind ≠ 6 := fun q => by cases q <;> (show t.r.kind ≠ 6; rw [h]; decide)
  have h6 : t.r.kind ≠ 6 := by rw [h]; decide
  unfold doS
  split
  all_goals first
    | exact hs _
    | exact hg _
    | (unfold lodS; split; · rw [(setD_g _ _).2.2.2.1]; exact h6
       · show (3 : Int) ≠ 6; decide)
    | (unfold stoS; split; · exact h6
       · show (3 : Int) ≠ 6; decide)
    | (rw [show ∀ (a : St) b, (a.to b).r = a.r from fun _ _ => rfl, (setD_g _ _).2.2.2.1]; exact h6)
    | (rw [(setD_g _ _).2.2.2.1]; exact h6)
    | (show (2 : Int) ≠ 6; decide)
    | (show (5 : Int) ≠ 6; decide)
    | (show (4 : Int) ≠ 6; decide)
    | (split; · exact h6
       · show (3 : Int) ≠ 6; decide)
    | exact h6
theorem pcTo_r (s : St) : s.pcTo.r = s.r := rfl
theorem ins_kind1 (s : St) (x : Bd) (v n : Nat) (y : Bd) : (doS n ((s.c0 x).ins v) y).pcTo.r.kind ≠ 6 := by
  rw [pcTo_r]
  have hk : ((s.c0 x).ins v).r.kind = 1 := rfl
  generalize (s.c0 x).ins v = t at *
  exact doS_kind n t y hk
theorem insS_kind (s : St) (x : Bd) : (insS s x).r.kind ≠ 6 := by
  unfold insS
  generalize (nxt x.ws x.iw).toNat = v
  have h1 := ins_kind1 s x v (dO v).toNat (x.fet s.g.pc)
  generalize doS (dO v).toNat ((s.c0 x).ins v) (x.fet s.g.pc) = t9 at *
  split
  · show (3 : Int) ≠ 6; decide
  · split
    · show (3 : Int) ≠ 6; decide
    · exact h1
theorem doB_ln (n : Nat) (t : St) (y : Bd) : (doB n t y).ln = y.ln ∧ (doB n t y).od = y.od := by
  unfold doB
  split <;> exact ⟨rfl, rfl⟩
theorem insB_ln (s : St) (x : Bd) : (insB s x).ln = x.ln ∧ (insB s x).od = x.od := by
  unfold insB
  split
  · exact ⟨rfl, rfl⟩
  · split
    · exact ⟨rfl, rfl⟩
    · exact doB_ln _ _ _
theorem info22 : ∃ i, Tryz.prog.info? 22 = some i := by
  cases h : Tryz.prog.info? 22 with
  | some i => exact ⟨i, rfl⟩
  | none => have : (Tryz.prog.info? 22).isSome = true := by kernel_rfl
            rw [h] at this; cases this
theorem c22 : Tryz.prog.cellsOf 22 = 1 := by kernel_rfl
theorem plain22 : Tryz.prog.plainKey 22 = true := by kernel_rfl
theorem eqItemsI (w : World) (d : Nat) (xs : Array Value) (x : Nat → Int) : ∀ l : List Nat, (∀ i ∈ l, xs[i]? = some (.int .u32 (x i))) → (Op.eqItems (d + 1) 22 1 xs xs l).run Tryz.prog w = .ok true w
  | [], _ => by simp [Op.eqItems]
  | i :: l, h => by
    have ih := eqItemsI w d xs x l (fun j hj => h j (List.mem_cons_of_mem _ hj))
    have h1 := h i (List.mem_cons_self ..)
    have p1 := run_part_plain (P := Tryz.prog) w plain22 (xs := xs) (off := i) h1
    have p3 := run_equalIn_int (P := Tryz.prog) w d 22 .u32 .u32 (x i) (x i) Tryz.underlying22
    simp only [Op.eqItems, Nat.mul_one, Sem.run_bind, p1, p3, Result.andThen_ok]
    simp [ih]
theorem fields25 : Tryz.prog.underlying 25 = some (.struct (Tryz.prog.fieldsOf 25)) := by simp [Program.fieldsOf, Tryz.underlying25]
theorem stood25 : Tryz.prog.stoodInHeld 25 = false := by kernel_rfl
theorem eqi25 (g : Rg) (w : World) : (Op.equalIn 10000 25 (.agg (rgc g).toArray) (.agg (rgc g).toArray)).run Tryz.prog w = .ok true w := by
  rw [run_equalIn_agg w 9999 25 _ _ fields25 stood25]
  obtain ⟨i3, hi3⟩ := info22
  have hR : (Op.equalIn 9999 23 (Value.agg (List.take 16 (rgc g)).toArray) (Value.agg (List.take 16 (rgc g)).toArray)).run Tryz.prog w = .ok true w := by
    rw [run_equalIn_array w 9998 _ _ Tryz.underlying23 hi3, c22]
    refine eqItemsI w 9997 _ (fun i => g.R i) _ (fun i hi => ?_)
    have hi : i < 16 := by simpa using hi
    rw [List.getElem?_toArray, List.getElem?_take, rgc_R g i hi]; simp [hi]
  have hR2 : (Op.equalIn 9999 23 (Value.agg #[.int .u32 (g.R 0), .int .u32 (g.R 1), .int .u32 (g.R 2), .int .u32 (g.R 3), .int .u32 (g.R 4), .int .u32 (g.R 5), .int .u32 (g.R 6), .int .u32 (g.R 7), .int .u32 (g.R 8), .int .u32 (g.R 9), .int .u32 (g.R 10), .int .u32 (g.R 11), .int .u32 (g.R 12), .int .u32 (g.R 13), .int .u32 (g.R 14), .int .u32 (g.R 15)]) (Value.agg #[.int .u32 (g.R 0), .int .u32 (g.R 1), .int .u32 (g.R 2), .int .u32 (g.R 3), .int .u32 (g.R 4), .int .u32 (g.R 5), .int .u32 (g.R 6), .int .u32 (g.R 7), .int .u32 (g.R 8), .int .u32 (g.R 9), .int .u32 (g.R 10), .int .u32 (g.R 11), .int .u32 (g.R 12), .int .u32 (g.R 13), .int .u32 (g.R 14), .int .u32 (g.R 15)])).run Tryz.prog w = .ok true w := hR
  simp [Program.fieldsOf, Tryz.underlying25, go_sem, hR2, rgc]
theorem eql25 (g : Rg) (w : World) : (binOp BinOp.eql 25 (.agg (rgc g).toArray) (.agg (rgc g).toArray)).run Tryz.prog w = .ok (.bool true) w := by
  rw [run_eql_struct, eqi25]; rfl
theorem neq25 (g : Rg) (w : World) : (binOp BinOp.neq 25 (.agg (rgc g).toArray) (.agg (rgc g).toArray)).run Tryz.prog w = .ok (.bool false) w := by
  rw [run_neq_struct, eqi25]; rfl
theorem guard25 : Tryz.prog.eqGuardType Tryz.prog.depth 25 = false := by kernel_rfl
theorem eqg25 (w : World) (b : BinOp) (x y : Operand) (A C : Array Value) : (eqGuard b 25 x y (.agg A) (.agg C)).run Tryz.prog w = .ok () w := run_eqGuard_agg w b 25 x y A C guard25
theorem wpList_wanted {P : Program} {ops : Array Oper} {Q : Exit → Act → World → Prop} {a : Act} {w : World} {rest : List Oper} {o : Oper} (hw : Region.wanted o (yielded ops a.tmps) = true)
    (h : ∀ K : Act → World → Prop, (∀ a w, wpList P ops Q rest a w → K a w) → o.wp P a w K Q) : wpList P ops Q (o :: rest) a w :=
  wpList_step fun K hK => by rw [if_pos hw]; exact h K hK
theorem gload_mid {P : Program} {ops : Array Oper} {rest : List Oper} {op : Oper} {a : Act} {w : World} {Q : Exit → Act → World → Prop} (hw : Region.wanted op (yielded ops a.tmps) = true) (ty : TypeId) (x : Operand) (ho : op.op = .load ty x)
    (b o : Nat) (hx : a.eval x = .pointer (some ⟨b, o, none⟩)) (cs : List Value) (d : TypeDesc) (hc : w.rangeAt b o cs)
    (hu : P.underlying ty = some d) (hd : d.isRow = true) (hi : (P.info? ty).map (·.size) = some cs.length)
    (h : wpList P ops Q rest (a.put op.dst (.agg cs.toArray)) w) : wpList P ops Q (op :: rest) a w :=
  wpList_wanted hw fun _ hK => wp_load_mid ty x ho b o hx cs d hc hu hd hi (hK _ _ h)
theorem gbinop_run {P : Program} {w : World} {ops : Array Oper} {rest : List Oper} {o : Oper} {a : Act} {Q : Exit → Act → World → Prop} (hw : Region.wanted o (yielded ops a.tmps) = true) (b : BinOp) (t u : TypeId) (x y : Operand) (ho : o.op = .binOp b t x y u) (x' y' v : Value) (hx : a.eval x = x') (hy : a.eval y = y') (hgu : (eqGuard b t x y x' y').run P w = .ok () w) (hrun : (binOp b t x' y').run P w = .ok v w)
    (h : wpList P ops Q rest (a.put o.dst v) w) : wpList P ops Q (o :: rest) a w := by
  refine wpList_wanted hw fun K hK => ?_
  unfold Oper.wp
  simp only [execOp, ho, hx, hy]
  simp [hgu, hrun, Result.andThen]
  exact hK _ _ h
end Go.Proofs.YtghiffpolacmiabGreatDoor
