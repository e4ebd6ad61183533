import Derived.Test.YtakddfhcafpceaaEe
namespace Go.Proofs.Ytakddfhcafpceaa
open Go.ChangeShapes Go.WideShapes Go.ChangeAt Go.RowKit Go.Shelf
set_option linter.unusedVariables false
/-- The walk at a copy, told by its run. -/
theorem wpList_copy_run {P : Program} {w : World} {ops : Array Oper} {rest : List Oper} {o : Oper} {a : Act} {Q : Exit → Act → World → Prop} (hgd : o.guard = none) (s x : Operand) (t u : TypeId)
    (ho : o.op = .call { callee := .builtin .copy, args := #[s, x], argTypes := #[t, u] }) (v y v' : Value) (w' : World)
    (hs : a.eval s = v) (hx : a.eval x = y) (hrun : (Builtin.copy_ #[t, u] o.type #[v, y]).run P w = .ok v' w')
    (h : wpList P ops Q rest (a.put o.dst v') w') : wpList P ops Q (o :: rest) a w := by
  refine wpList_plain hgd fun K hK => ?_
  unfold Oper.wp
  simp [execOp, ho, resolve, invoke, builtin, hs, hx, hrun, Result.andThen]
  exact hK _ _ h
/-- With the next start. -/
def up1 (x : Wn) : Wn := ⟨x.c, (x.s + 1) % 18446744073709551616, x.l⟩
/-- Windows, and marks behind them. -/
structure P1 (L X : List Wn) (i : Nat) : Prop where
  n : X.length = L.length + 8
  a : ∀ j (h : j < L.length) (h' : j < X.length), X[j] = L[j]
  m : ∀ j, j < i → ∀ (h' : L.length + j < X.length), X[L.length + j] = ⟨71 + j, 0, 0⟩
theorem P1.zero (L : List Wn) : P1 L (L ++ List.replicate 8 ⟨0, 0, 0⟩) 0 := ⟨by simp, fun j h h' => by rw [List.getElem_append_left h], fun j h => by omega⟩
theorem P1.next {L X : List Wn} {i : Nat} (h : P1 L X i) (hi : i < 8) : P1 L (X.set (L.length + i) ⟨71 + i, 0, 0⟩) (i + 1) := by
  refine ⟨by rw [List.length_set, h.n], fun j hj h' => ?_, fun j hj h' => ?_⟩
  · rw [List.getElem_set_ne (by omega)]; exact h.a j hj _
  · by_cases e : j = i
    · subst e; rw [List.getElem_set_self]
    · rw [List.getElem_set_ne (by omega)]; exact h.m j (by omega) _
/-- The first ones with the next start. -/
structure P3 (L X : List Wn) (i : Nat) : Prop where
  n : X.length = L.length + 8
  u : ∀ j, j < i → ∀ (h : j < L.length) (h' : j < X.length), X[j] = up1 L[j]
  a : ∀ j, i ≤ j → ∀ (h : j < L.length) (h' : j < X.length), X[j] = L[j]
theorem P1.p3 {L X : List Wn} {i : Nat} (h : P1 L X i) : P3 L X 0 := ⟨h.n, fun j hj => by omega, fun j _ hj h' => h.a j hj h'⟩
theorem P3.next {L X : List Wn} {i : Nat} (h : P3 L X i) (hi : i < L.length) (hX : i < X.length) : P3 L (X.set i ⟨X[i].c, (X[i].s + 1) % 18446744073709551616, X[i].l⟩) (i + 1) := by
  have e := h.a i (Nat.le_refl _) hi hX
  refine ⟨by rw [List.length_set, h.n], fun j hj hj2 h' => ?_, fun j hj hj2 h' => ?_⟩
  · by_cases e2 : j = i
    · subst e2; rw [List.getElem_set_self, e]; rfl
    · rw [List.getElem_set_ne (by omega)]; exact h.u j (by omega) hj2 _
  · rw [List.getElem_set_ne (by omega)]; exact h.a j (by omega) hj2 _
theorem GB.rd {w : World} {G : Nat} {X L : List Wn} (h : GB w G X) (hl : L.length ≤ X.length) (he : ∀ j (h : j < L.length) (h' : j < X.length), X[j] = L[j]) (hb : L.length ≤ 140737488351232) (hr : ∀ x ∈ L, x.s < 18446744073709551616 ∧ x.l < 18446744073709551616) : WsI w (some ⟨G, 0, none⟩) L := by
  refine ⟨.inr ⟨G, 0, rfl, ⟨fun i hi => ?_⟩⟩, hb, hr⟩
  have := h.at i (by omega)
  rw [he i hi (by omega)] at this
  rw [Nat.zero_add]
  exact this
/-- What the statement's 'made' leaves. -/
def MdE (w' : World) (M : Nat) (L : List Wn) (e : Ending) : Prop :=
  (mayH M L = true ∧ ∃ B F, e = .returned (.tuple #[.pointer (some ⟨B, 0, none⟩), .pointer (some ⟨F, 0, none⟩), .bool true]) ∧ IsH w' B ⟨M, L⟩ ∧ IsH w' F ⟨M, L⟩) ∨
  (mayH M L = false ∧ e = .returned (.tuple #[.pointer none, .pointer none, .bool true]))
theorem up1_r {L : List Wn} (hr : ∀ x ∈ L, x.s < 18446744073709551616 ∧ x.l < 18446744073709551616) : ∀ x ∈ L.map up1, x.s < 18446744073709551616 ∧ x.l < 18446744073709551616 := by
  intro x hx
  obtain ⟨y, hy, rfl⟩ := List.mem_map.1 hx
  exact ⟨Nat.mod_lt _ (by omega), (hr y hy).2⟩
/-- What New tells, whichever way. -/
def NwP (s : Nat) (w' : World) (M : Nat) (L : List Wn) (ob : Option Addr) (he : Int) : Prop :=
  (mayH M L = true ∧ he = 0 ∧ ∃ B, ob = some ⟨B, 0, none⟩ ∧ IsHa s w' B ⟨M, L⟩) ∨ (mayH M L = false ∧ he = 180 ∧ ob = none)
def RnP (s : Nat) (w' : World) (M : Nat) (L : List Wn) (oc : Option Addr) : Prop :=
  (mayH M L = true ∧ ∃ F, oc = some ⟨F, 0, none⟩ ∧ IsHa s w' F ⟨M, L⟩) ∨ (mayH M L = false ∧ oc = none)
section
variable {s : Nat} {w w' : World} {M : Nat} {L : List Wn} {ob : Option Addr} {he : Int} {S : Nat → Prop}
theorem NwP.chg (h : NwP s w M L ob he) (k : Chg w w' S) (hS : ∀ k, s ≤ k → ¬ S k) : NwP s w' M L ob he := by
  rcases h with ⟨h1, h2, B, h3, h4⟩ | h
  · exact .inl ⟨h1, h2, B, h3, h4.chg k hS⟩
  · exact .inr h
theorem RnP.chg (h : RnP s w M L ob) (k : Chg w w' S) (hS : ∀ k, s ≤ k → ¬ S k) : RnP s w' M L ob := by
  rcases h with ⟨h1, B, h3, h4⟩ | h
  · exact .inl ⟨h1, B, h3, h4.chg k hS⟩
  · exact .inr h
theorem NwP.low {t : Nat} (h : NwP s w M L ob he) (hst : t ≤ s) : NwP t w M L ob he := by
  rcases h with ⟨h1, h2, B, h3, h4⟩ | h
  · obtain ⟨g, cap, hg, r⟩ := h4.ex
    exact .inl ⟨h1, h2, B, h3, ⟨Nat.le_trans hst h4.lB, ⟨g, cap, Nat.le_trans hst hg, r⟩, h4.ok⟩⟩
  · exact .inr h
theorem RnP.low {t : Nat} (h : RnP s w M L ob) (hst : t ≤ s) : RnP t w M L ob := by
  rcases h with ⟨h1, B, h3, h4⟩ | h
  · obtain ⟨g, cap, hg, r⟩ := h4.ex
    exact .inl ⟨h1, B, h3, ⟨Nat.le_trans hst h4.lB, ⟨g, cap, Nat.le_trans hst hg, r⟩, h4.ok⟩⟩
  · exact .inr h
end
theorem new_p (w : World) (M : Nat) (hM : M < 18446744073709551616) (a : Option Addr) (L : List Wn) (cap : Nat) (hL : WsI w a L) :
    Calls Try.prog 21 #[.int .u64 (M : Nat), .slice a L.length cap] w fun e w' => ∃ ob he, e = .returned (.tuple #[.pointer ob, .int .i64 he]) ∧ NwP w.heap.size w' M L ob he ∧ Kp w w' :=
  (new_any w M hM a L cap hL).mono fun e w' ⟨x, k⟩ => by
    rcases x with ⟨h1, B, he, i⟩ | ⟨h1, he⟩
    · exact ⟨_, _, he, .inl ⟨h1, rfl, B, rfl, i⟩, k⟩
    · exact ⟨_, _, he, .inr ⟨h1, rfl, rfl⟩, k⟩
theorem rnew_p (w : World) (M : Nat) (hM : M < 18446744073709551616) (a : Option Addr) (L : List Wn) (cap : Nat) (hL : WsI w a L) :
    Calls Try.prog 26 #[.int .u64 (M : Nat), .slice a L.length cap] w fun e w' => ∃ oc, e = .returned (.pointer oc) ∧ RnP w.heap.size w' M L oc ∧ Kp w w' :=
  (rnew_any w M hM a L cap hL).mono fun e w' ⟨x, k⟩ => by
    rcases x with ⟨h1, B, he, i⟩ | ⟨h1, he⟩
    · exact ⟨_, he, .inl ⟨h1, B, rfl, i⟩, k⟩
    · exact ⟨_, he, .inr ⟨h1, rfl⟩, k⟩
set_option maxHeartbeats 4000000 in
set_option maxRecDepth 10000 in
theorem made_any (w : World) (M : Nat) (hM : M < 18446744073709551616) (a : Option Addr) (L : List Wn) (cap : Nat) (hL : WsI w a L) (hb : L.length * 24 ≤ 140737488355328) :
    Calls Try.prog 14 #[.int .u64 (M : Nat), .slice a L.length cap] w fun e w' => MdE w' M L e ∧ Kp w w' := by
  have hmk := mkW w (L.length + 8) (by omega)
  have g0 : GB (w.alloc (.cells (wcs (List.replicate (L.length + 8) ⟨0, 0, 0⟩)).toArray 36)) w.heap.size (List.replicate (L.length + 8) ⟨0, 0, 0⟩) := heap_alloc_new w _
  have k0 := Kp.al w (.cells (wcs (List.replicate (L.length + 8) ⟨0, 0, 0⟩)).toArray 36)
  obtain ⟨w1, hcp, g1, c1⟩ := cpW _ 3 w.heap.size 8 a L cap (hL.kp k0) g0
  have HW1 : Hid (Kp w w1 ∧ GB w1 w.heap.size (L ++ List.replicate 8 ⟨0, 0, 0⟩) ∧ P1 L (L ++ List.replicate 8 ⟨0, 0, 0⟩) 0) := ⟨Chg.trans k0 c1 (fun i hi e => by omega), g1, P1.zero L⟩
  have HL : Hid (WsI w a L) := hL
  generalize hwa : w.alloc (.cells (wcs (List.replicate (L.length + 8) ⟨0, 0, 0⟩)).toArray 36) = wa at *
  clear hwa g0 k0 g1 c1 hL
  obtain ⟨n, hn⟩ : ∃ n, n = L.length := ⟨_, rfl⟩
  have HN : Hid (n = L.length) := hn
  rw [← hn] at hmk hcp hb ⊢
  clear hn
  obtain ⟨G, hG⟩ : ∃ G, G = w.heap.size := ⟨_, rfl⟩
  have HG : Hid (G = w.heap.size) := hG
  rw [← hG] at hmk hcp HW1
  clear hG
  have hw8 : IntKind.i64.wrap ((n : Int) + 8) = n + 8 := w64 (by omega) (by omega)
  simp only [Int.natCast_add, Int.cast_ofNat_Int, goInt] at hmk hcp
  go_enter Try.func14, Try.ntmps14
  go_wp2_with (first | (at_builtin; refine wpList_copy_run rfl (.tmp 27) (.tmp 28) 39 39 rfl _ _ _ w1 rfl rfl hcp ?_) | fail)
  clear hmk hcp hw8
  go_loopw [8] (fun s8 wr => ∃ (i : Nat) (X : List Wn), s8 = .int .i64 (i : Nat) ∧ i ≤ 8 ∧ Hid (Kp w wr ∧ GB wr G X ∧ P1 L X i)) (fun s8 _ => 8 - (intOf s8).toNat)
  case atStart => exact ⟨0, _, rfl, by omega, HW1⟩
  case round =>
    obtain ⟨i, X, rfl, hi, HI⟩ := hrel
    clear HW1
    by_cases hlt : i < 8
    · have hltz : (i : Int) < 8 := by omega
      have hX : n + i < X.length := by rw [HI.out.2.2.n, ← HN.out]; omega
      obtain ⟨x0, x1, x2⟩ := HI.out.2.1.at (n + i) hX
      have y0 := HI.out.2.1.fr ((n + i) * 3)
      have y1 := HI.out.2.1.fr ((n + i) * 3 + 1)
      have y2 := HI.out.2.1.fr ((n + i) * 3 + 2)
      have wni : IntKind.i64.wrap ((n : Int) + i) = n + i := w64 (by omega) (by omega)
      have w71 : IntKind.i64.wrap (71 + (i : Int)) = 71 + i := w64 (by omega) (by omega)
      have hni : (n : Int) + i < n + 8 := by omega
      have HN2 : Hid (Kp w (((wr.setCell ⟨G, (n + i) * 3, none⟩ (.int .i64 (71 + (i : Int)))).setCell ⟨G, (n + i) * 3 + 1, none⟩ (.int .u64 0)).setCell ⟨G, (n + i) * 3 + 2, none⟩ (.int .u64 0)) ∧ GB (((wr.setCell ⟨G, (n + i) * 3, none⟩ (.int .i64 (71 + (i : Int)))).setCell ⟨G, (n + i) * 3 + 1, none⟩ (.int .u64 0)).setCell ⟨G, (n + i) * 3 + 2, none⟩ (.int .u64 0)) G (X.set (n + i) ⟨71 + i, 0, 0⟩) ∧ P1 L (X.set (n + i) ⟨71 + i, 0, 0⟩) (i + 1)) := by
        refine ⟨Chg.trans HI.out.1 (chg3 wr G ((n + i) * 3) _ _ _) (fun k hk e => by have := HG.out; omega), HI.out.2.1.set (n + i) hX (71 + i) 0 0, ?_⟩
        have := HI.out.2.2.next hlt
        rw [← HN.out] at this
        exact this
      generalize X[n + i].c = qc at *
      generalize X[n + i].s = qs at *
      generalize X[n + i].l = ql at *
      go_wp2
      exact ⟨⟨i + 1, _, by go_num, by omega, HN2⟩, by simp [intOf]; omega⟩
    · have hltz : ¬ (i : Int) < 8 := by omega
      have HJ : Hid (P1 L X 8) := by
        have e8 : i = 8 := by omega
        rw [← e8]; exact HI.out.2.2
      have hX8 := HJ.out.n
      have hlb := HL.out.l
      have hWs := HI.out.2.1.rd (L := L) (by omega) HJ.out.a hlb HL.out.r
      have hN1 := new_p wr M hM (some ⟨G, 0, none⟩) L (n + 8) hWs
      rw [← HN.out] at hN1
      have HWr : Hid (Kp w wr ∧ GB wr G X) := ⟨HI.out.1, HI.out.2.1⟩
      have hnc : (n : Int) ≤ n + 8 := by omega
      clear hX8 hlb hWs HI
      go_wp2_with fail
      go_at_call 21
      refine hN1.mono ?_
      rintro e w2 ⟨ob, he, rfl, hob, k2⟩
      have hN2 := rnew_p w2 M hM a L cap ((HL.out.kp HWr.out.1).kp k2)
      rw [← HN.out] at hN2
      clear hN1
      go_wp2_with fail
      go_at_call 26
      refine hN2.mono ?_
      rintro e w3 ⟨oc, rfl, hoc, k3⟩
      have HW3 : Hid (Kp w w3 ∧ GB w3 G X ∧ NwP (w.heap.size + 1) w3 M L ob he ∧ RnP (w.heap.size + 1) w3 M L oc) := by
        have h1 := hp_lt HWr.out.2
        have h2 := HG.out
        have h3 := k2.size
        exact ⟨(HWr.out.1.trans k2).trans k3, (HWr.out.2.kp k2).kp k3, (hob.chg k3 (fun _ _ e => e)).low (by omega), hoc.low (by omega)⟩
      clear hN2 k2 k3 hob hoc HWr
      go_wp2_with fail
      go_loopw [12, 13] (fun s12 s13 wr => ∃ i : Nat, s12 = .bool true ∧ s13 = .int .i64 (i : Nat) ∧ i ≤ 8 ∧ wr = w3) (fun _ s13 _ => 8 - (intOf s13).toNat)
      case atStart => exact ⟨0, rfl, rfl, by omega, rfl⟩
      case round =>
        obtain ⟨i, rfl, rfl, hi, rfl⟩ := hrel
        by_cases hlt2 : i < 8
        · have hlt2z : (i : Int) < 8 := by omega
          have hX : n + i < X.length := by rw [HJ.out.n, ← HN.out]; omega
          obtain ⟨x0, x1, x2⟩ := HW3.out.2.1.at (n + i) hX
          have hm : X[n + i] = ⟨71 + i, 0, 0⟩ := by
            have e := HN.out
            subst e
            exact HJ.out.m i hlt2 hX
          rw [hm] at x0 x1 x2
          simp only [Int.cast_ofNat_Int] at x1 x2
          have wni : IntKind.i64.wrap ((n : Int) + i) = n + i := w64 (by omega) (by omega)
          have w71 : IntKind.i64.wrap (71 + (i : Int)) = 71 + i := w64 (by omega) (by omega)
          have hni : (n : Int) + i < n + 8 := by omega
          clear hm hX
          go_wp2
          exact ⟨⟨i + 1, by first | rfl | simp, by go_num, by omega, by first | rfl | trivial⟩, by simp [intOf]; omega⟩
        · have hlt2z : ¬ (i : Int) < 8 := by omega
          have A3 : Hid (Kp w wr ∧ GB wr G X ∧ NwP (w.heap.size + 1) wr M L ob he ∧ RnP (w.heap.size + 1) wr M L oc ∧ P3 L X 0) := ⟨HW3.out.1, HW3.out.2.1, HW3.out.2.2.1, HW3.out.2.2.2, HJ.out.p3⟩
          clear HW3
          go_wp2_with fail
          go_loopw [12, 14] (fun s12 s14 wr => ∃ (i : Nat) (X : List Wn), s12 = .bool true ∧ s14 = .int .i64 (i : Nat) ∧ i ≤ n ∧ Hid (Kp w wr ∧ GB wr G X ∧ NwP (w.heap.size + 1) wr M L ob he ∧ RnP (w.heap.size + 1) wr M L oc ∧ P3 L X i)) (fun _ s14 _ => n - (intOf s14).toNat)
          case atStart => exact ⟨0, X, rfl, rfl, by omega, A3⟩
          case round =>
            obtain ⟨i, X, rfl, rfl, hi, HI⟩ := hrel
            clear A3
            by_cases hlt3 : i < n
            · have hlt3z : (i : Int) < n := by omega
              have hil : i < L.length := by rw [← HN.out]; exact hlt3
              have hX : i < X.length := by rw [HI.out.2.2.2.2.n]; omega
              obtain ⟨x0, x1, x2⟩ := HI.out.2.1.at i hX
              obtain ⟨b, o, rfl, hrd⟩ : ∃ b o, a = some ⟨b, o, none⟩ ∧ RdW w b o L := by
                rcases HL.out.c with e | e
                · rw [e] at hil; simp at hil
                · exact e
              obtain ⟨y0, y1, y2⟩ := (hrd.kp HI.out.1).c i hil
              have hs18 : X[i].s < 18446744073709551616 := by rw [HI.out.2.2.2.2.a i (Nat.le_refl _) hil hX]; exact (HL.out.r _ (List.getElem_mem hil)).1
              have hwrap : IntKind.u64.wrap ((X[i].s : Int) + 1) = (((X[i].s + 1) % 18446744073709551616 : Nat) : Int) := by
                simp [IntKind.wrap, IntKind.bits, IntKind.signed]
              rw [← HI.out.2.2.2.2.a i (Nat.le_refl _) hil hX] at y0 y1 y2
              have hnp : (i : Int) < n + 8 := by omega
              have HNX : Hid (∀ W3, Kp wr W3 → W3.cell? ⟨G, i * 3 + 1, none⟩ = some (.int .u64 (X[i].s : Nat)) ∧ W3.frozen? ⟨G, i * 3 + 1, none⟩ = false ∧ ∃ X2, (Kp w (W3.setCell ⟨G, i * 3 + 1, none⟩ (.int .u64 (((X[i].s + 1) % 18446744073709551616 : Nat) : Int))) ∧ GB (W3.setCell ⟨G, i * 3 + 1, none⟩ (.int .u64 (((X[i].s + 1) % 18446744073709551616 : Nat) : Int))) G X2 ∧ NwP (w.heap.size + 1) (W3.setCell ⟨G, i * 3 + 1, none⟩ (.int .u64 (((X[i].s + 1) % 18446744073709551616 : Nat) : Int))) M L ob he ∧ RnP (w.heap.size + 1) (W3.setCell ⟨G, i * 3 + 1, none⟩ (.int .u64 (((X[i].s + 1) % 18446744073709551616 : Nat) : Int))) M L oc ∧ P3 L X2 (i + 1))) := fun W3 k3 => by
                have g3 := HI.out.2.1.kp k3
                have hc1 := chg1 W3 G (i * 3 + 1) (.int .u64 (((X[i].s + 1) % 18446744073709551616 : Nat) : Int))
                exact ⟨(g3.at i hX).2.1, g3.fr _, _, Chg.trans (HI.out.1.trans k3) hc1 (fun k hk e => by have := HG.out; omega), g3.set1 i hX _, (HI.out.2.2.1.chg k3 (fun _ _ e => e)).chg hc1 (fun k hk e => by have := HG.out; omega), (HI.out.2.2.2.1.chg k3 (fun _ _ e => e)).chg hc1 (fun k hk e => by have := HG.out; omega), HI.out.2.2.2.2.next hil hX⟩
              clear HI
              generalize hup : (X[i].s + 1) % 18446744073709551616 = up at *
              generalize X[i].c = qc at *
              generalize X[i].s = qs at *
              generalize X[i].l = ql at *
              clear hup
              go_upto_region 17 with fail
              go_quiet (fail)
              obtain ⟨z1, zf, X2, HN2⟩ := HNX.out _ (Kp.drewN wr nq)
              have HN3 : Hid _ := HN2
              clear HN2 HNX
              generalize wr.drewN nq = W3 at *
              go_wp2
              exact ⟨⟨i + 1, X2, by first | rfl | simp, by go_num, by omega, HN3⟩, by simp [intOf]; omega⟩
            · have hlt3z : ¬ (i : Int) < n := by omega
              have HJ3 : Hid (P3 L X n) := by
                have e8 : i = n := by omega
                rw [← e8]; exact HI.out.2.2.2.2
              have hX8 := HJ3.out.n
              have hlb := HL.out.l
              have hWs := HI.out.2.1.rd (L := L.map up1) (by simp; omega) (fun j hj h' => by
                rw [List.getElem_map]
                exact HJ3.out.u j (by have := HN.out; simp at hj; omega) (by simpa using hj) h') (by simpa using hlb) (up1_r HL.out.r)
              have hN1 := new_p wr M hM (some ⟨G, 0, none⟩) (L.map up1) (n + 8) hWs
              rw [List.length_map, ← HN.out] at hN1
              have HU : Hid (WsI wr (some ⟨G, 0, none⟩) (L.map up1)) := hWs
              have HWr : Hid (Kp w wr ∧ GB wr G X ∧ NwP (w.heap.size + 1) wr M L ob he ∧ RnP (w.heap.size + 1) wr M L oc) := ⟨HI.out.1, HI.out.2.1, HI.out.2.2.1, HI.out.2.2.2.1⟩
              have HXL : Hid (X.length = n + 8) := by show X.length = n + 8; rw [hX8, HN.out]
              clear hX8 hlb hWs HI
              go_wp2_with fail
              go_at_call 21
              refine hN1.mono ?_
              rintro e w4 ⟨ob2, he2, rfl, hob2, k4⟩
              have hN2 := rnew_p w4 M hM (some ⟨G, 0, none⟩) (L.map up1) (n + 8) (HU.out.kp k4)
              rw [List.length_map, ← HN.out] at hN2
              clear hN1
              go_wp2_with fail
              go_at_call 26
              refine hN2.mono ?_
              rintro e w5 ⟨oc2, rfl, hoc2, k5⟩
              have HW5 : Hid (Kp w w5 ∧ GB w5 G X ∧ NwP (w.heap.size + 1) w5 M L ob he ∧ RnP (w.heap.size + 1) w5 M L oc) := ⟨(HWr.out.1.trans k4).trans k5, (HWr.out.2.1.kp k4).kp k5, HWr.out.2.2.1.chg (k4.trans k5) (fun _ _ e => e), HWr.out.2.2.2.chg (k4.trans k5) (fun _ _ e => e)⟩
              have hob3 := hob2.chg k5 (fun _ _ e => e)
              clear hN2 k4 k5 HWr hob2
              rcases hob3 with ⟨hm1, rfl, B2, rfl, iB⟩ | ⟨hm1, rfl, rfl⟩
              · obtain ⟨F2, rfl, iF⟩ : ∃ F, oc2 = some ⟨F, 0, none⟩ ∧ IsHa w4.heap.size w5 F ⟨M, L.map up1⟩ := by
                  rcases hoc2 with ⟨_, x⟩ | ⟨x, _⟩
                  · exact x
                  · rw [hm1] at x; cases x
                have hA1 := at_any w5 B2 _ iB.isH 7 (by omega)
                have hA2 : ∀ W, Kp w5 W → Calls Try.prog 27 #[.pointer (some ⟨F2, 0, none⟩), .int .u64 ((7 : Nat) : Int)] W fun e w' => e = .returned (.tuple #[.int .u64 ((⟨M, L.map up1⟩ : Hr).aN 7 : Nat), .bool ((⟨M, L.map up1⟩ : Hr).aB 7)]) ∧ Kp w5 w' := fun W k => (rat_any W F2 _ (iF.isH.kp k) 7 (by omega)).mono fun e w' ⟨x, y⟩ => ⟨x, k.trans y⟩
                generalize (⟨M, L.map up1⟩ : Hr).aN 7 = aN7 at *
                generalize (⟨M, L.map up1⟩ : Hr).aB 7 = aB7 at *
                simp only [Int.cast_ofNat_Int] at hA1 hA2
                clear iB iF hoc2 hm1
                go_wp2_with fail
                go_at_call 9
                refine hA1.mono ?_
                rintro e w6 ⟨rfl, k6⟩
                have hA3 := hA2 w6 k6
                clear hA1 hA2
                go_wp2_with fail
                go_at_call 27
                refine hA3.mono ?_
                rintro e w7 ⟨rfl, k7⟩
                clear hA3
                have HT : Hid (Kp w w7 ∧ GB w7 G X ∧ NwP (w.heap.size + 1) w7 M L ob he ∧ RnP (w.heap.size + 1) w7 M L oc) := ⟨HW5.out.1.trans k7, HW5.out.2.1.kp k7, HW5.out.2.2.1.chg k7 (fun _ _ e => e), HW5.out.2.2.2.chg k7 (fun _ _ e => e)⟩
                clear HW5 k6 k7
                go_wp2_with fail
                go_loopw [22] (fun s22 wr => ∃ (i : Nat) (X : List Wn), s22 = .int .i64 (i : Nat) ∧ i ≤ n + 8 ∧ Hid (Kp w wr ∧ GB wr G X ∧ NwP (w.heap.size + 1) wr M L ob he ∧ RnP (w.heap.size + 1) wr M L oc ∧ X.length = n + 8)) (fun s22 _ => n + 8 - (intOf s22).toNat)
                case atStart => exact ⟨0, X, rfl, by omega, ⟨HT.out.1, HT.out.2.1, HT.out.2.2.1, HT.out.2.2.2, HXL.out⟩⟩
                case round =>
                  obtain ⟨i, X, rfl, hi, HI⟩ := hrel
                  clear HT
                  by_cases hlt4 : i < n + 8
                  · have hlt4z : (i : Int) < n + 8 := by omega
                    have hX : i < X.length := by rw [HI.out.2.2.2.2]; omega
                    obtain ⟨x0, x1, x2⟩ := HI.out.2.1.at i hX
                    have y0 := HI.out.2.1.fr (i * 3)
                    have y1 := HI.out.2.1.fr (i * 3 + 1)
                    have y2 := HI.out.2.1.fr (i * 3 + 2)
                    have HN2 : Hid (Kp w (((wr.setCell ⟨G, i * 3, none⟩ (.int .i64 73)).setCell ⟨G, i * 3 + 1, none⟩ (.int .u64 5)).setCell ⟨G, i * 3 + 2, none⟩ (.int .u64 6)) ∧ GB (((wr.setCell ⟨G, i * 3, none⟩ (.int .i64 73)).setCell ⟨G, i * 3 + 1, none⟩ (.int .u64 5)).setCell ⟨G, i * 3 + 2, none⟩ (.int .u64 6)) G (X.set i ⟨73, 5, 6⟩) ∧ NwP (w.heap.size + 1) (((wr.setCell ⟨G, i * 3, none⟩ (.int .i64 73)).setCell ⟨G, i * 3 + 1, none⟩ (.int .u64 5)).setCell ⟨G, i * 3 + 2, none⟩ (.int .u64 6)) M L ob he ∧ RnP (w.heap.size + 1) (((wr.setCell ⟨G, i * 3, none⟩ (.int .i64 73)).setCell ⟨G, i * 3 + 1, none⟩ (.int .u64 5)).setCell ⟨G, i * 3 + 2, none⟩ (.int .u64 6)) M L oc ∧ (X.set i ⟨73, 5, 6⟩).length = n + 8) := by
                      have hc := chg3 wr G (i * 3) (.int .i64 73) (.int .u64 5) (.int .u64 6)
                      exact ⟨Chg.trans HI.out.1 hc (fun k hk e => by have := HG.out; omega), HI.out.2.1.set i hX 73 5 6, HI.out.2.2.1.chg hc (fun k hk e => by have := HG.out; omega), HI.out.2.2.2.1.chg hc (fun k hk e => by have := HG.out; omega), by rw [List.length_set]; exact HI.out.2.2.2.2⟩
                    generalize X[i].c = qc at *
                    generalize X[i].s = qs at *
                    generalize X[i].l = ql at *
                    clear hX HI
                    go_wp2
                    exact ⟨⟨i + 1, _, by go_num, by omega, HN2⟩, by simp [intOf]; omega⟩
                  · have hlt4z : ¬ (i : Int) < n + 8 := by omega
                    have hnw := HI.out.2.2.1
                    have hrn := HI.out.2.2.2.1
                    rcases hnw with ⟨hma, rfl, B, rfl, iB⟩ | ⟨hma, rfl, rfl⟩
                    · obtain ⟨F, rfl, iF⟩ : ∃ F, oc = some ⟨F, 0, none⟩ ∧ IsHa (w.heap.size + 1) wr F ⟨M, L⟩ := by
                        rcases hrn with ⟨_, x⟩ | ⟨x, _⟩
                        · exact x
                        · rw [hma] at x; cases x
                      have HE : Hid (mayH M L = true ∧ IsH wr B ⟨M, L⟩ ∧ IsH wr F ⟨M, L⟩ ∧ Kp w wr) := ⟨hma, iB.isH, iF.isH, HI.out.1⟩
                      clear HI hrn hma iB iF
                      go_wp2_with fail
                      exact bodyPost_ret (v := .tuple #[.pointer (some ⟨B, 0, none⟩), .pointer (some ⟨F, 0, none⟩), .bool true]) (by simp [results, Try.results14, go_sem]) rfl ⟨.inl ⟨HE.out.1, B, F, rfl, HE.out.2.1, HE.out.2.2.1⟩, HE.out.2.2.2⟩
                    · obtain rfl : oc = none := by
                        rcases hrn with ⟨x, _⟩ | ⟨_, x⟩
                        · rw [hma] at x; cases x
                        · exact x
                      have HE : Hid (mayH M L = false ∧ Kp w wr) := ⟨hma, HI.out.1⟩
                      clear HI hrn hma
                      go_wp2_with fail
                      exact bodyPost_ret (v := .tuple #[.pointer none, .pointer none, .bool true]) (by simp [results, Try.results14, go_sem]) rfl ⟨.inr ⟨HE.out.1, rfl⟩, HE.out.2⟩
              · obtain rfl : oc2 = none := by
                  rcases hoc2 with ⟨x, _⟩ | ⟨_, x⟩
                  · rw [hm1] at x; cases x
                  · exact x
                have HT : Hid (Kp w w5 ∧ GB w5 G X ∧ NwP (w.heap.size + 1) w5 M L ob he ∧ RnP (w.heap.size + 1) w5 M L oc) := HW5.out
                clear HW5 hoc2 hm1
                go_wp2_with fail
                go_loopw [22] (fun s22 wr => ∃ (i : Nat) (X : List Wn), s22 = .int .i64 (i : Nat) ∧ i ≤ n + 8 ∧ Hid (Kp w wr ∧ GB wr G X ∧ NwP (w.heap.size + 1) wr M L ob he ∧ RnP (w.heap.size + 1) wr M L oc ∧ X.length = n + 8)) (fun s22 _ => n + 8 - (intOf s22).toNat)
                case atStart => exact ⟨0, X, rfl, by omega, ⟨HT.out.1, HT.out.2.1, HT.out.2.2.1, HT.out.2.2.2, HXL.out⟩⟩
                case round =>
                  obtain ⟨i, X, rfl, hi, HI⟩ := hrel
                  clear HT
                  by_cases hlt4 : i < n + 8
                  · have hlt4z : (i : Int) < n + 8 := by omega
                    have hX : i < X.length := by rw [HI.out.2.2.2.2]; omega
                    obtain ⟨x0, x1, x2⟩ := HI.out.2.1.at i hX
                    have y0 := HI.out.2.1.fr (i * 3)
                    have y1 := HI.out.2.1.fr (i * 3 + 1)
                    have y2 := HI.out.2.1.fr (i * 3 + 2)
                    have HN2 : Hid (Kp w (((wr.setCell ⟨G, i * 3, none⟩ (.int .i64 73)).setCell ⟨G, i * 3 + 1, none⟩ (.int .u64 5)).setCell ⟨G, i * 3 + 2, none⟩ (.int .u64 6)) ∧ GB (((wr.setCell ⟨G, i * 3, none⟩ (.int .i64 73)).setCell ⟨G, i * 3 + 1, none⟩ (.int .u64 5)).setCell ⟨G, i * 3 + 2, none⟩ (.int .u64 6)) G (X.set i ⟨73, 5, 6⟩) ∧ NwP (w.heap.size + 1) (((wr.setCell ⟨G, i * 3, none⟩ (.int .i64 73)).setCell ⟨G, i * 3 + 1, none⟩ (.int .u64 5)).setCell ⟨G, i * 3 + 2, none⟩ (.int .u64 6)) M L ob he ∧ RnP (w.heap.size + 1) (((wr.setCell ⟨G, i * 3, none⟩ (.int .i64 73)).setCell ⟨G, i * 3 + 1, none⟩ (.int .u64 5)).setCell ⟨G, i * 3 + 2, none⟩ (.int .u64 6)) M L oc ∧ (X.set i ⟨73, 5, 6⟩).length = n + 8) := by
                      have hc := chg3 wr G (i * 3) (.int .i64 73) (.int .u64 5) (.int .u64 6)
                      exact ⟨Chg.trans HI.out.1 hc (fun k hk e => by have := HG.out; omega), HI.out.2.1.set i hX 73 5 6, HI.out.2.2.1.chg hc (fun k hk e => by have := HG.out; omega), HI.out.2.2.2.1.chg hc (fun k hk e => by have := HG.out; omega), by rw [List.length_set]; exact HI.out.2.2.2.2⟩
                    generalize X[i].c = qc at *
                    generalize X[i].s = qs at *
                    generalize X[i].l = ql at *
                    clear hX HI
                    go_wp2
                    exact ⟨⟨i + 1, _, by go_num, by omega, HN2⟩, by simp [intOf]; omega⟩
                  · have hlt4z : ¬ (i : Int) < n + 8 := by omega
                    have hnw := HI.out.2.2.1
                    have hrn := HI.out.2.2.2.1
                    rcases hnw with ⟨hma, rfl, B, rfl, iB⟩ | ⟨hma, rfl, rfl⟩
                    · obtain ⟨F, rfl, iF⟩ : ∃ F, oc = some ⟨F, 0, none⟩ ∧ IsHa (w.heap.size + 1) wr F ⟨M, L⟩ := by
                        rcases hrn with ⟨_, x⟩ | ⟨x, _⟩
                        · exact x
                        · rw [hma] at x; cases x
                      have HE : Hid (mayH M L = true ∧ IsH wr B ⟨M, L⟩ ∧ IsH wr F ⟨M, L⟩ ∧ Kp w wr) := ⟨hma, iB.isH, iF.isH, HI.out.1⟩
                      clear HI hrn hma iB iF
                      go_wp2_with fail
                      exact bodyPost_ret (v := .tuple #[.pointer (some ⟨B, 0, none⟩), .pointer (some ⟨F, 0, none⟩), .bool true]) (by simp [results, Try.results14, go_sem]) rfl ⟨.inl ⟨HE.out.1, B, F, rfl, HE.out.2.1, HE.out.2.2.1⟩, HE.out.2.2.2⟩
                    · obtain rfl : oc = none := by
                        rcases hrn with ⟨x, _⟩ | ⟨_, x⟩
                        · rw [hma] at x; cases x
                        · exact x
                      have HE : Hid (mayH M L = false ∧ Kp w wr) := ⟨hma, HI.out.1⟩
                      clear HI hrn hma
                      go_wp2_with fail
                      exact bodyPost_ret (v := .tuple #[.pointer none, .pointer none, .bool true]) (by simp [results, Try.results14, go_sem]) rfl ⟨.inr ⟨HE.out.1, rfl⟩, HE.out.2⟩
end Go.Proofs.Ytakddfhcafpceaa
