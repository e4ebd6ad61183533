import Derived.Test.YtakddfhcafpceaaEg
import Derived.Test.YtakddfhcafpceaaDc
import Derived.Deep.LoopGhost
namespace Go.Proofs.Ytakddfhcafpceaa
open Go.ChangeShapes Go.WideShapes Go.ChangeAt Go.RowKit Go.Shelf
set_option linter.unusedVariables false
attribute [local go_sem] Oper.semAt_some
theorem cellB {w : World} {b : Nat} {v : Value} {T : TypeId} (h : w.heap[b]? = some (.cells #[v] T (0, 0))) : w.cell? ⟨b, 0, none⟩ = some v ∧ w.frozen? ⟨b, 0, none⟩ = false := by
  have := cells_at h 0
  simpa using this
/-- A box that holds a value. -/
abbrev Bx1 (w : World) (b : Nat) (v : Value) (T : TypeId) : Prop := w.heap[b]? = some (.cells #[v] T (0, 0))
theorem set1 (w : World) (b : Nat) (v : Value) : Chg w (w.setCell ⟨b, 0, none⟩ v) (fun i => i = b) := Chg.setCell (Chg.refl w _) (.inl (show b = b from rfl)) v
theorem Kp.then {a b c : World} {S : Nat → Prop} (h : Kp a b) (k : Chg b c S) (hS : ∀ i, i < a.heap.size → ¬ S i) : Kp a c := Chg.trans h k (fun i hi e => hS i hi e)
theorem results_cellB {fn : Func} {p : Tmp} (h : fn.results = #[.cell p 4]) (tmps : Array Value) (w : World) (b : Nat) (y : Bool)
    (hp : tmps.getD p undef = .pointer (some ⟨b, 0, none⟩)) (hb : w.cell? ⟨b, 0, none⟩ = some (.bool y)) :
    (results fn tmps).run Try.prog w = .ok (.bool y) w := by
  have hp' : tmps[p]?.getD undef = .pointer (some ⟨b, 0, none⟩) := by simpa using hp
  simp [results, h, hp', asAddr, go_sem, hb]
/-- A mark that a range leaves. -/
def mk1 (b : Nat) : Deferred := { target := .collected b, args := #[] }
/-- Marks, each of a block of its own. -/
structure Mks (s : Nat) (W : World) (bs : List Nat) : Prop where
  d : ∀ b ∈ bs, W.heap[b]? = some (.deferred (some []))
  n : bs.Nodup
  l : ∀ b ∈ bs, s ≤ b
theorem Mks.nil (s : Nat) (W : World) : Mks s W [] := ⟨fun b h => by simp at h, by simp, fun b h => by simp at h⟩
theorem Mks.chg {s : Nat} {W W' : World} {bs : List Nat} {S : Nat → Prop} (h : Mks s W bs) (hc : Chg W W' S) (hS : ∀ k, S k → ∀ d, W.heap[k]? ≠ some (.deferred d)) : Mks s W' bs :=
  ⟨fun b hb => hc.heap (h.d b hb) (fun e => hS b e _ (h.d b hb)), h.n, h.l⟩
theorem Mks.kp {s : Nat} {W W' : World} {bs : List Nat} (h : Mks s W bs) (k : Kp W W') : Mks s W' bs := h.chg k (fun _ e => e.elim)
theorem Mks.cons {s : Nat} {W W' : World} {bs : List Nat} {b : Nat} (h : Mks s W' bs) (hb : W.heap.size ≤ b) (hl : ∀ x ∈ bs, x < W.heap.size) (hs : s ≤ b) (hd : W'.heap[b]? = some (.deferred (some []))) : Mks s W' (b :: bs) := by
  refine ⟨fun x hx => ?_, ?_, fun x hx => ?_⟩
  · rcases List.mem_cons.1 hx with rfl | e
    · exact hd
    · exact h.d x e
  · rw [List.nodup_cons]
    exact ⟨fun e => by have := hl b e; omega, h.n⟩
  · rcases List.mem_cons.1 hx with rfl | e
    · exact hs
    · exact h.l x e
theorem leaves_mks {F : Fence} {n : Nat} {P : Program} {fn : Func} {tmps : Array Value} {R : Ending → World → Prop} {s : Nat} : ∀ (bs : List Nat) (W : World), Mks s W bs →
    (∀ W', Chg W W' (fun k => s ≤ k ∧ k ∈ bs) → ∃ v, (results fn tmps).run P W' = .ok v W' ∧ R (.returned v) W') → LeavesInM F n P fn tmps R (bs.map mk1) .returning W
  | [], W, _, h => by
    obtain ⟨v, h1, h2⟩ := h W (Chg.refl W _)
    exact ⟨v, h1, h2⟩
  | b :: bs, W, hM, h => by
    have hd := hM.d b (by simp)
    have hn := hM.n
    rw [List.nodup_cons] at hn
    refine ⟨by simp, .inl ⟨b, _, rfl, run_takeDeferred hd, ?_⟩⟩
    have hc : Chg W (W.putObj b (.deferred none)) (fun k => k = b) := Chg.putObj (Chg.refl W (fun k => k = b)) (.inl rfl) _
    refine leaves_mks bs _ ⟨fun x hx => hc.heap (hM.d x (by simp [hx])) (fun e => hn.1 (by rw [← e]; exact hx)), hn.2, fun x hx => hM.l x (by simp [hx])⟩ (fun W' h' => h W' ?_)
    exact Chg.trans (hc.mono (T := fun k => s ≤ k ∧ k ∈ b :: bs) (fun i _ e => by rw [e]; exact ⟨hM.l b (by simp), by simp⟩)) h' (fun i _ e => ⟨e.1, by simp [e.2]⟩)
theorem Mks.lt {s : Nat} {W : World} {bs : List Nat} (h : Mks s W bs) : ∀ x ∈ bs, x < W.heap.size := fun x hx => hp_lt (h.d x hx)
set_option maxHeartbeats 4000000 in
set_option maxRecDepth 10000 in
theorem again_any (w : World) (B F : Nat) (h : Hr) (i : IsH w B h) (j : IsH w F h) (fr : Nat) (hfr : fr < 18446744073709551616) :
    Calls Try.prog 18 #[.pointer (some ⟨B, 0, none⟩), .pointer (some ⟨F, 0, none⟩), .int .u64 (fr : Nat)] w fun e w' => e = .returned (.bool true) ∧ Kp w w' := by
  have kA := Kp.al w (.cells #[.bool false] 4)
  have g6 : Bx1 (w.alloc (.cells #[.bool false] 4)) w.heap.size (.bool false) 4 := heap_alloc_new w _
  have hR := rall_any (w.alloc (.cells #[.bool false] 4)) F h (j.kp kA) fr 18446744073709551615 hfr (by omega) 1 (by omega)
  have iA := i.kp kA
  refine (callsIn_wide (n := 3)).1 ?_
  refine callsIn_of_wp_marks Try.func18 rfl trivial ?_ rfl
  simp only [Try.ntmps18, List.size_toArray, List.length_cons, List.length_nil, Nat.reduceAdd, Nat.reduceSub, Array.replicate_succ, Array.replicate_zero, List.push_toArray, List.append_toArray, List.nil_append, List.cons_append]
  refine wpIn_wide.2 ?_
  obtain ⟨cn, hcn⟩ : ∃ cn, cn = h.cnt fr 18446744073709551615 := ⟨_, rfl⟩
  have HCN : Hid (cn = h.cnt fr 18446744073709551615) := hcn
  rw [← hcn] at hR
  simp only [Int.cast_ofNat_Int] at hR
  clear hcn
  go_wp2_with fail
  go_at_call 31
  refine hR.mono ?_
  rintro e w1 ⟨v, rfl, ov, k1, nv⟩
  obtain ⟨av, m, cv, hvm, hm⟩ : ∃ av m cv, v = .slice av m cv ∧ m = min cn 1 := by
    rcases ov.at with ⟨e, e2⟩ | ⟨g, cap, e, _⟩
    · refine ⟨_, _, _, e, ?_⟩
      have := alN_len (h.ah fr) (min cn 1); rw [e2] at this; simpa using this
    · rw [alN_len] at e; exact ⟨_, _, _, e, rfl⟩
  subst hvm
  have HM : Hid (m = min cn 1) := hm
  have al7 := Kp.al w1 (.cells #[.slice av m cv] 40)
  have g7 : Bx1 (w1.alloc (.cells #[.slice av m cv] 40)) w1.heap.size (.slice av m cv) 40 := heap_alloc_new w1 _
  have i2 := iA.kp (k1.trans al7)
  have g6' := (k1.trans al7).heap g6
  have ov2 : OU (w1.alloc (.cells #[.slice av m cv] 40)) (.slice av m cv) (alN (h.ah fr) (min cn 1)) := Chg.owns al7 ov (fun _ _ e => e)
  have HK2 : Hid (Kp w (w1.alloc (.cells #[.slice av m cv] 40))) := (kA.trans k1).trans al7
  have hAll := all_any (w1.alloc (.cells #[.slice av m cv] 40)) B (fr : Nat) 18446744073709551615
  clear hR hm nv ov k1 al7 kA g6 iA i j
  go_wp2_with fail
  generalize w1.alloc (.cells #[.slice av m cv] 40) = w2 at *
  go_at_call 12
  refine hAll.mono ?_
  rintro e w3 ⟨rfl, hw3⟩
  change w3 = al3 w2 B (fr : Nat) ((18446744073709551615 : Nat) : Int) at hw3
  have k3 : Kp w2 w3 := by rw [hw3]; exact al3_kp _ _ _ _
  have s3 : w3.heap.size = w2.heap.size + 3 := by rw [hw3]; exact al3_size _ _ _ _
  obtain ⟨t1, t2, t3⟩ := al3_at w2 B (fr : Nat) ((18446744073709551615 : Nat) : Int)
  rw [← hw3] at t1 t2 t3
  have hfn : ∀ W : World, (binOp BinOp.eql 33 (.func (.func 25) #[] #[.pointer (some ⟨w2.heap.size, 0, none⟩), .pointer (some ⟨w2.heap.size + 2, 0, none⟩), .pointer (some ⟨w2.heap.size + 1, 0, none⟩)]) .nilFunc).run Try.prog W = .ok (.bool false) W := fun W => by kernel_rfl
  have HA : Hid (Kp w w3 ∧ IsH w3 B h ∧ Bx1 w3 w.heap.size (.bool false) 4 ∧ Bx1 w3 w1.heap.size (.slice av m cv) 40 ∧ OU w3 (.slice av m cv) (alN (h.ah fr) (min cn 1)) ∧ w3.cell? ⟨w2.heap.size, 0, none⟩ = some (.pointer (some ⟨B, 0, none⟩)) ∧ w3.cell? ⟨w2.heap.size + 1, 0, none⟩ = some (.int .u64 (fr : Nat)) ∧ w3.cell? ⟨w2.heap.size + 2, 0, none⟩ = some (.int .u64 ((18446744073709551615 : Nat) : Int))) := ⟨HK2.out.trans k3, i2.kp k3, k3.heap g6', k3.heap g7, Chg.owns k3 ov2 (fun _ _ e => e), t1, t2, t3⟩
  clear hAll i2 g6' g7 ov2 HK2 k3 s3 t1 t2 t3 hw3
  go_wp2_with fail
  refine wp_loop_ghost_k (fun N a W => ∃ (q : Nat) (bs : List Nat) (u10 u11 u20 u21 u22 u23 u24 u25 u26 u27 u28 u29 u30 u31 u32 u33 u34 u35 u36 u37 u38 u39 u40 u41 u42 u43 u44 : Value), a = { tmps := #[Value.pointer (some { block := B, off := 0 }), Value.pointer (some { block := F, off := 0 }), Value.int IntKind.u64 ↑fr, undef, undef, undef, Value.pointer (some { block := w.heap.size, off := 0 }), Value.pointer (some { block := w1.heap.size, off := 0 }), Value.func (Fn.func 25) #[] #[Value.pointer (some { block := w2.heap.size, off := 0 }), Value.pointer (some { block := w2.heap.size + 2, off := 0 }), Value.pointer (some { block := w2.heap.size + 1, off := 0 })], .int .i64 (q : Nat), u10, u11, Value.pointer (some { block := F, off := 0 }), Value.int IntKind.u64 ↑fr, Value.slice av m cv, Value.pointer (some { block := B, off := 0 }), Value.int IntKind.u64 ↑fr, Value.func (Fn.func 25) #[] #[Value.pointer (some { block := w2.heap.size, off := 0 }), Value.pointer (some { block := w2.heap.size + 2, off := 0 }), Value.pointer (some { block := w2.heap.size + 1, off := 0 })], Value.func (Fn.func 25) #[] #[Value.pointer (some { block := w2.heap.size, off := 0 }), Value.pointer (some { block := w2.heap.size + 2, off := 0 }), Value.pointer (some { block := w2.heap.size + 1, off := 0 })], Value.bool false, u20, u21, u22, u23, u24, u25, u26, u27, u28, u29, u30, u31, u32, u33, u34, u35, u36, u37, u38, u39, u40, u41, u42, u43, u44], defers := bs.map mk1 } ∧ N = 100 - q ∧ q ≤ 100 ∧ Hid (Kp w3 W ∧ Mks w3.heap.size W bs)) 100 ⟨0, [], _, _, _, _, _, _, _, _, _, _, _, _, _, _, _, _, _, _, _, _, _, _, _, _, _, _, _, rfl, rfl, by omega, ⟨Kp.refl w3, Mks.nil _ _⟩⟩ ?_
  rintro N a W ⟨q, bs, u10, u11, u20, u21, u22, u23, u24, u25, u26, u27, u28, u29, u30, u31, u32, u33, u34, u35, u36, u37, u38, u39, u40, u41, u42, u43, u44, rfl, hN, hq, HI⟩ J K hJ hK
  by_cases hlt : q < 100
  · have hltz : (q : Int) < 100 := by omega
    have al := Kp.al W (.cells #[.int .i64 0] 3)
    have g10 : Bx1 (W.alloc (.cells #[.int .i64 0] 3)) W.heap.size (.int .i64 0) 3 := heap_alloc_new W _
    have kW := HI.out.1.trans al
    obtain ⟨a1, a2, a3, a4, a5, a6, a7, a8⟩ := HA.out
    have hseq := all_seq (W.alloc (.cells #[.int .i64 0] 3)) (W.alloc (.cells #[.int .i64 0] 3)).heap.size 1 B w2.heap.size (w2.heap.size + 2) (w2.heap.size + 1) h (aBx.of (a2.kp kW) (kW.cell a6) (Nat.le_refl _)) fr 18446744073709551615 hfr (by omega) (kW.cell a8) (kW.cell a7)
    rw [← HCN.out] at hseq
    have sW : (W.alloc (.cells #[.int .i64 0] 3)).heap.size = W.heap.size + 1 := by simp
    have HB : Hid (Kp W (W.alloc (.cells #[.int .i64 0] 3)) ∧ Bx1 (W.alloc (.cells #[.int .i64 0] 3)) W.heap.size (.int .i64 0) 3 ∧ (W.alloc (.cells #[.int .i64 0] 3)).heap.size = W.heap.size + 1 ∧ Kp w3 (W.alloc (.cells #[.int .i64 0] 3))) := ⟨al, g10, sW, kW⟩
    clear a1 a2 a3 a4 a5 a6 a7 a8 al g10 kW sW
    go_wp2_with fail
    generalize W.alloc (.cells #[.int .i64 0] 3) = W1 at *
    refine (wpIn_wide (n := 3)).1 ?_
    refine range_own (gf := 25) rfl (enters_of Try.func25 (by kernel_rfl) rfl) hseq (fun _ _ => rfl)
      (fun _ k W' => k = 0 ∧ Kp W1 W')
      (fun c W' => c = .exit 2 ∧ 0 < cn ∧ Chg W1 W' (fun i => i = W.heap.size) ∧ Bx1 W' W.heap.size (.int .i64 1) 3) ?_ ?_ ?_ ?_ ?_
      (fun _ k a' W' => a' = { tmps := #[Value.pointer (some { block := B, off := 0 }), Value.pointer (some { block := F, off := 0 }), Value.int IntKind.u64 ↑fr, undef, undef, undef, Value.pointer (some { block := w.heap.size, off := 0 }), Value.pointer (some { block := w1.heap.size, off := 0 }), Value.func (Fn.func 25) #[] #[Value.pointer (some { block := w2.heap.size, off := 0 }), Value.pointer (some { block := w2.heap.size + 2, off := 0 }), Value.pointer (some { block := w2.heap.size + 1, off := 0 })], Value.int IntKind.i64 ↑q, Value.pointer (some { block := W.heap.size, off := 0 }), .int .u64 ((h.ah fr + k : Nat) : Int), Value.pointer (some { block := F, off := 0 }), Value.int IntKind.u64 ↑fr, Value.slice av m cv, Value.pointer (some { block := B, off := 0 }), Value.int IntKind.u64 ↑fr, Value.func (Fn.func 25) #[] #[Value.pointer (some { block := w2.heap.size, off := 0 }), Value.pointer (some { block := w2.heap.size + 2, off := 0 }), Value.pointer (some { block := w2.heap.size + 1, off := 0 })], Value.func (Fn.func 25) #[] #[Value.pointer (some { block := w2.heap.size, off := 0 }), Value.pointer (some { block := w2.heap.size + 2, off := 0 }), Value.pointer (some { block := w2.heap.size + 1, off := 0 })], Value.bool false, Value.int IntKind.i64 ↑q, Value.bool true, u22, u23, Value.func (Fn.func 25) #[] #[Value.pointer (some { block := w2.heap.size, off := 0 }), Value.pointer (some { block := w2.heap.size + 2, off := 0 }), Value.pointer (some { block := w2.heap.size + 1, off := 0 })], .int .u64 ((h.ah fr + k : Nat) : Int), .agg (h.wn (h.ah fr + k)).cs, u27, u28, u29, u30, u31, u32, u33, u34, u35, u36, u37, u38, u39, u40, u41, u42, u43, u44], defers := [] }) ?_ ?assign ?body ?done ?stop
    · rintro _ k A C ⟨h0, hI⟩ hC
      exact ⟨h0, Chg.trans hI hC (fun i hi e => by rcases e with e | e <;> omega)⟩
    · rintro c A C ⟨h0, h1, h2, h3⟩ hC
      have hs := HB.out.2.2.1
      exact ⟨h0, h1, Chg.trans h2 hC (fun i hi e => by rcases e with e | e <;> omega), hC.heap h3 (by rintro (e | e) <;> omega)⟩
    · rintro _ A C D hAC hK2 hx
      exact hK2 (hx.two hAC)
    · rintro _ A C D hK2 hCD hx
      exact (hK2 hx).two hCD
    · intro _ Wa Wb hW hs hG
      exact ⟨⟨rfl, Kp.trans hW hG⟩, hG⟩
    · rintro _ k a' A C h2 hC
      exact h2
    case assign =>
      rintro _ k Wa K' hk hI hs hK'
      unfold aArgs Hr.wn Wn.cs
      clear hI hk
      gi_wp2
      exact hK' _ _ (Chg.refl _ _) rfl
    case body =>
      rintro _ k a' Wa hk ⟨rfl, hI⟩ rfl hs
      obtain ⟨a1, a2, a3, a4, a5, a6, a7, a8⟩ := HA.out
      have hm1 : m = 1 := by have := HM.out; omega
      have kWa : Kp w3 Wa := HB.out.2.2.2.trans hI
      have b10 := hI.heap HB.out.2.1
      obtain ⟨x10, f10⟩ := cellB b10
      have x7 := (cellB (kWa.heap a4)).1
      obtain ⟨g, rfl, xg⟩ : ∃ g, av = some ⟨g, 0, none⟩ ∧ w3.cell? ⟨g, 0, none⟩ = some (.int .u64 ((h.ah fr + 0 : Nat) : Int)) := by
        rcases a5.at with ⟨e, e2⟩ | ⟨g, cap, e, _, hx⟩
        · exfalso
          have := alN_len (h.ah fr) (min cn 1); rw [e2] at this; simp at this; omega
        · have e3 : av = some ⟨g, 0, none⟩ := by simp at e; exact e.1
          refine ⟨g, e3, ?_⟩
          have := hx 0 (by rw [alN_len]; omega)
          rw [alN_at] at this
          exact this
      have xg' := kWa.cell xg
      have HE : Hid (0 < cn ∧ Chg W1 (Wa.setCell ⟨W.heap.size, 0, none⟩ (.int .i64 1)) (fun i => i = W.heap.size) ∧ Bx1 (Wa.setCell ⟨W.heap.size, 0, none⟩ (.int .i64 1)) W.heap.size (.int .i64 1) 3 ∧ ∀ i, Two W1.heap.size i → (Wa.setCell ⟨W.heap.size, 0, none⟩ (.int .i64 1)).heap[i]? = Wa.heap[i]?) := by
        refine ⟨hk, Chg.trans hI.any (set1 Wa _ _) (fun _ _ e => e), heap_setCell_same Wa W.heap.size 0 _ 3 _ b10, fun i hi => ?_⟩
        have := HB.out.2.2.1
        exact heap_setCell_other Wa _ i _ (show i ≠ W.heap.size by rcases hi with e | e <;> omega)
      subst hm1
      clear a1 a2 a3 a4 a5 a6 a7 a8 b10 kWa xg hI hk hs hseq
      simp only [Nat.add_zero] at xg' ⊢
      gi_wp2
      exact ⟨HE.out.2.2.2, rfl, HE.out.1, HE.out.2.1, HE.out.2.2.1⟩
    case done =>
      rintro _ Wd ⟨h0, hI⟩ hD
      have hm0 : m = 0 := by have := HM.out; omega
      subst hm0
      have x10 := (cellB (hI.heap HB.out.2.1)).1
      have x7 := (cellB ((HB.out.2.2.2.trans hI).heap HA.out.2.2.2.1)).1
      have HF : Hid (Kp w3 Wd ∧ Mks w3.heap.size Wd (W1.heap.size :: bs)) := by
        refine ⟨HB.out.2.2.2.trans hI, ?_⟩
        exact ((HI.out.2.kp HB.out.1).kp hI).cons (W := W) HB.out.1.size HI.out.2.lt (Nat.le_trans HB.out.2.2.2.size (Nat.le_refl _)) hD
      clear hseq hI hD
      go_wp2
      exact Handed.intro (100 - (q + 1)) (by omega) (hJ _ _ _ ⟨q + 1, W1.heap.size :: bs, _, _, _, _, _, _, _, _, _, _, _, _, _, _, _, _, _, _, _, _, _, _, _, _, _, _, _, rfl, rfl, by omega, HF⟩)
    case stop =>
      rintro c Wd ⟨rfl, h1, h2, h3⟩ hD
      have hm1 : m = 1 := by have := HM.out; omega
      subst hm1
      have x10 := (cellB h3).1
      have hWs := HI.out.1.size
      have x7 := (cellB (h2.heap (HB.out.2.2.2.heap HA.out.2.2.2.1) (by have := hp_lt HA.out.2.2.2.1; omega))).1
      have HF : Hid (Kp w3 Wd ∧ Mks w3.heap.size Wd (W1.heap.size :: bs)) := by
        refine ⟨HB.out.2.2.2.then h2 (fun i hi e => by omega), ?_⟩
        refine ((HI.out.2.kp HB.out.1).chg h2 (fun k hk d e => ?_)).cons (W := W) HB.out.1.size HI.out.2.lt (Nat.le_trans HB.out.2.2.2.size (Nat.le_refl _)) hD
        rw [hk, HB.out.2.1] at e
        cases e
      clear hseq h2 h3 hD hWs
      refine wpIn_wide.2 ?_
      go_wp2
      exact Handed.intro (100 - (q + 1)) (by omega) (hJ _ _ _ ⟨q + 1, W1.heap.size :: bs, _, _, _, _, _, _, _, _, _, _, _, _, _, _, _, _, _, _, _, _, _, _, _, _, _, _, _, rfl, rfl, by omega, HF⟩)
  · have hltz : ¬ (q : Int) < 100 := by omega
    have b6 := HI.out.1.heap HA.out.2.2.1
    obtain ⟨x6, f6⟩ := cellB b6
    have HF : Hid (Kp w3 W ∧ Mks w3.heap.size W bs ∧ Bx1 W w.heap.size (.bool false) 4) := ⟨HI.out.1, HI.out.2, b6⟩
    clear HI b6
    go_wp2_with fail
    refine leaves_mks (s := w3.heap.size) bs _ (HF.out.2.1.chg (set1 W _ _) (fun k hk d e => by rw [hk, HF.out.2.2] at e; cases e)) (fun W' hc' => ?_)
    have hw3 := HA.out.1.size
    have h6 := hp_lt HA.out.2.2.1
    have g6 : Bx1 (W.setCell ⟨w.heap.size, 0, none⟩ (.bool true)) w.heap.size (.bool true) 4 := heap_setCell_same W w.heap.size 0 _ 4 _ HF.out.2.2
    have g6' := hc'.heap g6 (fun e => by omega)
    refine ⟨_, results_cellB rfl _ _ w.heap.size true rfl (cellB g6').1, rfl, ?_⟩
    refine Chg.trans ((HA.out.1.trans HF.out.1).then (set1 W _ _) (fun i hi e => by omega)) hc' (fun i hi e => by omega)
end Go.Proofs.Ytakddfhcafpceaa
