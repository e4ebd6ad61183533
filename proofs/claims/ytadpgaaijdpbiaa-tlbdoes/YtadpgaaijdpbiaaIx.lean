import Derived.Test.YtadpgaaijdpbiaaKm
import Derived.Laws.StructEq
namespace Go.Proofs.Ytadpgaaijdpbiaa
open Go.ChangeShapes Go.WideShapes Go.ChangeAt Go.RowKit
set_option linter.unusedVariables false

/-- Nothing that was there has changed. -/
abbrev Kp (w w' : World) : Prop := Chg w w' (fun _ => False)
theorem Kp.trans {a b c : World} (h : Kp a b) (k : Kp b c) : Kp a c := Chg.trans h k (fun _ _ x => x)
theorem Kp.cell {w w' : World} (h : Kp w w') {p : Addr} {v : Value} (hc : w.cell? p = some v) : w'.cell? p = some v := by
  obtain ⟨b, o, s⟩ := p
  have hs : s = none := World.cell?_spot hc
  subst hs
  have hb : b < w.heap.size := by
    rcases Nat.lt_or_ge b w.heap.size with h | h
    · exact h
    · exfalso
      have : w.heap[b]? = none := Array.getElem?_eq_none h
      simp [World.cell?, this] at hc
  rw [Chg.cell h hb (fun x => x)]
  exact hc
theorem cells_at {w : World} {B : Nat} {cs : Array Value} {e : TypeId} (h : w.heap[B]? = some (.cells cs e (0, 0))) (i : Nat) : w.cell? ⟨B, i, none⟩ = cs[i]? ∧ w.frozen? ⟨B, i, none⟩ = false :=
  ⟨cell_of_row w B i cs e (0, 0) h, frozen_of_row w B i cs e h⟩
theorem box2 {w V : World} {p : Nat} {a b : Value} {T : TypeId} (h : w.heap[p]? = some (.cells #[a, b] T (0, 0))) (x y : Value) (hV : V = ((w.setCell ⟨p, 0, none⟩ x).setCell ⟨p, 1, none⟩ y)) :
    V.heap[p]? = some (.cells #[x, y] T (0, 0)) ∧ V.heap.size = w.heap.size ∧ Chg w V (fun k => k = p) := by
  subst hV
  have h1 := heap_setCell_same w p 0 _ T x h
  have h2 := heap_setCell_same _ p 1 _ T y h1
  refine ⟨h2, by simp [World.setCell], ?_⟩
  exact Chg.setCell (S := fun k => k = p) (Chg.setCell (S := fun k => k = p) (Chg.refl w _) (.inl rfl) _) (.inl rfl) _
theorem cells2 {w : World} {p : Nat} {a b : Value} {T : TypeId} (h : w.heap[p]? = some (.cells #[a, b] T (0, 0))) :
    w.cell? ⟨p, 0, none⟩ = some a ∧ w.cell? ⟨p, 1, none⟩ = some b ∧ w.frozen? ⟨p, 0, none⟩ = false ∧ w.frozen? ⟨p, 1, none⟩ = false :=
  ⟨by rw [(cells_at h _).1]; rfl, by rw [(cells_at h _).1]; rfl, (cells_at h _).2, (cells_at h _).2⟩
theorem cells3 {w : World} {p : Nat} {a b c : Value} {T : TypeId} (h : w.heap[p]? = some (.cells #[a, b, c] T (0, 0))) :
    w.cell? ⟨p, 0, none⟩ = some a ∧ w.cell? ⟨p, 1, none⟩ = some b ∧ w.cell? ⟨p, 2, none⟩ = some c ∧ w.frozen? ⟨p, 0, none⟩ = false ∧ w.frozen? ⟨p, 1, none⟩ = false ∧ w.frozen? ⟨p, 2, none⟩ = false :=
  ⟨by rw [(cells_at h _).1]; rfl, by rw [(cells_at h _).1]; rfl, by rw [(cells_at h _).1]; rfl, (cells_at h _).2, (cells_at h _).2, (cells_at h _).2⟩
theorem of_leaf {G X : Prop} (h : G) (k : G → X) : X := k h
theorem al_old {w : World} (o : Obj) {k : Nat} {x : Obj} (h : w.heap[k]? = some x) : (w.alloc o).heap[k]? = some x := ((Chg.refl w (fun _ => False)).alloc o).heap h (fun h => h)
theorem al_size (w : World) (o : Obj) : (w.alloc o).heap.size = w.heap.size + 1 := by simp

theorem fields31 : Try.prog.underlying 31 = some (.struct (Try.prog.fieldsOf 31)) := by simp [Program.fieldsOf, Try.underlying31]
theorem stood31 : Try.prog.stoodInHeld 31 = false := by kernel_rfl
/-- Two tags held against each other. -/
theorem eql31 (a x b y : Int) (w : World) : (binOp BinOp.eql 31 (.agg #[.int .i64 a, .int .u32 b]) (.agg #[.int .i64 x, .int .u32 y])).run Try.prog w = .ok (.bool (decide (a = x ∧ b = y))) w := by
  rw [run_eql_struct, run_equalIn_agg w 9999 31 _ _ fields31 stood31]
  simp [Program.fieldsOf, Try.underlying31, go_sem]
  by_cases h1 : a = x <;> by_cases h2 : b = y <;> simp [h1, h2]
theorem neq31 (a x b y : Int) (w : World) : (binOp BinOp.neq 31 (.agg #[.int .i64 a, .int .u32 b]) (.agg #[.int .i64 x, .int .u32 y])).run Try.prog w = .ok (.bool (!decide (a = x ∧ b = y))) w := by
  rw [run_neq_struct, run_equalIn_agg w 9999 31 _ _ fields31 stood31]
  simp [Program.fieldsOf, Try.underlying31, go_sem]
  by_cases h1 : a = x <;> by_cases h2 : b = y <;> simp [h1, h2]
theorem tag_eq (s t : Tg) : decide (s.1 = t.1 ∧ ((s.2 : Nat) : Int) = ((t.2 : Nat) : Int)) = decide (s = t) := by
  have : (s.1 = t.1 ∧ ((s.2 : Nat) : Int) = ((t.2 : Nat) : Int)) ↔ s = t := ⟨fun h => Prod.ext h.1 (by omega), fun h => by rw [h]; exact ⟨rfl, rfl⟩⟩
  simp [this]

/-- The order's row. -/
abbrev OR (w : World) (v : Value) (l : List Tg) : Prop := w.ownsRow 0 31 2 v l.length (tcs l)
theorem OR.cells {w : World} {g cap : Nat} {l : List Tg} {n : Nat} (h : OR w (.slice (some ⟨g, 0, none⟩) n cap) l) (i : Nat) (hi : i < l.length) : w.cell? ⟨g, i * 2, none⟩ = some (.int .i64 (l[i]).1) ∧ w.cell? ⟨g, i * 2 + 1, none⟩ = some (.int .u32 (((l[i]).2 : Nat) : Int)) := by
  rcases h.2 with ⟨h1, _⟩ | ⟨g', cap', cur, h1, _, hg, hc, _, hs, ht⟩
  · cases h1
  · cases h1
    obtain ⟨t1, t2⟩ := tcs_get l i hi
    rw [← ht, List.getElem?_take_of_lt (by omega)] at t1 t2
    exact ⟨by rw [(cells_at hg _).1, ← t1, Array.getElem?_toList], by rw [(cells_at hg _).1, ← t2, Array.getElem?_toList]⟩
theorem OR.lt {w : World} {v : Value} {l : List Tg} (h : OR w v l) {g : Nat} (hg : v.ownBlock = some g) : g < w.heap.size := by
  rcases h.2 with ⟨rfl, _⟩ | ⟨g', cap', cur, rfl, _, hg', _⟩
  · cases hg
  · cases hg
    exact (Array.getElem?_eq_some_iff.1 hg').1

/-- Where a tag stands in a list. -/
def ixOf (t : Tg) (l : List Tg) : Int := if t ∈ l then ((l.idxOf t : Nat) : Int) else -1
theorem ixOf_spec (t : Tg) (l : List Tg) : (ixOf t l = -1 ∧ t ∉ l) ∨ ∃ k, ∃ hk : k < l.length, ixOf t l = (k : Int) ∧ l[k] = t ∧ (∀ j (hj : j < k), l[j]'(Nat.lt_trans hj hk) ≠ t) ∧ k = l.idxOf t := by
  unfold ixOf
  by_cases hm : t ∈ l
  · right
    rw [if_pos hm]
    refine ⟨l.idxOf t, List.idxOf_lt_length_iff.2 hm, rfl, List.getElem_idxOf _, fun j hj => ?_, rfl⟩
    have := List.not_of_lt_findIdx (p := fun x => x == t) (xs := l) (i := j) (by simpa [List.idxOf] using hj)
    simpa using this
  · left
    rw [if_neg hm]
    exact ⟨rfl, hm⟩

set_option maxRecDepth 10000 in
theorem Index_any (w : World) (v : Value) (l : List Tg) (t : Tg) (ho : OR w v l) (h64 : l.length ≤ 1000000) :
    Calls Try.prog 48 #[v, tV t] w fun e w' => e = .returned (.int .i64 (ixOf t l)) ∧ Kp w w' := by
  obtain ⟨tc, tp⟩ := t
  have hbx := heap_alloc_new w (.cells #[.int .i64 tc, .int .u32 ((tp : Nat) : Int)] 31)
  have hk0 : Kp w (w.alloc (.cells #[.int .i64 tc, .int .u32 ((tp : Nat) : Int)] 31)) := (Chg.refl w _).alloc _
  rcases ho.2 with ⟨rfl, h0⟩ | ⟨g, cap, cur, rfl, hrest⟩
  · have hl : l = [] := List.eq_nil_of_length_eq_zero h0
    subst hl
    unfold tV
    go_enter Try.func48, Try.ntmps48
    go_wp2
    refine wp_loop_rounds 1 ?_
    rw [rounds_succ]
    go_wp2
    go_ret
    exact ⟨rfl, hk0⟩
  · have hcell := fun i hi => OR.cells ho i hi
    rcases ixOf_spec (tc, tp) l with ⟨he, hn⟩ | ⟨k, hk, he, hlk, hnk, hke⟩
    · rw [he]
      obtain ⟨n, hl⟩ : ∃ n, n = l.length := ⟨_, rfl⟩
      rw [← hl] at h64 ⊢
      obtain ⟨b, hb⟩ : ∃ b, b = w.heap.size := ⟨_, rfl⟩
      have HL : Hid (n = l.length ∧ (∀ i (hi : i < l.length), w.cell? ⟨g, i * 2, none⟩ = some (.int .i64 (l[i]).1) ∧ w.cell? ⟨g, i * 2 + 1, none⟩ = some (.int .u32 (((l[i]).2 : Nat) : Int))) ∧ (tc, tp) ∉ l ∧ (w.alloc (.cells #[.int .i64 tc, .int .u32 ((tp : Nat) : Int)] 31)).heap[w.heap.size]? = some (.cells #[.int .i64 tc, .int .u32 ((tp : Nat) : Int)] 31 (0, 0))) := ⟨hl, hcell, hn, hbx⟩
      clear hl hcell hn hbx hrest he ho hb b
      unfold tV
      go_enter Try.func48, Try.ntmps48
      go_wp2
      go_loopw [5, 8] (fun _ i wr => ∃ j : Nat, j ≤ n ∧ i = .int .i64 j ∧ Kp (w.alloc (.cells #[.int .i64 tc, .int .u32 ((tp : Nat) : Int)] 31)) wr) (fun _ i _ => n - (intOf i).toNat)
      case atStart => exact ⟨0, by omega, rfl, Chg.refl _ _⟩
      case round =>
        obtain ⟨j, hj, rfl, hk⟩ := hrel
        obtain ⟨l1, l2, l3, l4⟩ := HL.out
        obtain ⟨b0, b1, _, _⟩ := cells2 (Chg.heap hk l4 (fun h => h))
        by_cases hjn : j < n
        · have hja : j < l.length := by omega
          obtain ⟨c0, c1⟩ := l2 j hja
          have c0 := Kp.cell (Kp.trans hk0 hk) c0
          have c1 := Kp.cell (Kp.trans hk0 hk) c1
          have hne : decide ((tc, tp) = l[j]) = false := decide_eq_false (fun e => l3 (by rw [e]; exact List.getElem_mem hja))
          rw [← tag_eq] at hne
          have heq : ∀ W, (binOp BinOp.eql 31 (.agg #[.int .i64 tc, .int .u32 ((tp : Nat) : Int)]) (.agg #[.int .i64 (l[j]).1, .int .u32 (((l[j]).2 : Nat) : Int)])).run Try.prog W = .ok (.bool false) W := fun W => by rw [eql31, ← hne]
          have HK : Hid (Kp (w.alloc (.cells #[.int .i64 tc, .int .u32 ((tp : Nat) : Int)] 31)) wr) := hk
          clear l2 l3 l4 hne hk
          generalize (l[j]).1 = xa at *
          generalize (((l[j]).2 : Nat) : Int) = xb at *
          have hjz : (j : Int) < (n : Int) := by omega
          go_wp2_with fail
          go_quiet (fail)
          go_wp2
          exact ⟨⟨j + 1, by omega, by go_num, HK.out.drewN _⟩, by simp [intOf]; omega⟩
        · have hk' : Hid (Kp w wr) := Kp.trans hk0 hk
          clear l2 l3 l4 hk
          have hjz : ¬ (j : Int) < (n : Int) := by omega
          go_wp2
          go_ret
          exact ⟨rfl, hk'.out⟩
    · rw [he]
      obtain ⟨n, hl⟩ : ∃ n, n = l.length := ⟨_, rfl⟩
      have hkn : k < n := by omega
      have HL : Hid (n = l.length ∧ (∀ i (hi : i < l.length), w.cell? ⟨g, i * 2, none⟩ = some (.int .i64 (l[i]).1) ∧ w.cell? ⟨g, i * 2 + 1, none⟩ = some (.int .u32 (((l[i]).2 : Nat) : Int))) ∧ (l[k] = (tc, tp) ∧ ∀ j (hj : j < k), l[j]'(Nat.lt_trans hj hk) ≠ (tc, tp)) ∧ (w.alloc (.cells #[.int .i64 tc, .int .u32 ((tp : Nat) : Int)] 31)).heap[w.heap.size]? = some (.cells #[.int .i64 tc, .int .u32 ((tp : Nat) : Int)] 31 (0, 0))) := ⟨hl, hcell, ⟨hlk, hnk⟩, hbx⟩
      rw [← hl] at h64 ⊢
      clear hcell hlk hnk hbx hrest he ho hke hl
      unfold tV
      go_enter Try.func48, Try.ntmps48
      go_wp2
      go_loopw [5, 8] (fun _ i wr => ∃ j : Nat, j ≤ k ∧ i = .int .i64 j ∧ Kp (w.alloc (.cells #[.int .i64 tc, .int .u32 ((tp : Nat) : Int)] 31)) wr) (fun _ i _ => n - (intOf i).toNat)
      case atStart => exact ⟨0, by omega, rfl, Chg.refl _ _⟩
      case round =>
        obtain ⟨j, hj, rfl, hkw⟩ := hrel
        obtain ⟨l1, l2, l3, l4⟩ := HL.out
        obtain ⟨b0, b1, _, _⟩ := cells2 (Chg.heap hkw l4 (fun h => h))
        have hja : j < l.length := by omega
        obtain ⟨c0, c1⟩ := l2 j hja
        have c0 := Kp.cell (Kp.trans hk0 hkw) c0
        have c1 := Kp.cell (Kp.trans hk0 hkw) c1
        have heq : ∀ W, (binOp BinOp.eql 31 (.agg #[.int .i64 tc, .int .u32 ((tp : Nat) : Int)]) (.agg #[.int .i64 (l[j]).1, .int .u32 (((l[j]).2 : Nat) : Int)])).run Try.prog W = .ok (.bool (decide ((tc, tp) = l[j]))) W := fun W => by rw [eql31, ← tag_eq]
        have HK : Hid (Kp (w.alloc (.cells #[.int .i64 tc, .int .u32 ((tp : Nat) : Int)] 31)) wr) := hkw
        have hjz : (j : Int) < (n : Int) := by omega
        by_cases hjk : j = k
        · subst hjk
          rw [show decide ((tc, tp) = l[j]) = true from decide_eq_true l3.1.symm] at heq
          have hk' : Hid (Kp w wr) := Kp.trans hk0 hkw
          clear l2 l3 l4 hkw HK
          generalize (l[j]).1 = xa at *
          generalize (((l[j]).2 : Nat) : Int) = xb at *
          go_wp2_with fail
          go_quiet (fail)
          go_wp2
          go_ret
          exact ⟨rfl, hk'.out.drewN _⟩
        · rw [show decide ((tc, tp) = l[j]) = false from decide_eq_false (fun e => l3.2 j (by omega) e.symm)] at heq
          clear l2 l3 l4 hkw
          generalize (l[j]).1 = xa at *
          generalize (((l[j]).2 : Nat) : Int) = xb at *
          go_wp2_with fail
          go_quiet (fail)
          go_wp2
          exact ⟨⟨j + 1, by omega, by go_num, HK.out.drewN _⟩, by simp [intOf]; omega⟩
end Go.Proofs.Ytadpgaaijdpbiaa
