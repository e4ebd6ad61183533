import Derived.Test.YtadpgaaijdpbiaaTt
namespace Go.Proofs.Ytadpgaaijdpbiaa
open Go.ChangeShapes Go.WideShapes Go.ChangeAt Go.RowKit Go.Shelf
set_option linter.unusedVariables false

/-- Numbers that can be read. -/
structure IntsIn (w : World) (a : Option Addr) (len : Nat) (Z : Nat → Int) : Prop where
  src : len = 0 ∨ ∃ b off, a = some ⟨b, off, none⟩ ∧ b < w.heap.size ∧ ∀ i, i < len → w.cell? ⟨b, off + i, none⟩ = some (.int .i64 (Z i))
  le : len ≤ 17592186043904
theorem IntsIn.kept {w w' : World} {a : Option Addr} {len : Nat} {Z : Nat → Int} {S : Nat → Prop} (h : IntsIn w a len Z) (hc : Chg w w' S) (hS : ∀ x : Addr, a = some x → ¬ S x.block) : IntsIn w' a len Z := by
  refine ⟨h.src.imp_right ?_, h.le⟩
  rintro ⟨b, off, rfl, hb, hh⟩
  exact ⟨b, off, rfl, Nat.lt_of_lt_of_le hb hc.size, fun i hi => (hc.cell hb (hS _ rfl)).trans (hh i hi)⟩
def hasInt (Z : Nat → Int) (len : Nat) (c : Int) : Bool := (List.range len).any (fun i => decide (Z i = c))
theorem hasInt_true {Z : Nat → Int} {len : Nat} {c : Int} : hasInt Z len c = true ↔ ∃ i, i < len ∧ Z i = c := by
  simp [hasInt]
theorem hasInt_false {Z : Nat → Int} {len : Nat} {c : Int} : hasInt Z len c = false ↔ ∀ i, i < len → Z i ≠ c := by
  simp [hasInt]

set_option maxRecDepth 10000 in
theorem IndexInt_any (w : World) (a : Option Addr) (len cap : Nat) (Z : Nat → Int) (h : IntsIn w a len Z) (c : Int) :
    Calls Try.prog 52 #[.slice a len cap, .int .i64 c] w fun e w' => (∃ r : Int, e = .returned (.int .i64 r) ∧ decide (r ≥ 0) = hasInt Z len c) ∧ w' = w := by
  have HF : Hid (∀ i, (∀ j, j < i → Z j ≠ c) → i < len → Z i = c → hasInt Z len c = true) := fun i _ hi e => hasInt_true.2 ⟨i, hi, e⟩
  have HG : Hid ((∀ j, j < len → Z j ≠ c) → hasInt Z len c = false) := fun h => hasInt_false.2 h
  have hle := h.le
  have HH : Hid (IntsIn w a len Z) := h
  clear h
  generalize hasInt Z len c = r at *
  go_enter Try.func52, Try.ntmps52
  go_wp2
  go_loopw [5, 8] (fun _ i wr => ∃ j : Nat, j ≤ len ∧ i = .int .i64 j ∧ wr = w ∧ Hid (∀ q, q < j → Z q ≠ c)) (fun _ i _ => len - (intOf i).toNat)
  case atStart => exact ⟨0, by omega, rfl, rfl, fun q hq => by omega⟩
  case round =>
    obtain ⟨j, hj, rfl, rfl, HN⟩ := hrel
    by_cases hlt : j < len
    · have hltz : (j : Int) < (len : Int) := by omega
      obtain ⟨b, off, rfl, _, hh⟩ := HH.out.src.resolve_left (by omega)
      have c0 := hh j hlt
      clear hh
      by_cases he : Z j = c
      · have hr := HF.out j HN.out hlt he
        rw [he] at c0
        go_wp2
        go_ret
        exact ⟨⟨_, rfl, by first | (rw [hr]; simp) | simp⟩, rfl⟩
      · have HN' : Hid (∀ q, q < j + 1 → Z q ≠ c) := fun q hq => by
          rcases Nat.lt_or_ge q j with h1 | h1
          · exact HN.out q h1
          · have : q = j := by omega
            subst this; exact he
        have hne : (c == Z j) = false := by simp; exact fun e => he e.symm
        clear he
        generalize Z j = z at *
        go_wp2
        exact ⟨⟨j + 1, by omega, by go_num, by first | rfl | trivial, HN'⟩, by simp [intOf]; omega⟩
    · have hltz : ¬ (j : Int) < (len : Int) := by omega
      have hr := HG.out (fun q hq => HN.out q (by omega))
      go_wp2
      go_ret
      exact ⟨⟨_, rfl, by first | (rw [hr]; simp) | simp⟩, rfl⟩
theorem ContainsInt_any (w : World) (a : Option Addr) (len cap : Nat) (Z : Nat → Int) (h : IntsIn w a len Z) (c : Int) :
    Calls Try.prog 35 #[.slice a len cap, .int .i64 c] w fun e w' => e = .returned (.bool (hasInt Z len c)) ∧ w' = w := by
  have hI := IndexInt_any w a len cap Z h c
  clear h
  generalize hasInt Z len c = r at *
  go_enter Try.func35, Try.ntmps35
  go_wp2_with (go_at_call 52; refine hI.mono ?_; rintro e w' ⟨⟨q, rfl, hq⟩, rfl⟩)
  go_ret
  exact ⟨by rw [← hq]; rfl, rfl⟩

def ofCells (Z : Nat → Int) (len : Nat) (t : Tg) : Bool := hasInt Z len t.1
theorem goesCells (w : World) (S : Nat → Prop) (b : Nat) (a : Option Addr) (len cap : Nat) (Z : Nat → Int) (h : IntsIn w a len Z) (hb : w.heap[b]? = some (.cells #[.slice a len cap] 61 (0, 0))) (hS : ¬ S b) (ha : ∀ x : Addr, a = some x → ¬ S x.block) :
    Goes w S 34 #[.pointer (some ⟨b, 0, none⟩)] (ofCells Z len) := by
  refine ⟨enters_of Try.func34 (by kernel_rfl) rfl, fun W t ht hC => ?_⟩
  have hk : Kp W (W.alloc (.cells #[.int .i64 t.1, .int .u32 ((t.2 : Nat) : Int)] 31)) := (Chg.refl W _).alloc _
  have hI := ContainsInt_any (W.alloc (.cells #[.int .i64 t.1, .int .u32 ((t.2 : Nat) : Int)] 31)) a len cap Z ((h.kept hC ha).kept (S := fun _ => False) hk (fun _ _ h => h)) t.1
  have hb' := al_old (.cells #[.int .i64 t.1, .int .u32 ((t.2 : Nat) : Int)] 31) (Chg.heap hC hb hS)
  have c0 : (W.alloc (.cells #[.int .i64 t.1, .int .u32 ((t.2 : Nat) : Int)] 31)).cell? ⟨b, 0, none⟩ = some (.slice a len cap) := by rw [(cells_at hb' _).1]; rfl
  have e : ofCells Z len t = hasInt Z len t.1 := rfl
  rw [e]
  generalize hasInt Z len t.1 = r at *
  unfold tV
  show Calls Try.prog 34 #[.agg #[.int .i64 t.1, .int .u32 ((t.2 : Nat) : Int)], .pointer (some ⟨b, 0, none⟩)] W _
  clear hb hC hb' h ha e
  go_enter Try.func34, Try.ntmps34
  go_wp2_with (go_at_call 35; refine hI.mono ?_; rintro e w' ⟨rfl, rfl⟩)
  go_ret
  exact ⟨rfl, hk⟩
theorem goesAll (w : World) (S : Nat → Prop) : Goes w S 33 #[] (fun _ => true) := by
  refine ⟨enters_of Try.func33 (by kernel_rfl) rfl, fun W t ht hC => ?_⟩
  have hk : Kp W (W.alloc (.cells #[.int .i64 t.1, .int .u32 ((t.2 : Nat) : Int)] 31)) := (Chg.refl W _).alloc _
  unfold tV
  show Calls Try.prog 33 #[.agg #[.int .i64 t.1, .int .u32 ((t.2 : Nat) : Int)]] W _
  go_enter Try.func33, Try.ntmps33
  go_wp2
  go_ret
  exact ⟨rfl, hk⟩

theorem Flush_any (w : World) (B M : Nat) (v : Value) (n k : Nat) (s : Sta) (hT : IsT w B M v n k s) :
    Calls Try.prog 16 #[.pointer (some ⟨B, 0, none⟩)] w fun e w' => e = .returned (.int .i64 (((s.l.length : Nat) : Int) - (((s.drop (fun _ => true)).l.length : Nat) : Int))) ∧ ∃ v', IsT w' B M v' n k (s.drop (fun _ => true)) ∧ v'.ownBlock = v.ownBlock ∧ Chg w w' (Ft B M v) := by
  have hF := forget_any w B M v n k s (fun _ => true) 33 #[] hT (goesAll w _)
  generalize ((s.l.length : Nat) : Int) - (((s.drop (fun _ => true)).l.length : Nat) : Int) = r at *
  clear hT
  go_enter Try.func16, Try.ntmps16
  go_wp2_with (go_at_call 32; refine hF.mono ?_; rintro e w2 ⟨rfl, v', h1, h2, h3⟩)
  go_ret
  exact ⟨rfl, v', h1, h2, h3⟩
set_option maxRecDepth 10000 in
theorem FlushCell_any (w : World) (B M : Nat) (v : Value) (n k : Nat) (s : Sta) (hT : IsT w B M v n k s) (a : Option Addr) (len cap : Nat) (Z : Nat → Int) (h : IntsIn w a len Z) (ha : ∀ x : Addr, a = some x → ¬ Ft B M v x.block) :
    Calls Try.prog 17 #[.pointer (some ⟨B, 0, none⟩), .slice a len cap] w fun e w' => e = .returned (.int .i64 (((s.l.length : Nat) : Int) - (((s.drop (ofCells Z len)).l.length : Nat) : Int))) ∧ ∃ v', IsT w' B M v' n k (s.drop (ofCells Z len)) ∧ v'.ownBlock = v.ownBlock ∧ Chg w w' (Ft B M v) := by
  have hk : Kp w (w.alloc (.cells #[.slice a len cap] 61)) := (Chg.refl w _).alloc _
  have hF := forget_any _ B M v n k s (ofCells Z len) 34 #[.pointer (some ⟨w.heap.size, 0, none⟩)] (hT.kp hk) (goesCells _ _ w.heap.size a len cap Z (h.kept (S := fun _ => False) hk (fun _ _ h => h)) (heap_alloc_new w _) (fun h => Nat.lt_irrefl _ (hT.lt h)) ha)
  generalize ((s.l.length : Nat) : Int) - (((s.drop (ofCells Z len)).l.length : Nat) : Int) = r at *
  have HK : Hid (Kp w (w.alloc (.cells #[.slice a len cap] 61))) := hk
  clear hk hT h ha
  go_enter Try.func17, Try.ntmps17
  go_wp2_with (go_at_call 32; refine hF.mono ?_; rintro e w2 ⟨rfl, v', h1, h2, h3⟩)
  go_ret
  exact ⟨rfl, v', h1, h2, (HK.out.mono (fun _ _ h => h.elim)).trans h3 (fun _ _ h => h)⟩
end Go.Proofs.Ytadpgaaijdpbiaa
namespace Go.Proofs.Ytadpgaaijdpbiaa
open Go.ChangeShapes Go.WideShapes Go.ChangeAt Go.RowKit Go.Shelf
set_option linter.unusedVariables false

abbrev Sl4 := Tg × Mp
/-- Slots as cells. -/
def scs : List Sl4 → List Value
  | [] => []
  | x :: r => .int .i64 x.1.1 :: .int .u32 ((x.1.2 : Nat) : Int) :: .int .u32 ((x.2.1 : Nat) : Int) :: .int .u8 ((x.2.2 : Nat) : Int) :: scs r
theorem scs_len : ∀ l, (scs l).length = l.length * 4
  | [] => rfl
  | x :: r => by simp [scs, scs_len r]; omega
theorem scs_one : ∀ l, ∀ v ∈ scs l, v.oneCell' = true
  | [], v, h => by cases h
  | x :: r, v, h => by
    simp only [scs, List.mem_cons] at h
    rcases h with rfl | rfl | rfl | rfl | h
    · rfl
    · rfl
    · rfl
    · rfl
    · exact scs_one r v h
theorem scs_app : ∀ a b, scs (a ++ b) = scs a ++ scs b
  | [], b => rfl
  | x :: r, b => by simp [scs, scs_app r b]
theorem scs_get : ∀ (l : List Sl4) (i : Nat) (h : i < l.length), (scs l)[i * 4]? = some (.int .i64 (l[i]).1.1) ∧ (scs l)[i * 4 + 1]? = some (.int .u32 (((l[i]).1.2 : Nat) : Int)) ∧ (scs l)[i * 4 + 2]? = some (.int .u32 (((l[i]).2.1 : Nat) : Int)) ∧ (scs l)[i * 4 + 3]? = some (.int .u8 (((l[i]).2.2 : Nat) : Int))
  | x :: r, 0, h => ⟨rfl, rfl, rfl, rfl⟩
  | x :: r, i + 1, h => by
    have := scs_get r i (by simpa using h)
    have e1 : (i + 1) * 4 = i * 4 + 1 + 1 + 1 + 1 := by omega
    rw [e1]
    simpa [scs] using this
theorem scs_take (l : List Sl4) (k : Nat) : scs (l.take k) = (scs l).take (k * 4) := by
  induction l generalizing k with
  | nil => simp [scs]
  | cons x r ih =>
    cases k with
    | zero => simp [scs]
    | succ k => rw [show (k + 1) * 4 = k * 4 + 1 + 1 + 1 + 1 by omega]; simp [scs, ih k]
/-- All slots, from the one used last on. -/
def Sta.slots (s : Sta) : List Sl4 := s.l.map (fun t => (t, (s.f t).getD m0))
theorem Sta.slots_len (s : Sta) : s.slots.length = s.l.length := by simp [Sta.slots]
theorem Sta.slots_get (s : Sta) (i : Nat) (h : i < s.l.length) : s.slots[i]'(by rw [s.slots_len]; exact h) = (s.l[i], (s.f s.l[i]).getD m0) := by simp [Sta.slots]
/-- A row of slots. -/
abbrev SR (w : World) (v : Value) (l : List Sl4) : Prop := w.ownsRow 0 58 4 v l.length (scs l)
theorem SR.cells {w : World} {g cap : Nat} {l : List Sl4} {n : Nat} (h : SR w (.slice (some ⟨g, 0, none⟩) n cap) l) (i : Nat) (hi : i < l.length) : w.cell? ⟨g, i * 4, none⟩ = some (.int .i64 (l[i]).1.1) ∧ w.cell? ⟨g, i * 4 + 1, none⟩ = some (.int .u32 (((l[i]).1.2 : Nat) : Int)) ∧ w.cell? ⟨g, i * 4 + 2, none⟩ = some (.int .u32 (((l[i]).2.1 : Nat) : Int)) ∧ w.cell? ⟨g, i * 4 + 3, none⟩ = some (.int .u8 (((l[i]).2.2 : Nat) : Int)) := by
  rcases h.2 with ⟨h1, _⟩ | ⟨g', cap', cur, h1, _, hg, hc, _, hs, ht⟩
  · cases h1
  · cases h1
    obtain ⟨t1, t2, t3, t4⟩ := scs_get l i hi
    rw [← ht, List.getElem?_take_of_lt (by omega)] at t1 t2 t3 t4
    exact ⟨by rw [(cells_at hg _).1, ← t1, Array.getElem?_toList], by rw [(cells_at hg _).1, ← t2, Array.getElem?_toList], by rw [(cells_at hg _).1, ← t3, Array.getElem?_toList], by rw [(cells_at hg _).1, ← t4, Array.getElem?_toList]⟩
theorem SR.form {w : World} {v : Value} {l : List Sl4} (h : SR w v l) : ∃ va vc, v = .slice va l.length vc := by
  rcases h.2 with ⟨h, h0⟩ | ⟨g, cap, cur, h, _⟩
  · exact ⟨none, 0, by rw [h, h0]⟩
  · exact ⟨_, _, h⟩
theorem SR.row {w : World} {v : Value} {l : List Sl4} (h : SR w v l) {g : Nat} (hg : v.ownBlock = some g) : ∃ cur, w.heap[g]? = some (.cells cur 58 (0, 0)) := by
  rcases h.2 with ⟨rfl, _⟩ | ⟨g', cap', cur, rfl, _, hg', _⟩
  · cases hg
  · cases hg
    exact ⟨cur, hg'⟩
theorem SR.lt {w : World} {v : Value} {l : List Sl4} (h : SR w v l) {g : Nat} (hg : v.ownBlock = some g) : g < w.heap.size := by
  obtain ⟨cur, hc⟩ := h.row hg
  exact (Array.getElem?_eq_some_iff.1 hc).1
theorem info58 : ∃ i z, Try.prog.info? 58 = some i ∧ i.zero = some z ∧ i.size = 4 ∧ i.bytes = 24 ∧ z.cells.size = 4 := by
  cases h : Try.prog.info? 58 with
  | none => have : (Try.prog.info? 58).isSome = true := by kernel_rfl
            rw [h] at this; cases this
  | some i =>
    have h1 : (Try.prog.info? 58).map (·.size) = some 4 := by kernel_rfl
    rw [h] at h1
    have h2 : (Try.prog.info? 58).map (·.bytes) = some 24 := by kernel_rfl
    rw [h] at h2
    have h3 : ((Try.prog.info? 58).bind (·.zero)).map (·.cells.size) = some 4 := by kernel_rfl
    rw [h] at h3
    simp only [Option.bind_some] at h3
    cases hz : i.zero with
    | none => rw [hz] at h3; cases h3
    | some z =>
      rw [hz] at h3
      simp at h1 h2 h3
      exact ⟨i, z, rfl, hz, h1, h2, h3⟩

/-- What the copy of a slot reads. -/
def Sk (B b5 M : Nat) (t : Tg) (m : Mp) (wx : World) : Prop := wx.cell? ⟨B, 1, none⟩ = some (.map (some M)) ∧ wx.cell? ⟨b5, 0, none⟩ = some (.int .i64 t.1) ∧ wx.cell? ⟨b5, 1, none⟩ = some (.int .u32 ((t.2 : Nat) : Int)) ∧
  (Instr.lookup 82 (.map (some M)) (.agg #[.int .i64 t.1, .int .u32 ((t.2 : Nat) : Int)]) false).run Try.prog wx = .ok (.agg #[.int .u32 ((m.1 : Nat) : Int), .int .u8 ((m.2 : Nat) : Int)]) wx
abbrev st4 (W : World) (g o : Nat) (x : Sl4) : World := (((W.setCell ⟨g, o, none⟩ (.int .i64 x.1.1)).setCell ⟨g, o + 1, none⟩ (.int .u32 ((x.1.2 : Nat) : Int))).setCell ⟨g, o + 2, none⟩ (.int .u32 ((x.2.1 : Nat) : Int))).setCell ⟨g, o + 3, none⟩ (.int .u8 ((x.2.2 : Nat) : Int))

def ops38_5 : Array Oper := #[
  { dst := some 22, op := Op.move (Operand.tmp 3), type := 55, pos := "all.go:24", after := #[], guard := none },
  { dst := some 23, op := Op.move (Operand.tmp 4), type := 3, pos := "all.go:24", after := #[], guard := none },
  { dst := some 24, op := Op.load 31 (Operand.tmp 5), type := 31, pos := "all.go:24", after := #[], guard := none },
  { dst := some 25, op := Op.move (Operand.tmp 0), type := 26, pos := "all.go:24", after := #[], guard := none },
  { dst := some 26, op := Op.nilCheck (Operand.tmp 25), type := 0, pos := "all.go:24", after := #[{ on := 3, ground := Ground.data }], guard := none },
  { dst := some 27, op := Op.fieldAddr 85 (Operand.tmp 26) 1, type := 0, pos := "all.go:24", after := #[{ on := 4, ground := Ground.data }], guard := none },
  { dst := some 28, op := Op.load 82 (Operand.tmp 27), type := 82, pos := "all.go:24", after := #[{ on := 5, ground := Ground.data }], guard := none },
  { dst := some 29, op := Op.load 31 (Operand.tmp 5), type := 31, pos := "all.go:24", after := #[], guard := none },
  { dst := some 30, op := Op.lookup 82 (Operand.tmp 28) (Operand.tmp 29) false, type := 36, pos := "all.go:24", after := #[{ on := 6, ground := Ground.data }, { on := 7, ground := Ground.data }], guard := none },
  { dst := some 31, op := Op.build 58 #[(0, Operand.tmp 24), (1, Operand.tmp 30)], type := 58, pos := "all.go:24", after := #[{ on := 2, ground := Ground.data }, { on := 8, ground := Ground.data }], guard := none },
  { dst := some 32, op := Op.indexAddr 55 (Operand.tmp 22) (Operand.tmp 23), type := 0, pos := "all.go:24", after := #[{ on := 0, ground := Ground.data }, { on := 1, ground := Ground.data }, { on := 0, ground := Ground.phase }, { on := 1, ground := Ground.phase }, { on := 2, ground := Ground.phase }, { on := 3, ground := Ground.phase }, { on := 4, ground := Ground.phase }, { on := 5, ground := Ground.phase }, { on := 6, ground := Ground.phase }, { on := 7, ground := Ground.phase }, { on := 8, ground := Ground.phase }, { on := 9, ground := Ground.phase }], guard := none },
  { dst := none, op := Op.store 58 (Operand.tmp 32) (Operand.tmp 31), type := 0, pos := "all.go:24", after := #[{ on := 10, ground := Ground.data }, { on := 9, ground := Ground.data }, { on := 0, ground := Ground.phase }, { on := 1, ground := Ground.phase }, { on := 2, ground := Ground.phase }, { on := 3, ground := Ground.phase }, { on := 4, ground := Ground.phase }, { on := 5, ground := Ground.phase }, { on := 6, ground := Ground.phase }, { on := 7, ground := Ground.phase }, { on := 8, ground := Ground.phase }, { on := 9, ground := Ground.phase }], guard := none }]

set_option maxHeartbeats 4000000 in
set_option maxRecDepth 100000 in
theorem reg38_5 (W : World) (B b5 M g j L : Nat) (t : Tg) (m : Mp) (hj : j < L) (hS0 : Sk B b5 M t m W.drew) (hS1 : Sk B b5 M t m (st4 W.drew g (j * 4) (t, m))) (q0 : ∃ z, W.cell? ⟨g, j * 4, none⟩ = some z) (q1 : ∃ z, W.cell? ⟨g, j * 4 + 1, none⟩ = some z) (q2 : ∃ z, W.cell? ⟨g, j * 4 + 2, none⟩ = some z) (q3 : ∃ z, W.cell? ⟨g, j * 4 + 3, none⟩ = some z) (f0 : W.frozen? ⟨g, j * 4, none⟩ = false) (f1 : W.frozen? ⟨g, j * 4 + 1, none⟩ = false) (f2 : W.frozen? ⟨g, j * 4 + 2, none⟩ = false) (f3 : W.frozen? ⟨g, j * 4 + 3, none⟩ = false) (Q : Exit → Act → World → Prop) (hPan : ∀ c (a : Act) w (d : Option Tmp) v, Q (.panic c) (a.put d v) w → Q (.panic c) a w)
    (u1 u2 u6 u7 u8 u9 u10 u11 u12 u13 u14 u15 u16 u17 u18 u19 u20 u21 u22 u23 u24 u25 u26 u27 u28 u29 u30 u31 u32 u33 u34 : Value)
    (hQ : Q .normal ⟨#[.pointer (some ⟨B, 0, none⟩), u1, u2, .slice (some ⟨g, 0, none⟩) L L, .int .i64 ((j : Nat) : Int), .pointer (some ⟨b5, 0, none⟩), u6, u7, u8, u9, u10, u11, u12, u13, u14, u15, u16, u17, u18, u19, u20, u21, .slice (some ⟨g, 0, none⟩) L L, .int .i64 ((j : Nat) : Int), .agg #[.int .i64 t.1, .int .u32 ((t.2 : Nat) : Int)], .pointer (some ⟨B, 0, none⟩), .pointer (some ⟨B, 0, none⟩), .pointer (some ⟨B, 1, none⟩), .map (some M), .agg #[.int .i64 t.1, .int .u32 ((t.2 : Nat) : Int)], .agg #[.int .u32 ((m.1 : Nat) : Int), .int .u8 ((m.2 : Nat) : Int)], .agg #[.int .i64 t.1, .int .u32 ((t.2 : Nat) : Int), .int .u32 ((m.1 : Nat) : Int), .int .u8 ((m.2 : Nat) : Int)], .pointer (some ⟨g, j * 4, none⟩), u33, u34], []⟩ (st4 W.drew g (j * 4) (t, m))) :
    Code.wp Try.prog (Code.region 5 ops38_5 true) Q ⟨#[.pointer (some ⟨B, 0, none⟩), u1, u2, .slice (some ⟨g, 0, none⟩) L L, .int .i64 ((j : Nat) : Int), .pointer (some ⟨b5, 0, none⟩), u6, u7, u8, u9, u10, u11, u12, u13, u14, u15, u16, u17, u18, u19, u20, u21, u22, u23, u24, u25, u26, u27, u28, u29, u30, u31, u32, u33, u34], []⟩ W := by
  obtain ⟨z0, q0⟩ := q0
  obtain ⟨z1, q1⟩ := q1
  obtain ⟨z2, q2⟩ := q2
  obtain ⟨z3, q3⟩ := q3
  have hjz : (j : Int) < (L : Int) := by omega
  refine wp_region_held_drew (S := Sk B b5 M t m) hmx hS0 (fun hS => ?_)
  refine wpAnyH_take (i := 0) (oi := { dst := some 22, op := Op.move (Operand.tmp 3), type := 55, pos := "all.go:24", after := #[], guard := none }) (v := .slice (some ⟨g, 0, none⟩) L L) rfl (by kernel_rfl) (by kernel_rfl) (by kernel_rfl) (fun _ _ _ h => hPan _ _ _ _ _ h) (Or.inl ⟨by rfl, ?_⟩) hS ?_
  · rintro wx ⟨d0, d1, d2, d3⟩
    go_simp
  simp only [Act.put, List.setIfInBounds_toArray, List.set_cons_zero, List.set_cons_succ]
  refine wpAnyH_take (i := 1) (oi := { dst := some 23, op := Op.move (Operand.tmp 4), type := 3, pos := "all.go:24", after := #[], guard := none }) (v := .int .i64 ((j : Nat) : Int)) rfl (by kernel_rfl) (by kernel_rfl) (by kernel_rfl) (fun _ _ _ h => hPan _ _ _ _ _ h) (Or.inl ⟨by rfl, ?_⟩) hS ?_
  · rintro wx ⟨d0, d1, d2, d3⟩
    go_simp
  simp only [Act.put, List.setIfInBounds_toArray, List.set_cons_zero, List.set_cons_succ]
  refine wpAnyH_take (i := 2) (oi := { dst := some 24, op := Op.load 31 (Operand.tmp 5), type := 31, pos := "all.go:24", after := #[], guard := none }) (v := .agg #[.int .i64 t.1, .int .u32 ((t.2 : Nat) : Int)]) rfl (by kernel_rfl) (by kernel_rfl) (by kernel_rfl) (fun _ _ _ h => hPan _ _ _ _ _ h) (Or.inl ⟨by rfl, ?_⟩) hS ?_
  · rintro wx ⟨d0, d1, d2, d3⟩
    go_simp
  simp only [Act.put, List.setIfInBounds_toArray, List.set_cons_zero, List.set_cons_succ]
  refine wpAnyH_take (i := 3) (oi := { dst := some 25, op := Op.move (Operand.tmp 0), type := 26, pos := "all.go:24", after := #[], guard := none }) (v := .pointer (some ⟨B, 0, none⟩)) rfl (by kernel_rfl) (by kernel_rfl) (by kernel_rfl) (fun _ _ _ h => hPan _ _ _ _ _ h) (Or.inl ⟨by rfl, ?_⟩) hS ?_
  · rintro wx ⟨d0, d1, d2, d3⟩
    go_simp
  simp only [Act.put, List.setIfInBounds_toArray, List.set_cons_zero, List.set_cons_succ]
  refine wpAnyH_take (i := 4) (oi := { dst := some 26, op := Op.nilCheck (Operand.tmp 25), type := 0, pos := "all.go:24", after := #[{ on := 3, ground := Ground.data }], guard := none }) (v := .pointer (some ⟨B, 0, none⟩)) rfl (by kernel_rfl) (by kernel_rfl) (by kernel_rfl) (fun _ _ _ h => hPan _ _ _ _ _ h) (Or.inl ⟨by rfl, ?_⟩) hS ?_
  · rintro wx ⟨d0, d1, d2, d3⟩
    go_simp
  simp only [Act.put, List.setIfInBounds_toArray, List.set_cons_zero, List.set_cons_succ]
  refine wpAnyH_take (i := 5) (oi := { dst := some 27, op := Op.fieldAddr 85 (Operand.tmp 26) 1, type := 0, pos := "all.go:24", after := #[{ on := 4, ground := Ground.data }], guard := none }) (v := .pointer (some ⟨B, 1, none⟩)) rfl (by kernel_rfl) (by kernel_rfl) (by kernel_rfl) (fun _ _ _ h => hPan _ _ _ _ _ h) (Or.inl ⟨by rfl, ?_⟩) hS ?_
  · rintro wx ⟨d0, d1, d2, d3⟩
    go_simp
  simp only [Act.put, List.setIfInBounds_toArray, List.set_cons_zero, List.set_cons_succ]
  refine wpAnyH_take (i := 6) (oi := { dst := some 28, op := Op.load 82 (Operand.tmp 27), type := 82, pos := "all.go:24", after := #[{ on := 5, ground := Ground.data }], guard := none }) (v := .map (some M)) rfl (by kernel_rfl) (by kernel_rfl) (by kernel_rfl) (fun _ _ _ h => hPan _ _ _ _ _ h) (Or.inl ⟨by rfl, ?_⟩) hS ?_
  · rintro wx ⟨d0, d1, d2, d3⟩
    go_simp
  simp only [Act.put, List.setIfInBounds_toArray, List.set_cons_zero, List.set_cons_succ]
  refine wpAnyH_take (i := 7) (oi := { dst := some 29, op := Op.load 31 (Operand.tmp 5), type := 31, pos := "all.go:24", after := #[], guard := none }) (v := .agg #[.int .i64 t.1, .int .u32 ((t.2 : Nat) : Int)]) rfl (by kernel_rfl) (by kernel_rfl) (by kernel_rfl) (fun _ _ _ h => hPan _ _ _ _ _ h) (Or.inl ⟨by rfl, ?_⟩) hS ?_
  · rintro wx ⟨d0, d1, d2, d3⟩
    go_simp
  simp only [Act.put, List.setIfInBounds_toArray, List.set_cons_zero, List.set_cons_succ]
  refine wpAnyH_take (i := 8) (oi := { dst := some 30, op := Op.lookup 82 (Operand.tmp 28) (Operand.tmp 29) false, type := 36, pos := "all.go:24", after := #[{ on := 6, ground := Ground.data }, { on := 7, ground := Ground.data }], guard := none }) (v := .agg #[.int .u32 ((m.1 : Nat) : Int), .int .u8 ((m.2 : Nat) : Int)]) rfl (by kernel_rfl) (by kernel_rfl) (by kernel_rfl) (fun _ _ _ h => hPan _ _ _ _ _ h) (Or.inl ⟨by rfl, ?_⟩) hS ?_
  · rintro wx ⟨d0, d1, d2, d3⟩
    go_simp
  simp only [Act.put, List.setIfInBounds_toArray, List.set_cons_zero, List.set_cons_succ]
  refine wpAnyH_take (i := 9) (oi := { dst := some 31, op := Op.build 58 #[(0, Operand.tmp 24), (1, Operand.tmp 30)], type := 58, pos := "all.go:24", after := #[{ on := 2, ground := Ground.data }, { on := 8, ground := Ground.data }], guard := none }) (v := .agg #[.int .i64 t.1, .int .u32 ((t.2 : Nat) : Int), .int .u32 ((m.1 : Nat) : Int), .int .u8 ((m.2 : Nat) : Int)]) rfl (by kernel_rfl) (by kernel_rfl) (by kernel_rfl) (fun _ _ _ h => hPan _ _ _ _ _ h) (Or.inl ⟨by rfl, ?_⟩) hS ?_
  · rintro wx ⟨d0, d1, d2, d3⟩
    go_simp
  simp only [Act.put, List.setIfInBounds_toArray, List.set_cons_zero, List.set_cons_succ]
  refine wpAnyH_take (i := 10) (oi := { dst := some 32, op := Op.indexAddr 55 (Operand.tmp 22) (Operand.tmp 23), type := 0, pos := "all.go:24", after := #[{ on := 0, ground := Ground.data }, { on := 1, ground := Ground.data }, { on := 0, ground := Ground.phase }, { on := 1, ground := Ground.phase }, { on := 2, ground := Ground.phase }, { on := 3, ground := Ground.phase }, { on := 4, ground := Ground.phase }, { on := 5, ground := Ground.phase }, { on := 6, ground := Ground.phase }, { on := 7, ground := Ground.phase }, { on := 8, ground := Ground.phase }, { on := 9, ground := Ground.phase }], guard := none }) (v := .pointer (some ⟨g, j * 4, none⟩)) rfl (by kernel_rfl) (by kernel_rfl) (by kernel_rfl) (fun _ _ _ h => hPan _ _ _ _ _ h) (Or.inl ⟨by rfl, ?_⟩) hS ?_
  · rintro wx ⟨d0, d1, d2, d3⟩
    go_simp
  simp only [Act.put, List.setIfInBounds_toArray, List.set_cons_zero, List.set_cons_succ]
  refine wpAnyH_ready (rs := [11]) (by kernel_rfl) (by simp) ?_
  refine AllReadyH.cons (o := { dst := none, op := Op.store 58 (Operand.tmp 32) (Operand.tmp 31), type := 0, pos := "all.go:24", after := #[{ on := 10, ground := Ground.data }, { on := 9, ground := Ground.data }, { on := 0, ground := Ground.phase }, { on := 1, ground := Ground.phase }, { on := 2, ground := Ground.phase }, { on := 3, ground := Ground.phase }, { on := 4, ground := Ground.phase }, { on := 5, ground := Ground.phase }, { on := 6, ground := Ground.phase }, { on := 7, ground := Ground.phase }, { on := 8, ground := Ground.phase }, { on := 9, ground := Ground.phase }], guard := none }) rfl (fun K hK => ?_) AllReadyH.nil
  rw [if_pos (by rfl)]
  go_simp
  refine hK.out _ _ hS1 (fun hS2 => ?_)
  clear hK K
  refine wpAnyH_done (by kernel_rfl) ?_ _
  exact hQ
end Go.Proofs.Ytadpgaaijdpbiaa
namespace Go.Proofs.Ytadpgaaijdpbiaa
open Go.ChangeShapes Go.WideShapes Go.ChangeAt Go.RowKit Go.Shelf
set_option linter.unusedVariables false

theorem st4_row (W : World) (g o : Nat) (arr : Array Value) (x : Sl4) (hg : W.heap[g]? = some (.cells arr 58 (0, 0))) :
    (st4 W g o x).heap[g]? = some (.cells ((((arr.setIfInBounds o (.int .i64 x.1.1)).setIfInBounds (o + 1) (.int .u32 ((x.1.2 : Nat) : Int))).setIfInBounds (o + 2) (.int .u32 ((x.2.1 : Nat) : Int))).setIfInBounds (o + 3) (.int .u8 ((x.2.2 : Nat) : Int))) 58 (0, 0)) ∧ Chg W (st4 W g o x) (fun i => i = g) := by
  have h1 := heap_setCell_same W g o arr 58 (.int .i64 x.1.1) hg
  have h2 := heap_setCell_same _ g (o + 1) _ 58 (.int .u32 ((x.1.2 : Nat) : Int)) h1
  have h3 := heap_setCell_same _ g (o + 2) _ 58 (.int .u32 ((x.2.1 : Nat) : Int)) h2
  have h4 := heap_setCell_same _ g (o + 3) _ 58 (.int .u8 ((x.2.2 : Nat) : Int)) h3
  exact ⟨h4, Chg.setCell (S := fun i => i = g) (Chg.setCell (S := fun i => i = g) (Chg.setCell (S := fun i => i = g) (Chg.setCell (S := fun i => i = g) (Chg.refl W _) (.inl rfl) _) (.inl rfl) _) (.inl rfl) _) (.inl rfl) _⟩
theorem st4_take (arr : Array Value) (l : List Sl4) (j : Nat) (x : Sl4) (hs : (j + 1) * 4 ≤ arr.size) (ht : arr.toList.take (j * 4) = scs l) (hl : l.length = j) :
    ((((arr.setIfInBounds (j * 4) (.int .i64 x.1.1)).setIfInBounds (j * 4 + 1) (.int .u32 ((x.1.2 : Nat) : Int))).setIfInBounds (j * 4 + 2) (.int .u32 ((x.2.1 : Nat) : Int))).setIfInBounds (j * 4 + 3) (.int .u8 ((x.2.2 : Nat) : Int))).toList.take ((j + 1) * 4) = scs (l ++ [x]) := by
  rw [scs_app, ← ht]
  apply List.ext_getElem?
  intro y
  have hll : (arr.toList.take (j * 4)).length = j * 4 := by simp; omega
  by_cases h1 : y < j * 4
  · rw [List.getElem?_append_left (by omega), List.getElem?_take_of_lt (by omega), List.getElem?_take_of_lt h1, Array.getElem?_toList, Array.getElem?_toList, Array.getElem?_setIfInBounds_ne (by omega), Array.getElem?_setIfInBounds_ne (by omega), Array.getElem?_setIfInBounds_ne (by omega), Array.getElem?_setIfInBounds_ne (by omega)]
  · rw [List.getElem?_append_right (by omega), hll]
    by_cases h2 : y < (j + 1) * 4
    · rw [List.getElem?_take_of_lt h2, Array.getElem?_toList]
      have hc : y = j * 4 ∨ y = j * 4 + 1 ∨ y = j * 4 + 2 ∨ y = j * 4 + 3 := by omega
      rcases hc with rfl | rfl | rfl | rfl
      · rw [Array.getElem?_setIfInBounds_ne (by omega), Array.getElem?_setIfInBounds_ne (by omega), Array.getElem?_setIfInBounds_ne (by omega), Array.getElem?_setIfInBounds_self_of_lt (by omega)]
        simp [scs]
      · rw [Array.getElem?_setIfInBounds_ne (by omega), Array.getElem?_setIfInBounds_ne (by omega), Array.getElem?_setIfInBounds_self_of_lt (by simp; omega)]
        simp [scs]
      · rw [Array.getElem?_setIfInBounds_ne (by omega), Array.getElem?_setIfInBounds_self_of_lt (by simp; omega)]
        simp [scs]
      · rw [Array.getElem?_setIfInBounds_self_of_lt (by simp; omega)]
        simp [scs]
    · rw [List.getElem?_eq_none (by simp; omega), List.getElem?_eq_none (by simp [scs]; omega)]

/-- The copy under way. -/
structure CpI (w W : World) (B M : Nat) (v : Value) (n k : Nat) (s : Sta) (g j : Nat) (arr : Array Value) : Prop where
  t : IsT W B M v n k s
  row : W.heap[g]? = some (.cells arr 58 (0, 0))
  size : arr.size = s.l.length * 4
  take : arr.toList.take (j * 4) = scs (s.slots.take j)
  kp : Kp w W
theorem IsT.no58 {w : World} {B M : Nat} {v : Value} {n k : Nat} {s : Sta} (h : IsT w B M v n k s) {g : Nat} {cur : Array Value} (hg : w.heap[g]? = some (.cells cur 58 (0, 0))) : ¬ Ft B M v g := by
  rintro (rfl | rfl | e)
  · have := h.box; rw [hg] at this; simp at this
  · obtain ⟨es, c, hh⟩ := h.map.heap; rw [hh] at hg; cases hg
  · obtain ⟨c, hc⟩ := h.ord.row e; rw [hg] at hc; simp at hc

set_option maxHeartbeats 4000000 in
set_option maxRecDepth 100000 in
theorem copied_any (w : World) (B M : Nat) (v : Value) (n k : Nat) (s : Sta) (hT : IsT w B M v n k s) (L : Nat) (hL : L = s.l.length) :
    Calls Try.prog 38 #[.pointer (some ⟨B, 0, none⟩)] w fun e w' => e = .returned (.slice (some ⟨w.heap.size, 0, none⟩) L L) ∧ w'.heap[w.heap.size]? = some (.cells (scs s.slots).toArray 58 (0, 0)) ∧ Kp w w' := by
  obtain ⟨i58, z58, h58, hz58, hs58, hb58, hzs58⟩ := info58
  have hL64 : L ≤ 64 := by have := hT.ok.len; have := hT.n64; omega
  obtain ⟨W1, hmk, hrow1, hg1⟩ := run_makeSlice_full (P := Try.prog) w 0 55 58 i58 z58 4 Try.underlying55 h58 hz58 hs58 .i64 .i64 L (by omega) (by rw [hb58]; omega) (by simp [maxLen]; omega) (Nat.zero_le _)
  obtain ⟨g, hg⟩ : ∃ g, g = w.heap.size := ⟨_, rfl⟩
  have hk1 : Kp w W1 := Chg.grown (Chg.refl w _) hg1 (fun k h => by cases h)
  rw [← hg] at hrow1 hmk ⊢
  rcases hrow1.2 with ⟨h, _⟩ | ⟨g', cap', cur, hv', _, hrow, _, _, hcs, _⟩
  · cases h
  obtain ⟨rfl, rfl⟩ : g' = g ∧ cap' = L := by
    simp at hv'
    exact ⟨hv'.1.symm, hv'.2.symm⟩
  have KI : Hid (CpI w W1 B M v n k s g' 0 cur) := ⟨hT.kp hk1, hrow, by omega, by simp [scs], hk1⟩
  obtain ⟨va, vc, hva⟩ := hT.ord.form
  rw [← hL] at hva
  have c0 := (cells3 hT.box).2.2.1
  have c1 := (cells3 KI.out.t.box).2.2.1
  rw [hva] at c0 c1
  have HV : Hid (v = .slice va cap' vc ∧ cap' = s.l.length ∧ g' = w.heap.size) := ⟨hva, hL, hg⟩
  clear hT hrow1 hg1 hk1 hrow hcs hva hL hg h58 hz58 hs58 hb58 hzs58 hv'
  generalize hLL : cap' = L' at *
  clear hLL
  go_enter Try.func38, Try.ntmps38
  go_wp2
  go_loopw [17] (fun s17 wr => ∃ (j : Nat) (arr : Array Value), s17 = .int .i64 j ∧ j ≤ L' ∧ Hid (CpI w wr B M v n k s g' j arr)) (fun s17 _ => L' - (intOf s17).toNat)
  case atStart => exact ⟨0, cur, rfl, by omega, KI⟩
  case round =>
    obtain ⟨j, arr, rfl, hj, HI⟩ := hrel
    clear KI
    obtain ⟨v1, v2, v3⟩ := HV.out
    by_cases hlt : j < L'
    · have hltz : (j : Int) < (L' : Int) := by omega
      have hjl : j < s.l.length := by omega
      obtain ⟨r, hr⟩ : ∃ r, va = some ⟨r, 0, none⟩ := by
        rcases HI.out.t.ord.2 with ⟨h, h0⟩ | ⟨r, cap, cur, h, _⟩
        · omega
        · rw [v1] at h; simp at h; exact ⟨r, h.1⟩
      subst hr
      have hord := HI.out.t.ord
      rw [v1] at hord
      obtain ⟨o0, o1⟩ := OR.cells hord j hjl
      obtain ⟨t, ht⟩ : ∃ t, t = s.l[j] := ⟨_, rfl⟩
      obtain ⟨m, hm⟩ : ∃ m : Mp, m = (s.f t).getD m0 := ⟨_, rfl⟩
      rw [← ht] at o0 o1
      have htk : TOk t := by rw [ht]; exact HI.out.t.ok.tok _ (List.getElem_mem hjl)
      obtain ⟨W2, hW2⟩ : ∃ W, W = wr.alloc (.cells #[.int .i64 t.1, .int .u32 ((t.2 : Nat) : Int)] 31) := ⟨_, rfl⟩
      obtain ⟨b5, hb5⟩ : ∃ b, b = wr.heap.size := ⟨_, rfl⟩
      have hk2 : Kp wr W2 := by rw [hW2]; exact (Chg.refl wr _).alloc _
      have hx5 : W2.heap[b5]? = some (.cells #[.int .i64 t.1, .int .u32 ((t.2 : Nat) : Int)] 31 (0, 0)) := by rw [hW2, hb5]; exact heap_alloc_new wr _
      have hT2 := HI.out.t.kp hk2
      have hrow2 := hk2.heap HI.out.row
      obtain ⟨hrow3, hC3⟩ := st4_row W2.drew g' (j * 4) arr (t, m) hrow2
      have hgF : ¬ Ft B M v g' := hT2.no58 hrow2
      have hgb : g' ≠ b5 := fun e => by
        have := (Array.getElem?_eq_some_iff.1 HI.out.row).1; omega
      have hT3 : IsT (st4 W2.drew g' (j * 4) (t, m)) B M v n k s := (hT2.kp (Chg.drew (Chg.refl W2 _))).kept hC3 (fun i hi e => hgF (e ▸ hi))
      have hx53 := Chg.heap hC3 (show W2.drew.heap[b5]? = _ from hx5) (fun e => hgb e.symm)
      have mk : ∀ W, IsT W B M v n k s → W.heap[b5]? = some (.cells #[.int .i64 t.1, .int .u32 ((t.2 : Nat) : Int)] 31 (0, 0)) → Sk B b5 M t m W := fun W h1 h2 => by
        refine ⟨(cells3 h1.box).2.1, (cells2 h2).1, (cells2 h2).2.1, ?_⟩
        have := h1.map.look t htk
        rw [← hm] at this
        exact this
      have hS0 : Sk B b5 M t m W2.drew := mk W2.drew (hT2.kp (Chg.drew (Chg.refl W2 _))) hx5
      have hS1 := mk _ hT3 hx53
      have hsz := HI.out.size
      have ce : ∀ o, o < arr.size → ∃ z, W2.cell? ⟨g', o, none⟩ = some z := fun o ho => ⟨arr[o], by rw [(cells_at hrow2 _).1]; exact Array.getElem?_eq_getElem _⟩
      have q0 := ce (j * 4) (by omega)
      have q1 := ce (j * 4 + 1) (by omega)
      have q2 := ce (j * 4 + 2) (by omega)
      have q3 := ce (j * 4 + 3) (by omega)
      have f0 := (cells_at hrow2 (j * 4)).2
      have f1 := (cells_at hrow2 (j * 4 + 1)).2
      have f2 := (cells_at hrow2 (j * 4 + 2)).2
      have f3 := (cells_at hrow2 (j * 4 + 3)).2
      have KN : Hid (CpI w (st4 W2.drew g' (j * 4) (t, m)) B M v n k s g' (j + 1) ((((arr.setIfInBounds (j * 4) (.int .i64 t.1)).setIfInBounds (j * 4 + 1) (.int .u32 ((t.2 : Nat) : Int))).setIfInBounds (j * 4 + 2) (.int .u32 ((m.1 : Nat) : Int))).setIfInBounds (j * 4 + 3) (.int .u8 ((m.2 : Nat) : Int)))) := by
        refine ⟨hT3, hrow3, by simp [hsz], ?_, ?_⟩
        · have e : s.slots.take (j + 1) = s.slots.take j ++ [(t, m)] := by
            rw [List.take_add_one, List.getElem?_eq_getElem (by rw [s.slots_len]; exact hjl), s.slots_get j hjl, ← ht, ← hm]; rfl
          rw [e]
          exact st4_take arr _ j (t, m) (by omega) HI.out.take (by rw [List.length_take, s.slots_len]; omega)
        · exact Chg.trans (Chg.drew (Kp.trans HI.out.kp hk2)) hC3 (fun i hi e => by omega)
      clear hk2 hx5 hT2 hrow2 hrow3 hC3 hgF hgb hT3 hx53 mk hsz ce hm ht hord HI v1 v2 v3 htk
      go_wp2_with fail
      rw [← hW2, ← hb5]
      clear hW2 hb5 o0 o1
      refine reg38_5 W2 B b5 M g' j L' t m hlt hS0 hS1 q0 q1 q2 q3 f0 f1 f2 f3 _ (fun _ _ _ d _ h => by cases d <;> exact h) _ _ _ _ _ _ _ _ _ _ _ _ _ _ _ _ _ _ _ _ _ _ _ _ _ _ _ _ _ _ _ ?_
      clear q0 q1 q2 q3 f0 f1 f2 f3 hS0 hS1
      go_wp2
      exact ⟨⟨j + 1, _, by go_num, by omega, KN⟩, by simp [intOf]; omega⟩
    · have hltz : ¬ (j : Int) < (L' : Int) := by omega
      have hend : wr.heap[g']? = some (.cells (scs s.slots).toArray 58 (0, 0)) := by
        have h1 := HI.out.take
        rw [List.take_of_length_le (by have := HI.out.size; simp; omega), List.take_of_length_le (by rw [s.slots_len]; omega)] at h1
        rw [HI.out.row, ← h1]
      have KF : Hid (wr.heap[g']? = some (.cells (scs s.slots).toArray 58 (0, 0)) ∧ Kp w wr) := ⟨hend, HI.out.kp⟩
      clear hend v1 v2 v3
      go_wp2
      go_ret
      exact ⟨rfl, KF.out⟩
end Go.Proofs.Ytadpgaaijdpbiaa
