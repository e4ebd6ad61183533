import Derived.Test.YtadpgaaijdpbiaaTt
namespace Go.Proofs.Ytadpgaaijdpbiaa
open Go.ChangeShapes Go.WideShapes Go.ChangeAt Go.RowKit Go.Shelf
set_option linter.unusedVariables false

/-- Numbers that can be read. -/
structure IntsIn (w : World) (a : Option Addr) (len : Nat) (Z : Nat → Int) : Prop where
  src : len = 0 ∨ ∃ b off, a = some ⟨b, off, none⟩ ∧ b < w.heap.size ∧ ∀ i, i < len → w.cell? ⟨b, off + i, none⟩ = some (.int .i64 (Z i))
  le : len ≤ 17592186043904
theorem IntsIn.kept {w w' : World} {a : Option Addr} {len : Nat} {Z : Nat → Int} {S : Nat → Prop} (h : IntsIn w a len Z) (hc : Chg w w' S) (hS : ∀ x : Addr, a = some x → ¬ S x.block) : IntsIn w' a len Z := by
  refine ⟨h.src.imp_right ?_, h.le⟩
  rintro ⟨b, off, rfl, hb, hh⟩
  exact ⟨b, off, rfl, Nat.lt_of_lt_of_le hb hc.size, fun i hi => (hc.cell hb (hS _ rfl)).trans (hh i hi)⟩
def hasInt (Z : Nat → Int) (len : Nat) (c : Int) : Bool := (List.range len).any (fun i => decide (Z i = c))
theorem hasInt_true {Z : Nat → Int} {len : Nat} {c : Int} : hasInt Z len c = true ↔ ∃ i, i < len ∧ Z i = c := by
  simp [hasInt]
theorem hasInt_false {Z : Nat → Int} {len : Nat} {c : Int} : hasInt Z len c = false ↔ ∀ i, i < len → Z i ≠ c := by
  simp [hasInt]

set_option maxRecDepth 10000 in
theorem IndexInt_any (w : World) (a : Option Addr) (len cap : Nat) (Z : Nat → Int) (h : IntsIn w a len Z) (c : Int) :
    Calls Try.prog 52 #[.slice a len cap, .int .i64 c] w fun e w' => (∃ r : Int, e = .returned (.int .i64 r) ∧ decide (r ≥ 0) = hasInt Z len c) ∧ w' = w := by
  have HF : Hid (∀ i, (∀ j, j < i → Z j ≠ c) → i < len → Z i = c → hasInt Z len c = true) := fun i _ hi e => hasInt_true.2 ⟨i, hi, e⟩
  have HG : Hid ((∀ j, j < len → Z j ≠ c) → hasInt Z len c = false) := fun h => hasInt_false.2 h
  have hle := h.le
  have HH : Hid (IntsIn w a len Z) := h
  clear h
  generalize hasInt Z len c = r at *
  go_enter Try.func52, Try.ntmps52
  go_wp2
  go_loopw [5, 8] (fun _ i wr => ∃ j : Nat, j ≤ len ∧ i = .int .i64 j ∧ wr = w ∧ Hid (∀ q, q < j → Z q ≠ c)) (fun _ i _ => len - (intOf i).toNat)
  case atStart => exact ⟨0, by omega, rfl, rfl, fun q hq => by omega⟩
  case round =>
    obtain ⟨j, hj, rfl, rfl, HN⟩ := hrel
    by_cases hlt : j < len
    · have hltz : (j : Int) < (len : Int) := by omega
      obtain ⟨b, off, rfl, _, hh⟩ := HH.out.src.resolve_left (by omega)
      have c0 := hh j hlt
      clear hh
      by_cases he : Z j = c
      · have hr := HF.out j HN.out hlt he
        rw [he] at c0
        go_wp2
        go_ret
        exact ⟨⟨_, rfl, by first | (rw [hr]; simp) | simp⟩, rfl⟩
      · have HN' : Hid (∀ q, q < j + 1 → Z q ≠ c) := fun q hq => by
          rcases Nat.lt_or_ge q j with h1 | h1
          · exact HN.out q h1
          · have : q = j := by omega
            subst this; exact he
        have hne : (c == Z j) = false := by simp; exact fun e => he e.symm
        clear he
        generalize Z j = z at *
        go_wp2
        exact ⟨⟨j + 1, by omega, by go_num, by first | rfl | trivial, HN'⟩, by simp [intOf]; omega⟩
    · have hltz : ¬ (j : Int) < (len : Int) := by omega
      have hr := HG.out (fun q hq => HN.out q (by omega))
      go_wp2
      go_ret
      exact ⟨⟨_, rfl, by first | (rw [hr]; simp) | simp⟩, rfl⟩
theorem ContainsInt_any (w : World) (a : Option Addr) (len cap : Nat) (Z : Nat → Int) (h : IntsIn w a len Z) (c : Int) :
    Calls Try.prog 35 #[.slice a len cap, .int .i64 c] w fun e w' => e = .returned (.bool (hasInt Z len c)) ∧ w' = w := by
  have hI := IndexInt_any w a len cap Z h c
  clear h
  generalize hasInt Z len c = r at *
  go_enter Try.func35, Try.ntmps35
  go_wp2_with (go_at_call 52; refine hI.mono ?_; rintro e w' ⟨⟨q, rfl, hq⟩, rfl⟩)
  go_ret
  exact ⟨by rw [← hq]; rfl, rfl⟩

def ofCells (Z : Nat → Int) (len : Nat) (t : Tg) : Bool := hasInt Z len t.1
theorem goesCells (w : World) (S : Nat → Prop) (b : Nat) (a : Option Addr) (len cap : Nat) (Z : Nat → Int) (h : IntsIn w a len Z) (hb : w.heap[b]? = some (.cells #[.slice a len cap] 61 (0, 0))) (hS : ¬ S b) (ha : ∀ x : Addr, a = some x → ¬ S x.block) :
    Goes w S 34 #[.pointer (some ⟨b, 0, none⟩)] (ofCells Z len) := by
  refine ⟨enters_of Try.func34 (by kernel_rfl) rfl, fun W t ht hC => ?_⟩
  have hk : Kp W (W.alloc (.cells #[.int .i64 t.1, .int .u32 ((t.2 : Nat) : Int)] 31)) := (Chg.refl W _).alloc _
  have hI := ContainsInt_any (W.alloc (.cells #[.int .i64 t.1, .int .u32 ((t.2 : Nat) : Int)] 31)) a len cap Z ((h.kept hC ha).kept (S := fun _ => False) hk (fun _ _ h => h)) t.1
  have hb' := al_old (.cells #[.int .i64 t.1, .int .u32 ((t.2 : Nat) : Int)] 31) (Chg.heap hC hb hS)
  have c0 : (W.alloc (.cells #[.int .i64 t.1, .int .u32 ((t.2 : Nat) : Int)] 31)).cell? ⟨b, 0, none⟩ = some (.slice a len cap) := by rw [(cells_at hb' _).1]; rfl
  have e : ofCells Z len t = hasInt Z len t.1 := rfl
  rw [e]
  generalize hasInt Z len t.1 = r at *
  unfold tV
  show Calls Try.prog 34 #[.agg #[.int .i64 t.1, .int .u32 ((t.2 : Nat) : Int)], .pointer (some ⟨b, 0, none⟩)] W _
  clear hb hC hb' h ha e
  go_enter Try.func34, Try.ntmps34
  go_wp2_with (go_at_call 35; refine hI.mono ?_; rintro e w' ⟨rfl, rfl⟩)
  go_ret
  exact ⟨rfl, hk⟩
theorem goesAll (w : World) (S : Nat → Prop) : Goes w S 33 #[] (fun _ => true) := by
  refine ⟨enters_of Try.func33 (by kernel_rfl) rfl, fun W t ht hC => ?_⟩
  have hk : Kp W (W.alloc (.cells #[.int .i64 t.1, .int .u32 ((t.2 : Nat) : Int)] 31)) := (Chg.refl W _).alloc _
  unfold tV
  show Calls Try.prog 33 #[.agg #[.int .i64 t.1, .int .u32 ((t.2 : Nat) : Int)]] W _
  go_enter Try.func33, Try.ntmps33
  go_wp2
  go_ret
  exact ⟨rfl, hk⟩

theorem Flush_any (w : World) (B M : Nat) (v : Value) (n k : Nat) (s : Sta) (hT : IsT w B M v n k s) :
    Calls Try.prog 16 #[.pointer (some ⟨B, 0, none⟩)] w fun e w' => e = .returned (.int .i64 (((s.l.length : Nat) : Int) - (((s.drop (fun _ => true)).l.length : Nat) : Int))) ∧ ∃ v', IsT w' B M v' n k (s.drop (fun _ => true)) ∧ v'.ownBlock = v.ownBlock ∧ Chg w w' (Ft B M v) := by
  have hF := forget_any w B M v n k s (fun _ => true) 33 #[] hT (goesAll w _)
  generalize ((s.l.length : Nat) : Int) - (((s.drop (fun _ => true)).l.length : Nat) : Int) = r at *
  clear hT
  go_enter Try.func16, Try.ntmps16
  go_wp2_with (go_at_call 32; refine hF.mono ?_; rintro e w2 ⟨rfl, v', h1, h2, h3⟩)
  go_ret
  exact ⟨rfl, v', h1, h2, h3⟩
set_option maxRecDepth 10000 in
theorem FlushCell_any (w : World) (B M : Nat) (v : Value) (n k : Nat) (s : Sta) (hT : IsT w B M v n k s) (a : Option Addr) (len cap : Nat) (Z : Nat → Int) (h : IntsIn w a len Z) (ha : ∀ x : Addr, a = some x → ¬ Ft B M v x.block) :
    Calls Try.prog 17 #[.pointer (some ⟨B, 0, none⟩), .slice a len cap] w fun e w' => e = .returned (.int .i64 (((s.l.length : Nat) : Int) - (((s.drop (ofCells Z len)).l.length : Nat) : Int))) ∧ ∃ v', IsT w' B M v' n k (s.drop (ofCells Z len)) ∧ v'.ownBlock = v.ownBlock ∧ Chg w w' (Ft B M v) := by
  have hk : Kp w (w.alloc (.cells #[.slice a len cap] 61)) := (Chg.refl w _).alloc _
  have hF := forget_any _ B M v n k s (ofCells Z len) 34 #[.pointer (some ⟨w.heap.size, 0, none⟩)] (hT.kp hk) (goesCells _ _ w.heap.size a len cap Z (h.kept (S := fun _ => False) hk (fun _ _ h => h)) (heap_alloc_new w _) (fun h => Nat.lt_irrefl _ (hT.lt h)) ha)
  generalize ((s.l.length : Nat) : Int) - (((s.drop (ofCells Z len)).l.length : Nat) : Int) = r at *
  have HK : Hid (Kp w (w.alloc (.cells #[.slice a len cap] 61))) := hk
  clear hk hT h ha
  go_enter Try.func17, Try.ntmps17
  go_wp2_with (go_at_call 32; refine hF.mono ?_; rintro e w2 ⟨rfl, v', h1, h2, h3⟩)
  go_ret
  exact ⟨rfl, v', h1, h2, (HK.out.mono (fun _ _ h => h.elim)).trans h3 (fun _ _ h => h)⟩
end Go.Proofs.Ytadpgaaijdpbiaa
