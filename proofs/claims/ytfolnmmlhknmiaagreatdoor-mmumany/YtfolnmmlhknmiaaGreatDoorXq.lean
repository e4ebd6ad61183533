import Derived.Test.YtfolnmmlhknmiaaGreatDoorXo
namespace Go.Proofs.YtfolnmmlhknmiaaGreatDoor
namespace Tlb
open Go.ChangeShapes Go.WideShapes Go.ChangeAt Go.RowKit Go.Shelf
set_option linter.unusedVariables false

theorem New_any (w : World) (n : Nat) (h1 : 1 ≤ n) (h2 : n ≤ 64) :
    Calls Tryz.prog 54 #[.int .i64 ((n : Nat) : Int)] w fun e w' => e = .returned (.tuple #[.pointer (some ⟨w.heap.size + 1, 0, none⟩), .int .i64 0]) ∧ IsT w' (w.heap.size + 1) w.heap.size (.slice none 0 0) n 0 Sta.none ∧ Kp w w' := by
  have hz1 : ¬ (n : Int) < 1 := by omega
  have hz2 : ¬ (64 : Int) < (n : Int) := by omega
  have KF : Hid (IsT ((w.alloc (.map #[] 0)).alloc (.cells #[.int .i64 ((n : Nat) : Int), .map (some w.heap.size), .slice none 0 0] 211)) (w.heap.size + 1) w.heap.size (.slice none 0 0) n 0 Sta.none ∧ Kp w ((w.alloc (.map #[] 0)).alloc (.cells #[.int .i64 ((n : Nat) : Int), .map (some w.heap.size), .slice none 0 0] 211))) := by
    refine ⟨⟨?_, (TM.made w).kept (S := fun _ => False) ((Chg.refl _ _).alloc _) (fun h => h), World.ownsRow_nil _ 0 162 2, Sta.none_ok n, h1, h2⟩, ((Chg.refl w _).alloc _).alloc _⟩
    have := heap_alloc_new (w.alloc (.map #[] 0)) (.cells #[.int .i64 ((n : Nat) : Int), .map (some w.heap.size), .slice none 0 0] 211)
    rw [al_size] at this
    exact this
  have hmm : (Instr.makeMap 207 none).run Tryz.prog w = .ok (.map (some w.heap.size)) (w.alloc (.map #[] 0)) := rfl
  go_enter Tryz.func54, Tryz.ntmps54
  go_wp2
  go_ret2
  exact ⟨rfl, KF.out⟩

/-- Which of n things the raw number speaks of. -/
def pk (c : Int) (n : Nat) : Nat := (if c < 0 then -(c + 1) else c).toNat % n
theorem pk_lt (c : Int) (n : Nat) (h : 0 < n) : pk c n < n := Nat.mod_lt _ h
def InI (c : Int) : Prop := -9223372036854775808 ≤ c ∧ c ≤ 9223372036854775807

set_option maxRecDepth 10000 in
theorem pick_any (w : World) (c : Int) (n : Nat) (hn : 0 < n) (hn2 : n ≤ 4611686018427387904) (h : InI c) :
    Calls Tryz.prog 10 #[.int .i64 c, .int .i64 n] w fun e w' => e = .returned (.int .i64 (pk c n : Nat)) ∧ w' = w := by
  obtain ⟨h1, h2⟩ := h
  have hne : ((n : Int) == 0) = false := by simp; omega
  obtain ⟨r, hr⟩ : ∃ r : Int, r = (pk c n : Nat) := ⟨_, rfl⟩
  rw [← hr]
  have HR : Hid (r = (pk c n : Nat)) := hr
  clear hr
  by_cases hc : c < 0
  · have e1 : IntKind.i64.wrap (c + 1) = c + 1 := by simp [IntKind.wrap, IntKind.bits, IntKind.signed]; omega
    go_enter Tryz.func10, Tryz.ntmps10
    go_wp2
    go_ret
    refine ⟨ret_int ?_, rfl⟩
    rw [HR.out]; unfold pk
    rw [if_pos hc]
    obtain ⟨d, hd⟩ : ∃ d : Nat, -(c + 1) = d := ⟨(-(c + 1)).toNat, by omega⟩
    rw [← Int.neg_tmod, hd]
    rfl
  · go_enter Tryz.func10, Tryz.ntmps10
    go_wp2
    go_ret
    refine ⟨ret_int ?_, rfl⟩
    rw [HR.out]; unfold pk
    rw [if_neg (by omega)]
    obtain ⟨d, rfl⟩ : ∃ d : Nat, c = d := ⟨c.toNat, by omega⟩
    rfl


/-- A TLB that was made since w, and what has come of w. -/
structure Fr (w W : World) (B M : Nat) (v : Value) (n k : Nat) (s : Sta) : Prop where
  t : IsT W B M v n k s
  kp : Kp w W
  new : ∀ i, Ft B M v i → w.heap.size ≤ i
theorem Fr.step {w W W' : World} {B M : Nat} {v v' : Value} {n k k' : Nat} {s s' : Sta} (h : Fr w W B M v n k s) (hT : IsT W' B M v' n k' s') (hC : Chg W W' (Ft B M v)) (hL : Loc W v v') : Fr w W' B M v' n k' s' := by
  refine ⟨hT, Chg.trans h.kp hC (fun i hi e => by have := h.new i e; omega), fun i hi => ?_⟩
  rcases hi with e | e | e
  · exact h.new i (.inl e)
  · exact h.new i (.inr (.inl e))
  · rcases hL with e' | ⟨j, hj, hjs⟩
    · exact h.new i (.inr (.inr (by rw [← e', e])))
    · rw [hj] at e; cases e; exact Nat.le_trans h.kp.size hjs
theorem Fr.later {w W W' : World} {B M : Nat} {v : Value} {n k : Nat} {s : Sta} (h : Fr w W B M v n k s) (hk : Kp W W') : Fr w W' B M v n k s := ⟨h.t.kp hk, Kp.trans h.kp hk, h.new⟩
/-- The blocks from lo on, below hi, are no blocks of the TLB. -/
def Av (lo hi B M : Nat) (v : Value) : Prop := ∀ i, Ft B M v i → i < lo ∨ hi ≤ i
theorem Av.step {lo hi B M : Nat} {v v' : Value} {W : World} (h : Av lo hi B M v) (hL : Loc W v v') (hs : hi ≤ W.heap.size) : Av lo hi B M v' := by
  intro i hi'
  rcases hi' with e | e | e
  · exact h i (.inl e)
  · exact h i (.inr (.inl e))
  · rcases hL with e' | ⟨j, hj, hjs⟩
    · exact h i (.inr (.inr (by rw [← e', e])))
    · rw [hj] at e; cases e; exact .inr (Nat.le_trans hs hjs)
theorem Av.of_new {w W : World} {B M : Nat} {v : Value} {n k : Nat} {s : Sta} (h : IsT W B M v n k s) (hi : Nat) : Av W.heap.size hi B M v := fun i hi => .inl (h.lt hi)
theorem Av.kept {lo hi B M : Nat} {v : Value} {W W' : World} (h : Av lo hi B M v) (hC : Chg W W' (Ft B M v)) {j : Nat} {o : Obj} (hj : W.heap[j]? = some o) (h1 : lo ≤ j) (h2 : j < hi) : W'.heap[j]? = some o :=
  Chg.heap hC hj (fun e => by rcases h j e with h | h <;> omega)

/-- The first example. -/
def wa : Tg := (1, 5)
def wb : Tg := (1, 6)
def wc : Tg := (2, 5)
def w2s : Sta := (Sta.none.put 2 wa (1, 0)).put 2 wb (2, 0)
theorem w_look : (w2s.f wa).getD m0 = (1, 0) ∧ (w2s.f wa).isSome = true := by decide
theorem w_gone : (w2s.look wa).gone 2 wc = wb ∧ (w2s.look wa).went 2 wc = true ∧ ((w2s.look wa).put 2 wc (3, 0)).l.length = 2 := by decide
theorem wa_ok : TOk wa := by unfold TOk wa; simp
theorem wb_ok : TOk wb := by unfold TOk wb; simp
theorem wc_ok : TOk wc := by unfold TOk wc; simp
end Tlb
end Go.Proofs.YtfolnmmlhknmiaaGreatDoor
namespace Go.Proofs.YtfolnmmlhknmiaaGreatDoor
namespace Tlb
open Go.ChangeShapes Go.WideShapes Go.ChangeAt Go.RowKit Go.Shelf
set_option linter.unusedVariables false

/-- Numbers that can be read. -/
structure IntsIn (w : World) (a : Option Addr) (len : Nat) (Z : Nat → Int) : Prop where
  src : len = 0 ∨ ∃ b off, a = some ⟨b, off, none⟩ ∧ b < w.heap.size ∧ ∀ i, i < len → w.cell? ⟨b, off + i, none⟩ = some (.int .i64 (Z i))
  le : len ≤ 17592186043904
theorem IntsIn.kept {w w' : World} {a : Option Addr} {len : Nat} {Z : Nat → Int} {S : Nat → Prop} (h : IntsIn w a len Z) (hc : Chg w w' S) (hS : ∀ x : Addr, a = some x → ¬ S x.block) : IntsIn w' a len Z := by
  refine ⟨h.src.imp_right ?_, h.le⟩
  rintro ⟨b, off, rfl, hb, hh⟩
  exact ⟨b, off, rfl, Nat.lt_of_lt_of_le hb hc.size, fun i hi => (hc.cell hb (hS _ rfl)).trans (hh i hi)⟩
def hasInt (Z : Nat → Int) (len : Nat) (c : Int) : Bool := (List.range len).any (fun i => decide (Z i = c))
theorem hasInt_true {Z : Nat → Int} {len : Nat} {c : Int} : hasInt Z len c = true ↔ ∃ i, i < len ∧ Z i = c := by
  simp [hasInt]
theorem hasInt_false {Z : Nat → Int} {len : Nat} {c : Int} : hasInt Z len c = false ↔ ∀ i, i < len → Z i ≠ c := by
  simp [hasInt]

set_option maxRecDepth 10000 in
theorem IndexInt_any (w : World) (a : Option Addr) (len cap : Nat) (Z : Nat → Int) (h : IntsIn w a len Z) (c : Int) :
    Calls Tryz.prog 181 #[.slice a len cap, .int .i64 c] w fun e w' => (∃ r : Int, e = .returned (.int .i64 r) ∧ decide (r ≥ 0) = hasInt Z len c) ∧ w' = w := by
  have HF : Hid (∀ i, (∀ j, j < i → Z j ≠ c) → i < len → Z i = c → hasInt Z len c = true) := fun i _ hi e => hasInt_true.2 ⟨i, hi, e⟩
  have HG : Hid ((∀ j, j < len → Z j ≠ c) → hasInt Z len c = false) := fun h => hasInt_false.2 h
  have hle := h.le
  have HH : Hid (IntsIn w a len Z) := h
  clear h
  generalize hasInt Z len c = r at *
  go_enter Tryz.func181, Tryz.ntmps181
  go_wp2
  go_loopw [5, 8] (fun _ i wr => ∃ j : Nat, j ≤ len ∧ i = .int .i64 j ∧ wr = w ∧ Hid (∀ q, q < j → Z q ≠ c)) (fun _ i _ => len - (intOf i).toNat)
  case atStart => exact ⟨0, by omega, rfl, rfl, fun q hq => by omega⟩
  case round =>
    obtain ⟨j, hj, rfl, rfl, HN⟩ := hrel
    by_cases hlt : j < len
    · have hltz : (j : Int) < (len : Int) := by omega
      obtain ⟨b, off, rfl, _, hh⟩ := HH.out.src.resolve_left (by omega)
      have c0 := hh j hlt
      clear hh
      by_cases he : Z j = c
      · have hr := HF.out j HN.out hlt he
        rw [he] at c0
        go_wp2
        go_ret
        exact ⟨⟨_, rfl, by first | (rw [hr]; simp) | simp⟩, rfl⟩
      · have HN' : Hid (∀ q, q < j + 1 → Z q ≠ c) := fun q hq => by
          rcases Nat.lt_or_ge q j with h1 | h1
          · exact HN.out q h1
          · have : q = j := by omega
            subst this; exact he
        have hne : (c == Z j) = false := by simp; exact fun e => he e.symm
        clear he
        generalize Z j = z at *
        go_wp2
        exact ⟨⟨j + 1, by omega, by go_num, by first | rfl | trivial, HN'⟩, by simp [intOf]; omega⟩
    · have hltz : ¬ (j : Int) < (len : Int) := by omega
      have hr := HG.out (fun q hq => HN.out q (by omega))
      go_wp2
      go_ret
      exact ⟨⟨_, rfl, by first | (rw [hr]; simp) | simp⟩, rfl⟩
theorem ContainsInt_any (w : World) (a : Option Addr) (len cap : Nat) (Z : Nat → Int) (h : IntsIn w a len Z) (c : Int) :
    Calls Tryz.prog 145 #[.slice a len cap, .int .i64 c] w fun e w' => e = .returned (.bool (hasInt Z len c)) ∧ w' = w := by
  have hI := IndexInt_any w a len cap Z h c
  clear h
  generalize hasInt Z len c = r at *
  go_enter Tryz.func145, Tryz.ntmps145
  go_wp2_with (go_at_call 181; refine hI.mono ?_; rintro e w' ⟨⟨q, rfl, hq⟩, rfl⟩)
  go_ret
  exact ⟨by rw [← hq]; rfl, rfl⟩

def ofCells (Z : Nat → Int) (len : Nat) (t : Tg) : Bool := hasInt Z len t.1
theorem goesCells (w : World) (S : Nat → Prop) (b : Nat) (a : Option Addr) (len cap : Nat) (Z : Nat → Int) (h : IntsIn w a len Z) (hb : w.heap[b]? = some (.cells #[.slice a len cap] 204 (0, 0))) (hS : ¬ S b) (ha : ∀ x : Addr, a = some x → ¬ S x.block) :
    Goes w S 144 #[.pointer (some ⟨b, 0, none⟩)] (ofCells Z len) := by
  refine ⟨enters_of Tryz.func144 (by kernel_rfl) rfl, fun W t ht hC => ?_⟩
  have hk : Kp W (W.alloc (.cells #[.int .i64 t.1, .int .u32 ((t.2 : Nat) : Int)] 162)) := (Chg.refl W _).alloc _
  have hI := ContainsInt_any (W.alloc (.cells #[.int .i64 t.1, .int .u32 ((t.2 : Nat) : Int)] 162)) a len cap Z ((h.kept hC ha).kept (S := fun _ => False) hk (fun _ _ h => h)) t.1
  have hb' := al_old (.cells #[.int .i64 t.1, .int .u32 ((t.2 : Nat) : Int)] 162) (Chg.heap hC hb hS)
  have c0 : (W.alloc (.cells #[.int .i64 t.1, .int .u32 ((t.2 : Nat) : Int)] 162)).cell? ⟨b, 0, none⟩ = some (.slice a len cap) := by rw [(cells_at hb' _).1]; rfl
  have e : ofCells Z len t = hasInt Z len t.1 := rfl
  rw [e]
  generalize hasInt Z len t.1 = r at *
  unfold tV
  show Calls Tryz.prog 144 #[.agg #[.int .i64 t.1, .int .u32 ((t.2 : Nat) : Int)], .pointer (some ⟨b, 0, none⟩)] W _
  clear hb hC hb' h ha e
  go_enter Tryz.func144, Tryz.ntmps144
  go_wp2_with (go_at_call 145; refine hI.mono ?_; rintro e w' ⟨rfl, rfl⟩)
  go_ret
  exact ⟨rfl, hk⟩
theorem goesAll (w : World) (S : Nat → Prop) : Goes w S 93 #[] (fun _ => true) := by
  refine ⟨enters_of Tryz.func93 (by kernel_rfl) rfl, fun W t ht hC => ?_⟩
  have hk : Kp W (W.alloc (.cells #[.int .i64 t.1, .int .u32 ((t.2 : Nat) : Int)] 162)) := (Chg.refl W _).alloc _
  unfold tV
  show Calls Tryz.prog 93 #[.agg #[.int .i64 t.1, .int .u32 ((t.2 : Nat) : Int)]] W _
  go_enter Tryz.func93, Tryz.ntmps93
  go_wp2
  go_ret
  exact ⟨rfl, hk⟩

theorem Flush_any (w : World) (B M : Nat) (v : Value) (n k : Nat) (s : Sta) (hT : IsT w B M v n k s) :
    Calls Tryz.prog 48 #[.pointer (some ⟨B, 0, none⟩)] w fun e w' => e = .returned (.int .i64 (((s.l.length : Nat) : Int) - (((s.drop (fun _ => true)).l.length : Nat) : Int))) ∧ ∃ v', IsT w' B M v' n k (s.drop (fun _ => true)) ∧ v'.ownBlock = v.ownBlock ∧ Chg w w' (Ft B M v) := by
  have hF := forget_any w B M v n k s (fun _ => true) 93 #[] hT (goesAll w _)
  generalize ((s.l.length : Nat) : Int) - (((s.drop (fun _ => true)).l.length : Nat) : Int) = r at *
  clear hT
  go_enter Tryz.func48, Tryz.ntmps48
  go_wp2_with (go_at_call 92; refine hF.mono ?_; rintro e w2 ⟨rfl, v', h1, h2, h3⟩)
  go_ret
  exact ⟨rfl, v', h1, h2, h3⟩
set_option maxRecDepth 10000 in
theorem FlushCell_any (w : World) (B M : Nat) (v : Value) (n k : Nat) (s : Sta) (hT : IsT w B M v n k s) (a : Option Addr) (len cap : Nat) (Z : Nat → Int) (h : IntsIn w a len Z) (ha : ∀ x : Addr, a = some x → ¬ Ft B M v x.block) :
    Calls Tryz.prog 85 #[.pointer (some ⟨B, 0, none⟩), .slice a len cap] w fun e w' => e = .returned (.int .i64 (((s.l.length : Nat) : Int) - (((s.drop (ofCells Z len)).l.length : Nat) : Int))) ∧ ∃ v', IsT w' B M v' n k (s.drop (ofCells Z len)) ∧ v'.ownBlock = v.ownBlock ∧ Chg w w' (Ft B M v) := by
  have hk : Kp w (w.alloc (.cells #[.slice a len cap] 204)) := (Chg.refl w _).alloc _
  have hF := forget_any _ B M v n k s (ofCells Z len) 144 #[.pointer (some ⟨w.heap.size, 0, none⟩)] (hT.kp hk) (goesCells _ _ w.heap.size a len cap Z (h.kept (S := fun _ => False) hk (fun _ _ h => h)) (heap_alloc_new w _) (fun h => Nat.lt_irrefl _ (hT.lt h)) ha)
  generalize ((s.l.length : Nat) : Int) - (((s.drop (ofCells Z len)).l.length : Nat) : Int) = r at *
  have HK : Hid (Kp w (w.alloc (.cells #[.slice a len cap] 204))) := hk
  clear hk hT h ha
  go_enter Tryz.func85, Tryz.ntmps85
  go_wp2_with (go_at_call 92; refine hF.mono ?_; rintro e w2 ⟨rfl, v', h1, h2, h3⟩)
  go_ret
  exact ⟨rfl, v', h1, h2, (HK.out.mono (fun _ _ h => h.elim)).trans h3 (fun _ _ h => h)⟩
end Tlb
end Go.Proofs.YtfolnmmlhknmiaaGreatDoor
