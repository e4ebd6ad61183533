import Derived.Test.YtadpgaaijdpbiaaMr
namespace Go.Proofs.Ytadpgaaijdpbiaa
open Go.ChangeShapes Go.WideShapes Go.ChangeAt Go.RowKit Go.Shelf
set_option linter.unusedVariables false

def isTag (x t : Tg) : Bool := decide (t = x)
theorem goesDrop (w : World) (S : Nat → Prop) (b : Nat) (x : Tg) (hb : w.heap[b]? = some (.cells #[.int .i64 x.1, .int .u32 ((x.2 : Nat) : Int)] 31 (0, 0))) (hS : ¬ S b) : Goes w S 36 #[.pointer (some ⟨b, 0, none⟩)] (isTag x) := by
  refine ⟨enters_of Try.func36 (by kernel_rfl) rfl, fun W t ht hC => ?_⟩
  obtain ⟨c0, c1, _, _⟩ := cells2 (al_old (.cells #[.int .i64 t.1, .int .u32 ((t.2 : Nat) : Int)] 31) (Chg.heap hC hb hS))
  have heq : ∀ V, (binOp BinOp.eql 31 (.agg #[.int .i64 t.1, .int .u32 ((t.2 : Nat) : Int)]) (.agg #[.int .i64 x.1, .int .u32 ((x.2 : Nat) : Int)])).run Try.prog V = .ok (.bool (isTag x t)) V := fun V => by rw [eql31, tag_eq]; rfl
  have hk : Kp W (W.alloc (.cells #[.int .i64 t.1, .int .u32 ((t.2 : Nat) : Int)] 31)) := (Chg.refl W _).alloc _
  generalize isTag x t = r at *
  unfold tV
  show Calls Try.prog 36 #[.agg #[.int .i64 t.1, .int .u32 ((t.2 : Nat) : Int)], .pointer (some ⟨b, 0, none⟩)] W _
  clear hb hC
  go_enter Try.func36, Try.ntmps36
  go_wp2
  go_ret
  exact ⟨rfl, hk⟩

theorem drop_len (s : Sta) (x : Tg) : (s.drop (isTag x)).l.length ≤ s.l.length ∧ ((s.drop (isTag x)).l.length < s.l.length ↔ x ∈ s.l) := by
  refine ⟨List.length_filter_le _ _, ?_⟩
  show (s.l.filter fun t => !isTag x t).length < s.l.length ↔ _
  rw [List.length_filter_lt_length_iff_exists]
  constructor
  · rintro ⟨y, hy, h⟩
    simp [isTag] at h
    rw [← h]; exact hy
  · intro h
    exact ⟨x, h, by simp [isTag]⟩

set_option maxRecDepth 10000 in
theorem Drop_any (w : World) (B M : Nat) (v : Value) (n k : Nat) (s : Sta) (hT : IsT w B M v n k s) (x : Tg) :
    Calls Try.prog 18 #[.pointer (some ⟨B, 0, none⟩), tV x] w fun e w' => e = .returned (.bool (decide (x ∈ s.l))) ∧ ∃ v', IsT w' B M v' n k (s.drop (isTag x)) ∧ v'.ownBlock = v.ownBlock ∧ Chg w w' (Ft B M v) := by
  have hk : Kp w (w.alloc (.cells #[.int .i64 x.1, .int .u32 ((x.2 : Nat) : Int)] 31)) := (Chg.refl w _).alloc _
  have hF := forget_any _ B M v n k s (isTag x) 36 #[.pointer (some ⟨w.heap.size, 0, none⟩)] (hT.kp hk) (goesDrop _ _ w.heap.size x (heap_alloc_new w _) (fun h => Nat.lt_irrefl _ (hT.lt h)))
  obtain ⟨hle, hiff⟩ := drop_len s x
  have h64 : s.l.length ≤ 64 := by have := hT.ok.len; have := hT.n64; omega
  have hres : decide ((0 : Int) < ((s.l.length : Nat) : Int) - (((s.drop (isTag x)).l.length : Nat) : Int)) = decide (x ∈ s.l) := by
    apply decide_eq_decide.2
    rw [← hiff]
    omega
  rw [← hres]
  generalize ((s.l.length : Nat) : Int) - (((s.drop (isTag x)).l.length : Nat) : Int) = r at *
  have HK : Hid (Kp w (w.alloc (.cells #[.int .i64 x.1, .int .u32 ((x.2 : Nat) : Int)] 31))) := hk
  clear hk hT hle hiff h64 hres
  unfold tV
  go_enter Try.func18, Try.ntmps18
  go_wp2_with (go_at_call 32; refine hF.mono ?_; rintro e w2 ⟨rfl, v', h1, h2, h3⟩)
  go_ret
  refine ⟨by simp, v', h1, h2, (HK.out.mono (fun _ _ h => h.elim)).trans h3 (fun _ _ h => h)⟩

set_option maxRecDepth 10000 in
theorem oldest_any (w : World) (v : Value) (l : List Tg) (ho : OR w v l) (hl : 0 < l.length) (h64 : l.length ≤ 1000) :
    Calls Try.prog 47 #[v] w fun e w' => e = .returned (tV (l.getLast?.getD (0, 0))) ∧ Kp w w' := by
  rcases ho.2 with ⟨_, h0⟩ | ⟨g, cap, cur, rfl, _, hrow, _⟩
  · omega
  obtain ⟨c0, c1⟩ := OR.cells ho (l.length - 1) (by omega)
  have hla : l.getLast?.getD (0, 0) = l[l.length - 1]'(by omega) := by
    rw [List.getLast?_eq_getElem?, List.getElem?_eq_getElem (by omega)]; rfl
  rw [hla]
  have hk0 : Kp w (w.alloc (.cells #[.int .i64 0, .int .u32 0] 31)) := (Chg.refl w _).alloc _
  have c0 := Kp.cell hk0 c0
  have c1 := Kp.cell hk0 c1
  generalize (l[l.length - 1]'(by omega)) = x at *
  obtain ⟨m, hm⟩ : ∃ m, l.length = m + 1 := ⟨l.length - 1, by omega⟩
  have e1 : l.length - 1 = m := by omega
  rw [e1] at c0 c1
  rw [hm]
  have hk1 : Kp w (w.alloc (.cells #[.int .i64 x.1, .int .u32 ((x.2 : Nat) : Int)] 31)) := (Chg.refl w _).alloc _
  have hmz : (m : Int) < (m : Int) + 1 := by omega
  have hmb : m ≤ 1000 := by omega
  clear ho hla hm e1 hrow hl
  unfold tV
  go_enter Try.func47, Try.ntmps47
  go_wp2
  refine bodyPost_ret (v := .agg #[.int .i64 x.1, .int .u32 ((x.2 : Nat) : Int)]) (by simp [results, Try.results47, go_sem]) rfl ⟨rfl, hk1⟩
end Go.Proofs.Ytadpgaaijdpbiaa
