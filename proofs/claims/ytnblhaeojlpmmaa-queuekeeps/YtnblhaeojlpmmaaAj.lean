import Derived.Test.YtnblhaeojlpmmaaAi
import Derived.Lib.SlBytesConst
import Derived.Laws.IdiomStrings
namespace Go.Proofs.Ytnblhaeojlpmmaa
open Go.ChangeShapes Go.WideShapes Go.ChangeAt Go.RowKit
set_option linter.unusedVariables false
theorem bs4 (w : World) (a b c d : Int) : Bs (w.alloc (.cells #[.int .u8 a, .int .u8 b, .int .u8 c, .int .u8 d] 5)) (.slice (some ⟨w.heap.size, 0, none⟩) 4 4) [a, b, c, d] := by
  refine ⟨⟨_, 4, rfl, .inr ⟨_, 0, rfl, fun j hj => ?_⟩⟩, by simp⟩
  rw [Nat.zero_add, (cells_at (heap_alloc_new w _) j).1]
  have : j = 0 ∨ j = 1 ∨ j = 2 ∨ j = 3 := by simp at hj; omega
  rcases this with rfl | rfl | rfl | rfl <;> rfl
/-- A constant's bytes. -/
theorem bsC (w : World) (C : Array Value) (m : Nat × Nat) (l : List Int) (hC : C = (l.map fun i => Value.int .u8 i).toArray) (hl : l.length ≤ 100) : Bs (w.alloc (.cells C 5 m)) (.slice (some ⟨w.heap.size, 0, none⟩) l.length l.length) l := by
  refine ⟨⟨_, _, rfl, .inr ⟨_, 0, rfl, fun j hj => ?_⟩⟩, by omega⟩
  rw [Nat.zero_add, cell_of_row _ w.heap.size j C 5 m (heap_alloc_new w _), hC]
  simp [hj]
/-- Bytes as a text. -/
def strOf (bs : List Int) : ByteArray := bs.foldl (fun r n => r.push (UInt8.ofNat n.toNat)) ByteArray.empty
theorem conv_str (w : World) (v : Value) (bs : List Int) (h : Bs w v bs) : (convert 37 9 v).run Try.prog w = .ok (.string (strOf bs)) w := by
  obtain ⟨a, cap, rfl, hx⟩ := h.ex
  rw [run_convert_bytes_string w 37 9 5 a bs.length cap Try.underlying37 Try.underlying5 Try.underlying9]
  cases a with
  | none =>
    have : bs = [] := by rcases hx with h | ⟨b, o, e, _⟩; exact h; cases e
    subst this
    simp [Conv.bytesToString, strOf]
  | some x =>
    have hl := run_loadCells_list (P := Try.prog) w x (bs.map (Value.int .u8)) (fun j v hj => by
      rcases hx with h0 | ⟨b, o, e, hc⟩
      · subst h0; simp at hj
      · have hj' : j < bs.length := by have := (List.getElem?_eq_some_iff.1 hj).1; simpa using this
        simp only [Option.some.injEq] at e
        subst e
        rw [Addr.add_lit, hc j hj']
        simpa [hj'] using hj)
    simp only [List.length_map] at hl
    exact run_bytesToString w x bs.length cap bs hl
/-- A port that was made since W, and nothing older has changed. -/
def PoQ (W w : World) (B : Nat) (s : QS) : Prop := ∃ vq vs, IsQ w B vq vs s ∧ Kp W w ∧ ∀ k, Ft B vq vs k → W.heap.size ≤ k
section
variable {W w w' : World} {B : Nat} {s : QS}
theorem PoQ.K (h : PoQ W w B s) : Kp W w := by obtain ⟨_, _, _, k, _⟩ := h; exact k
theorem PoQ.ok (h : PoQ W w B s) : s.ok := by obtain ⟨_, _, i, _, _⟩ := h; exact i.ok
theorem PoQ.kp (h : PoQ W w B s) (hk : Kp w w') : PoQ W w' B s := by
  obtain ⟨vq, vs, i, k, f⟩ := h
  exact ⟨vq, vs, i.kp hk, k.trans hk, f⟩
theorem PoQ.step {vq vs vq' vs' : Value} {s' : QS} (k : Kp W w) (f : ∀ k, Ft B vq vs k → W.heap.size ≤ k) (i : IsQ w' B vq' vs' s') (c : Chg w w' (Ft B vq vs)) (g : ∀ k, Ft B vq' vs' k → Ft B vq vs k ∨ w.heap.size ≤ k) : PoQ W w' B s' :=
  ⟨vq', vs', i, Chg.trans k c (fun i hi e => by have := f i e; omega), fun x hx => by
    rcases g x hx with e | e
    · exact f x e
    · have := k.size; omega⟩
theorem PoQ.send (h : PoQ W w B s) (c tk : Int) (v : Value) (bs : List Int) (hv : Bs w v bs) :
    Calls Try.prog 14 #[.pointer (some ⟨B, 0, none⟩), .int .i64 c, .int .u64 tk, v] w fun e w' => e = .returned (.int .i64 (s.sE c bs.length)) ∧ ∃ v', PoQ W w' B (s.send c ⟨v', bs, tk⟩) := by
  obtain ⟨vq, vs, i, k, f⟩ := h
  refine (send_any w B vq vs s i c tk v bs hv).mono ?_
  rintro e w' ⟨he, v', vs', h1, h2, h3, _⟩
  exact ⟨he, v', PoQ.step k f h1 h2 h3⟩
theorem PoQ.recv (h : PoQ W w B s) (c : Int) :
    Calls Try.prog 12 #[.pointer (some ⟨B, 0, none⟩), .int .i64 c] w fun e w' => e = .returned (.tuple #[(s.gM c).v, .int .u64 (s.gM c).tk, .bool (s.gH c), .int .i64 (s.gE c)]) ∧ PoQ W w' B (s.recv c) ∧ OB w' (s.gM c).v (s.gM c).bs := by
  obtain ⟨vq, vs, i, k, f⟩ := h
  refine (recv_any w B vq vs s i c).mono ?_
  rintro e w' ⟨he, vq', h1, h2, h3, h4, _⟩
  refine ⟨he, PoQ.step k f h1 h2 (fun x hx => .inl ?_), h4⟩
  rcases hx with e | e | e
  · exact .inl e
  · exact .inr (.inl (by rw [← h3]; exact e))
  · exact .inr (.inr e)
theorem PoQ.turn (h : PoQ W w B s) (c : Int) :
    Calls Try.prog 13 #[.pointer (some ⟨B, 0, none⟩), .int .i64 c] w fun e w' => e = .returned (.int .i64 (s.tN c : Nat)) ∧ PoQ W w' B (s.turn c) := by
  obtain ⟨vq, vs, i, k, f⟩ := h
  refine (turn_any w B vq vs s i c).mono ?_
  rintro e w' ⟨he, vq', vs', h1, h2, h3⟩
  exact ⟨he, PoQ.step k f h1 h2 h3⟩
end
theorem PoQ.new {W w : World} {B : Nat} {d : QD} (k : Kp W w) (hB : W.heap.size ≤ B) (i : IsQ w B (.slice none 0 0) (.slice none 0 0) (QS.mt d)) : PoQ W w B (QS.mt d) :=
  ⟨_, _, i, k, fun x hx => by
    rcases hx with e | e | e
    · omega
    · simp [Value.ownBlock] at e
    · simp [Value.ownBlock] at e⟩
def exD : QD := ⟨1, 2, 8, 2, 1, true⟩
def exS : QS := QS.mt exD
def exA (v : Value) : Mg := ⟨v, [97, 98, 99, 100], 5⟩
def exB (v : Value) : Mg := ⟨v, [101, 102, 103, 104, 105, 106, 107, 108], 6⟩
set_option maxHeartbeats 2000000 in
set_option maxRecDepth 10000 in
theorem known_any (w : World) : Calls Try.prog 7 #[] w fun e w' => e = .returned (.bool true) ∧ Kp w w' := by
  have hm : QD.may ⟨1, 2, 8, 2, 1, true⟩ = true := by decide
  have hcv := fun (w : World) (C : Array Value) (n c : Nat) => Lib.run_convert_bytes_const (P := Try.prog) w 37 5 C n c Try.underlying37 Try.underlying5
  go_enter Try.func7, Try.ntmps7
  go_wp2_with fail
  go_at_call 8
  refine (new_any _ 1 2 8 2 1 true).mono ?_
  rintro e w1 ⟨k1, hc⟩
  obtain ⟨_, B, rfl, hB, hP⟩ := hc.resolve_left (fun h => by rw [hm] at h; cases h.1)
  have K1 : Hid (PoQ w w1 B exS) := PoQ.new k1 hB hP
  clear hm hc k1 hB hP
  go_wp2_with fail
  go_at_call 14
  refine ((K1.out.kp (Kp.al _ _)).send 1 5 _ [97, 98, 99, 100] (bsC w1 _ _ [97, 98, 99, 100] rfl (by simp))).mono ?_
  rintro e w2 ⟨rfl, v1, hP2⟩
  have e1 : exS.sE 1 ([97, 98, 99, 100] : List Int).length = 0 := by decide
  have e2 : exS.send 1 ⟨v1, [97, 98, 99, 100], 5⟩ = ⟨exD, 1, 0, 0, [], [exA v1]⟩ := by unfold QS.send; rw [if_pos e1]; rfl
  rw [e2] at hP2
  rw [e1]
  have K2 : Hid (PoQ w w2 B ⟨exD, 1, 0, 0, [], [exA v1]⟩) := hP2
  clear K1 hP2 e1 e2
  go_wp2_with fail
  go_at_call 14
  refine ((K2.out.kp (Kp.al _ _)).send 1 6 _ [101, 102, 103, 104, 105, 106, 107, 108] (bsC w2 _ _ [101, 102, 103, 104, 105, 106, 107, 108] rfl (by simp))).mono ?_
  rintro e w3 ⟨rfl, v2, hP3⟩
  have e1 : (⟨exD, 1, 0, 0, [], [exA v1]⟩ : QS).sE 1 ([101, 102, 103, 104, 105, 106, 107, 108] : List Int).length = 0 := by simp [QS.sE, QS.fu, exD]
  have e2 : (⟨exD, 1, 0, 0, [], [exA v1]⟩ : QS).send 1 ⟨v2, [101, 102, 103, 104, 105, 106, 107, 108], 6⟩ = ⟨exD, 2, 0, 0, [], [exA v1, exB v2]⟩ := by unfold QS.send; rw [if_pos e1]; rfl
  rw [e2] at hP3
  rw [e1]
  have K3 : Hid (PoQ w w3 B ⟨exD, 2, 0, 0, [], [exA v1, exB v2]⟩) := hP3
  clear K2 hP3 e1 e2
  go_wp2_with fail
  go_at_call 14
  refine (K3.out.send 1 7 _ [] (Bs.nil _)).mono ?_
  rintro e w4 ⟨rfl, v3, hP4⟩
  have e1 : (⟨exD, 2, 0, 0, [], [exA v1, exB v2]⟩ : QS).sE 1 ([] : List Int).length = 173 := by simp [QS.sE, QS.fu, exD]
  have e2 : (⟨exD, 2, 0, 0, [], [exA v1, exB v2]⟩ : QS).send 1 ⟨v3, [], 7⟩ = ⟨exD, 2, 0, 0, [], [exA v1, exB v2]⟩ := by unfold QS.send; rw [if_neg]; simp only; rw [e1]; decide
  rw [e2] at hP4
  rw [e1]
  have K4 : Hid (PoQ w w4 B ⟨exD, 2, 0, 0, [], [exA v1, exB v2]⟩) := hP4
  clear K3 hP4 e1 e2
  go_wp2_with fail
  go_at_call 13
  refine (K4.out.turn 1).mono ?_
  rintro e w5 ⟨rfl, hP5⟩
  have e1 : (⟨exD, 2, 0, 0, [], [exA v1, exB v2]⟩ : QS).tN 1 = 12 := by rfl
  have e2 : (⟨exD, 2, 0, 0, [], [exA v1, exB v2]⟩ : QS).turn 1 = ⟨exD, 2, 0, 0, [exA v1, exB v2], []⟩ := by rfl
  rw [e2] at hP5
  rw [e1]
  have K5 : Hid (PoQ w w5 B ⟨exD, 2, 0, 0, [exA v1, exB v2], []⟩) := hP5
  clear K4 hP5 e1 e2
  go_wp2_with fail
  go_at_call 12
  refine (K5.out.recv 2).mono ?_
  rintro e w6 ⟨rfl, hP6, o6⟩
  have e1 : (⟨exD, 2, 0, 0, [exA v1, exB v2], []⟩ : QS).gM 2 = exA v1 := by rfl
  have e2 : (⟨exD, 2, 0, 0, [exA v1, exB v2], []⟩ : QS).gH 2 = true := by rfl
  have e3 : (⟨exD, 2, 0, 0, [exA v1, exB v2], []⟩ : QS).gE 2 = 0 := by rfl
  rw [e1] at o6
  rw [e1, e2, e3]
  have hcs := conv_str w6 _ _ (o6.bs (by simp [exA]))
  have hst : strOf (exA v1).bs = ⟨#[97, 98, 99, 100]⟩ := by rfl
  rw [hst] at hcs
  have K6 : Hid (Kp w w6) := hP6.K
  clear K5 hP6 o6 e1 e2 e3 hst
  simp only [exA] at hcs ⊢
  go_wp2_with fail
  go_ret
  exact ⟨by rfl, K6.out⟩
end Go.Proofs.Ytnblhaeojlpmmaa
