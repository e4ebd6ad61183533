import Derived.Test.YtfcpkcbiinbmiaaJj
import Derived.Laws.Rows
namespace Go.Proofs.Ytfcpkcbiinbmiaa
open Go.ChangeShapes Go.WideShapes Go.ChangeAt Go.RowKit Go.ChangeMaps
set_option linter.unusedVariables false
theorem ext_sz (str : ByteArray) : (str.extract 0 70000).size ≤ 70000 := by
  rw [ByteArray.size_extract]; omega
set_option maxHeartbeats 2000000 in
set_option maxRecDepth 10000 in
theorem cut_00 (w : World) (kind nn kk : Int) (ba : Option Addr) (bl bc : Nat) (str : ByteArray) (hbl : bl ≤ 3000) (hbc : bl ≤ bc) (hst : str.size ≤ 70000) (hst2 : str.size ≤ 140737488355328) (hbb : bl ≤ 140737488355328) :
    Calls Try.prog 32 #[.agg #[.int .i64 kind, .int .u64 nn, .int .i64 kk, .slice ba bl bc, .string str]] w fun r w' => ∃ bl' str', r = .returned (.agg #[.int .i64 kind, .int .u64 nn, .int .i64 kk, .slice ba bl' bc, .string str']) ∧ bl' ≤ 3000 ∧ bl' ≤ bl ∧ str'.size ≤ 70000 ∧ Kp w w' := by
  obtain ⟨z, hz⟩ : ∃ z, z = str.size := ⟨_, rfl⟩
  have hzz : ((str.size : Nat) : Int) = z := by rw [hz]
  have HZ : Hid (z = str.size) := hz
  have h1 : ¬ (bl : Int) > 3000 := by omega
  have h2 : ¬ (z : Int) > 70000 := by omega
  have h3 : (3000 : Int) ≤ (bc : Int) ∨ True := .inr trivial
  skip
  skip
  have hzb : z ≤ 140737488355328 := by omega
  clear hz hst hst2 h3
  go_enter Try.func32, Try.ntmps32
  go_wp2
  refine bodyPost_ret (results_cell_row rfl _ _ (w.heap.size + 1) 44 _ (0, 0) _ rfl (heap_alloc2_new w _ _) Try.underlying44 rfl (by kernel_rfl)) rfl ?_
  exact ⟨bl, str, rfl, by omega, by omega, by have := HZ.out; omega, (Kp.al _ _).trans (Kp.al _ _)⟩
set_option maxHeartbeats 2000000 in
set_option maxRecDepth 10000 in
theorem cut_10 (w : World) (kind nn kk : Int) (ba : Option Addr) (bl bc : Nat) (str : ByteArray) (hbl : 3000 < bl) (hbc : bl ≤ bc) (hst : str.size ≤ 70000) (hst2 : str.size ≤ 140737488355328) (hbb : bl ≤ 140737488355328) :
    Calls Try.prog 32 #[.agg #[.int .i64 kind, .int .u64 nn, .int .i64 kk, .slice ba bl bc, .string str]] w fun r w' => ∃ bl' str', r = .returned (.agg #[.int .i64 kind, .int .u64 nn, .int .i64 kk, .slice ba bl' bc, .string str']) ∧ bl' ≤ 3000 ∧ bl' ≤ bl ∧ str'.size ≤ 70000 ∧ Kp w w' := by
  obtain ⟨z, hz⟩ : ∃ z, z = str.size := ⟨_, rfl⟩
  have hzz : ((str.size : Nat) : Int) = z := by rw [hz]
  have HZ : Hid (z = str.size) := hz
  have h1 : (bl : Int) > 3000 := by omega
  have h2 : ¬ (z : Int) > 70000 := by omega
  have h3 : (3000 : Int) ≤ (bc : Int) ∨ True := .inr trivial
  have h4 : (3000 : Int) ≤ (bc : Int) := by omega
  skip
  have hzb : z ≤ 140737488355328 := by omega
  clear hz hst hst2 h3
  go_enter Try.func32, Try.ntmps32
  go_wp2
  refine bodyPost_ret (results_cell_row rfl _ _ (w.heap.size + 1) 44 _ (0, 0) _ rfl (heap_alloc2_new w _ _) Try.underlying44 rfl (by kernel_rfl)) rfl ?_
  exact ⟨3000, str, rfl, by omega, by omega, by have := HZ.out; omega, (Kp.al _ _).trans (Kp.al _ _)⟩
set_option maxHeartbeats 2000000 in
set_option maxRecDepth 10000 in
theorem cut_01 (w : World) (kind nn kk : Int) (ba : Option Addr) (bl bc : Nat) (str : ByteArray) (hbl : bl ≤ 3000) (hbc : bl ≤ bc) (hst : 70000 < str.size) (hst2 : str.size ≤ 140737488355328) (hbb : bl ≤ 140737488355328) :
    Calls Try.prog 32 #[.agg #[.int .i64 kind, .int .u64 nn, .int .i64 kk, .slice ba bl bc, .string str]] w fun r w' => ∃ bl' str', r = .returned (.agg #[.int .i64 kind, .int .u64 nn, .int .i64 kk, .slice ba bl' bc, .string str']) ∧ bl' ≤ 3000 ∧ bl' ≤ bl ∧ str'.size ≤ 70000 ∧ Kp w w' := by
  obtain ⟨z, hz⟩ : ∃ z, z = str.size := ⟨_, rfl⟩
  have hzz : ((str.size : Nat) : Int) = z := by rw [hz]
  have HZ : Hid (z = str.size) := hz
  have h1 : ¬ (bl : Int) > 3000 := by omega
  have h2 : (z : Int) > 70000 := by omega
  have h3 : (3000 : Int) ≤ (bc : Int) ∨ True := .inr trivial
  skip
  have h5 : (70000 : Int) ≤ (z : Int) := by omega
  have hzb : z ≤ 140737488355328 := by omega
  clear hz hst hst2 h3
  go_enter Try.func32, Try.ntmps32
  go_wp2
  refine bodyPost_ret (results_cell_row rfl _ _ (w.heap.size + 1) 44 _ (0, 0) _ rfl (heap_alloc2_new w _ _) Try.underlying44 rfl (by kernel_rfl)) rfl ?_
  exact ⟨bl, str.extract 0 70000, rfl, by omega, by omega, ext_sz str, (Kp.al _ _).trans (Kp.al _ _)⟩
set_option maxHeartbeats 2000000 in
set_option maxRecDepth 10000 in
theorem cut_11 (w : World) (kind nn kk : Int) (ba : Option Addr) (bl bc : Nat) (str : ByteArray) (hbl : 3000 < bl) (hbc : bl ≤ bc) (hst : 70000 < str.size) (hst2 : str.size ≤ 140737488355328) (hbb : bl ≤ 140737488355328) :
    Calls Try.prog 32 #[.agg #[.int .i64 kind, .int .u64 nn, .int .i64 kk, .slice ba bl bc, .string str]] w fun r w' => ∃ bl' str', r = .returned (.agg #[.int .i64 kind, .int .u64 nn, .int .i64 kk, .slice ba bl' bc, .string str']) ∧ bl' ≤ 3000 ∧ bl' ≤ bl ∧ str'.size ≤ 70000 ∧ Kp w w' := by
  obtain ⟨z, hz⟩ : ∃ z, z = str.size := ⟨_, rfl⟩
  have hzz : ((str.size : Nat) : Int) = z := by rw [hz]
  have HZ : Hid (z = str.size) := hz
  have h1 : (bl : Int) > 3000 := by omega
  have h2 : (z : Int) > 70000 := by omega
  have h5 : (70000 : Int) ≤ (z : Int) := by omega
  have h3 : (3000 : Int) ≤ (bc : Int) ∨ True := .inr trivial
  have h4 : (3000 : Int) ≤ (bc : Int) := by omega
  skip
  have hzb : z ≤ 140737488355328 := by omega
  clear hz hst hst2 h3
  go_enter Try.func32, Try.ntmps32
  go_wp2
  refine bodyPost_ret (results_cell_row rfl _ _ (w.heap.size + 1) 44 _ (0, 0) _ rfl (heap_alloc2_new w _ _) Try.underlying44 rfl (by kernel_rfl)) rfl ?_
  exact ⟨3000, str.extract 0 70000, rfl, by omega, by omega, ext_sz str, (Kp.al _ _).trans (Kp.al _ _)⟩
theorem cut_any (w : World) (kind nn kk : Int) (ba : Option Addr) (bl bc : Nat) (str : ByteArray) (hbc : bl ≤ bc) (hst2 : str.size ≤ 140737488355328) (hbb : bl ≤ 140737488355328) :
    Calls Try.prog 32 #[.agg #[.int .i64 kind, .int .u64 nn, .int .i64 kk, .slice ba bl bc, .string str]] w fun r w' => ∃ bl' str', r = .returned (.agg #[.int .i64 kind, .int .u64 nn, .int .i64 kk, .slice ba bl' bc, .string str']) ∧ bl' ≤ 3000 ∧ bl' ≤ bl ∧ str'.size ≤ 70000 ∧ Kp w w' := by
  by_cases h1 : bl ≤ 3000
  · by_cases h2 : str.size ≤ 70000
    · exact cut_00 w kind nn kk ba bl bc str h1 hbc h2 hst2 hbb
    · exact cut_01 w kind nn kk ba bl bc str h1 hbc (by omega) hst2 hbb
  · by_cases h2 : str.size ≤ 70000
    · exact cut_10 w kind nn kk ba bl bc str (by omega) hbc h2 hst2 hbb
    · exact cut_11 w kind nn kk ba bl bc str (by omega) hbc (by omega) hst2 hbb
section
variable {w0 w : World} {σ : Nat → Nat × Nat} {K B M D X n : Nat} {v vb vo pl : Value} {s : WS} {P : List Nat} {sz dn : Int} {es hs : List En}
/-- One step, whatever it is. -/
theorem step_any (h : MW w0 w σ K B M D v n vb vo s es [] hs) (hB : MB w σ X B D pl P sz dn) (o : Nat) (ho : ∀ e, e ∈ hs → e.o < o) (hn : n ≤ 500000) (hops : s.ops.length ≤ 500000) (hP : P.length ≤ 500000) (kd nn kk : Int) (hn1 : 0 ≤ nn) (hn2 : nn ≤ 18446744073709551615) (hk1 : -9223372036854775808 ≤ kk) (hk2 : kk ≤ 9223372036854775807) (ba : Option Addr) (bl bc : Nat) (str : ByteArray) (bs : List Int) (hbs : Bs w0 ba bl bs) (hbl : bl ≤ 100000) (hbc : bl ≤ bc) (hst : str.size ≤ 100000) :
    Calls Try.prog 34 #[.pointer (some ⟨X, 0, none⟩), .agg #[.int .i64 kd, .int .u64 nn, .int .i64 kk, .slice ba bl bc, .string str], .pointer (some ⟨K, 0, none⟩)] w fun r w' => r = .returned (.bool true) ∧ St w0 w w' σ K B M D X n s P sz dn es hs o := by
  obtain ⟨N, rfl⟩ : ∃ N : Nat, nn = N := ⟨nn.toNat, by omega⟩
  have hN : N < 18446744073709551616 := by omega
  by_cases e1 : kd = 1
  · subst e1; exact st_n1 h hB o ho hn hops N hN kk hk1 hk2 ba bl bc str
  by_cases e2 : kd = 2
  · subst e2; exact st_n2 h hB o ho hn hops N hN kk hk1 hk2 ba bl bc str
  by_cases e3 : kd = 3
  · subst e3; exact st_n3 h hB o ho hn hops N hN kk hk1 hk2 ba bl bc str
  by_cases e4 : kd = 4
  · subst e4; exact st_n4 h hB o ho hn hops N hN kk hk1 hk2 ba bl bc str
  by_cases e5 : kd = 5
  · subst e5; exact st_raw h hB o ho hn hops N kk ba bl bc str bs hbs hbl hbc
  by_cases e6 : kd = 6
  · subst e6; exact st_text h hB o ho hn hops N hN kk hk1 hk2 ba bl bc str hst
  by_cases e7 : kd = 7
  · subst e7; exact st_pad h hB o ho hn hops N hN kk hk1 hk2 ba bl bc str
  by_cases e8 : kd = 8
  · subst e8; exact st_open h hB o ho hn hops N kk ba bl bc str hP
  by_cases e9 : kd = 9
  · subst e9; exact st_shut h hB o ho hn hops N hN kk hk1 hk2 ba bl bc str
  by_cases e10 : kd = 10
  · subst e10; exact st_done h hB o ho hn hops N kk ba bl bc str
  by_cases e12 : kd = 12
  · subst e12
    by_cases h0 : P.length = 0
    · exact st_last_no h hB o ho hn hops N kk ba bl bc str h0
    · exact st_last h hB o ho hn hops N kk hk1 hk2 ba bl bc str (by omega) hP
  by_cases e13 : kd = 13
  · subst e13; exact st_opens h hB o ho hn hops N kk hk1 hk2 ba bl bc str hP
  by_cases e14 : kd = 14
  · subst e14; exact st_shuts h hB o ho hn hops N kk ba bl bc str hP
  exact st_none h hB o ho hn hops N kk ba bl bc str kd (by simpa using e1) (by simpa using e2) (by simpa using e3) (by simpa using e4) (by simpa using e5) (by simpa using e6) (by simpa using e7) (by simpa using e8) (by simpa using e9) (by simpa using e10) (by simpa using e12) (by simpa using e13) (by simpa using e14)
end
end Go.Proofs.Ytfcpkcbiinbmiaa
namespace Go.Proofs.Ytfcpkcbiinbmiaa
open Go.ChangeShapes Go.WideShapes Go.ChangeAt Go.RowKit Go.ChangeMaps
set_option linter.unusedVariables false
theorem OM.new {w : World} {M : Nat} (h : w.heap[M]? = some (.map #[] 0)) : OM w M 0 (fun _ => false) 0 := by
  refine ⟨.map [], ?_, ?_, ?_⟩
  · obtain ⟨es, clk, q1, r⟩ := World.ownsMap_made (H := Unit) w Try.prog 3 unitElem
    have e := heap_alloc_new w (.map #[] 0)
    rw [e] at q1
    cases q1
    exact ⟨_, _, h, r⟩
  · intro i; rfl
  · rfl
/-- The labels at the beginning. -/
def s0 (K B M D X : Nat) (k : Nat) : Nat × Nat := if k = K then (1, 99) else if k = B ∨ k = M then (0, 1) else if k = D then (0, 2) else if k = X then (0, 3) else (0, 0)
theorem MW.init {w0 w : World} {K B M D X L : Nat} (hbel : Below w0.heap.size w0 w) (hW : IsW w B M (.slice none 0 0) (.map #[] 0) L [] 0) (hV : VW w D (.slice none 0 0) (.slice none 0 0) ⟨L, [], [], 0⟩) (hK : w.heap[K]? = some (.cells #[.slice none 0 0, .slice none 0 0, .slice none 0 0, .slice none 0 0, .slice none 0 0, .slice none 0 0] 64 (0, 0))) (hX : w.heap[X]? = some (.cells #[.pointer (some ⟨B, 0, none⟩), .pointer (some ⟨D, 0, none⟩), .slice none 0 0, .int .i64 0, .int .i64 0] 68 (0, 0))) (zB : w0.heap.size ≤ B) (zM : w0.heap.size ≤ M) (zD : w0.heap.size ≤ D) (zK : w0.heap.size ≤ K) (zX : w0.heap.size ≤ X) :
    MW w0 w (s0 K B M D X) K B M D (.slice none 0 0) 0 (.slice none 0 0) (.slice none 0 0) ⟨L, [], [], 0⟩ [] [] [] ∧ MB w (s0 K B M D X) X B D (.slice none 0 0) [] 0 0 := by
  have hB := hW.box
  have hM := hW.map
  have hD := hV.box
  have n1 : B ≠ K := fun e => by rw [e, hK] at hB; simp at hB
  have n2 : M ≠ K := fun e => by rw [e, hK] at hM; simp at hM
  have n3 : D ≠ K := fun e => by rw [e, hK] at hD; simp at hD
  have n4 : D ≠ B := fun e => by rw [e, hB] at hD; simp at hD
  have n5 : D ≠ M := fun e => by rw [e, hM] at hD; simp at hD
  have n6 : X ≠ K := fun e => by rw [e, hK] at hX; simp at hX
  have n7 : X ≠ B := fun e => by rw [e, hB] at hX; simp at hX
  have n8 : X ≠ M := fun e => by rw [e, hM] at hX; simp at hX
  have n9 : X ≠ D := fun e => by rw [e, hD] at hX; simp at hX
  have sX : s0 K B M D X X = (0, 3) := by simp [s0, n6, n7, n8, n9]
  have sB : s0 K B M D X B = (0, 1) := by simp [s0, n1]
  have sM : s0 K B M D X M = (0, 1) := by simp [s0, n2]
  have sD : s0 K B M D X D = (0, 2) := by simp [s0, n3, n4, n5]
  have sz : ∀ k, k ≠ K → k ≠ B → k ≠ M → k ≠ D → k ≠ X → s0 K B M D X k = (0, 0) := fun k h1 h2 h3 h4 h5 => by simp [s0, h1, h2, h3, h4, h5]
  have lB := hp_lt hB
  have lM := hp_lt hM
  have lD := hp_lt hD
  have lK := hp_lt hK
  have lX := hp_lt hX
  refine ⟨⟨⟨fun _ => .slice none 0 0, fun _ => [], ⟨⟨⟨hK, by simp [s0], fun i hi => ⟨World.ownsRow_nil _ _ _ _, Lb.nil _ _⟩, fun k hk => sz k (by omega) (by omega) (by omega) (by omega) (by omega)⟩, Ent.nil _ _ _ _ _, rfl, by simp, by simp, Ent.nil _ _ _ _ _, Ent.nil _ _ _ _ _, rfl, by simp, by simp, by simp⟩, Ent.nil _ _ _ _ _⟩⟩, ⟨⟨_, hW⟩, OM.new hM, ⟨by simp, by simp⟩⟩, hV, fun k hk => ?_, fun k hk => ?_, hbel, fun b hb => sz b (by omega) (by omega) (by omega) (by omega) (by omega)⟩, ⟨hX, World.ownsRow_nil _ _ _ _, sX, fun b hb => by simp [Value.ownBlock] at hb, by simp⟩⟩
  · rcases hk with e | e | e
    · rw [e]; exact sB
    · rw [e]; exact sM
    · simp [Value.ownBlock] at e
  · rcases hk with e | e | e
    · rw [e]; exact sD
    · simp [Value.ownBlock] at e
    · simp [Value.ownBlock] at e
/-- The world between two steps. -/
structure Wr (w0 w : World) (K B M D X : Nat) (k : Nat) (hs : List En) : Prop where
  i : ∃ σ v n vb vo s pl P sz dn es, MW w0 w σ K B M D v n vb vo s es [] hs ∧ MB w σ X B D pl P sz dn ∧ es.length ≤ 4 * k ∧ n ≤ 300 * k ∧ s.ops.length ≤ 300 * k ∧ P.length ≤ 300 * k ∧ (0 ≤ sz ∧ sz ≤ 150000) ∧ 0 ≤ dn ∧ dn ≤ 8
  lh : hs.length ≤ 2
  nh : ∀ e, e ∈ hs → e.o < 2 * k
theorem look_w {w0 w : World} {σ : Nat → Nat × Nat} {K B M D n : Nat} {v vb vo : Value} {s : WS} {es fs hs : List En} (h : MW w0 w σ K B M D v n vb vo s es fs hs) (hl : es.length + 2 * hs.length < 200000) :
    Calls Try.prog 35 #[.pointer (some ⟨K, 0, none⟩)] w fun e w' => e = .returned (.bool true) ∧ ∃ σ' es', MW w0 w' σ' K B M D v n vb vo s es' [] fs ∧ Sf w σ w' σ' ∧ es'.length = es.length + 2 * hs.length := by
  obtain ⟨V, Y, hb⟩ := h.bk
  refine (looks_any w σ K V Y es fs hs hb hl).mono ?_
  rintro e w' ⟨rfl, σ', V', X', es', hb', hsf, hln⟩
  refine ⟨rfl, σ', es', ⟨⟨V', X', hb'⟩, h.pw.other hsf.ch (fun k hk e => e (by rw [h.lp k hk])), h.vw.other hsf.ch (fun k hk e => e (by rw [h.lv k hk])), fun k hk => ?_, fun k hk => ?_, h.bel.trans (hsf.ch.below h.bel.size (fun k hk e => e (by rw [h.lo k hk]))), fun b hb9 => ?_⟩, hsf, hln⟩
  · have hlt : k < w.heap.size := by
      rcases hk with e | e | e
      · rw [e]; exact h.pw.Blt
      · rw [e]; obtain ⟨mo, hW⟩ := h.pw.is; exact hp_lt hW.map
      · exact h.pw.vlt k e
    rw [hsf.ex k hlt (by rw [h.lp k hk])]; exact h.lp k hk
  · have hlt : k < w.heap.size := by
      rcases hk with e | e | e
      · rw [e]; exact hp_lt h.vw.box
      · exact own_lt h.vw.own.1 e
      · exact own_lt h.vw.opn e
    rw [hsf.ex k hlt (by rw [h.lv k hk])]; exact h.lv k hk
  · rw [hsf.ex b (Nat.lt_of_lt_of_le hb9 h.bel.size) (by rw [h.lo b hb9])]; exact h.lo b hb9
theorem MB.sf {w w' : World} {σ σ' : Nat → Nat × Nat} {X B D : Nat} {pl : Value} {P : List Nat} {sz dn : Int} (h : MB w σ X B D pl P sz dn) (m : Sf w σ w' σ') : MB w' σ' X B D pl P sz dn :=
  ⟨m.ch.heap h.box (fun e => e (by rw [h.lx])), m.ch.owns h.row (fun b hb e => e (by rw [h.lr b hb])), by rw [m.ex X (hp_lt h.box) (by rw [h.lx])]; exact h.lx, fun b hb => by rw [m.ex b (own_lt h.row hb) (by rw [h.lr b hb])]; exact h.lr b hb, h.pb⟩
end Go.Proofs.Ytfcpkcbiinbmiaa
