import Derived.Test.YtkggkkoblpdopaaGreatWt
import Derived.Maps.OwnSet
namespace Go.Proofs.YtkggkkoblpdopaaGreat
open Go.ChangeShapes Go.WideShapes Go.ChangeAt Go.RowKit
set_option linter.unusedVariables false

theorem newWriter_ok (n : Nat) (w : World) (hn : n ≤ 67108864) :
  Calls Tryz.prog 44 #[.int .i64 n] w fun e w' => e = .returned (.tuple #[.pointer (some ⟨w.heap.size + 1, 0, none⟩), .int .i64 0]) ∧ IsW w' (w.heap.size + 1) w.heap.size (.slice none 0 0) (.map #[] 0) n [] 0 ∧ Chg w w' (fun _ => False) := by
 have hmm := @run_makeMap Tryz.prog
 have hlt : (n : Int) ≤ 67108864 := by omega
 go_enter Tryz.func44, Tryz.ntmps44
 go_wp2
 go_ret2
 refine ⟨rfl, ⟨?_, ?_, ⟨World.ownsRow_nil _ _ _ _, by simp⟩, hn, by simp, by simp⟩, ((Chg.refl _ _).alloc _).alloc _⟩
 ·have := heap_alloc_new (w.alloc (Obj.map #[] 0)) (Obj.cells #[Value.int IntKind.i64 ↑n, Value.slice none 0 0, Value.map (some w.heap.size), Value.int IntKind.i64 0] 135)
  simpa using this
 ·rw [Below.heap_alloc _ _ _ (by simp)]; exact heap_alloc_new w _

theorem run_len_map (w : World) (M : Nat) (es : Array MapEntry) (clk : Nat) (h : w.heap[M]? = some (.map es clk)) (ty : TypeId) :
  (Builtin.len_ #[133] ty #[.map (some M)]).run Tryz.prog w = .ok (.int .i64 es.size) w := by
 have h93 := run_underlying (P := Tryz.prog) (t := 133) Tryz.underlying133
 simp [Builtin.len_, h93, MapKept.run_getObj_map h, Result.andThen, goInt]

theorem wpList_len_map {w : World} {ops : Array Oper} {rest : List Oper} {o : Oper} {a : Act} {Q : Exit → Act → World → Prop} (hgd : o.guard = none) (s : Operand)
  (ho : o.op = .call { callee := .builtin .len, args := #[s], argTypes := #[133] }) (M : Nat) (es : Array MapEntry) (clk : Nat)
  (hs : a.eval s = .map (some M)) (hM : w.heap[M]? = some (.map es clk))
  (h : wpList Tryz.prog ops Q rest (a.put o.dst (.int .i64 es.size)) w) : wpList Tryz.prog ops Q (o :: rest) a w := by
 refine wpList_plain hgd fun K hK => ?_
 unfold Oper.wp
 simp [execOp, ho, resolve, invoke, builtin, hs, run_len_map w M es clk hM, Result.andThen]
 exact hK _ _ h

theorem done_ok (w : World) (B M : Nat) (v : Value) (clk : Nat) (lim : Nat) (data : List Int) (h : IsW w B M v (.map #[] clk) lim data 0) :
  Calls Tryz.prog 26 #[.pointer (some ⟨B, 0, none⟩)] w fun e w' => ∃ v', e = .returned (.tuple #[v', .int .i64 0]) ∧ OwnB w' v' data ∧ Fresh w.heap.size v' ∧ Chg w w' (fun _ => False) := by
 have hlim := h.lim_le
 have hlen := h.len_le
 obtain ⟨a, cap, rfl, hac, hnil, hBs⟩ := h.own.shape (by omega)
 obtain ⟨c0, c1, c2, c3, cf⟩ := h.cells
 have hM := h.map
 have H : Hid (IsW w B M (.slice a data.length cap) (.map #[] clk) lim data 0 ∧ Bs w a data.length data) := ⟨h, hBs⟩
 clear h hBs cf
 go_enter Tryz.func26, Tryz.ntmps26
 go_wp2_with (at_len; refine wpList_len_map rfl _ rfl M #[] clk rfl hM ?_)
 go_at_call 71
 refine (clone_any _ a data.length cap data H.out.2).mono ?_
 rintro e w1 ⟨v', rfl, ho, hf, hc⟩
 go_wp2
 go_ret2
 exact ⟨v', rfl, ho, hf, hc⟩

theorem done_open (w : World) (B M : Nat) (v : Value) (es : Array MapEntry) (clk : Nat) (lim : Nat) (data : List Int) (h : IsW w B M v (.map es clk) lim data 0) (hes : 0 < es.size) :
  Calls Tryz.prog 26 #[.pointer (some ⟨B, 0, none⟩)] w fun e w' => e = .returned (.tuple #[.slice none 0 0, .int .i64 10]) ∧ w' = w := by
 obtain ⟨c0, c1, c2, c3, cf⟩ := h.cells
 have hM := h.map
 have hp : (0 : Int) < es.size := by omega
 clear h cf
 go_enter Tryz.func26, Tryz.ntmps26
 go_wp2_with (at_len; refine wpList_len_map rfl _ rfl M es clk rfl hM ?_)
 go_ret2
 exact ⟨rfl, rfl⟩

theorem done_bad (w : World) (B M : Nat) (v : Value) (mo : Obj) (lim : Nat) (data : List Int) (err : Int) (h : IsW w B M v mo lim data err) (he : (err == 0) = false) :
  Calls Tryz.prog 26 #[.pointer (some ⟨B, 0, none⟩)] w fun e w' => e = .returned (.tuple #[.slice none 0 0, .int .i64 err]) ∧ IsW w' B M v mo lim data err ∧ Chg w w' (fun _ => False) := by
 obtain ⟨c0, c1, c2, c3, cf⟩ := h.cells
 have H : Hid (IsW w B M v mo lim data err) := h
 clear h cf
 go_enter Tryz.func26, Tryz.ntmps26
 go_wp2_with fail
 go_quiet (fail)
 go_wp2
 go_ret2
 exact ⟨rfl, H.out.drewN _, (Chg.refl _ _).drewN _⟩

theorem m8_yes (w : World) (B M : Nat) (v : Value) (mo : Obj) (lim : Nat) (data : List Int) (n : Nat) (hn : n < 256) (h : IsW w B M v mo lim data 0) (hl : data.length + 1 ≤ lim) :
  Calls Tryz.prog 234 #[.pointer (some ⟨B, 0, none⟩), .int .u8 n] w fun r w' => r = .returned (.tuple #[]) ∧ ∃ v', IsW w' B M v' mo lim (data ++ le n 1) 0 ∧ Chg w w' (Wf B M v) ∧ Loc w v v' := by
 go_enter Tryz.func234, Tryz.ntmps234
 go_wp2_with fail
 go_at_call 239
 refine (write8_yes w B M v mo lim data n hn h hl).mono ?_
 rintro e w1 ⟨rfl, K⟩
 go_wp2
 go_end0
 exact ⟨rfl, K⟩
theorem m8_full (w : World) (B M : Nat) (v : Value) (mo : Obj) (lim : Nat) (data : List Int) (n : Nat) (h : IsW w B M v mo lim data 0) (hl : lim < data.length + 1) :
  Calls Tryz.prog 234 #[.pointer (some ⟨B, 0, none⟩), .int .u8 n] w fun r w' => r = .returned (.tuple #[]) ∧ IsW w' B M v mo lim data 12 ∧ Chg w w' (fun k => k = B) := by
 go_enter Tryz.func234, Tryz.ntmps234
 go_wp2_with fail
 go_at_call 239
 refine (write8_full w B M v mo lim data n h hl).mono ?_
 rintro e w1 ⟨rfl, K⟩
 go_wp2
 go_end0
 exact ⟨rfl, K⟩
theorem m8_bad (w : World) (B M : Nat) (v : Value) (mo : Obj) (lim : Nat) (data : List Int) (err : Int) (n : Nat) (h : IsW w B M v mo lim data err) (he : (err == 0) = false) :
  Calls Tryz.prog 234 #[.pointer (some ⟨B, 0, none⟩), .int .u8 n] w fun r w' => r = .returned (.tuple #[]) ∧ IsW w' B M v mo lim data err ∧ Chg w w' (fun _ => False) := by
 go_enter Tryz.func234, Tryz.ntmps234
 go_wp2_with fail
 go_at_call 239
 refine (write8_bad w B M v mo lim data err n h he).mono ?_
 rintro e w1 ⟨rfl, K⟩
 go_wp2
 go_end0
 exact ⟨rfl, K⟩

theorem m32_yes (w : World) (B M : Nat) (v : Value) (mo : Obj) (lim : Nat) (data : List Int) (n : Nat) (hn : n < 4294967296) (h : IsW w B M v mo lim data 0) (hl : data.length + 4 ≤ lim) :
  Calls Tryz.prog 27 #[.pointer (some ⟨B, 0, none⟩), .int .u32 n] w fun r w' => r = .returned (.tuple #[]) ∧ ∃ v', IsW w' B M v' mo lim (data ++ le n 4) 0 ∧ Chg w w' (Wf B M v) ∧ Loc w v v' := by
 go_enter Tryz.func27, Tryz.ntmps27
 go_wp2_with fail
 go_at_call 72
 refine (write32_yes w B M v mo lim data n hn h hl).mono ?_
 rintro e w1 ⟨rfl, K⟩
 go_wp2
 go_end0
 exact ⟨rfl, K⟩
theorem m32_full (w : World) (B M : Nat) (v : Value) (mo : Obj) (lim : Nat) (data : List Int) (n : Nat) (h : IsW w B M v mo lim data 0) (hl : lim < data.length + 4) :
  Calls Tryz.prog 27 #[.pointer (some ⟨B, 0, none⟩), .int .u32 n] w fun r w' => r = .returned (.tuple #[]) ∧ IsW w' B M v mo lim data 12 ∧ Chg w w' (fun k => k = B) := by
 go_enter Tryz.func27, Tryz.ntmps27
 go_wp2_with fail
 go_at_call 72
 refine (write32_full w B M v mo lim data n h hl).mono ?_
 rintro e w1 ⟨rfl, K⟩
 go_wp2
 go_end0
 exact ⟨rfl, K⟩
theorem m32_bad (w : World) (B M : Nat) (v : Value) (mo : Obj) (lim : Nat) (data : List Int) (err : Int) (n : Nat) (h : IsW w B M v mo lim data err) (he : (err == 0) = false) :
  Calls Tryz.prog 27 #[.pointer (some ⟨B, 0, none⟩), .int .u32 n] w fun r w' => r = .returned (.tuple #[]) ∧ IsW w' B M v mo lim data err ∧ Chg w w' (fun _ => False) := by
 go_enter Tryz.func27, Tryz.ntmps27
 go_wp2_with fail
 go_at_call 72
 refine (write32_bad w B M v mo lim data err n h he).mono ?_
 rintro e w1 ⟨rfl, K⟩
 go_wp2
 go_end0
 exact ⟨rfl, K⟩

theorem m64_yes (w : World) (B M : Nat) (v : Value) (mo : Obj) (lim : Nat) (data : List Int) (n : Nat) (hn : n < 18446744073709551616) (h : IsW w B M v mo lim data 0) (hl : data.length + 8 ≤ lim) :
  Calls Tryz.prog 236 #[.pointer (some ⟨B, 0, none⟩), .int .u64 n] w fun r w' => r = .returned (.tuple #[]) ∧ ∃ v', IsW w' B M v' mo lim (data ++ le n 8) 0 ∧ Chg w w' (Wf B M v) ∧ Loc w v v' := by
 go_enter Tryz.func236, Tryz.ntmps236
 go_wp2_with fail
 go_at_call 240
 refine (write64_yes w B M v mo lim data n hn h hl).mono ?_
 rintro e w1 ⟨rfl, K⟩
 go_wp2
 go_end0
 exact ⟨rfl, K⟩
theorem m64_full (w : World) (B M : Nat) (v : Value) (mo : Obj) (lim : Nat) (data : List Int) (n : Nat) (h : IsW w B M v mo lim data 0) (hl : lim < data.length + 8) :
  Calls Tryz.prog 236 #[.pointer (some ⟨B, 0, none⟩), .int .u64 n] w fun r w' => r = .returned (.tuple #[]) ∧ IsW w' B M v mo lim data 12 ∧ Chg w w' (fun k => k = B) := by
 go_enter Tryz.func236, Tryz.ntmps236
 go_wp2_with fail
 go_at_call 240
 refine (write64_full w B M v mo lim data n h hl).mono ?_
 rintro e w1 ⟨rfl, K⟩
 go_wp2
 go_end0
 exact ⟨rfl, K⟩
theorem m64_bad (w : World) (B M : Nat) (v : Value) (mo : Obj) (lim : Nat) (data : List Int) (err : Int) (n : Nat) (h : IsW w B M v mo lim data err) (he : (err == 0) = false) :
  Calls Tryz.prog 236 #[.pointer (some ⟨B, 0, none⟩), .int .u64 n] w fun r w' => r = .returned (.tuple #[]) ∧ IsW w' B M v mo lim data err ∧ Chg w w' (fun _ => False) := by
 go_enter Tryz.func236, Tryz.ntmps236
 go_wp2_with fail
 go_at_call 240
 refine (write64_bad w B M v mo lim data err n h he).mono ?_
 rintro e w1 ⟨rfl, K⟩
 go_wp2
 go_end0
 exact ⟨rfl, K⟩
end Go.Proofs.YtkggkkoblpdopaaGreat
