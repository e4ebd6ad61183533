import Derived.Test.YtgofjmhdgmfgfaaGreatDoorSh
import Derived.Lib.ItoaLen
import Derived.WalkKit
import Derived.ProofKit
import Derived.OpenShut
import Derived.Below
import Derived.BigQuiet
import Derived.Deep.QuietTactic
import Derived.ArgAppend
import Derived.Laws.OwnMore
namespace Go.Proofs.YtgofjmhdgmfgfaaGreatDoor
open Go.ChangeShapes Go.WideShapes Go.ChangeAt Go.RowKit
set_option linter.unusedVariables false

section
variable {P : Program} (w : World)

theorem loc_new {w w' : World} {e size : Nat} {v v' : Value} {n : Nat} {xs : List Value} (h : w'.ownsRow w.heap.size e size v' n xs) (hv : v' = .slice none 0 0 → v.ownBlock = none) : w'.ownsRow 0 e size v' n xs ∧ Loc w v v' := by
  rcases h.2 with ⟨rfl, rfl⟩ | ⟨g, cap, cur, rfl, hb, r⟩
  · exact ⟨⟨h.1, .inl ⟨rfl, rfl⟩⟩, .inl (by rw [hv rfl]; rfl)⟩
  · exact ⟨⟨h.1, .inr ⟨g, cap, cur, rfl, Nat.zero_le _, r⟩⟩, .inr ⟨g, rfl, hb⟩⟩

theorem run_app (t ty e : TypeId) (i : TypeInfo) (z : Value) (size bytes : Nat) (ht : P.underlying t = some (.slice e)) (hi : P.info? e = some i) (hz : i.zero = some z)
    (hsize : i.size = size) (hby : i.bytes = bytes) (hzs : z.cells.size = size) (hsz : 0 < size)
    (v : Value) (n : Nat) (xs : List Value) (hown : w.ownsRow 0 e size v n xs)
    (ao : Option Addr) (m c : Nat) (news : List Value) (hl : news.length = m * size)
    (hsrc : m = 0 ∨ ∃ b off, ao = some ⟨b, off, none⟩ ∧ ∀ j u, news[j]? = some u → w.cell? ⟨b, off + j, none⟩ = some u) (h1 : ∀ u ∈ news, u.oneCell' = true)
    (h63 : n + m ≤ maxLen) (hbytes : (n + m) * bytes ≤ 140737488355328) :
    ∃ v' w', (Builtin.append_ #[t, t] ty #[v, .slice ao m c]).run P w = .ok v' w' ∧ w'.ownsRow 0 e size v' (n + m) (xs ++ news) ∧ w.grownBy w' v.ownBlock ∧ Loc w v v' := by
  cases ao with
  | none =>
    obtain rfl : m = 0 := by rcases hsrc with h | ⟨b, off, h, _⟩; exact h; cases h
    obtain rfl : news = [] := List.eq_nil_of_length_eq_zero (by simpa using hl)
    refine ⟨v, w, ?_, by simpa using hown, ⟨rfl, rfl, rfl, Nat.le_refl _, fun _ _ _ => rfl⟩, .inl rfl⟩
    rcases hown.2 with ⟨rfl, rfl⟩ | ⟨g, cap, cur, rfl, _, _, hnc, _⟩
    · simp [Builtin.append_, run_underlying ht, sizeOf, typeInfo, hi, Builtin.lenOf, Builtin.firstCells]
    · simp [Builtin.append_, run_underlying ht, sizeOf, typeInfo, hi, Builtin.lenOf, Builtin.firstCells, hnc, storeCells]
  | some ad =>
    have hnews : ∀ j u, news[j]? = some u → w.cell? (ad.add j) = some u := by
      rcases hsrc with rfl | ⟨b, off, h, hc⟩
      · obtain rfl : news = [] := List.eq_nil_of_length_eq_zero (by simpa using hl)
        intro j u hu; simp at hu
      · simp only [Option.some.injEq] at h; subst h
        intro j u hu; rw [Addr.add_lit]; exact hc j u hu
    rcases hown.2 with ⟨rfl, rfl⟩ | ⟨g, cap, cur, rfl, hbg, hg, hnc, hcm, hcs, htake⟩
    · obtain rfl : xs = [] := List.eq_nil_of_length_eq_zero (by simpa using hown.1)
      obtain ⟨v', w', hr, h2, h3, h4⟩ := run_append_own (P := P) w w.heap.size t ty e i z size bytes ht hi hz hsize hby hzs hsz (.slice none 0 0) 0 [] (World.ownsRow_nil w _ e size) ad m c news hl hnews h1 h63 hbytes (Nat.le_refl _)
      obtain ⟨k1, k2⟩ := loc_new (v := .slice none 0 0) h2 (fun _ => rfl)
      exact ⟨v', w', hr, k1, h3, k2⟩
    · by_cases hroom : n + m ≤ cap
      · obtain ⟨w', hr, h2, h3⟩ := run_append_fits (P := P) w 0 t ty e i size ht hi hsize g n cap xs hown ad m c news hl hnews h1 hroom
        exact ⟨_, w', hr, h2, h3, .inl rfl⟩
      · have holds := hown.cells (g := g) rfl
        obtain ⟨v', w', hr, h2, h3⟩ := run_append_arg_grows (P := P) w t ty e i z size bytes ht hi hz hsize hby hzs hsz ⟨g, 0, none⟩ n cap xs hown.1 holds ad m c news hl hnews (by omega) h63 hbytes
        rcases h2.2 with ⟨_, h0⟩ | ⟨g', cap', cur', rfl, hb', r'⟩
        · omega
        · exact ⟨_, w', hr, ⟨h2.1, .inr ⟨g', cap', cur', rfl, Nat.zero_le _, r'⟩⟩, ⟨h3.os, h3.tape, h3.output, h3.size, fun k hk _ => h3.block k hk (by simp)⟩, .inr ⟨g', rfl, hb'⟩⟩

theorem wpList_append_run {ops : Array Oper} {rest : List Oper} {o : Oper} {a : Act} {Q : Exit → Act → World → Prop} (hgd : o.guard = none) (s x : Operand) (t u : TypeId)
    (ho : o.op = .call { callee := .builtin .append, args := #[s, x], argTypes := #[t, u] }) (v y v' : Value) (w' : World)
    (hs : a.eval s = v) (hx : a.eval x = y) (hrun : (Builtin.append_ #[t, u] o.type #[v, y]).run P w = .ok v' w')
    (h : wpList P ops Q rest (a.put o.dst v') w') : wpList P ops Q (o :: rest) a w := by
  refine wpList_plain hgd fun K hK => ?_
  unfold Oper.wp
  simp [execOp, ho, resolve, invoke, builtin, hs, hx, hrun, Result.andThen]
  exact hK _ _ h
end
/-- What the variables hold. -/
def Gg (w : World) : Prop := Gt w ∧ Lib.TabIs Tryz.prog w "internal/strconv.uint64pow10" .u64 Lib.pow10Tab
theorem gPow : Tryz.prog.globalNamed "internal/strconv.uint64pow10" = some 3 := by kernel_rfl
theorem Gg.keep {w w' : World} (h : Gg w) (k : Kp w w') : Gg w' := by
  refine ⟨h.1.keep k, ?_⟩
  have h2 := h.2
  unfold Lib.TabIs World.var? at h2 ⊢
  rw [gPow] at h2 ⊢
  simp only [Option.bind_some] at h2 ⊢
  cases hq : w.heap[3]? with
  | none => rw [hq] at h2; cases h2
  | some o => rw [Kp.heap k hq]; rw [hq] at h2; exact h2
/-- Texts, in a list of one's own. -/
abbrev OS (w : World) (v : Value) (l : List ByteArray) : Prop := w.ownsRow 0 9 1 v l.length (l.map fun s => .string s)
theorem hp_lt {w : World} {b : Nat} {o : Obj} (h : w.heap[b]? = some o) : b < w.heap.size := (Array.getElem?_eq_some_iff.1 h).1
theorem OS.at {w : World} {v : Value} {l : List ByteArray} (h : OS w v l) : (v = .slice none 0 0 ∧ l = []) ∨ ∃ g cap, v = .slice (some ⟨g, 0, none⟩) l.length cap ∧ l.length ≤ cap ∧ g < w.heap.size ∧ ∀ (i : Nat) x, l[i]? = some x → w.cell? ⟨g, 0 + i, none⟩ = some (.string x) := by
  rcases h.2 with ⟨h1, h2⟩ | ⟨g, cap, cur, h1, h2, h3, h4, h5, h6, h7⟩
  · left; exact ⟨h1, List.eq_nil_of_length_eq_zero h2⟩
  · right
    refine ⟨g, cap, h1, h4, hp_lt h3, fun i x hx => ?_⟩
    have hi : i < l.length := (List.getElem?_eq_some_iff.1 hx).1
    rw [Nat.zero_add, (cells_at h3 i).1, ← Array.getElem?_toList]
    have e := congrArg (fun l => l[i]?) h7
    simp only [Nat.mul_one] at e
    rw [List.getElem?_take, if_pos hi] at e
    rw [e, List.getElem?_map, hx]
    rfl
theorem info9 : ∃ i, Tryz.prog.info? 9 = some i ∧ i.zero = some (.string ⟨#[]⟩) ∧ i.size = 1 ∧ i.bytes = 16 := by
  have hz : (Tryz.prog.info? 9).map (fun i => (i.zero, i.size, i.bytes)) = some (some (.string ⟨#[]⟩), 1, 16) := by kernel_rfl
  cases hq : Tryz.prog.info? 9 with
  | none => rw [hq] at hz; cases hz
  | some i =>
    rw [hq] at hz
    have hz2 : i.zero = some (.string ⟨#[]⟩) ∧ i.size = 1 ∧ i.bytes = 16 := by simpa using hz
    exact ⟨i, rfl, hz2⟩
/-- 'append(v, s)'. -/
theorem app_str (w : World) (v : Value) (l : List ByteArray) (h : OS w v l) (s : ByteArray) (hl : l.length < 100) :
    ∃ v' w', (Builtin.append_ #[39, 39] 39 #[v, .slice (some ⟨w.heap.size, 0, none⟩) 1 1]).run Tryz.prog (w.alloc (.cells #[.string s] 9)) = .ok v' w' ∧ OS w' v' (l ++ [s]) ∧ Chg w w' (fun i => v.ownBlock = some i) ∧ Loc (w.alloc (.cells #[.string s] 9)) v v' := by
  obtain ⟨i0, hi, hz, hs, hb⟩ := info9
  have ha : OS (w.alloc (.cells #[.string s] 9)) v l := Chg.owns ((Chg.refl w (fun _ => False)).alloc _) h (fun _ _ h => h)
  obtain ⟨v', w', hr, ho, hg, hL⟩ := run_app (P := Tryz.prog) (w.alloc (.cells #[.string s] 9)) 39 39 9 i0 (.string ⟨#[]⟩) 1 16 Tryz.underlying39 hi hz hs hb rfl (by omega) v l.length _ ha (some ⟨w.heap.size, 0, none⟩) 1 1 [.string s] rfl (.inr ⟨_, _, rfl, fun j u hu => by
    have : j = 0 := by cases j with
      | zero => rfl
      | succ j => simp at hu
    subst this
    rw [(cells_at (heap_alloc_new w _) _).1]
    simpa using hu⟩) (by simp [Value.oneCell']) (by simp [maxLen]; omega) (by omega)
  refine ⟨v', w', hr, ?_, ?_, hL⟩
  · have e1 : (l ++ [s]).length = l.length + 1 := by simp
    unfold OS
    rw [e1, List.map_append]
    exact ho
  · exact Chg.grown ((Chg.refl w _).alloc _) hg (fun k hk => .inl hk)

theorem number_any (w : World) (hg : Gg w) (n : Int) (h0 : -2147483648 ≤ n) (h1 : n ≤ 2147483647) :
    Calls Tryz.prog 75 #[.int .i32 n] w fun e w' => e = .returned (.string (sb (Lib.itoa n))) ∧ Kp w w' := by
  have hI := itoa_any n (by omega) (by omega) w hg.2
  have hw : wrap64 n = n := by simp only [wrap64]; omega
  generalize hs : Lib.itoa n = s at *
  have hI' : Calls Tryz.prog 116 #[.int .i64 n] w fun e w' => e = .returned (.string (sb s)) ∧ Kp w w' := hI
  clear hI hs
  generalize sb s = t at *
  go_enter Tryz.func75, Tryz.ntmps75
  go_wp2_with (go_at_call 116; refine hI'.mono ?_; rintro e w1 ⟨rfl, k1⟩)
  go_ret
  exact ⟨rfl, k1⟩
/-- A register's name. -/
def rgT (r : Nat) : List UInt8 := 114 :: Lib.itoa (r : Int)
theorem sb_app (a b : List UInt8) : (⟨#[]⟩ : ByteArray) = sb [] ∧ sb a ++ sb b = sb (a ++ b) := by
  refine ⟨rfl, ?_⟩
  apply ByteArray.ext
  simp [sb]
theorem register_any (w : World) (hg : Gg w) (r : Nat) (hr : r < 256) :
    Calls Tryz.prog 74 #[.int .u8 r] w fun e w' => e = .returned (.string (sb (rgT r))) ∧ Kp w w' := by
  have hN := number_any w hg (r : Int) (by omega) (by omega)
  have hE : Hid ((⟨#[114]⟩ : ByteArray) ++ sb (Lib.itoa (r : Int)) = sb (rgT r)) := (sb_app [114] (Lib.itoa (r : Int))).2
  have hw : wrap32 (r : Int) = (r : Int) := by simp only [wrap32]; omega
  have hz : (sb (Lib.itoa (r : Int))).size ≤ 21 := by rw [sb_size]; exact Lib.itoa_length_le _ (by omega) (by omega)
  generalize sb (Lib.itoa (r : Int)) = t at *
  generalize sb (rgT r) = u at *
  have hz' : ¬ 9223372036854775807 < 1 + t.size := by omega
  go_enter Tryz.func74, Tryz.ntmps74
  go_wp2_with (go_at_call 75; refine hN.mono ?_; rintro e w1 ⟨rfl, k1⟩)
  go_ret
  exact ⟨congrArg (fun s => Ending.returned (.string s)) hE.out, k1⟩
end Go.Proofs.YtgofjmhdgmfgfaaGreatDoor
