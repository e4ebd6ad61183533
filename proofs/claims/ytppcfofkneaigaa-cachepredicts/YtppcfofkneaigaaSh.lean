import Derived.Test.YtppcfofkneaigaaNw
namespace Go.Proofs.Ytppcfofkneaigaa
open Go.ChangeShapes Go.WideShapes Go.ChangeAt Go.RowKit
set_option linter.unusedVariables false

/-- Which of n things the raw number speaks of. -/
def pk (c : Int) (n : Nat) : Nat := (if c < 0 then -(c + 1) else c).toNat % n
theorem pk_lt (c : Int) (n : Nat) (h : 0 < n) : pk c n < n := Nat.mod_lt _ h
def InI (c : Int) : Prop := -9223372036854775808 ≤ c ∧ c ≤ 9223372036854775807

set_option maxRecDepth 10000 in
theorem pick_any (w : World) (c : Int) (n : Nat) (hn : 0 < n) (hn2 : n ≤ 4611686018427387904) (h : InI c) :
    Calls Try.prog 11 #[.int .i64 c, .int .i64 n] w fun e w' => e = .returned (.int .i64 (pk c n : Nat)) ∧ w' = w := by
  obtain ⟨h1, h2⟩ := h
  have hne : ((n : Int) == 0) = false := by simp; omega
  obtain ⟨r, hr⟩ : ∃ r : Int, r = (pk c n : Nat) := ⟨_, rfl⟩
  rw [← hr]
  have HR : Hid (r = (pk c n : Nat)) := hr
  clear hr
  by_cases hc : c < 0
  · have e1 : IntKind.i64.wrap (c + 1) = c + 1 := by simp [IntKind.wrap, IntKind.bits, IntKind.signed]; omega
    go_enter Try.func11, Try.ntmps11
    go_wp2
    go_ret
    refine ⟨ret_int ?_, rfl⟩
    rw [HR.out]; unfold pk
    rw [if_pos hc]
    obtain ⟨d, hd⟩ : ∃ d : Nat, -(c + 1) = d := ⟨(-(c + 1)).toNat, by omega⟩
    rw [← Int.neg_tmod, hd]
    rfl
  · go_enter Try.func11, Try.ntmps11
    go_wp2
    go_ret
    refine ⟨ret_int ?_, rfl⟩
    rw [HR.out]; unfold pk
    rw [if_neg (by omega)]
    obtain ⟨d, rfl⟩ : ∃ d : Nat, c = d := ⟨c.toNat, by omega⟩
    rfl

theorem al_old {w : World} (o : Obj) {k : Nat} {x : Obj} (h : w.heap[k]? = some x) : (w.alloc o).heap[k]? = some x := ((Chg.refl w (fun _ => False)).alloc o).heap h (fun h => h)
theorem al_size (w : World) (o : Obj) : (w.alloc o).heap.size = w.heap.size + 1 := by simp
theorem four_allocs (w : World) (o0 o1 o2 o3 : Obj) : ((((w.alloc o0).alloc o1).alloc o2).alloc o3).heap[w.heap.size]? = some o0 ∧ ((((w.alloc o0).alloc o1).alloc o2).alloc o3).heap[w.heap.size + 1]? = some o1 ∧
    ((((w.alloc o0).alloc o1).alloc o2).alloc o3).heap[w.heap.size + 1 + 1]? = some o2 ∧ ((((w.alloc o0).alloc o1).alloc o2).alloc o3).heap[w.heap.size + 1 + 1 + 1]? = some o3 := by
  refine ⟨al_old _ (al_old _ (al_old _ (heap_alloc_new w _))), al_old _ (al_old _ ?_), al_old _ ?_, ?_⟩
  · have := heap_alloc_new (w.alloc o0) o1
    rwa [al_size] at this
  · have := heap_alloc_new ((w.alloc o0).alloc o1) o2
    rwa [al_size, al_size] at this
  · have := heap_alloc_new (((w.alloc o0).alloc o1).alloc o2) o3
    rwa [al_size, al_size, al_size] at this

def tS (i : Nat) : Nat := [1, 2, 4, 8, 16, 256].getD i 0
def tL (i : Nat) : Nat := [16, 32, 64, 256].getD i 0
theorem tS_get (i : Nat) (h : i < 6) : (#[Value.int .i64 1, .int .i64 2, .int .i64 4, .int .i64 8, .int .i64 16, .int .i64 256])[i]? = some (.int .i64 (tS i : Nat)) ∧ Pow (tS i) ∧ 1 ≤ tS i ∧ tS i ≤ 256 := by
  have : i = 0 ∨ i = 1 ∨ i = 2 ∨ i = 3 ∨ i = 4 ∨ i = 5 := by omega
  rcases this with rfl | rfl | rfl | rfl | rfl | rfl <;> exact ⟨rfl, by simp [tS, Pow], by decide, by decide⟩
theorem tL_get (i : Nat) (h : i < 4) : (#[Value.int .i64 16, .int .i64 32, .int .i64 64, .int .i64 256])[i]? = some (.int .i64 (tL i : Nat)) ∧ Pow (tL i) ∧ 16 ≤ tL i ∧ tL i ≤ 256 := by
  have : i = 0 ∨ i = 1 ∨ i = 2 ∨ i = 3 := by omega
  rcases this with rfl | rfl | rfl | rfl <;> exact ⟨rfl, by simp [tL, Pow], by decide, by decide⟩

set_option maxRecDepth 10000 in
set_option maxHeartbeats 1000000 in
theorem shape_any (w : World) (a b c : Int) (ha : InI a) (hb : InI b) (hc : InI c) :
    Calls Try.prog 10 #[.agg #[.int .i64 a, .int .i64 b, .int .i64 c]] w fun e w' => ∃ sets ways line : Nat, e = .returned (.agg #[.int .i64 sets, .int .i64 ways, .int .i64 line]) ∧ ShOk sets ways line ∧ Pow sets ∧ Pow line ∧ Chg w w' (fun _ => False) := by
  have hA : ∀ w, Calls Try.prog 11 #[.int .i64 a, .int .i64 6] w fun e w' => e = .returned (.int .i64 (pk a 6 : Nat)) ∧ w' = w := fun w => pick_any w a 6 (by omega) (by omega) ha
  have hB : ∀ w, Calls Try.prog 11 #[.int .i64 b, .int .i64 8] w fun e w' => e = .returned (.int .i64 (pk b 8 : Nat)) ∧ w' = w := fun w => pick_any w b 8 (by omega) (by omega) hb
  have hC : ∀ w, Calls Try.prog 11 #[.int .i64 c, .int .i64 4] w fun e w' => e = .returned (.int .i64 (pk c 4 : Nat)) ∧ w' = w := fun w => pick_any w c 4 (by omega) (by omega) hc
  have hAll : ∀ (w : World) (x n r : Int), ((x = a ∧ n = 6 ∧ r = (pk a 6 : Nat)) ∨ (x = b ∧ n = 8 ∧ r = (pk b 8 : Nat)) ∨ (x = c ∧ n = 4 ∧ r = (pk c 4 : Nat))) → Calls Try.prog 11 #[.int .i64 x, .int .i64 n] w fun e w' => e = .returned (.int .i64 r) ∧ w' = w := by
    intro w x n r h
    rcases h with ⟨rfl, rfl, rfl⟩ | ⟨rfl, rfl, rfl⟩ | ⟨rfl, rfl, rfl⟩
    · exact hA w
    · exact hB w
    · exact hC w
  clear hA hB hC
  have l1 := pk_lt a 6 (by omega)
  have l2 := pk_lt b 8 (by omega)
  have l3 := pk_lt c 4 (by omega)
  generalize pk a 6 = i at *
  generalize pk b 8 = j at *
  generalize pk c 4 = k at *
  clear ha hb hc
  have n1 : (0 : Int) ≤ (i : Int) := by omega
  have n2 : (i : Int) < 6 := by omega
  have n3 : (0 : Int) ≤ (k : Int) := by omega
  have n4 : (k : Int) < 4 := by omega
  have n5 : IntKind.i64.wrap (1 + (j : Int)) = 1 + (j : Int) := by simp [IntKind.wrap, IntKind.bits, IntKind.signed]; omega
  go_enter Try.func10, Try.ntmps10
  go_wp2_with fail
  obtain ⟨W, hW⟩ : ∃ W, W = ((((w.alloc (.cells #[.int .i64 a, .int .i64 b, .int .i64 c] 23)).alloc (.cells #[.int .i64 0, .int .i64 0, .int .i64 0] 23)).alloc (.cells #[.int .i64 1, .int .i64 2, .int .i64 4, .int .i64 8, .int .i64 16, .int .i64 256] 3)).alloc (.cells #[.int .i64 16, .int .i64 32, .int .i64 64, .int .i64 256] 3)) := ⟨_, rfl⟩
  rw [← hW]
  obtain ⟨g0, g1, g2, g3⟩ := four_allocs w (.cells #[.int .i64 a, .int .i64 b, .int .i64 c] 23) (.cells #[.int .i64 0, .int .i64 0, .int .i64 0] 23) (.cells #[.int .i64 1, .int .i64 2, .int .i64 4, .int .i64 8, .int .i64 16, .int .i64 256] 3) (.cells #[.int .i64 16, .int .i64 32, .int .i64 64, .int .i64 256] 3)
  rw [← hW] at g0 g1 g2 g3
  have HC : Hid (Chg w W (fun _ => False)) := by rw [hW]; exact ((((Chg.refl w _).alloc _).alloc _).alloc _).alloc _
  have c0 : W.cell? ⟨w.heap.size, 0, none⟩ = some (.int .i64 a) := by rw [(cells_at g0 _).1]; rfl
  have c1 : W.cell? ⟨w.heap.size, 1, none⟩ = some (.int .i64 b) := by rw [(cells_at g0 _).1]; rfl
  have c2 : W.cell? ⟨w.heap.size, 2, none⟩ = some (.int .i64 c) := by rw [(cells_at g0 _).1]; rfl
  have c3 : W.cell? ⟨w.heap.size + 1 + 1, i, none⟩ = some (.int .i64 (tS i : Nat)) := by rw [(cells_at g2 _).1, (tS_get i l1).1]
  have c4 : W.cell? ⟨w.heap.size + 1 + 1 + 1, k, none⟩ = some (.int .i64 (tL k : Nat)) := by rw [(cells_at g3 _).1, (tL_get k l3).1]
  have d0 : W.cell? ⟨w.heap.size + 1, 0, none⟩ = some (.int .i64 0) := by rw [(cells_at g1 _).1]; rfl
  have d1 : W.cell? ⟨w.heap.size + 1, 1, none⟩ = some (.int .i64 0) := by rw [(cells_at g1 _).1]; rfl
  have d2 : W.cell? ⟨w.heap.size + 1, 2, none⟩ = some (.int .i64 0) := by rw [(cells_at g1 _).1]; rfl
  have d3 : W.frozen? ⟨w.heap.size + 1, 0, none⟩ = false := (cells_at g1 _).2
  have d4 : W.frozen? ⟨w.heap.size + 1, 1, none⟩ = false := (cells_at g1 _).2
  have d5 : W.frozen? ⟨w.heap.size + 1, 2, none⟩ = false := (cells_at g1 _).2
  have HS := tS_get i l1
  have HL := tL_get k l3
  generalize tS i = S at *
  generalize tL k = L at *
  have HSL : Hid ((Pow S ∧ 1 ≤ S ∧ S ≤ 256) ∧ (Pow L ∧ 16 ≤ L ∧ L ≤ 256)) := ⟨HS.2, HL.2⟩
  have hz : ∀ V, V = ((W.drew.setCell ⟨w.heap.size + 1, 0, none⟩ (.int .i64 (S : Nat))).setCell ⟨w.heap.size + 1, 1, none⟩ (.int .i64 (1 + (j : Int)))).setCell ⟨w.heap.size + 1, 2, none⟩ (.int .i64 (L : Nat)) → V.cell? ⟨w.heap.size, 0, none⟩ = some (.int .i64 a) ∧ V.cell? ⟨w.heap.size, 1, none⟩ = some (.int .i64 b) ∧ V.cell? ⟨w.heap.size, 2, none⟩ = some (.int .i64 c) ∧ V.cell? ⟨w.heap.size + 1 + 1, i, none⟩ = some (.int .i64 (S : Nat)) ∧ V.cell? ⟨w.heap.size + 1 + 1 + 1, k, none⟩ = some (.int .i64 (L : Nat)) := by
    intro V hV
    have hc : Chg W V (fun q => q = w.heap.size + 1) := by
      rw [hV]
      exact Chg.setCell (S := fun q => q = w.heap.size + 1) (Chg.setCell (S := fun q => q = w.heap.size + 1) (Chg.setCell (S := fun q => q = w.heap.size + 1) (Chg.refl W _).drew (.inl rfl) _) (.inl rfl) _) (.inl rfl) _
    have b0 := World.block_lt_of_cell? W _ c0
    have b3 := World.block_lt_of_cell? W _ c3
    have b4 := World.block_lt_of_cell? W _ c4
    have m0 : ¬ (w.heap.size = w.heap.size + 1) := by omega
    have m3 : ¬ (w.heap.size + 1 + 1 = w.heap.size + 1) := by omega
    have m4 : ¬ (w.heap.size + 1 + 1 + 1 = w.heap.size + 1) := by omega
    exact ⟨(hc.cell b0 m0).trans c0, (hc.cell b0 m0).trans c1, (hc.cell b0 m0).trans c2, (hc.cell b3 m3).trans c3, (hc.cell b4 m4).trans c4⟩
  clear hW g0 g1 g2 g3 HS HL
  go_region_held3 (fun w' => w'.cell? ⟨w.heap.size, 0, none⟩ = some (.int .i64 a) ∧ w'.cell? ⟨w.heap.size, 1, none⟩ = some (.int .i64 b) ∧ w'.cell? ⟨w.heap.size, 2, none⟩ = some (.int .i64 c) ∧ w'.cell? ⟨w.heap.size + 1 + 1, i, none⟩ = some (.int .i64 (S : Nat)) ∧ w'.cell? ⟨w.heap.size + 1 + 1 + 1, k, none⟩ = some (.int .i64 (L : Nat))) (first | exact ⟨by assumption, by assumption, by assumption, by assumption, by assumption⟩ | exact hz _ rfl) (first | (go_at_call 11; refine (hAll _ _ _ _ (by first | exact .inl ⟨rfl, rfl, rfl⟩ | exact .inr (.inl ⟨rfl, rfl, rfl⟩) | exact .inr (.inr ⟨rfl, rfl, rfl⟩))).mono ?_; rintro e w5 ⟨rfl, rfl⟩))
  obtain ⟨⟨u1, u2, u3⟩, v1, v2, v3⟩ := HSL.out
  have hC := HC.out
  clear hz hAll
  go_wp2
  refine bodyPost_ret (v := .agg #[.int .i64 (S : Nat), .int .i64 (1 + (j : Int)), .int .i64 (L : Nat)]) (by simp [results, Try.results10, go_sem, d0, d1, d2]) rfl ⟨S, 1 + j, L, rfl, ⟨u2, u3, by omega, by omega, v2, v3⟩, u1, v1, ?_⟩
  refine (hC.trans (T := fun q => q = w.heap.size + 1) (Chg.setCell (S := fun q => q = w.heap.size + 1) (Chg.setCell (S := fun q => q = w.heap.size + 1) (Chg.setCell (S := fun q => q = w.heap.size + 1) (Chg.refl W _) (.inl rfl) _) (.inl rfl) _) (.inl rfl) _).drew (fun q hq e => ?_))
  omega
end Go.Proofs.Ytppcfofkneaigaa
