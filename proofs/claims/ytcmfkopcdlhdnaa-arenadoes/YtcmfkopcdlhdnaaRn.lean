import Derived.Test.YtcmfkopcdlhdnaaRm
import Derived.Test.YtcmfkopcdlhdnaaFa
import Derived.Deep.RegionHeld3
import Derived.Deep.Cut
namespace Go.Proofs.Ytcmfkopcdlhdnaa
open Go.ChangeShapes Go.WideShapes Go.ChangeAt Go.RowKit
set_option linter.unusedVariables false

theorem info39 : (Try.prog.info? 39).map (fun i => (i.zero, i.size, i.bytes)) = some (some (.slice none 0 0), 1, 24) := by kernel_rfl
theorem make76 (n : Nat) (hn : n ≤ 4096) (w : World) : (Instr.makeSlice 76 (.int .i64 n) (.int .i64 n)).run Try.prog w = .ok (.slice (some ⟨w.heap.size, 0, none⟩) n n) (w.alloc (.cells (rowOf (fun _ => none) n) 39)) := by
  obtain ⟨i0, hi, hz0, hz1, hz2⟩ := info_parts info39
  have := run_make (P := Try.prog) w 76 39 i0 (.slice none 0 0) Try.underlying76 hi hz0 .i64 .i64 n n (by omega) (by omega) (by rw [hz2]; omega) (by omega)
  have e : madeCells (Value.slice none 0 0).cells ((n : Int).toNat * i0.size) = rowOf (fun _ => none) n := by
    rw [hz1, Int.toNat_natCast, Nat.mul_one]
    unfold rowOf
    apply Array.ext_getElem?
    intro j
    by_cases hj : j < n
    · simp [madeCells, Value.cells, hj, Nat.mod_one, pgv]
    · simp [madeCells, hj]
  rw [this, e, Int.toNat_natCast]

set_option maxRecDepth 10000 in
theorem rnew_ok (w : World) (n : Nat) (h1 : 1 ≤ n) (h2 : n ≤ 4096) :
    Calls Try.prog 18 #[.int .i64 n] w fun e w' => ∃ R P, e = .returned (.tuple #[.pointer (some ⟨R, 0, none⟩), .int .i64 0]) ∧ IsR w' R P n (fun _ => none) (fun _ => 0) ∧ w.heap.size ≤ R ∧ w.heap.size ≤ P ∧ Chg w w' (fun _ => False) := by
  have hmk := make76 n h2 w
  obtain ⟨w1, hw1⟩ : ∃ w1, w1 = w.alloc (.cells (rowOf (fun _ => none) n) 39) := ⟨_, rfl⟩
  rw [← hw1] at hmk
  have s1 : w1.heap.size = w.heap.size + 1 := by rw [hw1]; simp
  have H : Hid (w1.heap[w.heap.size]? = some (.cells (rowOf (fun _ => none) n) 39 (0, 0)) ∧ Chg w w1 (fun _ => False)) := by
    rw [hw1]; exact ⟨heap_alloc_new w _, (Chg.refl _ _).alloc _⟩
  clear hw1
  go_enter Try.func18, Try.ntmps18
  go_wp2
  go_ret2
  obtain ⟨q1, q2⟩ := H.out
  have hc : Chg w1 (w1.alloc (.cells #[.slice (some ⟨w.heap.size, 0, none⟩) n n] 78 (0, 0))) (fun _ => False) := (Chg.refl _ _).alloc _
  refine ⟨w.heap.size + 1, w.heap.size, rfl, ⟨?_, hc.heap q1 (fun h => h), by simp, by simp, by simp, by simp, h1, h2⟩, by omega, by omega, q2.trans hc (fun _ _ h => h)⟩
  rw [← s1]
  exact heap_alloc_new w1 _

theorem IsR.c0 {w : World} {R P n : Nat} {g : Nat → Option Nat} {m : Nat → Nat} (h : IsR w R P n g m) : w.cell? ⟨R, 0, none⟩ = some (.slice (some ⟨P, 0, none⟩) n n) := by simpa using (cells_at h.box 0).1
theorem IsR.cp {w : World} {R P n : Nat} {g : Nat → Option Nat} {m : Nat → Nat} (h : IsR w R P n g m) (k : Nat) (hk : k < n) : w.cell? ⟨P, k, none⟩ = some (pgv (g k)) ∧ w.frozen? ⟨P, k, none⟩ = false := by
  have := (cells_at h.row k).1
  rw [rowOf_get _ _ _ hk] at this
  exact ⟨this, (cells_at h.row k).2⟩

set_option maxRecDepth 10000 in
theorem rinside_any (w : World) (R P n : Nat) (g : Nat → Option Nat) (m : Nat → Nat) (h : IsR w R P n g m) (at_ k : Nat) (ha : at_ < 4294967296) (hk : k ≤ 4096) :
    Calls Try.prog 45 #[.pointer (some ⟨R, 0, none⟩), .int .u32 at_, .int .i64 k] w fun e w' => e = .returned (.bool (ins n at_ k)) ∧ w' = w := by
  have c0 := h.c0
  have hge := h.ge
  have hle := h.le
  clear h
  obtain ⟨r, hr⟩ : ∃ r, r = ins n at_ k := ⟨_, rfl⟩
  rw [← hr]
  have hk1 : (k : Int) ≤ (n : Int) * 4096 := by omega
  have e1 : decide ((at_ : Int) ≤ (n : Int) * 4096 - k) = r := by rw [hr]; unfold ins; exact decide_eq_decide.2 (by omega)
  clear hr
  go_enter Try.func45, Try.ntmps45
  go_wp2
  go_ret
  exact ⟨rfl, rfl⟩

set_option maxRecDepth 10000 in
theorem rplace_any (w : World) (R P n : Nat) (g : Nat → Option Nat) (m : Nat → Nat) (h : IsR w R P n g m) (at_ k : Nat) (ha : at_ < 4294967296) (hk : k ≤ 4096) :
    Calls Try.prog 42 #[.pointer (some ⟨R, 0, none⟩), .int .u32 at_, .int .i64 k] w fun e w' => e = .returned (.int .i64 (placeErr n at_ k)) ∧ w' = w := by
  have hI := rinside_any w R P n g m h at_ k ha hk
  clear h
  cases hb : ins n at_ k with
  | true =>
    rw [hb] at hI
    have he : placeErr n at_ k = 0 := by
      have := of_decide_eq_true hb
      unfold placeErr; rw [if_neg (by omega), Int.toNat_natCast, if_pos this]
    rw [he]
    clear he hb
    go_enter Try.func42, Try.ntmps42
    go_wp2_with (go_at_call 45; refine hI.mono ?_; rintro e w' ⟨rfl, rfl⟩)
    go_ret
    exact ⟨rfl, rfl⟩
  | false =>
    rw [hb] at hI
    have he : placeErr n at_ k = 22 := by
      have := of_decide_eq_false hb
      unfold placeErr; rw [if_neg (by omega), Int.toNat_natCast, if_neg this]
    rw [he]
    clear he hb
    go_enter Try.func42, Try.ntmps42
    go_wp2_with (go_at_call 45; refine hI.mono ?_; rintro e w' ⟨rfl, rfl⟩)
    go_ret
    exact ⟨rfl, rfl⟩

theorem slice_nil_no (a : Addr) (l c : Nat) (w : World) : (binOp BinOp.eql 39 (Value.slice (some a) l c) (Value.slice none 0 0)).run Try.prog w = .ok (.bool false) w := by kernel_rfl
theorem slice_nil_yes (w : World) : (binOp BinOp.eql 39 (Value.slice none 0 0) (Value.slice none 0 0)).run Try.prog w = .ok (.bool true) w := by kernel_rfl

set_option maxRecDepth 10000 in
theorem rat_any (w : World) (R P n : Nat) (g : Nat → Option Nat) (m : Nat → Nat) (h : IsR w R P n g m) (a : Nat) (ha : a < 4096 * n) :
    Calls Try.prog 44 #[.pointer (some ⟨R, 0, none⟩), .int .i64 a] w fun e w' => e = .returned (.int .u8 (m a : Nat)) ∧ w' = w := by
  have c0 := h.c0
  have hle := h.le
  obtain ⟨k, hk⟩ : ∃ k, k = a / 4096 := ⟨_, rfl⟩
  obtain ⟨i, hi⟩ : ∃ i, i = a % 4096 := ⟨_, rfl⟩
  have ek : Int.tdiv (a : Int) 4096 = k := by rw [hk]; rfl
  have ei : Int.tmod (a : Int) 4096 = i := by rw [hi]; rfl
  have hkn : k < n := by omega
  have hi4 : i < 4096 := by omega
  have eki : 4096 * k + i = a := by omega
  have cp := (h.cp k hkn).1
  have y1 := slice_nil_no
  have y2 := slice_nil_yes
  cases hg : g k with
  | none =>
    have hm : m a = 0 := by have := h.none_ k i hg hi4; rwa [eki] at this
    rw [hm]
    rw [hg] at cp
    simp only [pgv] at cp
    clear h hg hk hi hm eki
    go_enter Try.func44, Try.ntmps44
    go_wp2
    go_ret
    exact ⟨rfl, rfl⟩
  | some b =>
    have cb := (cells_at (h.page k b hg).2 i).1
    rw [pageOf_get _ _ _ hi4, eki] at cb
    rw [hg] at cp
    simp only [pgv] at cp
    obtain ⟨v, hv⟩ : ∃ v, v = m a := ⟨_, rfl⟩
    rw [← hv] at cb ⊢
    clear h hg hk hi eki hv
    go_enter Try.func44, Try.ntmps44
    go_wp2
    go_ret
    exact ⟨rfl, rfl⟩

def Sr (R P n : Nat) (w : World) : Prop := w.cell? ⟨R, 0, none⟩ = some (.slice (some ⟨P, 0, none⟩) n n)

set_option maxHeartbeats 1000000 in
set_option maxRecDepth 10000 in
theorem rset_any (w : World) (R P n : Nat) (g : Nat → Option Nat) (m : Nat → Nat) (h : IsR w R P n g m) (a v : Nat) (ha : a < 4096 * n) (hv : v < 256) :
    Calls Try.prog 43 #[.pointer (some ⟨R, 0, none⟩), .int .i64 a, .int .u8 v] w fun e w' => e = .returned (.tuple #[]) ∧ ∃ g', IsR w' R P n g' (upd m a v) ∧ Chg w w' (Rf R P g) ∧ ∀ j x, g' j = some x → g j = some x ∨ w.heap.size ≤ x := by
  have c0 := h.c0
  have hle := h.le
  obtain ⟨k, hk⟩ : ∃ k, k = a / 4096 := ⟨_, rfl⟩
  obtain ⟨i, hi⟩ : ∃ i, i = a % 4096 := ⟨_, rfl⟩
  have ek : Int.tdiv (a : Int) 4096 = k := by rw [hk]; rfl
  have ei : Int.tmod (a : Int) 4096 = i := by rw [hi]; rfl
  have hkn : k < n := by omega
  have hi4 : i < 4096 := by omega
  have eki : 4096 * k + i = a := by omega
  obtain ⟨cp, fp⟩ := h.cp k hkn
  have y1 := slice_nil_no
  have y2 := slice_nil_yes
  cases hg : g k with
  | some b =>
    have cb := (cells_at (h.page k b hg).2 i).1
    have fb := (cells_at (h.page k b hg).2 i).2
    rw [pageOf_get _ _ _ hi4, eki] at cb
    rw [hg] at cp
    simp only [pgv] at cp
    have hs := h.set hg i v hi4 hv
    rw [eki] at hs
    have K : Hid (IsR (w.setCell ⟨b, i, none⟩ (.int .u8 v)) R P n g (upd m a v) ∧ g k = some b) := ⟨hs, hg⟩
    obtain ⟨old, hold⟩ : ∃ old, old = Value.int .u8 ((m a : Nat) : Int) := ⟨_, rfl⟩
    rw [← hold] at cb
    clear h hg hk hi eki hs hold
    go_enter Try.func43, Try.ntmps43
    go_wp2
    refine bodyPost_end (results_none rfl _ _ _) rfl ?_
    refine ⟨rfl, g, K.out.1, ?_, fun j x h => .inl h⟩
    exact Chg.setCell (Chg.refl _ _) (.inl (.inr (.inr ⟨k, K.out.2⟩))) _
  | none =>
    rw [hg] at cp
    simp only [pgv] at cp
    have K : Hid (IsR w R P n g m ∧ g k = none ∧ 4096 * k + i = a) := ⟨h, hg, eki⟩
    have hS2 : Sr R P n w.drew := c0
    have hmx : Try.prog.follows .mixedOrders = true := by kernel_rfl
    clear h hg hk hi eki
    go_enter Try.func43, Try.ntmps43
    go_upto_region 2 with fail
    refine wp_region_held_drew (S := Sr R P n) hmx hS2 (fun hS => ?_)
    clear hS2 c0 cp fp
    refine wpAnyH_take (i := 0) (oi := { dst := some 17, op := Op.move (Operand.tmp 0), type := 45, pos := "ref.go:40", after := #[], guard := none }) (v := .pointer (some ⟨R, 0, none⟩)) rfl (by kernel_rfl) (by kernel_rfl) (by kernel_rfl) (fun _ _ _ h => h) (Or.inl ⟨by rfl, ?_⟩) hS ?_
    · intro wx hx
      unfold Sr at hx; go_simp
    simp only [Act.put, List.setIfInBounds_toArray, List.set_cons_zero, List.set_cons_succ]
    refine wpAnyH_take (i := 1) (oi := { dst := some 18, op := Op.nilCheck (Operand.tmp 17), type := 0, pos := "ref.go:40", after := #[{ on := 0, ground := Ground.data }], guard := none }) (v := .pointer (some ⟨R, 0, none⟩)) rfl (by kernel_rfl) (by kernel_rfl) (by kernel_rfl) (fun _ _ _ h => h) (Or.inl ⟨by rfl, ?_⟩) hS ?_
    · intro wx hx
      unfold Sr at hx; go_simp
    simp only [Act.put, List.setIfInBounds_toArray, List.set_cons_zero, List.set_cons_succ]
    refine wpAnyH_take (i := 2) (oi := { dst := some 19, op := Op.fieldAddr 78 (Operand.tmp 18) 0, type := 0, pos := "ref.go:40", after := #[{ on := 1, ground := Ground.data }], guard := none }) (v := .pointer (some ⟨R, 0, none⟩)) rfl (by kernel_rfl) (by kernel_rfl) (by kernel_rfl) (fun _ _ _ h => h) (Or.inl ⟨by rfl, ?_⟩) hS ?_
    · intro wx hx
      unfold Sr at hx; go_simp
    simp only [Act.put, List.setIfInBounds_toArray, List.set_cons_zero, List.set_cons_succ]
    refine wpAnyH_take (i := 3) (oi := { dst := some 20, op := Op.load 76 (Operand.tmp 19), type := 76, pos := "ref.go:40", after := #[{ on := 2, ground := Ground.data }], guard := none }) (v := .slice (some ⟨P, 0, none⟩) n n) rfl (by kernel_rfl) (by kernel_rfl) (by kernel_rfl) (fun _ _ _ h => h) (Or.inl ⟨by rfl, ?_⟩) hS ?_
    · intro wx hx
      unfold Sr at hx; go_simp
    simp only [Act.put, List.setIfInBounds_toArray, List.set_cons_zero, List.set_cons_succ]
    refine wpAnyH_take (i := 4) (oi := { dst := some 21, op := Op.move (Operand.tmp 6), type := 3, pos := "ref.go:40", after := #[], guard := none }) (v := .int .i64 k) rfl (by kernel_rfl) (by kernel_rfl) (by kernel_rfl) (fun _ _ _ h => h) (Or.inl ⟨by rfl, ?_⟩) hS ?_
    · intro wx hx
      unfold Sr at hx; go_simp
    simp only [Act.put, List.setIfInBounds_toArray, List.set_cons_zero, List.set_cons_succ]
    have hmk := make38 4096 (by omega) w.drew
    obtain ⟨w1, hw1⟩ : ∃ w1, w1 = w.drew.alloc (.cells (List.replicate 4096 (.int .u8 0)).toArray 5) := ⟨_, rfl⟩
    rw [← hw1] at hmk
    have hc1 : Chg w w1 (fun _ => False) := by rw [hw1]; exact ((Chg.refl w _).drew).alloc _
    have hb1 : w1.heap[w.heap.size]? = some (.cells (pageOf (fun _ => 0) 0) 5 (0, 0)) := by
      rw [hw1, ← pageOf_zero (m := fun _ => 0) (k := 0) (fun _ _ => rfl)]
      exact heap_alloc_new w.drew _
    have hI1 := K.out.1.other hc1 (fun _ _ h => h)
    have hA2 := K.out.1.add hkn K.out.2.1 (Nat.le_refl _) hc1 hb1
    have hS1 : Sr R P n w1 := hI1.c0
    have cp1 := (hI1.cp k hkn)
    rw [K.out.2.1] at cp1
    simp only [pgv] at cp1
    obtain ⟨cp1, fp1⟩ := cp1
    have hmk2 : (Instr.makeSlice 39 (.int .i64 4096) (.int .i64 4096)).run Try.prog w.drew = .ok (.slice (some ⟨w.heap.size, 0, none⟩) 4096 4096) w1 := hmk
    have K1 : Hid (Chg w w1 (fun _ => False) ∧ IsR (w1.setCell ⟨P, k, none⟩ (.slice (some ⟨w.heap.size, 0, none⟩) 4096 4096)) R P n (setF g k w.heap.size) m) := ⟨hc1, hA2⟩
    clear hmk hw1 hc1 hb1 hI1 hA2
    refine wpAnyH_ready (rs := [5]) (by kernel_rfl) (by simp) ?_
    refine AllReadyH.cons (o := { dst := some 22, op := Op.makeSlice 39 (Operand.const (Value.int IntKind.i64 4096)) (Operand.const (Value.int IntKind.i64 4096)), type := 39, pos := "ref.go:40", after := #[], guard := none }) rfl (fun Kn hK => ?_) AllReadyH.nil
    rw [if_pos (by rfl)]
    go_simp
    refine hK.out _ _ hS1 (fun hS => ?_)
    clear hK hS1 hmk2
    refine wpAnyH_take (i := 6) (oi := { dst := some 23, op := Op.indexAddr 76 (Operand.tmp 20) (Operand.tmp 21), type := 0, pos := "ref.go:40", after := #[{ on := 3, ground := Ground.data }, { on := 4, ground := Ground.data }, { on := 0, ground := Ground.phase }, { on := 1, ground := Ground.phase }, { on := 2, ground := Ground.phase }, { on := 3, ground := Ground.phase }, { on := 4, ground := Ground.phase }, { on := 5, ground := Ground.phase }], guard := none }) (v := .pointer (some ⟨P, k, none⟩)) rfl (by kernel_rfl) (by kernel_rfl) (by kernel_rfl) (fun _ _ _ h => h) (Or.inl ⟨by rfl, ?_⟩) hS ?_
    · intro wx hx
      unfold Sr at hx; go_simp
    simp only [Act.put, List.setIfInBounds_toArray, List.set_cons_zero, List.set_cons_succ]
    refine wpAnyH_ready (rs := [7]) (by kernel_rfl) (by simp) ?_
    refine AllReadyH.cons (o := { dst := none, op := Op.store 39 (Operand.tmp 23) (Operand.tmp 22), type := 0, pos := "ref.go:40", after := #[{ on := 6, ground := Ground.data }, { on := 5, ground := Ground.data }, { on := 0, ground := Ground.phase }, { on := 1, ground := Ground.phase }, { on := 2, ground := Ground.phase }, { on := 3, ground := Ground.phase }, { on := 4, ground := Ground.phase }, { on := 5, ground := Ground.phase }], guard := none }) rfl (fun Kn hK => ?_) AllReadyH.nil
    rw [if_pos (by rfl)]
    go_simp
    refine hK.out _ _ K1.out.2.c0 (fun hS => ?_)
    clear hK hS
    refine wpAnyH_done (by kernel_rfl) ?_ _
    obtain ⟨w2, hw2⟩ : ∃ w2, w2 = w1.setCell ⟨P, k, none⟩ (.slice (some ⟨w.heap.size, 0, none⟩) 4096 4096) := ⟨_, rfl⟩
    rw [← hw2] at K1 ⊢
    have hc2 : Chg w1 w2 (fun x => x = P) := by rw [hw2]; exact Chg.setCell (S := fun x => x = P) (Chg.refl _ _) (.inl rfl) _
    have hgk : setF g k w.heap.size k = some w.heap.size := by simp [setF]
    have hI2 := K1.out.2
    have c0 := hI2.c0
    have cp := (hI2.cp k hkn).1
    rw [hgk] at cp
    simp only [pgv] at cp
    have cb := (cells_at (hI2.page k _ hgk).2 i).1
    have fb := (cells_at (hI2.page k _ hgk).2 i).2
    rw [pageOf_get _ _ _ hi4] at cb
    have hs := hI2.set hgk i v hi4 hv
    rw [K.out.2.2] at hs
    obtain ⟨old, hold⟩ : ∃ old, old = Value.int .u8 ((m (4096 * k + i) : Nat) : Int) := ⟨_, rfl⟩
    rw [← hold] at cb
    have K2 : Hid (IsR (w2.setCell ⟨w.heap.size, i, none⟩ (.int .u8 v)) R P n (setF g k w.heap.size) (upd m a v) ∧ Chg w1 w2 (fun x => x = P)) := ⟨hs, hc2⟩
    clear hw2 hc2 hgk hI2 hs hold cp1 fp1
    go_wp2
    refine bodyPost_end (results_none rfl _ _ _) rfl ?_
    refine ⟨rfl, _, K2.out.1, ?_, fun j x hj => ?_⟩
    · exact Chg.setCell (((K1.out.1).mono (fun _ _ h => h.elim)).trans K2.out.2 (fun x _ e => .inr (.inl e))) (.inr (Nat.le_refl _)) _
    · unfold setF at hj
      split at hj
      · cases hj; exact .inr (Nat.le_refl _)
      · exact .inl hj
end Go.Proofs.Ytcmfkopcdlhdnaa
