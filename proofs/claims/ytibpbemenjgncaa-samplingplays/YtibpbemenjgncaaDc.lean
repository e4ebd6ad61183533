import Derived.Test.YtibpbemenjgncaaDb
namespace Go.Proofs.Ytibpbemenjgncaa
open Go.ChangeShapes Go.WideShapes Go.ChangeAt Go.RowKit
set_option linter.unusedVariables false
/-- The document's port, its cells. -/
def fcs (p : PS) (vr vl vn : Value) : Array Value := #[.int .i64 p.wr, .int .i64 p.sz, vr, .bool p.la.th, .bool p.ne.th, vl, .int .u64 p.la.tk, vn, .int .u64 p.ne.tk]
/-- The document's port in memory. -/
structure IsF (w : World) (F : Nat) (vr vl vn : Value) (rl : List Int) (p : PS) : Prop where
  box : w.heap[F]? = some (.cells (fcs p vr vl vn) 73 (0, 0))
  r : OI w vr rl
  l : OB w vl p.la.bs
  n : OB w vn p.ne.bs
  sz : 4 ≤ p.sz ∧ p.sz ≤ 256
  lo : p.la.ok p.sz
  no : p.ne.ok p.sz
  rd : p.rd = inF rl
  rg : ∀ x, x ∈ rl → 1 ≤ x ∧ x ≤ 8
  len : rl.length * 8 ≤ 140737488351232
set_option maxHeartbeats 2000000 in
set_option maxRecDepth 10000 in
theorem fnew_any (w : World) (pw sz : Int) (v : Value) (l : List Int) (h : RdI w v l) :
    Calls Try.prog 15 #[.agg #[.int .i64 pw, .int .i64 sz, v]] w fun e w' => Kp w w' ∧ (mayP pw sz l = false ∧ e = .returned (.tuple #[.pointer none, .int .i64 160]) ∨ mayP pw sz l = true ∧ ∃ F vr, e = .returned (.tuple #[.pointer (some ⟨F, 0, none⟩), .int .i64 0]) ∧ w.heap.size ≤ F ∧ Nw w vr ∧ IsF w' F vr (.slice none 0 0) (.slice none 0 0) l ⟨pw, sz, inF l, Ms.no, Ms.no⟩) := by
  obtain ⟨a, cap, rfl⟩ := h.vshape
  have R1 := heap_alloc_new w (.cells #[.int .i64 pw, .int .i64 sz, .slice a l.length cap] 43)
  have kA := Kp.al w (.cells #[.int .i64 pw, .int .i64 sz, .slice a l.length cap] 43)
  have hM := may_any _ pw sz _ l (h.kp kA)
  have HK : Hid (Kp w (w.alloc (.cells #[.int .i64 pw, .int .i64 sz, .slice a l.length cap] 43)) ∧ (w.alloc (.cells #[.int .i64 pw, .int .i64 sz, .slice a l.length cap] 43)).heap[w.heap.size]? = some (.cells #[.int .i64 pw, .int .i64 sz, .slice a l.length cap] 43 (0, 0)) ∧ RdI w (.slice a l.length cap) l) := ⟨kA, R1, h⟩
  have d0 : (w.alloc (.cells #[.int .i64 pw, .int .i64 sz, .slice a l.length cap] 43)).cell? ⟨w.heap.size, 0, none⟩ = some (.int .i64 pw) := (cells_at R1 0).1
  have d1 : (w.alloc (.cells #[.int .i64 pw, .int .i64 sz, .slice a l.length cap] 43)).cell? ⟨w.heap.size, 1, none⟩ = some (.int .i64 sz) := (cells_at R1 1).1
  have d2 : (w.alloc (.cells #[.int .i64 pw, .int .i64 sz, .slice a l.length cap] 43)).cell? ⟨w.heap.size, 2, none⟩ = some (.slice a l.length cap) := (cells_at R1 2).1
  clear h R1 kA
  go_enter Try.func15, Try.ntmps15
  go_upto_region 1 with fail
  generalize hN : w.heap.size = N at *
  have HN : Hid (w.heap.size = N) := hN
  clear hN
  generalize w.alloc (.cells #[.int .i64 pw, .int .i64 sz, .slice a l.length cap] 43) = w1 at *
  go_wp2_with fail
  go_at_call 29
  refine hM.mono ?_
  rintro e w2 ⟨rfl, k2⟩
  clear d0 d1 d2 hM
  cases hm : mayP pw sz l with
  | false =>
    have HK2 : Hid (Kp w w2 ∧ mayP pw sz l = false) := ⟨HK.out.1.trans k2, hm⟩
    clear hm HK k2
    go_wp2_with fail
    go_ret2
    exact ⟨HK2.out.1, .inl ⟨HK2.out.2, rfl⟩⟩
  | true =>
    have R2 := k2.heap HK.out.2.1
    have d2 : w2.cell? ⟨N, 2, none⟩ = some (.slice a l.length cap) := (cells_at R2 2).1
    obtain ⟨v', w3, hr, ho, k3, nw⟩ := run_appI0 w2 (.slice a l.length cap) l (HK.out.2.2.kp (HK.out.1.trans k2)) 41
    obtain ⟨a', c', rfl⟩ := ho.shape
    have R3 := k3.heap R2
    have d23 : w3.cell? ⟨N, 2, none⟩ = some (.slice a l.length cap) := (cells_at R3 2).1
    have d03 : w3.cell? ⟨N, 0, none⟩ = some (.int .i64 pw) := (cells_at R3 0).1
    have d13 : w3.cell? ⟨N, 1, none⟩ = some (.int .i64 sz) := (cells_at R3 1).1
    have f23 := (cells_at R3 2).2
    have kk : Kp w w3 := (HK.out.1.trans k2).trans k3
    have hC : Chg w3 (w3.setCell ⟨N, 2, none⟩ (.slice a' l.length c')) (fun k => k = N) := Chg.setCell (S := fun k => k = N) (Chg.refl w3 _) (.inl rfl) _
    have kk4 : Kp w (w3.setCell ⟨N, 2, none⟩ (.slice a' l.length c')) := Chg.trans kk hC (fun i hi e => by have := HN.out; omega)
    have R4 := heap_setCell_same w3 N 2 _ 43 (.slice a' l.length c') R3
    have o4 : OI (w3.setCell ⟨N, 2, none⟩ (.slice a' l.length c')) (.slice a' l.length c') l := hC.owns ho (fun k hk e => ho.no R3 (by decide) (by rw [hk, e]))
    have nw4 : Nw w (.slice a' l.length c') := fun k hk => by have := nw k hk; have := (HK.out.1.trans k2).size; omega
    have hz4 : szB sz = true := by simp only [mayP, Bool.and_eq_true] at hm; exact hm.2
    have hg4 : gdR pw l = true := by simp only [mayP, mayR, Bool.and_eq_true] at hm; exact hm.1.2
    have HK4 : Hid (Kp w (w3.setCell ⟨N, 2, none⟩ (.slice a' l.length c')) ∧ OI (w3.setCell ⟨N, 2, none⟩ (.slice a' l.length c')) (.slice a' l.length c') l ∧ Nw w (.slice a' l.length c') ∧ mayP pw sz l = true ∧ (4 ≤ sz ∧ sz ≤ 256) ∧ (∀ x, x ∈ l → 1 ≤ x ∧ x ≤ 8) ∧ l.length * 8 ≤ 140737488351232) := ⟨kk4, o4, nw4, hm, szB_ok hz4, fun x hx => by
      unfold gdR at hg4
      rw [Bool.and_eq_true, List.all_eq_true] at hg4
      have := hg4.1 x hx
      simp at this
      omega, HK.out.2.2.len⟩
    have e0 : (w3.setCell ⟨N, 2, none⟩ (.slice a' l.length c')).cell? ⟨N, 0, none⟩ = some (.int .i64 pw) := by rw [(cells_at R4 0).1]; rfl
    have e1 : (w3.setCell ⟨N, 2, none⟩ (.slice a' l.length c')).cell? ⟨N, 1, none⟩ = some (.int .i64 sz) := by rw [(cells_at R4 1).1]; rfl
    have e2 : (w3.setCell ⟨N, 2, none⟩ (.slice a' l.length c')).cell? ⟨N, 2, none⟩ = some (.slice a' l.length c') := by rw [(cells_at R4 2).1]; rfl
    clear hm HK k2 k3 ho nw kk hC kk4 R4 o4 nw4 R2 R3 hz4 hg4
    go_upto_region 6 with (first | (at_builtin; refine wpList_append_run _ rfl _ _ 41 41 rfl _ _ (.slice a' l.length c') w3 rfl rfl hr ?_) | fail)
    generalize w3.setCell ⟨N, 2, none⟩ (.slice a' l.length c') = w4 at *
    clear d2 d23 d03 d13 f23 hr
    go_wp2_with fail
    go_ret2
    obtain ⟨h1, h2, h3, h4, h5, h6, h7⟩ := HK4.out
    refine ⟨Chg.alloc h1 _, .inr ⟨h4, _, _, rfl, h1.size, h3, ⟨heap_alloc_new _ _, Chg.owns (Kp.al _ _) h2 (fun _ _ h => h), OB.nil _, OB.nil _, h5, Ms.no_ok (show (0 : Int) ≤ sz by omega), Ms.no_ok (show (0 : Int) ≤ sz by omega), rfl, h6, h7⟩⟩⟩
end Go.Proofs.Ytibpbemenjgncaa
