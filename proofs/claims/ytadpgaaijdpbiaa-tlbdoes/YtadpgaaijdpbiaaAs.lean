import Derived.Test.YtadpgaaijdpbiaaRg
namespace Go.Proofs.Ytadpgaaijdpbiaa
open Go.ChangeShapes Go.WideShapes Go.ChangeAt Go.RowKit Go.Shelf
set_option linter.unusedVariables false
attribute [local go_sem] Oper.semAt_some

def sAt (s : Sta) (k : Nat) : Sl4 := s.slots.getD k ((0, 0), (0, 0))
theorem sAt_get (s : Sta) (k : Nat) (h : k < s.slots.length) : sAt s k = s.slots[k] := by
  unfold sAt
  rw [List.getD_eq_getElem?_getD, List.getElem?_eq_getElem h]; rfl
def aArgs (s : Sta) (_ : Nat) (k : Nat) : Array Value := #[.agg #[.int .i64 (sAt s k).1.1, .int .u32 (((sAt s k).1.2 : Nat) : Int)], .agg #[.int .u32 (((sAt s k).2.1 : Nat) : Int), .int .u8 (((sAt s k).2.2 : Nat) : Int)]]
def aRow (s : Sta) (g : Nat) (W : World) : Prop := W.heap[g]? = some (.cells (scs s.slots).toArray 58 (0, 0))
def aGood (s : Sta) (g : Nat) (W W1 : World) : Prop := Kp W W1 ∧ W.heap.size ≤ g ∧ aRow s g W1
def aKp (w : World) (s : Sta) (g : Nat) (A C : World) : Prop := w.heap.size + 2 ≤ g → aRow s g A → aRow s g C
theorem aRow.kp {s : Sta} {g : Nat} {A B : World} (h : aRow s g A) (hk : Kp A B) : aRow s g B := hk.heap h

theorem All_any (w : World) (B : Nat) :
    Calls Try.prog 20 #[.pointer (some ⟨B, 0, none⟩)] w fun e w' => e = .returned (.func (.func 37) #[] #[.pointer (some ⟨w.heap.size, 0, none⟩)]) ∧ w' = w.alloc (.cells #[.pointer (some ⟨B, 0, none⟩)] 26) := by
  go_enter Try.func20, Try.ntmps20
  go_wp2
  go_ret
  exact ⟨rfl, rfl⟩

set_option maxHeartbeats 4000000 in
set_option maxRecDepth 10000 in
theorem all_seq (w : World) (m B M : Nat) (v : Value) (n k : Nat) (s : Sta) (hT : IsT w B M v n k s) (b : Nat) (hb : w.cell? ⟨b, 0, none⟩ = some (.pointer (some ⟨B, 0, none⟩))) :
    Seq Try.prog (m + 1) 37 #[.pointer (some ⟨b, 0, none⟩)] s.slots.length (aArgs s) (aGood s) (aKp w s) w := by
  intro l J Jx W hC hsz hJ h0 hY
  have cB : W.cell? ⟨b, 0, none⟩ = some (.pointer (some ⟨B, 0, none⟩)) := Kp.cell hC hb
  have hCp := copied_any W B M v n k s (hT.kp hC) s.slots.length s.slots_len
  have hL64 : s.slots.length ≤ 64 := by rw [s.slots_len]; have := hT.ok.len; have := hT.n64; omega
  have H0 : Hid (∀ g W1, aGood s g W W1 → J g 0 W1) := h0
  have HJ : Hid (∀ t k A B, J t k A → Chg A B (fun _ => False) → J t k B) := hJ
  have HY : Hid (∀ (t k : Nat) (W1 : World), k < s.slots.length → J t k W1 → YieldAt Fence.wide (m + 1 - 1) Try.prog l (aArgs s t k) W1 fun e W' => (e = .returned (.bool true) ∧ J t (k + 1) W' ∧ aKp w s t W1 W') ∨ (e = .returned (.bool false) ∧ Jx W')) := hY
  clear hJ h0 hY hb hC hT
  obtain ⟨L, hL⟩ : ∃ L, L = s.slots.length := ⟨_, rfl⟩
  rw [← hL] at hCp hL64
  refine callsIn_of_wp Try.func37 rfl trivial ?_ rfl
  simp only [Try.ntmps37, List.size_toArray, List.length_cons, List.length_nil, Nat.reduceAdd, Nat.reduceSub, Array.replicate_succ, Array.replicate_zero, List.push_toArray, List.append_toArray, List.nil_append, List.cons_append]
  have HL : Hid (L = s.slots.length) := hL
  clear hL
  gi_wp2_with (refine ⟨trivial, ?_⟩; gi_at_call 38; refine (callsIn_wide.2 hCp).mono ?_; rintro e W1 ⟨rfl, hrow, hk1⟩)
  obtain ⟨g, hg⟩ : ∃ g, g = W.heap.size := ⟨_, rfl⟩
  have KJ : Hid (J g 0 W1 ∧ aRow s g W1 ∧ w.heap.size + 2 ≤ g) := ⟨H0.out g W1 ⟨hk1, by omega, by rw [hg]; exact hrow⟩, by rw [hg]; exact hrow, by omega⟩
  rw [← hg]
  clear hrow hk1 hCp H0 hg hsz cB
  gi_loopw [8] (fun s8 wr => ∃ j : Nat, s8 = .int .i64 j ∧ j ≤ L ∧ Hid (J g j wr ∧ aRow s g wr)) (fun s8 _ => L - (intOf s8).toNat)
  case atStart => exact ⟨0, rfl, by omega, ⟨KJ.out.1, KJ.out.2.1⟩⟩
  case round =>
    obtain ⟨j, rfl, hj, HI⟩ := hrel
    by_cases hlt : j < L
    · have hltz : (j : Int) < (L : Int) := by omega
      have hjs : j < s.slots.length := by have := HL.out; omega
      obtain ⟨x, hx⟩ : ∃ x, x = sAt s j := ⟨_, rfl⟩
      obtain ⟨t0, t1, t2, t3⟩ := scs_get s.slots j hjs
      rw [← sAt_get s j hjs, ← hx] at t0 t1 t2 t3
      have hr := HI.out.2
      unfold aRow at hr
      have c0 : wr.cell? ⟨g, j * 4, none⟩ = some (.int .i64 x.1.1) := by rw [(cells_at hr _).1, ← t0]; simp
      have c1 : wr.cell? ⟨g, j * 4 + 1, none⟩ = some (.int .u32 ((x.1.2 : Nat) : Int)) := by rw [(cells_at hr _).1, ← t1]; simp
      have c2 : wr.cell? ⟨g, j * 4 + 2, none⟩ = some (.int .u32 ((x.2.1 : Nat) : Int)) := by rw [(cells_at hr _).1, ← t2]; simp
      have c3 : wr.cell? ⟨g, j * 4 + 3, none⟩ = some (.int .u8 ((x.2.2 : Nat) : Int)) := by rw [(cells_at hr _).1, ← t3]; simp
      have hkA : Kp wr (wr.alloc (.cells #[.int .i64 x.1.1, .int .u32 ((x.1.2 : Nat) : Int), .int .u32 ((x.2.1 : Nat) : Int), .int .u8 ((x.2.2 : Nat) : Int)] 58)) := (Chg.refl wr _).alloc _
      obtain ⟨fn, tmps, assign, body, hy, hR⟩ := HY.out g j _ hjs (HJ.out _ _ _ _ HI.out.1 hkA)
      unfold aArgs at hy
      rw [← hx] at hy
      have HK : Hid (aRow s g (wr.alloc (.cells #[.int .i64 x.1.1, .int .u32 ((x.1.2 : Nat) : Int), .int .u32 ((x.2.1 : Nat) : Int), .int .u8 ((x.2.2 : Nat) : Int)] 58))) := HI.out.2.kp hkA
      clear t0 t1 t2 t3 hr hx hkA hjs
      gi_wp2
      refine RoundIn.mono (show RoundIn Fence.wide m Try.prog l fn tmps assign body _ _ from hR) ?_
      rintro e W3 (⟨rfl, hJ3, hK3⟩ | ⟨rfl, hJx3⟩)
      · have HN : Hid (J g (j + 1) W3 ∧ aRow s g W3) := ⟨hJ3, hK3 KJ.out.2.2 HK.out⟩
        clear hR hy hJ3 hK3
        gi_wp2
        exact ⟨⟨j + 1, by go_num, by omega, HN⟩, by simp [intOf]; omega⟩
      · clear hR hy
        gi_wp2
        refine bodyPost_ret (results_none rfl _ _ _) rfl ?_
        exact ⟨⟨_, rfl⟩, .inr hJx3⟩
    · have hltz : ¬ (j : Int) < (L : Int) := by omega
      have KF : Hid (∃ t, J t s.slots.length wr) := ⟨g, by
        have hj2 : j = s.slots.length := by have := HL.out; omega
        rw [← hj2]; exact HI.out.1⟩
      gi_wp2
      go_end0
      exact ⟨⟨_, rfl⟩, .inl KF.out⟩
end Go.Proofs.Ytadpgaaijdpbiaa
