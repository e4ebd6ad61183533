import Derived.Test.YtgofjmhdgmfgfaaGreatDoorTm
namespace Go.Proofs.YtgofjmhdgmfgfaaGreatDoor
open Go.ChangeShapes Go.WideShapes Go.ChangeAt Go.RowKit
set_option linter.unusedVariables false

theorem rm_lt {r p : Nat} (h : rm r p = true) : r < 16 := by
  unfold rm at h
  split at h
  · have : r = 0 := by simpa using h
    omega
  · simpa using h
theorem ck_regs {op : Int} {d a b : Nat} {n : Int} (h : ck op d a b n = 0) : d < 16 ∧ a < 16 ∧ b < 16 := by
  obtain ⟨_, h1, _⟩ := ck_zero h
  have hm : (rm d (lD (fo op)) = true ∧ rm a (lA (fo op)) = true) ∧ rm b (lB (fo op)) = true := by simpa [rms] using h1
  exact ⟨rm_lt hm.1.1, rm_lt hm.1.2, rm_lt hm.2⟩

/-- The operands as texts. -/
def olF (f t : Nat) (d a b : Nat) (n : Int) : List (List UInt8) :=
  if f = 1 then [rgT d, rgT a, rgT b] else if f = 2 then (if t = 2 then [rgT d, mbT a n] else [rgT d, rgT a, Lib.itoa n]) else if f = 3 then (if t = 2 then [rgT b, mbT a n] else [rgT a, rgT b, Lib.itoa n])
  else if f = 4 then [rgT d, Lib.itoa n] else if f = 5 then [rgT d] else if f = 6 then [rgT a] else if f = 7 then [Lib.itoa n] else []
def ol (op : Int) (d a b : Nat) (n : Int) : List (List UInt8) := olF (fo op) (tk op) d a b n
def opT (l : List (List UInt8)) : List UInt8 := if l = [] then [] else 32 :: Lib.join l [44, 32]
/-- The text of an instruction. -/
def tx (op : Int) (d a b : Nat) (n : Int) : List UInt8 := if ck op d a b n = 0 then nm op ++ opT (ol op d a b n) else []
theorem ck_imm {op : Int} {d a b : Nat} {n : Int} (h : ck op d a b n = 0) : -2147483648 ≤ n ∧ n ≤ 2147483647 := by
  obtain ⟨h0, _, h2⟩ := ck_zero h
  have hn : lo op ≤ n ∧ n ≤ hi op := by simpa [im] using h2
  rcases bound_cases op with ⟨h | h, ⟨l, h'⟩ | ⟨l, h'⟩⟩ | h | h | h <;> simp [lo, loF, hi, hiF, h] at hn <;> omega
theorem operands_any (w : World) (hg : Gg w) (op : Int) (d a b : Nat) (n : Int) (h : ck op d a b n = 0) :
    Calls Tryz.prog 37 #[iv op d a b n] w fun e w' => (∃ v, e = .returned v ∧ OS w' v ((ol op d a b n).map sb)) ∧ Kp w w' := by
  obtain ⟨h0, _, _⟩ := ck_zero h
  obtain ⟨hd, ha, hb⟩ := ck_regs h
  obtain ⟨n0, n1⟩ := ck_imm h
  have hR := fun V (g : Gt V) => rowOf_any V g op
  have hL := fun V (g : Gt V) => layoutOf_any V g op
  unfold ol
  rcases op_pairs h0 with ⟨f, t⟩ | ⟨f, t⟩ | ⟨f, t⟩ | ⟨f, t⟩ | ⟨f, t⟩ | ⟨f, t⟩ | ⟨f, t⟩ | ⟨f, t⟩ | ⟨f, t⟩ | ⟨f, t⟩ | ⟨f, t⟩ | ⟨f, t⟩ | ⟨f, t⟩
  · rw [f, t] at hR; rw [f] at hL; rw [f, t]
    exact opnd_1 w hg op d a b n (by omega) (by omega) (by omega) n0 n1 (sb (nm op)) 1 0 rfl hL hR
  · rw [f, t] at hR; rw [f] at hL; rw [f, t]
    exact opnd_2 w hg op d a b n (by omega) (by omega) (by omega) n0 n1 (sb (nm op)) 2 1 rfl hL hR
  · rw [f, t] at hR; rw [f] at hL; rw [f, t]
    exact opnd_2o w hg op d a b n (by omega) (by omega) (by omega) n0 n1 (sb (nm op)) 2 hL hR
  · rw [f, t] at hR; rw [f] at hL; rw [f, t]
    exact opnd_2 w hg op d a b n (by omega) (by omega) (by omega) n0 n1 (sb (nm op)) 2 3 rfl hL hR
  · rw [f, t] at hR; rw [f] at hL; rw [f, t]
    exact opnd_2 w hg op d a b n (by omega) (by omega) (by omega) n0 n1 (sb (nm op)) 2 4 rfl hL hR
  · rw [f, t] at hR; rw [f] at hL; rw [f, t]
    exact opnd_3 w hg op d a b n (by omega) (by omega) (by omega) n0 n1 (sb (nm op)) 3 1 rfl hL hR
  · rw [f, t] at hR; rw [f] at hL; rw [f, t]
    exact opnd_3o w hg op d a b n (by omega) (by omega) (by omega) n0 n1 (sb (nm op)) 3 hL hR
  · rw [f, t] at hR; rw [f] at hL; rw [f, t]
    exact opnd_4 w hg op d a b n (by omega) (by omega) (by omega) n0 n1 (sb (nm op)) 4 1 rfl hL hR
  · rw [f, t] at hR; rw [f] at hL; rw [f, t]
    exact opnd_4 w hg op d a b n (by omega) (by omega) (by omega) n0 n1 (sb (nm op)) 4 3 rfl hL hR
  · rw [f, t] at hR; rw [f] at hL; rw [f, t]
    exact opnd_5 w hg op d a b n (by omega) (by omega) (by omega) n0 n1 (sb (nm op)) 5 0 rfl hL hR
  · rw [f, t] at hR; rw [f] at hL; rw [f, t]
    exact opnd_6 w hg op d a b n (by omega) (by omega) (by omega) n0 n1 (sb (nm op)) 6 0 rfl hL hR
  · rw [f, t] at hR; rw [f] at hL; rw [f, t]
    exact opnd_7 w hg op d a b n (by omega) (by omega) (by omega) n0 n1 (sb (nm op)) 7 3 rfl hL hR
  · rw [f, t] at hR; rw [f] at hL; rw [f, t]
    exact opnd_8 w hg op d a b n (by omega) (by omega) (by omega) n0 n1 (sb (nm op)) 8 0 rfl hL hR
theorem nm_len : ∀ k : Fin 49, (nmTab.getD k.val []).length ≤ 5 := by decide +kernel
theorem nm_short (op : Int) : (nm op).length ≤ 5 := by
  cases h : isO op
  · rw [(fo_no h).2.2]; simp
  · obtain ⟨o0, o1⟩ := (isO_iff op).1 h
    exact nm_len ⟨op.toNat, by omega⟩
theorem join_le (l : List (List UInt8)) (h3 : l.length ≤ 3) (h : ∀ x ∈ l, x.length ≤ 80) : (Lib.join l [44, 32]).length ≤ 300 := by
  match l, h3, h with
  | [], _, _ => simp [Lib.join]
  | [x], _, h => have := h x (by simp); rw [Lib.join_one]; omega
  | [x, y], _, h => have h1 := h x (by simp); have h2 := h y (by simp); rw [Lib.join_cons]; simp [Lib.joinTail]; omega
  | [x, y, z], _, h => have h1 := h x (by simp); have h2 := h y (by simp); have h3 := h z (by simp); rw [Lib.join_cons]; simp [Lib.joinTail]; omega
  | x :: y :: z :: u :: r, h3, _ => simp at h3
theorem ol_short {op : Int} {d a b : Nat} {n : Int} (h : ck op d a b n = 0) : (ol op d a b n).length ≤ 3 ∧ ∀ x ∈ ol op d a b n, x.length ≤ 80 := by
  obtain ⟨hd, ha, hb⟩ := ck_regs h
  obtain ⟨n0, n1⟩ := ck_imm h
  have e1 := Lib.itoa_length_le n (by omega) (by omega)
  have e2 := Lib.itoa_length_le (d : Int) (by omega) (by omega)
  have e3 := Lib.itoa_length_le (a : Int) (by omega) (by omega)
  have e4 := Lib.itoa_length_le (b : Int) (by omega) (by omega)
  have q1 : (rgT d).length ≤ 80 := by simp [rgT]; omega
  have q2 : (rgT a).length ≤ 80 := by simp [rgT]; omega
  have q3 : (rgT b).length ≤ 80 := by simp [rgT]; omega
  have q4 : (mbT a n).length ≤ 80 := by simp [mbT, rgT]; omega
  have q5 : (Lib.itoa n).length ≤ 80 := by omega
  unfold ol olF
  generalize rgT d = x1 at *
  generalize rgT a = x2 at *
  generalize rgT b = x3 at *
  generalize mbT a n = x4 at *
  generalize Lib.itoa n = x5 at *
  repeat' split
  all_goals simp [*]
theorem map_sb (xs : List (List UInt8)) : (xs.map sb).map (fun x => x.data.toList) = xs := by
  induction xs with
  | nil => rfl
  | cons x r ih => rw [List.map_cons, List.map_cons, ih]; rfl
theorem opT_nil : opT [] = [] := rfl
set_option maxHeartbeats 2000000 in
set_option maxRecDepth 100000 in
theorem Text_any (w : World) (hg : Gg w) (op : Int) (d a b : Nat) (n : Int) :
    Calls Tryz.prog 19 #[iv op d a b n] w fun e w' => e = .returned (.string (sb (tx op d a b n))) ∧ Kp w w' := by
  have hC := fun w h => check_any w h op d a b n
  have kA : Kp w (w.alloc (.cells #[.int .i64 op, .int .u8 d, .int .u8 a, .int .u8 b, .int .i32 n] 48)) := (Chg.refl _ _).alloc _
  have hg1 := hg.keep kA
  by_cases hc : ck op d a b n = 0
  · have hO := fun w h => operands_any w h op d a b n hc
    obtain ⟨l3, l80⟩ := ol_short hc
    have hj := join_le _ l3 l80
    have hN := fun w h => Name_any w h op
    have hns := nm_short op
    have HT : Hid (tx op d a b n = nm op ++ opT (ol op d a b n)) := if_pos hc
    rw [hc] at hC
    clear hc l80
    generalize tx op d a b n = T at *
    generalize ol op d a b n = xs at *
    generalize nm op = nmo at *
    obtain ⟨sT, HsT⟩ : ∃ sT, Hid (sT = sb T) := ⟨_, rfl⟩
    rw [← HsT.out]
    have HG : Hid (Gg w) := hg
    have hC1 := hC _ hg1.1
    clear hC
    go_enter Tryz.func19, Tryz.ntmps19
    go_wp2_with fail
    go_at_call 34
    refine hC1.mono ?_
    rintro e w1 ⟨rfl, k1⟩
    have hO1 := hO w1 (HG.out.keep (Kp.trans kA k1))
    obtain ⟨c0, c1, c2, c3, c4, _⟩ := cells5 (Kp.heap k1 (heap_alloc_new w _))
    clear hC1 hO
    go_wp2_with fail
    go_at_call 37
    refine hO1.mono ?_
    rintro e w2 ⟨⟨v, rfl, ho⟩, k2⟩
    clear c0 c1 c2 c3 c4 hO1
    have kk : Kp w w2 := Kp.trans (Kp.trans kA k1) k2
    have hN2 := hN w2 (HG.out.keep kk).1
    obtain ⟨c0, c1, c2, c3, c4, _⟩ := cells5 (Kp.heap (Kp.trans k1 k2) (heap_alloc_new w _))
    rcases ho.at with ⟨rfl, hx⟩ | ⟨g, cap, rfl, hcap, hgl, hcs⟩
    · have hxs : xs = [] := by simpa using hx
      subst hxs
      have HT' : Hid (T = nmo) := by
        have e := HT.out
        rw [opT_nil, List.append_nil] at e
        exact e
      clear HT ho hx hN
      generalize hs : sb nmo = sn at *
      have HS : Hid (sT = sn) := by
        have e := HsT.out
        rw [HT'.out, hs] at e
        exact e
      clear hs
      go_wp2_with (go_at_call 38; refine hN2.mono ?_; rintro e w3 ⟨rfl, k3⟩)
      go_ret
      exact ⟨congrArg (fun s => Ending.returned (.string s)) HS.out.symm, Kp.trans kk k3⟩
    · simp only [List.length_map] at hcap hcs ⊢
      by_cases hx0 : xs = []
      · subst hx0
        have HT' : Hid (T = nmo) := by
          have e := HT.out
          rw [opT_nil, List.append_nil] at e
          exact e
        clear HT ho hcs hcap hN
        generalize hs : sb nmo = sn at *
        have HS : Hid (sT = sn) := by
          have e := HsT.out
          rw [HT'.out, hs] at e
          exact e
        clear hs
        go_wp2_with (go_at_call 38; refine hN2.mono ?_; rintro e w3 ⟨rfl, k3⟩)
        go_ret
        exact ⟨congrArg (fun s => Ending.returned (.string s)) HS.out.symm, Kp.trans kk k3⟩
      · have hl0 : xs.length ≠ 0 := fun h => hx0 (List.eq_nil_of_length_eq_zero h)
        have hlb : ((xs.length : Int) == 0) = false := by simpa using hl0
        have hJ : ∀ V, Kp w2 V → Calls Tryz.prog 39 #[.slice (some ⟨g, 0, none⟩) xs.length cap, .string ⟨#[44, 32]⟩] V fun e w' => e = .returned (.string (sb (Lib.join xs [44, 32]))) ∧ Kp V w' := fun V k => by
          have e1 := map_sb xs
          have := join_any g cap (xs.map sb) ⟨#[44, 32]⟩ V (fun j x hx => Kp.cell k (hcs j x hx)) (Nat.lt_of_lt_of_le hgl k.size) (by simp; omega) (by simpa using hcap) (by rw [e1]; exact Nat.le_trans hj (by omega))
          rw [e1, List.length_map] at this
          exact this
        have hz1 : (sb nmo).size ≤ 5 := by rw [sb_size]; exact hns
        have hz2 : (sb (Lib.join xs [44, 32])).size ≤ 300 := by rw [sb_size]; exact hj
        have HS : Hid (sb nmo ++ ⟨#[32]⟩ ++ sb (Lib.join xs [44, 32]) = sT) := by
          rw [HsT.out, HT.out, opT, if_neg hx0, ← (sb_app nmo _).2, show (32 : UInt8) :: Lib.join xs [44, 32] = [32] ++ Lib.join xs [44, 32] from rfl, ← (sb_app [32] _).2]
          exact ByteArray.append_assoc
        clear HT ho hcs hcap hN hj hns hx0
        generalize sb nmo = sn at *
        generalize sb (Lib.join xs [44, 32]) = sj at *
        have hz3 : ¬ 9223372036854775807 < sn.size + 1 := by omega
        have hz4 : ¬ 9223372036854775807 < sn.size + 1 + sj.size := by omega
        have hz5 : ¬ 9223372036854775807 < (sn ++ ⟨#[32]⟩).size + sj.size := by
          have : (sn ++ ⟨#[32]⟩).size = sn.size + 1 := by simp [ByteArray.size_append]; rfl
          omega
        go_wp2_with fail
        go_at_call 38
        refine hN2.mono ?_
        rintro e w3 ⟨rfl, k3⟩
        have hJ3 := hJ w3 k3
        go_wp2_with (go_at_call 39; refine hJ3.mono ?_; rintro e w4 ⟨rfl, k4⟩)
        go_ret
        exact ⟨congrArg (fun s => Ending.returned (.string s)) HS.out, Kp.trans kk (Kp.trans k3 k4)⟩
  · have HT : Hid (tx op d a b n = []) := if_neg hc
    have hb : (ck op d a b n == 0) = false := by simpa using hc
    have hC1 := hC _ hg1.1
    generalize tx op d a b n = T at *
    generalize ck op d a b n = c at *
    clear hC
    go_enter Tryz.func19, Tryz.ntmps19
    go_wp2_with (go_at_call 34; refine hC1.mono ?_; rintro e w1 ⟨rfl, k1⟩)
    go_ret
    exact ⟨by rw [HT.out]; rfl, Kp.trans kA k1⟩
end Go.Proofs.YtgofjmhdgmfgfaaGreatDoor
namespace Go.Proofs.YtgofjmhdgmfgfaaGreatDoor
open Go.ChangeShapes Go.WideShapes Go.ChangeAt Go.RowKit
set_option linter.unusedVariables false

theorem fields24 : Tryz.prog.underlying 48 = some (.struct (Tryz.prog.fieldsOf 48)) := by simp [Program.fieldsOf, Tryz.underlying48]
theorem stood24 : Tryz.prog.stoodInHeld 48 = false := by kernel_rfl
/-- Two instructions held against each other. -/
def sameI (a b c d e x y z u v : Int) : Bool := decide (a = x ∧ b = y ∧ c = z ∧ d = u ∧ e = v)
theorem eql24 (a b c d e x y z u v : Int) (w : World) : (binOp BinOp.eql 48 (iv a b c d e) (iv x y z u v)).run Tryz.prog w = .ok (.bool (sameI a b c d e x y z u v)) w := by
  rw [run_eql_struct, run_equalIn_agg w 9999 48 _ _ fields24 stood24]
  simp [Program.fieldsOf, Tryz.underlying48, go_sem]
  by_cases h1 : a = x <;> by_cases h2 : b = y <;> by_cases h3 : c = z <;> by_cases h4 : d = u <;> by_cases h5 : e = v <;> simp [sameI, h1, h2, h3, h4, h5]
theorem nm_inj : ∀ i j : Fin 49, nmTab.getD i.val [] = nmTab.getD j.val [] → i = j := by decide +kernel
theorem sb_inj {a b : List UInt8} (h : sb a = sb b) : a = b := by
  have := congrArg (fun x => x.data.toList) h
  simpa [sb] using this
theorem nd_of {k : Nat} (h0 : 0 < k) (h1 : k < 49) {o : Int} {y : Bool} (h : Nd (sb (nmTab.getD k [])) o y) : o = k ∧ y = true := by
  rcases h with ⟨hy, j, rfl, j0, j1, e⟩ | ⟨_, _, h⟩
  · have := nm_inj ⟨j, j1⟩ ⟨k, h1⟩ (sb_inj e)
    simp only [Fin.mk.injEq] at this
    subst this
    exact ⟨rfl, hy⟩
  · exact absurd rfl (h k h0 h1)
theorem Kp.cells5 {w w' : World} {p : Nat} {a b c d e : Value} {T : TypeId} (h : Kp w w') (g : w.heap[p]? = some (.cells #[a, b, c, d, e] T (0, 0))) :
    w'.cell? ⟨p, 0, none⟩ = some a ∧ w'.cell? ⟨p, 1, none⟩ = some b ∧ w'.cell? ⟨p, 2, none⟩ = some c ∧ w'.cell? ⟨p, 3, none⟩ = some d ∧ w'.cell? ⟨p, 4, none⟩ = some e := by
  obtain ⟨h0, h1, h2, h3, h4, _⟩ := YtgofjmhdgmfgfaaGreatDoor.cells5 (Kp.heap h g)
  exact ⟨h0, h1, h2, h3, h4⟩
end Go.Proofs.YtgofjmhdgmfgfaaGreatDoor
