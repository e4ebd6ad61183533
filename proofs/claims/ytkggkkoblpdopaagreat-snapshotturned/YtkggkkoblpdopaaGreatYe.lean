import Derived.Test.YtkggkkoblpdopaaGreatYd
namespace Go.Proofs.YtkggkkoblpdopaaGreat
open Go.ChangeShapes Go.WideShapes Go.ChangeAt Go.RowKit
set_option linter.unusedVariables false
def magS : ByteArray := ⟨#[67, 76, 83, 78, 1, 0, 0, 0]⟩
/-- Bytes as a text, one by one. -/
theorem strOf_eq (l : List Int) (hl : ∀ n ∈ l, 0 ≤ n ∧ n ≤ 255) : strOf l = ⟨(l.map (fun n => UInt8.ofNat n.toNat)).toArray⟩ := by
  have e : (l.map (fun n => UInt8.ofNat n.toNat)).map (fun b => (b.toNat : Int)) = l := by
    rw [List.map_map]
    conv => rhs; rw [← List.map_id l]
    apply List.map_congr_left
    intro n hn
    have := hl n hn
    simp only [Function.comp, id]
    rw [UInt8.toNat_ofNat_of_lt' (by show n.toNat < 256; omega)]
    omega
  unfold strOf
  conv => lhs; rw [← e]
  rw [foldl_push_byteCells]
  simp
theorem strOf_inj {l m : List Int} (hl : ∀ n ∈ l, 0 ≤ n ∧ n ≤ 255) (hm : ∀ n ∈ m, 0 ≤ n ∧ n ≤ 255) (h : strOf l = strOf m) : l = m := by
  rw [strOf_eq l hl, strOf_eq m hm] at h
  have h1 : l.map (fun n => UInt8.ofNat n.toNat) = m.map (fun n => UInt8.ofNat n.toNat) := by
    have := congrArg (fun b => b.data.toList) h
    simpa using this
  have e : ∀ (k : List Int), (∀ n ∈ k, 0 ≤ n ∧ n ≤ 255) → (k.map (fun n => UInt8.ofNat n.toNat)).map (fun b => (b.toNat : Int)) = k := by
    intro k hk
    rw [List.map_map]
    conv => rhs; rw [← List.map_id k]
    apply List.map_congr_left
    intro n hn
    have := hk n hn
    simp only [Function.comp, id]
    rw [UInt8.toNat_ofNat_of_lt' (by show n.toNat < 256; omega)]
    omega
  rw [← e l hl, h1, e m hm]
theorem strOf_magic : strOf magic = magS := by decide +kernel
theorem beqS (x y : ByteArray) : (x.toList == y.toList) = true ↔ x = y := by
  rw [beq_iff_eq, ByteArray.toList_eq, ByteArray.toList_eq]
  exact ⟨fun h => ByteArray.ext (Array.toList_inj.mp h), fun h => by rw [h]⟩
theorem mag_cmp (l : List Int) (hl : ∀ n ∈ l, 0 ≤ n ∧ n ≤ 255) : ((strOf l).toList == [67, 76, 83, 78, 1, 0, 0, 0]) = decide (l = magic) := by
  have e : ([67, 76, 83, 78, 1, 0, 0, 0] : List UInt8) = magS.toList := by decide +kernel
  rw [e]
  by_cases h : l = magic
  · rw [decide_eq_true h, h, strOf_magic]; exact (beqS _ _).2 rfl
  · rw [decide_eq_false h]
    cases hc : ((strOf l).toList == magS.toList) with
    | false => rfl
    | true =>
      have := (beqS _ _).1 hc
      rw [← strOf_magic] at this
      exact absurd (strOf_inj hl (by decide) this) h
def rs0 (bs : List Int) : RS := ⟨bs, 0, 0, 0⟩
def rs1 (bs : List Int) : RS := ((rs0 bs).take 8).2
def rs2 (bs : List Int) : RS := (rs1 bs).part.2
def rs3 (bs : List Int) : RS := ((rs2 bs).take 4).2
def rs4 (bs : List Int) : RS := (rs3 bs).end
/-- What is wrong around a body. -/
def opnE (bs : List Int) : Option Int :=
  if 67108864 < bs.length then some 230
  else if ((rs0 bs).take 8).1 ≠ magic then some 230
  else if (rs4 bs).err ≠ 0 then some 230
  else if (rs2 bs).num 4 ≠ crc (bs.take (rs2 bs).at_) then some 231
  else none
theorem Bs.pre2 {w : World} {a : Option Addr} {len n : Nat} {bs : List Int} (h : Bs w a len bs) (hn : n ≤ len) : Bs w a n (bs.take n) := by
  obtain ⟨h1, h2, h3, h4⟩ := h
  refine ⟨by simp; omega, by omega, fun x hx => h3 x (List.mem_of_mem_take hx), ?_⟩
  rcases h4 with h4 | ⟨b, o, e, hc⟩
  · exact .inl (by omega)
  · refine .inr ⟨b, o, e, fun i hi => ?_⟩
    rw [hc i (by omega)]
    simp [List.getElem?_take_of_lt hi]
theorem RS.counted_bs (s : RS) (k most : Nat) : (s.counted k most).2.bs = s.bs := by
  unfold RS.counted
  split
  · rw [RS.take_bs]; exact RS.take_bs s k
  · split
    · rw [RS.take_bs]; exact RS.take_bs s k
    · rw [RS.take_bs, RS.take_bs]
theorem RS.take_le (s : RS) (n : Nat) : (s.take n).1.length ≤ s.bs.length := by
  unfold RS.take
  split
  · simp
  · split
    · simp
    · simp; omega
theorem RS.counted_le (s : RS) (k most : Nat) : (s.counted k most).1.length ≤ s.bs.length := by
  unfold RS.counted
  split
  · exact Nat.le_trans (RS.take_le _ _) (by show ((s.take k).2).bs.length ≤ _; rw [RS.take_bs]; exact Nat.le_refl _)
  · split
    · exact Nat.le_trans (RS.take_le _ _) (by show ((s.take k).2).bs.length ≤ _; rw [RS.take_bs]; exact Nat.le_refl _)
    · exact Nat.le_trans (RS.take_le _ _) (by rw [RS.take_bs]; exact Nat.le_refl _)
theorem RS_part_bs (bs : List Int) : (rs2 bs).bs = bs := by
  show (RS.counted _ _ _).2.bs = bs
  rw [RS.counted_bs]
  exact RS.take_bs _ _
theorem RS_part_len (bs : List Int) : (rs1 bs).part.1.bs.length ≤ bs.length := by
  show (RS.counted _ _ _).1.length ≤ _
  refine Nat.le_trans (RS.counted_le _ _ _) ?_
  show ((rs0 bs).take 8).2.bs.length ≤ _
  rw [RS.take_bs]
  exact Nat.le_refl _
theorem Kp.trans' {w w1 w2 : World} {R : Nat} (h : Kp w w1) (c : Chg w1 w2 (fun k => k = R)) (hR : w.heap.size ≤ R) : Kp w w2 := Chg.trans h c (fun k hk e => by omega)
/-- What opened tells. -/
def OpnR (w : World) (bs : List Int) (r : Ending) (w' : World) : Prop := Kp w w' ∧ ((∃ e, opnE bs = some e ∧ r = .returned (.tuple #[.pointer none, .int .i64 e])) ∨ (opnE bs = none ∧ ∃ R a cap, r = .returned (.tuple #[.pointer (some ⟨R, 0, none⟩), .int .i64 0]) ∧ IsRS w' R a cap (rs1 bs).part.1 ∧ w.heap.size ≤ R ∧ ∀ b o, a = some ⟨b, o, none⟩ → 0 < (rs1 bs).part.1.bs.length → w.heap.size ≤ b))
set_option maxRecDepth 100000 in
set_option maxHeartbeats 2000000 in
theorem opened_any (w : World) (a : Option Addr) (len cap : Nat) (bs : List Int) (hB : Bs w a len bs) (hlc : len ≤ cap) :
    Calls Tryz.prog 29 #[.slice a len cap] w fun r w' => OpnR w bs r w' := by
  have HB : Hid (Bs w a len bs) := hB
  have hlen := hB.1
  have hle2 := hB.2.1
  by_cases hbig : 67108864 < len
  · have hbz : (len : Int) > 67108864 := by omega
    have HF : Hid (OpnR w bs (.returned (.tuple #[.pointer none, .int .i64 230])) w) := ⟨Kp.refl w, .inl ⟨230, by unfold opnE; rw [if_pos (by omega)], rfl⟩⟩
    clear hB
    go_enter Tryz.func29, Tryz.ntmps29
    go_wp2
    exact ⟨rfl, _, by simp [results, Tryz.results29, go_sem], HF.out⟩
  have hbz : ¬ (len : Int) > 67108864 := by omega
  have HBG : Hid (¬ 67108864 < bs.length) := by show ¬ _; omega
  have A1 := newReader_any w a len cap bs hB
  clear hB
  go_enter Tryz.func29, Tryz.ntmps29
  go_wp2_with fail
  go_at_call 74
  refine A1.mono ?_
  clear A1
  rintro e w1 ⟨R, a1, cap1, rfl, i1, k1, hR1, ha1⟩
  have i1' : IsRS w1 R a1 cap1 (rs0 bs) := i1
  have A1 := raw_any w1 R a1 cap1 (rs0 bs) 8 (by omega) i1'
  have H1 : Hid (Kp w w1 ∧ w.heap.size ≤ R ∧ (∀ b o, a1 = some ⟨b, o, none⟩ → w.heap.size ≤ b) ∧ ∀ x ∈ bs, 0 ≤ x ∧ x ≤ 255) := ⟨k1, hR1, ha1, i1'.rng⟩
  clear i1 i1' k1 hR1 ha1
  go_wp2_with fail
  go_at_call 75
  refine A1.mono ?_
  clear A1
  rintro e w2 ⟨v2, rfl, ho2, hf2, i2, c2⟩
  have e8 : (rs0 bs).raw 8 = (rs0 bs).take 8 := rfl
  rw [e8] at ho2 i2
  obtain ⟨a2, cc2, rfl, hb2⟩ := ho2.bs (by have := RS.take_len (rs0 bs) 8; omega)
  have hcv := conv_str w2 a2 _ cc2 _ hb2
  have hcm := mag_cmp ((rs0 bs).take 8).1 hb2.2.2.1
  have i2' : IsRS w2 R a1 cap1 (rs1 bs) := i2
  have H2 : Hid (Kp w w2 ∧ IsRS w2 R a1 cap1 (rs1 bs)) := ⟨H1.out.1.trans' c2 H1.out.2.1, i2'⟩
  generalize strOf ((rs0 bs).take 8).1 = str at *
  by_cases hm : ((rs0 bs).take 8).1 = magic
  · rw [decide_eq_true hm] at hcm
    have A1 := part_any w2 R a1 cap1 (rs1 bs) i2'
    have HM : Hid (((rs0 bs).take 8).1 = magic) := hm
    clear i2 i2' ho2 hf2 hb2 c2 hm e8
    go_wp2_with fail
    go_at_call 76
    refine A1.mono ?_
    clear A1 hcv hcm
    rintro e w3 ⟨R2, a3, cap3, rfl, j3, i3, c3, hR2, ha3⟩
    have i3' : IsRS w3 R a1 cap1 (rs2 bs) := i3
    have A1 := rat_any w3 R a1 cap1 (rs2 bs) i3'
    have hat : (rs2 bs).at_ ≤ bs.length := by
      have h1 := i3'.at_le
      have h2 : (rs2 bs).bs = bs := RS_part_bs bs
      rw [h2] at h1; exact h1
    have H3 : Hid (Kp w w3 ∧ IsRS w3 R a1 cap1 (rs2 bs) ∧ IsRS w3 R2 a3 cap3 (rs1 bs).part.1 ∧ w.heap.size ≤ R2 ∧ R2 ≠ R ∧ (∀ b o, a3 = some ⟨b, o, none⟩ → 0 < (rs1 bs).part.1.bs.length → w.heap.size ≤ b ∧ b ≠ R)) := by
      refine ⟨H2.out.1.trans' c3 H1.out.2.1, i3', j3, Nat.le_trans H2.out.1.size hR2, ?_, fun b o e hl => ?_⟩
      · have := hp_lt H2.out.2.box; omega
      · obtain ⟨o', e'⟩ := ha3 b o e hl
        refine ⟨H1.out.2.2.1 b o' e', fun hb => ?_⟩
        obtain ⟨q1, q2, q3, q4⟩ := i3'.bytes
        have h9 : 0 < (rs2 bs).bs.length := by
          have h2 : (rs2 bs).bs = bs := RS_part_bs bs
          rw [h2]
          have := RS_part_len bs
          omega
        rcases q4 with q4 | ⟨bb, oo, q4, q5⟩
        · omega
        · rw [e'] at q4; cases q4
          have c := q5 0 h9
          have hbx := i3'.box
          rw [← hb] at hbx
          rw [(cells_at hbx _).1] at c
          have hoo : o' + 0 < 4 := by have := (Array.getElem?_eq_some_iff.1 c).1; simpa using this
          have : o' = 0 ∨ o' = 1 ∨ o' = 2 ∨ o' = 3 := by omega
          rcases this with rfl | rfl | rfl | rfl <;> simp at c
    have hRw := H1.out.2.1
    clear i3 i3' j3 c3 hR2 ha3 H2 H1
    have hcp : ((rs2 bs).at_ : Int) ≤ (cap : Int) := by omega
    go_wp2_with fail
    go_at_call 77
    refine A1.mono ?_
    clear A1
    rintro e w3' ⟨rfl, hw3⟩
    rw [hw3]
    clear hw3 w3'
    have A1 := m32_any w3 R a1 cap1 (rs2 bs) H3.out.2.1
    obtain ⟨sa, hsa⟩ : ∃ x, x = (rs2 bs).at_ := ⟨_, rfl⟩
    rw [← hsa] at hat hcp ⊢
    obtain ⟨sm, hsm⟩ : ∃ x, x = (rs2 bs).num 4 := ⟨_, rfl⟩
    rw [← hsm] at A1
    have HA : Hid (sa = (rs2 bs).at_ ∧ sm = (rs2 bs).num 4) := ⟨hsa, hsm⟩
    clear hsa hsm
    go_wp2_with fail
    go_at_call 78
    refine A1.mono ?_
    clear A1
    rintro e w4 ⟨rfl, i4, c4⟩
    have i4' : IsRS w4 R a1 cap1 (rs3 bs) := i4
    have A1 := end_any w4 R a1 cap1 (rs3 bs) i4'
    have H4 : Hid (Kp w w4 ∧ IsRS w4 R2 a3 cap3 (rs1 bs).part.1 ∧ w.heap.size ≤ R2 ∧ R2 ≠ R ∧ (∀ b o, a3 = some ⟨b, o, none⟩ → 0 < (rs1 bs).part.1.bs.length → w.heap.size ≤ b ∧ b ≠ R)) := ⟨H3.out.1.trans' c4 hRw, H3.out.2.2.1.other c4 H3.out.2.2.2.2.1 (fun b o e hl => (H3.out.2.2.2.2.2 b o e hl).2), H3.out.2.2.2⟩
    clear i4 i4' c4 H3
    go_wp2_with fail
    go_at_call 30
    refine A1.mono ?_
    clear A1
    rintro e w5 ⟨rfl, i5, c5⟩
    have i5' : IsRS w5 R a1 cap1 (rs4 bs) := i5
    have A1 := rerr_any w5 R a1 cap1 (rs4 bs) i5'
    have H5 : Hid (Kp w w5 ∧ IsRS w5 R2 a3 cap3 (rs1 bs).part.1 ∧ w.heap.size ≤ R2 ∧ (∀ b o, a3 = some ⟨b, o, none⟩ → 0 < (rs1 bs).part.1.bs.length → w.heap.size ≤ b)) := ⟨H4.out.1.trans' c5 hRw, H4.out.2.1.other c5 H4.out.2.2.2.1 (fun b o e hl => (H4.out.2.2.2.2 b o e hl).2), H4.out.2.2.1, fun b o e hl => (H4.out.2.2.2.2 b o e hl).1⟩
    clear i5 i5' c5 H4
    obtain ⟨er, her⟩ : ∃ x, x = (rs4 bs).err := ⟨_, rfl⟩
    obtain ⟨wh, hwh⟩ : ∃ x, x = (rs4 bs).wh := ⟨_, rfl⟩
    rw [← her, ← hwh] at A1
    clear hwh
    have HER : Hid (er = (rs4 bs).err) := her
    clear her
    go_wp2_with fail
    go_at_call 79
    refine A1.mono ?_
    clear A1
    rintro e w6 ⟨rfl, i6, k6⟩
    have H6 : Hid (Kp w w6 ∧ IsRS w6 R2 a3 cap3 (rs1 bs).part.1 ∧ w.heap.size ≤ R2 ∧ (∀ b o, a3 = some ⟨b, o, none⟩ → 0 < (rs1 bs).part.1.bs.length → w.heap.size ≤ b)) := ⟨Kp.trans H5.out.1 k6, H5.out.2.1.other k6 (fun e => e) (fun _ _ _ _ e => e), H5.out.2.2⟩
    clear i6 k6 H5
    by_cases he : er = 0
    · have hBs := (Bs.pre2 (HB.out.chg H6.out.1 (by simp)) (n := sa) (by omega))
      have k7 := Kp.al w6 (.cells #[.slice a sa cap] 22)
      have A1 := sum_one (w6.alloc (.cells #[.slice a sa cap] 22)) w6.heap.size 1 a sa cap (bs.take sa) (heap_alloc_new w6 _) (hBs.chg k7 (by simp))
      obtain ⟨cr, hcr⟩ : ∃ x, x = crc (bs.take sa) := ⟨_, rfl⟩
      rw [← hcr] at A1
      have HCR : Hid (cr = crc (bs.take sa) ∧ Kp w6 (w6.alloc (.cells #[.slice a sa cap] 22)) ∧ er = 0) := ⟨hcr, k7, he⟩
      subst he
      clear hcr hBs k7
      go_wp2_with fail
      go_at_call 28
      refine A1.mono ?_
      clear A1
      rintro e w7 ⟨rfl, hw7⟩
      obtain ⟨w8, hw8⟩ : ∃ w8, w8 = w6.alloc (.cells #[.slice a sa cap] 22) := ⟨_, rfl⟩
      have HCR' := HCR.out
      rw [← hw8] at HCR' hw7
      rw [hw7]
      clear hw7 w7 hw8 HCR
      have HC2 : Hid (cr = crc (bs.take sa) ∧ Kp w6 w8) := ⟨HCR'.1, HCR'.2.1⟩
      clear HCR'
      by_cases hc : sm = cr
      · have HF : Hid (OpnR w bs (.returned (.tuple #[.pointer (some ⟨R2, 0, none⟩), .int .i64 0])) w8) := ⟨Kp.trans H6.out.1 HC2.out.2, .inr ⟨by
          unfold opnE; rw [if_neg HBG.out, if_neg (fun h => h HM.out), if_neg (fun h => h (by rw [← HER.out])), if_neg (fun h => h (by rw [← HA.out.2, ← HA.out.1, hc]; exact HC2.out.1))], R2, a3, cap3, rfl, H6.out.2.1.other HC2.out.2 (fun e => e) (fun _ _ _ _ e => e), H6.out.2.2.1, H6.out.2.2.2⟩⟩
        subst hc
        clear H6 HC2
        go_wp2
        exact ⟨rfl, _, by simp [results, Tryz.results29, go_sem], HF.out⟩
      · have hcz : ((sm : Int) == (cr : Int)) = false := by simp; omega
        have hcz2 : ¬ (sm : Int) = (cr : Int) := by omega
        have HF : Hid (OpnR w bs (.returned (.tuple #[.pointer none, .int .i64 231])) w8) := ⟨Kp.trans H6.out.1 HC2.out.2, .inl ⟨231, by
          unfold opnE; rw [if_neg HBG.out, if_neg (fun h => h HM.out), if_neg (fun h => h (by rw [← HER.out])), if_pos (fun h => hc (by rw [HA.out.2, h, ← HA.out.1]; exact HC2.out.1.symm))], rfl⟩⟩
        clear H6 HC2
        go_wp2
        exact ⟨rfl, _, by simp [results, Tryz.results29, go_sem], HF.out⟩
    · have hez : (er == 0) = false := by simpa using he
      have HF : Hid (OpnR w bs (.returned (.tuple #[.pointer none, .int .i64 230])) w6) := ⟨H6.out.1, .inl ⟨230, by unfold opnE; rw [if_neg HBG.out, if_neg (fun h => h HM.out), if_pos (by rw [← HER.out]; exact he)], rfl⟩⟩
      clear H6
      go_wp2
      exact ⟨rfl, _, by simp [results, Tryz.results29, go_sem], HF.out⟩
  · rw [decide_eq_false hm] at hcm
    have HF : Hid (OpnR w bs (.returned (.tuple #[.pointer none, .int .i64 230])) w2) := ⟨H2.out.1, .inl ⟨230, by unfold opnE; rw [if_neg HBG.out, if_pos hm], rfl⟩⟩
    clear i2 i2' ho2 hf2 hb2 c2 hm e8 H2
    go_wp2
    exact ⟨rfl, _, by simp [results, Tryz.results29, go_sem], HF.out⟩
end Go.Proofs.YtkggkkoblpdopaaGreat
