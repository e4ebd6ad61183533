import Derived.Test.YtkggkkoblpdopaaGreatRd
namespace Go.Proofs.YtkggkkoblpdopaaGreat
open Go.ChangeShapes Go.WideShapes Go.ChangeAt Go.RowKit
set_option linter.unusedVariables false

theorem left_ok (w : World) (R : Nat) (a : Option Addr) (cap : Nat) (bs : List Int) (at_ : Nat) (wh : Int) (h : IsR w R a cap bs at_ 0 wh) :
    Calls Tryz.prog 80 #[.pointer (some ⟨R, 0, none⟩)] w fun r w' => r = .returned (.int .i64 (bs.length - at_ : Nat)) ∧ IsR w' R a cap bs at_ 0 wh ∧ Chg w w' (fun _ => False) := by
  obtain ⟨c0, c1, c2, c3, cf⟩ := h.cells
  have hl := h.at_le
  have hb := h.bytes.2.1
  have H : Hid (IsR w R a cap bs at_ 0 wh) := h
  clear h cf
  go_enter Tryz.func80, Tryz.ntmps80
  go_wp2_with fail
  go_quiet (fail)
  go_wp2
  go_ret
  exact ⟨ret_int (by omega), H.out.drewN _, (Chg.refl _ _).drewN _⟩
theorem left_bad (w : World) (R : Nat) (a : Option Addr) (cap : Nat) (bs : List Int) (at_ : Nat) (err wh : Int) (h : IsR w R a cap bs at_ err wh) (he : (err == 0) = false) :
    Calls Tryz.prog 80 #[.pointer (some ⟨R, 0, none⟩)] w fun r w' => r = .returned (.int .i64 0) ∧ w' = w := by
  obtain ⟨c0, c1, c2, c3, cf⟩ := h.cells
  clear h cf
  go_enter Tryz.func80, Tryz.ntmps80
  go_wp2
  go_ret
  exact ⟨rfl, rfl⟩

/-- What take gives. -/
def Took (w w' : World) (R : Nat) (a : Option Addr) (cap : Nat) (bs : List Int) (at_ n : Nat) (wh : Int) (r : Ending) : Prop :=
  ∃ a' cap', r = .returned (.slice a' n cap') ∧ Bs w' a' n ((bs.drop at_).take n) ∧ IsR w' R a cap bs (at_ + n) 0 wh ∧ Chg w w' (fun k => k = R) ∧ n ≤ cap' ∧ (∀ b o, a' = some ⟨b, o, none⟩ → 0 < n → ∃ o', a = some ⟨b, o', none⟩) ∧ (a' = none → cap' = 0)

theorem Bs.sub {w : World} {a : Option Addr} {bs : List Int} (h : Bs w a bs.length bs) (p n : Nat) (hn : p + n ≤ bs.length) : Bs w (a.map (·.add p)) n ((bs.drop p).take n) := by
  obtain ⟨h1, h2, h3, h4⟩ := h
  refine ⟨by simp; omega, by omega, fun x hx => h3 x (List.mem_of_mem_drop (List.mem_of_mem_take hx)), ?_⟩
  rcases h4 with h4 | ⟨b, off, rfl, hc⟩
  · exact .inl (by omega)
  · refine .inr ⟨b, off + p, by simp [Addr.add_lit], fun i hi => ?_⟩
    have := hc (p + i) (by omega)
    rw [Nat.add_assoc, this]
    simp [hi]

theorem take_ok (w : World) (R : Nat) (a : Option Addr) (cap : Nat) (bs : List Int) (at_ n : Nat) (wh : Int) (h : IsR w R a cap bs at_ 0 wh) (hn : at_ + n ≤ bs.length) :
    Calls Tryz.prog 112 #[.pointer (some ⟨R, 0, none⟩), .int .u64 n] w fun r w' => Took w w' R a cap bs at_ n wh r := by
  obtain ⟨c0, c1, c2, c3, cf⟩ := h.cells
  have hl := h.at_le
  have hb := h.bytes.2.1
  have f1 := cf 1
  have hcap := h.cap_le
  have H : Hid (IsR w R a cap bs at_ 0 wh) := h
  clear h cf
  go_enter Tryz.func112, Tryz.ntmps112
  go_wp2_with fail
  go_quiet (fail)
  rename_i nq
  go_wp2
  have hle : (at_ : Int) + n ≤ cap := by omega
  have hW : Hid (IsR ((w.drewN nq).setCell ⟨R, 1, none⟩ (.int .i64 (at_ + n : Int))) R a cap bs (at_ + n) 0 wh ∧ Chg w ((w.drewN nq).setCell ⟨R, 1, none⟩ (.int .i64 (at_ + n : Int))) (fun k => k = R)) := by
    have hC : Chg w ((w.drewN nq).setCell ⟨R, 1, none⟩ (.int .i64 (at_ + n : Int))) (fun k => k = R) := Chg.setCell (S := fun k => k = R) ((Chg.refl _ _).drewN _) (.inl rfl) _
    refine ⟨H.out.set hC ?_ hn, hC⟩
    rw [box4_set1 (H.out.drewN nq).box _]; simp
  go_quiet (fail)
  go_wp2
  · go_ret
    have h0 : n = 0 := by omega
    have hca : cap = at_ := by assumption
    subst hca
    refine ⟨a, 0, rfl, ?_, hW.out.1.drewN _, hW.out.2.drewN _, by omega, by intro _ _ _ hp; omega, fun _ => rfl⟩
    subst h0
    exact ⟨by simp, by omega, by simp, .inl rfl⟩
  · go_ret
    refine ⟨a.map (·.add at_), cap - at_, rfl, ?_, hW.out.1.drewN _, hW.out.2.drewN _, by omega, ?_, ?_⟩
    · exact ((hW.out.1.drewN _).bytes).sub at_ n hn
    · intro b o e hp
      obtain ⟨h1, h2, h3, h4⟩ := H.out.bytes
      rcases h4 with h4 | ⟨b', off, rfl, _⟩
      · omega
      · simp [Addr.add_lit] at e
        exact ⟨off, by rw [e.1]⟩
    · intro e
      cases a with
      | none => have := H.out.nil rfl; omega
      | some x => simp at e

theorem take_short (w : World) (R : Nat) (a : Option Addr) (cap : Nat) (bs : List Int) (at_ n : Nat) (wh : Int) (h : IsR w R a cap bs at_ 0 wh) (hn : bs.length < at_ + n) :
    Calls Tryz.prog 112 #[.pointer (some ⟨R, 0, none⟩), .int .u64 n] w fun r w' => r = .returned (.slice none 0 0) ∧ IsR w' R a cap bs at_ 11 at_ ∧ Chg w w' (fun k => k = R) := by
  obtain ⟨c0, c1, c2, c3, cf⟩ := h.cells
  have hl := h.at_le
  have hb := h.bytes.2.1
  have H : Hid (IsR w R a cap bs at_ 0 wh) := h
  clear h cf
  go_enter Tryz.func112, Tryz.ntmps112
  go_wp2_with fail
  go_quiet (fail)
  rename_i nq
  go_wp2_with fail
  go_at_call 81
  refine (fail_any _ R a cap bs at_ 0 wh 11 (H.out.drewN nq)).mono ?_
  rintro r w1 ⟨rfl, hW, hC⟩
  have c2' := (hW.cells).2.2.1
  simp only [errOf] at c2'
  have K : Hid (IsR w1 R a cap bs at_ (errOf 0 11) (whOf 0 wh 11 at_) ∧ Chg (w.drewN nq) w1 (fun k => k = R)) := ⟨hW, hC⟩
  clear hW hC
  go_wp2
  go_ret
  exact ⟨rfl, by simpa [errOf, whOf] using K.out.1, (((Chg.refl w (fun k => k = R)).drewN nq).trans K.out.2 (fun _ _ x => x))⟩

theorem take_bad (w : World) (R : Nat) (a : Option Addr) (cap : Nat) (bs : List Int) (at_ n : Nat) (err wh : Int) (h : IsR w R a cap bs at_ err wh) (he : (err == 0) = false) :
    Calls Tryz.prog 112 #[.pointer (some ⟨R, 0, none⟩), .int .u64 n] w fun r w' => r = .returned (.slice none 0 0) ∧ IsR w' R a cap bs at_ err wh ∧ Chg w w' (fun k => k = R) := by
  obtain ⟨c0, c1, c2, c3, cf⟩ := h.cells
  have hl := h.at_le
  have hb := h.bytes.2.1
  have he' : err ≠ 0 := by simpa using he
  have H : Hid (IsR w R a cap bs at_ err wh ∧ err ≠ 0) := ⟨h, he'⟩
  clear h cf he'
  by_cases hn : bs.length < at_ + n
  · go_enter Tryz.func112, Tryz.ntmps112
    go_wp2_with fail
    go_quiet (fail)
    rename_i nq
    go_wp2_with fail
    go_at_call 81
    refine (fail_any _ R a cap bs at_ err wh 11 (H.out.1.drewN nq)).mono ?_
    rintro r w1 ⟨rfl, hW, hC⟩
    have c2' := (hW.cells).2.2.1
    simp only [errOf, if_neg H.out.2] at c2'
    have K : Hid (IsR w1 R a cap bs at_ (errOf err 11) (whOf err wh 11 at_) ∧ Chg (w.drewN nq) w1 (fun k => k = R)) := ⟨hW, hC⟩
    clear hW hC
    go_wp2
    go_ret
    exact ⟨rfl, by simpa [errOf, whOf, H.out.2] using K.out.1, (((Chg.refl w (fun k => k = R)).drewN nq).trans K.out.2 (fun _ _ x => x))⟩
  · go_enter Tryz.func112, Tryz.ntmps112
    go_wp2_with fail
    go_quiet (fail)
    rename_i nq
    go_wp2
    go_ret
    exact ⟨rfl, H.out.1.drewN _, (Chg.refl _ _).drewN _⟩

/-- A number of bytes, the lowest first. -/
def ofLe : List Int → Nat
  | [] => 0
  | b :: l => b.toNat + 256 * ofLe l
theorem ofLe_snoc (l : List Int) (b : Int) : ofLe (l ++ [b]) = ofLe l + 2 ^ (8 * l.length) * b.toNat := by
  induction l with
  | nil => simp [ofLe]
  | cons x l ih =>
    simp only [List.cons_append, ofLe, ih, List.length_cons]
    have : 2 ^ (8 * (l.length + 1)) = 256 * 2 ^ (8 * l.length) := by rw [Nat.mul_add, Nat.pow_add]; omega
    rw [this, Nat.mul_add, Nat.mul_assoc]; omega
theorem ofLe_lt (l : List Int) (h : ∀ n ∈ l, 0 ≤ n ∧ n ≤ 255) : ofLe l < 2 ^ (8 * l.length) := by
  induction l with
  | nil => simp [ofLe]
  | cons x l ih =>
    have h1 := ih (fun n hn => h n (by simp [hn]))
    have h2 := h x (by simp)
    have : 2 ^ (8 * (l.length + 1)) = 256 * 2 ^ (8 * l.length) := by rw [Nat.mul_add, Nat.pow_add]; omega
    simp only [ofLe, List.length_cons, this]
    omega
theorem wrap_u16 (n : Int) : IntKind.u16.wrap n = n % 65536 := by simp [IntKind.wrap, IntKind.bits, IntKind.signed]

theorem or_u8 (acc b j : Nat) (hb : b < 256) (hj : 8 * (j + 1) ≤ 8) (ha : acc < 2 ^ (8 * j)) : bits .or .u8 (acc : Int) (IntKind.u8.wrap ((b : Int) * 2 ^ (8 * j))) = ((acc + 2 ^ (8 * j) * b : Nat) : Int) := by
  have hp : 2 ^ (8 * j) * 256 = 2 ^ (8 * (j + 1)) := by rw [Nat.mul_add, Nat.pow_add]
  have hle : 2 ^ (8 * (j + 1)) ≤ 2 ^ 8 := Nat.pow_le_pow_right (by omega) hj
  have hm : b * 2 ^ (8 * j) < 2 ^ 8 := by
    have h1 : b * 2 ^ (8 * j) ≤ 255 * 2 ^ (8 * j) := Nat.mul_le_mul_right _ (by omega)
    have h2 : 0 < 2 ^ (8 * j) := Nat.pow_pos (by omega)
    omega
  have e1 : ((b : Int) * 2 ^ (8 * j)) = ((b * 2 ^ (8 * j) : Nat) : Int) := by simp
  have e2 : IntKind.u8.wrap ((b : Int) * 2 ^ (8 * j)) = ((b * 2 ^ (8 * j) : Nat) : Int) := by
    rw [e1, wrap_u8]; omega
  have ha' : acc < 2 ^ 8 := by
    have h2 : 0 < 2 ^ (8 * j) := Nat.pow_pos (by omega)
    omega
  have hx : acc ||| b * 2 ^ (8 * j) < 2 ^ 8 := Nat.or_lt_two_pow ha' hm
  have h1 : (BitVec.ofInt 8 (acc : Int)).toNat = acc := by
    rw [BitVec.ofInt_natCast, BitVec.toNat_ofNat]; exact Nat.mod_eq_of_lt ha'
  have h2 : (BitVec.ofInt 8 ((b * 2 ^ (8 * j) : Nat) : Int)).toNat = b * 2 ^ (8 * j) := by
    rw [BitVec.ofInt_natCast, BitVec.toNat_ofNat]; exact Nat.mod_eq_of_lt hm
  rw [e2]
  show IntKind.u8.wrap ((BitVec.ofInt 8 (acc : Int) ||| BitVec.ofInt 8 ((b * 2 ^ (8 * j) : Nat) : Int)).toNat : Int) = _
  rw [BitVec.toNat_or, h1, h2, wrap_u8]
  have e3 : acc ||| b * 2 ^ (8 * j) = acc + 2 ^ (8 * j) * b := by
    have := Nat.shiftLeft_add_eq_or_of_lt ha b
    rw [Nat.shiftLeft_eq] at this
    rw [Nat.or_comm, ← this, Nat.mul_comm]; omega
  rw [e3] at hx ⊢
  omega

theorem or_u16 (acc b j : Nat) (hb : b < 256) (hj : 8 * (j + 1) ≤ 16) (ha : acc < 2 ^ (8 * j)) : bits .or .u16 (acc : Int) (IntKind.u16.wrap ((b : Int) * 2 ^ (8 * j))) = ((acc + 2 ^ (8 * j) * b : Nat) : Int) := by
  have hp : 2 ^ (8 * j) * 256 = 2 ^ (8 * (j + 1)) := by rw [Nat.mul_add, Nat.pow_add]
  have hle : 2 ^ (8 * (j + 1)) ≤ 2 ^ 16 := Nat.pow_le_pow_right (by omega) hj
  have hm : b * 2 ^ (8 * j) < 2 ^ 16 := by
    have h1 : b * 2 ^ (8 * j) ≤ 255 * 2 ^ (8 * j) := Nat.mul_le_mul_right _ (by omega)
    have h2 : 0 < 2 ^ (8 * j) := Nat.pow_pos (by omega)
    omega
  have e1 : ((b : Int) * 2 ^ (8 * j)) = ((b * 2 ^ (8 * j) : Nat) : Int) := by simp
  have e2 : IntKind.u16.wrap ((b : Int) * 2 ^ (8 * j)) = ((b * 2 ^ (8 * j) : Nat) : Int) := by
    rw [e1, wrap_u16]; omega
  have ha' : acc < 2 ^ 16 := by
    have h2 : 0 < 2 ^ (8 * j) := Nat.pow_pos (by omega)
    omega
  have hx : acc ||| b * 2 ^ (8 * j) < 2 ^ 16 := Nat.or_lt_two_pow ha' hm
  have h1 : (BitVec.ofInt 16 (acc : Int)).toNat = acc := by
    rw [BitVec.ofInt_natCast, BitVec.toNat_ofNat]; exact Nat.mod_eq_of_lt ha'
  have h2 : (BitVec.ofInt 16 ((b * 2 ^ (8 * j) : Nat) : Int)).toNat = b * 2 ^ (8 * j) := by
    rw [BitVec.ofInt_natCast, BitVec.toNat_ofNat]; exact Nat.mod_eq_of_lt hm
  rw [e2]
  show IntKind.u16.wrap ((BitVec.ofInt 16 (acc : Int) ||| BitVec.ofInt 16 ((b * 2 ^ (8 * j) : Nat) : Int)).toNat : Int) = _
  rw [BitVec.toNat_or, h1, h2, wrap_u16]
  have e3 : acc ||| b * 2 ^ (8 * j) = acc + 2 ^ (8 * j) * b := by
    have := Nat.shiftLeft_add_eq_or_of_lt ha b
    rw [Nat.shiftLeft_eq] at this
    rw [Nat.or_comm, ← this, Nat.mul_comm]; omega
  rw [e3] at hx ⊢
  omega

theorem or_u32 (acc b j : Nat) (hb : b < 256) (hj : 8 * (j + 1) ≤ 32) (ha : acc < 2 ^ (8 * j)) : bits .or .u32 (acc : Int) (IntKind.u32.wrap ((b : Int) * 2 ^ (8 * j))) = ((acc + 2 ^ (8 * j) * b : Nat) : Int) := by
  have hp : 2 ^ (8 * j) * 256 = 2 ^ (8 * (j + 1)) := by rw [Nat.mul_add, Nat.pow_add]
  have hle : 2 ^ (8 * (j + 1)) ≤ 2 ^ 32 := Nat.pow_le_pow_right (by omega) hj
  have hm : b * 2 ^ (8 * j) < 2 ^ 32 := by
    have h1 : b * 2 ^ (8 * j) ≤ 255 * 2 ^ (8 * j) := Nat.mul_le_mul_right _ (by omega)
    have h2 : 0 < 2 ^ (8 * j) := Nat.pow_pos (by omega)
    omega
  have e1 : ((b : Int) * 2 ^ (8 * j)) = ((b * 2 ^ (8 * j) : Nat) : Int) := by simp
  have e2 : IntKind.u32.wrap ((b : Int) * 2 ^ (8 * j)) = ((b * 2 ^ (8 * j) : Nat) : Int) := by
    rw [e1, wrap_u32]; omega
  have ha' : acc < 2 ^ 32 := by
    have h2 : 0 < 2 ^ (8 * j) := Nat.pow_pos (by omega)
    omega
  have hx : acc ||| b * 2 ^ (8 * j) < 2 ^ 32 := Nat.or_lt_two_pow ha' hm
  have h1 : (BitVec.ofInt 32 (acc : Int)).toNat = acc := by
    rw [BitVec.ofInt_natCast, BitVec.toNat_ofNat]; exact Nat.mod_eq_of_lt ha'
  have h2 : (BitVec.ofInt 32 ((b * 2 ^ (8 * j) : Nat) : Int)).toNat = b * 2 ^ (8 * j) := by
    rw [BitVec.ofInt_natCast, BitVec.toNat_ofNat]; exact Nat.mod_eq_of_lt hm
  rw [e2]
  show IntKind.u32.wrap ((BitVec.ofInt 32 (acc : Int) ||| BitVec.ofInt 32 ((b * 2 ^ (8 * j) : Nat) : Int)).toNat : Int) = _
  rw [BitVec.toNat_or, h1, h2, wrap_u32]
  have e3 : acc ||| b * 2 ^ (8 * j) = acc + 2 ^ (8 * j) * b := by
    have := Nat.shiftLeft_add_eq_or_of_lt ha b
    rw [Nat.shiftLeft_eq] at this
    rw [Nat.or_comm, ← this, Nat.mul_comm]; omega
  rw [e3] at hx ⊢
  omega

theorem or_u64 (acc b j : Nat) (hb : b < 256) (hj : 8 * (j + 1) ≤ 64) (ha : acc < 2 ^ (8 * j)) : bits .or .u64 (acc : Int) (IntKind.u64.wrap ((b : Int) * 2 ^ (8 * j))) = ((acc + 2 ^ (8 * j) * b : Nat) : Int) := by
  have hp : 2 ^ (8 * j) * 256 = 2 ^ (8 * (j + 1)) := by rw [Nat.mul_add, Nat.pow_add]
  have hle : 2 ^ (8 * (j + 1)) ≤ 2 ^ 64 := Nat.pow_le_pow_right (by omega) hj
  have hm : b * 2 ^ (8 * j) < 2 ^ 64 := by
    have h1 : b * 2 ^ (8 * j) ≤ 255 * 2 ^ (8 * j) := Nat.mul_le_mul_right _ (by omega)
    have h2 : 0 < 2 ^ (8 * j) := Nat.pow_pos (by omega)
    omega
  have e1 : ((b : Int) * 2 ^ (8 * j)) = ((b * 2 ^ (8 * j) : Nat) : Int) := by simp
  have e2 : IntKind.u64.wrap ((b : Int) * 2 ^ (8 * j)) = ((b * 2 ^ (8 * j) : Nat) : Int) := by
    rw [e1, IntKind.wrap_u64]; omega
  have ha' : acc < 2 ^ 64 := by
    have h2 : 0 < 2 ^ (8 * j) := Nat.pow_pos (by omega)
    omega
  have hx : acc ||| b * 2 ^ (8 * j) < 2 ^ 64 := Nat.or_lt_two_pow ha' hm
  have h1 : (BitVec.ofInt 64 (acc : Int)).toNat = acc := by
    rw [BitVec.ofInt_natCast, BitVec.toNat_ofNat]; exact Nat.mod_eq_of_lt ha'
  have h2 : (BitVec.ofInt 64 ((b * 2 ^ (8 * j) : Nat) : Int)).toNat = b * 2 ^ (8 * j) := by
    rw [BitVec.ofInt_natCast, BitVec.toNat_ofNat]; exact Nat.mod_eq_of_lt hm
  rw [e2]
  show IntKind.u64.wrap ((BitVec.ofInt 64 (acc : Int) ||| BitVec.ofInt 64 ((b * 2 ^ (8 * j) : Nat) : Int)).toNat : Int) = _
  rw [BitVec.toNat_or, h1, h2, IntKind.wrap_u64]
  have e3 : acc ||| b * 2 ^ (8 * j) = acc + 2 ^ (8 * j) * b := by
    have := Nat.shiftLeft_add_eq_or_of_lt ha b
    rw [Nat.shiftLeft_eq] at this
    rw [Nat.or_comm, ← this, Nat.mul_comm]; omega
  rw [e3] at hx ⊢
  omega
end Go.Proofs.YtkggkkoblpdopaaGreat
