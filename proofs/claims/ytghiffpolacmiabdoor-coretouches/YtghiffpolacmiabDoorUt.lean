import Derived.Test.YtghiffpolacmiabDoorUs
namespace Go.Proofs.YtghiffpolacmiabDoor
open Go.ChangeShapes Go.WideShapes Go.ChangeAt Go.RowKit
set_option linter.unusedVariables false

/-- What is done for each op. -/
def doS (n : Nat) (t : St) (y : Bd) : St :=
  match n with
  | 1 => t.setD ((t.va + t.oth) % 4294967296)
  | 2 => t.setD ((t.va - t.vb) % 4294967296)
  | 3 => t.setD (t.va * t.vb % 4294967296)
  | 4 => t.setD (if t.vb = 0 then 4294967295 else t.va / t.vb)
  | 5 => t.setD (if t.vb = 0 then t.va else t.va % t.vb)
  | 6 => t.setD (bits .and .u32 t.va t.oth)
  | 7 => t.setD (bits .or .u32 t.va t.oth)
  | 8 => t.setD (bits .xor .u32 t.va t.oth)
  | 9 => t.setD (t.va * 2 ^ (t.oth % 32).toNat % 4294967296)
  | 10 => t.setD (t.va / 2 ^ (t.oth % 32).toNat)
  | 11 => t.setD (wrap32 t.va / 2 ^ (t.oth % 32).toNat % 4294967296)
  | 12 => t.setD ((decide (wrap32 t.va < wrap32 t.oth)).toInt)
  | 13 => t.setD ((decide (t.va < t.oth)).toInt)
  | 14 => t.setD ((t.va + t.oth) % 4294967296)
  | 15 => t.setD (bits .and .u32 t.va t.oth)
  | 16 => t.setD (bits .or .u32 t.va t.oth)
  | 17 => t.setD (bits .xor .u32 t.va t.oth)
  | 18 => t.setD (t.va * 2 ^ (t.oth % 32).toNat % 4294967296)
  | 19 => t.setD (t.va / 2 ^ (t.oth % 32).toNat)
  | 20 => t.setD (wrap32 t.va / 2 ^ (t.oth % 32).toNat % 4294967296)
  | 21 => t.setD ((decide (wrap32 t.va < wrap32 t.oth)).toInt)
  | 22 => t.setD ((decide (t.va < t.oth)).toInt)
  | 23 => t.setD (t.vn * 16384 % 4294967296)
  | 24 => lodS t y (wi_lb (nxt y.vs y.iv))
  | 25 => lodS t y (wi_lbu (nxt y.vs y.iv))
  | 26 => lodS t y (wi_lh (nxt y.vs y.iv))
  | 27 => lodS t y (wi_lhu (nxt y.vs y.iv))
  | 28 => lodS t y (wi_lw (nxt y.vs y.iv))
  | 29 => stoS t y
  | 30 => stoS t y
  | 31 => stoS t y
  | 32 => t.goIf (t.va == t.vb)
  | 33 => t.goIf (!(t.va == t.vb))
  | 34 => t.goIf (decide (wrap32 t.va < wrap32 t.vb))
  | 35 => t.goIf (!decide (wrap32 t.va < wrap32 t.vb))
  | 36 => t.goIf (decide (t.va < t.vb))
  | 37 => t.goIf (decide (t.vb ≤ t.va))
  | 38 => (t.setD t.nx).to t.tgt
  | 39 => (t.setD t.nx).to ((t.va + t.vn) % 4294967296)
  | 40 => { t with r := { t.r with kind := 2, num := t.vn } }
  | 41 => (t.clkd y.tm).setD (y.tm % 4294967296)
  | 42 => { t with r := { t.r with kind := 5 } }
  | 43 => { t with g := { t.g with on := true } }
  | 44 => { t with g := { t.g with on := false } }
  | 45 => if t.g.hd = true then { t with nx := t.g.back, g := { t.g with hd := false } } else t.fault 6 t.g.pc
  | 46 => { t with g := { t.g with vec := t.va } }
  | 47 => ({ t with r := { t.r with kind := 4 } } : St).to t.g.pc
  | 48 => t
  | _ => t
def doB (n : Nat) (t : St) (y : Bd) : Bd :=
  match n with
  | 24 => y.lod t.at' 1
  | 25 => y.lod t.at' 1
  | 26 => y.lod t.at' 2
  | 27 => y.lod t.at' 2
  | 28 => y.lod t.at' 4
  | 29 => y.sto t.at' 1 (t.vb % 256)
  | 30 => y.sto t.at' 2 (IntKind.u32.wrap (IntKind.u16.wrap t.vb))
  | 31 => y.sto t.at' 4 t.vb
  | 41 => y.clo
  | _ => y
theorem goIf_bus (t : St) (q : Bool) : (t.goIf q).bus = t.bus ∧ (t.goIf q).op = t.op := by
  cases q <;> exact ⟨rfl, rfl⟩
theorem setD_op (s : St) (v : Int) : (s.setD v).op = s.op := (setD_g s v).2.2.2.2.1
theorem doS_bus (n : Nat) (t : St) (y : Bd) : (doS n t y).bus = t.bus ∧ (doS n t y).op = t.op := by
  unfold doS
  split
  all_goals first
    | exact ⟨rfl, rfl⟩
    | exact ⟨setD_bus _ _, setD_op _ _⟩
    | exact goIf_bus _ _
    | (unfold lodS; split <;> first | exact ⟨setD_bus _ _, setD_op _ _⟩ | exact ⟨rfl, rfl⟩)
    | (unfold stoS; split <;> exact ⟨rfl, rfl⟩)
    | (split <;> exact ⟨rfl, rfl⟩)
/-- A bus that may be. -/
structure Bd.ok (x : Bd) : Prop where
  le : x.le 9990
  tm : 0 ≤ x.tm ∧ x.tm < 18446744073709551616
  vs : ∀ i, 0 ≤ nxt x.vs i ∧ nxt x.vs i < 4294967296
  ws : ∀ i, 0 ≤ nxt x.ws i ∧ nxt x.ws i < 4294967296
theorem Bd.le.more {x : Bd} {n m : Nat} (h : x.le n) (hm : n ≤ m) : x.le m := by
  obtain ⟨h1, h2, h3, h4, h5⟩ := h
  exact ⟨by omega, by omega, by omega, by omega, by omega⟩
/-- One deed of each op, by its number. -/
theorem deed_any (W : World) (B bb n : Nat) (t : St) (y : Bd) (h : On W B bb t y) (ho : t.ok) (hl : y.le 9999) (ht : 0 ≤ y.tm ∧ y.tm < 18446744073709551616) (hv : 0 ≤ nxt y.vs y.iv ∧ nxt y.vs y.iv < 4294967296) (h0 : 0 < n) (h49 : n < 49) :
    Calls Tryd.prog (dTab.getD n 0) #[.pointer (some ⟨B, 0, none⟩)] W fun e w' => e = .returned (.tuple #[]) ∧ Od W B bb y (doS n t y) (doB n t y) w' := by
  have hn : n = 1 ∨ n = 2 ∨ n = 3 ∨ n = 4 ∨ n = 5 ∨ n = 6 ∨ n = 7 ∨ n = 8 ∨ n = 9 ∨ n = 10 ∨ n = 11 ∨ n = 12 ∨ n = 13 ∨ n = 14 ∨ n = 15 ∨ n = 16 ∨ n = 17 ∨ n = 18 ∨ n = 19 ∨ n = 20 ∨ n = 21 ∨ n = 22 ∨ n = 23 ∨ n = 24 ∨ n = 25 ∨ n = 26 ∨ n = 27 ∨ n = 28 ∨ n = 29 ∨ n = 30 ∨ n = 31 ∨ n = 32 ∨ n = 33 ∨ n = 34 ∨ n = 35 ∨ n = 36 ∨ n = 37 ∨ n = 38 ∨ n = 39 ∨ n = 40 ∨ n = 41 ∨ n = 42 ∨ n = 43 ∨ n = 44 ∨ n = 45 ∨ n = 46 ∨ n = 47 ∨ n = 48 := by omega
  have hb := fun n => (doS_bus n t y).1
  rcases hn with rfl | rfl | rfl | rfl | rfl | rfl | rfl | rfl | rfl | rfl | rfl | rfl | rfl | rfl | rfl | rfl | rfl | rfl | rfl | rfl | rfl | rfl | rfl | rfl | rfl | rfl | rfl | rfl | rfl | rfl | rfl | rfl | rfl | rfl | rfl | rfl | rfl | rfl | rfl | rfl | rfl | rfl | rfl | rfl | rfl | rfl | rfl | rfl
  · exact (d_add W h.g B t h.t ho).mono (fun e w' hq => h.vo hq (hb 1))
  · exact (d_sub W h.g B t h.t ho).mono (fun e w' hq => h.vo hq (hb 2))
  · exact (d_mul W h.g B t h.t ho).mono (fun e w' hq => h.vo hq (hb 3))
  · by_cases hz : t.vb = 0
    · refine (d_div0 W h.g B t h.t ho hz).mono (fun e w' hq => ?_)
      have := h.vo hq (setD_bus _ _)
      rw [show doS 4 t y = t.setD (if t.vb = 0 then 4294967295 else t.va / t.vb) from rfl, if_pos hz]
      exact this
    · refine (d_div1 W h.g B t h.t ho hz).mono (fun e w' hq => ?_)
      have := h.vo hq (setD_bus _ _)
      rw [show doS 4 t y = t.setD (if t.vb = 0 then 4294967295 else t.va / t.vb) from rfl, if_neg hz]
      exact this
  · by_cases hz : t.vb = 0
    · refine (d_rem0 W h.g B t h.t ho hz).mono (fun e w' hq => ?_)
      have := h.vo hq (setD_bus _ _)
      rw [show doS 5 t y = t.setD (if t.vb = 0 then t.va else t.va % t.vb) from rfl, if_pos hz]
      exact this
    · refine (d_rem1 W h.g B t h.t ho hz).mono (fun e w' hq => ?_)
      have := h.vo hq (setD_bus _ _)
      rw [show doS 5 t y = t.setD (if t.vb = 0 then t.va else t.va % t.vb) from rfl, if_neg hz]
      exact this
  · exact (d_and W h.g B t h.t ho).mono (fun e w' hq => h.vo hq (hb 6))
  · exact (d_or W h.g B t h.t ho).mono (fun e w' hq => h.vo hq (hb 7))
  · exact (d_xor W h.g B t h.t ho).mono (fun e w' hq => h.vo hq (hb 8))
  · exact (d_shl W h.g B t h.t ho).mono (fun e w' hq => h.vo hq (hb 9))
  · exact (d_shr W h.g B t h.t ho).mono (fun e w' hq => h.vo hq (hb 10))
  · exact (d_sar W h.g B t h.t ho).mono (fun e w' hq => h.vo hq (hb 11))
  · exact (d_slt W h.g B t h.t ho).mono (fun e w' hq => h.vo hq (hb 12))
  · exact (d_sltu W h.g B t h.t ho).mono (fun e w' hq => h.vo hq (hb 13))
  · exact (d_add W h.g B t h.t ho).mono (fun e w' hq => h.vo hq (hb 14))
  · exact (d_and W h.g B t h.t ho).mono (fun e w' hq => h.vo hq (hb 15))
  · exact (d_or W h.g B t h.t ho).mono (fun e w' hq => h.vo hq (hb 16))
  · exact (d_xor W h.g B t h.t ho).mono (fun e w' hq => h.vo hq (hb 17))
  · exact (d_shl W h.g B t h.t ho).mono (fun e w' hq => h.vo hq (hb 18))
  · exact (d_shr W h.g B t h.t ho).mono (fun e w' hq => h.vo hq (hb 19))
  · exact (d_sar W h.g B t h.t ho).mono (fun e w' hq => h.vo hq (hb 20))
  · exact (d_slt W h.g B t h.t ho).mono (fun e w' hq => h.vo hq (hb 21))
  · exact (d_sltu W h.g B t h.t ho).mono (fun e w' hq => h.vo hq (hb 22))
  · exact (d_lui W h.g B t h.t ho).mono (fun e w' hq => h.vo hq (hb 23))
  · exact d_lb W B bb t y h ho hl hv
  · exact d_lbu W B bb t y h ho hl hv
  · exact d_lh W B bb t y h ho hl hv
  · exact d_lhu W B bb t y h ho hl hv
  · exact d_lw W B bb t y h ho hl hv
  · exact d_sb W B bb t y h ho hl
  · exact d_sh W B bb t y h ho hl
  · exact d_sw W B bb t y h ho hl
  · exact (d_beq W h.g B t h.t ho).mono (fun e w' hq => h.vo hq (hb 32))
  · exact (d_bne W h.g B t h.t ho).mono (fun e w' hq => h.vo hq (hb 33))
  · exact (d_blt W h.g B t h.t ho).mono (fun e w' hq => h.vo hq (hb 34))
  · exact (d_bge W h.g B t h.t ho).mono (fun e w' hq => h.vo hq (hb 35))
  · exact (d_bltu W h.g B t h.t ho).mono (fun e w' hq => h.vo hq (hb 36))
  · exact (d_bgeu W h.g B t h.t ho).mono (fun e w' hq => h.vo hq (hb 37))
  · exact (d_jal W h.g B t h.t ho).mono (fun e w' hq => h.vo hq (hb 38))
  · exact (d_jalr W h.g B t h.t ho).mono (fun e w' hq => h.vo hq (hb 39))
  · exact (d_hcall W h.g B t h.t ho).mono (fun e w' hq => h.vo hq (hb 40))
  · exact d_clock W B bb t y h ho hl ht
  · exact (d_wait W h.g B t h.t ho).mono (fun e w' hq => h.vo hq (hb 42))
  · exact (d_ei W h.g B t h.t ho).mono (fun e w' hq => h.vo hq (hb 43))
  · exact (d_di W h.g B t h.t ho).mono (fun e w' hq => h.vo hq (hb 44))
  · cases hd : t.g.hd
    · refine (d_eret0 W h.g B t h.t ho hd).mono (fun e w' hq => ?_)
      have := h.vo hq rfl
      rw [show doS 45 t y = if t.g.hd = true then { t with nx := t.g.back, g := { t.g with hd := false } } else t.fault 6 t.g.pc from rfl, if_neg (by rw [hd]; decide)]
      exact this
    · refine (d_eret1 W h.g B t h.t ho hd).mono (fun e w' hq => ?_)
      have := h.vo hq rfl
      rw [show doS 45 t y = if t.g.hd = true then { t with nx := t.g.back, g := { t.g with hd := false } } else t.fault 6 t.g.pc from rfl, if_pos hd]
      exact this
  · exact (d_vec W h.g B t h.t ho).mono (fun e w' hq => h.vo hq (hb 46))
  · exact (d_halt W h.g B t h.t ho).mono (fun e w' hq => h.vo hq (hb 47))
  · exact (d_nop W h.g B t h.t ho).mono (fun e w' hq => h.vo hq (hb 48))
end Go.Proofs.YtghiffpolacmiabDoor
