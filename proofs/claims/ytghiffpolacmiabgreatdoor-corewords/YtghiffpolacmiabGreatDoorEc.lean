import Derived.Test.YtghiffpolacmiabGreatDoorEa
import Derived.Test.YtghiffpolacmiabGreatDoorEd
import Derived.Test.YtghiffpolacmiabGreatDoorRq
import Derived.Test.YtghiffpolacmiabGreatDoorRla
import Derived.Test.YtghiffpolacmiabGreatDoorRlb
import Derived.Test.YtghiffpolacmiabGreatDoorRlc
import Derived.Test.YtghiffpolacmiabGreatDoorRma
import Derived.Test.YtghiffpolacmiabGreatDoorRmb
import Derived.Test.YtghiffpolacmiabGreatDoorRmc
import Derived.Test.YtghiffpolacmiabGreatDoorRna
import Derived.Test.YtghiffpolacmiabGreatDoorRnb
import Derived.Test.YtghiffpolacmiabGreatDoorRnc
import Derived.Test.YtghiffpolacmiabGreatDoorRpa
import Derived.Test.YtghiffpolacmiabGreatDoorRpb
import Derived.Test.YtghiffpolacmiabGreatDoorRpc
namespace Go.Proofs.YtghiffpolacmiabGreatDoor
open Go.ChangeShapes Go.WideShapes Go.ChangeAt Go.RowKit
set_option linter.unusedVariables false

theorem ways_a (w : World) (G bb : Nat) (g : Rg) (x : Bd) (h : Rb w G bb g x) (hx : x.le 9990) (ho : g.on = false) : Ways w G bb g x x :=
  ⟨fun op X Y' Z n vw f c h1 h2 h3 h4 h5 => rstep_flt_a w G bb g x h hx ho op X Y' Z n vw f c h1 h2 h3 h4 h5,
   fun vw f c h1 h2 h3 h4 h5 => rstep_ill_a w G bb g x h hx ho vw f c h1 h2 h3 h4 h5,
   fun op X Y' Z n vw f c h1 h2 h3 h4 h5 h6 h7 g' z z0 r' h8 h9 h10 => rstep_lod_a w G bb g x h hx ho op X Y' Z n vw f c h1 h2 h3 h4 h5 h6 h7 g' z z0 r' h8 h9 h10,
   fun op X Y' Z n vw f c h1 h2 h3 h4 h5 h6 h7 g' z z0 r' h8 h9 h10 => rstep_sto_a w G bb g x h hx ho op X Y' Z n vw f c h1 h2 h3 h4 h5 h6 h7 g' z z0 r' h8 h9 h10,
   fun op X Y' Z n vw f c h1 h2 h3 h4 h5 h6 h7 g' z z0 r' h8 h9 h10 => rstep_rst_a w G bb g x h hx ho op X Y' Z n vw f c h1 h2 h3 h4 h5 h6 h7 g' z z0 r' h8 h9 h10,
   fun op n X Y' Z vw f c h1 h2 h3 h4 h5 h6 h7 h8 h9 h10 a b v h11 h12 h13 => rstep_sum_a w G bb g x h hx ho op n X Y' Z vw f c h1 h2 h3 h4 h5 h6 h7 h8 h9 h10 a b v h11 h12 h13,
   fun op n X Y' Z vw f c h1 h2 h3 h4 h5 h6 h7 h8 h9 so a b v h11 h12 h13 h14 => rstep_sho_a w G bb g x h hx ho op n X Y' Z vw f c h1 h2 h3 h4 h5 h6 h7 h8 h9 so a b v h11 h12 h13 h14,
   fun op n X Y' Z vw f c h1 h2 h3 h4 h5 h6 h7 v h8 => rstep_lui_a w G bb g x h hx ho op n X Y' Z vw f c h1 h2 h3 h4 h5 h6 h7 v h8,
   fun op n X Y' Z vw f c h1 h2 h3 h4 h5 h6 h7 h8 h9 a b t h10 h11 h12 h13 => rstep_bry_a w G bb g x h hx ho op n X Y' Z vw f c h1 h2 h3 h4 h5 h6 h7 h8 h9 a b t h10 h11 h12 h13,
   fun op n X Y' Z vw f c h1 h2 h3 h4 h5 h6 h7 h8 h9 a b t h10 h11 h12 h13 => rstep_brn_a w G bb g x h hx ho op n X Y' Z vw f c h1 h2 h3 h4 h5 h6 h7 h8 h9 a b t h10 h11 h12 h13⟩
theorem ways_b (w : World) (G bb : Nat) (g : Rg) (x : Bd) (h : Rb w G bb g x) (hx : x.le 9990) (ho : g.on = true) (hd : g.hd = true) : Ways w G bb g x x :=
  ⟨fun op X Y' Z n vw f c h1 h2 h3 h4 h5 => rstep_flt_b w G bb g x h hx ho hd op X Y' Z n vw f c h1 h2 h3 h4 h5,
   fun vw f c h1 h2 h3 h4 h5 => rstep_ill_b w G bb g x h hx ho hd vw f c h1 h2 h3 h4 h5,
   fun op X Y' Z n vw f c h1 h2 h3 h4 h5 h6 h7 g' z z0 r' h8 h9 h10 => rstep_lod_b w G bb g x h hx ho hd op X Y' Z n vw f c h1 h2 h3 h4 h5 h6 h7 g' z z0 r' h8 h9 h10,
   fun op X Y' Z n vw f c h1 h2 h3 h4 h5 h6 h7 g' z z0 r' h8 h9 h10 => rstep_sto_b w G bb g x h hx ho hd op X Y' Z n vw f c h1 h2 h3 h4 h5 h6 h7 g' z z0 r' h8 h9 h10,
   fun op X Y' Z n vw f c h1 h2 h3 h4 h5 h6 h7 g' z z0 r' h8 h9 h10 => rstep_rst_b w G bb g x h hx ho hd op X Y' Z n vw f c h1 h2 h3 h4 h5 h6 h7 g' z z0 r' h8 h9 h10,
   fun op n X Y' Z vw f c h1 h2 h3 h4 h5 h6 h7 h8 h9 h10 a b v h11 h12 h13 => rstep_sum_b w G bb g x h hx ho hd op n X Y' Z vw f c h1 h2 h3 h4 h5 h6 h7 h8 h9 h10 a b v h11 h12 h13,
   fun op n X Y' Z vw f c h1 h2 h3 h4 h5 h6 h7 h8 h9 so a b v h11 h12 h13 h14 => rstep_sho_b w G bb g x h hx ho hd op n X Y' Z vw f c h1 h2 h3 h4 h5 h6 h7 h8 h9 so a b v h11 h12 h13 h14,
   fun op n X Y' Z vw f c h1 h2 h3 h4 h5 h6 h7 v h8 => rstep_lui_b w G bb g x h hx ho hd op n X Y' Z vw f c h1 h2 h3 h4 h5 h6 h7 v h8,
   fun op n X Y' Z vw f c h1 h2 h3 h4 h5 h6 h7 h8 h9 a b t h10 h11 h12 h13 => rstep_bry_b w G bb g x h hx ho hd op n X Y' Z vw f c h1 h2 h3 h4 h5 h6 h7 h8 h9 a b t h10 h11 h12 h13,
   fun op n X Y' Z vw f c h1 h2 h3 h4 h5 h6 h7 h8 h9 a b t h10 h11 h12 h13 => rstep_brn_b w G bb g x h hx ho hd op n X Y' Z vw f c h1 h2 h3 h4 h5 h6 h7 h8 h9 a b t h10 h11 h12 h13⟩
theorem ways_c (w : World) (G bb : Nat) (g : Rg) (x : Bd) (h : Rb w G bb g x) (hx : x.le 9990) (ho : g.on = true) (hd : g.hd = false) (hi : x.irq = false) : Ways w G bb g x x.irqd :=
  ⟨fun op X Y' Z n vw f c h1 h2 h3 h4 h5 => rstep_flt_c w G bb g x h hx ho hd hi op X Y' Z n vw f c h1 h2 h3 h4 h5,
   fun vw f c h1 h2 h3 h4 h5 => rstep_ill_c w G bb g x h hx ho hd hi vw f c h1 h2 h3 h4 h5,
   fun op X Y' Z n vw f c h1 h2 h3 h4 h5 h6 h7 g' z z0 r' h8 h9 h10 => rstep_lod_c w G bb g x h hx ho hd hi op X Y' Z n vw f c h1 h2 h3 h4 h5 h6 h7 g' z z0 r' h8 h9 h10,
   fun op X Y' Z n vw f c h1 h2 h3 h4 h5 h6 h7 g' z z0 r' h8 h9 h10 => rstep_sto_c w G bb g x h hx ho hd hi op X Y' Z n vw f c h1 h2 h3 h4 h5 h6 h7 g' z z0 r' h8 h9 h10,
   fun op X Y' Z n vw f c h1 h2 h3 h4 h5 h6 h7 g' z z0 r' h8 h9 h10 => rstep_rst_c w G bb g x h hx ho hd hi op X Y' Z n vw f c h1 h2 h3 h4 h5 h6 h7 g' z z0 r' h8 h9 h10,
   fun op n X Y' Z vw f c h1 h2 h3 h4 h5 h6 h7 h8 h9 h10 a b v h11 h12 h13 => rstep_sum_c w G bb g x h hx ho hd hi op n X Y' Z vw f c h1 h2 h3 h4 h5 h6 h7 h8 h9 h10 a b v h11 h12 h13,
   fun op n X Y' Z vw f c h1 h2 h3 h4 h5 h6 h7 h8 h9 so a b v h11 h12 h13 h14 => rstep_sho_c w G bb g x h hx ho hd hi op n X Y' Z vw f c h1 h2 h3 h4 h5 h6 h7 h8 h9 so a b v h11 h12 h13 h14,
   fun op n X Y' Z vw f c h1 h2 h3 h4 h5 h6 h7 v h8 => rstep_lui_c w G bb g x h hx ho hd hi op n X Y' Z vw f c h1 h2 h3 h4 h5 h6 h7 v h8,
   fun op n X Y' Z vw f c h1 h2 h3 h4 h5 h6 h7 h8 h9 a b t h10 h11 h12 h13 => rstep_bry_c w G bb g x h hx ho hd hi op n X Y' Z vw f c h1 h2 h3 h4 h5 h6 h7 h8 h9 a b t h10 h11 h12 h13,
   fun op n X Y' Z vw f c h1 h2 h3 h4 h5 h6 h7 h8 h9 a b t h10 h11 h12 h13 => rstep_brn_c w G bb g x h hx ho hd hi op n X Y' Z vw f c h1 h2 h3 h4 h5 h6 h7 h8 h9 a b t h10 h11 h12 h13⟩
/-- The document's step, whatever is. -/
theorem ref_step : RefStep := fun W G bb g x h hx hl hr => by
  unfold goR goG goB
  by_cases hq : g.on = true ∧ g.hd = false
  · rw [if_pos hq, if_pos hq, if_pos hq]
    by_cases hi : x.irq = true
    · rw [if_pos hi, if_pos hi, if_pos hi]
      exact rstep_taken W G bb g x h hx.le hq.1 hq.2 hi
    · rw [if_neg hi, if_neg hi, if_neg hi]
      obtain ⟨e1, e2, e3⟩ := insS_st g bb x.irqd
      rw [← e1, ← e2, ← e3]
      exact ways_end (ways_c W G bb g x h hx.le hq.1 hq.2 (by simpa using hi)) (irqd_ok hx hl) hr
  · rw [if_neg hq, if_neg hq, if_neg hq]
    obtain ⟨e1, e2, e3⟩ := insS_st g bb x
    rw [← e1, ← e2, ← e3]
    cases h1 : g.on with
    | false => exact ways_end (ways_a W G bb g x h hx.le h1) hx hr
    | true =>
      cases h2 : g.hd with
      | true => exact ways_end (ways_b W G bb g x h hx.le h1 h2) hx hr
      | false => exact absurd ⟨h1, h2⟩ hq
end Go.Proofs.YtghiffpolacmiabGreatDoor
