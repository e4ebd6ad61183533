import Derived.Test.YtghiffpolacmiabGreatDoorRu
import Derived.Test.YtghiffpolacmiabGreatDoorRi
import Derived.Test.YtghiffpolacmiabGreatDoorRe
namespace Go.Proofs.YtghiffpolacmiabGreatDoor
open Go.ChangeShapes Go.WideShapes Go.ChangeAt Go.RowKit
set_option linter.unusedVariables false

/-- What the document's step answers and leaves. -/
def Ans (w : World) (G bb : Nat) (x : Bd) (r : Rs) (g' : Rg) (z : Bd) : Prop :=
  Calls Tryz.prog 7 #[.pointer (some ⟨G, 0, none⟩), .pointer (some ⟨bb, 0, none⟩)] w fun e w' => e = .returned (.agg (rsc r).toArray) ∧ Sp w G bb x g' z w'
abbrev ApV (vw : Nat) (q : Value) : Prop := ∀ V, Calls Tryz.prog 15 #[.int .u32 (vw : Nat)] V fun e w' => e = .returned q ∧ Kp V w'
abbrev r1 (c : Int) : Rs := { Rs.zero with kind := 1, cyc := wrap64 (c + 1) }
/-- The document's step in all its ways, on a bus as it is when it fetches. -/
structure Ways (w : World) (G bb : Nat) (g : Rg) (x Y : Bd) : Prop where
  flt : ∀ (op X Y' Z n : Int) (vw : Nat) (f c : Int), nxt Y.ws Y.iw = (vw : Nat) → nxt Y.fa Y.jf = f → nxt Y.cy Y.ic = c → ApV vw (prV op X Y' Z n) → f ≠ 0 →
    Ans w G bb x { Rs.zero with kind := 3, cyc := wrap64 (c + 1), flt := f, addr := g.pc } (g.put 0 0) (Y.fet g.pc)
  ill : ∀ (vw : Nat) (f c : Int), nxt Y.ws Y.iw = (vw : Nat) → nxt Y.fa Y.jf = f → nxt Y.cy Y.ic = c → ApV vw (prV (-1) 0 0 0 0) → f = 0 →
    Ans w G bb x { Rs.zero with kind := 3, cyc := wrap64 (c + 1), flt := 6, addr := g.pc } (g.put 0 0) (Y.fet g.pc)
  lod : ∀ (op X Y' Z n : Int) (vw : Nat) (f c : Int), nxt Y.ws Y.iw = (vw : Nat) → nxt Y.fa Y.jf = f → nxt Y.cy Y.ic = c → ApV vw (prV op X Y' Z n) → f = 0 → 23 ≤ op → op ≤ 27 →
    ∀ (g' : Rg) (z : Value → Bd) (z0 : Bd) (r' : Rs), (∀ v v', (z v).lvTo v' = z0.lvTo v') → (∀ v k, (z v).row k ↔ ((Y.fet g.pc).lvTo v).row k) →
    (∀ V M v, Ro V M (g.put 0 0) ((Y.fet g.pc).lvTo v) ⟨G, bb, op, X, Y', Z, n, r1 c⟩ → Calls Tryz.prog 19 #[.pointer (some ⟨M, 0, none⟩)] V (Rz V M ((Y.fet g.pc).lvTo v) g' (z v) ⟨G, bb, op, X, Y', Z, n, r'⟩)) → Ans w G bb x r' g' z0
  sto : ∀ (op X Y' Z n : Int) (vw : Nat) (f c : Int), nxt Y.ws Y.iw = (vw : Nat) → nxt Y.fa Y.jf = f → nxt Y.cy Y.ic = c → ApV vw (prV op X Y' Z n) → f = 0 → 28 ≤ op → op ≤ 30 →
    ∀ (g' : Rg) (z : Value → Bd) (z0 : Bd) (r' : Rs), (∀ v v', (z v).lvTo v' = z0.lvTo v') → (∀ v k, (z v).row k ↔ ((Y.fet g.pc).lvTo v).row k) →
    (∀ V M v, Ro V M (g.put 0 0) ((Y.fet g.pc).lvTo v) ⟨G, bb, op, X, Y', Z, n, r1 c⟩ → Calls Tryz.prog 20 #[.pointer (some ⟨M, 0, none⟩)] V (Rz V M ((Y.fet g.pc).lvTo v) g' (z v) ⟨G, bb, op, X, Y', Z, n, r'⟩)) → Ans w G bb x r' g' z0
  rst : ∀ (op X Y' Z n : Int) (vw : Nat) (f c : Int), nxt Y.ws Y.iw = (vw : Nat) → nxt Y.fa Y.jf = f → nxt Y.cy Y.ic = c → ApV vw (prV op X Y' Z n) → f = 0 → 37 ≤ op → op ≤ 47 →
    ∀ (g' : Rg) (z : Value → Bd) (z0 : Bd) (r' : Rs), (∀ v v', (z v).lvTo v' = z0.lvTo v') → (∀ v k, (z v).row k ↔ ((Y.fet g.pc).lvTo v).row k) →
    (∀ V M v, Ro V M (g.put 0 0) ((Y.fet g.pc).lvTo v) ⟨G, bb, op, X, Y', Z, n, r1 c⟩ → Calls Tryz.prog 22 #[.pointer (some ⟨M, 0, none⟩)] V (Rz V M ((Y.fet g.pc).lvTo v) g' (z v) ⟨G, bb, op, X, Y', Z, n, r'⟩)) → Ans w G bb x r' g' z0
  sum : ∀ (op n : Int) (X Y' Z : Nat) (vw : Nat) (f c : Int), nxt Y.ws Y.iw = (vw : Nat) → nxt Y.fa Y.jf = f → nxt Y.cy Y.ic = c → ApV vw (prV op X Y' Z n) → f = 0 → 0 ≤ op → op ≤ 12 → X < 16 → Y' < 16 → Z < 16 →
    ∀ (a b v : Int), (g.put 0 0).R Y' = a → (g.put 0 0).R Z = b → (∀ V, Calls Tryz.prog 17 #[.int .i64 op, .int .u32 a, .int .u32 b] V fun e w' => e = .returned (.int .u32 v) ∧ Kp V w') →
    Ans w G bb x (r1 c) (((g.put 0 0).dset X v).pcTo ((g.pc + 4) % 4294967296)) (Y.fet g.pc)
  sho : ∀ (op n : Int) (X Y' Z : Nat) (vw : Nat) (f c : Int), nxt Y.ws Y.iw = (vw : Nat) → nxt Y.fa Y.jf = f → nxt Y.cy Y.ic = c → ApV vw (prV op X Y' Z n) → f = 0 → 13 ≤ op → op ≤ 21 → X < 16 → Y' < 16 →
    ∀ (so a b v : Int), (g.put 0 0).R Y' = a → n % 4294967296 = b → (∀ V, Calls Tryz.prog 18 #[.int .i64 op] V fun e w' => e = .returned (.int .i64 so) ∧ Kp V w') → (∀ V, Calls Tryz.prog 17 #[.int .i64 so, .int .u32 a, .int .u32 b] V fun e w' => e = .returned (.int .u32 v) ∧ Kp V w') →
    Ans w G bb x (r1 c) (((g.put 0 0).dset X v).pcTo ((g.pc + 4) % 4294967296)) (Y.fet g.pc)
  lui : ∀ (op n : Int) (X Y' Z : Nat) (vw : Nat) (f c : Int), nxt Y.ws Y.iw = (vw : Nat) → nxt Y.fa Y.jf = f → nxt Y.cy Y.ic = c → ApV vw (prV op X Y' Z n) → f = 0 → op = 22 → X < 16 →
    ∀ (v : Int), n % 4294967296 * 16384 % 4294967296 = v → Ans w G bb x (r1 c) (((g.put 0 0).dset X v).pcTo ((g.pc + 4) % 4294967296)) (Y.fet g.pc)
  bry : ∀ (op n : Int) (X Y' Z : Nat) (vw : Nat) (f c : Int), nxt Y.ws Y.iw = (vw : Nat) → nxt Y.fa Y.jf = f → nxt Y.cy Y.ic = c → ApV vw (prV op X Y' Z n) → f = 0 → 31 ≤ op → op ≤ 36 → X < 16 → Y' < 16 →
    ∀ (a b t : Int), (g.put 0 0).R X = a → (g.put 0 0).R Y' = b → (g.pc + 4 * (n % 4294967296) % 4294967296) % 4294967296 = t → (∀ V, Calls Tryz.prog 21 #[.int .i64 op, .int .u32 a, .int .u32 b] V fun e w' => e = .returned (.bool true) ∧ Kp V w') →
    Ans w G bb x (r1 c) ((g.put 0 0).pcTo t) (Y.fet g.pc)
  brn : ∀ (op n : Int) (X Y' Z : Nat) (vw : Nat) (f c : Int), nxt Y.ws Y.iw = (vw : Nat) → nxt Y.fa Y.jf = f → nxt Y.cy Y.ic = c → ApV vw (prV op X Y' Z n) → f = 0 → 31 ≤ op → op ≤ 36 → X < 16 → Y' < 16 →
    ∀ (a b t : Int), (g.put 0 0).R X = a → (g.put 0 0).R Y' = b → (g.pc + 4 * (n % 4294967296) % 4294967296) % 4294967296 = t → (∀ V, Calls Tryz.prog 21 #[.int .i64 op, .int .u32 a, .int .u32 b] V fun e w' => e = .returned (.bool false) ∧ Kp V w') →
    Ans w G bb x (r1 c) ((g.put 0 0).pcTo ((g.pc + 4) % 4294967296)) (Y.fet g.pc)

def tS (g : Rg) (bb : Nat) (Y : Bd) (v : Nat) : St := ((g.st bb).c0 Y).ins v
theorem tS_g (g : Rg) (bb : Nat) (Y : Bd) (v : Nat) : (tS g bb Y v).g = g.put 0 0 := rfl
theorem tS_nx (g : Rg) (bb : Nat) (Y : Bd) (v : Nat) : (tS g bb Y v).nx = (g.pc + 4) % 4294967296 := rfl
theorem tS_r (g : Rg) (bb : Nat) (Y : Bd) (v : Nat) : (tS g bb Y v).r = r1 (nxt Y.cy Y.ic) := rfl
theorem tS_d (g : Rg) (bb : Nat) (Y : Bd) (v : Nat) : (tS g bb Y v).d = dD v := rfl
theorem tS_va (g : Rg) (bb : Nat) (Y : Bd) (v : Nat) : (tS g bb Y v).va = (g.put 0 0).R (dA v) := rfl
theorem tS_vb (g : Rg) (bb : Nat) (Y : Bd) (v : Nat) : (tS g bb Y v).vb = (g.put 0 0).R (dB v) := rfl
theorem tS_vn (g : Rg) (bb : Nat) (Y : Bd) (v : Nat) : (tS g bb Y v).vn = dI v % 4294967296 := rfl
theorem tS_tgt (g : Rg) (bb : Nat) (Y : Bd) (v : Nat) : (tS g bb Y v).tgt = (g.pc + 4 * (dI v % 4294967296) % 4294967296) % 4294967296 := rfl
theorem tS_oth (g : Rg) (bb : Nat) (Y : Bd) (v : Nat) : (tS g bb Y v).oth = if fo (dO v) = 2 then dI v % 4294967296 else (g.put 0 0).R (dB v) := rfl
theorem tS_at (g : Rg) (bb : Nat) (Y : Bd) (v : Nat) : (tS g bb Y v).at' = ((g.put 0 0).R (dA v) + dI v % 4294967296) % 4294967296 := rfl
theorem set_end (t : St) (q : Int) (X : Nat) (hX : t.d = X) : (t.setD q).pcTo.r = t.r ∧ (t.setD q).pcTo.g = (t.g.dset X q).pcTo t.nx := by
  subst hX
  unfold St.setD Rg.dset
  split <;> exact ⟨rfl, rfl⟩
section
variable {w : World} {G bb : Nat} {g : Rg} {x Y : Bd}
theorem ans_of (v o : Nat) (hv : nxt Y.ws Y.iw = v) (hf : nxt Y.fa Y.jf = 0) (hd : de v = 0) (ho : v / 67108864 = o) (r' : Rs) (g' : Rg) (z' : Bd) (hr : (doS o (tS g bb Y v) (Y.fet g.pc)).pcTo.r = r') (hg : (doS o (tS g bb Y v) (Y.fet g.pc)).pcTo.g = g') (hb : doB o (tS g bb Y v) (Y.fet g.pc) = z') (h : Ans w G bb x r' g' z') :
    Ans w G bb x (insS (g.st bb) Y).r (insS (g.st bb) Y).g (insB (g.st bb) Y) := by
  obtain ⟨e1, e2⟩ := end_ins bb g Y hf v (by rw [hv]; rfl) hd o ho
  rw [e1, e2]
  subst hr
  subst hg
  subst hb
  exact h
theorem ap_nat (v : Nat) (hv : v < 4294967296) (hd : de v = 0) (o : Nat) (ho : v / 67108864 = o) (op : Int) (hop : op + 1 = (o : Int)) : ApV v (prV op ((v / 4194304 % 16 : Nat) : Int) ((v / 262144 % 16 : Nat) : Int) ((v / 16384 % 16 : Nat) : Int) (dI v)) := by
  intro V
  have h := apart_yes V v hv hd
  have e : PaV v = prV op ((v / 4194304 % 16 : Nat) : Int) ((v / 262144 % 16 : Nat) : Int) ((v / 16384 % 16 : Nat) : Int) (dI v) := by
    unfold PaV
    rw [show dO v - 1 = op by unfold dO; omega, show ((v : Int) / 4194304 % 16) = ((v / 4194304 % 16 : Nat) : Int) by omega, show ((v : Int) / 262144 % 16) = ((v / 262144 % 16 : Nat) : Int) by omega, show ((v : Int) / 16384 % 16) = ((v / 16384 % 16 : Nat) : Int) by omega]
  rw [e] at h
  exact h
theorem fet_le {x : Bd} (h : x.le 9990) (pc : Int) (v : Value) : ((x.fet pc).lvTo v).le 9999 := by
  obtain ⟨q1, q2, q3, q4, q5⟩ := h
  refine ⟨?_, ?_, ?_, ?_, ?_⟩
  · show (if x.ws = [] then x.iw else x.iw + 1) ≤ 9999
    split <;> omega
  · show x.iv ≤ 9999; omega
  · show x.ic + 1 ≤ 9999; omega
  · show x.jf + 1 ≤ 9999; omega
  · show (x.lg ++ [_]).length ≤ 9999
    simp; omega
theorem dset_on4 (g : Rg) (X : Nat) (q : Int) : (g.dset X q).on4 = (g.dset X q).pcTo ((g.pc + 4) % 4294967296) := by
  rw [Rg.on4_eq, dset_pc]
theorem wi_1 (W : Ways w G bb g x Y) (hx : Y.ok) (hr : ∀ i, 0 ≤ g.R i ∧ g.R i < 4294967296) (v : Nat) (hv : nxt Y.ws Y.iw = v) (hv32 : v < 4294967296) (hf : nxt Y.fa Y.jf = 0) (hd : de v = 0) (ho : v / 67108864 = 1) :
    Ans w G bb x (insS (g.st bb) Y).r (insS (g.st bb) Y).g (insB (g.st bb) Y) := by
  have hO : dO v = ((1 : Nat) : Int) := by unfold dO; rw [ho]
  have hR : ∀ i, 0 ≤ (g.put 0 0).R i ∧ (g.put 0 0).R i < 4294967296 := up_r hr 0 0 (by omega)
  have hA := ap_nat v hv32 hd 1 ho 0 (by omega)
  have X16 : v / 4194304 % 16 < 16 := by omega
  have Y16 : v / 262144 % 16 < 16 := by omega
  have Z16 : v / 16384 % 16 < 16 := by omega
  have hD : dD v = v / 4194304 % 16 := by unfold dD; rw [hO]; rfl
  have hA' : dA v = v / 262144 % 16 := by unfold dA; rw [hO]; rfl
  have hB : dB v = v / 16384 % 16 := by unfold dB; rw [hO]; rfl
  have e : doS 1 (tS g bb Y v) (Y.fet g.pc) = (tS g bb Y v).setD ((((g.put 0 0).R (v / 262144 % 16)) + ((g.put 0 0).R (v / 16384 % 16))) % 4294967296) := by
    show (tS g bb Y v).setD (((tS g bb Y v).va + (tS g bb Y v).oth) % 4294967296) = _
    rw [tS_oth, if_neg (by rw [hO]; decide), tS_va, hA', hB]
  obtain ⟨e1, e2⟩ := set_end (tS g bb Y v) ((((g.put 0 0).R (v / 262144 % 16)) + ((g.put 0 0).R (v / 16384 % 16))) % 4294967296) (v / 4194304 % 16) hD
  refine ans_of v 1 hv hf hd ho _ _ _ (by rw [e, e1]) (by rw [e, e2]) rfl ?_
  exact W.sum 0 (dI v) (v / 4194304 % 16) (v / 262144 % 16) (v / 16384 % 16) v 0 _ hv hf rfl hA rfl (by omega) (by omega) X16 Y16 Z16 _ _ _ rfl rfl (fun V => sum_0 V _ _ (hR _) (hR _))
theorem wi_2 (W : Ways w G bb g x Y) (hx : Y.ok) (hr : ∀ i, 0 ≤ g.R i ∧ g.R i < 4294967296) (v : Nat) (hv : nxt Y.ws Y.iw = v) (hv32 : v < 4294967296) (hf : nxt Y.fa Y.jf = 0) (hd : de v = 0) (ho : v / 67108864 = 2) :
    Ans w G bb x (insS (g.st bb) Y).r (insS (g.st bb) Y).g (insB (g.st bb) Y) := by
  have hO : dO v = ((2 : Nat) : Int) := by unfold dO; rw [ho]
  have hR : ∀ i, 0 ≤ (g.put 0 0).R i ∧ (g.put 0 0).R i < 4294967296 := up_r hr 0 0 (by omega)
  have hA := ap_nat v hv32 hd 2 ho 1 (by omega)
  have X16 : v / 4194304 % 16 < 16 := by omega
  have Y16 : v / 262144 % 16 < 16 := by omega
  have Z16 : v / 16384 % 16 < 16 := by omega
  have hD : dD v = v / 4194304 % 16 := by unfold dD; rw [hO]; rfl
  have hA' : dA v = v / 262144 % 16 := by unfold dA; rw [hO]; rfl
  have hB : dB v = v / 16384 % 16 := by unfold dB; rw [hO]; rfl
  have e : doS 2 (tS g bb Y v) (Y.fet g.pc) = (tS g bb Y v).setD ((((g.put 0 0).R (v / 262144 % 16)) - ((g.put 0 0).R (v / 16384 % 16))) % 4294967296) := by
    show (tS g bb Y v).setD (((tS g bb Y v).va - (tS g bb Y v).vb) % 4294967296) = _
    rw [tS_vb, tS_va, hA', hB]
  obtain ⟨e1, e2⟩ := set_end (tS g bb Y v) ((((g.put 0 0).R (v / 262144 % 16)) - ((g.put 0 0).R (v / 16384 % 16))) % 4294967296) (v / 4194304 % 16) hD
  refine ans_of v 2 hv hf hd ho _ _ _ (by rw [e, e1]) (by rw [e, e2]) rfl ?_
  exact W.sum 1 (dI v) (v / 4194304 % 16) (v / 262144 % 16) (v / 16384 % 16) v 0 _ hv hf rfl hA rfl (by omega) (by omega) X16 Y16 Z16 _ _ _ rfl rfl (fun V => sum_1 V _ _ (hR _) (hR _))
theorem wi_3 (W : Ways w G bb g x Y) (hx : Y.ok) (hr : ∀ i, 0 ≤ g.R i ∧ g.R i < 4294967296) (v : Nat) (hv : nxt Y.ws Y.iw = v) (hv32 : v < 4294967296) (hf : nxt Y.fa Y.jf = 0) (hd : de v = 0) (ho : v / 67108864 = 3) :
    Ans w G bb x (insS (g.st bb) Y).r (insS (g.st bb) Y).g (insB (g.st bb) Y) := by
  have hO : dO v = ((3 : Nat) : Int) := by unfold dO; rw [ho]
  have hR : ∀ i, 0 ≤ (g.put 0 0).R i ∧ (g.put 0 0).R i < 4294967296 := up_r hr 0 0 (by omega)
  have hA := ap_nat v hv32 hd 3 ho 2 (by omega)
  have X16 : v / 4194304 % 16 < 16 := by omega
  have Y16 : v / 262144 % 16 < 16 := by omega
  have Z16 : v / 16384 % 16 < 16 := by omega
  have hD : dD v = v / 4194304 % 16 := by unfold dD; rw [hO]; rfl
  have hA' : dA v = v / 262144 % 16 := by unfold dA; rw [hO]; rfl
  have hB : dB v = v / 16384 % 16 := by unfold dB; rw [hO]; rfl
  have e : doS 3 (tS g bb Y v) (Y.fet g.pc) = (tS g bb Y v).setD (((g.put 0 0).R (v / 262144 % 16)) * ((g.put 0 0).R (v / 16384 % 16)) % 4294967296) := by
    show (tS g bb Y v).setD ((tS g bb Y v).va * (tS g bb Y v).vb % 4294967296) = _
    rw [tS_vb, tS_va, hA', hB]
  obtain ⟨e1, e2⟩ := set_end (tS g bb Y v) (((g.put 0 0).R (v / 262144 % 16)) * ((g.put 0 0).R (v / 16384 % 16)) % 4294967296) (v / 4194304 % 16) hD
  refine ans_of v 3 hv hf hd ho _ _ _ (by rw [e, e1]) (by rw [e, e2]) rfl ?_
  exact W.sum 2 (dI v) (v / 4194304 % 16) (v / 262144 % 16) (v / 16384 % 16) v 0 _ hv hf rfl hA rfl (by omega) (by omega) X16 Y16 Z16 _ _ _ rfl rfl (fun V => sum_2 V _ _ (hR _) (hR _))
theorem wi_4 (W : Ways w G bb g x Y) (hx : Y.ok) (hr : ∀ i, 0 ≤ g.R i ∧ g.R i < 4294967296) (v : Nat) (hv : nxt Y.ws Y.iw = v) (hv32 : v < 4294967296) (hf : nxt Y.fa Y.jf = 0) (hd : de v = 0) (ho : v / 67108864 = 4) :
    Ans w G bb x (insS (g.st bb) Y).r (insS (g.st bb) Y).g (insB (g.st bb) Y) := by
  have hO : dO v = ((4 : Nat) : Int) := by unfold dO; rw [ho]
  have hR : ∀ i, 0 ≤ (g.put 0 0).R i ∧ (g.put 0 0).R i < 4294967296 := up_r hr 0 0 (by omega)
  have hA := ap_nat v hv32 hd 4 ho 3 (by omega)
  have X16 : v / 4194304 % 16 < 16 := by omega
  have Y16 : v / 262144 % 16 < 16 := by omega
  have Z16 : v / 16384 % 16 < 16 := by omega
  have hD : dD v = v / 4194304 % 16 := by unfold dD; rw [hO]; rfl
  have hA' : dA v = v / 262144 % 16 := by unfold dA; rw [hO]; rfl
  have hB : dB v = v / 16384 % 16 := by unfold dB; rw [hO]; rfl
  have e : doS 4 (tS g bb Y v) (Y.fet g.pc) = (tS g bb Y v).setD (if ((g.put 0 0).R (v / 16384 % 16)) = 0 then 4294967295 else ((g.put 0 0).R (v / 262144 % 16)) / ((g.put 0 0).R (v / 16384 % 16))) := by
    show (tS g bb Y v).setD (if (tS g bb Y v).vb = 0 then 4294967295 else (tS g bb Y v).va / (tS g bb Y v).vb) = _
    rw [tS_vb, tS_va, hA', hB]
  obtain ⟨e1, e2⟩ := set_end (tS g bb Y v) (if ((g.put 0 0).R (v / 16384 % 16)) = 0 then 4294967295 else ((g.put 0 0).R (v / 262144 % 16)) / ((g.put 0 0).R (v / 16384 % 16))) (v / 4194304 % 16) hD
  refine ans_of v 4 hv hf hd ho _ _ _ (by rw [e, e1]) (by rw [e, e2]) rfl ?_
  exact W.sum 3 (dI v) (v / 4194304 % 16) (v / 262144 % 16) (v / 16384 % 16) v 0 _ hv hf rfl hA rfl (by omega) (by omega) X16 Y16 Z16 _ _ _ rfl rfl (fun V => sum_3 V _ _ (hR _) (hR _))
theorem wi_5 (W : Ways w G bb g x Y) (hx : Y.ok) (hr : ∀ i, 0 ≤ g.R i ∧ g.R i < 4294967296) (v : Nat) (hv : nxt Y.ws Y.iw = v) (hv32 : v < 4294967296) (hf : nxt Y.fa Y.jf = 0) (hd : de v = 0) (ho : v / 67108864 = 5) :
    Ans w G bb x (insS (g.st bb) Y).r (insS (g.st bb) Y).g (insB (g.st bb) Y) := by
  have hO : dO v = ((5 : Nat) : Int) := by unfold dO; rw [ho]
  have hR : ∀ i, 0 ≤ (g.put 0 0).R i ∧ (g.put 0 0).R i < 4294967296 := up_r hr 0 0 (by omega)
  have hA := ap_nat v hv32 hd 5 ho 4 (by omega)
  have X16 : v / 4194304 % 16 < 16 := by omega
  have Y16 : v / 262144 % 16 < 16 := by omega
  have Z16 : v / 16384 % 16 < 16 := by omega
  have hD : dD v = v / 4194304 % 16 := by unfold dD; rw [hO]; rfl
  have hA' : dA v = v / 262144 % 16 := by unfold dA; rw [hO]; rfl
  have hB : dB v = v / 16384 % 16 := by unfold dB; rw [hO]; rfl
  have e : doS 5 (tS g bb Y v) (Y.fet g.pc) = (tS g bb Y v).setD (if ((g.put 0 0).R (v / 16384 % 16)) = 0 then ((g.put 0 0).R (v / 262144 % 16)) else ((g.put 0 0).R (v / 262144 % 16)) % ((g.put 0 0).R (v / 16384 % 16))) := by
    show (tS g bb Y v).setD (if (tS g bb Y v).vb = 0 then (tS g bb Y v).va else (tS g bb Y v).va % (tS g bb Y v).vb) = _
    rw [tS_vb, tS_va, hA', hB]
  obtain ⟨e1, e2⟩ := set_end (tS g bb Y v) (if ((g.put 0 0).R (v / 16384 % 16)) = 0 then ((g.put 0 0).R (v / 262144 % 16)) else ((g.put 0 0).R (v / 262144 % 16)) % ((g.put 0 0).R (v / 16384 % 16))) (v / 4194304 % 16) hD
  refine ans_of v 5 hv hf hd ho _ _ _ (by rw [e, e1]) (by rw [e, e2]) rfl ?_
  exact W.sum 4 (dI v) (v / 4194304 % 16) (v / 262144 % 16) (v / 16384 % 16) v 0 _ hv hf rfl hA rfl (by omega) (by omega) X16 Y16 Z16 _ _ _ rfl rfl (fun V => sum_4 V _ _ (hR _) (hR _))
theorem wi_6 (W : Ways w G bb g x Y) (hx : Y.ok) (hr : ∀ i, 0 ≤ g.R i ∧ g.R i < 4294967296) (v : Nat) (hv : nxt Y.ws Y.iw = v) (hv32 : v < 4294967296) (hf : nxt Y.fa Y.jf = 0) (hd : de v = 0) (ho : v / 67108864 = 6) :
    Ans w G bb x (insS (g.st bb) Y).r (insS (g.st bb) Y).g (insB (g.st bb) Y) := by
  have hO : dO v = ((6 : Nat) : Int) := by unfold dO; rw [ho]
  have hR : ∀ i, 0 ≤ (g.put 0 0).R i ∧ (g.put 0 0).R i < 4294967296 := up_r hr 0 0 (by omega)
  have hA := ap_nat v hv32 hd 6 ho 5 (by omega)
  have X16 : v / 4194304 % 16 < 16 := by omega
  have Y16 : v / 262144 % 16 < 16 := by omega
  have Z16 : v / 16384 % 16 < 16 := by omega
  have hD : dD v = v / 4194304 % 16 := by unfold dD; rw [hO]; rfl
  have hA' : dA v = v / 262144 % 16 := by unfold dA; rw [hO]; rfl
  have hB : dB v = v / 16384 % 16 := by unfold dB; rw [hO]; rfl
  have e : doS 6 (tS g bb Y v) (Y.fet g.pc) = (tS g bb Y v).setD (bits .and .u32 ((g.put 0 0).R (v / 262144 % 16)) ((g.put 0 0).R (v / 16384 % 16))) := by
    show (tS g bb Y v).setD (bits .and .u32 (tS g bb Y v).va (tS g bb Y v).oth) = _
    rw [tS_oth, if_neg (by rw [hO]; decide), tS_va, hA', hB]
  obtain ⟨e1, e2⟩ := set_end (tS g bb Y v) (bits .and .u32 ((g.put 0 0).R (v / 262144 % 16)) ((g.put 0 0).R (v / 16384 % 16))) (v / 4194304 % 16) hD
  refine ans_of v 6 hv hf hd ho _ _ _ (by rw [e, e1]) (by rw [e, e2]) rfl ?_
  exact W.sum 5 (dI v) (v / 4194304 % 16) (v / 262144 % 16) (v / 16384 % 16) v 0 _ hv hf rfl hA rfl (by omega) (by omega) X16 Y16 Z16 _ _ _ rfl rfl (fun V => sum_5 V _ _ (hR _) (hR _))
theorem wi_7 (W : Ways w G bb g x Y) (hx : Y.ok) (hr : ∀ i, 0 ≤ g.R i ∧ g.R i < 4294967296) (v : Nat) (hv : nxt Y.ws Y.iw = v) (hv32 : v < 4294967296) (hf : nxt Y.fa Y.jf = 0) (hd : de v = 0) (ho : v / 67108864 = 7) :
    Ans w G bb x (insS (g.st bb) Y).r (insS (g.st bb) Y).g (insB (g.st bb) Y) := by
  have hO : dO v = ((7 : Nat) : Int) := by unfold dO; rw [ho]
  have hR : ∀ i, 0 ≤ (g.put 0 0).R i ∧ (g.put 0 0).R i < 4294967296 := up_r hr 0 0 (by omega)
  have hA := ap_nat v hv32 hd 7 ho 6 (by omega)
  have X16 : v / 4194304 % 16 < 16 := by omega
  have Y16 : v / 262144 % 16 < 16 := by omega
  have Z16 : v / 16384 % 16 < 16 := by omega
  have hD : dD v = v / 4194304 % 16 := by unfold dD; rw [hO]; rfl
  have hA' : dA v = v / 262144 % 16 := by unfold dA; rw [hO]; rfl
  have hB : dB v = v / 16384 % 16 := by unfold dB; rw [hO]; rfl
  have e : doS 7 (tS g bb Y v) (Y.fet g.pc) = (tS g bb Y v).setD (bits .or .u32 ((g.put 0 0).R (v / 262144 % 16)) ((g.put 0 0).R (v / 16384 % 16))) := by
    show (tS g bb Y v).setD (bits .or .u32 (tS g bb Y v).va (tS g bb Y v).oth) = _
    rw [tS_oth, if_neg (by rw [hO]; decide), tS_va, hA', hB]
  obtain ⟨e1, e2⟩ := set_end (tS g bb Y v) (bits .or .u32 ((g.put 0 0).R (v / 262144 % 16)) ((g.put 0 0).R (v / 16384 % 16))) (v / 4194304 % 16) hD
  refine ans_of v 7 hv hf hd ho _ _ _ (by rw [e, e1]) (by rw [e, e2]) rfl ?_
  exact W.sum 6 (dI v) (v / 4194304 % 16) (v / 262144 % 16) (v / 16384 % 16) v 0 _ hv hf rfl hA rfl (by omega) (by omega) X16 Y16 Z16 _ _ _ rfl rfl (fun V => sum_6 V _ _ (hR _) (hR _))
theorem wi_8 (W : Ways w G bb g x Y) (hx : Y.ok) (hr : ∀ i, 0 ≤ g.R i ∧ g.R i < 4294967296) (v : Nat) (hv : nxt Y.ws Y.iw = v) (hv32 : v < 4294967296) (hf : nxt Y.fa Y.jf = 0) (hd : de v = 0) (ho : v / 67108864 = 8) :
    Ans w G bb x (insS (g.st bb) Y).r (insS (g.st bb) Y).g (insB (g.st bb) Y) := by
  have hO : dO v = ((8 : Nat) : Int) := by unfold dO; rw [ho]
  have hR : ∀ i, 0 ≤ (g.put 0 0).R i ∧ (g.put 0 0).R i < 4294967296 := up_r hr 0 0 (by omega)
  have hA := ap_nat v hv32 hd 8 ho 7 (by omega)
  have X16 : v / 4194304 % 16 < 16 := by omega
  have Y16 : v / 262144 % 16 < 16 := by omega
  have Z16 : v / 16384 % 16 < 16 := by omega
  have hD : dD v = v / 4194304 % 16 := by unfold dD; rw [hO]; rfl
  have hA' : dA v = v / 262144 % 16 := by unfold dA; rw [hO]; rfl
  have hB : dB v = v / 16384 % 16 := by unfold dB; rw [hO]; rfl
  have e : doS 8 (tS g bb Y v) (Y.fet g.pc) = (tS g bb Y v).setD (bits .xor .u32 ((g.put 0 0).R (v / 262144 % 16)) ((g.put 0 0).R (v / 16384 % 16))) := by
    show (tS g bb Y v).setD (bits .xor .u32 (tS g bb Y v).va (tS g bb Y v).oth) = _
    rw [tS_oth, if_neg (by rw [hO]; decide), tS_va, hA', hB]
  obtain ⟨e1, e2⟩ := set_end (tS g bb Y v) (bits .xor .u32 ((g.put 0 0).R (v / 262144 % 16)) ((g.put 0 0).R (v / 16384 % 16))) (v / 4194304 % 16) hD
  refine ans_of v 8 hv hf hd ho _ _ _ (by rw [e, e1]) (by rw [e, e2]) rfl ?_
  exact W.sum 7 (dI v) (v / 4194304 % 16) (v / 262144 % 16) (v / 16384 % 16) v 0 _ hv hf rfl hA rfl (by omega) (by omega) X16 Y16 Z16 _ _ _ rfl rfl (fun V => sum_7 V _ _ (hR _) (hR _))
theorem wi_9 (W : Ways w G bb g x Y) (hx : Y.ok) (hr : ∀ i, 0 ≤ g.R i ∧ g.R i < 4294967296) (v : Nat) (hv : nxt Y.ws Y.iw = v) (hv32 : v < 4294967296) (hf : nxt Y.fa Y.jf = 0) (hd : de v = 0) (ho : v / 67108864 = 9) :
    Ans w G bb x (insS (g.st bb) Y).r (insS (g.st bb) Y).g (insB (g.st bb) Y) := by
  have hO : dO v = ((9 : Nat) : Int) := by unfold dO; rw [ho]
  have hR : ∀ i, 0 ≤ (g.put 0 0).R i ∧ (g.put 0 0).R i < 4294967296 := up_r hr 0 0 (by omega)
  have hA := ap_nat v hv32 hd 9 ho 8 (by omega)
  have X16 : v / 4194304 % 16 < 16 := by omega
  have Y16 : v / 262144 % 16 < 16 := by omega
  have Z16 : v / 16384 % 16 < 16 := by omega
  have hD : dD v = v / 4194304 % 16 := by unfold dD; rw [hO]; rfl
  have hA' : dA v = v / 262144 % 16 := by unfold dA; rw [hO]; rfl
  have hB : dB v = v / 16384 % 16 := by unfold dB; rw [hO]; rfl
  have e : doS 9 (tS g bb Y v) (Y.fet g.pc) = (tS g bb Y v).setD (((g.put 0 0).R (v / 262144 % 16)) * 2 ^ (((g.put 0 0).R (v / 16384 % 16)) % 32).toNat % 4294967296) := by
    show (tS g bb Y v).setD ((tS g bb Y v).va * 2 ^ ((tS g bb Y v).oth % 32).toNat % 4294967296) = _
    rw [tS_oth, if_neg (by rw [hO]; decide), tS_va, hA', hB]
  obtain ⟨e1, e2⟩ := set_end (tS g bb Y v) (((g.put 0 0).R (v / 262144 % 16)) * 2 ^ (((g.put 0 0).R (v / 16384 % 16)) % 32).toNat % 4294967296) (v / 4194304 % 16) hD
  refine ans_of v 9 hv hf hd ho _ _ _ (by rw [e, e1]) (by rw [e, e2]) rfl ?_
  exact W.sum 8 (dI v) (v / 4194304 % 16) (v / 262144 % 16) (v / 16384 % 16) v 0 _ hv hf rfl hA rfl (by omega) (by omega) X16 Y16 Z16 _ _ _ rfl rfl (fun V => sum_8 V _ _ (hR _) (hR _))
theorem wi_10 (W : Ways w G bb g x Y) (hx : Y.ok) (hr : ∀ i, 0 ≤ g.R i ∧ g.R i < 4294967296) (v : Nat) (hv : nxt Y.ws Y.iw = v) (hv32 : v < 4294967296) (hf : nxt Y.fa Y.jf = 0) (hd : de v = 0) (ho : v / 67108864 = 10) :
    Ans w G bb x (insS (g.st bb) Y).r (insS (g.st bb) Y).g (insB (g.st bb) Y) := by
  have hO : dO v = ((10 : Nat) : Int) := by unfold dO; rw [ho]
  have hR : ∀ i, 0 ≤ (g.put 0 0).R i ∧ (g.put 0 0).R i < 4294967296 := up_r hr 0 0 (by omega)
  have hA := ap_nat v hv32 hd 10 ho 9 (by omega)
  have X16 : v / 4194304 % 16 < 16 := by omega
  have Y16 : v / 262144 % 16 < 16 := by omega
  have Z16 : v / 16384 % 16 < 16 := by omega
  have hD : dD v = v / 4194304 % 16 := by unfold dD; rw [hO]; rfl
  have hA' : dA v = v / 262144 % 16 := by unfold dA; rw [hO]; rfl
  have hB : dB v = v / 16384 % 16 := by unfold dB; rw [hO]; rfl
  have e : doS 10 (tS g bb Y v) (Y.fet g.pc) = (tS g bb Y v).setD (((g.put 0 0).R (v / 262144 % 16)) / 2 ^ (((g.put 0 0).R (v / 16384 % 16)) % 32).toNat) := by
    show (tS g bb Y v).setD ((tS g bb Y v).va / 2 ^ ((tS g bb Y v).oth % 32).toNat) = _
    rw [tS_oth, if_neg (by rw [hO]; decide), tS_va, hA', hB]
  obtain ⟨e1, e2⟩ := set_end (tS g bb Y v) (((g.put 0 0).R (v / 262144 % 16)) / 2 ^ (((g.put 0 0).R (v / 16384 % 16)) % 32).toNat) (v / 4194304 % 16) hD
  refine ans_of v 10 hv hf hd ho _ _ _ (by rw [e, e1]) (by rw [e, e2]) rfl ?_
  exact W.sum 9 (dI v) (v / 4194304 % 16) (v / 262144 % 16) (v / 16384 % 16) v 0 _ hv hf rfl hA rfl (by omega) (by omega) X16 Y16 Z16 _ _ _ rfl rfl (fun V => sum_9 V _ _ (hR _) (hR _))
theorem wi_11 (W : Ways w G bb g x Y) (hx : Y.ok) (hr : ∀ i, 0 ≤ g.R i ∧ g.R i < 4294967296) (v : Nat) (hv : nxt Y.ws Y.iw = v) (hv32 : v < 4294967296) (hf : nxt Y.fa Y.jf = 0) (hd : de v = 0) (ho : v / 67108864 = 11) :
    Ans w G bb x (insS (g.st bb) Y).r (insS (g.st bb) Y).g (insB (g.st bb) Y) := by
  have hO : dO v = ((11 : Nat) : Int) := by unfold dO; rw [ho]
  have hR : ∀ i, 0 ≤ (g.put 0 0).R i ∧ (g.put 0 0).R i < 4294967296 := up_r hr 0 0 (by omega)
  have hA := ap_nat v hv32 hd 11 ho 10 (by omega)
  have X16 : v / 4194304 % 16 < 16 := by omega
  have Y16 : v / 262144 % 16 < 16 := by omega
  have Z16 : v / 16384 % 16 < 16 := by omega
  have hD : dD v = v / 4194304 % 16 := by unfold dD; rw [hO]; rfl
  have hA' : dA v = v / 262144 % 16 := by unfold dA; rw [hO]; rfl
  have hB : dB v = v / 16384 % 16 := by unfold dB; rw [hO]; rfl
  have e : doS 11 (tS g bb Y v) (Y.fet g.pc) = (tS g bb Y v).setD (wrap32 ((g.put 0 0).R (v / 262144 % 16)) / 2 ^ (((g.put 0 0).R (v / 16384 % 16)) % 32).toNat % 4294967296) := by
    show (tS g bb Y v).setD (wrap32 (tS g bb Y v).va / 2 ^ ((tS g bb Y v).oth % 32).toNat % 4294967296) = _
    rw [tS_oth, if_neg (by rw [hO]; decide), tS_va, hA', hB]
  obtain ⟨e1, e2⟩ := set_end (tS g bb Y v) (wrap32 ((g.put 0 0).R (v / 262144 % 16)) / 2 ^ (((g.put 0 0).R (v / 16384 % 16)) % 32).toNat % 4294967296) (v / 4194304 % 16) hD
  refine ans_of v 11 hv hf hd ho _ _ _ (by rw [e, e1]) (by rw [e, e2]) rfl ?_
  exact W.sum 10 (dI v) (v / 4194304 % 16) (v / 262144 % 16) (v / 16384 % 16) v 0 _ hv hf rfl hA rfl (by omega) (by omega) X16 Y16 Z16 _ _ _ rfl rfl (fun V => sum_10 V _ _ (hR _) (hR _))
theorem wi_12 (W : Ways w G bb g x Y) (hx : Y.ok) (hr : ∀ i, 0 ≤ g.R i ∧ g.R i < 4294967296) (v : Nat) (hv : nxt Y.ws Y.iw = v) (hv32 : v < 4294967296) (hf : nxt Y.fa Y.jf = 0) (hd : de v = 0) (ho : v / 67108864 = 12) :
    Ans w G bb x (insS (g.st bb) Y).r (insS (g.st bb) Y).g (insB (g.st bb) Y) := by
  have hO : dO v = ((12 : Nat) : Int) := by unfold dO; rw [ho]
  have hR : ∀ i, 0 ≤ (g.put 0 0).R i ∧ (g.put 0 0).R i < 4294967296 := up_r hr 0 0 (by omega)
  have hA := ap_nat v hv32 hd 12 ho 11 (by omega)
  have X16 : v / 4194304 % 16 < 16 := by omega
  have Y16 : v / 262144 % 16 < 16 := by omega
  have Z16 : v / 16384 % 16 < 16 := by omega
  have hD : dD v = v / 4194304 % 16 := by unfold dD; rw [hO]; rfl
  have hA' : dA v = v / 262144 % 16 := by unfold dA; rw [hO]; rfl
  have hB : dB v = v / 16384 % 16 := by unfold dB; rw [hO]; rfl
  have e : doS 12 (tS g bb Y v) (Y.fet g.pc) = (tS g bb Y v).setD ((decide (wrap32 ((g.put 0 0).R (v / 262144 % 16)) < wrap32 ((g.put 0 0).R (v / 16384 % 16)))).toInt) := by
    show (tS g bb Y v).setD ((decide (wrap32 (tS g bb Y v).va < wrap32 (tS g bb Y v).oth)).toInt) = _
    rw [tS_oth, if_neg (by rw [hO]; decide), tS_va, hA', hB]
  obtain ⟨e1, e2⟩ := set_end (tS g bb Y v) ((decide (wrap32 ((g.put 0 0).R (v / 262144 % 16)) < wrap32 ((g.put 0 0).R (v / 16384 % 16)))).toInt) (v / 4194304 % 16) hD
  refine ans_of v 12 hv hf hd ho _ _ _ (by rw [e, e1]) (by rw [e, e2]) rfl ?_
  exact W.sum 11 (dI v) (v / 4194304 % 16) (v / 262144 % 16) (v / 16384 % 16) v 0 _ hv hf rfl hA rfl (by omega) (by omega) X16 Y16 Z16 _ _ _ rfl rfl (fun V => sum_11 V _ _ (hR _) (hR _))
theorem wi_13 (W : Ways w G bb g x Y) (hx : Y.ok) (hr : ∀ i, 0 ≤ g.R i ∧ g.R i < 4294967296) (v : Nat) (hv : nxt Y.ws Y.iw = v) (hv32 : v < 4294967296) (hf : nxt Y.fa Y.jf = 0) (hd : de v = 0) (ho : v / 67108864 = 13) :
    Ans w G bb x (insS (g.st bb) Y).r (insS (g.st bb) Y).g (insB (g.st bb) Y) := by
  have hO : dO v = ((13 : Nat) : Int) := by unfold dO; rw [ho]
  have hR : ∀ i, 0 ≤ (g.put 0 0).R i ∧ (g.put 0 0).R i < 4294967296 := up_r hr 0 0 (by omega)
  have hA := ap_nat v hv32 hd 13 ho 12 (by omega)
  have X16 : v / 4194304 % 16 < 16 := by omega
  have Y16 : v / 262144 % 16 < 16 := by omega
  have Z16 : v / 16384 % 16 < 16 := by omega
  have hD : dD v = v / 4194304 % 16 := by unfold dD; rw [hO]; rfl
  have hA' : dA v = v / 262144 % 16 := by unfold dA; rw [hO]; rfl
  have hB : dB v = v / 16384 % 16 := by unfold dB; rw [hO]; rfl
  have e : doS 13 (tS g bb Y v) (Y.fet g.pc) = (tS g bb Y v).setD ((decide (((g.put 0 0).R (v / 262144 % 16)) < ((g.put 0 0).R (v / 16384 % 16)))).toInt) := by
    show (tS g bb Y v).setD ((decide ((tS g bb Y v).va < (tS g bb Y v).oth)).toInt) = _
    rw [tS_oth, if_neg (by rw [hO]; decide), tS_va, hA', hB]
  obtain ⟨e1, e2⟩ := set_end (tS g bb Y v) ((decide (((g.put 0 0).R (v / 262144 % 16)) < ((g.put 0 0).R (v / 16384 % 16)))).toInt) (v / 4194304 % 16) hD
  refine ans_of v 13 hv hf hd ho _ _ _ (by rw [e, e1]) (by rw [e, e2]) rfl ?_
  exact W.sum 12 (dI v) (v / 4194304 % 16) (v / 262144 % 16) (v / 16384 % 16) v 0 _ hv hf rfl hA rfl (by omega) (by omega) X16 Y16 Z16 _ _ _ rfl rfl (fun V => sum_12 V _ _ (hR _) (hR _))
theorem wi_14 (W : Ways w G bb g x Y) (hx : Y.ok) (hr : ∀ i, 0 ≤ g.R i ∧ g.R i < 4294967296) (v : Nat) (hv : nxt Y.ws Y.iw = v) (hv32 : v < 4294967296) (hf : nxt Y.fa Y.jf = 0) (hd : de v = 0) (ho : v / 67108864 = 14) :
    Ans w G bb x (insS (g.st bb) Y).r (insS (g.st bb) Y).g (insB (g.st bb) Y) := by
  have hO : dO v = ((14 : Nat) : Int) := by unfold dO; rw [ho]
  have hR : ∀ i, 0 ≤ (g.put 0 0).R i ∧ (g.put 0 0).R i < 4294967296 := up_r hr 0 0 (by omega)
  have hA := ap_nat v hv32 hd 14 ho 13 (by omega)
  have X16 : v / 4194304 % 16 < 16 := by omega
  have Y16 : v / 262144 % 16 < 16 := by omega
  have Z16 : v / 16384 % 16 < 16 := by omega
  have hD : dD v = v / 4194304 % 16 := by unfold dD; rw [hO]; rfl
  have hA' : dA v = v / 262144 % 16 := by unfold dA; rw [hO]; rfl
  have e : doS 14 (tS g bb Y v) (Y.fet g.pc) = (tS g bb Y v).setD ((((g.put 0 0).R (v / 262144 % 16)) + (dI v % 4294967296)) % 4294967296) := by
    show (tS g bb Y v).setD (((tS g bb Y v).va + (tS g bb Y v).oth) % 4294967296) = _
    rw [tS_oth, if_pos (by rw [hO]; decide), tS_va, hA']
  obtain ⟨e1, e2⟩ := set_end (tS g bb Y v) ((((g.put 0 0).R (v / 262144 % 16)) + (dI v % 4294967296)) % 4294967296) (v / 4194304 % 16) hD
  refine ans_of v 14 hv hf hd ho _ _ _ (by rw [e, e1]) (by rw [e, e2]) rfl ?_
  exact W.sho 13 (dI v) (v / 4194304 % 16) (v / 262144 % 16) (v / 16384 % 16) v 0 _ hv hf rfl hA rfl (by omega) (by omega) X16 Y16 0 _ _ _ rfl rfl (fun V => short_13 V) (fun V => sum_0 V _ _ (hR _) ⟨by omega, by omega⟩)
theorem wi_15 (W : Ways w G bb g x Y) (hx : Y.ok) (hr : ∀ i, 0 ≤ g.R i ∧ g.R i < 4294967296) (v : Nat) (hv : nxt Y.ws Y.iw = v) (hv32 : v < 4294967296) (hf : nxt Y.fa Y.jf = 0) (hd : de v = 0) (ho : v / 67108864 = 15) :
    Ans w G bb x (insS (g.st bb) Y).r (insS (g.st bb) Y).g (insB (g.st bb) Y) := by
  have hO : dO v = ((15 : Nat) : Int) := by unfold dO; rw [ho]
  have hR : ∀ i, 0 ≤ (g.put 0 0).R i ∧ (g.put 0 0).R i < 4294967296 := up_r hr 0 0 (by omega)
  have hA := ap_nat v hv32 hd 15 ho 14 (by omega)
  have X16 : v / 4194304 % 16 < 16 := by omega
  have Y16 : v / 262144 % 16 < 16 := by omega
  have Z16 : v / 16384 % 16 < 16 := by omega
  have hD : dD v = v / 4194304 % 16 := by unfold dD; rw [hO]; rfl
  have hA' : dA v = v / 262144 % 16 := by unfold dA; rw [hO]; rfl
  have e : doS 15 (tS g bb Y v) (Y.fet g.pc) = (tS g bb Y v).setD (bits .and .u32 ((g.put 0 0).R (v / 262144 % 16)) (dI v % 4294967296)) := by
    show (tS g bb Y v).setD (bits .and .u32 (tS g bb Y v).va (tS g bb Y v).oth) = _
    rw [tS_oth, if_pos (by rw [hO]; decide), tS_va, hA']
  obtain ⟨e1, e2⟩ := set_end (tS g bb Y v) (bits .and .u32 ((g.put 0 0).R (v / 262144 % 16)) (dI v % 4294967296)) (v / 4194304 % 16) hD
  refine ans_of v 15 hv hf hd ho _ _ _ (by rw [e, e1]) (by rw [e, e2]) rfl ?_
  exact W.sho 14 (dI v) (v / 4194304 % 16) (v / 262144 % 16) (v / 16384 % 16) v 0 _ hv hf rfl hA rfl (by omega) (by omega) X16 Y16 5 _ _ _ rfl rfl (fun V => short_14 V) (fun V => sum_5 V _ _ (hR _) ⟨by omega, by omega⟩)
theorem wi_16 (W : Ways w G bb g x Y) (hx : Y.ok) (hr : ∀ i, 0 ≤ g.R i ∧ g.R i < 4294967296) (v : Nat) (hv : nxt Y.ws Y.iw = v) (hv32 : v < 4294967296) (hf : nxt Y.fa Y.jf = 0) (hd : de v = 0) (ho : v / 67108864 = 16) :
    Ans w G bb x (insS (g.st bb) Y).r (insS (g.st bb) Y).g (insB (g.st bb) Y) := by
  have hO : dO v = ((16 : Nat) : Int) := by unfold dO; rw [ho]
  have hR : ∀ i, 0 ≤ (g.put 0 0).R i ∧ (g.put 0 0).R i < 4294967296 := up_r hr 0 0 (by omega)
  have hA := ap_nat v hv32 hd 16 ho 15 (by omega)
  have X16 : v / 4194304 % 16 < 16 := by omega
  have Y16 : v / 262144 % 16 < 16 := by omega
  have Z16 : v / 16384 % 16 < 16 := by omega
  have hD : dD v = v / 4194304 % 16 := by unfold dD; rw [hO]; rfl
  have hA' : dA v = v / 262144 % 16 := by unfold dA; rw [hO]; rfl
  have e : doS 16 (tS g bb Y v) (Y.fet g.pc) = (tS g bb Y v).setD (bits .or .u32 ((g.put 0 0).R (v / 262144 % 16)) (dI v % 4294967296)) := by
    show (tS g bb Y v).setD (bits .or .u32 (tS g bb Y v).va (tS g bb Y v).oth) = _
    rw [tS_oth, if_pos (by rw [hO]; decide), tS_va, hA']
  obtain ⟨e1, e2⟩ := set_end (tS g bb Y v) (bits .or .u32 ((g.put 0 0).R (v / 262144 % 16)) (dI v % 4294967296)) (v / 4194304 % 16) hD
  refine ans_of v 16 hv hf hd ho _ _ _ (by rw [e, e1]) (by rw [e, e2]) rfl ?_
  exact W.sho 15 (dI v) (v / 4194304 % 16) (v / 262144 % 16) (v / 16384 % 16) v 0 _ hv hf rfl hA rfl (by omega) (by omega) X16 Y16 6 _ _ _ rfl rfl (fun V => short_15 V) (fun V => sum_6 V _ _ (hR _) ⟨by omega, by omega⟩)
theorem wi_17 (W : Ways w G bb g x Y) (hx : Y.ok) (hr : ∀ i, 0 ≤ g.R i ∧ g.R i < 4294967296) (v : Nat) (hv : nxt Y.ws Y.iw = v) (hv32 : v < 4294967296) (hf : nxt Y.fa Y.jf = 0) (hd : de v = 0) (ho : v / 67108864 = 17) :
    Ans w G bb x (insS (g.st bb) Y).r (insS (g.st bb) Y).g (insB (g.st bb) Y) := by
  have hO : dO v = ((17 : Nat) : Int) := by unfold dO; rw [ho]
  have hR : ∀ i, 0 ≤ (g.put 0 0).R i ∧ (g.put 0 0).R i < 4294967296 := up_r hr 0 0 (by omega)
  have hA := ap_nat v hv32 hd 17 ho 16 (by omega)
  have X16 : v / 4194304 % 16 < 16 := by omega
  have Y16 : v / 262144 % 16 < 16 := by omega
  have Z16 : v / 16384 % 16 < 16 := by omega
  have hD : dD v = v / 4194304 % 16 := by unfold dD; rw [hO]; rfl
  have hA' : dA v = v / 262144 % 16 := by unfold dA; rw [hO]; rfl
  have e : doS 17 (tS g bb Y v) (Y.fet g.pc) = (tS g bb Y v).setD (bits .xor .u32 ((g.put 0 0).R (v / 262144 % 16)) (dI v % 4294967296)) := by
    show (tS g bb Y v).setD (bits .xor .u32 (tS g bb Y v).va (tS g bb Y v).oth) = _
    rw [tS_oth, if_pos (by rw [hO]; decide), tS_va, hA']
  obtain ⟨e1, e2⟩ := set_end (tS g bb Y v) (bits .xor .u32 ((g.put 0 0).R (v / 262144 % 16)) (dI v % 4294967296)) (v / 4194304 % 16) hD
  refine ans_of v 17 hv hf hd ho _ _ _ (by rw [e, e1]) (by rw [e, e2]) rfl ?_
  exact W.sho 16 (dI v) (v / 4194304 % 16) (v / 262144 % 16) (v / 16384 % 16) v 0 _ hv hf rfl hA rfl (by omega) (by omega) X16 Y16 7 _ _ _ rfl rfl (fun V => short_16 V) (fun V => sum_7 V _ _ (hR _) ⟨by omega, by omega⟩)
theorem wi_18 (W : Ways w G bb g x Y) (hx : Y.ok) (hr : ∀ i, 0 ≤ g.R i ∧ g.R i < 4294967296) (v : Nat) (hv : nxt Y.ws Y.iw = v) (hv32 : v < 4294967296) (hf : nxt Y.fa Y.jf = 0) (hd : de v = 0) (ho : v / 67108864 = 18) :
    Ans w G bb x (insS (g.st bb) Y).r (insS (g.st bb) Y).g (insB (g.st bb) Y) := by
  have hO : dO v = ((18 : Nat) : Int) := by unfold dO; rw [ho]
  have hR : ∀ i, 0 ≤ (g.put 0 0).R i ∧ (g.put 0 0).R i < 4294967296 := up_r hr 0 0 (by omega)
  have hA := ap_nat v hv32 hd 18 ho 17 (by omega)
  have X16 : v / 4194304 % 16 < 16 := by omega
  have Y16 : v / 262144 % 16 < 16 := by omega
  have Z16 : v / 16384 % 16 < 16 := by omega
  have hD : dD v = v / 4194304 % 16 := by unfold dD; rw [hO]; rfl
  have hA' : dA v = v / 262144 % 16 := by unfold dA; rw [hO]; rfl
  have e : doS 18 (tS g bb Y v) (Y.fet g.pc) = (tS g bb Y v).setD (((g.put 0 0).R (v / 262144 % 16)) * 2 ^ ((dI v % 4294967296) % 32).toNat % 4294967296) := by
    show (tS g bb Y v).setD ((tS g bb Y v).va * 2 ^ ((tS g bb Y v).oth % 32).toNat % 4294967296) = _
    rw [tS_oth, if_pos (by rw [hO]; decide), tS_va, hA']
  obtain ⟨e1, e2⟩ := set_end (tS g bb Y v) (((g.put 0 0).R (v / 262144 % 16)) * 2 ^ ((dI v % 4294967296) % 32).toNat % 4294967296) (v / 4194304 % 16) hD
  refine ans_of v 18 hv hf hd ho _ _ _ (by rw [e, e1]) (by rw [e, e2]) rfl ?_
  exact W.sho 17 (dI v) (v / 4194304 % 16) (v / 262144 % 16) (v / 16384 % 16) v 0 _ hv hf rfl hA rfl (by omega) (by omega) X16 Y16 8 _ _ _ rfl rfl (fun V => short_17 V) (fun V => sum_8 V _ _ (hR _) ⟨by omega, by omega⟩)
theorem wi_19 (W : Ways w G bb g x Y) (hx : Y.ok) (hr : ∀ i, 0 ≤ g.R i ∧ g.R i < 4294967296) (v : Nat) (hv : nxt Y.ws Y.iw = v) (hv32 : v < 4294967296) (hf : nxt Y.fa Y.jf = 0) (hd : de v = 0) (ho : v / 67108864 = 19) :
    Ans w G bb x (insS (g.st bb) Y).r (insS (g.st bb) Y).g (insB (g.st bb) Y) := by
  have hO : dO v = ((19 : Nat) : Int) := by unfold dO; rw [ho]
  have hR : ∀ i, 0 ≤ (g.put 0 0).R i ∧ (g.put 0 0).R i < 4294967296 := up_r hr 0 0 (by omega)
  have hA := ap_nat v hv32 hd 19 ho 18 (by omega)
  have X16 : v / 4194304 % 16 < 16 := by omega
  have Y16 : v / 262144 % 16 < 16 := by omega
  have Z16 : v / 16384 % 16 < 16 := by omega
  have hD : dD v = v / 4194304 % 16 := by unfold dD; rw [hO]; rfl
  have hA' : dA v = v / 262144 % 16 := by unfold dA; rw [hO]; rfl
  have e : doS 19 (tS g bb Y v) (Y.fet g.pc) = (tS g bb Y v).setD (((g.put 0 0).R (v / 262144 % 16)) / 2 ^ ((dI v % 4294967296) % 32).toNat) := by
    show (tS g bb Y v).setD ((tS g bb Y v).va / 2 ^ ((tS g bb Y v).oth % 32).toNat) = _
    rw [tS_oth, if_pos (by rw [hO]; decide), tS_va, hA']
  obtain ⟨e1, e2⟩ := set_end (tS g bb Y v) (((g.put 0 0).R (v / 262144 % 16)) / 2 ^ ((dI v % 4294967296) % 32).toNat) (v / 4194304 % 16) hD
  refine ans_of v 19 hv hf hd ho _ _ _ (by rw [e, e1]) (by rw [e, e2]) rfl ?_
  exact W.sho 18 (dI v) (v / 4194304 % 16) (v / 262144 % 16) (v / 16384 % 16) v 0 _ hv hf rfl hA rfl (by omega) (by omega) X16 Y16 9 _ _ _ rfl rfl (fun V => short_18 V) (fun V => sum_9 V _ _ (hR _) ⟨by omega, by omega⟩)
theorem wi_20 (W : Ways w G bb g x Y) (hx : Y.ok) (hr : ∀ i, 0 ≤ g.R i ∧ g.R i < 4294967296) (v : Nat) (hv : nxt Y.ws Y.iw = v) (hv32 : v < 4294967296) (hf : nxt Y.fa Y.jf = 0) (hd : de v = 0) (ho : v / 67108864 = 20) :
    Ans w G bb x (insS (g.st bb) Y).r (insS (g.st bb) Y).g (insB (g.st bb) Y) := by
  have hO : dO v = ((20 : Nat) : Int) := by unfold dO; rw [ho]
  have hR : ∀ i, 0 ≤ (g.put 0 0).R i ∧ (g.put 0 0).R i < 4294967296 := up_r hr 0 0 (by omega)
  have hA := ap_nat v hv32 hd 20 ho 19 (by omega)
  have X16 : v / 4194304 % 16 < 16 := by omega
  have Y16 : v / 262144 % 16 < 16 := by omega
  have Z16 : v / 16384 % 16 < 16 := by omega
  have hD : dD v = v / 4194304 % 16 := by unfold dD; rw [hO]; rfl
  have hA' : dA v = v / 262144 % 16 := by unfold dA; rw [hO]; rfl
  have e : doS 20 (tS g bb Y v) (Y.fet g.pc) = (tS g bb Y v).setD (wrap32 ((g.put 0 0).R (v / 262144 % 16)) / 2 ^ ((dI v % 4294967296) % 32).toNat % 4294967296) := by
    show (tS g bb Y v).setD (wrap32 (tS g bb Y v).va / 2 ^ ((tS g bb Y v).oth % 32).toNat % 4294967296) = _
    rw [tS_oth, if_pos (by rw [hO]; decide), tS_va, hA']
  obtain ⟨e1, e2⟩ := set_end (tS g bb Y v) (wrap32 ((g.put 0 0).R (v / 262144 % 16)) / 2 ^ ((dI v % 4294967296) % 32).toNat % 4294967296) (v / 4194304 % 16) hD
  refine ans_of v 20 hv hf hd ho _ _ _ (by rw [e, e1]) (by rw [e, e2]) rfl ?_
  exact W.sho 19 (dI v) (v / 4194304 % 16) (v / 262144 % 16) (v / 16384 % 16) v 0 _ hv hf rfl hA rfl (by omega) (by omega) X16 Y16 10 _ _ _ rfl rfl (fun V => short_19 V) (fun V => sum_10 V _ _ (hR _) ⟨by omega, by omega⟩)
theorem wi_21 (W : Ways w G bb g x Y) (hx : Y.ok) (hr : ∀ i, 0 ≤ g.R i ∧ g.R i < 4294967296) (v : Nat) (hv : nxt Y.ws Y.iw = v) (hv32 : v < 4294967296) (hf : nxt Y.fa Y.jf = 0) (hd : de v = 0) (ho : v / 67108864 = 21) :
    Ans w G bb x (insS (g.st bb) Y).r (insS (g.st bb) Y).g (insB (g.st bb) Y) := by
  have hO : dO v = ((21 : Nat) : Int) := by unfold dO; rw [ho]
  have hR : ∀ i, 0 ≤ (g.put 0 0).R i ∧ (g.put 0 0).R i < 4294967296 := up_r hr 0 0 (by omega)
  have hA := ap_nat v hv32 hd 21 ho 20 (by omega)
  have X16 : v / 4194304 % 16 < 16 := by omega
  have Y16 : v / 262144 % 16 < 16 := by omega
  have Z16 : v / 16384 % 16 < 16 := by omega
  have hD : dD v = v / 4194304 % 16 := by unfold dD; rw [hO]; rfl
  have hA' : dA v = v / 262144 % 16 := by unfold dA; rw [hO]; rfl
  have e : doS 21 (tS g bb Y v) (Y.fet g.pc) = (tS g bb Y v).setD ((decide (wrap32 ((g.put 0 0).R (v / 262144 % 16)) < wrap32 (dI v % 4294967296))).toInt) := by
    show (tS g bb Y v).setD ((decide (wrap32 (tS g bb Y v).va < wrap32 (tS g bb Y v).oth)).toInt) = _
    rw [tS_oth, if_pos (by rw [hO]; decide), tS_va, hA']
  obtain ⟨e1, e2⟩ := set_end (tS g bb Y v) ((decide (wrap32 ((g.put 0 0).R (v / 262144 % 16)) < wrap32 (dI v % 4294967296))).toInt) (v / 4194304 % 16) hD
  refine ans_of v 21 hv hf hd ho _ _ _ (by rw [e, e1]) (by rw [e, e2]) rfl ?_
  exact W.sho 20 (dI v) (v / 4194304 % 16) (v / 262144 % 16) (v / 16384 % 16) v 0 _ hv hf rfl hA rfl (by omega) (by omega) X16 Y16 11 _ _ _ rfl rfl (fun V => short_20 V) (fun V => sum_11 V _ _ (hR _) ⟨by omega, by omega⟩)
theorem wi_22 (W : Ways w G bb g x Y) (hx : Y.ok) (hr : ∀ i, 0 ≤ g.R i ∧ g.R i < 4294967296) (v : Nat) (hv : nxt Y.ws Y.iw = v) (hv32 : v < 4294967296) (hf : nxt Y.fa Y.jf = 0) (hd : de v = 0) (ho : v / 67108864 = 22) :
    Ans w G bb x (insS (g.st bb) Y).r (insS (g.st bb) Y).g (insB (g.st bb) Y) := by
  have hO : dO v = ((22 : Nat) : Int) := by unfold dO; rw [ho]
  have hR : ∀ i, 0 ≤ (g.put 0 0).R i ∧ (g.put 0 0).R i < 4294967296 := up_r hr 0 0 (by omega)
  have hA := ap_nat v hv32 hd 22 ho 21 (by omega)
  have X16 : v / 4194304 % 16 < 16 := by omega
  have Y16 : v / 262144 % 16 < 16 := by omega
  have Z16 : v / 16384 % 16 < 16 := by omega
  have hD : dD v = v / 4194304 % 16 := by unfold dD; rw [hO]; rfl
  have hA' : dA v = v / 262144 % 16 := by unfold dA; rw [hO]; rfl
  have e : doS 22 (tS g bb Y v) (Y.fet g.pc) = (tS g bb Y v).setD ((decide (((g.put 0 0).R (v / 262144 % 16)) < (dI v % 4294967296))).toInt) := by
    show (tS g bb Y v).setD ((decide ((tS g bb Y v).va < (tS g bb Y v).oth)).toInt) = _
    rw [tS_oth, if_pos (by rw [hO]; decide), tS_va, hA']
  obtain ⟨e1, e2⟩ := set_end (tS g bb Y v) ((decide (((g.put 0 0).R (v / 262144 % 16)) < (dI v % 4294967296))).toInt) (v / 4194304 % 16) hD
  refine ans_of v 22 hv hf hd ho _ _ _ (by rw [e, e1]) (by rw [e, e2]) rfl ?_
  exact W.sho 21 (dI v) (v / 4194304 % 16) (v / 262144 % 16) (v / 16384 % 16) v 0 _ hv hf rfl hA rfl (by omega) (by omega) X16 Y16 12 _ _ _ rfl rfl (fun V => short_21 V) (fun V => sum_12 V _ _ (hR _) ⟨by omega, by omega⟩)
theorem wi_23 (W : Ways w G bb g x Y) (hx : Y.ok) (hr : ∀ i, 0 ≤ g.R i ∧ g.R i < 4294967296) (v : Nat) (hv : nxt Y.ws Y.iw = v) (hv32 : v < 4294967296) (hf : nxt Y.fa Y.jf = 0) (hd : de v = 0) (ho : v / 67108864 = 23) :
    Ans w G bb x (insS (g.st bb) Y).r (insS (g.st bb) Y).g (insB (g.st bb) Y) := by
  have hO : dO v = ((23 : Nat) : Int) := by unfold dO; rw [ho]
  have hR : ∀ i, 0 ≤ (g.put 0 0).R i ∧ (g.put 0 0).R i < 4294967296 := up_r hr 0 0 (by omega)
  have hA := ap_nat v hv32 hd 23 ho 22 (by omega)
  have X16 : v / 4194304 % 16 < 16 := by omega
  have Y16 : v / 262144 % 16 < 16 := by omega
  have Z16 : v / 16384 % 16 < 16 := by omega
  have hD : dD v = v / 4194304 % 16 := by unfold dD; rw [hO]; rfl
  have e : doS 23 (tS g bb Y v) (Y.fet g.pc) = (tS g bb Y v).setD (dI v % 4294967296 * 16384 % 4294967296) := rfl
  obtain ⟨e1, e2⟩ := set_end (tS g bb Y v) (dI v % 4294967296 * 16384 % 4294967296) (v / 4194304 % 16) hD
  refine ans_of v 23 hv hf hd ho _ _ _ (by rw [e, e1]) (by rw [e, e2]) rfl ?_
  exact W.lui 22 (dI v) (v / 4194304 % 16) (v / 262144 % 16) (v / 16384 % 16) v 0 _ hv hf rfl hA rfl rfl X16 _ rfl
theorem wi_24 (W : Ways w G bb g x Y) (hx : Y.ok) (hr : ∀ i, 0 ≤ g.R i ∧ g.R i < 4294967296) (v : Nat) (hv : nxt Y.ws Y.iw = v) (hv32 : v < 4294967296) (hf : nxt Y.fa Y.jf = 0) (hd : de v = 0) (ho : v / 67108864 = 24) :
    Ans w G bb x (insS (g.st bb) Y).r (insS (g.st bb) Y).g (insB (g.st bb) Y) := by
  have hO : dO v = ((24 : Nat) : Int) := by unfold dO; rw [ho]
  have hR : ∀ i, 0 ≤ (g.put 0 0).R i ∧ (g.put 0 0).R i < 4294967296 := up_r hr 0 0 (by omega)
  have hA := ap_nat v hv32 hd 24 ho 23 (by omega)
  have X16 : v / 4194304 % 16 < 16 := by omega
  have Y16 : v / 262144 % 16 < 16 := by omega
  have Z16 : v / 16384 % 16 < 16 := by omega
  have hD : dD v = v / 4194304 % 16 := by unfold dD; rw [hO]; rfl
  have hA' : dA v = v / 262144 % 16 := by unfold dA; rw [hO]; rfl
  have hat : (tS g bb Y v).at' = (((g.put 0 0).R (v / 262144 % 16) + dI v % 4294967296) % 4294967296) := by rw [tS_at, hA']
  have e0 : doS 24 (tS g bb Y v) (Y.fet g.pc) = lodS (tS g bb Y v) (Y.fet g.pc) (wi_lb (nxt (Y.fet g.pc).vs (Y.fet g.pc).iv)) := rfl
  have hbo : doB 24 (tS g bb Y v) (Y.fet g.pc) = (Y.fet g.pc).lod (((g.put 0 0).R (v / 262144 % 16) + dI v % 4294967296) % 4294967296) 1 := by
    show (Y.fet g.pc).lod (tS g bb Y v).at' 1 = _
    rw [hat]
  have hvs : 0 ≤ nxt Y.vs Y.iv ∧ nxt Y.vs Y.iv < 4294967296 := hx.vs _
  by_cases hz : nxt (Y.fet g.pc).fa (Y.fet g.pc).jf = 0
  · have e : doS 24 (tS g bb Y v) (Y.fet g.pc) = ((tS g bb Y v).ldd (nxt (Y.fet g.pc).cy (Y.fet g.pc).ic) (wi_lb (nxt (Y.fet g.pc).vs (Y.fet g.pc).iv))).setD (wi_lb (nxt (Y.fet g.pc).vs (Y.fet g.pc).iv)) := by rw [e0]; unfold lodS; rw [if_pos hz]
    obtain ⟨e1, e2⟩ := set_end ((tS g bb Y v).ldd (nxt (Y.fet g.pc).cy (Y.fet g.pc).ic) (wi_lb (nxt (Y.fet g.pc).vs (Y.fet g.pc).iv))) (wi_lb (nxt (Y.fet g.pc).vs (Y.fet g.pc).iv)) (v / 4194304 % 16) hD
    have e3 : ((tS g bb Y v).ldd (nxt (Y.fet g.pc).cy (Y.fet g.pc).ic) (wi_lb (nxt (Y.fet g.pc).vs (Y.fet g.pc).iv))).r = { r1 (nxt Y.cy Y.ic) with cyc := wrap64 ((r1 (nxt Y.cy Y.ic)).cyc + nxt (Y.fet g.pc).cy (Y.fet g.pc).ic), addr := (((g.put 0 0).R (v / 262144 % 16) + dI v % 4294967296) % 4294967296), lod := true, val := wi_lb (nxt (Y.fet g.pc).vs (Y.fet g.pc).iv) } := by
      rw [← hat]; rfl
    refine ans_of v 24 hv hf hd ho _ _ _ (by rw [e, e1, e3]) (by rw [e, e2]) hbo ?_
    refine W.lod 23 (v / 4194304 % 16 : Nat) (v / 262144 % 16 : Nat) (v / 16384 % 16 : Nat) (dI v) v 0 _ hv hf rfl hA rfl (by omega) (by omega) _ (fun u => ((Y.fet g.pc).lvTo u).lod (((g.put 0 0).R (v / 262144 % 16) + dI v % 4294967296) % 4294967296) 1) _ _ (fun _ _ => rfl) (fun _ _ => Iff.rfl) ?_
    intro V M u hro
    have h := rload_ok_23 V M _ _ _ hro rfl (v / 4194304 % 16) (v / 262144 % 16) rfl rfl X16 Y16 (fet_le hx.le _ _) hvs _ rfl 0 _ hz rfl rfl
    rw [dset_on4] at h
    exact h
  · have e : doS 24 (tS g bb Y v) (Y.fet g.pc) = ((tS g bb Y v).more (nxt (Y.fet g.pc).cy (Y.fet g.pc).ic)).fault (nxt (Y.fet g.pc).fa (Y.fet g.pc).jf) (tS g bb Y v).at' := by rw [e0]; unfold lodS; rw [if_neg hz]
    refine ans_of v 24 hv hf hd ho { r1 (nxt Y.cy Y.ic) with cyc := wrap64 ((r1 (nxt Y.cy Y.ic)).cyc + nxt (Y.fet g.pc).cy (Y.fet g.pc).ic), addr := (((g.put 0 0).R (v / 262144 % 16) + dI v % 4294967296) % 4294967296), kind := 3, flt := nxt (Y.fet g.pc).fa (Y.fet g.pc).jf } (g.put 0 0) _ (by rw [e, hat]; rfl) (by rw [e]; rfl) hbo ?_
    refine W.lod 23 (v / 4194304 % 16 : Nat) (v / 262144 % 16 : Nat) (v / 16384 % 16 : Nat) (dI v) v 0 _ hv hf rfl hA rfl (by omega) (by omega) _ (fun u => ((Y.fet g.pc).lvTo u).lod (((g.put 0 0).R (v / 262144 % 16) + dI v % 4294967296) % 4294967296) 1) _ _ (fun _ _ => rfl) (fun _ _ => Iff.rfl) ?_
    intro V M u hro
    exact rload_bad_23 V M _ _ _ hro rfl (v / 4194304 % 16) (v / 262144 % 16) rfl rfl X16 Y16 (fet_le hx.le _ _) hvs _ rfl _ _ rfl rfl hz
theorem wi_25 (W : Ways w G bb g x Y) (hx : Y.ok) (hr : ∀ i, 0 ≤ g.R i ∧ g.R i < 4294967296) (v : Nat) (hv : nxt Y.ws Y.iw = v) (hv32 : v < 4294967296) (hf : nxt Y.fa Y.jf = 0) (hd : de v = 0) (ho : v / 67108864 = 25) :
    Ans w G bb x (insS (g.st bb) Y).r (insS (g.st bb) Y).g (insB (g.st bb) Y) := by
  have hO : dO v = ((25 : Nat) : Int) := by unfold dO; rw [ho]
  have hR : ∀ i, 0 ≤ (g.put 0 0).R i ∧ (g.put 0 0).R i < 4294967296 := up_r hr 0 0 (by omega)
  have hA := ap_nat v hv32 hd 25 ho 24 (by omega)
  have X16 : v / 4194304 % 16 < 16 := by omega
  have Y16 : v / 262144 % 16 < 16 := by omega
  have Z16 : v / 16384 % 16 < 16 := by omega
  have hD : dD v = v / 4194304 % 16 := by unfold dD; rw [hO]; rfl
  have hA' : dA v = v / 262144 % 16 := by unfold dA; rw [hO]; rfl
  have hat : (tS g bb Y v).at' = (((g.put 0 0).R (v / 262144 % 16) + dI v % 4294967296) % 4294967296) := by rw [tS_at, hA']
  have e0 : doS 25 (tS g bb Y v) (Y.fet g.pc) = lodS (tS g bb Y v) (Y.fet g.pc) (wi_lbu (nxt (Y.fet g.pc).vs (Y.fet g.pc).iv)) := rfl
  have hbo : doB 25 (tS g bb Y v) (Y.fet g.pc) = (Y.fet g.pc).lod (((g.put 0 0).R (v / 262144 % 16) + dI v % 4294967296) % 4294967296) 1 := by
    show (Y.fet g.pc).lod (tS g bb Y v).at' 1 = _
    rw [hat]
  have hvs : 0 ≤ nxt Y.vs Y.iv ∧ nxt Y.vs Y.iv < 4294967296 := hx.vs _
  by_cases hz : nxt (Y.fet g.pc).fa (Y.fet g.pc).jf = 0
  · have e : doS 25 (tS g bb Y v) (Y.fet g.pc) = ((tS g bb Y v).ldd (nxt (Y.fet g.pc).cy (Y.fet g.pc).ic) (wi_lbu (nxt (Y.fet g.pc).vs (Y.fet g.pc).iv))).setD (wi_lbu (nxt (Y.fet g.pc).vs (Y.fet g.pc).iv)) := by rw [e0]; unfold lodS; rw [if_pos hz]
    obtain ⟨e1, e2⟩ := set_end ((tS g bb Y v).ldd (nxt (Y.fet g.pc).cy (Y.fet g.pc).ic) (wi_lbu (nxt (Y.fet g.pc).vs (Y.fet g.pc).iv))) (wi_lbu (nxt (Y.fet g.pc).vs (Y.fet g.pc).iv)) (v / 4194304 % 16) hD
    have e3 : ((tS g bb Y v).ldd (nxt (Y.fet g.pc).cy (Y.fet g.pc).ic) (wi_lbu (nxt (Y.fet g.pc).vs (Y.fet g.pc).iv))).r = { r1 (nxt Y.cy Y.ic) with cyc := wrap64 ((r1 (nxt Y.cy Y.ic)).cyc + nxt (Y.fet g.pc).cy (Y.fet g.pc).ic), addr := (((g.put 0 0).R (v / 262144 % 16) + dI v % 4294967296) % 4294967296), lod := true, val := wi_lbu (nxt (Y.fet g.pc).vs (Y.fet g.pc).iv) } := by
      rw [← hat]; rfl
    refine ans_of v 25 hv hf hd ho _ _ _ (by rw [e, e1, e3]) (by rw [e, e2]) hbo ?_
    refine W.lod 24 (v / 4194304 % 16 : Nat) (v / 262144 % 16 : Nat) (v / 16384 % 16 : Nat) (dI v) v 0 _ hv hf rfl hA rfl (by omega) (by omega) _ (fun u => ((Y.fet g.pc).lvTo u).lod (((g.put 0 0).R (v / 262144 % 16) + dI v % 4294967296) % 4294967296) 1) _ _ (fun _ _ => rfl) (fun _ _ => Iff.rfl) ?_
    intro V M u hro
    have h := rload_ok_24 V M _ _ _ hro rfl (v / 4194304 % 16) (v / 262144 % 16) rfl rfl X16 Y16 (fet_le hx.le _ _) hvs _ rfl 0 _ hz rfl rfl
    rw [dset_on4] at h
    exact h
  · have e : doS 25 (tS g bb Y v) (Y.fet g.pc) = ((tS g bb Y v).more (nxt (Y.fet g.pc).cy (Y.fet g.pc).ic)).fault (nxt (Y.fet g.pc).fa (Y.fet g.pc).jf) (tS g bb Y v).at' := by rw [e0]; unfold lodS; rw [if_neg hz]
    refine ans_of v 25 hv hf hd ho { r1 (nxt Y.cy Y.ic) with cyc := wrap64 ((r1 (nxt Y.cy Y.ic)).cyc + nxt (Y.fet g.pc).cy (Y.fet g.pc).ic), addr := (((g.put 0 0).R (v / 262144 % 16) + dI v % 4294967296) % 4294967296), kind := 3, flt := nxt (Y.fet g.pc).fa (Y.fet g.pc).jf } (g.put 0 0) _ (by rw [e, hat]; rfl) (by rw [e]; rfl) hbo ?_
    refine W.lod 24 (v / 4194304 % 16 : Nat) (v / 262144 % 16 : Nat) (v / 16384 % 16 : Nat) (dI v) v 0 _ hv hf rfl hA rfl (by omega) (by omega) _ (fun u => ((Y.fet g.pc).lvTo u).lod (((g.put 0 0).R (v / 262144 % 16) + dI v % 4294967296) % 4294967296) 1) _ _ (fun _ _ => rfl) (fun _ _ => Iff.rfl) ?_
    intro V M u hro
    exact rload_bad_24 V M _ _ _ hro rfl (v / 4194304 % 16) (v / 262144 % 16) rfl rfl X16 Y16 (fet_le hx.le _ _) hvs _ rfl _ _ rfl rfl hz
theorem wi_26 (W : Ways w G bb g x Y) (hx : Y.ok) (hr : ∀ i, 0 ≤ g.R i ∧ g.R i < 4294967296) (v : Nat) (hv : nxt Y.ws Y.iw = v) (hv32 : v < 4294967296) (hf : nxt Y.fa Y.jf = 0) (hd : de v = 0) (ho : v / 67108864 = 26) :
    Ans w G bb x (insS (g.st bb) Y).r (insS (g.st bb) Y).g (insB (g.st bb) Y) := by
  have hO : dO v = ((26 : Nat) : Int) := by unfold dO; rw [ho]
  have hR : ∀ i, 0 ≤ (g.put 0 0).R i ∧ (g.put 0 0).R i < 4294967296 := up_r hr 0 0 (by omega)
  have hA := ap_nat v hv32 hd 26 ho 25 (by omega)
  have X16 : v / 4194304 % 16 < 16 := by omega
  have Y16 : v / 262144 % 16 < 16 := by omega
  have Z16 : v / 16384 % 16 < 16 := by omega
  have hD : dD v = v / 4194304 % 16 := by unfold dD; rw [hO]; rfl
  have hA' : dA v = v / 262144 % 16 := by unfold dA; rw [hO]; rfl
  have hat : (tS g bb Y v).at' = (((g.put 0 0).R (v / 262144 % 16) + dI v % 4294967296) % 4294967296) := by rw [tS_at, hA']
  have e0 : doS 26 (tS g bb Y v) (Y.fet g.pc) = lodS (tS g bb Y v) (Y.fet g.pc) (wi_lh (nxt (Y.fet g.pc).vs (Y.fet g.pc).iv)) := rfl
  have hbo : doB 26 (tS g bb Y v) (Y.fet g.pc) = (Y.fet g.pc).lod (((g.put 0 0).R (v / 262144 % 16) + dI v % 4294967296) % 4294967296) 2 := by
    show (Y.fet g.pc).lod (tS g bb Y v).at' 2 = _
    rw [hat]
  have hvs : 0 ≤ nxt Y.vs Y.iv ∧ nxt Y.vs Y.iv < 4294967296 := hx.vs _
  by_cases hz : nxt (Y.fet g.pc).fa (Y.fet g.pc).jf = 0
  · have e : doS 26 (tS g bb Y v) (Y.fet g.pc) = ((tS g bb Y v).ldd (nxt (Y.fet g.pc).cy (Y.fet g.pc).ic) (wi_lh (nxt (Y.fet g.pc).vs (Y.fet g.pc).iv))).setD (wi_lh (nxt (Y.fet g.pc).vs (Y.fet g.pc).iv)) := by rw [e0]; unfold lodS; rw [if_pos hz]
    obtain ⟨e1, e2⟩ := set_end ((tS g bb Y v).ldd (nxt (Y.fet g.pc).cy (Y.fet g.pc).ic) (wi_lh (nxt (Y.fet g.pc).vs (Y.fet g.pc).iv))) (wi_lh (nxt (Y.fet g.pc).vs (Y.fet g.pc).iv)) (v / 4194304 % 16) hD
    have e3 : ((tS g bb Y v).ldd (nxt (Y.fet g.pc).cy (Y.fet g.pc).ic) (wi_lh (nxt (Y.fet g.pc).vs (Y.fet g.pc).iv))).r = { r1 (nxt Y.cy Y.ic) with cyc := wrap64 ((r1 (nxt Y.cy Y.ic)).cyc + nxt (Y.fet g.pc).cy (Y.fet g.pc).ic), addr := (((g.put 0 0).R (v / 262144 % 16) + dI v % 4294967296) % 4294967296), lod := true, val := wi_lh (nxt (Y.fet g.pc).vs (Y.fet g.pc).iv) } := by
      rw [← hat]; rfl
    refine ans_of v 26 hv hf hd ho _ _ _ (by rw [e, e1, e3]) (by rw [e, e2]) hbo ?_
    refine W.lod 25 (v / 4194304 % 16 : Nat) (v / 262144 % 16 : Nat) (v / 16384 % 16 : Nat) (dI v) v 0 _ hv hf rfl hA rfl (by omega) (by omega) _ (fun u => ((Y.fet g.pc).lvTo u).lod (((g.put 0 0).R (v / 262144 % 16) + dI v % 4294967296) % 4294967296) 2) _ _ (fun _ _ => rfl) (fun _ _ => Iff.rfl) ?_
    intro V M u hro
    have h := rload_ok_25 V M _ _ _ hro rfl (v / 4194304 % 16) (v / 262144 % 16) rfl rfl X16 Y16 (fet_le hx.le _ _) hvs _ rfl 0 _ hz rfl rfl
    rw [dset_on4] at h
    exact h
  · have e : doS 26 (tS g bb Y v) (Y.fet g.pc) = ((tS g bb Y v).more (nxt (Y.fet g.pc).cy (Y.fet g.pc).ic)).fault (nxt (Y.fet g.pc).fa (Y.fet g.pc).jf) (tS g bb Y v).at' := by rw [e0]; unfold lodS; rw [if_neg hz]
    refine ans_of v 26 hv hf hd ho { r1 (nxt Y.cy Y.ic) with cyc := wrap64 ((r1 (nxt Y.cy Y.ic)).cyc + nxt (Y.fet g.pc).cy (Y.fet g.pc).ic), addr := (((g.put 0 0).R (v / 262144 % 16) + dI v % 4294967296) % 4294967296), kind := 3, flt := nxt (Y.fet g.pc).fa (Y.fet g.pc).jf } (g.put 0 0) _ (by rw [e, hat]; rfl) (by rw [e]; rfl) hbo ?_
    refine W.lod 25 (v / 4194304 % 16 : Nat) (v / 262144 % 16 : Nat) (v / 16384 % 16 : Nat) (dI v) v 0 _ hv hf rfl hA rfl (by omega) (by omega) _ (fun u => ((Y.fet g.pc).lvTo u).lod (((g.put 0 0).R (v / 262144 % 16) + dI v % 4294967296) % 4294967296) 2) _ _ (fun _ _ => rfl) (fun _ _ => Iff.rfl) ?_
    intro V M u hro
    exact rload_bad_25 V M _ _ _ hro rfl (v / 4194304 % 16) (v / 262144 % 16) rfl rfl X16 Y16 (fet_le hx.le _ _) hvs _ rfl _ _ rfl rfl hz
theorem wi_27 (W : Ways w G bb g x Y) (hx : Y.ok) (hr : ∀ i, 0 ≤ g.R i ∧ g.R i < 4294967296) (v : Nat) (hv : nxt Y.ws Y.iw = v) (hv32 : v < 4294967296) (hf : nxt Y.fa Y.jf = 0) (hd : de v = 0) (ho : v / 67108864 = 27) :
    Ans w G bb x (insS (g.st bb) Y).r (insS (g.st bb) Y).g (insB (g.st bb) Y) := by
  have hO : dO v = ((27 : Nat) : Int) := by unfold dO; rw [ho]
  have hR : ∀ i, 0 ≤ (g.put 0 0).R i ∧ (g.put 0 0).R i < 4294967296 := up_r hr 0 0 (by omega)
  have hA := ap_nat v hv32 hd 27 ho 26 (by omega)
  have X16 : v / 4194304 % 16 < 16 := by omega
  have Y16 : v / 262144 % 16 < 16 := by omega
  have Z16 : v / 16384 % 16 < 16 := by omega
  have hD : dD v = v / 4194304 % 16 := by unfold dD; rw [hO]; rfl
  have hA' : dA v = v / 262144 % 16 := by unfold dA; rw [hO]; rfl
  have hat : (tS g bb Y v).at' = (((g.put 0 0).R (v / 262144 % 16) + dI v % 4294967296) % 4294967296) := by rw [tS_at, hA']
  have e0 : doS 27 (tS g bb Y v) (Y.fet g.pc) = lodS (tS g bb Y v) (Y.fet g.pc) (wi_lhu (nxt (Y.fet g.pc).vs (Y.fet g.pc).iv)) := rfl
  have hbo : doB 27 (tS g bb Y v) (Y.fet g.pc) = (Y.fet g.pc).lod (((g.put 0 0).R (v / 262144 % 16) + dI v % 4294967296) % 4294967296) 2 := by
    show (Y.fet g.pc).lod (tS g bb Y v).at' 2 = _
    rw [hat]
  have hvs : 0 ≤ nxt Y.vs Y.iv ∧ nxt Y.vs Y.iv < 4294967296 := hx.vs _
  by_cases hz : nxt (Y.fet g.pc).fa (Y.fet g.pc).jf = 0
  · have e : doS 27 (tS g bb Y v) (Y.fet g.pc) = ((tS g bb Y v).ldd (nxt (Y.fet g.pc).cy (Y.fet g.pc).ic) (wi_lhu (nxt (Y.fet g.pc).vs (Y.fet g.pc).iv))).setD (wi_lhu (nxt (Y.fet g.pc).vs (Y.fet g.pc).iv)) := by rw [e0]; unfold lodS; rw [if_pos hz]
    obtain ⟨e1, e2⟩ := set_end ((tS g bb Y v).ldd (nxt (Y.fet g.pc).cy (Y.fet g.pc).ic) (wi_lhu (nxt (Y.fet g.pc).vs (Y.fet g.pc).iv))) (wi_lhu (nxt (Y.fet g.pc).vs (Y.fet g.pc).iv)) (v / 4194304 % 16) hD
    have e3 : ((tS g bb Y v).ldd (nxt (Y.fet g.pc).cy (Y.fet g.pc).ic) (wi_lhu (nxt (Y.fet g.pc).vs (Y.fet g.pc).iv))).r = { r1 (nxt Y.cy Y.ic) with cyc := wrap64 ((r1 (nxt Y.cy Y.ic)).cyc + nxt (Y.fet g.pc).cy (Y.fet g.pc).ic), addr := (((g.put 0 0).R (v / 262144 % 16) + dI v % 4294967296) % 4294967296), lod := true, val := wi_lhu (nxt (Y.fet g.pc).vs (Y.fet g.pc).iv) } := by
      rw [← hat]; rfl
    refine ans_of v 27 hv hf hd ho _ _ _ (by rw [e, e1, e3]) (by rw [e, e2]) hbo ?_
    refine W.lod 26 (v / 4194304 % 16 : Nat) (v / 262144 % 16 : Nat) (v / 16384 % 16 : Nat) (dI v) v 0 _ hv hf rfl hA rfl (by omega) (by omega) _ (fun u => ((Y.fet g.pc).lvTo u).lod (((g.put 0 0).R (v / 262144 % 16) + dI v % 4294967296) % 4294967296) 2) _ _ (fun _ _ => rfl) (fun _ _ => Iff.rfl) ?_
    intro V M u hro
    have h := rload_ok_26 V M _ _ _ hro rfl (v / 4194304 % 16) (v / 262144 % 16) rfl rfl X16 Y16 (fet_le hx.le _ _) hvs _ rfl 0 _ hz rfl rfl
    rw [dset_on4] at h
    exact h
  · have e : doS 27 (tS g bb Y v) (Y.fet g.pc) = ((tS g bb Y v).more (nxt (Y.fet g.pc).cy (Y.fet g.pc).ic)).fault (nxt (Y.fet g.pc).fa (Y.fet g.pc).jf) (tS g bb Y v).at' := by rw [e0]; unfold lodS; rw [if_neg hz]
    refine ans_of v 27 hv hf hd ho { r1 (nxt Y.cy Y.ic) with cyc := wrap64 ((r1 (nxt Y.cy Y.ic)).cyc + nxt (Y.fet g.pc).cy (Y.fet g.pc).ic), addr := (((g.put 0 0).R (v / 262144 % 16) + dI v % 4294967296) % 4294967296), kind := 3, flt := nxt (Y.fet g.pc).fa (Y.fet g.pc).jf } (g.put 0 0) _ (by rw [e, hat]; rfl) (by rw [e]; rfl) hbo ?_
    refine W.lod 26 (v / 4194304 % 16 : Nat) (v / 262144 % 16 : Nat) (v / 16384 % 16 : Nat) (dI v) v 0 _ hv hf rfl hA rfl (by omega) (by omega) _ (fun u => ((Y.fet g.pc).lvTo u).lod (((g.put 0 0).R (v / 262144 % 16) + dI v % 4294967296) % 4294967296) 2) _ _ (fun _ _ => rfl) (fun _ _ => Iff.rfl) ?_
    intro V M u hro
    exact rload_bad_26 V M _ _ _ hro rfl (v / 4194304 % 16) (v / 262144 % 16) rfl rfl X16 Y16 (fet_le hx.le _ _) hvs _ rfl _ _ rfl rfl hz
theorem wi_28 (W : Ways w G bb g x Y) (hx : Y.ok) (hr : ∀ i, 0 ≤ g.R i ∧ g.R i < 4294967296) (v : Nat) (hv : nxt Y.ws Y.iw = v) (hv32 : v < 4294967296) (hf : nxt Y.fa Y.jf = 0) (hd : de v = 0) (ho : v / 67108864 = 28) :
    Ans w G bb x (insS (g.st bb) Y).r (insS (g.st bb) Y).g (insB (g.st bb) Y) := by
  have hO : dO v = ((28 : Nat) : Int) := by unfold dO; rw [ho]
  have hR : ∀ i, 0 ≤ (g.put 0 0).R i ∧ (g.put 0 0).R i < 4294967296 := up_r hr 0 0 (by omega)
  have hA := ap_nat v hv32 hd 28 ho 27 (by omega)
  have X16 : v / 4194304 % 16 < 16 := by omega
  have Y16 : v / 262144 % 16 < 16 := by omega
  have Z16 : v / 16384 % 16 < 16 := by omega
  have hD : dD v = v / 4194304 % 16 := by unfold dD; rw [hO]; rfl
  have hA' : dA v = v / 262144 % 16 := by unfold dA; rw [hO]; rfl
  have hat : (tS g bb Y v).at' = (((g.put 0 0).R (v / 262144 % 16) + dI v % 4294967296) % 4294967296) := by rw [tS_at, hA']
  have e0 : doS 28 (tS g bb Y v) (Y.fet g.pc) = lodS (tS g bb Y v) (Y.fet g.pc) (wi_lw (nxt (Y.fet g.pc).vs (Y.fet g.pc).iv)) := rfl
  have hbo : doB 28 (tS g bb Y v) (Y.fet g.pc) = (Y.fet g.pc).lod (((g.put 0 0).R (v / 262144 % 16) + dI v % 4294967296) % 4294967296) 4 := by
    show (Y.fet g.pc).lod (tS g bb Y v).at' 4 = _
    rw [hat]
  have hvs : 0 ≤ nxt Y.vs Y.iv ∧ nxt Y.vs Y.iv < 4294967296 := hx.vs _
  by_cases hz : nxt (Y.fet g.pc).fa (Y.fet g.pc).jf = 0
  · have e : doS 28 (tS g bb Y v) (Y.fet g.pc) = ((tS g bb Y v).ldd (nxt (Y.fet g.pc).cy (Y.fet g.pc).ic) (wi_lw (nxt (Y.fet g.pc).vs (Y.fet g.pc).iv))).setD (wi_lw (nxt (Y.fet g.pc).vs (Y.fet g.pc).iv)) := by rw [e0]; unfold lodS; rw [if_pos hz]
    obtain ⟨e1, e2⟩ := set_end ((tS g bb Y v).ldd (nxt (Y.fet g.pc).cy (Y.fet g.pc).ic) (wi_lw (nxt (Y.fet g.pc).vs (Y.fet g.pc).iv))) (wi_lw (nxt (Y.fet g.pc).vs (Y.fet g.pc).iv)) (v / 4194304 % 16) hD
    have e3 : ((tS g bb Y v).ldd (nxt (Y.fet g.pc).cy (Y.fet g.pc).ic) (wi_lw (nxt (Y.fet g.pc).vs (Y.fet g.pc).iv))).r = { r1 (nxt Y.cy Y.ic) with cyc := wrap64 ((r1 (nxt Y.cy Y.ic)).cyc + nxt (Y.fet g.pc).cy (Y.fet g.pc).ic), addr := (((g.put 0 0).R (v / 262144 % 16) + dI v % 4294967296) % 4294967296), lod := true, val := wi_lw (nxt (Y.fet g.pc).vs (Y.fet g.pc).iv) } := by
      rw [← hat]; rfl
    refine ans_of v 28 hv hf hd ho _ _ _ (by rw [e, e1, e3]) (by rw [e, e2]) hbo ?_
    refine W.lod 27 (v / 4194304 % 16 : Nat) (v / 262144 % 16 : Nat) (v / 16384 % 16 : Nat) (dI v) v 0 _ hv hf rfl hA rfl (by omega) (by omega) _ (fun u => ((Y.fet g.pc).lvTo u).lod (((g.put 0 0).R (v / 262144 % 16) + dI v % 4294967296) % 4294967296) 4) _ _ (fun _ _ => rfl) (fun _ _ => Iff.rfl) ?_
    intro V M u hro
    have h := rload_ok_27 V M _ _ _ hro rfl (v / 4194304 % 16) (v / 262144 % 16) rfl rfl X16 Y16 (fet_le hx.le _ _) hvs _ rfl 0 _ hz rfl rfl
    rw [dset_on4] at h
    exact h
  · have e : doS 28 (tS g bb Y v) (Y.fet g.pc) = ((tS g bb Y v).more (nxt (Y.fet g.pc).cy (Y.fet g.pc).ic)).fault (nxt (Y.fet g.pc).fa (Y.fet g.pc).jf) (tS g bb Y v).at' := by rw [e0]; unfold lodS; rw [if_neg hz]
    refine ans_of v 28 hv hf hd ho { r1 (nxt Y.cy Y.ic) with cyc := wrap64 ((r1 (nxt Y.cy Y.ic)).cyc + nxt (Y.fet g.pc).cy (Y.fet g.pc).ic), addr := (((g.put 0 0).R (v / 262144 % 16) + dI v % 4294967296) % 4294967296), kind := 3, flt := nxt (Y.fet g.pc).fa (Y.fet g.pc).jf } (g.put 0 0) _ (by rw [e, hat]; rfl) (by rw [e]; rfl) hbo ?_
    refine W.lod 27 (v / 4194304 % 16 : Nat) (v / 262144 % 16 : Nat) (v / 16384 % 16 : Nat) (dI v) v 0 _ hv hf rfl hA rfl (by omega) (by omega) _ (fun u => ((Y.fet g.pc).lvTo u).lod (((g.put 0 0).R (v / 262144 % 16) + dI v % 4294967296) % 4294967296) 4) _ _ (fun _ _ => rfl) (fun _ _ => Iff.rfl) ?_
    intro V M u hro
    exact rload_bad_27 V M _ _ _ hro rfl (v / 4194304 % 16) (v / 262144 % 16) rfl rfl X16 Y16 (fet_le hx.le _ _) hvs _ rfl _ _ rfl rfl hz
theorem wi_29 (W : Ways w G bb g x Y) (hx : Y.ok) (hr : ∀ i, 0 ≤ g.R i ∧ g.R i < 4294967296) (v : Nat) (hv : nxt Y.ws Y.iw = v) (hv32 : v < 4294967296) (hf : nxt Y.fa Y.jf = 0) (hd : de v = 0) (ho : v / 67108864 = 29) :
    Ans w G bb x (insS (g.st bb) Y).r (insS (g.st bb) Y).g (insB (g.st bb) Y) := by
  have hO : dO v = ((29 : Nat) : Int) := by unfold dO; rw [ho]
  have hR : ∀ i, 0 ≤ (g.put 0 0).R i ∧ (g.put 0 0).R i < 4294967296 := up_r hr 0 0 (by omega)
  have hA := ap_nat v hv32 hd 29 ho 28 (by omega)
  have X16 : v / 4194304 % 16 < 16 := by omega
  have Y16 : v / 262144 % 16 < 16 := by omega
  have Z16 : v / 16384 % 16 < 16 := by omega
  have hA' : dA v = v / 4194304 % 16 := by unfold dA; rw [hO]; rfl
  have hB : dB v = v / 262144 % 16 := by unfold dB; rw [hO]; rfl
  have hat : (tS g bb Y v).at' = (((g.put 0 0).R (v / 4194304 % 16) + dI v % 4294967296) % 4294967296) := by rw [tS_at, hA']
  have e0 : doS 29 (tS g bb Y v) (Y.fet g.pc) = stoS (tS g bb Y v) (Y.fet g.pc) := rfl
  have hbo : doB 29 (tS g bb Y v) (Y.fet g.pc) = (Y.fet g.pc).sto (((g.put 0 0).R (v / 4194304 % 16) + dI v % 4294967296) % 4294967296) 1 (((g.put 0 0).R (v / 262144 % 16)) % 256) := by
    show (Y.fet g.pc).sto (tS g bb Y v).at' 1 ((tS g bb Y v).vb % 256) = _
    rw [hat, tS_vb, hB]
  by_cases hz : nxt (Y.fet g.pc).fa (Y.fet g.pc).jf = 0
  · have e : doS 29 (tS g bb Y v) (Y.fet g.pc) = (tS g bb Y v).more (nxt (Y.fet g.pc).cy (Y.fet g.pc).ic) := by rw [e0]; unfold stoS; rw [if_pos hz]
    refine ans_of v 29 hv hf hd ho { r1 (nxt Y.cy Y.ic) with cyc := wrap64 ((r1 (nxt Y.cy Y.ic)).cyc + nxt (Y.fet g.pc).cy (Y.fet g.pc).ic) } (g.put 0 0).on4 _ (by rw [e]; rfl) (by rw [e]; rfl) hbo ?_
    refine W.sto 28 (v / 4194304 % 16 : Nat) (v / 262144 % 16 : Nat) (v / 16384 % 16 : Nat) (dI v) v 0 _ hv hf rfl hA rfl (by omega) (by omega) _ (fun u => ((Y.fet g.pc).lvTo u).sto (((g.put 0 0).R (v / 4194304 % 16) + dI v % 4294967296) % 4294967296) 1 (((g.put 0 0).R (v / 262144 % 16)) % 256)) _ _ (fun _ _ => rfl) (fun _ _ => Iff.rfl) ?_
    intro V M u hro
    exact rstore_ok_28 V M _ _ _ hro rfl (v / 4194304 % 16) (v / 262144 % 16) rfl rfl X16 Y16 (fet_le hx.le _ _) _ rfl (hR _) _ rfl 0 _ hz rfl rfl
  · have e : doS 29 (tS g bb Y v) (Y.fet g.pc) = ((tS g bb Y v).more (nxt (Y.fet g.pc).cy (Y.fet g.pc).ic)).fault (nxt (Y.fet g.pc).fa (Y.fet g.pc).jf) (tS g bb Y v).at' := by rw [e0]; unfold stoS; rw [if_neg hz]
    refine ans_of v 29 hv hf hd ho { r1 (nxt Y.cy Y.ic) with cyc := wrap64 ((r1 (nxt Y.cy Y.ic)).cyc + nxt (Y.fet g.pc).cy (Y.fet g.pc).ic), kind := 3, flt := nxt (Y.fet g.pc).fa (Y.fet g.pc).jf, addr := (((g.put 0 0).R (v / 4194304 % 16) + dI v % 4294967296) % 4294967296) } (g.put 0 0) _ (by rw [e, hat]; rfl) (by rw [e]; rfl) hbo ?_
    refine W.sto 28 (v / 4194304 % 16 : Nat) (v / 262144 % 16 : Nat) (v / 16384 % 16 : Nat) (dI v) v 0 _ hv hf rfl hA rfl (by omega) (by omega) _ (fun u => ((Y.fet g.pc).lvTo u).sto (((g.put 0 0).R (v / 4194304 % 16) + dI v % 4294967296) % 4294967296) 1 (((g.put 0 0).R (v / 262144 % 16)) % 256)) _ _ (fun _ _ => rfl) (fun _ _ => Iff.rfl) ?_
    intro V M u hro
    exact rstore_bad_28 V M _ _ _ hro rfl (v / 4194304 % 16) (v / 262144 % 16) rfl rfl X16 Y16 (fet_le hx.le _ _) _ rfl (hR _) _ rfl _ _ rfl rfl hz
theorem wi_30 (W : Ways w G bb g x Y) (hx : Y.ok) (hr : ∀ i, 0 ≤ g.R i ∧ g.R i < 4294967296) (v : Nat) (hv : nxt Y.ws Y.iw = v) (hv32 : v < 4294967296) (hf : nxt Y.fa Y.jf = 0) (hd : de v = 0) (ho : v / 67108864 = 30) :
    Ans w G bb x (insS (g.st bb) Y).r (insS (g.st bb) Y).g (insB (g.st bb) Y) := by
  have hO : dO v = ((30 : Nat) : Int) := by unfold dO; rw [ho]
  have hR : ∀ i, 0 ≤ (g.put 0 0).R i ∧ (g.put 0 0).R i < 4294967296 := up_r hr 0 0 (by omega)
  have hA := ap_nat v hv32 hd 30 ho 29 (by omega)
  have X16 : v / 4194304 % 16 < 16 := by omega
  have Y16 : v / 262144 % 16 < 16 := by omega
  have Z16 : v / 16384 % 16 < 16 := by omega
  have hA' : dA v = v / 4194304 % 16 := by unfold dA; rw [hO]; rfl
  have hB : dB v = v / 262144 % 16 := by unfold dB; rw [hO]; rfl
  have hat : (tS g bb Y v).at' = (((g.put 0 0).R (v / 4194304 % 16) + dI v % 4294967296) % 4294967296) := by rw [tS_at, hA']
  have e0 : doS 30 (tS g bb Y v) (Y.fet g.pc) = stoS (tS g bb Y v) (Y.fet g.pc) := rfl
  have hbo : doB 30 (tS g bb Y v) (Y.fet g.pc) = (Y.fet g.pc).sto (((g.put 0 0).R (v / 4194304 % 16) + dI v % 4294967296) % 4294967296) 2 (IntKind.u32.wrap (IntKind.u16.wrap ((g.put 0 0).R (v / 262144 % 16)))) := by
    show (Y.fet g.pc).sto (tS g bb Y v).at' 2 (IntKind.u32.wrap (IntKind.u16.wrap (tS g bb Y v).vb)) = _
    rw [hat, tS_vb, hB]
  by_cases hz : nxt (Y.fet g.pc).fa (Y.fet g.pc).jf = 0
  · have e : doS 30 (tS g bb Y v) (Y.fet g.pc) = (tS g bb Y v).more (nxt (Y.fet g.pc).cy (Y.fet g.pc).ic) := by rw [e0]; unfold stoS; rw [if_pos hz]
    refine ans_of v 30 hv hf hd ho { r1 (nxt Y.cy Y.ic) with cyc := wrap64 ((r1 (nxt Y.cy Y.ic)).cyc + nxt (Y.fet g.pc).cy (Y.fet g.pc).ic) } (g.put 0 0).on4 _ (by rw [e]; rfl) (by rw [e]; rfl) hbo ?_
    refine W.sto 29 (v / 4194304 % 16 : Nat) (v / 262144 % 16 : Nat) (v / 16384 % 16 : Nat) (dI v) v 0 _ hv hf rfl hA rfl (by omega) (by omega) _ (fun u => ((Y.fet g.pc).lvTo u).sto (((g.put 0 0).R (v / 4194304 % 16) + dI v % 4294967296) % 4294967296) 2 (IntKind.u32.wrap (IntKind.u16.wrap ((g.put 0 0).R (v / 262144 % 16))))) _ _ (fun _ _ => rfl) (fun _ _ => Iff.rfl) ?_
    intro V M u hro
    exact rstore_ok_29 V M _ _ _ hro rfl (v / 4194304 % 16) (v / 262144 % 16) rfl rfl X16 Y16 (fet_le hx.le _ _) _ rfl (hR _) _ rfl 0 _ hz rfl rfl
  · have e : doS 30 (tS g bb Y v) (Y.fet g.pc) = ((tS g bb Y v).more (nxt (Y.fet g.pc).cy (Y.fet g.pc).ic)).fault (nxt (Y.fet g.pc).fa (Y.fet g.pc).jf) (tS g bb Y v).at' := by rw [e0]; unfold stoS; rw [if_neg hz]
    refine ans_of v 30 hv hf hd ho { r1 (nxt Y.cy Y.ic) with cyc := wrap64 ((r1 (nxt Y.cy Y.ic)).cyc + nxt (Y.fet g.pc).cy (Y.fet g.pc).ic), kind := 3, flt := nxt (Y.fet g.pc).fa (Y.fet g.pc).jf, addr := (((g.put 0 0).R (v / 4194304 % 16) + dI v % 4294967296) % 4294967296) } (g.put 0 0) _ (by rw [e, hat]; rfl) (by rw [e]; rfl) hbo ?_
    refine W.sto 29 (v / 4194304 % 16 : Nat) (v / 262144 % 16 : Nat) (v / 16384 % 16 : Nat) (dI v) v 0 _ hv hf rfl hA rfl (by omega) (by omega) _ (fun u => ((Y.fet g.pc).lvTo u).sto (((g.put 0 0).R (v / 4194304 % 16) + dI v % 4294967296) % 4294967296) 2 (IntKind.u32.wrap (IntKind.u16.wrap ((g.put 0 0).R (v / 262144 % 16))))) _ _ (fun _ _ => rfl) (fun _ _ => Iff.rfl) ?_
    intro V M u hro
    exact rstore_bad_29 V M _ _ _ hro rfl (v / 4194304 % 16) (v / 262144 % 16) rfl rfl X16 Y16 (fet_le hx.le _ _) _ rfl (hR _) _ rfl _ _ rfl rfl hz
theorem wi_31 (W : Ways w G bb g x Y) (hx : Y.ok) (hr : ∀ i, 0 ≤ g.R i ∧ g.R i < 4294967296) (v : Nat) (hv : nxt Y.ws Y.iw = v) (hv32 : v < 4294967296) (hf : nxt Y.fa Y.jf = 0) (hd : de v = 0) (ho : v / 67108864 = 31) :
    Ans w G bb x (insS (g.st bb) Y).r (insS (g.st bb) Y).g (insB (g.st bb) Y) := by
  have hO : dO v = ((31 : Nat) : Int) := by unfold dO; rw [ho]
  have hR : ∀ i, 0 ≤ (g.put 0 0).R i ∧ (g.put 0 0).R i < 4294967296 := up_r hr 0 0 (by omega)
  have hA := ap_nat v hv32 hd 31 ho 30 (by omega)
  have X16 : v / 4194304 % 16 < 16 := by omega
  have Y16 : v / 262144 % 16 < 16 := by omega
  have Z16 : v / 16384 % 16 < 16 := by omega
  have hA' : dA v = v / 4194304 % 16 := by unfold dA; rw [hO]; rfl
  have hB : dB v = v / 262144 % 16 := by unfold dB; rw [hO]; rfl
  have hat : (tS g bb Y v).at' = (((g.put 0 0).R (v / 4194304 % 16) + dI v % 4294967296) % 4294967296) := by rw [tS_at, hA']
  have e0 : doS 31 (tS g bb Y v) (Y.fet g.pc) = stoS (tS g bb Y v) (Y.fet g.pc) := rfl
  have hbo : doB 31 (tS g bb Y v) (Y.fet g.pc) = (Y.fet g.pc).sto (((g.put 0 0).R (v / 4194304 % 16) + dI v % 4294967296) % 4294967296) 4 (((g.put 0 0).R (v / 262144 % 16))) := by
    show (Y.fet g.pc).sto (tS g bb Y v).at' 4 ((tS g bb Y v).vb) = _
    rw [hat, tS_vb, hB]
  by_cases hz : nxt (Y.fet g.pc).fa (Y.fet g.pc).jf = 0
  · have e : doS 31 (tS g bb Y v) (Y.fet g.pc) = (tS g bb Y v).more (nxt (Y.fet g.pc).cy (Y.fet g.pc).ic) := by rw [e0]; unfold stoS; rw [if_pos hz]
    refine ans_of v 31 hv hf hd ho { r1 (nxt Y.cy Y.ic) with cyc := wrap64 ((r1 (nxt Y.cy Y.ic)).cyc + nxt (Y.fet g.pc).cy (Y.fet g.pc).ic) } (g.put 0 0).on4 _ (by rw [e]; rfl) (by rw [e]; rfl) hbo ?_
    refine W.sto 30 (v / 4194304 % 16 : Nat) (v / 262144 % 16 : Nat) (v / 16384 % 16 : Nat) (dI v) v 0 _ hv hf rfl hA rfl (by omega) (by omega) _ (fun u => ((Y.fet g.pc).lvTo u).sto (((g.put 0 0).R (v / 4194304 % 16) + dI v % 4294967296) % 4294967296) 4 (((g.put 0 0).R (v / 262144 % 16)))) _ _ (fun _ _ => rfl) (fun _ _ => Iff.rfl) ?_
    intro V M u hro
    exact rstore_ok_30 V M _ _ _ hro rfl (v / 4194304 % 16) (v / 262144 % 16) rfl rfl X16 Y16 (fet_le hx.le _ _) _ rfl (hR _) _ rfl 0 _ hz rfl rfl
  · have e : doS 31 (tS g bb Y v) (Y.fet g.pc) = ((tS g bb Y v).more (nxt (Y.fet g.pc).cy (Y.fet g.pc).ic)).fault (nxt (Y.fet g.pc).fa (Y.fet g.pc).jf) (tS g bb Y v).at' := by rw [e0]; unfold stoS; rw [if_neg hz]
    refine ans_of v 31 hv hf hd ho { r1 (nxt Y.cy Y.ic) with cyc := wrap64 ((r1 (nxt Y.cy Y.ic)).cyc + nxt (Y.fet g.pc).cy (Y.fet g.pc).ic), kind := 3, flt := nxt (Y.fet g.pc).fa (Y.fet g.pc).jf, addr := (((g.put 0 0).R (v / 4194304 % 16) + dI v % 4294967296) % 4294967296) } (g.put 0 0) _ (by rw [e, hat]; rfl) (by rw [e]; rfl) hbo ?_
    refine W.sto 30 (v / 4194304 % 16 : Nat) (v / 262144 % 16 : Nat) (v / 16384 % 16 : Nat) (dI v) v 0 _ hv hf rfl hA rfl (by omega) (by omega) _ (fun u => ((Y.fet g.pc).lvTo u).sto (((g.put 0 0).R (v / 4194304 % 16) + dI v % 4294967296) % 4294967296) 4 (((g.put 0 0).R (v / 262144 % 16)))) _ _ (fun _ _ => rfl) (fun _ _ => Iff.rfl) ?_
    intro V M u hro
    exact rstore_bad_30 V M _ _ _ hro rfl (v / 4194304 % 16) (v / 262144 % 16) rfl rfl X16 Y16 (fet_le hx.le _ _) _ rfl (hR _) _ rfl _ _ rfl rfl hz
theorem wi_32 (W : Ways w G bb g x Y) (hx : Y.ok) (hr : ∀ i, 0 ≤ g.R i ∧ g.R i < 4294967296) (v : Nat) (hv : nxt Y.ws Y.iw = v) (hv32 : v < 4294967296) (hf : nxt Y.fa Y.jf = 0) (hd : de v = 0) (ho : v / 67108864 = 32) :
    Ans w G bb x (insS (g.st bb) Y).r (insS (g.st bb) Y).g (insB (g.st bb) Y) := by
  have hO : dO v = ((32 : Nat) : Int) := by unfold dO; rw [ho]
  have hR : ∀ i, 0 ≤ (g.put 0 0).R i ∧ (g.put 0 0).R i < 4294967296 := up_r hr 0 0 (by omega)
  have hA := ap_nat v hv32 hd 32 ho 31 (by omega)
  have X16 : v / 4194304 % 16 < 16 := by omega
  have Y16 : v / 262144 % 16 < 16 := by omega
  have Z16 : v / 16384 % 16 < 16 := by omega
  have hA' : dA v = v / 4194304 % 16 := by unfold dA; rw [hO]; rfl
  have hB : dB v = v / 262144 % 16 := by unfold dB; rw [hO]; rfl
  have e : doS 32 (tS g bb Y v) (Y.fet g.pc) = (tS g bb Y v).goIf ((((g.put 0 0).R (v / 4194304 % 16)) == ((g.put 0 0).R (v / 262144 % 16)))) := by
    show (tS g bb Y v).goIf (((tS g bb Y v).va == (tS g bb Y v).vb)) = _
    rw [tS_va, tS_vb, hA', hB]
  have hT : ∀ V, Calls Tryz.prog 21 #[.int .i64 31, .int .u32 ((g.put 0 0).R (v / 4194304 % 16)), .int .u32 ((g.put 0 0).R (v / 262144 % 16))] V fun e w' => e = .returned (.bool ((((g.put 0 0).R (v / 4194304 % 16)) == ((g.put 0 0).R (v / 262144 % 16))))) ∧ Kp V w' := fun V => taken_31 V _ _ (hR _) (hR _)
  cases hq : ((((g.put 0 0).R (v / 4194304 % 16)) == ((g.put 0 0).R (v / 262144 % 16)))) with
  | true =>
    rw [hq] at e hT
    exact ans_of v 32 hv hf hd ho _ _ _ (by rw [e]; rfl) (by rw [e]; rfl) rfl (W.bry 31 (dI v) (v / 4194304 % 16) (v / 262144 % 16) (v / 16384 % 16) v 0 _ hv hf rfl hA rfl (by omega) (by omega) X16 Y16 _ _ _ rfl rfl rfl hT)
  | false =>
    rw [hq] at e hT
    exact ans_of v 32 hv hf hd ho _ _ _ (by rw [e]; rfl) (by rw [e]; rfl) rfl (W.brn 31 (dI v) (v / 4194304 % 16) (v / 262144 % 16) (v / 16384 % 16) v 0 _ hv hf rfl hA rfl (by omega) (by omega) X16 Y16 _ _ _ rfl rfl rfl hT)
theorem wi_33 (W : Ways w G bb g x Y) (hx : Y.ok) (hr : ∀ i, 0 ≤ g.R i ∧ g.R i < 4294967296) (v : Nat) (hv : nxt Y.ws Y.iw = v) (hv32 : v < 4294967296) (hf : nxt Y.fa Y.jf = 0) (hd : de v = 0) (ho : v / 67108864 = 33) :
    Ans w G bb x (insS (g.st bb) Y).r (insS (g.st bb) Y).g (insB (g.st bb) Y) := by
  have hO : dO v = ((33 : Nat) : Int) := by unfold dO; rw [ho]
  have hR : ∀ i, 0 ≤ (g.put 0 0).R i ∧ (g.put 0 0).R i < 4294967296 := up_r hr 0 0 (by omega)
  have hA := ap_nat v hv32 hd 33 ho 32 (by omega)
  have X16 : v / 4194304 % 16 < 16 := by omega
  have Y16 : v / 262144 % 16 < 16 := by omega
  have Z16 : v / 16384 % 16 < 16 := by omega
  have hA' : dA v = v / 4194304 % 16 := by unfold dA; rw [hO]; rfl
  have hB : dB v = v / 262144 % 16 := by unfold dB; rw [hO]; rfl
  have e : doS 33 (tS g bb Y v) (Y.fet g.pc) = (tS g bb Y v).goIf ((!(((g.put 0 0).R (v / 4194304 % 16)) == ((g.put 0 0).R (v / 262144 % 16))))) := by
    show (tS g bb Y v).goIf ((!((tS g bb Y v).va == (tS g bb Y v).vb))) = _
    rw [tS_va, tS_vb, hA', hB]
  have hT : ∀ V, Calls Tryz.prog 21 #[.int .i64 32, .int .u32 ((g.put 0 0).R (v / 4194304 % 16)), .int .u32 ((g.put 0 0).R (v / 262144 % 16))] V fun e w' => e = .returned (.bool ((!(((g.put 0 0).R (v / 4194304 % 16)) == ((g.put 0 0).R (v / 262144 % 16)))))) ∧ Kp V w' := fun V => taken_32 V _ _ (hR _) (hR _)
  cases hq : ((!(((g.put 0 0).R (v / 4194304 % 16)) == ((g.put 0 0).R (v / 262144 % 16))))) with
  | true =>
    rw [hq] at e hT
    exact ans_of v 33 hv hf hd ho _ _ _ (by rw [e]; rfl) (by rw [e]; rfl) rfl (W.bry 32 (dI v) (v / 4194304 % 16) (v / 262144 % 16) (v / 16384 % 16) v 0 _ hv hf rfl hA rfl (by omega) (by omega) X16 Y16 _ _ _ rfl rfl rfl hT)
  | false =>
    rw [hq] at e hT
    exact ans_of v 33 hv hf hd ho _ _ _ (by rw [e]; rfl) (by rw [e]; rfl) rfl (W.brn 32 (dI v) (v / 4194304 % 16) (v / 262144 % 16) (v / 16384 % 16) v 0 _ hv hf rfl hA rfl (by omega) (by omega) X16 Y16 _ _ _ rfl rfl rfl hT)
theorem wi_34 (W : Ways w G bb g x Y) (hx : Y.ok) (hr : ∀ i, 0 ≤ g.R i ∧ g.R i < 4294967296) (v : Nat) (hv : nxt Y.ws Y.iw = v) (hv32 : v < 4294967296) (hf : nxt Y.fa Y.jf = 0) (hd : de v = 0) (ho : v / 67108864 = 34) :
    Ans w G bb x (insS (g.st bb) Y).r (insS (g.st bb) Y).g (insB (g.st bb) Y) := by
  have hO : dO v = ((34 : Nat) : Int) := by unfold dO; rw [ho]
  have hR : ∀ i, 0 ≤ (g.put 0 0).R i ∧ (g.put 0 0).R i < 4294967296 := up_r hr 0 0 (by omega)
  have hA := ap_nat v hv32 hd 34 ho 33 (by omega)
  have X16 : v / 4194304 % 16 < 16 := by omega
  have Y16 : v / 262144 % 16 < 16 := by omega
  have Z16 : v / 16384 % 16 < 16 := by omega
  have hA' : dA v = v / 4194304 % 16 := by unfold dA; rw [hO]; rfl
  have hB : dB v = v / 262144 % 16 := by unfold dB; rw [hO]; rfl
  have e : doS 34 (tS g bb Y v) (Y.fet g.pc) = (tS g bb Y v).goIf (decide (wrap32 ((g.put 0 0).R (v / 4194304 % 16)) < wrap32 ((g.put 0 0).R (v / 262144 % 16)))) := by
    show (tS g bb Y v).goIf (decide (wrap32 (tS g bb Y v).va < wrap32 (tS g bb Y v).vb)) = _
    rw [tS_va, tS_vb, hA', hB]
  have hT : ∀ V, Calls Tryz.prog 21 #[.int .i64 33, .int .u32 ((g.put 0 0).R (v / 4194304 % 16)), .int .u32 ((g.put 0 0).R (v / 262144 % 16))] V fun e w' => e = .returned (.bool (decide (wrap32 ((g.put 0 0).R (v / 4194304 % 16)) < wrap32 ((g.put 0 0).R (v / 262144 % 16))))) ∧ Kp V w' := fun V => taken_33 V _ _ (hR _) (hR _)
  cases hq : (decide (wrap32 ((g.put 0 0).R (v / 4194304 % 16)) < wrap32 ((g.put 0 0).R (v / 262144 % 16)))) with
  | true =>
    rw [hq] at e hT
    exact ans_of v 34 hv hf hd ho _ _ _ (by rw [e]; rfl) (by rw [e]; rfl) rfl (W.bry 33 (dI v) (v / 4194304 % 16) (v / 262144 % 16) (v / 16384 % 16) v 0 _ hv hf rfl hA rfl (by omega) (by omega) X16 Y16 _ _ _ rfl rfl rfl hT)
  | false =>
    rw [hq] at e hT
    exact ans_of v 34 hv hf hd ho _ _ _ (by rw [e]; rfl) (by rw [e]; rfl) rfl (W.brn 33 (dI v) (v / 4194304 % 16) (v / 262144 % 16) (v / 16384 % 16) v 0 _ hv hf rfl hA rfl (by omega) (by omega) X16 Y16 _ _ _ rfl rfl rfl hT)
theorem wi_35 (W : Ways w G bb g x Y) (hx : Y.ok) (hr : ∀ i, 0 ≤ g.R i ∧ g.R i < 4294967296) (v : Nat) (hv : nxt Y.ws Y.iw = v) (hv32 : v < 4294967296) (hf : nxt Y.fa Y.jf = 0) (hd : de v = 0) (ho : v / 67108864 = 35) :
    Ans w G bb x (insS (g.st bb) Y).r (insS (g.st bb) Y).g (insB (g.st bb) Y) := by
  have hO : dO v = ((35 : Nat) : Int) := by unfold dO; rw [ho]
  have hR : ∀ i, 0 ≤ (g.put 0 0).R i ∧ (g.put 0 0).R i < 4294967296 := up_r hr 0 0 (by omega)
  have hA := ap_nat v hv32 hd 35 ho 34 (by omega)
  have X16 : v / 4194304 % 16 < 16 := by omega
  have Y16 : v / 262144 % 16 < 16 := by omega
  have Z16 : v / 16384 % 16 < 16 := by omega
  have hA' : dA v = v / 4194304 % 16 := by unfold dA; rw [hO]; rfl
  have hB : dB v = v / 262144 % 16 := by unfold dB; rw [hO]; rfl
  have e : doS 35 (tS g bb Y v) (Y.fet g.pc) = (tS g bb Y v).goIf ((!decide (wrap32 ((g.put 0 0).R (v / 4194304 % 16)) < wrap32 ((g.put 0 0).R (v / 262144 % 16))))) := by
    show (tS g bb Y v).goIf ((!decide (wrap32 (tS g bb Y v).va < wrap32 (tS g bb Y v).vb))) = _
    rw [tS_va, tS_vb, hA', hB]
  have hT : ∀ V, Calls Tryz.prog 21 #[.int .i64 34, .int .u32 ((g.put 0 0).R (v / 4194304 % 16)), .int .u32 ((g.put 0 0).R (v / 262144 % 16))] V fun e w' => e = .returned (.bool ((!decide (wrap32 ((g.put 0 0).R (v / 4194304 % 16)) < wrap32 ((g.put 0 0).R (v / 262144 % 16)))))) ∧ Kp V w' := fun V => taken_34 V _ _ (hR _) (hR _)
  cases hq : ((!decide (wrap32 ((g.put 0 0).R (v / 4194304 % 16)) < wrap32 ((g.put 0 0).R (v / 262144 % 16))))) with
  | true =>
    rw [hq] at e hT
    exact ans_of v 35 hv hf hd ho _ _ _ (by rw [e]; rfl) (by rw [e]; rfl) rfl (W.bry 34 (dI v) (v / 4194304 % 16) (v / 262144 % 16) (v / 16384 % 16) v 0 _ hv hf rfl hA rfl (by omega) (by omega) X16 Y16 _ _ _ rfl rfl rfl hT)
  | false =>
    rw [hq] at e hT
    exact ans_of v 35 hv hf hd ho _ _ _ (by rw [e]; rfl) (by rw [e]; rfl) rfl (W.brn 34 (dI v) (v / 4194304 % 16) (v / 262144 % 16) (v / 16384 % 16) v 0 _ hv hf rfl hA rfl (by omega) (by omega) X16 Y16 _ _ _ rfl rfl rfl hT)
theorem wi_36 (W : Ways w G bb g x Y) (hx : Y.ok) (hr : ∀ i, 0 ≤ g.R i ∧ g.R i < 4294967296) (v : Nat) (hv : nxt Y.ws Y.iw = v) (hv32 : v < 4294967296) (hf : nxt Y.fa Y.jf = 0) (hd : de v = 0) (ho : v / 67108864 = 36) :
    Ans w G bb x (insS (g.st bb) Y).r (insS (g.st bb) Y).g (insB (g.st bb) Y) := by
  have hO : dO v = ((36 : Nat) : Int) := by unfold dO; rw [ho]
  have hR : ∀ i, 0 ≤ (g.put 0 0).R i ∧ (g.put 0 0).R i < 4294967296 := up_r hr 0 0 (by omega)
  have hA := ap_nat v hv32 hd 36 ho 35 (by omega)
  have X16 : v / 4194304 % 16 < 16 := by omega
  have Y16 : v / 262144 % 16 < 16 := by omega
  have Z16 : v / 16384 % 16 < 16 := by omega
  have hA' : dA v = v / 4194304 % 16 := by unfold dA; rw [hO]; rfl
  have hB : dB v = v / 262144 % 16 := by unfold dB; rw [hO]; rfl
  have e : doS 36 (tS g bb Y v) (Y.fet g.pc) = (tS g bb Y v).goIf (decide (((g.put 0 0).R (v / 4194304 % 16)) < ((g.put 0 0).R (v / 262144 % 16)))) := by
    show (tS g bb Y v).goIf (decide ((tS g bb Y v).va < (tS g bb Y v).vb)) = _
    rw [tS_va, tS_vb, hA', hB]
  have hT : ∀ V, Calls Tryz.prog 21 #[.int .i64 35, .int .u32 ((g.put 0 0).R (v / 4194304 % 16)), .int .u32 ((g.put 0 0).R (v / 262144 % 16))] V fun e w' => e = .returned (.bool (decide (((g.put 0 0).R (v / 4194304 % 16)) < ((g.put 0 0).R (v / 262144 % 16))))) ∧ Kp V w' := fun V => taken_35 V _ _ (hR _) (hR _)
  cases hq : (decide (((g.put 0 0).R (v / 4194304 % 16)) < ((g.put 0 0).R (v / 262144 % 16)))) with
  | true =>
    rw [hq] at e hT
    exact ans_of v 36 hv hf hd ho _ _ _ (by rw [e]; rfl) (by rw [e]; rfl) rfl (W.bry 35 (dI v) (v / 4194304 % 16) (v / 262144 % 16) (v / 16384 % 16) v 0 _ hv hf rfl hA rfl (by omega) (by omega) X16 Y16 _ _ _ rfl rfl rfl hT)
  | false =>
    rw [hq] at e hT
    exact ans_of v 36 hv hf hd ho _ _ _ (by rw [e]; rfl) (by rw [e]; rfl) rfl (W.brn 35 (dI v) (v / 4194304 % 16) (v / 262144 % 16) (v / 16384 % 16) v 0 _ hv hf rfl hA rfl (by omega) (by omega) X16 Y16 _ _ _ rfl rfl rfl hT)
theorem wi_37 (W : Ways w G bb g x Y) (hx : Y.ok) (hr : ∀ i, 0 ≤ g.R i ∧ g.R i < 4294967296) (v : Nat) (hv : nxt Y.ws Y.iw = v) (hv32 : v < 4294967296) (hf : nxt Y.fa Y.jf = 0) (hd : de v = 0) (ho : v / 67108864 = 37) :
    Ans w G bb x (insS (g.st bb) Y).r (insS (g.st bb) Y).g (insB (g.st bb) Y) := by
  have hO : dO v = ((37 : Nat) : Int) := by unfold dO; rw [ho]
  have hR : ∀ i, 0 ≤ (g.put 0 0).R i ∧ (g.put 0 0).R i < 4294967296 := up_r hr 0 0 (by omega)
  have hA := ap_nat v hv32 hd 37 ho 36 (by omega)
  have X16 : v / 4194304 % 16 < 16 := by omega
  have Y16 : v / 262144 % 16 < 16 := by omega
  have Z16 : v / 16384 % 16 < 16 := by omega
  have hA' : dA v = v / 4194304 % 16 := by unfold dA; rw [hO]; rfl
  have hB : dB v = v / 262144 % 16 := by unfold dB; rw [hO]; rfl
  have e : doS 37 (tS g bb Y v) (Y.fet g.pc) = (tS g bb Y v).goIf (decide (((g.put 0 0).R (v / 262144 % 16)) ≤ ((g.put 0 0).R (v / 4194304 % 16)))) := by
    show (tS g bb Y v).goIf (decide ((tS g bb Y v).vb ≤ (tS g bb Y v).va)) = _
    rw [tS_va, tS_vb, hA', hB]
  have hT : ∀ V, Calls Tryz.prog 21 #[.int .i64 36, .int .u32 ((g.put 0 0).R (v / 4194304 % 16)), .int .u32 ((g.put 0 0).R (v / 262144 % 16))] V fun e w' => e = .returned (.bool (decide (((g.put 0 0).R (v / 262144 % 16)) ≤ ((g.put 0 0).R (v / 4194304 % 16))))) ∧ Kp V w' := fun V => taken_36 V _ _ (hR _) (hR _)
  cases hq : (decide (((g.put 0 0).R (v / 262144 % 16)) ≤ ((g.put 0 0).R (v / 4194304 % 16)))) with
  | true =>
    rw [hq] at e hT
    exact ans_of v 37 hv hf hd ho _ _ _ (by rw [e]; rfl) (by rw [e]; rfl) rfl (W.bry 36 (dI v) (v / 4194304 % 16) (v / 262144 % 16) (v / 16384 % 16) v 0 _ hv hf rfl hA rfl (by omega) (by omega) X16 Y16 _ _ _ rfl rfl rfl hT)
  | false =>
    rw [hq] at e hT
    exact ans_of v 37 hv hf hd ho _ _ _ (by rw [e]; rfl) (by rw [e]; rfl) rfl (W.brn 36 (dI v) (v / 4194304 % 16) (v / 262144 % 16) (v / 16384 % 16) v 0 _ hv hf rfl hA rfl (by omega) (by omega) X16 Y16 _ _ _ rfl rfl rfl hT)
theorem wi_38 (W : Ways w G bb g x Y) (hx : Y.ok) (hr : ∀ i, 0 ≤ g.R i ∧ g.R i < 4294967296) (v : Nat) (hv : nxt Y.ws Y.iw = v) (hv32 : v < 4294967296) (hf : nxt Y.fa Y.jf = 0) (hd : de v = 0) (ho : v / 67108864 = 38) :
    Ans w G bb x (insS (g.st bb) Y).r (insS (g.st bb) Y).g (insB (g.st bb) Y) := by
  have hO : dO v = ((38 : Nat) : Int) := by unfold dO; rw [ho]
  have hR : ∀ i, 0 ≤ (g.put 0 0).R i ∧ (g.put 0 0).R i < 4294967296 := up_r hr 0 0 (by omega)
  have hA := ap_nat v hv32 hd 38 ho 37 (by omega)
  have X16 : v / 4194304 % 16 < 16 := by omega
  have Y16 : v / 262144 % 16 < 16 := by omega
  have Z16 : v / 16384 % 16 < 16 := by omega
  have hD : dD v = v / 4194304 % 16 := by unfold dD; rw [hO]; rfl
  obtain ⟨e1, e2⟩ := set_end (tS g bb Y v) ((g.pc + 4) % 4294967296) (v / 4194304 % 16) hD
  have e : doS 38 (tS g bb Y v) (Y.fet g.pc) = ((tS g bb Y v).setD ((g.pc + 4) % 4294967296)).to ((g.pc + 4 * (dI v % 4294967296) % 4294967296) % 4294967296) := by
    show ((tS g bb Y v).setD (tS g bb Y v).nx).to (tS g bb Y v).tgt = _
    rw [tS_nx, tS_tgt]
  have e3 : (((tS g bb Y v).setD ((g.pc + 4) % 4294967296)).to ((g.pc + 4 * (dI v % 4294967296) % 4294967296) % 4294967296)).pcTo.r = (r1 (nxt Y.cy Y.ic)) := e1
  have e4 : (((tS g bb Y v).setD ((g.pc + 4) % 4294967296)).to ((g.pc + 4 * (dI v % 4294967296) % 4294967296) % 4294967296)).pcTo.g = ((g.put 0 0).dset (v / 4194304 % 16) ((g.pc + 4) % 4294967296)).pcTo ((g.pc + 4 * (dI v % 4294967296) % 4294967296) % 4294967296) := by
    unfold St.setD Rg.dset
    rw [tS_d, hD]
    split <;> rfl
  refine ans_of v 38 hv hf hd ho (r1 (nxt Y.cy Y.ic)) (((g.put 0 0).dset (v / 4194304 % 16) ((g.pc + 4) % 4294967296)).pcTo ((g.pc + 4 * (dI v % 4294967296) % 4294967296) % 4294967296)) (Y.fet g.pc) (by rw [e, e3]) (by rw [e, e4]) (rfl) ?_
  refine W.rst 37 (v / 4194304 % 16 : Nat) (v / 262144 % 16 : Nat) (v / 16384 % 16 : Nat) (dI v) v 0 _ hv hf rfl hA rfl (by omega) (by omega) _ (fun u => ((Y.fet g.pc).lvTo u)) _ _ (fun _ _ => rfl) (fun _ _ => Iff.rfl) ?_
  intro V M u hro
  exact rest_jal V M _ _ _ hro rfl (v / 4194304 % 16) rfl X16 _ (show (g.pc + 4 * (dI v % 4294967296)) % 4294967296 = ((g.pc + 4 * (dI v % 4294967296) % 4294967296) % 4294967296) by omega)
theorem wi_39 (W : Ways w G bb g x Y) (hx : Y.ok) (hr : ∀ i, 0 ≤ g.R i ∧ g.R i < 4294967296) (v : Nat) (hv : nxt Y.ws Y.iw = v) (hv32 : v < 4294967296) (hf : nxt Y.fa Y.jf = 0) (hd : de v = 0) (ho : v / 67108864 = 39) :
    Ans w G bb x (insS (g.st bb) Y).r (insS (g.st bb) Y).g (insB (g.st bb) Y) := by
  have hO : dO v = ((39 : Nat) : Int) := by unfold dO; rw [ho]
  have hR : ∀ i, 0 ≤ (g.put 0 0).R i ∧ (g.put 0 0).R i < 4294967296 := up_r hr 0 0 (by omega)
  have hA := ap_nat v hv32 hd 39 ho 38 (by omega)
  have X16 : v / 4194304 % 16 < 16 := by omega
  have Y16 : v / 262144 % 16 < 16 := by omega
  have Z16 : v / 16384 % 16 < 16 := by omega
  have hD : dD v = v / 4194304 % 16 := by unfold dD; rw [hO]; rfl
  have hA' : dA v = v / 262144 % 16 := by unfold dA; rw [hO]; rfl
  obtain ⟨e1, e2⟩ := set_end (tS g bb Y v) ((g.pc + 4) % 4294967296) (v / 4194304 % 16) hD
  have e : doS 39 (tS g bb Y v) (Y.fet g.pc) = ((tS g bb Y v).setD ((g.pc + 4) % 4294967296)).to (((g.put 0 0).R (v / 262144 % 16) + dI v % 4294967296) % 4294967296) := by
    show ((tS g bb Y v).setD (tS g bb Y v).nx).to (((tS g bb Y v).va + (tS g bb Y v).vn) % 4294967296) = _
    rw [tS_nx, tS_va, tS_vn, hA']
  have e3 : (((tS g bb Y v).setD ((g.pc + 4) % 4294967296)).to (((g.put 0 0).R (v / 262144 % 16) + dI v % 4294967296) % 4294967296)).pcTo.r = (r1 (nxt Y.cy Y.ic)) := e1
  have e4 : (((tS g bb Y v).setD ((g.pc + 4) % 4294967296)).to (((g.put 0 0).R (v / 262144 % 16) + dI v % 4294967296) % 4294967296)).pcTo.g = ((g.put 0 0).dset (v / 4194304 % 16) ((g.pc + 4) % 4294967296)).pcTo (((g.put 0 0).R (v / 262144 % 16) + dI v % 4294967296) % 4294967296) := by
    unfold St.setD Rg.dset
    rw [tS_d, hD]
    split <;> rfl
  refine ans_of v 39 hv hf hd ho (r1 (nxt Y.cy Y.ic)) (((g.put 0 0).dset (v / 4194304 % 16) ((g.pc + 4) % 4294967296)).pcTo (((g.put 0 0).R (v / 262144 % 16) + dI v % 4294967296) % 4294967296)) (Y.fet g.pc) (by rw [e, e3]) (by rw [e, e4]) (rfl) ?_
  refine W.rst 38 (v / 4194304 % 16 : Nat) (v / 262144 % 16 : Nat) (v / 16384 % 16 : Nat) (dI v) v 0 _ hv hf rfl hA rfl (by omega) (by omega) _ (fun u => ((Y.fet g.pc).lvTo u)) _ _ (fun _ _ => rfl) (fun _ _ => Iff.rfl) ?_
  intro V M u hro
  exact rest_jalr V M _ _ _ hro rfl (v / 4194304 % 16) (v / 262144 % 16) rfl X16 rfl Y16 _ rfl
theorem wi_40 (W : Ways w G bb g x Y) (hx : Y.ok) (hr : ∀ i, 0 ≤ g.R i ∧ g.R i < 4294967296) (v : Nat) (hv : nxt Y.ws Y.iw = v) (hv32 : v < 4294967296) (hf : nxt Y.fa Y.jf = 0) (hd : de v = 0) (ho : v / 67108864 = 40) :
    Ans w G bb x (insS (g.st bb) Y).r (insS (g.st bb) Y).g (insB (g.st bb) Y) := by
  have hO : dO v = ((40 : Nat) : Int) := by unfold dO; rw [ho]
  have hR : ∀ i, 0 ≤ (g.put 0 0).R i ∧ (g.put 0 0).R i < 4294967296 := up_r hr 0 0 (by omega)
  have hA := ap_nat v hv32 hd 40 ho 39 (by omega)
  have X16 : v / 4194304 % 16 < 16 := by omega
  have Y16 : v / 262144 % 16 < 16 := by omega
  have Z16 : v / 16384 % 16 < 16 := by omega
  refine ans_of v 40 hv hf hd ho { (r1 (nxt Y.cy Y.ic)) with kind := 2, num := dI v % 4294967296 } (g.put 0 0).on4 (Y.fet g.pc) (rfl) (rfl) (rfl) ?_
  refine W.rst 39 (v / 4194304 % 16 : Nat) (v / 262144 % 16 : Nat) (v / 16384 % 16 : Nat) (dI v) v 0 _ hv hf rfl hA rfl (by omega) (by omega) _ (fun u => ((Y.fet g.pc).lvTo u)) _ _ (fun _ _ => rfl) (fun _ _ => Iff.rfl) ?_
  intro V M u hro
  exact rest_hcall V M _ _ _ hro rfl
theorem wi_41 (W : Ways w G bb g x Y) (hx : Y.ok) (hr : ∀ i, 0 ≤ g.R i ∧ g.R i < 4294967296) (v : Nat) (hv : nxt Y.ws Y.iw = v) (hv32 : v < 4294967296) (hf : nxt Y.fa Y.jf = 0) (hd : de v = 0) (ho : v / 67108864 = 41) :
    Ans w G bb x (insS (g.st bb) Y).r (insS (g.st bb) Y).g (insB (g.st bb) Y) := by
  have hO : dO v = ((41 : Nat) : Int) := by unfold dO; rw [ho]
  have hR : ∀ i, 0 ≤ (g.put 0 0).R i ∧ (g.put 0 0).R i < 4294967296 := up_r hr 0 0 (by omega)
  have hA := ap_nat v hv32 hd 41 ho 40 (by omega)
  have X16 : v / 4194304 % 16 < 16 := by omega
  have Y16 : v / 262144 % 16 < 16 := by omega
  have Z16 : v / 16384 % 16 < 16 := by omega
  have hD : dD v = v / 4194304 % 16 := by unfold dD; rw [hO]; rfl
  have e : doS 41 (tS g bb Y v) (Y.fet g.pc) = ((tS g bb Y v).clkd Y.tm).setD (Y.tm % 4294967296) := rfl
  obtain ⟨e1, e2⟩ := set_end ((tS g bb Y v).clkd Y.tm) (Y.tm % 4294967296) (v / 4194304 % 16) hD
  refine ans_of v 41 hv hf hd ho { (r1 (nxt Y.cy Y.ic)) with rd := true, clk := Y.tm } (((g.put 0 0).dset (v / 4194304 % 16) (Y.tm % 4294967296)).pcTo ((g.pc + 4) % 4294967296)) (Y.fet g.pc).clo (by rw [e, e1]; rfl) (by rw [e, e2]; rfl) (rfl) ?_
  refine W.rst 40 (v / 4194304 % 16 : Nat) (v / 262144 % 16 : Nat) (v / 16384 % 16 : Nat) (dI v) v 0 _ hv hf rfl hA rfl (by omega) (by omega) _ (fun u => ((Y.fet g.pc).lvTo u).clo) _ _ (fun _ _ => rfl) (fun _ _ => Iff.rfl) ?_
  intro V M u hro
  exact rest_time V M _ _ _ hro rfl (v / 4194304 % 16) rfl X16 (fet_le hx.le _ _) Y.tm rfl hx.tm _ rfl
theorem wi_42 (W : Ways w G bb g x Y) (hx : Y.ok) (hr : ∀ i, 0 ≤ g.R i ∧ g.R i < 4294967296) (v : Nat) (hv : nxt Y.ws Y.iw = v) (hv32 : v < 4294967296) (hf : nxt Y.fa Y.jf = 0) (hd : de v = 0) (ho : v / 67108864 = 42) :
    Ans w G bb x (insS (g.st bb) Y).r (insS (g.st bb) Y).g (insB (g.st bb) Y) := by
  have hO : dO v = ((42 : Nat) : Int) := by unfold dO; rw [ho]
  have hR : ∀ i, 0 ≤ (g.put 0 0).R i ∧ (g.put 0 0).R i < 4294967296 := up_r hr 0 0 (by omega)
  have hA := ap_nat v hv32 hd 42 ho 41 (by omega)
  have X16 : v / 4194304 % 16 < 16 := by omega
  have Y16 : v / 262144 % 16 < 16 := by omega
  have Z16 : v / 16384 % 16 < 16 := by omega
  refine ans_of v 42 hv hf hd ho { (r1 (nxt Y.cy Y.ic)) with kind := 5 } (g.put 0 0).on4 (Y.fet g.pc) (rfl) (rfl) (rfl) ?_
  refine W.rst 41 (v / 4194304 % 16 : Nat) (v / 262144 % 16 : Nat) (v / 16384 % 16 : Nat) (dI v) v 0 _ hv hf rfl hA rfl (by omega) (by omega) _ (fun u => ((Y.fet g.pc).lvTo u)) _ _ (fun _ _ => rfl) (fun _ _ => Iff.rfl) ?_
  intro V M u hro
  exact rest_wait V M _ _ _ hro rfl
theorem wi_43 (W : Ways w G bb g x Y) (hx : Y.ok) (hr : ∀ i, 0 ≤ g.R i ∧ g.R i < 4294967296) (v : Nat) (hv : nxt Y.ws Y.iw = v) (hv32 : v < 4294967296) (hf : nxt Y.fa Y.jf = 0) (hd : de v = 0) (ho : v / 67108864 = 43) :
    Ans w G bb x (insS (g.st bb) Y).r (insS (g.st bb) Y).g (insB (g.st bb) Y) := by
  have hO : dO v = ((43 : Nat) : Int) := by unfold dO; rw [ho]
  have hR : ∀ i, 0 ≤ (g.put 0 0).R i ∧ (g.put 0 0).R i < 4294967296 := up_r hr 0 0 (by omega)
  have hA := ap_nat v hv32 hd 43 ho 42 (by omega)
  have X16 : v / 4194304 % 16 < 16 := by omega
  have Y16 : v / 262144 % 16 < 16 := by omega
  have Z16 : v / 16384 % 16 < 16 := by omega
  refine ans_of v 43 hv hf hd ho (r1 (nxt Y.cy Y.ic)) ({ (g.put 0 0) with on := true } : Rg).on4 (Y.fet g.pc) (rfl) (rfl) (rfl) ?_
  refine W.rst 42 (v / 4194304 % 16 : Nat) (v / 262144 % 16 : Nat) (v / 16384 % 16 : Nat) (dI v) v 0 _ hv hf rfl hA rfl (by omega) (by omega) _ (fun u => ((Y.fet g.pc).lvTo u)) _ _ (fun _ _ => rfl) (fun _ _ => Iff.rfl) ?_
  intro V M u hro
  exact rest_ion V M _ _ _ hro rfl
theorem wi_44 (W : Ways w G bb g x Y) (hx : Y.ok) (hr : ∀ i, 0 ≤ g.R i ∧ g.R i < 4294967296) (v : Nat) (hv : nxt Y.ws Y.iw = v) (hv32 : v < 4294967296) (hf : nxt Y.fa Y.jf = 0) (hd : de v = 0) (ho : v / 67108864 = 44) :
    Ans w G bb x (insS (g.st bb) Y).r (insS (g.st bb) Y).g (insB (g.st bb) Y) := by
  have hO : dO v = ((44 : Nat) : Int) := by unfold dO; rw [ho]
  have hR : ∀ i, 0 ≤ (g.put 0 0).R i ∧ (g.put 0 0).R i < 4294967296 := up_r hr 0 0 (by omega)
  have hA := ap_nat v hv32 hd 44 ho 43 (by omega)
  have X16 : v / 4194304 % 16 < 16 := by omega
  have Y16 : v / 262144 % 16 < 16 := by omega
  have Z16 : v / 16384 % 16 < 16 := by omega
  refine ans_of v 44 hv hf hd ho (r1 (nxt Y.cy Y.ic)) ({ (g.put 0 0) with on := false } : Rg).on4 (Y.fet g.pc) (rfl) (rfl) (rfl) ?_
  refine W.rst 43 (v / 4194304 % 16 : Nat) (v / 262144 % 16 : Nat) (v / 16384 % 16 : Nat) (dI v) v 0 _ hv hf rfl hA rfl (by omega) (by omega) _ (fun u => ((Y.fet g.pc).lvTo u)) _ _ (fun _ _ => rfl) (fun _ _ => Iff.rfl) ?_
  intro V M u hro
  exact rest_ioff V M _ _ _ hro rfl
theorem wi_45 (W : Ways w G bb g x Y) (hx : Y.ok) (hr : ∀ i, 0 ≤ g.R i ∧ g.R i < 4294967296) (v : Nat) (hv : nxt Y.ws Y.iw = v) (hv32 : v < 4294967296) (hf : nxt Y.fa Y.jf = 0) (hd : de v = 0) (ho : v / 67108864 = 45) :
    Ans w G bb x (insS (g.st bb) Y).r (insS (g.st bb) Y).g (insB (g.st bb) Y) := by
  have hO : dO v = ((45 : Nat) : Int) := by unfold dO; rw [ho]
  have hR : ∀ i, 0 ≤ (g.put 0 0).R i ∧ (g.put 0 0).R i < 4294967296 := up_r hr 0 0 (by omega)
  have hA := ap_nat v hv32 hd 45 ho 44 (by omega)
  have X16 : v / 4194304 % 16 < 16 := by omega
  have Y16 : v / 262144 % 16 < 16 := by omega
  have Z16 : v / 16384 % 16 < 16 := by omega
  have e0 : doS 45 (tS g bb Y v) (Y.fet g.pc) = if g.hd = true then { (tS g bb Y v) with nx := g.back, g := { (tS g bb Y v).g with hd := false } } else (tS g bb Y v).fault 6 g.pc := rfl
  cases hh : g.hd with
  | true =>
    have e : doS 45 (tS g bb Y v) (Y.fet g.pc) = { (tS g bb Y v) with nx := g.back, g := { (tS g bb Y v).g with hd := false } } := by rw [e0, if_pos hh]
    refine ans_of v 45 hv hf hd ho (r1 (nxt Y.cy Y.ic)) ({ (g.put 0 0) with hd := false, pc := g.back } : Rg) (Y.fet g.pc) (by rw [e]; rfl) (by rw [e]; rfl) (rfl) ?_
    refine W.rst 44 (v / 4194304 % 16 : Nat) (v / 262144 % 16 : Nat) (v / 16384 % 16 : Nat) (dI v) v 0 _ hv hf rfl hA rfl (by omega) (by omega) _ (fun u => ((Y.fet g.pc).lvTo u)) _ _ (fun _ _ => rfl) (fun _ _ => Iff.rfl) ?_
    intro V M u hro
    exact rest_back V M _ _ _ hro rfl hh
  | false =>
    have e : doS 45 (tS g bb Y v) (Y.fet g.pc) = (tS g bb Y v).fault 6 g.pc := by rw [e0, if_neg (by rw [hh]; decide)]
    refine ans_of v 45 hv hf hd ho { (r1 (nxt Y.cy Y.ic)) with kind := 3, flt := 6, addr := g.pc } (g.put 0 0) (Y.fet g.pc) (by rw [e]; rfl) (by rw [e]; rfl) (rfl) ?_
    refine W.rst 44 (v / 4194304 % 16 : Nat) (v / 262144 % 16 : Nat) (v / 16384 % 16 : Nat) (dI v) v 0 _ hv hf rfl hA rfl (by omega) (by omega) _ (fun u => ((Y.fet g.pc).lvTo u)) _ _ (fun _ _ => rfl) (fun _ _ => Iff.rfl) ?_
    intro V M u hro
    exact rest_noback V M _ _ _ hro rfl hh
theorem wi_46 (W : Ways w G bb g x Y) (hx : Y.ok) (hr : ∀ i, 0 ≤ g.R i ∧ g.R i < 4294967296) (v : Nat) (hv : nxt Y.ws Y.iw = v) (hv32 : v < 4294967296) (hf : nxt Y.fa Y.jf = 0) (hd : de v = 0) (ho : v / 67108864 = 46) :
    Ans w G bb x (insS (g.st bb) Y).r (insS (g.st bb) Y).g (insB (g.st bb) Y) := by
  have hO : dO v = ((46 : Nat) : Int) := by unfold dO; rw [ho]
  have hR : ∀ i, 0 ≤ (g.put 0 0).R i ∧ (g.put 0 0).R i < 4294967296 := up_r hr 0 0 (by omega)
  have hA := ap_nat v hv32 hd 46 ho 45 (by omega)
  have X16 : v / 4194304 % 16 < 16 := by omega
  have Y16 : v / 262144 % 16 < 16 := by omega
  have Z16 : v / 16384 % 16 < 16 := by omega
  have hA' : dA v = v / 4194304 % 16 := by unfold dA; rw [hO]; rfl
  have e : doS 46 (tS g bb Y v) (Y.fet g.pc) = { (tS g bb Y v) with g := { (tS g bb Y v).g with vec := (g.put 0 0).R (v / 4194304 % 16) } } := by
    show ({ (tS g bb Y v) with g := { (tS g bb Y v).g with vec := (tS g bb Y v).va } } : St) = _
    rw [tS_va, hA']
  refine ans_of v 46 hv hf hd ho (r1 (nxt Y.cy Y.ic)) (({ (g.put 0 0) with vec := (g.put 0 0).R (v / 4194304 % 16) } : Rg).pcTo ((g.pc + 4) % 4294967296)) (Y.fet g.pc) (by rw [e]; rfl) (by rw [e]; rfl) (rfl) ?_
  refine W.rst 45 (v / 4194304 % 16 : Nat) (v / 262144 % 16 : Nat) (v / 16384 % 16 : Nat) (dI v) v 0 _ hv hf rfl hA rfl (by omega) (by omega) _ (fun u => ((Y.fet g.pc).lvTo u)) _ _ (fun _ _ => rfl) (fun _ _ => Iff.rfl) ?_
  intro V M u hro
  exact rest_vec V M _ _ _ hro rfl (v / 4194304 % 16) rfl X16
theorem wi_47 (W : Ways w G bb g x Y) (hx : Y.ok) (hr : ∀ i, 0 ≤ g.R i ∧ g.R i < 4294967296) (v : Nat) (hv : nxt Y.ws Y.iw = v) (hv32 : v < 4294967296) (hf : nxt Y.fa Y.jf = 0) (hd : de v = 0) (ho : v / 67108864 = 47) :
    Ans w G bb x (insS (g.st bb) Y).r (insS (g.st bb) Y).g (insB (g.st bb) Y) := by
  have hO : dO v = ((47 : Nat) : Int) := by unfold dO; rw [ho]
  have hR : ∀ i, 0 ≤ (g.put 0 0).R i ∧ (g.put 0 0).R i < 4294967296 := up_r hr 0 0 (by omega)
  have hA := ap_nat v hv32 hd 47 ho 46 (by omega)
  have X16 : v / 4194304 % 16 < 16 := by omega
  have Y16 : v / 262144 % 16 < 16 := by omega
  have Z16 : v / 16384 % 16 < 16 := by omega
  refine ans_of v 47 hv hf hd ho { (r1 (nxt Y.cy Y.ic)) with kind := 4 } (g.put 0 0) (Y.fet g.pc) (rfl) (rfl) (rfl) ?_
  refine W.rst 46 (v / 4194304 % 16 : Nat) (v / 262144 % 16 : Nat) (v / 16384 % 16 : Nat) (dI v) v 0 _ hv hf rfl hA rfl (by omega) (by omega) _ (fun u => ((Y.fet g.pc).lvTo u)) _ _ (fun _ _ => rfl) (fun _ _ => Iff.rfl) ?_
  intro V M u hro
  exact rest_halt V M _ _ _ hro rfl
theorem wi_48 (W : Ways w G bb g x Y) (hx : Y.ok) (hr : ∀ i, 0 ≤ g.R i ∧ g.R i < 4294967296) (v : Nat) (hv : nxt Y.ws Y.iw = v) (hv32 : v < 4294967296) (hf : nxt Y.fa Y.jf = 0) (hd : de v = 0) (ho : v / 67108864 = 48) :
    Ans w G bb x (insS (g.st bb) Y).r (insS (g.st bb) Y).g (insB (g.st bb) Y) := by
  have hO : dO v = ((48 : Nat) : Int) := by unfold dO; rw [ho]
  have hR : ∀ i, 0 ≤ (g.put 0 0).R i ∧ (g.put 0 0).R i < 4294967296 := up_r hr 0 0 (by omega)
  have hA := ap_nat v hv32 hd 48 ho 47 (by omega)
  have X16 : v / 4194304 % 16 < 16 := by omega
  have Y16 : v / 262144 % 16 < 16 := by omega
  have Z16 : v / 16384 % 16 < 16 := by omega
  refine ans_of v 48 hv hf hd ho (r1 (nxt Y.cy Y.ic)) (g.put 0 0).on4 (Y.fet g.pc) (rfl) (rfl) (rfl) ?_
  refine W.rst 47 (v / 4194304 % 16 : Nat) (v / 262144 % 16 : Nat) (v / 16384 % 16 : Nat) (dI v) v 0 _ hv hf rfl hA rfl (by omega) (by omega) _ (fun u => ((Y.fet g.pc).lvTo u)) _ _ (fun _ _ => rfl) (fun _ _ => Iff.rfl) ?_
  intro V M u hro
  exact rest_nop V M _ _ _ hro rfl
theorem ways_end (W : Ways w G bb g x Y) (hx : Y.ok) (hr : ∀ i, 0 ≤ g.R i ∧ g.R i < 4294967296) : Ans w G bb x (insS (g.st bb) Y).r (insS (g.st bb) Y).g (insB (g.st bb) Y) := by
  have hw := hx.ws Y.iw
  obtain ⟨v, hv⟩ : ∃ v : Nat, nxt Y.ws Y.iw = v := ⟨(nxt Y.ws Y.iw).toNat, by omega⟩
  have hv32 : v < 4294967296 := by omega
  by_cases hf : nxt Y.fa Y.jf = 0
  · by_cases hd : de v = 0
    · have hn : v / 67108864 = 1 ∨ v / 67108864 = 2 ∨ v / 67108864 = 3 ∨ v / 67108864 = 4 ∨ v / 67108864 = 5 ∨ v / 67108864 = 6 ∨ v / 67108864 = 7 ∨ v / 67108864 = 8 ∨ v / 67108864 = 9 ∨ v / 67108864 = 10 ∨ v / 67108864 = 11 ∨ v / 67108864 = 12 ∨ v / 67108864 = 13 ∨ v / 67108864 = 14 ∨ v / 67108864 = 15 ∨ v / 67108864 = 16 ∨ v / 67108864 = 17 ∨ v / 67108864 = 18 ∨ v / 67108864 = 19 ∨ v / 67108864 = 20 ∨ v / 67108864 = 21 ∨ v / 67108864 = 22 ∨ v / 67108864 = 23 ∨ v / 67108864 = 24 ∨ v / 67108864 = 25 ∨ v / 67108864 = 26 ∨ v / 67108864 = 27 ∨ v / 67108864 = 28 ∨ v / 67108864 = 29 ∨ v / 67108864 = 30 ∨ v / 67108864 = 31 ∨ v / 67108864 = 32 ∨ v / 67108864 = 33 ∨ v / 67108864 = 34 ∨ v / 67108864 = 35 ∨ v / 67108864 = 36 ∨ v / 67108864 = 37 ∨ v / 67108864 = 38 ∨ v / 67108864 = 39 ∨ v / 67108864 = 40 ∨ v / 67108864 = 41 ∨ v / 67108864 = 42 ∨ v / 67108864 = 43 ∨ v / 67108864 = 44 ∨ v / 67108864 = 45 ∨ v / 67108864 = 46 ∨ v / 67108864 = 47 ∨ v / 67108864 = 48 := by
        have := (isO_iff (dO v)).1 (de_op hd)
        unfold dO at this
        omega
      rcases hn with h | h | h | h | h | h | h | h | h | h | h | h | h | h | h | h | h | h | h | h | h | h | h | h | h | h | h | h | h | h | h | h | h | h | h | h | h | h | h | h | h | h | h | h | h | h | h | h
      · exact wi_1 W hx hr v hv hv32 hf hd h
      · exact wi_2 W hx hr v hv hv32 hf hd h
      · exact wi_3 W hx hr v hv hv32 hf hd h
      · exact wi_4 W hx hr v hv hv32 hf hd h
      · exact wi_5 W hx hr v hv hv32 hf hd h
      · exact wi_6 W hx hr v hv hv32 hf hd h
      · exact wi_7 W hx hr v hv hv32 hf hd h
      · exact wi_8 W hx hr v hv hv32 hf hd h
      · exact wi_9 W hx hr v hv hv32 hf hd h
      · exact wi_10 W hx hr v hv hv32 hf hd h
      · exact wi_11 W hx hr v hv hv32 hf hd h
      · exact wi_12 W hx hr v hv hv32 hf hd h
      · exact wi_13 W hx hr v hv hv32 hf hd h
      · exact wi_14 W hx hr v hv hv32 hf hd h
      · exact wi_15 W hx hr v hv hv32 hf hd h
      · exact wi_16 W hx hr v hv hv32 hf hd h
      · exact wi_17 W hx hr v hv hv32 hf hd h
      · exact wi_18 W hx hr v hv hv32 hf hd h
      · exact wi_19 W hx hr v hv hv32 hf hd h
      · exact wi_20 W hx hr v hv hv32 hf hd h
      · exact wi_21 W hx hr v hv hv32 hf hd h
      · exact wi_22 W hx hr v hv hv32 hf hd h
      · exact wi_23 W hx hr v hv hv32 hf hd h
      · exact wi_24 W hx hr v hv hv32 hf hd h
      · exact wi_25 W hx hr v hv hv32 hf hd h
      · exact wi_26 W hx hr v hv hv32 hf hd h
      · exact wi_27 W hx hr v hv hv32 hf hd h
      · exact wi_28 W hx hr v hv hv32 hf hd h
      · exact wi_29 W hx hr v hv hv32 hf hd h
      · exact wi_30 W hx hr v hv hv32 hf hd h
      · exact wi_31 W hx hr v hv hv32 hf hd h
      · exact wi_32 W hx hr v hv hv32 hf hd h
      · exact wi_33 W hx hr v hv hv32 hf hd h
      · exact wi_34 W hx hr v hv hv32 hf hd h
      · exact wi_35 W hx hr v hv hv32 hf hd h
      · exact wi_36 W hx hr v hv hv32 hf hd h
      · exact wi_37 W hx hr v hv hv32 hf hd h
      · exact wi_38 W hx hr v hv hv32 hf hd h
      · exact wi_39 W hx hr v hv hv32 hf hd h
      · exact wi_40 W hx hr v hv hv32 hf hd h
      · exact wi_41 W hx hr v hv hv32 hf hd h
      · exact wi_42 W hx hr v hv hv32 hf hd h
      · exact wi_43 W hx hr v hv hv32 hf hd h
      · exact wi_44 W hx hr v hv hv32 hf hd h
      · exact wi_45 W hx hr v hv hv32 hf hd h
      · exact wi_46 W hx hr v hv hv32 hf hd h
      · exact wi_47 W hx hr v hv hv32 hf hd h
      · exact wi_48 W hx hr v hv hv32 hf hd h
    · obtain ⟨e1, e2, e3⟩ := end_ill bb g Y hf (by rw [hv]; exact hd)
      rw [e1, e2, e3]
      exact W.ill v 0 _ hv hf rfl (fun V => apart_no V v hv32 hd) rfl
  · obtain ⟨e1, e2, e3⟩ := end_flt bb g Y hf
    rw [e1, e2, e3]
    by_cases hd : de v = 0
    · exact W.flt _ _ _ _ _ v _ _ hv rfl rfl (fun V => apart_yes V v hv32 hd) hf
    · exact W.flt _ _ _ _ _ v _ _ hv rfl rfl (fun V => apart_no V v hv32 hd) hf
end
end Go.Proofs.YtghiffpolacmiabGreatDoor
