import Derived.WalkKit
import Derived.Test.YtgofjmhdgmfgfaaGreatDoorRows
import Derived.ProofKit
import Derived.OpenShut
import Derived.Below
import Derived.BigQuiet
import Derived.Deep.QuietTactic
import Derived.ArgAppend
import Derived.Laws.OwnMore
import Derived.Laws.BitsLemmas
namespace Go.Proofs.YtgofjmhdgmfgfaaGreatDoor
set_option linter.unusedVariables false

/-- The ops' forms, what numbers they take, their names; 0 is none. -/
def fmTab : List Nat := [0, 1, 1, 1, 1, 1, 1, 1, 1, 1, 1, 1, 1, 1, 2, 2, 2, 2, 2, 2, 2, 2, 2, 4, 2, 2, 2, 2, 2, 3, 3, 3, 3, 3, 3, 3, 3, 3, 4, 2, 7, 5, 8, 8, 8, 8, 6, 8, 8]
def tkTab : List Nat := [0, 0, 0, 0, 0, 0, 0, 0, 0, 0, 0, 0, 0, 0, 1, 3, 3, 3, 4, 4, 4, 1, 1, 3, 2, 2, 2, 2, 2, 2, 2, 2, 1, 1, 1, 1, 1, 1, 1, 1, 3, 0, 0, 0, 0, 0, 0, 0, 0]
def nmTab : List (List UInt8) := [[], [97, 100, 100], [115, 117, 98], [109, 117, 108], [100, 105, 118, 117], [114, 101, 109, 117], [97, 110, 100], [111, 114], [120, 111, 114], [115, 104, 108], [115, 104, 114], [115, 97, 114], [115, 108, 116], [115, 108, 116, 117], [97, 100, 100, 105], [97, 110, 100, 105], [111, 114, 105], [120, 111, 114, 105], [115, 104, 108, 105], [115, 104, 114, 105], [115, 97, 114, 105], [115, 108, 116, 105], [115, 108, 116, 117, 105], [108, 117, 105], [108, 98], [108, 98, 117], [108, 104], [108, 104, 117], [108, 119], [115, 98], [115, 104], [115, 119], [98, 101, 113], [98, 110, 101], [98, 108, 116], [98, 103, 101], [98, 108, 116, 117], [98, 103, 101, 117], [106, 97, 108], [106, 97, 108, 114], [104, 99, 97, 108, 108], [99, 108, 111, 99, 107], [119, 97, 105, 116], [101, 105], [100, 105], [101, 114, 101, 116], [118, 101, 99], [104, 97, 108, 116], [110, 111, 112]]
def lDTab : List Nat := [0, 22, 22, 0, 22, 22, 0, 0, 0]
def lATab : List Nat := [0, 18, 18, 22, 0, 0, 22, 0, 0]
def lBTab : List Nat := [0, 14, 0, 18, 0, 0, 0, 0, 0]
def lITab : List Nat := [0, 0, 18, 18, 22, 0, 0, 26, 0]
def pDTab : List Nat := [1, 4194304, 4194304, 1, 4194304, 4194304, 1, 1, 1]
def pATab : List Nat := [1, 262144, 262144, 4194304, 1, 1, 4194304, 1, 1]
def pBTab : List Nat := [1, 16384, 1, 262144, 1, 1, 1, 1, 1]
def pITab : List Nat := [1, 1, 262144, 262144, 4194304, 1, 1, 67108864, 1]
def hITab : List Nat := [1, 1, 131072, 131072, 2097152, 1, 1, 33554432, 1]
def pUTab : List Nat := [1, 16384, 1, 1, 1, 4194304, 4194304, 1, 67108864]
def fo (op : Int) : Nat := fmTab.getD op.toNat 0
def tk (op : Int) : Nat := tkTab.getD op.toNat 0
def nm (op : Int) : List UInt8 := nmTab.getD op.toNat []
def lD (f : Nat) : Nat := lDTab.getD f 0
def lA (f : Nat) : Nat := lATab.getD f 0
def lB (f : Nat) : Nat := lBTab.getD f 0
def lI (f : Nat) : Nat := lITab.getD f 0
def pD (f : Nat) : Nat := pDTab.getD f 0
def pA (f : Nat) : Nat := pATab.getD f 0
def pB (f : Nat) : Nat := pBTab.getD f 0
def pI (f : Nat) : Nat := pITab.getD f 0
def hI (f : Nat) : Nat := hITab.getD f 0
def pU (f : Nat) : Nat := pUTab.getD f 0
def isO (op : Int) : Bool := decide (0 < op) && decide (op < 49)

/-- May a register stand there? -/
def rm (r p : Nat) : Bool := if p = 0 then r == 0 else decide (r < 16)
def rms (op : Int) (d a b : Nat) : Bool := rm d (lD (fo op)) && rm a (lA (fo op)) && rm b (lB (fo op))
/-- From where to where the numbers go. -/
def loF (f t : Nat) : Int := if t = 1 ∨ t = 2 then -(hI f : Int) else 0
def hiF (f t : Nat) : Int := if t = 1 ∨ t = 2 then (hI f : Int) - 1 else if t = 3 then 262143 else if t = 4 then 31 else 0
def lo (op : Int) : Int := loF (fo op) (tk op)
def hi (op : Int) : Int := hiF (fo op) (tk op)
def im (op n : Int) : Bool := decide (lo op ≤ n) && decide (n ≤ hi op)
/-- What is wrong first with an instruction. -/
def ck (op : Int) (d a b : Nat) (n : Int) : Int := if isO op = false then 100 else if rms op d a b = false then 101 else if im op n = false then 102 else 0
/-- The word of one that may be. -/
def wdF (f : Nat) (op : Int) (d a b : Nat) (n : Int) : Nat := op.toNat * 67108864 + d * pD f + a * pA f + b * pB f + (n % (pI f : Int)).toNat
def wd (op : Int) (d a b : Nat) (n : Int) : Nat := wdF (fo op) op d a b n
def ew (op : Int) (d a b : Nat) (n : Int) : Int := if ck op d a b n = 0 then (wd op d a b n : Int) else 0

/-- Of a word. -/
def dO (w : Nat) : Int := ((w / 67108864 : Nat) : Int)
def dR (w l p : Nat) : Nat := if l = 0 then 0 else w / p % 16
def dF (f t w : Nat) : Int := if (t = 1 ∨ t = 2) ∧ hI f ≤ w % pI f then ((w % pI f : Nat) : Int) - (pI f : Int) else ((w % pI f : Nat) : Int)
def dD (w : Nat) : Nat := dR w (lD (fo (dO w))) (pD (fo (dO w)))
def dA (w : Nat) : Nat := dR w (lA (fo (dO w))) (pA (fo (dO w)))
def dB (w : Nat) : Nat := dR w (lB (fo (dO w))) (pB (fo (dO w)))
def dI (w : Nat) : Int := dF (fo (dO w)) (tk (dO w)) w
def stray (w : Nat) : Bool := w % pU (fo (dO w)) != 0
/-- What is wrong with a word. -/
def de (w : Nat) : Int := if isO (dO w) = false then 100 else if stray w = true then 103 else ck (dO w) (dD w) (dA w) (dB w) (dI w)
/-- A number, as an error leaves it. -/
def at0 (c x : Int) : Int := if c = 0 then x else 0

theorem lD_1 : lD 1 = 22 := rfl
theorem lD_2 : lD 2 = 22 := rfl
theorem lD_3 : lD 3 = 0 := rfl
theorem lD_4 : lD 4 = 22 := rfl
theorem lD_5 : lD 5 = 22 := rfl
theorem lD_6 : lD 6 = 0 := rfl
theorem lD_7 : lD 7 = 0 := rfl
theorem lD_8 : lD 8 = 0 := rfl
theorem lA_1 : lA 1 = 18 := rfl
theorem lA_2 : lA 2 = 18 := rfl
theorem lA_3 : lA 3 = 22 := rfl
theorem lA_4 : lA 4 = 0 := rfl
theorem lA_5 : lA 5 = 0 := rfl
theorem lA_6 : lA 6 = 22 := rfl
theorem lA_7 : lA 7 = 0 := rfl
theorem lA_8 : lA 8 = 0 := rfl
theorem lB_1 : lB 1 = 14 := rfl
theorem lB_2 : lB 2 = 0 := rfl
theorem lB_3 : lB 3 = 18 := rfl
theorem lB_4 : lB 4 = 0 := rfl
theorem lB_5 : lB 5 = 0 := rfl
theorem lB_6 : lB 6 = 0 := rfl
theorem lB_7 : lB 7 = 0 := rfl
theorem lB_8 : lB 8 = 0 := rfl
theorem lI_1 : lI 1 = 0 := rfl
theorem lI_2 : lI 2 = 18 := rfl
theorem lI_3 : lI 3 = 18 := rfl
theorem lI_4 : lI 4 = 22 := rfl
theorem lI_5 : lI 5 = 0 := rfl
theorem lI_6 : lI 6 = 0 := rfl
theorem lI_7 : lI 7 = 26 := rfl
theorem lI_8 : lI 8 = 0 := rfl
theorem pD_1 : pD 1 = 4194304 := rfl
theorem pD_2 : pD 2 = 4194304 := rfl
theorem pD_3 : pD 3 = 1 := rfl
theorem pD_4 : pD 4 = 4194304 := rfl
theorem pD_5 : pD 5 = 4194304 := rfl
theorem pD_6 : pD 6 = 1 := rfl
theorem pD_7 : pD 7 = 1 := rfl
theorem pD_8 : pD 8 = 1 := rfl
theorem pA_1 : pA 1 = 262144 := rfl
theorem pA_2 : pA 2 = 262144 := rfl
theorem pA_3 : pA 3 = 4194304 := rfl
theorem pA_4 : pA 4 = 1 := rfl
theorem pA_5 : pA 5 = 1 := rfl
theorem pA_6 : pA 6 = 4194304 := rfl
theorem pA_7 : pA 7 = 1 := rfl
theorem pA_8 : pA 8 = 1 := rfl
theorem pB_1 : pB 1 = 16384 := rfl
theorem pB_2 : pB 2 = 1 := rfl
theorem pB_3 : pB 3 = 262144 := rfl
theorem pB_4 : pB 4 = 1 := rfl
theorem pB_5 : pB 5 = 1 := rfl
theorem pB_6 : pB 6 = 1 := rfl
theorem pB_7 : pB 7 = 1 := rfl
theorem pB_8 : pB 8 = 1 := rfl
theorem pI_1 : pI 1 = 1 := rfl
theorem pI_2 : pI 2 = 262144 := rfl
theorem pI_3 : pI 3 = 262144 := rfl
theorem pI_4 : pI 4 = 4194304 := rfl
theorem pI_5 : pI 5 = 1 := rfl
theorem pI_6 : pI 6 = 1 := rfl
theorem pI_7 : pI 7 = 67108864 := rfl
theorem pI_8 : pI 8 = 1 := rfl
theorem hI_1 : hI 1 = 1 := rfl
theorem hI_2 : hI 2 = 131072 := rfl
theorem hI_3 : hI 3 = 131072 := rfl
theorem hI_4 : hI 4 = 2097152 := rfl
theorem hI_5 : hI 5 = 1 := rfl
theorem hI_6 : hI 6 = 1 := rfl
theorem hI_7 : hI 7 = 33554432 := rfl
theorem hI_8 : hI 8 = 1 := rfl
theorem pU_1 : pU 1 = 16384 := rfl
theorem pU_2 : pU 2 = 1 := rfl
theorem pU_3 : pU 3 = 1 := rfl
theorem pU_4 : pU 4 = 1 := rfl
theorem pU_5 : pU 5 = 4194304 := rfl
theorem pU_6 : pU 6 = 4194304 := rfl
theorem pU_7 : pU 7 = 1 := rfl
theorem pU_8 : pU 8 = 67108864 := rfl
def PP (f t : Nat) : Prop := (f = 1 ∧ t = 0) ∨ (f = 2 ∧ t = 1) ∨ (f = 2 ∧ t = 2) ∨ (f = 2 ∧ t = 3) ∨ (f = 2 ∧ t = 4) ∨ (f = 3 ∧ t = 1) ∨ (f = 3 ∧ t = 2) ∨ (f = 4 ∧ t = 1) ∨ (f = 4 ∧ t = 3) ∨ (f = 5 ∧ t = 0) ∨ (f = 6 ∧ t = 0) ∨ (f = 7 ∧ t = 3) ∨ (f = 8 ∧ t = 0)
instance (f t : Nat) : Decidable (PP f t) := by unfold PP; infer_instance
theorem tab_pairs : ∀ k : Fin 49, k.val = 0 ∨ PP (fmTab.getD k.val 0) (tkTab.getD k.val 0) := by decide +kernel
theorem isO_iff (op : Int) : isO op = true ↔ 0 < op ∧ op < 49 := by simp [isO]
/-- An op that is one: its form and what it takes. -/
theorem op_pairs {op : Int} (h : isO op = true) : PP (fo op) (tk op) := by
  obtain ⟨h0, h1⟩ := (isO_iff op).1 h
  have hl : op.toNat < 49 := by omega
  have := tab_pairs ⟨op.toNat, hl⟩
  unfold fo tk
  generalize fmTab.getD op.toNat 0 = f at *
  generalize tkTab.getD op.toNat 0 = t at *
  rcases this with h | h
  · exfalso
    have : op.toNat = 0 := h
    omega
  · exact h
theorem getD_none {α : Type} (l : List α) (k : Nat) (x : α) (h : l.length ≤ k) : l.getD k x = x := by
  rw [List.getD_eq_getElem?_getD, List.getElem?_eq_none h]; rfl
theorem fo_no {op : Int} (h : isO op = false) : fo op = 0 ∧ tk op = 0 ∧ nm op = [] := by
  have h' : ¬ (0 < op ∧ op < 49) := fun x => by rw [(isO_iff op).2 x] at h; cases h
  have : op.toNat = 0 ∨ 49 ≤ op.toNat := by omega
  rcases this with e | e
  · simp [fo, tk, nm, e, fmTab, tkTab, nmTab]
  · exact ⟨getD_none _ _ _ (by simpa [fmTab] using e), getD_none _ _ _ (by simpa [tkTab] using e), getD_none _ _ _ (by simpa [nmTab] using e)⟩

theorem ck_zero {op : Int} {d a b : Nat} {n : Int} (h : ck op d a b n = 0) : isO op = true ∧ rms op d a b = true ∧ im op n = true := by
  unfold ck at h
  split at h
  · omega
  · split at h
    · omega
    · split at h
      · omega
      · rename_i x y z
        exact ⟨by simpa using x, by simpa using y, by simpa using z⟩
theorem ck_of {op : Int} {d a b : Nat} {n : Int} (h : isO op = true) (h1 : rms op d a b = true) (h2 : im op n = true) : ck op d a b n = 0 := by
  unfold ck
  rw [if_neg (by rw [h]; decide), if_neg (by rw [h1]; decide), if_neg (by rw [h2]; decide)]


theorem dF_10 (W : Nat) : dF 1 0 W = (((W % 1 : Nat) : Int)) := by simp [dF, pI_1]
theorem de_10 (o d a b W : Nat) (n : Int) (ho : o < 49) (hd : d < 16) (ha : a < 16) (hb : b < 16) (hn : 0 ≤ n ∧ n ≤ 0) (hW : W = o * 67108864 + d * 4194304 + a * 262144 + b * 16384 + (n % 1).toNat) :
    W < 4294967296 ∧ W / 67108864 = o ∧ W % 16384 = 0 ∧ W / 4194304 % 16 = d ∧ W / 262144 % 16 = a ∧ W / 16384 % 16 = b ∧ (((W % 1 : Nat) : Int)) = n := by
  refine ⟨by omega, by omega, by omega, by omega, by omega, by omega, ?_⟩
  omega
theorem ed_10 (W : Nat) (h : W % 16384 = 0) : W / 67108864 * 67108864 + (W / 4194304 % 16) * 4194304 + (W / 262144 % 16) * 262144 + (W / 16384 % 16) * 16384 + ((((W % 1 : Nat) : Int)) % 1).toNat = W := by
  omega
theorem dF_21 (W : Nat) : dF 2 1 W = (if 131072 ≤ W % 262144 then ((W % 262144 : Nat) : Int) - 262144 else ((W % 262144 : Nat) : Int)) := by simp [dF, pI_2, hI_2]
theorem de_21 (o d a b W : Nat) (n : Int) (ho : o < 49) (hd : d < 16) (ha : a < 16) (hb : b = 0) (hn : -131072 ≤ n ∧ n ≤ 131071) (hW : W = o * 67108864 + d * 4194304 + a * 262144 + b * 1 + (n % 262144).toNat) :
    W < 4294967296 ∧ W / 67108864 = o ∧ W % 1 = 0 ∧ W / 4194304 % 16 = d ∧ W / 262144 % 16 = a ∧ 0 = b ∧ (if 131072 ≤ W % 262144 then ((W % 262144 : Nat) : Int) - 262144 else ((W % 262144 : Nat) : Int)) = n := by
  refine ⟨by omega, by omega, by omega, by omega, by omega, by omega, ?_⟩
  split <;> omega
theorem ed_21 (W : Nat) (h : W % 1 = 0) : W / 67108864 * 67108864 + (W / 4194304 % 16) * 4194304 + (W / 262144 % 16) * 262144 + (0) * 1 + ((if 131072 ≤ W % 262144 then ((W % 262144 : Nat) : Int) - 262144 else ((W % 262144 : Nat) : Int)) % 262144).toNat = W := by
  split <;> omega
theorem dF_22 (W : Nat) : dF 2 2 W = (if 131072 ≤ W % 262144 then ((W % 262144 : Nat) : Int) - 262144 else ((W % 262144 : Nat) : Int)) := by simp [dF, pI_2, hI_2]
theorem de_22 (o d a b W : Nat) (n : Int) (ho : o < 49) (hd : d < 16) (ha : a < 16) (hb : b = 0) (hn : -131072 ≤ n ∧ n ≤ 131071) (hW : W = o * 67108864 + d * 4194304 + a * 262144 + b * 1 + (n % 262144).toNat) :
    W < 4294967296 ∧ W / 67108864 = o ∧ W % 1 = 0 ∧ W / 4194304 % 16 = d ∧ W / 262144 % 16 = a ∧ 0 = b ∧ (if 131072 ≤ W % 262144 then ((W % 262144 : Nat) : Int) - 262144 else ((W % 262144 : Nat) : Int)) = n := by
  refine ⟨by omega, by omega, by omega, by omega, by omega, by omega, ?_⟩
  split <;> omega
theorem ed_22 (W : Nat) (h : W % 1 = 0) : W / 67108864 * 67108864 + (W / 4194304 % 16) * 4194304 + (W / 262144 % 16) * 262144 + (0) * 1 + ((if 131072 ≤ W % 262144 then ((W % 262144 : Nat) : Int) - 262144 else ((W % 262144 : Nat) : Int)) % 262144).toNat = W := by
  split <;> omega
theorem dF_23 (W : Nat) : dF 2 3 W = (((W % 262144 : Nat) : Int)) := by simp [dF, pI_2]
theorem de_23 (o d a b W : Nat) (n : Int) (ho : o < 49) (hd : d < 16) (ha : a < 16) (hb : b = 0) (hn : 0 ≤ n ∧ n ≤ 262143) (hW : W = o * 67108864 + d * 4194304 + a * 262144 + b * 1 + (n % 262144).toNat) :
    W < 4294967296 ∧ W / 67108864 = o ∧ W % 1 = 0 ∧ W / 4194304 % 16 = d ∧ W / 262144 % 16 = a ∧ 0 = b ∧ (((W % 262144 : Nat) : Int)) = n := by
  refine ⟨by omega, by omega, by omega, by omega, by omega, by omega, ?_⟩
  omega
theorem ed_23 (W : Nat) (h : W % 1 = 0) : W / 67108864 * 67108864 + (W / 4194304 % 16) * 4194304 + (W / 262144 % 16) * 262144 + (0) * 1 + ((((W % 262144 : Nat) : Int)) % 262144).toNat = W := by
  omega
theorem dF_24 (W : Nat) : dF 2 4 W = (((W % 262144 : Nat) : Int)) := by simp [dF, pI_2]
theorem de_24 (o d a b W : Nat) (n : Int) (ho : o < 49) (hd : d < 16) (ha : a < 16) (hb : b = 0) (hn : 0 ≤ n ∧ n ≤ 31) (hW : W = o * 67108864 + d * 4194304 + a * 262144 + b * 1 + (n % 262144).toNat) :
    W < 4294967296 ∧ W / 67108864 = o ∧ W % 1 = 0 ∧ W / 4194304 % 16 = d ∧ W / 262144 % 16 = a ∧ 0 = b ∧ (((W % 262144 : Nat) : Int)) = n := by
  refine ⟨by omega, by omega, by omega, by omega, by omega, by omega, ?_⟩
  omega
theorem ed_24 (W : Nat) (h : W % 1 = 0) : W / 67108864 * 67108864 + (W / 4194304 % 16) * 4194304 + (W / 262144 % 16) * 262144 + (0) * 1 + ((((W % 262144 : Nat) : Int)) % 262144).toNat = W := by
  omega
theorem dF_31 (W : Nat) : dF 3 1 W = (if 131072 ≤ W % 262144 then ((W % 262144 : Nat) : Int) - 262144 else ((W % 262144 : Nat) : Int)) := by simp [dF, pI_3, hI_3]
theorem de_31 (o d a b W : Nat) (n : Int) (ho : o < 49) (hd : d = 0) (ha : a < 16) (hb : b < 16) (hn : -131072 ≤ n ∧ n ≤ 131071) (hW : W = o * 67108864 + d * 1 + a * 4194304 + b * 262144 + (n % 262144).toNat) :
    W < 4294967296 ∧ W / 67108864 = o ∧ W % 1 = 0 ∧ 0 = d ∧ W / 4194304 % 16 = a ∧ W / 262144 % 16 = b ∧ (if 131072 ≤ W % 262144 then ((W % 262144 : Nat) : Int) - 262144 else ((W % 262144 : Nat) : Int)) = n := by
  refine ⟨by omega, by omega, by omega, by omega, by omega, by omega, ?_⟩
  split <;> omega
theorem ed_31 (W : Nat) (h : W % 1 = 0) : W / 67108864 * 67108864 + (0) * 1 + (W / 4194304 % 16) * 4194304 + (W / 262144 % 16) * 262144 + ((if 131072 ≤ W % 262144 then ((W % 262144 : Nat) : Int) - 262144 else ((W % 262144 : Nat) : Int)) % 262144).toNat = W := by
  split <;> omega
theorem dF_32 (W : Nat) : dF 3 2 W = (if 131072 ≤ W % 262144 then ((W % 262144 : Nat) : Int) - 262144 else ((W % 262144 : Nat) : Int)) := by simp [dF, pI_3, hI_3]
theorem de_32 (o d a b W : Nat) (n : Int) (ho : o < 49) (hd : d = 0) (ha : a < 16) (hb : b < 16) (hn : -131072 ≤ n ∧ n ≤ 131071) (hW : W = o * 67108864 + d * 1 + a * 4194304 + b * 262144 + (n % 262144).toNat) :
    W < 4294967296 ∧ W / 67108864 = o ∧ W % 1 = 0 ∧ 0 = d ∧ W / 4194304 % 16 = a ∧ W / 262144 % 16 = b ∧ (if 131072 ≤ W % 262144 then ((W % 262144 : Nat) : Int) - 262144 else ((W % 262144 : Nat) : Int)) = n := by
  refine ⟨by omega, by omega, by omega, by omega, by omega, by omega, ?_⟩
  split <;> omega
theorem ed_32 (W : Nat) (h : W % 1 = 0) : W / 67108864 * 67108864 + (0) * 1 + (W / 4194304 % 16) * 4194304 + (W / 262144 % 16) * 262144 + ((if 131072 ≤ W % 262144 then ((W % 262144 : Nat) : Int) - 262144 else ((W % 262144 : Nat) : Int)) % 262144).toNat = W := by
  split <;> omega
theorem dF_41 (W : Nat) : dF 4 1 W = (if 2097152 ≤ W % 4194304 then ((W % 4194304 : Nat) : Int) - 4194304 else ((W % 4194304 : Nat) : Int)) := by simp [dF, pI_4, hI_4]
theorem de_41 (o d a b W : Nat) (n : Int) (ho : o < 49) (hd : d < 16) (ha : a = 0) (hb : b = 0) (hn : -2097152 ≤ n ∧ n ≤ 2097151) (hW : W = o * 67108864 + d * 4194304 + a * 1 + b * 1 + (n % 4194304).toNat) :
    W < 4294967296 ∧ W / 67108864 = o ∧ W % 1 = 0 ∧ W / 4194304 % 16 = d ∧ 0 = a ∧ 0 = b ∧ (if 2097152 ≤ W % 4194304 then ((W % 4194304 : Nat) : Int) - 4194304 else ((W % 4194304 : Nat) : Int)) = n := by
  refine ⟨by omega, by omega, by omega, by omega, by omega, by omega, ?_⟩
  split <;> omega
theorem ed_41 (W : Nat) (h : W % 1 = 0) : W / 67108864 * 67108864 + (W / 4194304 % 16) * 4194304 + (0) * 1 + (0) * 1 + ((if 2097152 ≤ W % 4194304 then ((W % 4194304 : Nat) : Int) - 4194304 else ((W % 4194304 : Nat) : Int)) % 4194304).toNat = W := by
  split <;> omega
theorem dF_43 (W : Nat) : dF 4 3 W = (((W % 4194304 : Nat) : Int)) := by simp [dF, pI_4]
theorem de_43 (o d a b W : Nat) (n : Int) (ho : o < 49) (hd : d < 16) (ha : a = 0) (hb : b = 0) (hn : 0 ≤ n ∧ n ≤ 262143) (hW : W = o * 67108864 + d * 4194304 + a * 1 + b * 1 + (n % 4194304).toNat) :
    W < 4294967296 ∧ W / 67108864 = o ∧ W % 1 = 0 ∧ W / 4194304 % 16 = d ∧ 0 = a ∧ 0 = b ∧ (((W % 4194304 : Nat) : Int)) = n := by
  refine ⟨by omega, by omega, by omega, by omega, by omega, by omega, ?_⟩
  omega
theorem ed_43 (W : Nat) (h : W % 1 = 0) : W / 67108864 * 67108864 + (W / 4194304 % 16) * 4194304 + (0) * 1 + (0) * 1 + ((((W % 4194304 : Nat) : Int)) % 4194304).toNat = W := by
  omega
theorem dF_50 (W : Nat) : dF 5 0 W = (((W % 1 : Nat) : Int)) := by simp [dF, pI_5]
theorem de_50 (o d a b W : Nat) (n : Int) (ho : o < 49) (hd : d < 16) (ha : a = 0) (hb : b = 0) (hn : 0 ≤ n ∧ n ≤ 0) (hW : W = o * 67108864 + d * 4194304 + a * 1 + b * 1 + (n % 1).toNat) :
    W < 4294967296 ∧ W / 67108864 = o ∧ W % 4194304 = 0 ∧ W / 4194304 % 16 = d ∧ 0 = a ∧ 0 = b ∧ (((W % 1 : Nat) : Int)) = n := by
  refine ⟨by omega, by omega, by omega, by omega, by omega, by omega, ?_⟩
  omega
theorem ed_50 (W : Nat) (h : W % 4194304 = 0) : W / 67108864 * 67108864 + (W / 4194304 % 16) * 4194304 + (0) * 1 + (0) * 1 + ((((W % 1 : Nat) : Int)) % 1).toNat = W := by
  omega
theorem dF_60 (W : Nat) : dF 6 0 W = (((W % 1 : Nat) : Int)) := by simp [dF, pI_6]
theorem de_60 (o d a b W : Nat) (n : Int) (ho : o < 49) (hd : d = 0) (ha : a < 16) (hb : b = 0) (hn : 0 ≤ n ∧ n ≤ 0) (hW : W = o * 67108864 + d * 1 + a * 4194304 + b * 1 + (n % 1).toNat) :
    W < 4294967296 ∧ W / 67108864 = o ∧ W % 4194304 = 0 ∧ 0 = d ∧ W / 4194304 % 16 = a ∧ 0 = b ∧ (((W % 1 : Nat) : Int)) = n := by
  refine ⟨by omega, by omega, by omega, by omega, by omega, by omega, ?_⟩
  omega
theorem ed_60 (W : Nat) (h : W % 4194304 = 0) : W / 67108864 * 67108864 + (0) * 1 + (W / 4194304 % 16) * 4194304 + (0) * 1 + ((((W % 1 : Nat) : Int)) % 1).toNat = W := by
  omega
theorem dF_73 (W : Nat) : dF 7 3 W = (((W % 67108864 : Nat) : Int)) := by simp [dF, pI_7]
theorem de_73 (o d a b W : Nat) (n : Int) (ho : o < 49) (hd : d = 0) (ha : a = 0) (hb : b = 0) (hn : 0 ≤ n ∧ n ≤ 262143) (hW : W = o * 67108864 + d * 1 + a * 1 + b * 1 + (n % 67108864).toNat) :
    W < 4294967296 ∧ W / 67108864 = o ∧ W % 1 = 0 ∧ 0 = d ∧ 0 = a ∧ 0 = b ∧ (((W % 67108864 : Nat) : Int)) = n := by
  refine ⟨by omega, by omega, by omega, by omega, by omega, by omega, ?_⟩
  omega
theorem ed_73 (W : Nat) (h : W % 1 = 0) : W / 67108864 * 67108864 + (0) * 1 + (0) * 1 + (0) * 1 + ((((W % 67108864 : Nat) : Int)) % 67108864).toNat = W := by
  omega
theorem dF_80 (W : Nat) : dF 8 0 W = (((W % 1 : Nat) : Int)) := by simp [dF, pI_8]
theorem de_80 (o d a b W : Nat) (n : Int) (ho : o < 49) (hd : d = 0) (ha : a = 0) (hb : b = 0) (hn : 0 ≤ n ∧ n ≤ 0) (hW : W = o * 67108864 + d * 1 + a * 1 + b * 1 + (n % 1).toNat) :
    W < 4294967296 ∧ W / 67108864 = o ∧ W % 67108864 = 0 ∧ 0 = d ∧ 0 = a ∧ 0 = b ∧ (((W % 1 : Nat) : Int)) = n := by
  refine ⟨by omega, by omega, by omega, by omega, by omega, by omega, ?_⟩
  omega
theorem ed_80 (W : Nat) (h : W % 67108864 = 0) : W / 67108864 * 67108864 + (0) * 1 + (0) * 1 + (0) * 1 + ((((W % 1 : Nat) : Int)) % 1).toNat = W := by
  omega
theorem dec_enc {op : Int} {d a b : Nat} {n : Int} (h : ck op d a b n = 0) :
    wd op d a b n < 4294967296 ∧ dO (wd op d a b n) = op ∧ stray (wd op d a b n) = false ∧ dD (wd op d a b n) = d ∧ dA (wd op d a b n) = a ∧ dB (wd op d a b n) = b ∧ dI (wd op d a b n) = n := by
  obtain ⟨h0, h1, h2⟩ := ck_zero h
  obtain ⟨o0, o1⟩ := (isO_iff op).1 h0
  obtain ⟨o, rfl⟩ : ∃ o : Nat, op = o := ⟨op.toNat, by omega⟩
  obtain ⟨f, hf⟩ : ∃ f, f = fo o := ⟨_, rfl⟩
  obtain ⟨t, ht⟩ : ∃ t, t = tk o := ⟨_, rfl⟩
  have hp := op_pairs h0
  rw [← hf, ← ht] at hp
  obtain ⟨W, hW⟩ : ∃ W, W = wd o d a b n := ⟨_, rfl⟩
  rw [← hW]
  have hm : (rm d (lD f) = true ∧ rm a (lA f) = true) ∧ rm b (lB f) = true := by simpa [rms, ← hf] using h1
  have hn : loF f t ≤ n ∧ n ≤ hiF f t := by simpa [im, lo, hi, ← hf, ← ht] using h2
  have hw : W = o * 67108864 + d * pD f + a * pA f + b * pB f + (n % (pI f : Int)).toNat := by rw [hW, wd, wdF, ← hf, Int.toNat_natCast]
  suffices H : W < 4294967296 ∧ W / 67108864 = o ∧ W % pU f = 0 ∧ dR W (lD f) (pD f) = d ∧ dR W (lA f) (pA f) = a ∧ dR W (lB f) (pB f) = b ∧ dF f t W = n by
    obtain ⟨w1, w2, w3, w4, w5, w6, w7⟩ := H
    have eo : dO W = (o : Int) := by rw [dO, w2]
    exact ⟨w1, eo, by rw [stray, eo, ← hf, w3]; rfl, by rw [dD, eo, ← hf, w4], by rw [dA, eo, ← hf, w5], by rw [dB, eo, ← hf, w6], by rw [dI, eo, ← hf, ← ht, w7]⟩
  have ho : o < 49 := by omega
  clear hW hf ht h1 h2 h0 h o0 o1
  rcases hp with ⟨rfl, rfl⟩ | ⟨rfl, rfl⟩ | ⟨rfl, rfl⟩ | ⟨rfl, rfl⟩ | ⟨rfl, rfl⟩ | ⟨rfl, rfl⟩ | ⟨rfl, rfl⟩ | ⟨rfl, rfl⟩ | ⟨rfl, rfl⟩ | ⟨rfl, rfl⟩ | ⟨rfl, rfl⟩ | ⟨rfl, rfl⟩ | ⟨rfl, rfl⟩
  · rw [dF_10]; exact de_10 o d a b W n ho (by simpa [rm, lD_1] using hm.1.1) (by simpa [rm, lA_1] using hm.1.2) (by simpa [rm, lB_1] using hm.2) hn hw
  · rw [dF_21]; exact de_21 o d a b W n ho (by simpa [rm, lD_2] using hm.1.1) (by simpa [rm, lA_2] using hm.1.2) (by simpa [rm, lB_2] using hm.2) hn hw
  · rw [dF_22]; exact de_22 o d a b W n ho (by simpa [rm, lD_2] using hm.1.1) (by simpa [rm, lA_2] using hm.1.2) (by simpa [rm, lB_2] using hm.2) hn hw
  · rw [dF_23]; exact de_23 o d a b W n ho (by simpa [rm, lD_2] using hm.1.1) (by simpa [rm, lA_2] using hm.1.2) (by simpa [rm, lB_2] using hm.2) hn hw
  · rw [dF_24]; exact de_24 o d a b W n ho (by simpa [rm, lD_2] using hm.1.1) (by simpa [rm, lA_2] using hm.1.2) (by simpa [rm, lB_2] using hm.2) hn hw
  · rw [dF_31]; exact de_31 o d a b W n ho (by simpa [rm, lD_3] using hm.1.1) (by simpa [rm, lA_3] using hm.1.2) (by simpa [rm, lB_3] using hm.2) hn hw
  · rw [dF_32]; exact de_32 o d a b W n ho (by simpa [rm, lD_3] using hm.1.1) (by simpa [rm, lA_3] using hm.1.2) (by simpa [rm, lB_3] using hm.2) hn hw
  · rw [dF_41]; exact de_41 o d a b W n ho (by simpa [rm, lD_4] using hm.1.1) (by simpa [rm, lA_4] using hm.1.2) (by simpa [rm, lB_4] using hm.2) hn hw
  · rw [dF_43]; exact de_43 o d a b W n ho (by simpa [rm, lD_4] using hm.1.1) (by simpa [rm, lA_4] using hm.1.2) (by simpa [rm, lB_4] using hm.2) hn hw
  · rw [dF_50]; exact de_50 o d a b W n ho (by simpa [rm, lD_5] using hm.1.1) (by simpa [rm, lA_5] using hm.1.2) (by simpa [rm, lB_5] using hm.2) hn hw
  · rw [dF_60]; exact de_60 o d a b W n ho (by simpa [rm, lD_6] using hm.1.1) (by simpa [rm, lA_6] using hm.1.2) (by simpa [rm, lB_6] using hm.2) hn hw
  · rw [dF_73]; exact de_73 o d a b W n ho (by simpa [rm, lD_7] using hm.1.1) (by simpa [rm, lA_7] using hm.1.2) (by simpa [rm, lB_7] using hm.2) hn hw
  · rw [dF_80]; exact de_80 o d a b W n ho (by simpa [rm, lD_8] using hm.1.1) (by simpa [rm, lA_8] using hm.1.2) (by simpa [rm, lB_8] using hm.2) hn hw

theorem de_zero {w : Nat} (h : de w = 0) : isO (dO w) = true ∧ stray w = false ∧ ck (dO w) (dD w) (dA w) (dB w) (dI w) = 0 := by
  unfold de at h
  split at h
  · omega
  · split at h
    · omega
    · rename_i x y
      exact ⟨by simpa using x, by simpa using y, h⟩
theorem enc_dec {w : Nat} (h : de w = 0) : ck (dO w) (dD w) (dA w) (dB w) (dI w) = 0 ∧ wd (dO w) (dD w) (dA w) (dB w) (dI w) = w := by
  obtain ⟨h0, h1, h2⟩ := de_zero h
  refine ⟨h2, ?_⟩
  obtain ⟨f, hf⟩ : ∃ f, f = fo (dO w) := ⟨_, rfl⟩
  obtain ⟨t, ht⟩ : ∃ t, t = tk (dO w) := ⟨_, rfl⟩
  have hp := op_pairs h0
  rw [← hf, ← ht] at hp
  have hs : w % pU f = 0 := by simpa [stray, ← hf] using h1
  rw [wd, wdF, dD, dA, dB, dI, ← hf, ← ht, dO, Int.toNat_natCast]
  clear hf ht h0 h1 h2 h
  rcases hp with ⟨rfl, rfl⟩ | ⟨rfl, rfl⟩ | ⟨rfl, rfl⟩ | ⟨rfl, rfl⟩ | ⟨rfl, rfl⟩ | ⟨rfl, rfl⟩ | ⟨rfl, rfl⟩ | ⟨rfl, rfl⟩ | ⟨rfl, rfl⟩ | ⟨rfl, rfl⟩ | ⟨rfl, rfl⟩ | ⟨rfl, rfl⟩ | ⟨rfl, rfl⟩
  · rw [dF_10]; exact ed_10 w hs
  · rw [dF_21]; exact ed_21 w hs
  · rw [dF_22]; exact ed_22 w hs
  · rw [dF_23]; exact ed_23 w hs
  · rw [dF_24]; exact ed_24 w hs
  · rw [dF_31]; exact ed_31 w hs
  · rw [dF_32]; exact ed_32 w hs
  · rw [dF_41]; exact ed_41 w hs
  · rw [dF_43]; exact ed_43 w hs
  · rw [dF_50]; exact ed_50 w hs
  · rw [dF_60]; exact ed_60 w hs
  · rw [dF_73]; exact ed_73 w hs
  · rw [dF_80]; exact ed_80 w hs
end Go.Proofs.YtgofjmhdgmfgfaaGreatDoor
namespace Go.Proofs.YtgofjmhdgmfgfaaGreatDoor
open Go.ChangeShapes Go.WideShapes Go.ChangeAt Go.RowKit
set_option linter.unusedVariables false

theorem ret_int {k : IntKind} {a b : Int} (h : a = b) : Ending.returned (.int k a) = .returned (.int k b) := by rw [h]

/-- What has changed lies in S, or is new. -/
structure Chg (w w' : World) (S : Nat → Prop) : Prop where
  os : w'.os = w.os
  tape : w'.tape = w.tape
  output : w'.output = w.output
  size : w.heap.size ≤ w'.heap.size
  block : ∀ k, k < w.heap.size → ¬ S k → w'.heap[k]? = w.heap[k]?

theorem Chg.refl (w : World) (S : Nat → Prop) : Chg w w S := ⟨rfl, rfl, rfl, Nat.le_refl _, fun _ _ _ => rfl⟩
theorem Chg.trans {a b c : World} {S T : Nat → Prop} (h : Chg a b S) (k : Chg b c T) (hT : ∀ i, i < a.heap.size → T i → S i) : Chg a c S :=
  ⟨k.os.trans h.os, k.tape.trans h.tape, k.output.trans h.output, Nat.le_trans h.size k.size,
    fun i hi hs => (k.block i (Nat.lt_of_lt_of_le hi h.size) (fun ht => hs (hT i hi ht))).trans (h.block i hi hs)⟩
theorem Chg.mono {a b : World} {S T : Nat → Prop} (h : Chg a b S) (hT : ∀ i, i < a.heap.size → S i → T i) : Chg a b T :=
  ⟨h.os, h.tape, h.output, h.size, fun i hi hs => h.block i hi (fun x => hs (hT i hi x))⟩
theorem Chg.drew {a b : World} {S : Nat → Prop} (h : Chg a b S) : Chg a b.drew S := ⟨h.os, h.tape, h.output, h.size, h.block⟩
theorem Chg.drewN {a b : World} {S : Nat → Prop} (h : Chg a b S) (n : Nat) : Chg a (b.drewN n) S := ⟨h.os, h.tape, h.output, h.size, h.block⟩
theorem Chg.alloc {a b : World} {S : Nat → Prop} (h : Chg a b S) (o : Obj) : Chg a (b.alloc o) S :=
  h.trans (T := fun _ => False) ⟨rfl, rfl, rfl, by simp, fun k hk _ => Below.heap_alloc _ _ _ hk⟩ (fun _ _ x => x.elim)
theorem Chg.setCell {a b : World} {S : Nat → Prop} (h : Chg a b S) {p : Addr} (hp : S p.block ∨ a.heap.size ≤ p.block) (u : Value) : Chg a (b.setCell p u) S :=
  h.trans (T := fun k => k = p.block) ⟨rfl, rfl, rfl, by simp [World.setCell], fun k hk hn => Below.heap_setCell _ _ _ _ hn⟩
    (fun i hi x => by subst x; rcases hp with h | h; exact h; omega)
theorem Chg.grown {a b c : World} {S : Nat → Prop} {row : Option Nat} (h : Chg a b S) (hg : b.grownBy c row) (hr : ∀ k, row = some k → S k ∨ a.heap.size ≤ k) : Chg a c S :=
  h.trans (T := fun k => row = some k) ⟨hg.os, hg.tape, hg.output, hg.size, fun k hk hn => hg.block k hk (fun e => hn e.symm)⟩
    (fun i hi x => by rcases hr i x with h | h; exact h; omega)
theorem Chg.below {w w' : World} {S : Nat → Prop} {B : Nat} (h : Chg w w' S) (hB : B ≤ w.heap.size) (hS : ∀ k, k < B → ¬ S k) : Below B w w' :=
  ⟨h.os, h.tape, h.output, h.size, fun k hk => h.block k (by omega) (hS k hk)⟩
theorem Chg.ofBelow {w w' : World} {B : Nat} (h : Below B w w') : Chg w w' (fun k => B ≤ k) :=
  ⟨h.os, h.tape, h.output, h.size, fun k hk hn => h.block k (by omega)⟩
theorem Chg.heap {w w' : World} {S : Nat → Prop} (h : Chg w w' S) {k : Nat} {o : Obj} (hk : w.heap[k]? = some o) (hn : ¬ S k) : w'.heap[k]? = some o := by
  rw [h.block k (by have := Array.getElem?_eq_some_iff.1 hk; exact this.1) hn]; exact hk
theorem Chg.cell {w w' : World} {S : Nat → Prop} (h : Chg w w' S) {b o : Nat} (hk : b < w.heap.size) (hn : ¬ S b) : w'.cell? ⟨b, o, none⟩ = w.cell? ⟨b, o, none⟩ :=
  World.cell?_of_block (h.block b hk hn)
theorem Chg.frozen {w w' : World} {S : Nat → Prop} (h : Chg w w' S) {b o : Nat} (hk : b < w.heap.size) (hn : ¬ S b) : w'.frozen? ⟨b, o, none⟩ = w.frozen? ⟨b, o, none⟩ :=
  World.frozen?_of_block (h.block b hk hn)
theorem Chg.owns {w w' : World} {S : Nat → Prop} (h : Chg w w' S) {base e size n : Nat} {v : Value} {xs : List Value} (ho : w.ownsRow base e size v n xs) (hn : ∀ k, v.ownBlock = some k → ¬ S k) : w'.ownsRow base e size v n xs := by
  refine ⟨ho.1, ?_⟩
  rcases ho.2 with hn' | ⟨g, cap, cur, rfl, hb, hgg, rest⟩
  · exact .inl hn'
  · exact .inr ⟨g, cap, cur, rfl, hb, h.heap hgg (hn g rfl), rest⟩

/-- The new value's row is the old one's, or new. -/
def Loc (w : World) (v v' : Value) : Prop := v'.ownBlock = v.ownBlock ∨ ∃ k, v'.ownBlock = some k ∧ w.heap.size ≤ k
def InI (c : Int) : Prop := -9223372036854775808 ≤ c ∧ c ≤ 9223372036854775807
/-- Nothing that was there has changed. -/
abbrev Kp (w w' : World) : Prop := Chg w w' (fun _ => False)
theorem Kp.trans {a b c : World} (h : Kp a b) (k : Kp b c) : Kp a c := Chg.trans h k (fun _ _ x => x)
theorem Kp.cell {w w' : World} (h : Kp w w') {p : Addr} {v : Value} (hc : w.cell? p = some v) : w'.cell? p = some v := by
  obtain ⟨b, o, s⟩ := p
  have hs : s = none := World.cell?_spot hc
  subst hs
  have hb : b < w.heap.size := by
    rcases Nat.lt_or_ge b w.heap.size with h | h
    · exact h
    · exfalso
      have : w.heap[b]? = none := Array.getElem?_eq_none h
      simp [World.cell?, this] at hc
  rw [Chg.cell h hb (fun x => x)]
  exact hc
theorem Kp.heap {w w' : World} (h : Kp w w') {k : Nat} {o : Obj} (hk : w.heap[k]? = some o) : w'.heap[k]? = some o := Chg.heap h hk (fun x => x)
theorem cells_at {w : World} {B : Nat} {cs : Array Value} {e : TypeId} (h : w.heap[B]? = some (.cells cs e (0, 0))) (i : Nat) : w.cell? ⟨B, i, none⟩ = cs[i]? ∧ w.frozen? ⟨B, i, none⟩ = false :=
  ⟨cell_of_row w B i cs e (0, 0) h, frozen_of_row w B i cs e h⟩
/-- A variable of three cells is written. -/
theorem box3 {w V : World} {p : Nat} {a b c : Value} {T : TypeId} (h : w.heap[p]? = some (.cells #[a, b, c] T (0, 0))) (x y z : Value) (hV : V = (((w.setCell ⟨p, 0, none⟩ x).setCell ⟨p, 1, none⟩ y).setCell ⟨p, 2, none⟩ z)) :
    V.heap[p]? = some (.cells #[x, y, z] T (0, 0)) ∧ V.heap.size = w.heap.size ∧ Chg w V (fun k => k = p) := by
  subst hV
  have h1 := heap_setCell_same w p 0 _ T x h
  have h2 := heap_setCell_same _ p 1 _ T y h1
  have h3 := heap_setCell_same _ p 2 _ T z h2
  refine ⟨h3, by simp [World.setCell], ?_⟩
  exact Chg.setCell (S := fun k => k = p) (Chg.setCell (S := fun k => k = p) (Chg.setCell (S := fun k => k = p) (Chg.refl w _) (.inl rfl) _) (.inl rfl) _) (.inl rfl) _
theorem cells3 {w : World} {p : Nat} {a b c : Value} {T : TypeId} (h : w.heap[p]? = some (.cells #[a, b, c] T (0, 0))) :
    w.cell? ⟨p, 0, none⟩ = some a ∧ w.cell? ⟨p, 1, none⟩ = some b ∧ w.cell? ⟨p, 2, none⟩ = some c ∧ w.frozen? ⟨p, 0, none⟩ = false ∧ w.frozen? ⟨p, 1, none⟩ = false ∧ w.frozen? ⟨p, 2, none⟩ = false :=
  ⟨by rw [(cells_at h _).1]; rfl, by rw [(cells_at h _).1]; rfl, by rw [(cells_at h _).1]; rfl, (cells_at h _).2, (cells_at h _).2, (cells_at h _).2⟩
/-- A variable of four cells is written. -/
theorem box4 {w V : World} {p : Nat} {a b c d : Value} {T : TypeId} (h : w.heap[p]? = some (.cells #[a, b, c, d] T (0, 0))) (x y z u : Value) (hV : V = ((((w.setCell ⟨p, 0, none⟩ x).setCell ⟨p, 1, none⟩ y).setCell ⟨p, 2, none⟩ z).setCell ⟨p, 3, none⟩ u)) :
    V.heap[p]? = some (.cells #[x, y, z, u] T (0, 0)) ∧ V.heap.size = w.heap.size ∧ Chg w V (fun k => k = p) := by
  subst hV
  have h1 := heap_setCell_same w p 0 _ T x h
  have h2 := heap_setCell_same _ p 1 _ T y h1
  have h3 := heap_setCell_same _ p 2 _ T z h2
  have h4 := heap_setCell_same _ p 3 _ T u h3
  refine ⟨h4, by simp [World.setCell], ?_⟩
  exact ((((Chg.refl w (fun k => k = p)).setCell (.inl rfl) _).setCell (.inl rfl) _).setCell (.inl rfl) _).setCell (.inl rfl) _
theorem cells4 {w : World} {p : Nat} {a b c d : Value} {T : TypeId} (h : w.heap[p]? = some (.cells #[a, b, c, d] T (0, 0))) :
    w.cell? ⟨p, 0, none⟩ = some a ∧ w.cell? ⟨p, 1, none⟩ = some b ∧ w.cell? ⟨p, 2, none⟩ = some c ∧ w.cell? ⟨p, 3, none⟩ = some d ∧ w.frozen? ⟨p, 0, none⟩ = false ∧ w.frozen? ⟨p, 1, none⟩ = false ∧ w.frozen? ⟨p, 2, none⟩ = false ∧ w.frozen? ⟨p, 3, none⟩ = false :=
  ⟨by rw [(cells_at h _).1]; rfl, by rw [(cells_at h _).1]; rfl, by rw [(cells_at h _).1]; rfl, by rw [(cells_at h _).1]; rfl, (cells_at h _).2, (cells_at h _).2, (cells_at h _).2, (cells_at h _).2⟩
/-- A variable of five cells is written. -/
theorem box5 {w V : World} {p : Nat} {a b c d e : Value} {T : TypeId} (h : w.heap[p]? = some (.cells #[a, b, c, d, e] T (0, 0))) (x y z u v : Value) (hV : V = (((((w.setCell ⟨p, 0, none⟩ x).setCell ⟨p, 1, none⟩ y).setCell ⟨p, 2, none⟩ z).setCell ⟨p, 3, none⟩ u).setCell ⟨p, 4, none⟩ v)) :
    V.heap[p]? = some (.cells #[x, y, z, u, v] T (0, 0)) ∧ V.heap.size = w.heap.size ∧ Chg w V (fun k => k = p) := by
  subst hV
  have h1 := heap_setCell_same w p 0 _ T x h
  have h2 := heap_setCell_same _ p 1 _ T y h1
  have h3 := heap_setCell_same _ p 2 _ T z h2
  have h4 := heap_setCell_same _ p 3 _ T u h3
  have h5 := heap_setCell_same _ p 4 _ T v h4
  refine ⟨h5, by simp [World.setCell], ?_⟩
  exact (((((Chg.refl w (fun k => k = p)).setCell (.inl rfl) _).setCell (.inl rfl) _).setCell (.inl rfl) _).setCell (.inl rfl) _).setCell (.inl rfl) _
theorem cells5 {w : World} {p : Nat} {a b c d e : Value} {T : TypeId} (h : w.heap[p]? = some (.cells #[a, b, c, d, e] T (0, 0))) :
    w.cell? ⟨p, 0, none⟩ = some a ∧ w.cell? ⟨p, 1, none⟩ = some b ∧ w.cell? ⟨p, 2, none⟩ = some c ∧ w.cell? ⟨p, 3, none⟩ = some d ∧ w.cell? ⟨p, 4, none⟩ = some e ∧ w.frozen? ⟨p, 0, none⟩ = false ∧ w.frozen? ⟨p, 1, none⟩ = false ∧ w.frozen? ⟨p, 2, none⟩ = false ∧ w.frozen? ⟨p, 3, none⟩ = false ∧ w.frozen? ⟨p, 4, none⟩ = false :=
  ⟨by rw [(cells_at h _).1]; rfl, by rw [(cells_at h _).1]; rfl, by rw [(cells_at h _).1]; rfl, by rw [(cells_at h _).1]; rfl, by rw [(cells_at h _).1]; rfl, (cells_at h _).2, (cells_at h _).2, (cells_at h _).2, (cells_at h _).2, (cells_at h _).2⟩
theorem of_leaf {G X : Prop} (h : G) (k : G → X) : X := k h
theorem al_old {w : World} (o : Obj) {k : Nat} {x : Obj} (h : w.heap[k]? = some x) : (w.alloc o).heap[k]? = some x := ((Chg.refl w (fun _ => False)).alloc o).heap h (fun h => h)
theorem al_size (w : World) (o : Obj) : (w.alloc o).heap.size = w.heap.size + 1 := by simp
end Go.Proofs.YtgofjmhdgmfgfaaGreatDoor
namespace Go.Proofs.YtgofjmhdgmfgfaaGreatDoor
open Go.ChangeShapes Go.WideShapes Go.ChangeAt Go.RowKit
set_option linter.unusedVariables false

theorem ret_bool {a b : Bool} (h : a = b) : Ending.returned (.bool a) = .returned (.bool b) := by rw [h]
/-- A text as a value. -/
def sb (l : List UInt8) : ByteArray := ⟨l.toArray⟩
/-- What the two variables hold. -/
structure Gt (w : World) : Prop where
  ops : ∀ k, k < 49 → w.cell? ⟨1, k * 3, none⟩ = some (.string (sb (nmTab.getD k []))) ∧ w.cell? ⟨1, k * 3 + 1, none⟩ = some (.int .i64 (fmTab.getD k 0 : Nat)) ∧ w.cell? ⟨1, k * 3 + 2, none⟩ = some (.int .i64 (tkTab.getD k 0 : Nat))
  lay : ∀ f, f < 9 → w.cell? ⟨0, f * 4, none⟩ = some (.int .u64 (lD f : Nat)) ∧ w.cell? ⟨0, f * 4 + 1, none⟩ = some (.int .u64 (lA f : Nat)) ∧ w.cell? ⟨0, f * 4 + 2, none⟩ = some (.int .u64 (lB f : Nat)) ∧ w.cell? ⟨0, f * 4 + 3, none⟩ = some (.int .u64 (lI f : Nat))
theorem Gt.keep {w w' : World} (h : Gt w) (k : Kp w w') : Gt w' :=
  ⟨fun i hi => ⟨Kp.cell k (h.ops i hi).1, Kp.cell k (h.ops i hi).2.1, Kp.cell k (h.ops i hi).2.2⟩,
   fun i hi => ⟨Kp.cell k (h.lay i hi).1, Kp.cell k (h.lay i hi).2.1, Kp.cell k (h.lay i hi).2.2.1, Kp.cell k (h.lay i hi).2.2.2⟩⟩
theorem Gt.alloc {w : World} (h : Gt w) (o : Obj) : Gt (w.alloc o) := h.keep ((Chg.refl _ _).alloc _)

theorem isO_any (w : World) (op : Int) :
    Calls Tryz.prog 31 #[.int .i64 op] w fun e w' => e = .returned (.bool (isO op)) ∧ w' = w := by
  have H : Hid (isO op = (decide (0 < op) && decide (op < 49))) := rfl
  generalize isO op = r at *
  by_cases h0 : 0 < op
  · by_cases h1 : op < 49
    · go_enter Tryz.func31, Tryz.ntmps31
      go_wp2
      go_ret
      exact ⟨ret_bool (by rw [H.out]; simp [h0, h1]), rfl⟩
    · go_enter Tryz.func31, Tryz.ntmps31
      go_wp2
      go_ret
      exact ⟨ret_bool (by rw [H.out]; simp [h0, h1]), rfl⟩
  · go_enter Tryz.func31, Tryz.ntmps31
    go_wp2
    all_goals go_ret
    all_goals exact ⟨ret_bool (by rw [H.out, decide_eq_false (by omega)]; rfl), rfl⟩
theorem zero60 : (Tryz.prog.info? 140).map (fun i => (i.zero, i.size)) = some (some (.agg #[.string ⟨#[]⟩, .int .i64 0, .int .i64 0]), 3) := by kernel_rfl

theorem rowOf_any (w : World) (hg : Gt w) (op : Int) :
    Calls Tryz.prog 73 #[.int .i64 op] w fun e w' => e = .returned (.agg #[.string (sb (nm op)), .int .i64 (fo op : Nat), .int .i64 (tk op : Nat)]) ∧ Kp w w' := by
  have hI := fun w => isO_any w op
  cases h : isO op
  · obtain ⟨e1, e2, e3⟩ := fo_no h
    rw [e1, e2, e3]
    rw [h] at hI
    clear e1 e2 e3 hg
    go_enter Tryz.func73, Tryz.ntmps73
    go_wp2_with (go_at_call 31; refine (hI _).mono ?_; rintro e w1 ⟨rfl, rfl⟩)
    refine bodyPost_ret (v := .agg #[.string (sb []), .int .i64 0, .int .i64 0]) (by simp [results, Tryz.results73, go_sem, sb]) rfl ⟨rfl, (Chg.refl _ _).alloc _⟩
  · obtain ⟨o0, o1⟩ := (isO_iff op).1 h
    obtain ⟨o, rfl⟩ : ∃ o : Nat, op = o := ⟨op.toNat, by omega⟩
    have ho : o < 49 := by omega
    obtain ⟨c0, c1, c2⟩ := (hg.alloc (.cells #[.string ⟨#[]⟩, .int .i64 0, .int .i64 0] 140)).ops o ho
    rw [show fo (o : Int) = fmTab.getD o 0 from rfl, show tk (o : Int) = tkTab.getD o 0 from rfl, show nm (o : Int) = nmTab.getD o [] from rfl]
    rw [h] at hI
    clear hg h
    generalize sb (nmTab.getD o []) = s at *
    generalize ((fmTab.getD o 0 : Nat) : Int) = f at *
    generalize ((tkTab.getD o 0 : Nat) : Int) = t at *
    go_enter Tryz.func73, Tryz.ntmps73
    go_wp2_with (go_at_call 31; refine (hI _).mono ?_; rintro e w1 ⟨rfl, rfl⟩)
    refine bodyPost_ret (v := .agg #[.string s, .int .i64 f, .int .i64 t]) (by simp [results, Tryz.results73, go_sem]) rfl ⟨rfl, ?_⟩
    exact (Chg.refl _ _).alloc _

theorem field60_0 (wx : World) (s : ByteArray) (f t : Int) : (Instr.field 140 (.agg #[.string s, .int .i64 f, .int .i64 t]) 0).run Tryz.prog wx = .ok (.string s) wx := by kernel_rfl
theorem field60_1 (wx : World) (s : ByteArray) (f t : Int) : (Instr.field 140 (.agg #[.string s, .int .i64 f, .int .i64 t]) 1).run Tryz.prog wx = .ok (.int .i64 f) wx := by kernel_rfl
theorem field60_2 (wx : World) (s : ByteArray) (f t : Int) : (Instr.field 140 (.agg #[.string s, .int .i64 f, .int .i64 t]) 2).run Tryz.prog wx = .ok (.int .i64 t) wx := by kernel_rfl
theorem field76_3 (wx : World) (a b c d : Int) : (Instr.field 127 (.agg #[.int .u64 a, .int .u64 b, .int .u64 c, .int .u64 d]) 3).run Tryz.prog wx = .ok (.int .u64 d) wx := by kernel_rfl
set_option maxRecDepth 100000 in
theorem Form_any (w : World) (hg : Gt w) (op : Int) :
    Calls Tryz.prog 105 #[.int .i64 op] w fun e w' => e = .returned (.int .i64 (fo op : Nat)) ∧ Kp w w' := by
  have hR := fun w h => rowOf_any w h op
  generalize sb (nm op) = s at *
  generalize fo op = f0 at *
  generalize tk op = t0 at *
  generalize (f0 : Int) = f at *
  generalize (t0 : Int) = t at *
  have hfd := fun w => field60_1 w s f t
  go_enter Tryz.func105, Tryz.ntmps105
  go_wp2_with (go_at_call 73; refine (hR _ hg).mono ?_; rintro e w1 ⟨rfl, k1⟩)
  go_ret
  exact ⟨rfl, k1⟩
set_option maxRecDepth 100000 in
theorem Name_any (w : World) (hg : Gt w) (op : Int) :
    Calls Tryz.prog 38 #[.int .i64 op] w fun e w' => e = .returned (.string (sb (nm op))) ∧ Kp w w' := by
  have hR := fun w h => rowOf_any w h op
  generalize sb (nm op) = s at *
  generalize fo op = f0 at *
  generalize tk op = t0 at *
  generalize (f0 : Int) = f at *
  generalize (t0 : Int) = t at *
  have hfd := fun w => field60_0 w s f t
  go_enter Tryz.func38, Tryz.ntmps38
  go_wp2_with (go_at_call 73; refine (hR _ hg).mono ?_; rintro e w1 ⟨rfl, k1⟩)
  go_ret
  exact ⟨rfl, k1⟩
theorem tab_lt : ∀ k : Fin 49, fmTab.getD k.val 0 < 9 := by decide +kernel
theorem fo_lt (op : Int) : fo op < 9 := by
  cases h : isO op
  · rw [(fo_no h).1]; omega
  · rcases op_pairs h with ⟨h, _⟩ | ⟨h, _⟩ | ⟨h, _⟩ | ⟨h, _⟩ | ⟨h, _⟩ | ⟨h, _⟩ | ⟨h, _⟩ | ⟨h, _⟩ | ⟨h, _⟩ | ⟨h, _⟩ | ⟨h, _⟩ | ⟨h, _⟩ | ⟨h, _⟩ <;> omega
/-- The layout of a form, as a value. -/
def lyV (f : Nat) : Value := .agg #[.int .u64 (lD f : Nat), .int .u64 (lA f : Nat), .int .u64 (lB f : Nat), .int .u64 (lI f : Nat)]
theorem layoutOf_any (w : World) (hg : Gt w) (op : Int) :
    Calls Tryz.prog 61 #[.int .i64 op] w fun e w' => e = .returned (.agg #[.int .u64 (lD (fo op) : Nat), .int .u64 (lA (fo op) : Nat), .int .u64 (lB (fo op) : Nat), .int .u64 (lI (fo op) : Nat)]) ∧ Kp w w' := by
  have hF := fun w h => Form_any w h op
  have hf := fo_lt op
  generalize fo op = f at *
  have hL : ∀ V, Gt V → V.cell? ⟨0, f * 4, none⟩ = some (.int .u64 (lD f : Nat)) ∧ V.cell? ⟨0, f * 4 + 1, none⟩ = some (.int .u64 (lA f : Nat)) ∧ V.cell? ⟨0, f * 4 + 2, none⟩ = some (.int .u64 (lB f : Nat)) ∧ V.cell? ⟨0, f * 4 + 3, none⟩ = some (.int .u64 (lI f : Nat)) := fun V h => h.lay f hf
  generalize lD f = y0 at *
  generalize lA f = y1 at *
  generalize lB f = y2 at *
  generalize lI f = y3 at *
  generalize (y0 : Int) = x0 at *
  generalize (y1 : Int) = x1 at *
  generalize (y2 : Int) = x2 at *
  generalize (y3 : Int) = x3 at *
  have hg1 := hg.alloc (.cells #[.int .u64 0, .int .u64 0, .int .u64 0, .int .u64 0] 127)
  go_enter Tryz.func61, Tryz.ntmps61
  go_wp2_with (go_at_call 105; refine (hF _ hg1).mono ?_; rintro e w1 ⟨rfl, k1⟩; obtain ⟨c0, c1, c2, c3⟩ := hL _ (hg1.keep k1); have g0 := Kp.heap k1 (heap_alloc_new w _); obtain ⟨a0, a1, a2, a3, f0, f1, f2, f3⟩ := cells4 g0)
  obtain ⟨V, hV⟩ : ∃ V, V = ((((w1.setCell ⟨w.heap.size, 0, none⟩ (.int .u64 x0)).setCell ⟨w.heap.size, 1, none⟩ (.int .u64 x1)).setCell ⟨w.heap.size, 2, none⟩ (.int .u64 x2)).setCell ⟨w.heap.size, 3, none⟩ (.int .u64 x3)) := ⟨_, rfl⟩
  rw [← hV]
  obtain ⟨v1, v2, v3⟩ := box4 g0 _ _ _ _ hV
  obtain ⟨r0, r1, r2, r3, _⟩ := cells4 v1
  refine bodyPost_ret (v := .agg #[.int .u64 x0, .int .u64 x1, .int .u64 x2, .int .u64 x3]) (by simp [results, Tryz.results61, go_sem, r0, r1, r2, r3]) rfl ⟨rfl, ?_⟩
  exact (((Chg.refl _ _).alloc _).trans k1 (fun _ _ h => h)).trans v3 (fun i hi e => absurd e (Nat.ne_of_lt hi))
end Go.Proofs.YtgofjmhdgmfgfaaGreatDoor
namespace Go.Proofs.YtgofjmhdgmfgfaaGreatDoor
open Go.ChangeShapes Go.WideShapes Go.ChangeAt Go.RowKit
set_option linter.unusedVariables false

theorem ret_u8 {k : IntKind} {a b : Int} (h : a = b) : Ending.returned (.int k a) = .returned (.int k b) := by rw [h]
/-- The lowest n bits. -/
theorem ones_0 (w : World) : Calls Tryz.prog 63 #[.int .u64 0] w fun e w' => e = .returned (.int .u32 0) ∧ w' = w := by
  go_enter Tryz.func63, Tryz.ntmps63
  go_wp2
  go_ret
  exact ⟨rfl, rfl⟩
theorem ones_4 (w : World) : Calls Tryz.prog 63 #[.int .u64 4] w fun e w' => e = .returned (.int .u32 15) ∧ w' = w := by
  go_enter Tryz.func63, Tryz.ntmps63
  go_wp2
  go_ret
  exact ⟨rfl, rfl⟩
theorem ones_6 (w : World) : Calls Tryz.prog 63 #[.int .u64 6] w fun e w' => e = .returned (.int .u32 63) ∧ w' = w := by
  go_enter Tryz.func63, Tryz.ntmps63
  go_wp2
  go_ret
  exact ⟨rfl, rfl⟩
theorem ones_18 (w : World) : Calls Tryz.prog 63 #[.int .u64 18] w fun e w' => e = .returned (.int .u32 262143) ∧ w' = w := by
  go_enter Tryz.func63, Tryz.ntmps63
  go_wp2
  go_ret
  exact ⟨rfl, rfl⟩
theorem ones_22 (w : World) : Calls Tryz.prog 63 #[.int .u64 22] w fun e w' => e = .returned (.int .u32 4194303) ∧ w' = w := by
  go_enter Tryz.func63, Tryz.ntmps63
  go_wp2
  go_ret
  exact ⟨rfl, rfl⟩
theorem ones_26 (w : World) : Calls Tryz.prog 63 #[.int .u64 26] w fun e w' => e = .returned (.int .u32 67108863) ∧ w' = w := by
  go_enter Tryz.func63, Tryz.ntmps63
  go_wp2
  go_ret
  exact ⟨rfl, rfl⟩
theorem mask_0 (w : World) : Calls Tryz.prog 62 #[.int .u64 0] w fun e w' => e = .returned (.int .u32 0) ∧ w' = w := by
  go_enter Tryz.func62, Tryz.ntmps62
  go_wp2
  go_ret
  exact ⟨rfl, rfl⟩
theorem mask_14 (w : World) : Calls Tryz.prog 62 #[.int .u64 14] w fun e w' => e = .returned (.int .u32 245760) ∧ w' = w := by
  go_enter Tryz.func62, Tryz.ntmps62
  go_wp2_with (go_at_call 63; refine (ones_4 _).mono ?_; rintro e w1 ⟨rfl, rfl⟩)
  go_ret
  exact ⟨rfl, rfl⟩
theorem mask_18 (w : World) : Calls Tryz.prog 62 #[.int .u64 18] w fun e w' => e = .returned (.int .u32 3932160) ∧ w' = w := by
  go_enter Tryz.func62, Tryz.ntmps62
  go_wp2_with (go_at_call 63; refine (ones_4 _).mono ?_; rintro e w1 ⟨rfl, rfl⟩)
  go_ret
  exact ⟨rfl, rfl⟩
theorem mask_22 (w : World) : Calls Tryz.prog 62 #[.int .u64 22] w fun e w' => e = .returned (.int .u32 62914560) ∧ w' = w := by
  go_enter Tryz.func62, Tryz.ntmps62
  go_wp2_with (go_at_call 63; refine (ones_4 _).mono ?_; rintro e w1 ⟨rfl, rfl⟩)
  go_ret
  exact ⟨rfl, rfl⟩

theorem wraps_u32' (n : Int) (h₀ : 0 ≤ n) (h₁ : n < 2 ^ 32) : IntKind.u32.wrap n = n := by
  simp [IntKind.wrap, IntKind.signed, IntKind.bits]; omega
theorem and_u32 (a b : Nat) (ha : a < 4294967296) (hb : b < 4294967296) : bits .and .u32 (a : Int) (b : Int) = ((a &&& b : Nat) : Int) :=
  (bits_nat .u32 32 (by decide) wraps_u32' a b (by omega) (by omega)).1
theorem or_u32 (a b : Nat) (ha : a < 4294967296) (hb : b < 4294967296) : bits .or .u32 (a : Int) (b : Int) = ((a ||| b : Nat) : Int) :=
  (bits_nat .u32 32 (by decide) wraps_u32' a b (by omega) (by omega)).2
/-- A field of four bits. -/
theorem and_field (v k : Nat) : (v &&& (15 * 2 ^ k)) / 2 ^ k = v / 2 ^ k % 16 := by
  apply Nat.eq_of_testBit_eq
  intro i
  rw [show (16 : Nat) = 2 ^ 4 from rfl]
  simp only [Nat.testBit_div_two_pow, Nat.testBit_and, Nat.testBit_mod_two_pow, show (15 : Nat) = 2 ^ 4 - 1 from rfl, Nat.testBit_mul_two_pow, Nat.testBit_two_pow_sub_one]
  by_cases h : i < 4 <;> simp [h, Nat.add_comm]
theorem at_0 (w : World) (v : Nat) (hv : v < 4294967296) : Calls Tryz.prog 64 #[.int .u32 v, .int .u64 0] w fun e w' => e = .returned (.int .u8 0) ∧ w' = w := by
  have h : bits .and .u32 (v : Int) 0 = 0 := by
    rw [show (0 : Int) = ((0 : Nat) : Int) from rfl, and_u32 v _ hv (by omega), Nat.and_zero]
  go_enter Tryz.func64, Tryz.ntmps64
  go_wp2_with (go_at_call 62; refine (mask_0 _).mono ?_; rintro e w1 ⟨rfl, rfl⟩)
  go_ret
  exact ⟨rfl, rfl⟩
theorem at_14 (w : World) (v : Nat) (hv : v < 4294967296) : Calls Tryz.prog 64 #[.int .u32 v, .int .u64 14] w fun e w' => e = .returned (.int .u8 (v / 16384 % 16 : Nat)) ∧ w' = w := by
  have h : bits .and .u32 (v : Int) 245760 / 16384 % 256 = ((v / 16384 % 16 : Nat) : Int) := by
    rw [show (245760 : Int) = ((245760 : Nat) : Int) from rfl, and_u32 v _ hv (by omega)]
    have := and_field v 14
    simp only [Nat.reducePow, Nat.reduceMul] at this
    omega
  generalize ((v / 16384 % 16 : Nat) : Int) = r at *
  go_enter Tryz.func64, Tryz.ntmps64
  go_wp2_with (go_at_call 62; refine (mask_14 _).mono ?_; rintro e w1 ⟨rfl, rfl⟩)
  go_ret
  exact ⟨ret_u8 h, rfl⟩
theorem at_18 (w : World) (v : Nat) (hv : v < 4294967296) : Calls Tryz.prog 64 #[.int .u32 v, .int .u64 18] w fun e w' => e = .returned (.int .u8 (v / 262144 % 16 : Nat)) ∧ w' = w := by
  have h : bits .and .u32 (v : Int) 3932160 / 262144 % 256 = ((v / 262144 % 16 : Nat) : Int) := by
    rw [show (3932160 : Int) = ((3932160 : Nat) : Int) from rfl, and_u32 v _ hv (by omega)]
    have := and_field v 18
    simp only [Nat.reducePow, Nat.reduceMul] at this
    omega
  generalize ((v / 262144 % 16 : Nat) : Int) = r at *
  go_enter Tryz.func64, Tryz.ntmps64
  go_wp2_with (go_at_call 62; refine (mask_18 _).mono ?_; rintro e w1 ⟨rfl, rfl⟩)
  go_ret
  exact ⟨ret_u8 h, rfl⟩
theorem at_22 (w : World) (v : Nat) (hv : v < 4294967296) : Calls Tryz.prog 64 #[.int .u32 v, .int .u64 22] w fun e w' => e = .returned (.int .u8 (v / 4194304 % 16 : Nat)) ∧ w' = w := by
  have h : bits .and .u32 (v : Int) 62914560 / 4194304 % 256 = ((v / 4194304 % 16 : Nat) : Int) := by
    rw [show (62914560 : Int) = ((62914560 : Nat) : Int) from rfl, and_u32 v _ hv (by omega)]
    have := and_field v 22
    simp only [Nat.reducePow, Nat.reduceMul] at this
    omega
  generalize ((v / 4194304 % 16 : Nat) : Int) = r at *
  go_enter Tryz.func64, Tryz.ntmps64
  go_wp2_with (go_at_call 62; refine (mask_22 _).mono ?_; rintro e w1 ⟨rfl, rfl⟩)
  go_ret
  exact ⟨ret_u8 h, rfl⟩
end Go.Proofs.YtgofjmhdgmfgfaaGreatDoor
