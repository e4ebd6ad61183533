import Derived.WalkKit
namespace Go.Proofs.YtghiffpolacmiabDoor
set_option linter.unusedVariables false

/-- The ops' forms, what numbers they take, their names; 0 is none. -/
def fmTab : List Nat := [0, 1, 1, 1, 1, 1, 1, 1, 1, 1, 1, 1, 1, 1, 2, 2, 2, 2, 2, 2, 2, 2, 2, 4, 2, 2, 2, 2, 2, 3, 3, 3, 3, 3, 3, 3, 3, 3, 4, 2, 7, 5, 8, 8, 8, 8, 6, 8, 8]
def tkTab : List Nat := [0, 0, 0, 0, 0, 0, 0, 0, 0, 0, 0, 0, 0, 0, 1, 3, 3, 3, 4, 4, 4, 1, 1, 3, 2, 2, 2, 2, 2, 2, 2, 2, 1, 1, 1, 1, 1, 1, 1, 1, 3, 0, 0, 0, 0, 0, 0, 0, 0]
def nmTab : List (List UInt8) := [[], [97, 100, 100], [115, 117, 98], [109, 117, 108], [100, 105, 118, 117], [114, 101, 109, 117], [97, 110, 100], [111, 114], [120, 111, 114], [115, 104, 108], [115, 104, 114], [115, 97, 114], [115, 108, 116], [115, 108, 116, 117], [97, 100, 100, 105], [97, 110, 100, 105], [111, 114, 105], [120, 111, 114, 105], [115, 104, 108, 105], [115, 104, 114, 105], [115, 97, 114, 105], [115, 108, 116, 105], [115, 108, 116, 117, 105], [108, 117, 105], [108, 98], [108, 98, 117], [108, 104], [108, 104, 117], [108, 119], [115, 98], [115, 104], [115, 119], [98, 101, 113], [98, 110, 101], [98, 108, 116], [98, 103, 101], [98, 108, 116, 117], [98, 103, 101, 117], [106, 97, 108], [106, 97, 108, 114], [104, 99, 97, 108, 108], [99, 108, 111, 99, 107], [119, 97, 105, 116], [101, 105], [100, 105], [101, 114, 101, 116], [118, 101, 99], [104, 97, 108, 116], [110, 111, 112]]
def lDTab : List Nat := [0, 22, 22, 0, 22, 22, 0, 0, 0]
def lATab : List Nat := [0, 18, 18, 22, 0, 0, 22, 0, 0]
def lBTab : List Nat := [0, 14, 0, 18, 0, 0, 0, 0, 0]
def lITab : List Nat := [0, 0, 18, 18, 22, 0, 0, 26, 0]
def pDTab : List Nat := [1, 4194304, 4194304, 1, 4194304, 4194304, 1, 1, 1]
def pATab : List Nat := [1, 262144, 262144, 4194304, 1, 1, 4194304, 1, 1]
def pBTab : List Nat := [1, 16384, 1, 262144, 1, 1, 1, 1, 1]
def pITab : List Nat := [1, 1, 262144, 262144, 4194304, 1, 1, 67108864, 1]
def hITab : List Nat := [1, 1, 131072, 131072, 2097152, 1, 1, 33554432, 1]
def pUTab : List Nat := [1, 16384, 1, 1, 1, 4194304, 4194304, 1, 67108864]
def fo (op : Int) : Nat := fmTab.getD op.toNat 0
def tk (op : Int) : Nat := tkTab.getD op.toNat 0
def nm (op : Int) : List UInt8 := nmTab.getD op.toNat []
def lD (f : Nat) : Nat := lDTab.getD f 0
def lA (f : Nat) : Nat := lATab.getD f 0
def lB (f : Nat) : Nat := lBTab.getD f 0
def lI (f : Nat) : Nat := lITab.getD f 0
def pD (f : Nat) : Nat := pDTab.getD f 0
def pA (f : Nat) : Nat := pATab.getD f 0
def pB (f : Nat) : Nat := pBTab.getD f 0
def pI (f : Nat) : Nat := pITab.getD f 0
def hI (f : Nat) : Nat := hITab.getD f 0
def pU (f : Nat) : Nat := pUTab.getD f 0
def isO (op : Int) : Bool := decide (0 < op) && decide (op < 49)

/-- May a register stand there? -/
def rm (r p : Nat) : Bool := if p = 0 then r == 0 else decide (r < 16)
def rms (op : Int) (d a b : Nat) : Bool := rm d (lD (fo op)) && rm a (lA (fo op)) && rm b (lB (fo op))
/-- From where to where the numbers go. -/
def loF (f t : Nat) : Int := if t = 1 ∨ t = 2 then -(hI f : Int) else 0
def hiF (f t : Nat) : Int := if t = 1 ∨ t = 2 then (hI f : Int) - 1 else if t = 3 then 262143 else if t = 4 then 31 else 0
def lo (op : Int) : Int := loF (fo op) (tk op)
def hi (op : Int) : Int := hiF (fo op) (tk op)
def im (op n : Int) : Bool := decide (lo op ≤ n) && decide (n ≤ hi op)
/-- What is wrong first with an instruction. -/
def ck (op : Int) (d a b : Nat) (n : Int) : Int := if isO op = false then 100 else if rms op d a b = false then 101 else if im op n = false then 102 else 0
/-- The word of one that may be. -/
def wdF (f : Nat) (op : Int) (d a b : Nat) (n : Int) : Nat := op.toNat * 67108864 + d * pD f + a * pA f + b * pB f + (n % (pI f : Int)).toNat
def wd (op : Int) (d a b : Nat) (n : Int) : Nat := wdF (fo op) op d a b n
def ew (op : Int) (d a b : Nat) (n : Int) : Int := if ck op d a b n = 0 then (wd op d a b n : Int) else 0

/-- Of a word. -/
def dO (w : Nat) : Int := ((w / 67108864 : Nat) : Int)
def dR (w l p : Nat) : Nat := if l = 0 then 0 else w / p % 16
def dF (f t w : Nat) : Int := if (t = 1 ∨ t = 2) ∧ hI f ≤ w % pI f then ((w % pI f : Nat) : Int) - (pI f : Int) else ((w % pI f : Nat) : Int)
def dD (w : Nat) : Nat := dR w (lD (fo (dO w))) (pD (fo (dO w)))
def dA (w : Nat) : Nat := dR w (lA (fo (dO w))) (pA (fo (dO w)))
def dB (w : Nat) : Nat := dR w (lB (fo (dO w))) (pB (fo (dO w)))
def dI (w : Nat) : Int := dF (fo (dO w)) (tk (dO w)) w
def stray (w : Nat) : Bool := w % pU (fo (dO w)) != 0
/-- What is wrong with a word. -/
def de (w : Nat) : Int := if isO (dO w) = false then 100 else if stray w = true then 103 else ck (dO w) (dD w) (dA w) (dB w) (dI w)
/-- A number, as an error leaves it. -/
def at0 (c x : Int) : Int := if c = 0 then x else 0

theorem lD_1 : lD 1 = 22 := rfl
theorem lD_2 : lD 2 = 22 := rfl
theorem lD_3 : lD 3 = 0 := rfl
theorem lD_4 : lD 4 = 22 := rfl
theorem lD_5 : lD 5 = 22 := rfl
theorem lD_6 : lD 6 = 0 := rfl
theorem lD_7 : lD 7 = 0 := rfl
theorem lD_8 : lD 8 = 0 := rfl
theorem lA_1 : lA 1 = 18 := rfl
theorem lA_2 : lA 2 = 18 := rfl
theorem lA_3 : lA 3 = 22 := rfl
theorem lA_4 : lA 4 = 0 := rfl
theorem lA_5 : lA 5 = 0 := rfl
theorem lA_6 : lA 6 = 22 := rfl
theorem lA_7 : lA 7 = 0 := rfl
theorem lA_8 : lA 8 = 0 := rfl
theorem lB_1 : lB 1 = 14 := rfl
theorem lB_2 : lB 2 = 0 := rfl
theorem lB_3 : lB 3 = 18 := rfl
theorem lB_4 : lB 4 = 0 := rfl
theorem lB_5 : lB 5 = 0 := rfl
theorem lB_6 : lB 6 = 0 := rfl
theorem lB_7 : lB 7 = 0 := rfl
theorem lB_8 : lB 8 = 0 := rfl
theorem lI_1 : lI 1 = 0 := rfl
theorem lI_2 : lI 2 = 18 := rfl
theorem lI_3 : lI 3 = 18 := rfl
theorem lI_4 : lI 4 = 22 := rfl
theorem lI_5 : lI 5 = 0 := rfl
theorem lI_6 : lI 6 = 0 := rfl
theorem lI_7 : lI 7 = 26 := rfl
theorem lI_8 : lI 8 = 0 := rfl
theorem pD_1 : pD 1 = 4194304 := rfl
theorem pD_2 : pD 2 = 4194304 := rfl
theorem pD_3 : pD 3 = 1 := rfl
theorem pD_4 : pD 4 = 4194304 := rfl
theorem pD_5 : pD 5 = 4194304 := rfl
theorem pD_6 : pD 6 = 1 := rfl
theorem pD_7 : pD 7 = 1 := rfl
theorem pD_8 : pD 8 = 1 := rfl
theorem pA_1 : pA 1 = 262144 := rfl
theorem pA_2 : pA 2 = 262144 := rfl
theorem pA_3 : pA 3 = 4194304 := rfl
theorem pA_4 : pA 4 = 1 := rfl
theorem pA_5 : pA 5 = 1 := rfl
theorem pA_6 : pA 6 = 4194304 := rfl
theorem pA_7 : pA 7 = 1 := rfl
theorem pA_8 : pA 8 = 1 := rfl
theorem pB_1 : pB 1 = 16384 := rfl
theorem pB_2 : pB 2 = 1 := rfl
theorem pB_3 : pB 3 = 262144 := rfl
theorem pB_4 : pB 4 = 1 := rfl
theorem pB_5 : pB 5 = 1 := rfl
theorem pB_6 : pB 6 = 1 := rfl
theorem pB_7 : pB 7 = 1 := rfl
theorem pB_8 : pB 8 = 1 := rfl
theorem pI_1 : pI 1 = 1 := rfl
theorem pI_2 : pI 2 = 262144 := rfl
theorem pI_3 : pI 3 = 262144 := rfl
theorem pI_4 : pI 4 = 4194304 := rfl
theorem pI_5 : pI 5 = 1 := rfl
theorem pI_6 : pI 6 = 1 := rfl
theorem pI_7 : pI 7 = 67108864 := rfl
theorem pI_8 : pI 8 = 1 := rfl
theorem hI_1 : hI 1 = 1 := rfl
theorem hI_2 : hI 2 = 131072 := rfl
theorem hI_3 : hI 3 = 131072 := rfl
theorem hI_4 : hI 4 = 2097152 := rfl
theorem hI_5 : hI 5 = 1 := rfl
theorem hI_6 : hI 6 = 1 := rfl
theorem hI_7 : hI 7 = 33554432 := rfl
theorem hI_8 : hI 8 = 1 := rfl
theorem pU_1 : pU 1 = 16384 := rfl
theorem pU_2 : pU 2 = 1 := rfl
theorem pU_3 : pU 3 = 1 := rfl
theorem pU_4 : pU 4 = 1 := rfl
theorem pU_5 : pU 5 = 4194304 := rfl
theorem pU_6 : pU 6 = 4194304 := rfl
theorem pU_7 : pU 7 = 1 := rfl
theorem pU_8 : pU 8 = 67108864 := rfl
def PP (f t : Nat) : Prop := (f = 1 ∧ t = 0) ∨ (f = 2 ∧ t = 1) ∨ (f = 2 ∧ t = 2) ∨ (f = 2 ∧ t = 3) ∨ (f = 2 ∧ t = 4) ∨ (f = 3 ∧ t = 1) ∨ (f = 3 ∧ t = 2) ∨ (f = 4 ∧ t = 1) ∨ (f = 4 ∧ t = 3) ∨ (f = 5 ∧ t = 0) ∨ (f = 6 ∧ t = 0) ∨ (f = 7 ∧ t = 3) ∨ (f = 8 ∧ t = 0)
instance (f t : Nat) : Decidable (PP f t) := by unfold PP; infer_instance
theorem tab_pairs : ∀ k : Fin 49, k.val = 0 ∨ PP (fmTab.getD k.val 0) (tkTab.getD k.val 0) := by decide +kernel
theorem isO_iff (op : Int) : isO op = true ↔ 0 < op ∧ op < 49 := by simp [isO]
/-- An op that is one: its form and what it takes. -/
theorem op_pairs {op : Int} (h : isO op = true) : PP (fo op) (tk op) := by
  obtain ⟨h0, h1⟩ := (isO_iff op).1 h
  have hl : op.toNat < 49 := by omega
  have := tab_pairs ⟨op.toNat, hl⟩
  unfold fo tk
  generalize fmTab.getD op.toNat 0 = f at *
  generalize tkTab.getD op.toNat 0 = t at *
  rcases this with h | h
  · exfalso
    have : op.toNat = 0 := h
    omega
  · exact h
theorem getD_none {α : Type} (l : List α) (k : Nat) (x : α) (h : l.length ≤ k) : l.getD k x = x := by
  rw [List.getD_eq_getElem?_getD, List.getElem?_eq_none h]; rfl
theorem fo_no {op : Int} (h : isO op = false) : fo op = 0 ∧ tk op = 0 ∧ nm op = [] := by
  have h' : ¬ (0 < op ∧ op < 49) := fun x => by rw [(isO_iff op).2 x] at h; cases h
  have : op.toNat = 0 ∨ 49 ≤ op.toNat := by omega
  rcases this with e | e
  · simp [fo, tk, nm, e, fmTab, tkTab, nmTab]
  · exact ⟨getD_none _ _ _ (by simpa [fmTab] using e), getD_none _ _ _ (by simpa [tkTab] using e), getD_none _ _ _ (by simpa [nmTab] using e)⟩

theorem ck_zero {op : Int} {d a b : Nat} {n : Int} (h : ck op d a b n = 0) : isO op = true ∧ rms op d a b = true ∧ im op n = true := by
  unfold ck at h
  split at h
  · omega
  · split at h
    · omega
    · split at h
      · omega
      · rename_i x y z
        exact ⟨by simpa using x, by simpa using y, by simpa using z⟩
theorem ck_of {op : Int} {d a b : Nat} {n : Int} (h : isO op = true) (h1 : rms op d a b = true) (h2 : im op n = true) : ck op d a b n = 0 := by
  unfold ck
  rw [if_neg (by rw [h]; decide), if_neg (by rw [h1]; decide), if_neg (by rw [h2]; decide)]


theorem dF_10 (W : Nat) : dF 1 0 W = (((W % 1 : Nat) : Int)) := by simp [dF, pI_1]
theorem de_10 (o d a b W : Nat) (n : Int) (ho : o < 49) (hd : d < 16) (ha : a < 16) (hb : b < 16) (hn : 0 ≤ n ∧ n ≤ 0) (hW : W = o * 67108864 + d * 4194304 + a * 262144 + b * 16384 + (n % 1).toNat) :
    W < 4294967296 ∧ W / 67108864 = o ∧ W % 16384 = 0 ∧ W / 4194304 % 16 = d ∧ W / 262144 % 16 = a ∧ W / 16384 % 16 = b ∧ (((W % 1 : Nat) : Int)) = n := by
  refine ⟨by omega, by omega, by omega, by omega, by omega, by omega, ?_⟩
  omega
theorem ed_10 (W : Nat) (h : W % 16384 = 0) : W / 67108864 * 67108864 + (W / 4194304 % 16) * 4194304 + (W / 262144 % 16) * 262144 + (W / 16384 % 16) * 16384 + ((((W % 1 : Nat) : Int)) % 1).toNat = W := by
  omega
theorem dF_21 (W : Nat) : dF 2 1 W = (if 131072 ≤ W % 262144 then ((W % 262144 : Nat) : Int) - 262144 else ((W % 262144 : Nat) : Int)) := by simp [dF, pI_2, hI_2]
theorem de_21 (o d a b W : Nat) (n : Int) (ho : o < 49) (hd : d < 16) (ha : a < 16) (hb : b = 0) (hn : -131072 ≤ n ∧ n ≤ 131071) (hW : W = o * 67108864 + d * 4194304 + a * 262144 + b * 1 + (n % 262144).toNat) :
    W < 4294967296 ∧ W / 67108864 = o ∧ W % 1 = 0 ∧ W / 4194304 % 16 = d ∧ W / 262144 % 16 = a ∧ 0 = b ∧ (if 131072 ≤ W % 262144 then ((W % 262144 : Nat) : Int) - 262144 else ((W % 262144 : Nat) : Int)) = n := by
  refine ⟨by omega, by omega, by omega, by omega, by omega, by omega, ?_⟩
  split <;> omega
theorem ed_21 (W : Nat) (h : W % 1 = 0) : W / 67108864 * 67108864 + (W / 4194304 % 16) * 4194304 + (W / 262144 % 16) * 262144 + (0) * 1 + ((if 131072 ≤ W % 262144 then ((W % 262144 : Nat) : Int) - 262144 else ((W % 262144 : Nat) : Int)) % 262144).toNat = W := by
  split <;> omega
theorem dF_22 (W : Nat) : dF 2 2 W = (if 131072 ≤ W % 262144 then ((W % 262144 : Nat) : Int) - 262144 else ((W % 262144 : Nat) : Int)) := by simp [dF, pI_2, hI_2]
theorem de_22 (o d a b W : Nat) (n : Int) (ho : o < 49) (hd : d < 16) (ha : a < 16) (hb : b = 0) (hn : -131072 ≤ n ∧ n ≤ 131071) (hW : W = o * 67108864 + d * 4194304 + a * 262144 + b * 1 + (n % 262144).toNat) :
    W < 4294967296 ∧ W / 67108864 = o ∧ W % 1 = 0 ∧ W / 4194304 % 16 = d ∧ W / 262144 % 16 = a ∧ 0 = b ∧ (if 131072 ≤ W % 262144 then ((W % 262144 : Nat) : Int) - 262144 else ((W % 262144 : Nat) : Int)) = n := by
  refine ⟨by omega, by omega, by omega, by omega, by omega, by omega, ?_⟩
  split <;> omega
theorem ed_22 (W : Nat) (h : W % 1 = 0) : W / 67108864 * 67108864 + (W / 4194304 % 16) * 4194304 + (W / 262144 % 16) * 262144 + (0) * 1 + ((if 131072 ≤ W % 262144 then ((W % 262144 : Nat) : Int) - 262144 else ((W % 262144 : Nat) : Int)) % 262144).toNat = W := by
  split <;> omega
theorem dF_23 (W : Nat) : dF 2 3 W = (((W % 262144 : Nat) : Int)) := by simp [dF, pI_2]
theorem de_23 (o d a b W : Nat) (n : Int) (ho : o < 49) (hd : d < 16) (ha : a < 16) (hb : b = 0) (hn : 0 ≤ n ∧ n ≤ 262143) (hW : W = o * 67108864 + d * 4194304 + a * 262144 + b * 1 + (n % 262144).toNat) :
    W < 4294967296 ∧ W / 67108864 = o ∧ W % 1 = 0 ∧ W / 4194304 % 16 = d ∧ W / 262144 % 16 = a ∧ 0 = b ∧ (((W % 262144 : Nat) : Int)) = n := by
  refine ⟨by omega, by omega, by omega, by omega, by omega, by omega, ?_⟩
  omega
theorem ed_23 (W : Nat) (h : W % 1 = 0) : W / 67108864 * 67108864 + (W / 4194304 % 16) * 4194304 + (W / 262144 % 16) * 262144 + (0) * 1 + ((((W % 262144 : Nat) : Int)) % 262144).toNat = W := by
  omega
theorem dF_24 (W : Nat) : dF 2 4 W = (((W % 262144 : Nat) : Int)) := by simp [dF, pI_2]
theorem de_24 (o d a b W : Nat) (n : Int) (ho : o < 49) (hd : d < 16) (ha : a < 16) (hb : b = 0) (hn : 0 ≤ n ∧ n ≤ 31) (hW : W = o * 67108864 + d * 4194304 + a * 262144 + b * 1 + (n % 262144).toNat) :
    W < 4294967296 ∧ W / 67108864 = o ∧ W % 1 = 0 ∧ W / 4194304 % 16 = d ∧ W / 262144 % 16 = a ∧ 0 = b ∧ (((W % 262144 : Nat) : Int)) = n := by
  refine ⟨by omega, by omega, by omega, by omega, by omega, by omega, ?_⟩
  omega
theorem ed_24 (W : Nat) (h : W % 1 = 0) : W / 67108864 * 67108864 + (W / 4194304 % 16) * 4194304 + (W / 262144 % 16) * 262144 + (0) * 1 + ((((W % 262144 : Nat) : Int)) % 262144).toNat = W := by
  omega
theorem dF_31 (W : Nat) : dF 3 1 W = (if 131072 ≤ W % 262144 then ((W % 262144 : Nat) : Int) - 262144 else ((W % 262144 : Nat) : Int)) := by simp [dF, pI_3, hI_3]
theorem de_31 (o d a b W : Nat) (n : Int) (ho : o < 49) (hd : d = 0) (ha : a < 16) (hb : b < 16) (hn : -131072 ≤ n ∧ n ≤ 131071) (hW : W = o * 67108864 + d * 1 + a * 4194304 + b * 262144 + (n % 262144).toNat) :
    W < 4294967296 ∧ W / 67108864 = o ∧ W % 1 = 0 ∧ 0 = d ∧ W / 4194304 % 16 = a ∧ W / 262144 % 16 = b ∧ (if 131072 ≤ W % 262144 then ((W % 262144 : Nat) : Int) - 262144 else ((W % 262144 : Nat) : Int)) = n := by
  refine ⟨by omega, by omega, by omega, by omega, by omega, by omega, ?_⟩
  split <;> omega
theorem ed_31 (W : Nat) (h : W % 1 = 0) : W / 67108864 * 67108864 + (0) * 1 + (W / 4194304 % 16) * 4194304 + (W / 262144 % 16) * 262144 + ((if 131072 ≤ W % 262144 then ((W % 262144 : Nat) : Int) - 262144 else ((W % 262144 : Nat) : Int)) % 262144).toNat = W := by
  split <;> omega
theorem dF_32 (W : Nat) : dF 3 2 W = (if 131072 ≤ W % 262144 then ((W % 262144 : Nat) : Int) - 262144 else ((W % 262144 : Nat) : Int)) := by simp [dF, pI_3, hI_3]
theorem de_32 (o d a b W : Nat) (n : Int) (ho : o < 49) (hd : d = 0) (ha : a < 16) (hb : b < 16) (hn : -131072 ≤ n ∧ n ≤ 131071) (hW : W = o * 67108864 + d * 1 + a * 4194304 + b * 262144 + (n % 262144).toNat) :
    W < 4294967296 ∧ W / 67108864 = o ∧ W % 1 = 0 ∧ 0 = d ∧ W / 4194304 % 16 = a ∧ W / 262144 % 16 = b ∧ (if 131072 ≤ W % 262144 then ((W % 262144 : Nat) : Int) - 262144 else ((W % 262144 : Nat) : Int)) = n := by
  refine ⟨by omega, by omega, by omega, by omega, by omega, by omega, ?_⟩
  split <;> omega
theorem ed_32 (W : Nat) (h : W % 1 = 0) : W / 67108864 * 67108864 + (0) * 1 + (W / 4194304 % 16) * 4194304 + (W / 262144 % 16) * 262144 + ((if 131072 ≤ W % 262144 then ((W % 262144 : Nat) : Int) - 262144 else ((W % 262144 : Nat) : Int)) % 262144).toNat = W := by
  split <;> omega
theorem dF_41 (W : Nat) : dF 4 1 W = (if 2097152 ≤ W % 4194304 then ((W % 4194304 : Nat) : Int) - 4194304 else ((W % 4194304 : Nat) : Int)) := by simp [dF, pI_4, hI_4]
theorem de_41 (o d a b W : Nat) (n : Int) (ho : o < 49) (hd : d < 16) (ha : a = 0) (hb : b = 0) (hn : -2097152 ≤ n ∧ n ≤ 2097151) (hW : W = o * 67108864 + d * 4194304 + a * 1 + b * 1 + (n % 4194304).toNat) :
    W < 4294967296 ∧ W / 67108864 = o ∧ W % 1 = 0 ∧ W / 4194304 % 16 = d ∧ 0 = a ∧ 0 = b ∧ (if 2097152 ≤ W % 4194304 then ((W % 4194304 : Nat) : Int) - 4194304 else ((W % 4194304 : Nat) : Int)) = n := by
  refine ⟨by omega, by omega, by omega, by omega, by omega, by omega, ?_⟩
  split <;> omega
theorem ed_41 (W : Nat) (h : W % 1 = 0) : W / 67108864 * 67108864 + (W / 4194304 % 16) * 4194304 + (0) * 1 + (0) * 1 + ((if 2097152 ≤ W % 4194304 then ((W % 4194304 : Nat) : Int) - 4194304 else ((W % 4194304 : Nat) : Int)) % 4194304).toNat = W := by
  split <;> omega
theorem dF_43 (W : Nat) : dF 4 3 W = (((W % 4194304 : Nat) : Int)) := by simp [dF, pI_4]
theorem de_43 (o d a b W : Nat) (n : Int) (ho : o < 49) (hd : d < 16) (ha : a = 0) (hb : b = 0) (hn : 0 ≤ n ∧ n ≤ 262143) (hW : W = o * 67108864 + d * 4194304 + a * 1 + b * 1 + (n % 4194304).toNat) :
    W < 4294967296 ∧ W / 67108864 = o ∧ W % 1 = 0 ∧ W / 4194304 % 16 = d ∧ 0 = a ∧ 0 = b ∧ (((W % 4194304 : Nat) : Int)) = n := by
  refine ⟨by omega, by omega, by omega, by omega, by omega, by omega, ?_⟩
  omega
theorem ed_43 (W : Nat) (h : W % 1 = 0) : W / 67108864 * 67108864 + (W / 4194304 % 16) * 4194304 + (0) * 1 + (0) * 1 + ((((W % 4194304 : Nat) : Int)) % 4194304).toNat = W := by
  omega
theorem dF_50 (W : Nat) : dF 5 0 W = (((W % 1 : Nat) : Int)) := by simp [dF, pI_5]
theorem de_50 (o d a b W : Nat) (n : Int) (ho : o < 49) (hd : d < 16) (ha : a = 0) (hb : b = 0) (hn : 0 ≤ n ∧ n ≤ 0) (hW : W = o * 67108864 + d * 4194304 + a * 1 + b * 1 + (n % 1).toNat) :
    W < 4294967296 ∧ W / 67108864 = o ∧ W % 4194304 = 0 ∧ W / 4194304 % 16 = d ∧ 0 = a ∧ 0 = b ∧ (((W % 1 : Nat) : Int)) = n := by
  refine ⟨by omega, by omega, by omega, by omega, by omega, by omega, ?_⟩
  omega
theorem ed_50 (W : Nat) (h : W % 4194304 = 0) : W / 67108864 * 67108864 + (W / 4194304 % 16) * 4194304 + (0) * 1 + (0) * 1 + ((((W % 1 : Nat) : Int)) % 1).toNat = W := by
  omega
theorem dF_60 (W : Nat) : dF 6 0 W = (((W % 1 : Nat) : Int)) := by simp [dF, pI_6]
theorem de_60 (o d a b W : Nat) (n : Int) (ho : o < 49) (hd : d = 0) (ha : a < 16) (hb : b = 0) (hn : 0 ≤ n ∧ n ≤ 0) (hW : W = o * 67108864 + d * 1 + a * 4194304 + b * 1 + (n % 1).toNat) :
    W < 4294967296 ∧ W / 67108864 = o ∧ W % 4194304 = 0 ∧ 0 = d ∧ W / 4194304 % 16 = a ∧ 0 = b ∧ (((W % 1 : Nat) : Int)) = n := by
  refine ⟨by omega, by omega, by omega, by omega, by omega, by omega, ?_⟩
  omega
theorem ed_60 (W : Nat) (h : W % 4194304 = 0) : W / 67108864 * 67108864 + (0) * 1 + (W / 4194304 % 16) * 4194304 + (0) * 1 + ((((W % 1 : Nat) : Int)) % 1).toNat = W := by
  omega
theorem dF_73 (W : Nat) : dF 7 3 W = (((W % 67108864 : Nat) : Int)) := by simp [dF, pI_7]
theorem de_73 (o d a b W : Nat) (n : Int) (ho : o < 49) (hd : d = 0) (ha : a = 0) (hb : b = 0) (hn : 0 ≤ n ∧ n ≤ 262143) (hW : W = o * 67108864 + d * 1 + a * 1 + b * 1 + (n % 67108864).toNat) :
    W < 4294967296 ∧ W / 67108864 = o ∧ W % 1 = 0 ∧ 0 = d ∧ 0 = a ∧ 0 = b ∧ (((W % 67108864 : Nat) : Int)) = n := by
  refine ⟨by omega, by omega, by omega, by omega, by omega, by omega, ?_⟩
  omega
theorem ed_73 (W : Nat) (h : W % 1 = 0) : W / 67108864 * 67108864 + (0) * 1 + (0) * 1 + (0) * 1 + ((((W % 67108864 : Nat) : Int)) % 67108864).toNat = W := by
  omega
theorem dF_80 (W : Nat) : dF 8 0 W = (((W % 1 : Nat) : Int)) := by simp [dF, pI_8]
theorem de_80 (o d a b W : Nat) (n : Int) (ho : o < 49) (hd : d = 0) (ha : a = 0) (hb : b = 0) (hn : 0 ≤ n ∧ n ≤ 0) (hW : W = o * 67108864 + d * 1 + a * 1 + b * 1 + (n % 1).toNat) :
    W < 4294967296 ∧ W / 67108864 = o ∧ W % 67108864 = 0 ∧ 0 = d ∧ 0 = a ∧ 0 = b ∧ (((W % 1 : Nat) : Int)) = n := by
  refine ⟨by omega, by omega, by omega, by omega, by omega, by omega, ?_⟩
  omega
theorem ed_80 (W : Nat) (h : W % 67108864 = 0) : W / 67108864 * 67108864 + (0) * 1 + (0) * 1 + (0) * 1 + ((((W % 1 : Nat) : Int)) % 1).toNat = W := by
  omega
theorem dec_enc {op : Int} {d a b : Nat} {n : Int} (h : ck op d a b n = 0) :
    wd op d a b n < 4294967296 ∧ dO (wd op d a b n) = op ∧ stray (wd op d a b n) = false ∧ dD (wd op d a b n) = d ∧ dA (wd op d a b n) = a ∧ dB (wd op d a b n) = b ∧ dI (wd op d a b n) = n := by
  obtain ⟨h0, h1, h2⟩ := ck_zero h
  obtain ⟨o0, o1⟩ := (isO_iff op).1 h0
  obtain ⟨o, rfl⟩ : ∃ o : Nat, op = o := ⟨op.toNat, by omega⟩
  obtain ⟨f, hf⟩ : ∃ f, f = fo o := ⟨_, rfl⟩
  obtain ⟨t, ht⟩ : ∃ t, t = tk o := ⟨_, rfl⟩
  have hp := op_pairs h0
  rw [← hf, ← ht] at hp
  obtain ⟨W, hW⟩ : ∃ W, W = wd o d a b n := ⟨_, rfl⟩
  rw [← hW]
  have hm : (rm d (lD f) = true ∧ rm a (lA f) = true) ∧ rm b (lB f) = true := by simpa [rms, ← hf] using h1
  have hn : loF f t ≤ n ∧ n ≤ hiF f t := by simpa [im, lo, hi, ← hf, ← ht] using h2
  have hw : W = o * 67108864 + d * pD f + a * pA f + b * pB f + (n % (pI f : Int)).toNat := by rw [hW, wd, wdF, ← hf, Int.toNat_natCast]
  suffices H : W < 4294967296 ∧ W / 67108864 = o ∧ W % pU f = 0 ∧ dR W (lD f) (pD f) = d ∧ dR W (lA f) (pA f) = a ∧ dR W (lB f) (pB f) = b ∧ dF f t W = n by
    obtain ⟨w1, w2, w3, w4, w5, w6, w7⟩ := H
    have eo : dO W = (o : Int) := by rw [dO, w2]
    exact ⟨w1, eo, by rw [stray, eo, ← hf, w3]; rfl, by rw [dD, eo, ← hf, w4], by rw [dA, eo, ← hf, w5], by rw [dB, eo, ← hf, w6], by rw [dI, eo, ← hf, ← ht, w7]⟩
  have ho : o < 49 := by omega
  clear hW hf ht h1 h2 h0 h o0 o1
  rcases hp with ⟨rfl, rfl⟩ | ⟨rfl, rfl⟩ | ⟨rfl, rfl⟩ | ⟨rfl, rfl⟩ | ⟨rfl, rfl⟩ | ⟨rfl, rfl⟩ | ⟨rfl, rfl⟩ | ⟨rfl, rfl⟩ | ⟨rfl, rfl⟩ | ⟨rfl, rfl⟩ | ⟨rfl, rfl⟩ | ⟨rfl, rfl⟩ | ⟨rfl, rfl⟩
  · rw [dF_10]; exact de_10 o d a b W n ho (by simpa [rm, lD_1] using hm.1.1) (by simpa [rm, lA_1] using hm.1.2) (by simpa [rm, lB_1] using hm.2) hn hw
  · rw [dF_21]; exact de_21 o d a b W n ho (by simpa [rm, lD_2] using hm.1.1) (by simpa [rm, lA_2] using hm.1.2) (by simpa [rm, lB_2] using hm.2) hn hw
  · rw [dF_22]; exact de_22 o d a b W n ho (by simpa [rm, lD_2] using hm.1.1) (by simpa [rm, lA_2] using hm.1.2) (by simpa [rm, lB_2] using hm.2) hn hw
  · rw [dF_23]; exact de_23 o d a b W n ho (by simpa [rm, lD_2] using hm.1.1) (by simpa [rm, lA_2] using hm.1.2) (by simpa [rm, lB_2] using hm.2) hn hw
  · rw [dF_24]; exact de_24 o d a b W n ho (by simpa [rm, lD_2] using hm.1.1) (by simpa [rm, lA_2] using hm.1.2) (by simpa [rm, lB_2] using hm.2) hn hw
  · rw [dF_31]; exact de_31 o d a b W n ho (by simpa [rm, lD_3] using hm.1.1) (by simpa [rm, lA_3] using hm.1.2) (by simpa [rm, lB_3] using hm.2) hn hw
  · rw [dF_32]; exact de_32 o d a b W n ho (by simpa [rm, lD_3] using hm.1.1) (by simpa [rm, lA_3] using hm.1.2) (by simpa [rm, lB_3] using hm.2) hn hw
  · rw [dF_41]; exact de_41 o d a b W n ho (by simpa [rm, lD_4] using hm.1.1) (by simpa [rm, lA_4] using hm.1.2) (by simpa [rm, lB_4] using hm.2) hn hw
  · rw [dF_43]; exact de_43 o d a b W n ho (by simpa [rm, lD_4] using hm.1.1) (by simpa [rm, lA_4] using hm.1.2) (by simpa [rm, lB_4] using hm.2) hn hw
  · rw [dF_50]; exact de_50 o d a b W n ho (by simpa [rm, lD_5] using hm.1.1) (by simpa [rm, lA_5] using hm.1.2) (by simpa [rm, lB_5] using hm.2) hn hw
  · rw [dF_60]; exact de_60 o d a b W n ho (by simpa [rm, lD_6] using hm.1.1) (by simpa [rm, lA_6] using hm.1.2) (by simpa [rm, lB_6] using hm.2) hn hw
  · rw [dF_73]; exact de_73 o d a b W n ho (by simpa [rm, lD_7] using hm.1.1) (by simpa [rm, lA_7] using hm.1.2) (by simpa [rm, lB_7] using hm.2) hn hw
  · rw [dF_80]; exact de_80 o d a b W n ho (by simpa [rm, lD_8] using hm.1.1) (by simpa [rm, lA_8] using hm.1.2) (by simpa [rm, lB_8] using hm.2) hn hw

theorem de_zero {w : Nat} (h : de w = 0) : isO (dO w) = true ∧ stray w = false ∧ ck (dO w) (dD w) (dA w) (dB w) (dI w) = 0 := by
  unfold de at h
  split at h
  · omega
  · split at h
    · omega
    · rename_i x y
      exact ⟨by simpa using x, by simpa using y, h⟩
theorem enc_dec {w : Nat} (h : de w = 0) : ck (dO w) (dD w) (dA w) (dB w) (dI w) = 0 ∧ wd (dO w) (dD w) (dA w) (dB w) (dI w) = w := by
  obtain ⟨h0, h1, h2⟩ := de_zero h
  refine ⟨h2, ?_⟩
  obtain ⟨f, hf⟩ : ∃ f, f = fo (dO w) := ⟨_, rfl⟩
  obtain ⟨t, ht⟩ : ∃ t, t = tk (dO w) := ⟨_, rfl⟩
  have hp := op_pairs h0
  rw [← hf, ← ht] at hp
  have hs : w % pU f = 0 := by simpa [stray, ← hf] using h1
  rw [wd, wdF, dD, dA, dB, dI, ← hf, ← ht, dO, Int.toNat_natCast]
  clear hf ht h0 h1 h2 h
  rcases hp with ⟨rfl, rfl⟩ | ⟨rfl, rfl⟩ | ⟨rfl, rfl⟩ | ⟨rfl, rfl⟩ | ⟨rfl, rfl⟩ | ⟨rfl, rfl⟩ | ⟨rfl, rfl⟩ | ⟨rfl, rfl⟩ | ⟨rfl, rfl⟩ | ⟨rfl, rfl⟩ | ⟨rfl, rfl⟩ | ⟨rfl, rfl⟩ | ⟨rfl, rfl⟩
  · rw [dF_10]; exact ed_10 w hs
  · rw [dF_21]; exact ed_21 w hs
  · rw [dF_22]; exact ed_22 w hs
  · rw [dF_23]; exact ed_23 w hs
  · rw [dF_24]; exact ed_24 w hs
  · rw [dF_31]; exact ed_31 w hs
  · rw [dF_32]; exact ed_32 w hs
  · rw [dF_41]; exact ed_41 w hs
  · rw [dF_43]; exact ed_43 w hs
  · rw [dF_50]; exact ed_50 w hs
  · rw [dF_60]; exact ed_60 w hs
  · rw [dF_73]; exact ed_73 w hs
  · rw [dF_80]; exact ed_80 w hs
end Go.Proofs.YtghiffpolacmiabDoor
