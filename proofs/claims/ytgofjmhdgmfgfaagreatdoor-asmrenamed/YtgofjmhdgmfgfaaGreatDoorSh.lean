import Derived.Test.YtgofjmhdgmfgfaaGreatDoorTi
import Derived.Test.YtgofjmhdgmfgfaaGreatDoorTb
import Derived.Shelf.Strings.OnBuilder
import Derived.Shelf.LaysM
import Derived.Shelf.Strconv.Itoa3
import Derived.Shelf.Strings.SlTrimAscii
import Derived.Shelf.Small.Strs
import Derived.Shelf.Small.Wraps
import Derived.Shelf.Strings.Search3
import Derived.Shelf.Strings.Cut
import Derived.Shelf.Strings.Split
import Derived.Shelf.Strings.Repeat
namespace Go.Proofs.YtgofjmhdgmfgfaaGreatDoor
open Go.ChangeShapes Go.WideShapes Go.ChangeAt Go.RowKit
set_option linter.unusedVariables false

/-- A digit; what a word may have behind its first letter. -/
def isDg (c : Nat) : Bool := decide (48 ≤ c) && decide (c ≤ 57)
def isWd (c : Nat) : Bool := (decide (97 ≤ c) && decide (c ≤ 122)) || (decide (65 ≤ c) && decide (c ≤ 90)) || isDg c || decide (c = 95) || decide (c = 46)
theorem isDigit_any (w : World) (c : Nat) :
    Calls Tryz.prog 99 #[.int .u8 c] w fun e w' => e = .returned (.bool (isDg c)) ∧ w' = w := by
  have H : Hid (isDg c = (decide (48 ≤ c) && decide (c ≤ 57))) := rfl
  generalize isDg c = r at *
  by_cases h0 : 48 ≤ c
  · by_cases h1 : c ≤ 57
    · have z0 : (48 : Int) ≤ c := by omega
      have z1 : (c : Int) ≤ 57 := by omega
      go_enter Tryz.func99, Tryz.ntmps99
      go_wp2
      go_ret
      exact ⟨ret_bool (by rw [H.out]; simp [h0, h1]), rfl⟩
    · have z0 : (48 : Int) ≤ c := by omega
      have z1 : ¬ (c : Int) ≤ 57 := by omega
      go_enter Tryz.func99, Tryz.ntmps99
      go_wp2
      go_ret
      exact ⟨ret_bool (by rw [H.out]; simp [h0, h1]), rfl⟩
  · have z0 : ¬ (48 : Int) ≤ c := by omega
    go_enter Tryz.func99, Tryz.ntmps99
    go_wp2
    all_goals go_ret
    all_goals exact ⟨ret_bool (by rw [H.out, decide_eq_false h0]; rfl), rfl⟩
set_option maxRecDepth 100000 in
theorem isOfWord_any (w : World) (c : Nat) :
    Calls Tryz.prog 130 #[.int .u8 c] w fun e w' => e = .returned (.bool (isWd c)) ∧ w' = w := by
  have hD := fun w => isDigit_any w c
  rcases (show (97 ≤ c ∧ c ≤ 122) ∨ (122 < c) ∨ (90 < c ∧ c < 97 ∧ c = 95) ∨ (90 < c ∧ c < 97 ∧ ¬ c = 95) ∨ (65 ≤ c ∧ c ≤ 90) ∨ (57 < c ∧ c < 65) ∨ (48 ≤ c ∧ c ≤ 57) ∨ (c < 48 ∧ c = 46) ∨ (c < 48 ∧ ¬ c = 46) by omega) with h | h | h | h | h | h | h | h | h
  · have H : isWd c = true := by simp [isWd, isDg]; omega
    have HG : isDg c = false := by simp [isDg]; omega
    rw [H]
    rw [HG] at hD
    have z0 : (97 : Int) ≤ c := by omega
    have z1 : (c : Int) ≤ 122 := by omega
    have z2 : (65 : Int) ≤ c := by omega
    have z3 : ¬ ((c : Int) ≤ 90) := by omega
    have z4 : ¬ ((c : Int) = 95) := by omega
    have z5 : ¬ ((c : Int) = 46) := by omega
    clear H HG h
    go_enter Tryz.func130, Tryz.ntmps130
    go_wp2_with (go_at_call 99; refine (hD _).mono ?_; rintro e w1 ⟨rfl, rfl⟩)
    go_ret
    exact ⟨ret_bool (by first | rfl | simp [z4, z5] | simp), rfl⟩
  · have H : isWd c = false := by simp [isWd, isDg]; omega
    have HG : isDg c = false := by simp [isDg]; omega
    rw [H]
    rw [HG] at hD
    have z0 : (97 : Int) ≤ c := by omega
    have z1 : ¬ ((c : Int) ≤ 122) := by omega
    have z2 : (65 : Int) ≤ c := by omega
    have z3 : ¬ ((c : Int) ≤ 90) := by omega
    have z4 : ¬ ((c : Int) = 95) := by omega
    have z5 : ¬ ((c : Int) = 46) := by omega
    clear H HG h
    go_enter Tryz.func130, Tryz.ntmps130
    go_wp2_with (go_at_call 99; refine (hD _).mono ?_; rintro e w1 ⟨rfl, rfl⟩)
    go_ret
    exact ⟨ret_bool (by first | rfl | simp [z4, z5] | simp), rfl⟩
  · obtain rfl : c = 95 := by omega
    have hD' : ∀ w, Calls Tryz.prog 99 #[.int .u8 95] w fun e w' => e = .returned (.bool false) ∧ w' = w := fun w => hD w
    rw [show isWd 95 = true from rfl]
    clear hD h
    go_enter Tryz.func130, Tryz.ntmps130
    go_wp2_with (go_at_call 99; refine (hD' _).mono ?_; rintro e w1 ⟨rfl, rfl⟩)
    go_ret
    exact ⟨rfl, rfl⟩
  · have H : isWd c = false := by simp [isWd, isDg]; omega
    have HG : isDg c = false := by simp [isDg]; omega
    rw [H]
    rw [HG] at hD
    have z0 : ¬ ((97 : Int) ≤ c) := by omega
    have z1 : (c : Int) ≤ 122 := by omega
    have z2 : (65 : Int) ≤ c := by omega
    have z3 : ¬ ((c : Int) ≤ 90) := by omega
    have z4 : ¬ ((c : Int) = 95) := by omega
    have z5 : ¬ ((c : Int) = 46) := by omega
    clear H HG h
    go_enter Tryz.func130, Tryz.ntmps130
    go_wp2_with (go_at_call 99; refine (hD _).mono ?_; rintro e w1 ⟨rfl, rfl⟩)
    go_ret
    exact ⟨ret_bool (by first | rfl | simp [z4, z5] | simp), rfl⟩
  · have H : isWd c = true := by simp [isWd, isDg]; omega
    have HG : isDg c = false := by simp [isDg]; omega
    rw [H]
    rw [HG] at hD
    have z0 : ¬ ((97 : Int) ≤ c) := by omega
    have z1 : (c : Int) ≤ 122 := by omega
    have z2 : (65 : Int) ≤ c := by omega
    have z3 : (c : Int) ≤ 90 := by omega
    have z4 : ¬ ((c : Int) = 95) := by omega
    have z5 : ¬ ((c : Int) = 46) := by omega
    clear H HG h
    go_enter Tryz.func130, Tryz.ntmps130
    go_wp2_with (go_at_call 99; refine (hD _).mono ?_; rintro e w1 ⟨rfl, rfl⟩)
    go_ret
    exact ⟨ret_bool (by first | rfl | simp [z4, z5] | simp), rfl⟩
  · have H : isWd c = false := by simp [isWd, isDg]; omega
    have HG : isDg c = false := by simp [isDg]; omega
    rw [H]
    rw [HG] at hD
    have z0 : ¬ ((97 : Int) ≤ c) := by omega
    have z1 : (c : Int) ≤ 122 := by omega
    have z2 : ¬ ((65 : Int) ≤ c) := by omega
    have z3 : (c : Int) ≤ 90 := by omega
    have z4 : ¬ ((c : Int) = 95) := by omega
    have z5 : ¬ ((c : Int) = 46) := by omega
    clear H HG h
    go_enter Tryz.func130, Tryz.ntmps130
    go_wp2_with (go_at_call 99; refine (hD _).mono ?_; rintro e w1 ⟨rfl, rfl⟩)
    go_ret
    exact ⟨ret_bool (by first | rfl | simp [z4, z5] | simp), rfl⟩
  · have H : isWd c = true := by simp [isWd, isDg]; omega
    have HG : isDg c = true := by simp [isDg]; omega
    rw [H]
    rw [HG] at hD
    have z0 : ¬ ((97 : Int) ≤ c) := by omega
    have z1 : (c : Int) ≤ 122 := by omega
    have z2 : ¬ ((65 : Int) ≤ c) := by omega
    have z3 : (c : Int) ≤ 90 := by omega
    have z4 : ¬ ((c : Int) = 95) := by omega
    have z5 : ¬ ((c : Int) = 46) := by omega
    clear H HG h
    go_enter Tryz.func130, Tryz.ntmps130
    go_wp2_with (go_at_call 99; refine (hD _).mono ?_; rintro e w1 ⟨rfl, rfl⟩)
    go_ret
    exact ⟨ret_bool (by first | rfl | simp [z4, z5] | simp), rfl⟩
  · obtain rfl : c = 46 := by omega
    have hD' : ∀ w, Calls Tryz.prog 99 #[.int .u8 46] w fun e w' => e = .returned (.bool false) ∧ w' = w := fun w => hD w
    rw [show isWd 46 = true from rfl]
    clear hD h
    go_enter Tryz.func130, Tryz.ntmps130
    go_wp2_with (go_at_call 99; refine (hD' _).mono ?_; rintro e w1 ⟨rfl, rfl⟩)
    go_ret
    exact ⟨rfl, rfl⟩
  · have H : isWd c = false := by simp [isWd, isDg]; omega
    have HG : isDg c = false := by simp [isDg]; omega
    rw [H]
    rw [HG] at hD
    have z0 : ¬ ((97 : Int) ≤ c) := by omega
    have z1 : (c : Int) ≤ 122 := by omega
    have z2 : ¬ ((65 : Int) ≤ c) := by omega
    have z3 : (c : Int) ≤ 90 := by omega
    have z4 : ¬ ((c : Int) = 95) := by omega
    have z5 : ¬ ((c : Int) = 46) := by omega
    clear H HG h
    go_enter Tryz.func130, Tryz.ntmps130
    go_wp2_with (go_at_call 99; refine (hD _).mono ?_; rintro e w1 ⟨rfl, rfl⟩)
    go_ret
    exact ⟨ret_bool (by first | rfl | simp [z4, z5] | simp), rfl⟩

/-- How many bytes of a word a text begins with. -/
def wlN (l : List UInt8) : Nat := (l.takeWhile fun c => isWd c.toNat).length
theorem wlN_le (l : List UInt8) : wlN l ≤ l.length := by
  unfold wlN
  exact List.Sublist.length_le (List.takeWhile_sublist _)
theorem wlN_lt {l : List UInt8} {j : Nat} (h : j < wlN l) : ∃ c, l[j]? = some c ∧ isWd c.toNat = true := by
  unfold wlN at h
  induction l generalizing j with
  | nil => simp at h
  | cons a l ih =>
    rw [List.takeWhile_cons] at h
    cases ha : isWd a.toNat
    · rw [ha] at h; simp at h
    · rw [ha] at h
      cases j with
      | zero => exact ⟨a, rfl, ha⟩
      | succ j => simp at h; simpa using ih (by omega)
theorem wlN_eq {l : List UInt8} {c : UInt8} (h : l[wlN l]? = some c) : isWd c.toNat = false := by
  unfold wlN at h
  induction l with
  | nil => simp at h
  | cons a l ih =>
    rw [List.takeWhile_cons] at h
    cases ha : isWd a.toNat
    · rw [ha] at h; simp at h; rw [← h]; exact ha
    · rw [ha] at h; simp at h; exact ih h
theorem sb_size (l : List UInt8) : (sb l).size = l.length := by simp [sb, ByteArray.size]
theorem sb_get {l : List UInt8} {j : Nat} {c : UInt8} (h : l[j]? = some c) (hs : j < (sb l).size) : (sb l)[j] = c := by
  obtain ⟨h1, h2⟩ := List.getElem?_eq_some_iff.1 h
  show l.toArray[j] = c
  simpa using h2
set_option maxRecDepth 100000 in
theorem wordLength_any (w : World) (l : List UInt8) (hl : l.length < 4611686018427387904) :
    Calls Tryz.prog 100 #[.string (sb l)] w fun e w' => e = .returned (.int .i64 (wlN l : Nat)) ∧ w' = w := by
  have hI := fun w c => isOfWord_any w c
  have hle := wlN_le l
  have hlt := fun j => @wlN_lt l j
  have heq := fun c => @wlN_eq l c
  generalize wlN l = n at *
  go_enter Tryz.func100, Tryz.ntmps100
  go_wp2
  go_loopw [3] (fun s3 wr => ∃ j : Nat, s3 = .int .i64 j ∧ j ≤ n ∧ wr = w) (fun s3 _ => n - (intOf s3).toNat)
  case atStart => exact ⟨0, rfl, by omega, rfl⟩
  case round =>
    obtain ⟨j, rfl, hj, rfl⟩ := hrel
    by_cases hjn : j < n
    · obtain ⟨c, hc, hw⟩ := hlt j hjn
      have hsz : (j : Int) < (sb l).size := by rw [sb_size]; omega
      have hI2 : ∀ (h : j < (sb l).size) w, Calls Tryz.prog 130 #[.int .u8 ((sb l)[j]'h).toNat] w fun e w' => e = .returned (.bool true) ∧ w' = w := fun h w => by
        rw [sb_get hc h, ← hw]; exact hI w _
      clear hlt heq hI hw hc
      go_wp2_with (go_at_call 130; refine (hI2 _ _).mono ?_; rintro e w1 ⟨rfl, rfl⟩)
      exact ⟨⟨j + 1, by go_num, by omega, trivial⟩, by simp [intOf]; omega⟩
    · obtain rfl : j = n := by omega
      by_cases hll : j < l.length
      · obtain ⟨c, hc⟩ : ∃ c, l[j]? = some c := ⟨_, List.getElem?_eq_getElem hll⟩
        have hw := heq c hc
        have hsz : (j : Int) < (sb l).size := by rw [sb_size]; omega
        have hI2 : ∀ (h : j < (sb l).size) w, Calls Tryz.prog 130 #[.int .u8 ((sb l)[j]'h).toNat] w fun e w' => e = .returned (.bool false) ∧ w' = w := fun h w => by
          rw [sb_get hc h, ← hw]; exact hI w _
        clear hlt heq hI hw hc
        go_wp2_with (go_at_call 130; refine (hI2 _ _).mono ?_; rintro e w1 ⟨rfl, rfl⟩)
        go_ret
        exact ⟨rfl, rfl⟩
      · have hsz : ¬ (j : Int) < (sb l).size := by rw [sb_size]; omega
        clear hlt heq hI
        go_wp2_with fail
        go_ret
        exact ⟨rfl, rfl⟩
end Go.Proofs.YtgofjmhdgmfgfaaGreatDoor
namespace Go.Proofs.YtgofjmhdgmfgfaaGreatDoor
open Go.Shelf
set_option linter.unusedVariables false

def ren169 : Go.Shelf.Ren := ⟨fun | 169 => 53 | n => n, fun | 70 => 105 | 9 => 9 | 0 => 0 | 72 => 108 | 37 => 106 | 127 => 168 | 3 => 3 | 5 => 5 | n => n, fun | n => n⟩
theorem lays169 : Go.Proofs.Lays.n169 Tryz.prog ren169 := {
  mixed := by kernel_rfl
  f169 := Tryz.func53.trans (congrArg some (by kernel_rfl))
  t0 := Tryz.underlying0
  a0 := Tryz.isAgg0
  z0 := Tryz.sizeOf0
  v0 := Tryz.zeroValue0
  t3 := Tryz.underlying3
  a3 := Tryz.isAgg3
  z3 := Tryz.sizeOf3
  v3 := Tryz.zeroValue3
  t9 := Tryz.underlying9
  a9 := Tryz.isAgg9
  z9 := Tryz.sizeOf9
  v9 := Tryz.zeroValue9
  t37 := Tryz.underlying106
  a37 := Tryz.isAgg106
  z37 := Tryz.sizeOf106
  v37 := Tryz.zeroValue106
  t70 := Tryz.underlying105
  a70 := Tryz.isAgg105
  z70 := Tryz.sizeOf105
  v70 := Tryz.zeroValue105
  t72 := Tryz.underlying108
  a72 := Tryz.isAgg108
  z72 := Tryz.sizeOf108
  v72 := Tryz.zeroValue108
  t127 := Tryz.underlying168
  a127 := Tryz.isAgg168
  z127 := Tryz.sizeOf168
  v127 := Tryz.zeroValue168 }
theorem extra169 : Builder.Extra Tryz.prog ren169 := {
  sizeBuilder := by kernel_rfl
  liesBuilder := by kernel_rfl
  t5 := Tryz.underlying5
  a5 := Tryz.isAgg5
  z5 := Tryz.sizeOf5
  v5 := Tryz.zeroValue5
  infoByte := by kernel_rfl
  cellsByte := by kernel_rfl
  sizeByte := by kernel_rfl
  neB5 := by decide }
def ren156 : Go.Shelf.Ren := ⟨fun | 156 => 39 | 165 => 71 | 166 => 52 | 169 => 53 | 240 => 103 | 241 => 115 | 276 => 133 | 277 => 139 | n => n, fun | 31 => 39 | 9 => 9 | 3 => 3 | 4 => 4 | 0 => 0 | 20 => 20 | 72 => 108 | 76 => 111 | 70 => 105 | 37 => 106 | 75 => 110 | 127 => 168 | 164 => 203 | 5 => 5 | 80 => 113 | n => n, fun | n => n⟩
theorem lays156 : Go.Proofs.Lays.n156 Tryz.prog ren156 := {
  mixed := by kernel_rfl
  f156 := Tryz.func39.trans (congrArg some (by kernel_rfl))
  f165 := Tryz.func71.trans (congrArg some (by kernel_rfl))
  f166 := Tryz.func52.trans (congrArg some (by kernel_rfl))
  f169 := Tryz.func53.trans (congrArg some (by kernel_rfl))
  f240 := Tryz.func103.trans (congrArg some (by kernel_rfl))
  f241 := Tryz.func115.trans (congrArg some (by kernel_rfl))
  f276 := Tryz.func133.trans (congrArg some (by kernel_rfl))
  f277 := Tryz.func139.trans (congrArg some (by kernel_rfl))
  t0 := Tryz.underlying0
  a0 := Tryz.isAgg0
  z0 := Tryz.sizeOf0
  v0 := Tryz.zeroValue0
  t3 := Tryz.underlying3
  a3 := Tryz.isAgg3
  z3 := Tryz.sizeOf3
  v3 := Tryz.zeroValue3
  t4 := Tryz.underlying4
  a4 := Tryz.isAgg4
  z4 := Tryz.sizeOf4
  v4 := Tryz.zeroValue4
  t9 := Tryz.underlying9
  a9 := Tryz.isAgg9
  z9 := Tryz.sizeOf9
  v9 := Tryz.zeroValue9
  t20 := Tryz.underlying20
  a20 := Tryz.isAgg20
  z20 := Tryz.sizeOf20
  v20 := Tryz.zeroValue20
  t31 := Tryz.underlying39
  a31 := Tryz.isAgg39
  z31 := Tryz.sizeOf39
  v31 := Tryz.zeroValue39
  t37 := Tryz.underlying106
  a37 := Tryz.isAgg106
  z37 := Tryz.sizeOf106
  v37 := Tryz.zeroValue106
  t70 := Tryz.underlying105
  a70 := Tryz.isAgg105
  z70 := Tryz.sizeOf105
  v70 := Tryz.zeroValue105
  t72 := Tryz.underlying108
  a72 := Tryz.isAgg108
  z72 := Tryz.sizeOf108
  v72 := Tryz.zeroValue108
  t75 := Tryz.underlying110
  a75 := Tryz.isAgg110
  z75 := Tryz.sizeOf110
  v75 := Tryz.zeroValue110
  t76 := Tryz.underlying111
  a76 := Tryz.isAgg111
  z76 := Tryz.sizeOf111
  v76 := Tryz.zeroValue111
  t127 := Tryz.underlying168
  a127 := Tryz.isAgg168
  z127 := Tryz.sizeOf168
  v127 := Tryz.zeroValue168
  t164 := Tryz.underlying203
  a164 := Tryz.isAgg203
  z164 := Tryz.sizeOf203
  v164 := Tryz.zeroValue203 }
theorem extra156 : Builder.Extra Tryz.prog ren156 := {
  sizeBuilder := by kernel_rfl
  liesBuilder := by kernel_rfl
  t5 := Tryz.underlying5
  a5 := Tryz.isAgg5
  z5 := Tryz.sizeOf5
  v5 := Tryz.zeroValue5
  infoByte := by kernel_rfl
  cellsByte := by kernel_rfl
  sizeByte := by kernel_rfl
  neB5 := by decide }
def ren161 : Go.Shelf.Ren := ⟨fun | 161 => 86 | 231 => 124 | 227 => 125 | 233 => 126 | 235 => 127 | 228 => 145 | 197 => 142 | 151 => 146 | 260 => 154 | 152 => 158 | 137 => 128 | 119 => 163 | 224 => 156 | 225 => 155 | 217 => 147 | 266 => 159 | n => n, fun | 9 => 9 | 4 => 4 | 3 => 3 | 5 => 5 | 117 => 194 | 116 => 193 | 0 => 0 | 124 => 197 | 105 => 212 | 21 => 21 | 119 => 225 | 46 => 66 | 139 => 228 | 138 => 227 | n => n, fun | 3 => 7 | 4 => 8 | n => n⟩
theorem lays161 : Go.Proofs.Lays.n161 Tryz.prog ren161 := {
  mixed := by kernel_rfl
  f119 := Tryz.func163.trans (congrArg some (by kernel_rfl))
  f137 := Tryz.func128.trans (congrArg some (by kernel_rfl))
  f151 := Tryz.func146.trans (congrArg some (by kernel_rfl))
  f152 := Tryz.func158.trans (congrArg some (by kernel_rfl))
  f161 := Tryz.func86.trans (congrArg some (by kernel_rfl))
  f197 := Tryz.func142.trans (congrArg some (by kernel_rfl))
  f217 := Tryz.func147.trans (congrArg some (by kernel_rfl))
  f224 := Tryz.func156.trans (congrArg some (by kernel_rfl))
  f225 := Tryz.func155.trans (congrArg some (by kernel_rfl))
  f227 := Tryz.func125.trans (congrArg some (by kernel_rfl))
  f228 := Tryz.func145.trans (congrArg some (by kernel_rfl))
  f231 := Tryz.func124.trans (congrArg some (by kernel_rfl))
  f233 := Tryz.func126.trans (congrArg some (by kernel_rfl))
  f235 := Tryz.func127.trans (congrArg some (by kernel_rfl))
  f260 := Tryz.func154.trans (congrArg some (by kernel_rfl))
  f266 := Tryz.func159.trans (congrArg some (by kernel_rfl))
  t0 := Tryz.underlying0
  a0 := Tryz.isAgg0
  z0 := Tryz.sizeOf0
  v0 := Tryz.zeroValue0
  t3 := Tryz.underlying3
  a3 := Tryz.isAgg3
  z3 := Tryz.sizeOf3
  v3 := Tryz.zeroValue3
  t4 := Tryz.underlying4
  a4 := Tryz.isAgg4
  z4 := Tryz.sizeOf4
  v4 := Tryz.zeroValue4
  t5 := Tryz.underlying5
  a5 := Tryz.isAgg5
  z5 := Tryz.sizeOf5
  v5 := Tryz.zeroValue5
  t9 := Tryz.underlying9
  a9 := Tryz.isAgg9
  z9 := Tryz.sizeOf9
  v9 := Tryz.zeroValue9
  t21 := Tryz.underlying21
  a21 := Tryz.isAgg21
  z21 := Tryz.sizeOf21
  v21 := Tryz.zeroValue21
  t46 := Tryz.underlying66
  a46 := Tryz.isAgg66
  z46 := Tryz.sizeOf66
  v46 := Tryz.zeroValue66
  t105 := Tryz.underlying212
  a105 := Tryz.isAgg212
  z105 := Tryz.sizeOf212
  v105 := Tryz.zeroValue212
  t116 := Tryz.underlying193
  a116 := Tryz.isAgg193
  z116 := Tryz.sizeOf193
  t117 := Tryz.underlying194
  a117 := Tryz.isAgg194
  z117 := Tryz.sizeOf194
  v117 := Tryz.zeroValue194
  t119 := Tryz.underlying225
  a119 := Tryz.isAgg225
  z119 := Tryz.sizeOf225
  t124 := Tryz.underlying197
  a124 := Tryz.isAgg197
  z124 := Tryz.sizeOf197
  v124 := Tryz.zeroValue197
  t138 := Tryz.underlying227
  a138 := Tryz.isAgg227
  z138 := Tryz.sizeOf227
  v138 := Tryz.zeroValue227
  t139 := Tryz.underlying228
  a139 := Tryz.isAgg228
  z139 := Tryz.sizeOf228
  v139 := Tryz.zeroValue228
  g3 := by kernel_rfl
  g4 := by kernel_rfl }
def ren137 : Go.Shelf.Ren := ⟨fun | 137 => 128 | 217 => 147 | 266 => 159 | n => n, fun | 9 => 9 | 5 => 5 | 3 => 3 | n => n, fun | n => n⟩
theorem lays137 : Go.Proofs.Lays.n137 Tryz.prog ren137 := {
  mixed := by kernel_rfl
  f137 := Tryz.func128.trans (congrArg some (by kernel_rfl))
  f217 := Tryz.func147.trans (congrArg some (by kernel_rfl))
  f266 := Tryz.func159.trans (congrArg some (by kernel_rfl))
  t3 := Tryz.underlying3
  a3 := Tryz.isAgg3
  z3 := Tryz.sizeOf3
  v3 := Tryz.zeroValue3
  t5 := Tryz.underlying5
  a5 := Tryz.isAgg5
  z5 := Tryz.sizeOf5
  v5 := Tryz.zeroValue5
  t9 := Tryz.underlying9
  a9 := Tryz.isAgg9
  z9 := Tryz.sizeOf9
  v9 := Tryz.zeroValue9 }
def ren103 : Go.Shelf.Ren := ⟨fun | 103 => 148 | 210 => 160 | 206 => 114 | n => n, fun | 9 => 9 | 4 => 4 | 24 => 215 | 3 => 3 | n => n, fun | n => n⟩
theorem lays103 : Go.Proofs.Lays.n103 Tryz.prog ren103 := {
  mixed := by kernel_rfl
  f103 := Tryz.func148.trans (congrArg some (by kernel_rfl))
  f206 := Tryz.func114.trans (congrArg some (by kernel_rfl))
  f210 := Tryz.func160.trans (congrArg some (by kernel_rfl))
  t3 := Tryz.underlying3
  a3 := Tryz.isAgg3
  z3 := Tryz.sizeOf3
  v3 := Tryz.zeroValue3
  t4 := Tryz.underlying4
  a4 := Tryz.isAgg4
  z4 := Tryz.sizeOf4
  v4 := Tryz.zeroValue4
  t9 := Tryz.underlying9
  a9 := Tryz.isAgg9
  z9 := Tryz.sizeOf9
  v9 := Tryz.zeroValue9
  t24 := Tryz.underlying215
  a24 := Tryz.isAgg215
  z24 := Tryz.sizeOf215
  v24 := Tryz.zeroValue215 }
def renM171 : Go.Shelf.Ren := ⟨fun | 171 => 116 | 243 => 140 | 246 => 153 | 283 => 108 | 284 => 109 | 285 => 110 | 286 => 111 | 129 => 135 | 317 => 134 | 318 => 136 | 319 => 137 | 320 => 138 | 337 => 151 | 338 => 152 | n => n, fun | 3 => 3 | 9 => 9 | 2 => 2 | 4 => 4 | 171 => 176 | 0 => 0 | 53 => 71 | 37 => 106 | 5 => 5 | 173 => 179 | 212 => 207 | 51 => 22 | 20 => 20 | 213 => 208 | 46 => 66 | 232 => 223 | 233 => 224 | n => n, fun | 17 => 3 | 18 => 5 | 19 => 6 | n => n⟩
theorem laysM171 : Go.Proofs.LaysM.n171 Tryz.prog renM171 := {
  mixed := by kernel_rfl
  f129 := Tryz.func135.trans (congrArg some (by kernel_rfl))
  f171 := Tryz.func116.trans (congrArg some (by kernel_rfl))
  f243 := Tryz.func140.trans (congrArg some (by kernel_rfl))
  f246 := Tryz.func153.trans (congrArg some (by kernel_rfl))
  f283 := Tryz.func108.trans (congrArg some (by kernel_rfl))
  f284 := Tryz.func109.trans (congrArg some (by kernel_rfl))
  f285 := Tryz.func110.trans (congrArg some (by kernel_rfl))
  f286 := Tryz.func111.trans (congrArg some (by kernel_rfl))
  f317 := Tryz.func134.trans (congrArg some (by kernel_rfl))
  f318 := Tryz.func136.trans (congrArg some (by kernel_rfl))
  f319 := Tryz.func137.trans (congrArg some (by kernel_rfl))
  f320 := Tryz.func138.trans (congrArg some (by kernel_rfl))
  f337 := Tryz.func151.trans (congrArg some (by kernel_rfl))
  f338 := Tryz.func152.trans (congrArg some (by kernel_rfl))
  t0 := Tryz.underlying0
  a0 := Tryz.isAgg0
  z0 := Tryz.sizeOf0
  v0 := Tryz.zeroValue0
  t2 := Tryz.underlying2
  a2 := Tryz.isAgg2
  z2 := Tryz.sizeOf2
  v2 := Tryz.zeroValue2
  t3 := Tryz.underlying3
  a3 := Tryz.isAgg3
  z3 := Tryz.sizeOf3
  v3 := Tryz.zeroValue3
  t4 := Tryz.underlying4
  a4 := Tryz.isAgg4
  z4 := Tryz.sizeOf4
  v4 := Tryz.zeroValue4
  t5 := Tryz.underlying5
  a5 := Tryz.isAgg5
  z5 := Tryz.sizeOf5
  v5 := Tryz.zeroValue5
  t9 := Tryz.underlying9
  a9 := Tryz.isAgg9
  z9 := Tryz.sizeOf9
  v9 := Tryz.zeroValue9
  t20 := Tryz.underlying20
  a20 := Tryz.isAgg20
  z20 := Tryz.sizeOf20
  v20 := Tryz.zeroValue20
  t37 := Tryz.underlying106
  a37 := Tryz.isAgg106
  z37 := Tryz.sizeOf106
  v37 := Tryz.zeroValue106
  t46 := Tryz.underlying66
  a46 := Tryz.isAgg66
  z46 := Tryz.sizeOf66
  v46 := Tryz.zeroValue66
  t51 := Tryz.underlying22
  a51 := Tryz.isAgg22
  z51 := Tryz.sizeOf22
  v51 := Tryz.zeroValue22
  t53 := Tryz.underlying71
  a53 := Tryz.isAgg71
  z53 := Tryz.sizeOf71
  v53 := Tryz.zeroValue71
  t171 := Tryz.underlying176
  a171 := Tryz.isAgg176
  z171 := Tryz.sizeOf176
  v171 := Tryz.zeroValue176
  t173 := Tryz.underlying179
  a173 := Tryz.isAgg179
  z173 := Tryz.sizeOf179
  v173 := Tryz.zeroValue179
  t212 := Tryz.underlying207
  a212 := Tryz.isAgg207
  z212 := Tryz.sizeOf207
  v212 := Tryz.zeroValue207
  t213 := Tryz.underlying208
  a213 := Tryz.isAgg208
  z213 := Tryz.sizeOf208
  t232 := Tryz.underlying223
  a232 := Tryz.isAgg223
  z232 := Tryz.sizeOf223
  v232 := Tryz.zeroValue223
  t233 := Tryz.underlying224
  a233 := Tryz.isAgg224
  z233 := Tryz.sizeOf224
  v233 := Tryz.zeroValue224
  g17 := by kernel_rfl
  g18 := by kernel_rfl
  g19 := by kernel_rfl
  i0 := by kernel_rfl
  i2 := by kernel_rfl
  i3 := by kernel_rfl
  i4 := by kernel_rfl
  i5 := by kernel_rfl
  i9 := by kernel_rfl
  i20 := by kernel_rfl
  i37 := by kernel_rfl
  i46 := by kernel_rfl
  i51 := by kernel_rfl
  i53 := by kernel_rfl
  i171 := by kernel_rfl
  i173 := by kernel_rfl
  i212 := by kernel_rfl
  i232 := by kernel_rfl
  i233 := by kernel_rfl
  m17 := by kernel_rfl
  m18 := by kernel_rfl
  m19 := by kernel_rfl }
def ren144 : Go.Shelf.Ren := ⟨fun | 144 => 101 | 143 => 122 | 219 => 144 | 217 => 147 | 225 => 155 | 224 => 156 | 267 => 157 | 266 => 159 | 314 => 162 | n => n, fun | 9 => 9 | 4 => 4 | 3 => 3 | 5 => 5 | 46 => 66 | 146 => 181 | 51 => 22 | n => n, fun | 1 => 4 | n => n⟩
theorem lays144 : Go.Proofs.Lays.n144 Tryz.prog ren144 := {
  mixed := by kernel_rfl
  f143 := Tryz.func122.trans (congrArg some (by kernel_rfl))
  f144 := Tryz.func101.trans (congrArg some (by kernel_rfl))
  f217 := Tryz.func147.trans (congrArg some (by kernel_rfl))
  f219 := Tryz.func144.trans (congrArg some (by kernel_rfl))
  f224 := Tryz.func156.trans (congrArg some (by kernel_rfl))
  f225 := Tryz.func155.trans (congrArg some (by kernel_rfl))
  f266 := Tryz.func159.trans (congrArg some (by kernel_rfl))
  f267 := Tryz.func157.trans (congrArg some (by kernel_rfl))
  f314 := Tryz.func162.trans (congrArg some (by kernel_rfl))
  t3 := Tryz.underlying3
  a3 := Tryz.isAgg3
  z3 := Tryz.sizeOf3
  v3 := Tryz.zeroValue3
  t4 := Tryz.underlying4
  a4 := Tryz.isAgg4
  z4 := Tryz.sizeOf4
  v4 := Tryz.zeroValue4
  t5 := Tryz.underlying5
  a5 := Tryz.isAgg5
  z5 := Tryz.sizeOf5
  v5 := Tryz.zeroValue5
  t9 := Tryz.underlying9
  a9 := Tryz.isAgg9
  z9 := Tryz.sizeOf9
  v9 := Tryz.zeroValue9
  t46 := Tryz.underlying66
  a46 := Tryz.isAgg66
  z46 := Tryz.sizeOf66
  v46 := Tryz.zeroValue66
  t51 := Tryz.underlying22
  a51 := Tryz.isAgg22
  z51 := Tryz.sizeOf22
  v51 := Tryz.zeroValue22
  t146 := Tryz.underlying181
  a146 := Tryz.isAgg181
  z146 := Tryz.sizeOf181
  v146 := Tryz.zeroValue181
  g1 := by kernel_rfl }
def ren145 : Go.Shelf.Ren := ⟨fun | 145 => 85 | 220 => 123 | 219 => 144 | 217 => 147 | 225 => 155 | 224 => 156 | 267 => 157 | 266 => 159 | 314 => 162 | n => n, fun | 9 => 9 | 4 => 4 | 59 => 146 | 3 => 3 | 5 => 5 | 46 => 66 | 146 => 181 | 51 => 22 | n => n, fun | 1 => 4 | n => n⟩
theorem lays145 : Go.Proofs.Lays.n145 Tryz.prog ren145 := {
  mixed := by kernel_rfl
  f145 := Tryz.func85.trans (congrArg some (by kernel_rfl))
  f217 := Tryz.func147.trans (congrArg some (by kernel_rfl))
  f219 := Tryz.func144.trans (congrArg some (by kernel_rfl))
  f220 := Tryz.func123.trans (congrArg some (by kernel_rfl))
  f224 := Tryz.func156.trans (congrArg some (by kernel_rfl))
  f225 := Tryz.func155.trans (congrArg some (by kernel_rfl))
  f266 := Tryz.func159.trans (congrArg some (by kernel_rfl))
  f267 := Tryz.func157.trans (congrArg some (by kernel_rfl))
  f314 := Tryz.func162.trans (congrArg some (by kernel_rfl))
  t3 := Tryz.underlying3
  a3 := Tryz.isAgg3
  z3 := Tryz.sizeOf3
  v3 := Tryz.zeroValue3
  t4 := Tryz.underlying4
  a4 := Tryz.isAgg4
  z4 := Tryz.sizeOf4
  v4 := Tryz.zeroValue4
  t5 := Tryz.underlying5
  a5 := Tryz.isAgg5
  z5 := Tryz.sizeOf5
  v5 := Tryz.zeroValue5
  t9 := Tryz.underlying9
  a9 := Tryz.isAgg9
  z9 := Tryz.sizeOf9
  v9 := Tryz.zeroValue9
  t46 := Tryz.underlying66
  a46 := Tryz.isAgg66
  z46 := Tryz.sizeOf66
  v46 := Tryz.zeroValue66
  t51 := Tryz.underlying22
  a51 := Tryz.isAgg22
  z51 := Tryz.sizeOf22
  v51 := Tryz.zeroValue22
  t59 := Tryz.underlying146
  a59 := Tryz.isAgg146
  z59 := Tryz.sizeOf146
  v59 := Tryz.zeroValue146
  t146 := Tryz.underlying181
  a146 := Tryz.isAgg181
  z146 := Tryz.sizeOf181
  v146 := Tryz.zeroValue181
  g1 := by kernel_rfl }
def ren146 : Go.Shelf.Ren := ⟨fun | 146 => 41 | 221 => 84 | 268 => 120 | 138 => 121 | 143 => 122 | 195 => 141 | 197 => 142 | 218 => 143 | 219 => 144 | 260 => 154 | 217 => 147 | 225 => 155 | 224 => 156 | 267 => 157 | 266 => 159 | 314 => 162 | n => n, fun | 9 => 9 | 31 => 39 | 3 => 3 | 4 => 4 | 0 => 0 | 105 => 212 | 21 => 21 | 5 => 5 | 46 => 66 | 119 => 225 | 139 => 228 | 138 => 227 | 146 => 181 | 51 => 22 | n => n, fun | 1 => 4 | 3 => 7 | 4 => 8 | n => n⟩
theorem lays146 : Go.Proofs.Lays.n146 Tryz.prog ren146 := {
  mixed := by kernel_rfl
  f138 := Tryz.func121.trans (congrArg some (by kernel_rfl))
  f143 := Tryz.func122.trans (congrArg some (by kernel_rfl))
  f146 := Tryz.func41.trans (congrArg some (by kernel_rfl))
  f195 := Tryz.func141.trans (congrArg some (by kernel_rfl))
  f197 := Tryz.func142.trans (congrArg some (by kernel_rfl))
  f217 := Tryz.func147.trans (congrArg some (by kernel_rfl))
  f218 := Tryz.func143.trans (congrArg some (by kernel_rfl))
  f219 := Tryz.func144.trans (congrArg some (by kernel_rfl))
  f221 := Tryz.func84.trans (congrArg some (by kernel_rfl))
  f224 := Tryz.func156.trans (congrArg some (by kernel_rfl))
  f225 := Tryz.func155.trans (congrArg some (by kernel_rfl))
  f260 := Tryz.func154.trans (congrArg some (by kernel_rfl))
  f266 := Tryz.func159.trans (congrArg some (by kernel_rfl))
  f267 := Tryz.func157.trans (congrArg some (by kernel_rfl))
  f268 := Tryz.func120.trans (congrArg some (by kernel_rfl))
  f314 := Tryz.func162.trans (congrArg some (by kernel_rfl))
  t0 := Tryz.underlying0
  a0 := Tryz.isAgg0
  z0 := Tryz.sizeOf0
  v0 := Tryz.zeroValue0
  t3 := Tryz.underlying3
  a3 := Tryz.isAgg3
  z3 := Tryz.sizeOf3
  v3 := Tryz.zeroValue3
  t4 := Tryz.underlying4
  a4 := Tryz.isAgg4
  z4 := Tryz.sizeOf4
  v4 := Tryz.zeroValue4
  t5 := Tryz.underlying5
  a5 := Tryz.isAgg5
  z5 := Tryz.sizeOf5
  v5 := Tryz.zeroValue5
  t9 := Tryz.underlying9
  a9 := Tryz.isAgg9
  z9 := Tryz.sizeOf9
  v9 := Tryz.zeroValue9
  t21 := Tryz.underlying21
  a21 := Tryz.isAgg21
  z21 := Tryz.sizeOf21
  v21 := Tryz.zeroValue21
  t31 := Tryz.underlying39
  a31 := Tryz.isAgg39
  z31 := Tryz.sizeOf39
  v31 := Tryz.zeroValue39
  t46 := Tryz.underlying66
  a46 := Tryz.isAgg66
  z46 := Tryz.sizeOf66
  v46 := Tryz.zeroValue66
  t51 := Tryz.underlying22
  a51 := Tryz.isAgg22
  z51 := Tryz.sizeOf22
  v51 := Tryz.zeroValue22
  t105 := Tryz.underlying212
  a105 := Tryz.isAgg212
  z105 := Tryz.sizeOf212
  v105 := Tryz.zeroValue212
  t119 := Tryz.underlying225
  a119 := Tryz.isAgg225
  z119 := Tryz.sizeOf225
  t138 := Tryz.underlying227
  a138 := Tryz.isAgg227
  z138 := Tryz.sizeOf227
  v138 := Tryz.zeroValue227
  t139 := Tryz.underlying228
  a139 := Tryz.isAgg228
  z139 := Tryz.sizeOf228
  v139 := Tryz.zeroValue228
  t146 := Tryz.underlying181
  a146 := Tryz.isAgg181
  z146 := Tryz.sizeOf181
  v146 := Tryz.zeroValue181
  g1 := by kernel_rfl
  g3 := by kernel_rfl
  g4 := by kernel_rfl }
def ren105 : Go.Shelf.Ren := ⟨fun | 105 => 36 | 212 => 69 | 99 => 70 | 165 => 71 | 166 => 52 | 170 => 72 | 169 => 53 | 263 => 112 | 264 => 113 | 206 => 114 | 240 => 103 | 241 => 115 | 276 => 133 | 277 => 139 | n => n, fun | 9 => 9 | 3 => 3 | 4 => 4 | 20 => 20 | 0 => 0 | 46 => 66 | 109 => 133 | 5 => 5 | 72 => 108 | 76 => 111 | 51 => 22 | 146 => 181 | 53 => 71 | 148 => 183 | 70 => 105 | 37 => 106 | 75 => 110 | 127 => 168 | 164 => 203 | 80 => 113 | n => n, fun | n => n⟩
theorem lays105 : Go.Proofs.Lays.n105 Tryz.prog ren105 := {
  mixed := by kernel_rfl
  f99 := Tryz.func70.trans (congrArg some (by kernel_rfl))
  f105 := Tryz.func36.trans (congrArg some (by kernel_rfl))
  f165 := Tryz.func71.trans (congrArg some (by kernel_rfl))
  f166 := Tryz.func52.trans (congrArg some (by kernel_rfl))
  f169 := Tryz.func53.trans (congrArg some (by kernel_rfl))
  f170 := Tryz.func72.trans (congrArg some (by kernel_rfl))
  f206 := Tryz.func114.trans (congrArg some (by kernel_rfl))
  f212 := Tryz.func69.trans (congrArg some (by kernel_rfl))
  f240 := Tryz.func103.trans (congrArg some (by kernel_rfl))
  f241 := Tryz.func115.trans (congrArg some (by kernel_rfl))
  f263 := Tryz.func112.trans (congrArg some (by kernel_rfl))
  f264 := Tryz.func113.trans (congrArg some (by kernel_rfl))
  f276 := Tryz.func133.trans (congrArg some (by kernel_rfl))
  f277 := Tryz.func139.trans (congrArg some (by kernel_rfl))
  t0 := Tryz.underlying0
  a0 := Tryz.isAgg0
  z0 := Tryz.sizeOf0
  v0 := Tryz.zeroValue0
  t3 := Tryz.underlying3
  a3 := Tryz.isAgg3
  z3 := Tryz.sizeOf3
  v3 := Tryz.zeroValue3
  t4 := Tryz.underlying4
  a4 := Tryz.isAgg4
  z4 := Tryz.sizeOf4
  v4 := Tryz.zeroValue4
  t5 := Tryz.underlying5
  a5 := Tryz.isAgg5
  z5 := Tryz.sizeOf5
  v5 := Tryz.zeroValue5
  t9 := Tryz.underlying9
  a9 := Tryz.isAgg9
  z9 := Tryz.sizeOf9
  v9 := Tryz.zeroValue9
  t20 := Tryz.underlying20
  a20 := Tryz.isAgg20
  z20 := Tryz.sizeOf20
  v20 := Tryz.zeroValue20
  t37 := Tryz.underlying106
  a37 := Tryz.isAgg106
  z37 := Tryz.sizeOf106
  v37 := Tryz.zeroValue106
  t46 := Tryz.underlying66
  a46 := Tryz.isAgg66
  z46 := Tryz.sizeOf66
  v46 := Tryz.zeroValue66
  t51 := Tryz.underlying22
  a51 := Tryz.isAgg22
  z51 := Tryz.sizeOf22
  v51 := Tryz.zeroValue22
  t53 := Tryz.underlying71
  a53 := Tryz.isAgg71
  z53 := Tryz.sizeOf71
  v53 := Tryz.zeroValue71
  t70 := Tryz.underlying105
  a70 := Tryz.isAgg105
  z70 := Tryz.sizeOf105
  v70 := Tryz.zeroValue105
  t72 := Tryz.underlying108
  a72 := Tryz.isAgg108
  z72 := Tryz.sizeOf108
  v72 := Tryz.zeroValue108
  t75 := Tryz.underlying110
  a75 := Tryz.isAgg110
  z75 := Tryz.sizeOf110
  v75 := Tryz.zeroValue110
  t76 := Tryz.underlying111
  a76 := Tryz.isAgg111
  z76 := Tryz.sizeOf111
  v76 := Tryz.zeroValue111
  t109 := Tryz.underlying133
  a109 := Tryz.isAgg133
  z109 := Tryz.sizeOf133
  v109 := Tryz.zeroValue133
  t127 := Tryz.underlying168
  a127 := Tryz.isAgg168
  z127 := Tryz.sizeOf168
  v127 := Tryz.zeroValue168
  t146 := Tryz.underlying181
  a146 := Tryz.isAgg181
  z146 := Tryz.sizeOf181
  v146 := Tryz.zeroValue181
  t148 := Tryz.underlying183
  a148 := Tryz.isAgg183
  z148 := Tryz.sizeOf183
  v148 := Tryz.zeroValue183
  t164 := Tryz.underlying203
  a164 := Tryz.isAgg203
  z164 := Tryz.sizeOf203
  v164 := Tryz.zeroValue203 }
theorem extra105 : Builder.Extra Tryz.prog ren105 := {
  sizeBuilder := by kernel_rfl
  liesBuilder := by kernel_rfl
  t5 := Tryz.underlying5
  a5 := Tryz.isAgg5
  z5 := Tryz.sizeOf5
  v5 := Tryz.zeroValue5
  infoByte := by kernel_rfl
  cellsByte := by kernel_rfl
  sizeByte := by kernel_rfl
  neB5 := by decide }
theorem join_any (bk c : Nat) (xs : List ByteArray) (sep : ByteArray) (w : World) (hcells : ∀ (j : Nat) x, xs[j]? = some x → w.cell? ⟨bk, 0 + j, none⟩ = some (.string x)) (hbk : bk < w.heap.size) (hN : xs.length ≤ 140737488355328) (hcap : xs.length ≤ c) (hlen : (Lib.join (xs.map (·.data.toList)) sep.data.toList).length ≤ 140737488355328) :
    Calls Tryz.prog 39 #[.slice (some ⟨bk, 0, none⟩) xs.length c, .string sep] w fun e w' => e = .returned (.string ⟨(Lib.join (xs.map (·.data.toList)) sep.data.toList).toArray⟩) ∧ Kp w w' :=
  (Any.strings_Join lays156 extra156 bk 0 c xs sep w hcells hbk hN hcap hlen).mono fun e w' ⟨he, hw⟩ => ⟨he, hw.os, hw.tape, hw.output, hw.size, fun k hk _ => hw.block k hk⟩
theorem grow_kp (w : World) (k : Nat) (os : Array Obj) : Kp w (Sort.grow (w.drewN k) os) :=
  ⟨rfl, rfl, rfl, by simp [Sort.grow, World.drewN], fun i hi _ => by simp [Sort.grow, World.drewN, Array.getElem?_append_left hi]⟩
theorem itoa_any (n : Int) (h0 : -9223372036854775808 ≤ n) (h1 : n ≤ 9223372036854775807) (w : World) (htab : Lib.TabIs Tryz.prog w "internal/strconv.uint64pow10" .u64 Lib.pow10Tab) :
    Calls Tryz.prog 116 #[.int .i64 n] w fun e w' => e = .returned (.string ⟨(Lib.itoa n).toArray⟩) ∧ Kp w w' :=
  (Any.strconv_Itoa laysM171 n h0 h1 w htab).mono fun e w' ⟨he, k, os, hw⟩ => ⟨he, by
    subst hw
    exact grow_kp w k os⟩
theorem idx_any (w : World) (l : List UInt8) (c : UInt8) :
    Calls Tryz.prog 128 #[.string (sb l), .int .u8 (c.toNat : Nat)] w fun e w' => e = .returned (.int .i64 (Lib.indexByte l c)) ∧ w' = w :=
  (Any.strings_IndexByte lays137 (sb l) (c.toNat : Nat) w).mono fun e w' ⟨he, hw⟩ => ⟨by rw [he]; simp [sb], hw⟩
theorem cutPrefix_any (w : World) (l p : List UInt8) :
    Calls Tryz.prog 148 #[.string (sb l), .string (sb p)] w fun e w' => e = .returned (.tuple #[.string (sb (Lib.trimPrefix l p)), .bool (Lib.hasPrefix l p)]) ∧ w' = w :=
  (Any.strings_CutPrefix lays103 (sb l) (sb p) w).mono fun e w' ⟨he, hw⟩ => ⟨by rw [he]; simp [sb], hw⟩
theorem contains_any (w : World) (l : List UInt8) (c : UInt8) :
    Calls Tryz.prog 101 #[.string (sb l), .string ⟨#[c]⟩] w fun e w' => e = .returned (.bool (decide (0 ≤ Lib.indexByte l c))) ∧ w' = w :=
  (Any.strings_Contains_one lays144 (sb l) c w).mono fun e w' ⟨he, hw⟩ => ⟨he, hw⟩
theorem cut_any (w : World) (m : Int) (hm : w.cell? ⟨4, 0, none⟩ = some (.int .i64 m)) (l p : List UInt8) (hl : l.length < 4294967281) :
    Calls Tryz.prog 85 #[.string (sb l), .string (sb p)] w fun e w' => e = .returned (.tuple #[.string (sb (Lib.cut l p).1), .string (sb (Lib.cut l p).2.1), .bool (Lib.cut l p).2.2]) ∧ Kp w w' :=
  (Any.strings_Cut lays145 (sb l) (sb p) m w (by simpa [sb, ByteArray.size] using hl) hm).mono fun e w' ⟨he, n, hw⟩ => ⟨by rw [he]; simp [sb], by subst hw; exact (Chg.refl _ _).drewN n⟩
theorem split_any (w : World) (m : Int) (hm : w.cell? ⟨4, 0, none⟩ = some (.int .i64 m)) (s sep : ByteArray) (hl : s.size < 4294967281) (h1 : 1 ≤ sep.size) :
    Calls Tryz.prog 41 #[.string s, .string sep] w fun e w' => e = .returned (.slice (some ⟨w.heap.size, 0, none⟩) (Lib.countB s sep + 1) (Lib.countB s sep + 1)) ∧ w' = w.alloc (.cells ((Lib.splitB sep 0 (Lib.countB s sep) s).map Value.string).toArray 9) :=
  Any.strings_Split lays146 (by kernel_rfl) s sep m w hl hm h1
theorem trimL_any (w : World) (l : List UInt8) :
    Calls Tryz.prog 86 #[.string (sb l), .string ⟨#[32, 9]⟩] w fun e w' => e = .returned (.string (sb (Lib.trimLeftS l [32, 9]))) ∧ Kp w w' :=
  (Any.strings_TrimLeft_laid lays161 (by kernel_rfl) (sb l) ⟨#[32, 9]⟩ w (by decide) (by intro j b h; rcases j with _ | _ | j <;> simp at h <;> subst h <;> decide)).mono fun e w' ⟨he, hw⟩ => ⟨by rw [he]; simp [sb], hw.os, hw.tape, hw.output, hw.size, fun k hk _ => hw.block k hk⟩
theorem repeat_any (w : World) (l : List UInt8) (c : Nat) (hc : c ≤ 100) (hl : l.length ≤ 100) :
    Calls Tryz.prog 36 #[.string (sb l), .int .i64 c] w fun e w' => e = .returned (.string (sb (Lib.repeatL l c))) ∧ Kp w w' :=
  (Any.strings_Repeat lays105 extra105 (sb l) c w (by omega) (by simp only [sb, ByteArray.size, List.size_toArray]; have := Nat.mul_le_mul hl hc; omega)).mono fun e w' ⟨he, hw⟩ => ⟨by rw [he]; simp [sb], hw.os, hw.tape, hw.output, hw.size, fun k hk _ => hw.block k hk⟩
end Go.Proofs.YtgofjmhdgmfgfaaGreatDoor
