import Derived.Test.YtakddfhcafpceaaAa
import Derived.Deep.CutRange
import Derived.Deep.CutBlock
import Derived.Shelf.Abstract
namespace Go.Proofs.Ytakddfhcafpceaa
open Go.ChangeShapes Go.WideShapes Go.ChangeAt Go.RowKit Go.Shelf
set_option linter.unusedVariables false

/-- A window: whose, when it starts, how long. -/
structure Wn where
  c : Int
  s : Nat
  l : Nat
def Wn.cs (x : Wn) : Array Value := #[.int .i64 x.c, .int .u64 (x.s : Nat), .int .u64 (x.l : Nat)]
theorem u64n {n : Nat} (h : n < 18446744073709551616) : IntKind.u64.wrap (n : Int) = n := by
  simp [IntKind.wrap, IntKind.bits, IntKind.signed]; omega
/-- Windows that can be read: n of them, at b from o on. -/
structure RdW (w : World) (b o : Nat) (L : List Wn) : Prop where
  c : ∀ i (h : i < L.length), w.cell? ⟨b, o + i * 3, none⟩ = some (.int .i64 L[i].c) ∧ w.cell? ⟨b, o + i * 3 + 1, none⟩ = some (.int .u64 (L[i].s : Nat)) ∧ w.cell? ⟨b, o + i * 3 + 2, none⟩ = some (.int .u64 (L[i].l : Nat))
theorem RdW.kp {w w' : World} {b o : Nat} {L : List Wn} (h : RdW w b o L) (k : Kp w w') : RdW w' b o L :=
  ⟨fun i hi => ⟨k.cell (h.c i hi).1, k.cell (h.c i hi).2.1, k.cell (h.c i hi).2.2⟩⟩
/-- What a time table has. -/
structure Hr where
  M : Nat
  L : List Wn
structure Hr.ok (h : Hr) : Prop where
  m1 : 1 ≤ h.M
  m2 : h.M ≤ 1099511627776
  n1 : 1 ≤ h.L.length
  n2 : h.L.length ≤ 32
  c : ∀ i (hi : i < h.L.length), 1 ≤ h.L[i].c ∧ h.L[i].c ≤ 8 ∧ 1 ≤ h.L[i].l ∧ h.L[i].s + h.L[i].l ≤ h.M
  o : ∀ i j (hi : i < h.L.length) (hj : j < h.L.length), i < j → h.L[i].s + h.L[i].l ≤ h.L[j].s
/-- A time table in memory. -/
structure IsH (w : World) (B : Nat) (h : Hr) : Prop where
  ex : ∃ g cap, w.cell? ⟨B, 0, none⟩ = some (.int .u64 (h.M : Nat)) ∧ w.cell? ⟨B, 1, none⟩ = some (.slice (some ⟨g, 0, none⟩) h.L.length cap) ∧ RdW w g 0 h.L
  ok : h.ok
theorem IsH.kp {w w' : World} {B : Nat} {h : Hr} (i : IsH w B h) (k : Kp w w') : IsH w' B h := by
  obtain ⟨g, cap, h1, h2, h3⟩ := i.ex
  exact ⟨⟨g, cap, k.cell h1, k.cell h2, h3.kp k⟩, i.ok⟩
/-- -1, 0, 1. -/
def cmpU (x y : Nat) : Int := if x < y then -1 else if y < x then 1 else 0
theorem cmpU_lt {x y : Nat} (h : x < y) : cmpU x y = -1 := by unfold cmpU; rw [if_pos h]
theorem cmpU_gt {x y : Nat} (h : y < x) : cmpU x y = 1 := by unfold cmpU; rw [if_neg (by omega), if_pos h]
theorem cmpU_eq {x y : Nat} (h : x = y) : cmpU x y = 0 := by unfold cmpU; rw [if_neg (by omega), if_neg (by omega)]
theorem cmpU_neg {x y : Nat} : cmpU x y < 0 ↔ x < y := by
  unfold cmpU
  by_cases h : x < y
  · simp [h]
  · by_cases h2 : y < x <;> simp [h, h2]
theorem isNaN_any (w : World) (x : Nat) : Calls Try.prog 41 #[.int .u64 (x : Nat)] w fun e w' => e = .returned (.bool false) ∧ w' = w := by
  go_enter Try.func41, Try.ntmps41
  go_wp2
  go_ret
  exact ⟨by simp, rfl⟩
theorem compare_any (w : World) (x y : Nat) : Calls Try.prog 37 #[.int .u64 (x : Nat), .int .u64 (y : Nat)] w fun e w' => e = .returned (.int .i64 (cmpU x y)) ∧ w' = w := by
  have c1 := fun W => isNaN_any W x
  have c2 := fun W => isNaN_any W y
  go_enter Try.func37, Try.ntmps37
  go_wp2_with fail
  go_at_call 41
  refine (c1 _).mono ?_
  rintro e w1 ⟨rfl, rfl⟩
  go_wp2_with fail
  go_at_call 41
  refine (c2 _).mono ?_
  rintro e w1 ⟨rfl, rfl⟩
  by_cases h : x < y
  · have h' : (x : Int) < y := by omega
    go_wp2
    go_ret
    exact ⟨by rw [cmpU_lt h]; rfl, rfl⟩
  · have h' : ¬ (x : Int) < y := by omega
    by_cases h2 : y < x
    · have h2' : (y : Int) < x := by omega
      go_wp2
      go_ret
      exact ⟨by rw [cmpU_gt h2]; rfl, rfl⟩
    · have h2' : ¬ (y : Int) < x := by omega
      go_wp2
      go_ret
      exact ⟨by rw [cmpU_eq (by omega)]; rfl, rfl⟩
theorem ahead1_any (w : World) (x : Wn) (y : Nat) : Calls Try.prog 36 #[.agg x.cs, .int .u64 (y : Nat)] w fun e w' => e = .returned (.int .i64 (cmpU x.s y)) ∧ Kp w w' := by
  have c1 := fun W => compare_any W x.s y
  unfold Wn.cs
  obtain ⟨c, s, l⟩ := x
  simp only at c1 ⊢
  have k1 := Kp.al w (.cells #[.int .i64 c, .int .u64 (s : Nat), .int .u64 (l : Nat)] 36)
  have b1 := heap_alloc_new w (.cells #[.int .i64 c, .int .u64 (s : Nat), .int .u64 (l : Nat)] 36)
  go_enter Try.func36, Try.ntmps36
  go_wp2_with fail
  go_at_call 37
  refine (c1 _).mono ?_
  rintro e w1 ⟨rfl, rfl⟩
  go_wp2
  go_ret
  exact ⟨rfl, k1⟩
/-- How many windows of a list start ahead of a tick. -/
def ahN (L : List Wn) (t : Nat) : Nat := L.countP (fun x => decide (x.s < t))
theorem countP_cut {α : Type} (p : α → Bool) : ∀ (l : List α) (i : Nat), i ≤ l.length → (∀ t (h : t < l.length), t < i → p l[t] = true) → (∀ t (h : t < l.length), i ≤ t → p l[t] = false) → l.countP p = i
  | [], i, hi, _, _ => by simp at hi; simp [hi]
  | a :: r, 0, _, _, h2 => by
    rw [List.countP_eq_zero]
    intro x hx
    obtain ⟨t, ht, rfl⟩ := List.getElem_of_mem hx
    simp [h2 t ht (Nat.zero_le _)]
  | a :: r, i + 1, hi, h1, h2 => by
    have ha : p a = true := h1 0 (by simp) (by omega)
    rw [List.countP_cons_of_pos ha, countP_cut p r i (by simpa using hi) (fun t ht h => h1 (t + 1) (by simpa using ht) (by omega)) (fun t ht h => h2 (t + 1) (by simpa using ht) (by omega))]
/-- Starts in order. -/
def Asc (L : List Wn) : Prop := ∀ i j (hi : i < L.length) (hj : j < L.length), i < j → L[i].s < L[j].s
theorem Hr.ok.asc {h : Hr} (k : h.ok) : Asc h.L := fun i j hi hj hij => by
  have h1 := k.o i j hi hj hij
  have h2 := (k.c i hi).2.2.1
  omega
/-- What the search tells. -/
def SrE (e : Ending) (n : Nat) : Prop := ∃ b : Bool, e = .returned (.tuple #[.int .i64 (n : Nat), .bool b])
set_option maxHeartbeats 2000000 in
set_option maxRecDepth 10000 in
theorem search_any (w : World) (g cap : Nat) (L : List Wn) (hL : RdW w g 0 L) (ha : Asc L) (h32 : L.length ≤ 32) (t : Nat) :
    Calls Try.prog 35 #[.slice (some ⟨g, 0, none⟩) L.length cap, .int .u64 (t : Nat), .func (.func 36) #[] #[]] w fun e w' => SrE e (ahN L t) ∧ Kp w w' := by
  have eg : ∀ args w, (callFunc 36 args).run Try.prog w = .ok (.enter 36 args) w := enters_of Try.func36 (by kernel_rfl) rfl
  generalize hn : L.length = n
  have HN : Hid (L.length = n) := hn
  rw [hn] at h32
  have A0 : Hid (Kp w w ∧ (∀ i (h : i < L.length), i < 0 → L[i].s < t) ∧ (∀ i (h : i < L.length), n ≤ i → t ≤ L[i].s)) := ⟨Kp.refl w, fun _ _ h => by omega, fun _ _ h => by omega⟩
  have HL : Hid (RdW w g 0 L ∧ Asc L) := ⟨hL, ha⟩
  clear hL ha hn
  go_enter Try.func35, Try.ntmps35
  go_wp2_with fail
  go_loopw [9, 10] (fun s9 s10 wr => ∃ lo hi : Nat, s9 = .int .i64 lo ∧ s10 = .int .i64 hi ∧ lo ≤ hi ∧ hi ≤ n ∧ Hid (Kp w wr ∧ (∀ i (h : i < L.length), i < lo → L[i].s < t) ∧ (∀ i (h : i < L.length), hi ≤ i → t ≤ L[i].s))) (fun s9 s10 _ => (intOf s10).toNat - (intOf s9).toNat)
  case atStart => exact ⟨0, n, rfl, rfl, by omega, by omega, A0⟩
  case round =>
    clear A0
    obtain ⟨lo, hi, rfl, rfl, hlh, hin, HI⟩ := hrel
    by_cases hlt : lo < hi
    · have hltz : (lo : Int) < hi := by omega
      obtain ⟨md, hmd⟩ : ∃ md, md = (lo + hi) / 2 := ⟨_, rfl⟩
      have hm1 : lo ≤ md ∧ md < hi := by omega
      have hm2 : md < L.length := by rw [HN.out]; omega
      have hmz : ((lo : Int) + hi) / 2 = md := by omega
      obtain ⟨c0, c1, c2⟩ := (HL.out.1.kp HI.out.1).c md hm2
      have hc := fun W => ahead1_any W L[md] t
      unfold Wn.cs at hc
      simp only [Nat.zero_add] at c0 c1 c2
      have HM : Hid (md = (lo + hi) / 2) := hmd
      clear hmd
      have hY : L[md].s < t → Hid (∀ i (h : i < L.length), i < md + 1 → L[i].s < t) := fun h => fun i hi' h2 => by
        rcases Nat.lt_or_ge i md with e | e
        · have := HL.out.2 i md hi' hm2 e
          omega
        · obtain rfl : i = md := by omega
          exact h
      have hX : ¬ L[md].s < t → Hid (∀ i (h : i < L.length), md ≤ i → t ≤ L[i].s) := fun h => fun i hi' h2 => by
        rcases Nat.lt_or_ge md i with e | e
        · have := HL.out.2 md i hm2 hi' e
          omega
        · obtain rfl : i = md := by omega
          omega
      have hz := fun x => (cmpU_neg (x := x) (y := t))
      generalize L[md].c = qc at *
      generalize L[md].s = qs at *
      generalize L[md].l = ql at *
      by_cases hyx : qs < t
      · have hneg : (cmpU qs t < 0) = True := by simpa using (hz qs).2 hyx
        have HY := hY hyx
        clear hY hX hz
        go_wp2_with (go_at_fn 36; refine (hc _).mono ?_; rintro e w' ⟨rfl, kw⟩)
        have HN2 : Hid (Kp w w' ∧ (∀ i (h : i < L.length), i < md + 1 → L[i].s < t) ∧ (∀ i (h : i < L.length), hi ≤ i → t ≤ L[i].s)) := ⟨HI.out.1.trans kw, HY.out, HI.out.2.2⟩
        exact ⟨⟨md + 1, hi, by go_num, rfl, by omega, hin, HN2⟩, by simp [intOf]; omega⟩
      · have hneg : (cmpU qs t < 0) = False := by simpa using fun h => hyx ((hz qs).1 h)
        have HX := hX hyx
        clear hY hX hz
        go_wp2_with (go_at_fn 36; refine (hc _).mono ?_; rintro e w' ⟨rfl, kw⟩)
        have HN2 : Hid (Kp w w' ∧ (∀ i (h : i < L.length), i < lo → L[i].s < t) ∧ (∀ i (h : i < L.length), md ≤ i → t ≤ L[i].s)) := ⟨HI.out.1.trans kw, HI.out.2.1, HX.out⟩
        exact ⟨⟨lo, md, rfl, rfl, by omega, by omega, HN2⟩, by simp [intOf]; omega⟩
    · obtain rfl : lo = hi := by omega
      have HC : Hid (ahN L t = lo) := by
        unfold ahN
        refine countP_cut _ L lo (by rw [HN.out]; exact hin) (fun i hi h => decide_eq_true (HI.out.2.1 i hi h)) (fun i hi h => decide_eq_false (by have := HI.out.2.2 i hi h; omega))
      by_cases hlt2 : lo < n
      · have hltz : (lo : Int) < n := by omega
        have hm2 : lo < L.length := by rw [HN.out]; omega
        obtain ⟨c0, c1, c2⟩ := (HL.out.1.kp HI.out.1).c lo hm2
        have hc := fun W => ahead1_any W L[lo] t
        unfold Wn.cs at hc
        simp only [Nat.zero_add] at c0 c1 c2
        generalize L[lo].c = qc at *
        generalize L[lo].s = qs at *
        generalize L[lo].l = ql at *
        have hsame : ¬ (lo : Int) < lo := by omega
        go_wp2_with (go_at_fn 36; refine (hc _).mono ?_; rintro e w' ⟨rfl, kw⟩)
        go_ret2
        exact ⟨⟨_, by rw [HC.out]; rfl⟩, HI.out.1.trans kw⟩
      · have hltz : ¬ (lo : Int) < n := by omega
        have hsame : ¬ (lo : Int) < lo := by omega
        go_wp2
        go_ret2
        exact ⟨⟨_, by rw [HC.out]; rfl⟩, HI.out.1⟩
end Go.Proofs.Ytakddfhcafpceaa
