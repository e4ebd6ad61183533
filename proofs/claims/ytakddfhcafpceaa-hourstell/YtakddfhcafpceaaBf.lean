import Derived.Test.YtakddfhcafpceaaBe
namespace Go.Proofs.Ytakddfhcafpceaa
open Go.ChangeShapes Go.WideShapes Go.ChangeAt Go.RowKit Go.Shelf
set_option linter.unusedVariables false
def mjB (m : Nat) : Bool := decide (1 ≤ m ∧ m ≤ 1099511627776)
theorem isMajor_any (w : World) (m : Nat) : Calls Try.prog 32 #[.int .u64 (m : Nat)] w fun e w' => e = .returned (.bool (mjB m)) ∧ w' = w := by
  have HE : Hid (mjB m = decide (1 ≤ m ∧ m ≤ 1099511627776)) := rfl
  generalize mjB m = b at *
  by_cases h1 : 1 ≤ m
  · have h1' : (1 : Int) ≤ m := by omega
    go_enter Try.func32, Try.ntmps32
    go_wp2
    go_ret
    exact ⟨by rw [HE.out]; simp [h1]; omega, rfl⟩
  · have h1' : ¬ (1 : Int) ≤ m := by omega
    go_enter Try.func32, Try.ntmps32
    go_wp2
    go_ret
    exact ⟨by rw [HE.out]; simp [h1], rfl⟩
def clB (c : Int) : Bool := decide (1 ≤ c ∧ c ≤ 8)
theorem isCell_any (w : World) (c : Int) : Calls Try.prog 39 #[.int .i64 c] w fun e w' => e = .returned (.bool (clB c)) ∧ w' = w := by
  have HE : Hid (clB c = decide (1 ≤ c ∧ c ≤ 8)) := rfl
  generalize clB c = b at *
  by_cases h1 : 1 ≤ c
  · go_enter Try.func39, Try.ntmps39
    go_wp2
    go_ret
    exact ⟨by rw [HE.out]; simp [h1], rfl⟩
  · go_enter Try.func39, Try.ntmps39
    go_wp2
    go_ret
    exact ⟨by rw [HE.out]; simp; omega, rfl⟩
def wiB (M : Nat) (x : Wn) : Bool := decide (x.s + x.l ≤ M)
theorem within_any (w : World) (M : Nat) (hM : M < 18446744073709551616) (x : Wn) : Calls Try.prog 40 #[.int .u64 (M : Nat), .agg x.cs] w fun e w' => e = .returned (.bool (wiB M x)) ∧ Kp w w' := by
  have HE : Hid (wiB M x = decide (x.s + x.l ≤ M)) := rfl
  unfold Wn.cs
  generalize wiB M x = b at *
  obtain ⟨c, s, l⟩ := x
  simp only at HE ⊢
  have k1 := Kp.al w (.cells #[.int .i64 c, .int .u64 (s : Nat), .int .u64 (l : Nat)] 36)
  have b1 := heap_alloc_new w (.cells #[.int .i64 c, .int .u64 (s : Nat), .int .u64 (l : Nat)] 36)
  by_cases h1 : s ≤ M
  · have h1' : (s : Int) ≤ M := by omega
    have hs : IntKind.u64.wrap ((M : Int) - (s : Nat)) = ((M - s : Nat) : Int) := by rw [show (M : Int) - (s : Nat) = ((M - s : Nat) : Int) by omega]; exact u64n (by omega)
    go_enter Try.func40, Try.ntmps40
    go_wp2
    go_ret
    exact ⟨by rw [HE.out]; simp; omega, k1⟩
  · have h1' : ¬ (s : Int) ≤ M := by omega
    go_enter Try.func40, Try.ntmps40
    go_wp2
    go_ret
    exact ⟨by rw [HE.out]; simp; omega, k1⟩
/-- May these be windows, behind a tick? -/
def okL (M : Nat) : Nat → List Wn → Bool
  | _, [] => true
  | f, x :: r => clB x.c && decide (1 ≤ x.l) && decide (f ≤ x.s) && wiB M x && okL M (x.s + x.l) r
def ftB (M : Nat) (L : List Wn) : Bool := decide (1 ≤ L.length) && decide (L.length ≤ 32) && okL M 0 L
/-- A list of windows that can be read. -/
structure WsI (w : World) (a : Option Addr) (L : List Wn) : Prop where
  c : L = [] ∨ ∃ b o, a = some ⟨b, o, none⟩ ∧ RdW w b o L
  l : L.length ≤ 140737488351232
  r : ∀ x ∈ L, x.s < 18446744073709551616 ∧ x.l < 18446744073709551616
theorem WsI.kp {w w' : World} {a : Option Addr} {L : List Wn} (h : WsI w a L) (k : Kp w w') : WsI w' a L := by
  refine ⟨?_, h.l, h.r⟩
  rcases h.c with e | ⟨b, o, e, r⟩
  · exact .inl e
  · exact .inr ⟨b, o, e, r.kp k⟩
theorem okL_at {M f : Nat} {L : List Wn} {i : Nat} (hi : i < L.length) : okL M f (L.drop i) = (clB L[i].c && decide (1 ≤ L[i].l) && decide (f ≤ L[i].s) && wiB M L[i] && okL M (L[i].s + L[i].l) (L.drop (i + 1))) := by
  rw [List.drop_eq_getElem_cons hi]; rfl
set_option maxHeartbeats 2000000 in
set_option maxRecDepth 10000 in
theorem fit_any (w : World) (M : Nat) (hM : M < 18446744073709551616) (a : Option Addr) (L : List Wn) (cap : Nat) (hL : WsI w a L) :
    Calls Try.prog 33 #[.int .u64 (M : Nat), .slice a L.length cap] w fun e w' => e = .returned (.bool (ftB M L)) ∧ Kp w w' := by
  have HE : Hid (ftB M L = (decide (1 ≤ L.length) && decide (L.length ≤ 32) && okL M 0 L)) := rfl
  generalize ftB M L = fb at *
  have hl := hL.l
  have hW := fun W x => within_any W M hM x
  have hC := fun W c => isCell_any W c
  obtain ⟨n, hn⟩ : ∃ n, n = L.length := ⟨_, rfl⟩
  have HN : Hid (n = L.length) := hn
  rw [← hn] at HE hl ⊢
  have HL : Hid (WsI w a L) := hL
  clear hL hn
  by_cases h1 : n < 1
  · have h1' : (n : Int) < 1 := by omega
    go_enter Try.func33, Try.ntmps33
    go_wp2
    go_ret
    exact ⟨by rw [HE.out]; simp; omega, Kp.refl _⟩
  · have h1' : ¬ (n : Int) < 1 := by omega
    by_cases h2 : 32 < n
    · have h2' : (32 : Int) < n := by omega
      go_enter Try.func33, Try.ntmps33
      go_wp2
      go_ret
      exact ⟨by rw [HE.out]; simp; omega, Kp.refl _⟩
    · have h2' : ¬ (32 : Int) < n := by omega
      obtain ⟨b, o, rfl, hr⟩ : ∃ b o, a = some ⟨b, o, none⟩ ∧ RdW w b o L := by
        rcases HL.out.c with e | e
        · exfalso; have := HN.out; rw [e] at this; simp at this; omega
        · exact e
      have HR : Hid (RdW w b o L) := hr
      have HE2 : Hid (fb = okL M 0 (L.drop 0)) := by
        show fb = _
        rw [HE.out]; simp; intro; omega
      clear hr HE
      go_enter Try.func33, Try.ntmps33
      go_wp2_with fail
      go_loopw [5, 18] (fun s5 s18 wr => ∃ i f : Nat, s5 = .int .u64 (f : Nat) ∧ s18 = .int .i64 (i : Nat) ∧ i ≤ n ∧ f < 18446744073709551616 ∧ Hid (Kp w wr ∧ fb = okL M f (L.drop i))) (fun _ s18 _ => n - (intOf s18).toNat)
      case atStart => exact ⟨0, 0, rfl, rfl, by omega, by omega, ⟨Kp.refl w, HE2.out⟩⟩
      case round =>
        clear HE2
        obtain ⟨i, f, rfl, rfl, hi, hf, HI⟩ := hrel
        by_cases hlt : i < n
        · have hltz : (i : Int) < n := by omega
          have hil : i < L.length := by rw [← HN.out]; exact hlt
          obtain ⟨c0, c1, c2⟩ := (HR.out.kp HI.out.1).c i hil
          have hrr := HL.out.r _ (List.getElem_mem hil)
          have hok := okL_at (M := M) (f := f) hil
          have HP : Hid (fb = okL M f (L.drop i)) := HI.out.2
          rw [hok] at HP
          have HK : Hid (Kp w wr) := HI.out.1
          have hWi := fun W => hW W L[i]
          unfold Wn.cs at hWi
          have hCi := fun W => hC W L[i].c
          have hwe : Hid (wiB M L[i] = decide (L[i].s + L[i].l ≤ M)) := rfl
          clear hok HI
          generalize wiB M L[i] = bw at *
          generalize clB L[i].c = bc at *
          generalize L[i].c = qc at *
          generalize L[i].s = qs at *
          generalize L[i].l = ql at *
          have k1 := Kp.al wr (.cells #[.int .i64 qc, .int .u64 (qs : Nat), .int .u64 (ql : Nat)] 36)
          have b1 := heap_alloc_new wr (.cells #[.int .i64 qc, .int .u64 (qs : Nat), .int .u64 (ql : Nat)] 36)
          have HK1 : Hid (Kp w (wr.alloc (.cells #[.int .i64 qc, .int .u64 (qs : Nat), .int .u64 (ql : Nat)] 36))) := HK.out.trans k1
          have d1 : (wr.alloc (.cells #[.int .i64 qc, .int .u64 (qs : Nat), .int .u64 (ql : Nat)] 36)).cell? ⟨wr.heap.size, 1, none⟩ = some (.int .u64 (qs : Nat)) := (cells_at b1 1).1
          have d2 : (wr.alloc (.cells #[.int .i64 qc, .int .u64 (qs : Nat), .int .u64 (ql : Nat)] 36)).cell? ⟨wr.heap.size, 2, none⟩ = some (.int .u64 (ql : Nat)) := (cells_at b1 2).1
          have HD : Hid (_ ∧ _) := ⟨d1, d2⟩
          clear d1 d2
          clear k1 b1
          have wsum : qs + ql ≤ M → IntKind.u64.wrap ((qs : Int) + (ql : Nat)) = ((qs + ql : Nat) : Int) := fun h => by rw [← Int.natCast_add]; exact u64n (by omega)
          cases bc with
          | false =>
            go_wp2_with fail
            go_at_call 39
            refine (hCi _).mono ?_
            rintro e w1 ⟨rfl, rfl⟩
            go_wp2
            go_ret
            exact ⟨by rw [HP.out]; simp, HK1.out⟩
          | true =>
            by_cases e1 : ql < 1
            · have e1' : (ql : Int) < 1 := by omega
              go_wp2_with fail
              go_at_call 39
              refine (hCi _).mono ?_
              rintro e w1 ⟨rfl, rfl⟩
              go_wp2
              go_ret
              exact ⟨by rw [HP.out]; simp; omega, HK1.out⟩
            · have e1' : ¬ (ql : Int) < 1 := by omega
              by_cases e2 : qs < f
              · have e2' : (qs : Int) < f := by omega
                go_wp2_with fail
                go_at_call 39
                refine (hCi _).mono ?_
                rintro e w1 ⟨rfl, rfl⟩
                go_wp2
                go_ret
                exact ⟨by rw [HP.out]; simp; omega, HK1.out⟩
              · have e2' : ¬ (qs : Int) < f := by omega
                cases bw with
                | false =>
                  go_wp2_with fail
                  go_at_call 39
                  refine (hCi _).mono ?_
                  rintro e w1 ⟨rfl, rfl⟩
                  go_wp2_with fail
                  go_at_call 40
                  refine (hWi _).mono ?_
                  rintro e w2 ⟨rfl, k2⟩
                  go_wp2
                  go_ret
                  exact ⟨by rw [HP.out]; simp, HK1.out.trans k2⟩
                | true =>
                  have e3 : qs + ql ≤ M := by have := hwe.out; simpa using this.symm
                  have ws := wsum e3
                  have HN2 : Hid (fb = okL M (qs + ql) (L.drop (i + 1))) := by show fb = _; rw [HP.out]; simp; omega
                  go_wp2_with fail
                  go_at_call 39
                  refine (hCi _).mono ?_
                  rintro e w1 ⟨rfl, rfl⟩
                  go_wp2_with fail
                  go_at_call 40
                  refine (hWi _).mono ?_
                  rintro e w2 ⟨rfl, k2⟩
                  have x1 := k2.cell HD.out.1
                  have x2 := k2.cell HD.out.2
                  have HK2 : Hid (Kp w w2) := HK1.out.trans k2
                  clear k2 HK1 HD
                  go_wp2
                  exact ⟨⟨i + 1, qs + ql, by go_num, by go_num, by omega, by omega, ⟨HK2.out, HN2.out⟩⟩, by simp [intOf]; omega⟩
        · have hltz : ¬ (i : Int) < n := by omega
          have HF : Hid (fb = true ∧ Kp w wr) := ⟨by rw [HI.out.2, List.drop_of_length_le (by rw [← HN.out]; omega)]; rfl, HI.out.1⟩
          go_wp2
          go_ret
          exact ⟨by rw [HF.out.1]; rfl, HF.out.2⟩
end Go.Proofs.Ytakddfhcafpceaa
