import Derived.Test.YtkggkkoblpdopaaGreatRows
import Derived.Test.YtkggkkoblpdopaaGreatCrc
import Derived.WalkKit
import Derived.ProofKit
import Derived.OpenShut
import Derived.Below
namespace Go.Proofs.YtkggkkoblpdopaaGreat
open Go.ChangeShapes Go.WideShapes Go.ChangeAt Go.RowKit
set_option linter.unusedVariables false

theorem ret_int {k : IntKind} {a b : Int} (h : a = b) : Ending.returned (.int k a) = .returned (.int k b) := by rw [h]

theorem sumByte_any (s b : Nat) (w : World) (hs : s < 4294967296) (hb : b < 256) :
    Calls Tryz.prog 73 #[.int .u32 s, .int .u8 b] w fun e w' => e = .returned (.int .u32 (crcByte s b : Nat)) ∧ w' = w := by
  have hx : bits .xor .u32 (s : Int) (b : Int) = ((s ^^^ b : Nat) : Int) := bits_xor_u32 s b hs (by omega)
  have hx4 : s ^^^ b < 4294967296 := Nat.xor_lt_two_pow (n := 32) (by omega) (by omega)
  go_enter Tryz.func73, Tryz.ntmps73
  go_wp2
  go_loop [0, 10] (fun t i => ∃ (k : Nat), k ≤ 8 ∧ i = .int .i64 k ∧ t = .int .u32 (crcBits k (s ^^^ b) : Nat))
      (fun _ i => 8 - (intOf i).toNat)
  case atStart => exact ⟨0, by omega, rfl, rfl⟩
  case round =>
    obtain ⟨k, hk, rfl, rfl⟩ := hrel
    have hz := crcBits_lt k (s ^^^ b) hx4
    obtain ⟨z, hz'⟩ : ∃ z, z = crcBits k (s ^^^ b) := ⟨_, rfl⟩
    rw [← hz'] at hz ⊢
    have HZ : Hid (z = crcBits k (s ^^^ b)) := hz'
    clear hz' hx hx4
    by_cases hlt : k < 8
    · go_wp2
      · go_round
        case rel => exact ⟨k + 1, by omega, by go_num, by rw [crcBit_odd z hz (by assumption), HZ.out]; rfl⟩
        case measure => simp [intOf]; omega
      · go_round
        case rel => exact ⟨k + 1, by omega, by go_num, by rw [crcBit_even z hz (by assumption), HZ.out]; rfl⟩
        case measure => simp [intOf]; omega
    · go_wp2
      go_ret
      refine ⟨?_, rfl⟩
      have : k = 8 := by omega
      subst this
      rw [HZ.out]; rfl

/-- Bytes behind a slice's address: none, or cells in a row. -/
def Bs (w : World) (a : Option Addr) (len : Nat) (bs : List Int) : Prop :=
  bs.length = len ∧ len ≤ 140737488355328 ∧ (∀ n ∈ bs, 0 ≤ n ∧ n ≤ 255) ∧ (len = 0 ∨ ∃ b off, a = some ⟨b, off, none⟩ ∧ ∀ i, i < len → w.cell? ⟨b, off + i, none⟩ = some (.int .u8 (bs.getD i 0)))

theorem getD_range {bs : List Int} (h : ∀ n ∈ bs, 0 ≤ n ∧ n ≤ 255) (i : Nat) : 0 ≤ bs.getD i 0 ∧ bs.getD i 0 ≤ 255 := by
  by_cases hi : i < bs.length
  · rw [List.getD_eq_getElem?_getD, List.getElem?_eq_getElem hi]; exact h _ (List.getElem_mem hi)
  · rw [List.getD_eq_getElem?_getD, List.getElem?_eq_none (by omega)]; simp

theorem take_snoc (bs : List Int) (k : Nat) (h : k < bs.length) : bs.take (k + 1) = bs.take k ++ [bs.getD k 0] := by
  rw [List.take_succ_eq_append_getElem h, List.getD_eq_getElem?_getD, List.getElem?_eq_getElem h]; rfl

structure Part where
  a : Option Addr
  len : Nat
  cap : Nat
  bs : List Int
def allBytes (ps : List Part) : List Int := ps.flatMap Part.bs

theorem allBytes_take (ps : List Part) (k : Nat) (h : k < ps.length) : allBytes (ps.take (k + 1)) = allBytes (ps.take k) ++ ps[k].bs := by
  simp only [allBytes, List.take_succ_eq_append_getElem h, List.flatMap_append, List.flatMap_cons, List.flatMap_nil, List.append_nil]

theorem allBytes_range (ps : List Part) (h : ∀ p ∈ ps, ∀ n ∈ p.bs, 0 ≤ n ∧ n ≤ 255) : ∀ n ∈ allBytes ps, 0 ≤ n ∧ n ≤ 255 := by
  intro n hn
  simp [allBytes] at hn
  obtain ⟨p, hp, hn⟩ := hn
  exact h p hp n hn

set_option maxHeartbeats 800000 in
theorem sum_any (ps : List Part) (ga : Option Addr) (c : Nat) (w : World) (hlen : ps.length ≤ 140737488355328)
    (hg : ps.length = 0 ∨ ∃ b off, ga = some ⟨b, off, none⟩ ∧ ∀ i (h : i < ps.length), w.cell? ⟨b, off + i, none⟩ = some (.slice ps[i].a ps[i].len ps[i].cap))
    (hp : ∀ p ∈ ps, Bs w p.a p.len p.bs) :
    Calls Tryz.prog 28 #[.slice ga ps.length c] w fun e w' => e = .returned (.int .u32 (crc (allBytes ps) : Nat)) ∧ w' = w := by
  have hall : ∀ k, crcAll 4294967295 (allBytes (ps.take k)) < 4294967296 := fun k => crcAll_lt _ _ (by omega) (allBytes_range _ (fun p h => (hp p (List.mem_of_mem_take h)).2.2.1))
  have H : Hid (∀ p ∈ ps, Bs w p.a p.len p.bs) := hp
  have G := hg
  have HG : Hid (ps.length = 0 ∨ ∃ b off, ga = some ⟨b, off, none⟩ ∧ ∀ i (h : i < ps.length), w.cell? ⟨b, off + i, none⟩ = some (.slice ps[i].a ps[i].len ps[i].cap)) := hg
  clear hp hg G
  go_enter Tryz.func28, Tryz.ntmps28
  go_wp2
  go_loop [3, 10] (fun t i => ∃ (k : Nat), k ≤ ps.length ∧ i = .int .i64 k ∧ t = .int .u32 (crcAll 4294967295 (allBytes (ps.take k)) : Nat))
      (fun _ i => ps.length - (intOf i).toNat)
  case atStart => exact ⟨0, by omega, rfl, rfl⟩
  case round =>
    obtain ⟨k, hk, rfl, rfl⟩ := hrel
    have hz := hall k
    obtain ⟨s, hs⟩ : ∃ s, s = crcAll 4294967295 (allBytes (ps.take k)) := ⟨_, rfl⟩
    rw [← hs] at hz ⊢
    have HS : Hid (s = crcAll 4294967295 (allBytes (ps.take k))) := hs
    clear hs hall
    by_cases hlt : k < ps.length
    · obtain ⟨b, off, hga, hc⟩ := HG.out.resolve_left (by omega)
      subst hga
      have hck := hc k hlt
      obtain ⟨h1, h2, h3, h4⟩ := H.out ps[k] (List.getElem_mem hlt)
      have hn1 : Hid (allBytes (ps.take (k + 1)) = allBytes (ps.take k) ++ ps[k].bs) := allBytes_take ps k hlt
      generalize ps[k] = p at *
      obtain ⟨a, len, cap, bs⟩ := p
      simp only at h1 h2 h3 h4 hck
      clear hc
      go_wp2
      go_loop [3, 16] (fun t i => ∃ (j : Nat), j ≤ len ∧ i = .int .i64 j ∧ t = .int .u32 (crcAll s (bs.take j) : Nat))
          (fun _ i => len - (intOf i).toNat)
      case atStart => exact ⟨0, by omega, rfl, rfl⟩
      case round =>
        obtain ⟨j, hj, rfl, rfl⟩ := hrel
        have hq := crcAll_lt s (bs.take j) hz (fun n hn => h3 n (List.mem_of_mem_take hn))
        obtain ⟨q, hq'⟩ : ∃ q, q = crcAll s (bs.take j) := ⟨_, rfl⟩
        rw [← hq'] at hq ⊢
        have HQ : Hid (q = crcAll s (bs.take j)) := hq'
        clear hq'
        by_cases hjl : j < len
        · obtain ⟨b', off', ha, hcc⟩ := h4.resolve_left (by omega)
          subst ha
          have hcj := hcc j hjl
          have hr := getD_range h3 j
          have hts : Hid (bs.take (j + 1) = bs.take j ++ [bs.getD j 0]) := take_snoc bs j (by omega)
          obtain ⟨y, hy⟩ : ∃ y : Nat, bs.getD j 0 = (y : Int) := ⟨(bs.getD j 0).toNat, by omega⟩
          have HY : Hid (bs.getD j 0 = (y : Int)) := hy
          rw [hy] at hcj hr
          have hy2 : y < 256 := by omega
          clear hy hcc h4
          go_wp2_with (go_at_call 73; refine (sumByte_any _ _ _ hq hy2).mono ?_; rintro e w' ⟨rfl, rfl⟩)
          go_round
          case rel => exact ⟨j + 1, by omega, by go_num, by rw [hts.out, crcAll_snoc, ← HQ.out, HY.out]; rfl⟩
          case measure => simp [intOf]; omega
        · go_wp2
          go_round
          case rel =>
            have : j = len := by omega
            subst this
            exact ⟨k + 1, by omega, by go_num, by rw [hn1.out, crcAll_append, ← HS.out, HQ.out, List.take_of_length_le (by omega)]⟩
          case measure => simp [intOf]; omega
    · go_wp2
      go_ret
      refine ⟨?_, rfl⟩
      have : k = ps.length := by omega
      subst this
      refine ret_int ?_
      have e3 : s = crcAll 4294967295 (allBytes ps) := by have := HS.out; rwa [List.take_length] at this
      clear HS
      have e4 : IntKind.u32.max = ((4294967295 : Nat) : Int) := by decide
      rw [e4, bits_xor_u32 _ _ (by omega) hz, e3]
      rfl
end Go.Proofs.YtkggkkoblpdopaaGreat
