import Derived.Test.YtppcfofkneaigabDl
import Derived.Deep.Cut
import Derived.Deep.CutBlock
import Derived.Deep.CutRange
import Derived.BigQuiet
import Derived.BigRegion
namespace Go.Proofs.Ytppcfofkneaigab
open Go.ChangeShapes Go.WideShapes Go.ChangeAt Go.RowKit
set_option linter.unusedVariables false
theorem scN_le (sets s : Nat) (L : List HL) : ∀ k, scN sets s L k ≤ k
  | 0 => Nat.le_refl _
  | k + 1 => by
    have := scN_le sets s L k
    rw [scN]
    split <;> omega

set_option maxHeartbeats 8000000 in
set_option maxRecDepth 100000 in
theorem ph19_8 (w V : World) (B sets ways line p6 n now nx s t : Nat) (hnx : nx = now + 1) (hn : n < 4294967296) (hnt : n = t * sets + s) (hs : s < sets) (v0 : Value) (L : List HL) (wr : Bool) (st : Nat → List Ln) (su : Nat → List HL) (KV : Hid (RC V B sets ways line v0 L nx ∧ L.length ≤ 2048 ∧ V.heap[p6]? = some (.cells #[.bool false, .bool false, .int .i64 0] 56 (0, 0)) ∧ Chg w V (fun k => k = B ∨ v0.ownBlock = some k) ∧ w.heap.size ≤ p6 ∧ B < w.heap.size)) (KR : Hid (Rel sets st L now su ∧ (∀ k, Good (st k) ways) ∧ ¬ atT (st s) t < (st s).length)) {u1 u3 u4 u5 u8 u9 u10 u11 u12 u13 u14 u15 u16 u17 u18 u19 u20 u21 u22 u23 u24 u25 u26 u27 u28 u29 u30 u31 u32 u33 u34 u35 u36 u37 u38 u39 u40 u41 u42 u43 u44 u45 u46 u47 u48 u49 u50 u51 u52 u53 u54 u55 u56 u57 u58 u59 u60 u61 u62 u63 u64 u65 u66 u67 u68 u69 u70 u71 u72 u73 u74 u75 u76 u77 u78 u79 u80 u81 u82 u83 u84 u85 u86 u87 u88 u89 u90 u91 u92 u93 u94 u95 u96 u97 u98 u99 u100 u101 u102 u103 u104 u105 u106 u107 u108 u109 u110 u111 u112 u113 u114 u115 u116 u117 u118 u119 u120 u121 u122 u123 u124 u125 u126 u127 u128 u129 u130 u131 u132 u133 u134 u135 u136 u137 u138 u139 u140 u141 u142 u143 u144 u145 : Value} :
    Code.wp Try.prog code19_8 (bodyPost Try.prog Try.f19 fun e w' => e = Ending.returned (tchV false (backL (st s) t ways)) ∧ AcR w w' B sets ways line v0 (setS st s (useL (st s) t ways wr)) nx) ⟨#[.pointer (some ⟨B, 0, none⟩), u1, .bool wr, u3, u4, u5, .pointer (some ⟨p6, 0, none⟩), .int .u32 ((n : Nat) : Int), u8, u9, u10, u11, u12, u13, u14, u15, u16, u17, u18, u19, u20, u21, u22, u23, u24, u25, u26, u27, u28, u29, u30, u31, u32, u33, u34, u35, u36, u37, u38, u39, u40, u41, u42, u43, u44, u45, u46, u47, u48, u49, u50, u51, u52, u53, u54, u55, u56, u57, u58, u59, u60, u61, u62, u63, u64, u65, u66, u67, u68, u69, u70, u71, u72, u73, u74, u75, u76, u77, u78, u79, u80, u81, u82, u83, u84, u85, u86, u87, u88, u89, u90, u91, u92, u93, u94, u95, u96, u97, u98, u99, u100, u101, u102, u103, u104, u105, u106, u107, u108, u109, u110, u111, u112, u113, u114, u115, u116, u117, u118, u119, u120, u121, u122, u123, u124, u125, u126, u127, u128, u129, u130, u131, u132, u133, u134, u135, u136, u137, u138, u139, u140, u141, u142, u143, u144, u145], []⟩ V := by
  unfold code19_8
  obtain ⟨V2, hV2⟩ : ∃ W, W = V.alloc (.cells #[.bool false, .bool false, .int .i64 12] 56) := ⟨_, rfl⟩
  obtain ⟨p9, hp9⟩ : ∃ p, p = V.heap.size := ⟨_, rfl⟩
  have hC2 : Chg V V2 (fun _ => False) := by rw [hV2]; exact (Chg.refl V _).alloc _
  have h69 : p6 ≠ p9 := by have := (Array.getElem?_eq_some_iff.1 KV.out.2.2.1).1; omega
  have KT : Hid (AcT w V2 B sets ways line p6 p9 v0 v0 L nx false) := ⟨KV.out.1.keptF hC2, KV.out.2.1, by rw [hV2, hp9]; exact heap_alloc_new V _, hC2.heap KV.out.2.2.1 (fun h => h), KV.out.2.2.2.1.trans hC2 (fun _ _ h => h.elim), .inl rfl, KV.out.2.2.2.2.1, by have := KV.out.2.2.2.1.size; omega, h69, KV.out.2.2.2.2.2⟩
  have HV : Hid (V2 = V.alloc (.cells #[.bool false, .bool false, .int .i64 12] 56) ∧ p9 = V.heap.size) := ⟨hV2, hp9⟩
  have hmod : n % sets = s := by rw [hnt, own_mod hs]
  have KN : Hid (n = t * sets + s ∧ nx = now + 1 ∧ n % sets = s) := ⟨hnt, hnx, hmod⟩
  obtain ⟨av, cv, hvf⟩ := own_len KV.out.1.row
  subst hvf
  clear hC2 hV2 hp9 hnt hnx hmod h69
  go_wp2
  rw [← HV.out.1, ← HV.out.2]
  go_loopw [10, 11, 12] (fun s10 s11 s12 wr => ∃ k : Nat, k ≤ L.length ∧ s12 = .int .i64 k ∧ s10 = .int .i64 (scN sets s L k : Nat) ∧ s11 = .int .i64 (optI (scO sets s L k)) ∧ Hid (Chg V2 wr (fun _ => False))) (fun _ _ s12 _ => L.length - (intOf s12).toNat)
  case atStart => exact ⟨0, by omega, rfl, rfl, rfl, Chg.refl _ _⟩
  case round =>
    obtain ⟨k, hk, rfl, rfl, rfl, HK⟩ := hrel
    have hR := KT.out.rc.keptF HK.out
    obtain ⟨_, _, _, c3, _, _, _⟩ := hR.cells
    by_cases hkl : k < L.length
    · have hklz : (k : Int) < (L.length : Int) := by omega
      obtain ⟨g, rfl, _, y0, y1, _, _⟩ := hR.at k hkl
      have hxb := hR.bd _ (List.getElem_mem hkl)
      have hS1 := setC wr B sets ways line _ L nx hR (L[k]).1 hxb
      have hS2 := setC wr B sets ways line _ L nx hR n hn
      rw [KN.out.2.2] at hS2
      have hN : scN sets s L (k + 1) = if (L[k]).1 % sets = s then scN sets s L k + 1 else scN sets s L k := by
        rw [scN, getD_at L k hkl]; simp [inS]
      have hO : scO sets s L (k + 1) = if (L[k]).1 % sets = s then pickO L k (scO sets s L k) else scO sets s L k := by
        rw [scO, getD_at L k hkl]; simp [inS]
      have hsp := (scO_spec sets s L k).2
      have hNl := scN_le sets s L k
      have HC : Hid (Chg V2 wr (fun _ => False)) := HK.out
      have hRH : Hid (RC wr B sets ways line (.slice (some ⟨g, 0, none⟩) L.length cv) L nx) := hR
      have hl8 := KT.out.len
      generalize hx0 : (L[k]).1 = x0 at *
      obtain ⟨q, hq⟩ : ∃ q, q = x0 % sets := ⟨_, rfl⟩
      rw [← hq] at hS1 hN hO
      clear hq hxb hR HK
      generalize hx1 : (L[k]).2.1 = u1 at *
      generalize scN sets s L k = mN at *
      by_cases h1 : q = s
      · subst h1
        rw [if_pos rfl] at hN hO
        have KNn : Hid (scN sets q L (k + 1) = mN + 1) := hN
        clear hN
        cases hq2 : scO sets q L k with
        | none =>
          rw [hq2] at hO
          have KO : Hid (scO sets q L (k + 1) = some k) := hO
          clear hO hsp
          simp only [optI]
          go_wp2_with fail
          go_at_call 33
          refine hS1.mono ?_
          rintro e w3 ⟨rfl, rfl⟩
          go_wp2_with fail
          go_at_call 33
          refine hS2.mono ?_
          rintro e w3 ⟨rfl, rfl⟩
          go_wp2_with fail
          go_quiet (fail)
          go_wp2
          exact ⟨⟨k + 1, by omega, by go_num, by rw [KNn.out]; go_num, by rw [KO.out], HC.out.drewN _⟩, by simp [intOf] <;> omega⟩
        | some o =>
          rw [hq2] at hO
          obtain ⟨ho, _, _⟩ := hsp o hq2
          have hoz : (o : Int) < (L.length : Int) := by omega
          have hon : ¬ (o : Int) < 0 := by omega
          obtain ⟨g', e', _, _, z1, _, _⟩ := hRH.out.at o (by omega)
          simp only [Option.some.injEq, Addr.mk.injEq] at e'
          obtain ⟨rfl, _, _⟩ := e'
          simp only [pickO] at hO
          rw [getD_at L k hkl, getD_at L o (by omega), hx1] at hO
          generalize (L[o]'(by omega)).2.1 = u2 at *
          simp only [optI]
          by_cases h3 : u1 < u2
          · have h3z : (u1 : Int) < (u2 : Int) := by omega
            rw [if_pos h3] at hO
            have KO : Hid (scO sets q L (k + 1) = some k) := hO
            clear hO hsp
            go_wp2_with fail
            go_at_call 33
            refine hS1.mono ?_
            rintro e w3 ⟨rfl, rfl⟩
            go_wp2_with fail
            go_at_call 33
            refine hS2.mono ?_
            rintro e w3 ⟨rfl, rfl⟩
            go_wp2_with fail
            go_quiet (fail)
            go_wp2
            exact ⟨⟨k + 1, by omega, by go_num, by rw [KNn.out]; go_num, by rw [KO.out], HC.out.drewN _⟩, by simp [intOf] <;> omega⟩
          · have h3z : ¬ (u1 : Int) < (u2 : Int) := by omega
            rw [if_neg h3] at hO
            have KO : Hid (scO sets q L (k + 1) = some o) := hO
            clear hO hsp
            go_wp2_with fail
            go_at_call 33
            refine hS1.mono ?_
            rintro e w3 ⟨rfl, rfl⟩
            go_wp2_with fail
            go_at_call 33
            refine hS2.mono ?_
            rintro e w3 ⟨rfl, rfl⟩
            go_wp2_with fail
            go_quiet (fail)
            go_wp2
            exact ⟨⟨k + 1, by omega, by go_num, by rw [KNn.out]; go_num, by rw [KO.out], HC.out.drewN _⟩, by simp [intOf] <;> omega⟩
      · have h1z : ¬ (q : Int) = (s : Int) := by omega
        have hqb : ((q : Int) == (s : Int)) = false := by simpa using h1z
        rw [if_neg h1] at hN hO
        have KO : Hid (scO sets s L (k + 1) = scO sets s L k ∧ scN sets s L (k + 1) = mN) := ⟨hO, hN⟩
        clear hN hO hsp
        obtain ⟨ob, hob⟩ : ∃ ob, ob = optI (scO sets s L k) := ⟨_, rfl⟩
        rw [← hob]
        have KB : Hid (ob = optI (scO sets s L k)) := hob
        clear hob
        go_wp2_with fail
        go_at_call 33
        refine hS1.mono ?_
        rintro e w3 ⟨rfl, rfl⟩
        go_wp2_with fail
        go_at_call 33
        refine hS2.mono ?_
        rintro e w3 ⟨rfl, rfl⟩
        go_wp2
        exact ⟨⟨k + 1, by omega, by go_num, by rw [KO.out.2], by rw [KO.out.1, KB.out], HC.out⟩, by simp [intOf] <;> omega⟩
    · have hklz : ¬ (k : Int) < (L.length : Int) := by omega
      have ek : k = L.length := by omega
      subst ek
      have hlen := (KR.out.1.len hs).1
      rw [scN_take sets s L _ (Nat.le_refl _), List.take_length, hlen]
      have KT2 : Hid (AcT w wr B sets ways line p6 p9 (.slice av L.length cv) (.slice av L.length cv) L nx false) := ⟨KT.out.rc.keptF HK.out, KT.out.len, HK.out.heap KT.out.b9 (fun h => h), HK.out.heap KT.out.b6 (fun h => h), KT.out.chg.trans HK.out (fun _ _ h => h.elim), .inl rfl, KT.out.n6, KT.out.n9, KT.out.ne, KT.out.bl⟩
      clear hR hlen
      go_wp2_with fail
      exact ph19_18 w wr B sets ways line p6 p9 n now nx s t KN.out.2.1 hn KN.out.1 hs _ L _ st su KT2 KR
end Go.Proofs.Ytppcfofkneaigab
