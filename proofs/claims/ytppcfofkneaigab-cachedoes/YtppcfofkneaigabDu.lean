import Derived.Test.YtppcfofkneaigabDs
import Derived.Test.YtppcfofkneaigabDm
import Derived.BigQuiet
namespace Go.Proofs.Ytppcfofkneaigab
open Go.ChangeShapes Go.WideShapes Go.ChangeAt Go.RowKit
set_option linter.unusedVariables false

/-- A list of lines that can be read. -/
structure LsIn (w : World) (a : Option Addr) (lst : List (Nat × Ln)) : Prop where
  src : lst = [] ∨ ∃ b off, a = some ⟨b, off, none⟩ ∧ b < w.heap.size ∧ ∀ i (hi : i < lst.length), w.cell? ⟨b, off + i * 3, none⟩ = some (.int .u32 (((lst[i]).1 : Nat) : Int)) ∧ w.cell? ⟨b, off + i * 3 + 1, none⟩ = some (.int .u32 (((lst[i]).2.1 : Nat) : Int)) ∧ w.cell? ⟨b, off + i * 3 + 2, none⟩ = some (.bool (lst[i]).2.2)
  lt : ∀ p ∈ lst, p.1 < 4294967296 ∧ p.2.1 < 4294967296
theorem LsIn.kept {w w' : World} {a : Option Addr} {lst : List (Nat × Ln)} (h : LsIn w a lst) (hc : Chg w w' (fun _ => False)) : LsIn w' a lst := by
  refine ⟨h.src.imp_right ?_, h.lt⟩
  rintro ⟨b, off, rfl, hb, hh⟩
  exact ⟨b, off, rfl, Nat.lt_of_lt_of_le hb hc.size, fun i hi => ⟨(hc.cell hb (fun h => h)).trans (hh i hi).1, (hc.cell hb (fun h => h)).trans (hh i hi).2.1, (hc.cell hb (fun h => h)).trans (hh i hi).2.2⟩⟩
theorem OkFrom.last {sets ways line : Nat} : ∀ {L : List (Nat × Ln)} {S : Nat → List Ln} (j : Nat) (h : j < L.length), OkFrom sets ways line S (L.take j) → CanAdd sets ways line (ldS S (L.take j)) (L[j]) → OkFrom sets ways line S (L.take (j + 1)) := by
  intro L S j h h1 h2
  rw [List.take_add_one, List.getElem?_eq_getElem h]
  exact h1.app ⟨h2, trivial⟩
theorem OkFrom.first {sets ways line : Nat} {L : List (Nat × Ln)} {S : Nat → List Ln} (h : ¬ OkFrom sets ways line S L) : ∃ m, ∃ hm : m < L.length, OkFrom sets ways line S (L.take m) ∧ ¬ CanAdd sets ways line (ldS S (L.take m)) (L[m]) := by
  by_cases hex : ∃ m, ∃ hm : m < L.length, OkFrom sets ways line S (L.take m) ∧ ¬ CanAdd sets ways line (ldS S (L.take m)) (L[m])
  · exact hex
  · exfalso
    apply h
    have key : ∀ j, j ≤ L.length → OkFrom sets ways line S (L.take j) := by
      intro j
      induction j with
      | zero => intro _; simp [OkFrom]
      | succ j ih =>
        intro hj
        have h1 := ih (by omega)
        refine OkFrom.last j (by omega) h1 ?_
        by_cases q : CanAdd sets ways line (ldS S (L.take j)) (L[j])
        · exact q
        · exact absurd ⟨j, by omega, h1, q⟩ hex
    have := key L.length (Nat.le_refl _)
    rwa [List.take_length] at this
theorem good_add {sets ways line : Nat} {S : Nat → List Ln} (h : ∀ k, Good (S k) ways) {p : Nat × Ln} (hc : CanAdd sets ways line S p) : ∀ k, Good (addS S p k) ways := by
  intro k
  unfold addS setS
  split
  · rename_i e
    have hn := hc.new
    refine ⟨?_, by simp; exact hc.room⟩
    simp only [tags, List.map_append, List.map_cons, List.map_nil]
    refine List.nodup_append.2 ⟨(h p.1).nd, by simp, ?_⟩
    intro x hx y hy
    simp at hy
    subst hy
    obtain ⟨z, hz', rfl⟩ := List.mem_map.1 hx
    exact atT_none_iff _ _ hn z hz'
  · exact h k

/-- What Load of the document's cache tells. -/
def LdR (w w' : World) (e : Ending) (B sets ways line : Nat) (lst : List (Nat × Ln)) : Prop :=
  (OkFrom sets ways line (fun _ => []) lst ∧ e = .returned (.bool true) ∧ ∃ v' M su', RC w' B sets ways line v' M lst.length ∧ Rel sets (ldS (fun _ => []) lst) M lst.length su' ∧ Chg w w' (fun k => k = B) ∧ (∀ k, v'.ownBlock = some k → w.heap.size ≤ k)) ∨
  (¬ OkFrom sets ways line (fun _ => []) lst ∧ e = .returned (.bool false) ∧ Chg w w' (fun _ => False))
/-- What the loop of Load knows. -/
structure LdI (w wr : World) (D sets ways line : Nat) (vv : Value) (M : List HL) (lst : List (Nat × Ln)) (j : Nat) : Prop where
  rc : RC wr D sets ways line vv M lst.length
  rel : ∃ su, Rel sets (ldS (fun _ => []) (lst.take j)) M lst.length su
  gt : ∀ e ∈ M, lst.length - j < e.2.1
  ok : OkFrom sets ways line (fun _ => []) (lst.take j)
  good : ∀ k, Good (ldS (fun _ => []) (lst.take j) k) ways
  chg : Chg w wr (fun _ => False)
  new : ∀ k, vv.ownBlock = some k → w.heap.size ≤ k
theorem LdI.kept {w wr W : World} {D sets ways line : Nat} {vv : Value} {M : List HL} {lst : List (Nat × Ln)} {j : Nat} (h : LdI w wr D sets ways line vv M lst j) (hc : Chg wr W (fun _ => False)) : LdI w W D sets ways line vv M lst j :=
  ⟨h.rc.keptF hc, h.rel, h.gt, h.ok, h.good, h.chg.trans hc (fun _ _ h => h), h.new⟩
theorem LdI.len {w wr : World} {D sets ways line : Nat} {vv : Value} {M : List HL} {lst : List (Nat × Ln)} {j : Nat} (h : LdI w wr D sets ways line vv M lst j) : M.length ≤ 2048 := by
  obtain ⟨su, hr⟩ := h.rel
  exact hr.total h.rc.sh.s1 h.rc.sh.s2 (fun k => Nat.le_trans (h.good k).le h.rc.sh.w2)

theorem LdI.add {w V : World} {D sets ways line : Nat} {v : Value} {M : List HL} {lst : List (Nat × Ln)} {j : Nat} (h : LdI w V D sets ways line v M lst j) (hD : w.heap.size ≤ D) (hj : j < lst.length) {s t n mo : Nat} {d : Bool} (hP : lst[j] = (s, t, d))
    (hc : CanAdd sets ways line (ldS (fun _ => []) (lst.take j)) (s, t, d)) (hn : n = t * sets + s) (hn32 : n < 4294967296) (hmo : mo = lst.length - j) :
    ∃ v' w' a' l' c', v' = .slice a' l' c' ∧ (Builtin.append_ #[77, 77] 77 #[v, .slice (some ⟨V.drew.heap.size, 0, none⟩) 1 1]).run Try.prog (V.drew.alloc (.cells #[.int .u32 ((n : Nat) : Int), .int .i64 ((mo : Nat) : Int), .bool d] 85)) = .ok v' w' ∧ w'.cell? ⟨D, 3, none⟩ = some v ∧ w'.frozen? ⟨D, 3, none⟩ = false ∧ Chg w (V.drew.alloc (.cells #[.int .u32 ((n : Nat) : Int), .int .i64 ((mo : Nat) : Int), .bool d] 85)) (fun _ => False) ∧ Chg w w' (fun _ => False) ∧ V.drew.cell? ⟨D, 3, none⟩ = some v ∧ (V.drew.alloc (.cells #[.int .u32 ((n : Nat) : Int), .int .i64 ((mo : Nat) : Int), .bool d] 85)).cell? ⟨D, 3, none⟩ = some v ∧ LdI w (w'.setCell ⟨D, 3, none⟩ v') D sets ways line v' (M ++ [(n, mo, d)]) lst (j + 1) := by
  have hCd : Chg V V.drew (fun _ => False) := (Chg.refl V _).drew
  have hCa : Chg V (V.drew.alloc (.cells #[.int .u32 ((n : Nat) : Int), .int .i64 ((mo : Nat) : Int), .bool d] 85)) (fun _ => False) := hCd.alloc _
  have h1 := h.rc.keptF hCa
  have h0 := h.rc.keptF hCd
  have hnew := heap_alloc_new V.drew (.cells #[.int .u32 ((n : Nat) : Int), .int .i64 ((mo : Nat) : Int), .bool d] 85)
  obtain ⟨v', w', hrun, o2, C2, N2⟩ := app_H _ v M [(n, mo, d)] h1.row (some ⟨V.drew.heap.size, 0, none⟩) 1 1 rfl (.inr ⟨_, 0, rfl, fun j u hu => by
    have hj : j < 3 := (List.getElem?_eq_some_iff.1 hu).1
    rw [Nat.zero_add, (cells_at hnew _).1, ← hu]
    match j, hj with
    | 0, _ => rfl
    | 1, _ => rfl
    | 2, _ => rfl⟩) (by have := h.len; omega) 77
  obtain ⟨a', c', hvf'⟩ := own_len o2
  obtain ⟨_, _, _, c3, _, _, _⟩ := h0.cells
  obtain ⟨_, _, _, d3, _, _, _⟩ := h1.cells
  have hvB : ∀ k, v.ownBlock = some k → k ≠ D := fun k hk => (h1.blk hk).2
  have z2 := C2.heap h1.at_ (fun e => hvB D e rfl)
  have hsS : Chg w' (w'.setCell ⟨D, 3, none⟩ v') (fun k => k = D) := Chg.setCell (S := fun k => k = D) (Chg.refl w' _) (.inl rfl) _
  have hCwA : Chg w (V.drew.alloc (.cells #[.int .u32 ((n : Nat) : Int), .int .i64 ((mo : Nat) : Int), .bool d] 85)) (fun _ => False) := h.chg.trans hCa (fun _ _ h => h)
  have hCw : Chg w w' (fun _ => False) := hCwA.trans C2 (fun k hk e => by have := h.new k e; omega)
  have hCs : Chg w (w'.setCell ⟨D, 3, none⟩ v') (fun _ => False) := hCw.trans hsS (fun k hk e => by omega)
  have hv'D : ∀ k, v'.ownBlock = some k → k ≠ D := fun k hk => by
    rcases N2 with e | ⟨k', e, hk'⟩
    · rw [e] at hk; exact hvB k hk
    · rw [e] at hk
      have := h1.lt
      simp only [Option.some.injEq] at hk
      omega
  have hall : ∀ e ∈ M, mo < e.2.1 := fun e he => by have := h.gt e he; omega
  obtain ⟨su, hr⟩ := h.rel
  obtain ⟨su', hr'⟩ := hr.add hc.set (c := mo) (by omega) hall (t := t) d
  refine ⟨v', w', a', _, c', hvf', hrun, by rw [(cells_at z2 _).1]; rfl, (cells_at z2 _).2, hCwA, hCw, c3, d3, ⟨⟨heap_setCell_same w' D 3 _ 79 v' z2, hsS.owns o2 (fun k hk e => hv'D k hk e), h.rc.sh, fun e he => ?_⟩, ⟨su', ?_⟩, fun e he => ?_, OkFrom.last j hj h.ok (by rw [hP]; exact hc), ?_, hCs, ?_⟩⟩
  · rcases List.mem_append.1 he with q | q
    · exact h.rc.bd e q
    · simp at q; rw [q]; exact hn32
  · rw [ldS_take _ _ _ hj, hP, hn]; exact hr'
  · rcases List.mem_append.1 he with q | q
    · have := h.gt e q; omega
    · simp at q; rw [q]; show _ < mo; omega
  · rw [ldS_take _ _ _ hj, hP]; exact good_add h.good hc
  · intro k hk
    rcases N2 with e | ⟨k', e, hk'⟩
    · rw [e] at hk; exact h.new k hk
    · rw [e] at hk
      have := hCwA.size
      simp only [Option.some.injEq] at hk
      omega

set_option maxHeartbeats 8000000 in
set_option maxRecDepth 100000 in
theorem rload_any (w : World) (B sets ways line : Nat) (v : Value) (L : List HL) (now : Nat) (h : RC w B sets ways line v L now) (a0 : Option Addr) (cap : Nat) (lst : List (Nat × Ln)) (hU : LsIn w a0 lst) (hlen : lst.length ≤ 17592186043904) :
    Calls Try.prog 32 #[.pointer (some ⟨B, 0, none⟩), .slice a0 lst.length cap] w fun e w' => LdR w w' e B sets ways line lst := by
  obtain ⟨c0, c1, c2, c3, c4, f3, f4⟩ := h.cells
  have K : Hid (RC w B sets ways line v L now ∧ LsIn w a0 lst) := ⟨h, hU⟩
  have hBl := h.lt
  have hs1 := h.sh.s1
  have hs2 := h.sh.s2
  have hl1 := h.sh.l1
  have hl2 := h.sh.l2
  obtain ⟨len, hn⟩ : ∃ n, n = lst.length := ⟨_, rfl⟩
  rw [← hn] at hlen ⊢
  have HN : Hid (len = lst.length) := hn
  obtain ⟨D, hD⟩ : ∃ D, D = w.heap.size := ⟨_, rfl⟩
  obtain ⟨W1, hW1⟩ : ∃ W, W = w.alloc (.cells #[.int .i64 (sets : Nat), .int .i64 (ways : Nat), .int .i64 (line : Nat), .slice none 0 0, .int .i64 (len : Nat)] 79) := ⟨_, rfl⟩
  have hC1 : Chg w W1 (fun _ => False) := by rw [hW1]; exact (Chg.refl w _).alloc _
  have KI : Hid (LdI w W1 D sets ways line (.slice none 0 0) [] lst 0) := ⟨⟨by rw [hW1, hD, ← hn]; exact heap_alloc_new w _, World.ownsRow_nil _ _ _ _, h.sh, (fun e he => by cases he)⟩, ⟨fun _ => [], by simpa [ldS] using Rel.none lst.length⟩, (fun e he => by cases he), by simp [OkFrom], fun k => ⟨by simp [ldS, tags], by simp [ldS]⟩, hC1, (fun k hk => by cases hk)⟩
  have HW : Hid (W1 = w.alloc (.cells #[.int .i64 (sets : Nat), .int .i64 (ways : Nat), .int .i64 (line : Nat), .slice none 0 0, .int .i64 (len : Nat)] 79) ∧ D = w.heap.size) := ⟨hW1, hD⟩
  obtain ⟨Q, hQ⟩ : ∃ Q, Q = 4294967296 / line := ⟨_, rfl⟩
  have hQ2 : Q ≤ 4294967296 := by rw [hQ]; exact Nat.div_le_self _ _
  have KQ : Hid (Q = 4294967296 / line) := hQ
  have e1 : IntKind.u64.wrap (sets : Int) = sets := by simp [IntKind.wrap, IntKind.bits, IntKind.signed]; omega
  have e1b : IntKind.u32.wrap (sets : Int) = sets := by rw [wrap_u32]; omega
  have e4 : IntKind.u64.wrap (line : Int) = line := by simp [IntKind.wrap, IntKind.bits, IntKind.signed]; omega
  have e7 : (4294967296 : Int) / (line : Int) = (Q : Int) := by
    rw [show (4294967296 : Int) / (line : Int) = ((4294967296 / line : Nat) : Int) from by simp, ← hQ]
  have e8 : IntKind.u64.wrap (Int.tdiv 4294967296 (line : Int)) = (Q : Int) := by
    rw [Int.tdiv_eq_ediv_of_nonneg (by omega), e7]; simp [IntKind.wrap, IntKind.bits, IntKind.signed]; omega
  have n1 : ¬ line = 0 := by omega
  have n2 : ((line : Int) == 0) = false := by simp; omega
  clear h hU hn hD hW1 hC1 hQ
  go_enter Try.func32, Try.ntmps32
  go_wp2
  rw [← HW.out.1, ← HW.out.2]
  go_loopw [6, 7, 8, 9, 10] (fun s6 s7 s8 s9 s10 wr => ∃ (j : Nat) (vv : Value) (M : List HL), j ≤ len ∧ s6 = .int .i64 j ∧ Hid (LdI w wr D sets ways line vv M lst j)) (fun s6 _ _ _ _ _ => len - (intOf s6).toNat)
  case atStart => exact ⟨0, _, _, by omega, rfl, KI⟩
  case round =>
    obtain ⟨j, vv, M, hj, rfl, HI⟩ := hrel
    rename World => Wj
    clear KI c3 c4 f3 f4
    have q0 := (HI.out.chg.cell hBl (fun h => h)).trans c0
    have q1 := (HI.out.chg.cell hBl (fun h => h)).trans c1
    have q2 := (HI.out.chg.cell hBl (fun h => h)).trans c2
    by_cases hlt : j < len
    · have hltz : (j : Int) < (len : Int) := by omega
      have hjl : j < lst.length := by have := HN.out; omega
      have hne : lst ≠ [] := by rintro rfl; simp at hjl
      obtain ⟨b, off, rfl, hb, hcc⟩ := K.out.2.src.resolve_left hne
      have K0 : Hid (∀ i (hi : i < lst.length), w.cell? ⟨b, off + i * 3, none⟩ = some (.int .u32 (((lst[i]).1 : Nat) : Int)) ∧ w.cell? ⟨b, off + i * 3 + 1, none⟩ = some (.int .u32 (((lst[i]).2.1 : Nat) : Int)) ∧ w.cell? ⟨b, off + i * 3 + 2, none⟩ = some (.bool (lst[i]).2.2)) := hcc
      obtain ⟨y0, y1, y2⟩ := hcc j hjl
      replace y0 := (HI.out.chg.cell hb (fun h => h)).trans y0
      replace y1 := (HI.out.chg.cell hb (fun h => h)).trans y1
      replace y2 := (HI.out.chg.cell hb (fun h => h)).trans y2
      obtain ⟨p1, p2⟩ := K.out.2.lt _ (List.getElem_mem hjl)
      have hbad : ¬ CanAdd sets ways line (ldS (fun _ => []) (lst.take j)) (lst[j]) → ¬ OkFrom sets ways line (fun _ => []) lst := fun hn ho => hn (ho.at j hjl)
      have hTk := ldS_take (fun _ => []) lst j hjl
      have hOl : CanAdd sets ways line (ldS (fun _ => []) (lst.take j)) (lst[j]) → OkFrom sets ways line (fun _ => []) (lst.take (j + 1)) := OkFrom.last j hjl HI.out.ok
      generalize hP0 : lst[j] = P at *
      obtain ⟨s, t, d⟩ := P
      simp only at y0 y1 y2 p1 p2
      obtain ⟨T, hT⟩ : ∃ T, T = t * sets := ⟨_, rfl⟩
      have hTl : T ≤ 4294967296 * 256 := by rw [hT]; exact Nat.mul_le_mul (by omega) hs2
      obtain ⟨n, hnn⟩ : ∃ n, n = T + s := ⟨_, rfl⟩
      have e2 : IntKind.u64.wrap (s : Int) = s := by simp [IntKind.wrap, IntKind.bits, IntKind.signed]; omega
      have e3 : IntKind.u64.wrap (t : Int) = t := by simp [IntKind.wrap, IntKind.bits, IntKind.signed]; omega
      have e5 : IntKind.u64.wrap ((t : Int) * (sets : Int)) = (T : Int) := by
        rw [show (t : Int) * (sets : Int) = ((t * sets : Nat) : Int) from by simp, ← hT]
        simp [IntKind.wrap, IntKind.bits, IntKind.signed]; omega
      have e6 : IntKind.u64.wrap ((T : Int) + (s : Int)) = (n : Int) := by simp [IntKind.wrap, IntKind.bits, IntKind.signed]; omega
      have KT0 : n = t * sets + s := by rw [hnn, hT]
      have KT : Hid (n = t * sets + s) := KT0
      clear KT0
      clear hT hnn
      by_cases z : s < sets
      · have z1 : ¬ (sets : Int) ≤ (s : Int) := by omega
        by_cases zn : n < Q
        · have z2 : ¬ (Q : Int) ≤ (n : Int) := by omega
          have x1 : IntKind.u32.wrap (n : Int) = n := by rw [wrap_u32]; omega
          have hcan : atT (ldS (fun _ => []) (lst.take j) s) t < (ldS (fun _ => []) (lst.take j) s).length ∨ ¬ (ldS (fun _ => []) (lst.take j) s).length < ways ∨ CanAdd sets ways line (ldS (fun _ => []) (lst.take j)) (s, t, d) := by
            by_cases qa : atT (ldS (fun _ => []) (lst.take j) s) t < (ldS (fun _ => []) (lst.take j) s).length
            · exact .inl qa
            · by_cases qb : (ldS (fun _ => []) (lst.take j) s).length < ways
              · exact .inr (.inr ⟨z, by rw [← KQ.out, ← KT.out]; exact zn, p2, qa, qb⟩)
              · exact .inr (.inl qb)
          have KC : Hid ((atT (ldS (fun _ => []) (lst.take j) s) t < (ldS (fun _ => []) (lst.take j) s).length ∨ ¬ (ldS (fun _ => []) (lst.take j) s).length < ways ∨ CanAdd sets ways line (ldS (fun _ => []) (lst.take j)) (s, t, d)) ∧ (¬ CanAdd sets ways line (ldS (fun _ => []) (lst.take j)) (s, t, d) → ¬ OkFrom sets ways line (fun _ => []) lst) ∧ ldS (fun _ => []) (lst.take (j + 1)) = addS (ldS (fun _ => []) (lst.take j)) (s, t, d) ∧ (CanAdd sets ways line (ldS (fun _ => []) (lst.take j)) (s, t, d) → OkFrom sets ways line (fun _ => []) (lst.take (j + 1)))) := ⟨hcan, hbad, hTk, hOl⟩
          obtain ⟨av, cv, hvf⟩ := own_len HI.out.rc.row
          have hMl := HI.out.len
          clear hcan hbad hTk hOl hcc hne
          go_wp2_with fail
          go_quiet (fail)
          rename Nat => na
          go_wp2_with fail
          go_quiet (fail)
          rename Nat => nb
          go_wp2
          obtain ⟨V, hV⟩ : ∃ V, V = (Wj.drewN na).drewN nb := ⟨_, rfl⟩
          rw [← hV]
          have hCV : Chg Wj V (fun _ => False) := by rw [hV]; exact ((Chg.refl Wj _).drewN _).drewN _
          have HIV : Hid (LdI w V D sets ways line vv M lst j) := HI.out.kept hCV
          subst hvf
          clear hV hCV HI q0 q1 q2 y0 y1 y2
          clear na nb
          go_loopw [8, 9] (fun s8 s9 wr => ∃ k : Nat, k ≤ M.length ∧ s9 = .int .i64 k ∧ s8 = .int .i64 (scN sets s M k : Nat) ∧ Hid (Chg V wr (fun _ => False))) (fun _ s9 _ => M.length - (intOf s9).toNat)
          case atStart => exact ⟨0, by omega, rfl, rfl, Chg.refl _ _⟩
          case round =>
            obtain ⟨k, hk, rfl, rfl, HK⟩ := hrel
            rename World => Wk
            have hR := HIV.out.rc.keptF HK.out
            obtain ⟨_, _, _, c3, _, _, _⟩ := hR.cells
            have hCk := HIV.out.chg.trans HK.out (fun _ _ h => h)
            have y0 := (hCk.cell hb (fun h => h)).trans (K0.out j hjl).1
            have y1 := (hCk.cell hb (fun h => h)).trans (K0.out j hjl).2.1
            have y2 := (hCk.cell hb (fun h => h)).trans (K0.out j hjl).2.2
            simp only [hP0] at y0 y1 y2
            have q1 := (hCk.cell hBl (fun h => h)).trans c1
            by_cases hkl : k < M.length
            · have hklz : (k : Int) < (M.length : Int) := by omega
              obtain ⟨g, rfl, _, x0, _, _, _⟩ := hR.at k hkl
              have hxb := hR.bd _ (List.getElem_mem hkl)
              have hS : ∀ X, Chg Wk X (fun _ => False) → Calls Try.prog 33 #[.pointer (some ⟨D, 0, none⟩), .int .u32 (((M[k]).1 : Nat) : Int)] X fun e w' => e = .returned (.int .u32 (((M[k]).1 % sets : Nat) : Int)) ∧ w' = X := fun X hX => setC X D sets ways line _ M _ (hR.keptF hX) (M[k]).1 hxb
              have hN : scN sets s M (k + 1) = if (M[k]).1 % sets = s then scN sets s M k + 1 else scN sets s M k := by
                rw [scN, getD_at M k hkl]; simp [inS]
              have hNl := scN_le sets s M k
              generalize hx0 : (M[k]).1 = xx at *
              obtain ⟨q, hq⟩ : ∃ q, q = xx % sets := ⟨_, rfl⟩
              rw [← hq] at hN
              simp only [← hq] at hS
              clear hq hxb hR
              generalize scN sets s M k = mN at *
              by_cases h1 : q = s
              · subst h1
                rw [if_pos rfl] at hN
                have KNn : Hid (scN sets q M (k + 1) = mN + 1) := hN
                clear hN
                go_wp2_with fail
                go_quiet (first | (go_at_call 33; exact Calls.quiet_of_same (hS _ (by first | exact Chg.refl _ _ | exact (Chg.refl _ _).drew | exact (Chg.refl _ _).drewN _))))
                go_wp2
                exact ⟨⟨k + 1, by omega, by go_num, by rw [KNn.out]; go_num, HK.out.drewN _⟩, by simp [intOf] <;> omega⟩
              · have h1z : ¬ (q : Int) = (s : Int) := by omega
                rw [if_neg h1] at hN
                have KNn : Hid (scN sets s M (k + 1) = mN) := hN
                clear hN
                go_wp2_with fail
                go_quiet (first | (go_at_call 33; exact Calls.quiet_of_same (hS _ (by first | exact Chg.refl _ _ | exact (Chg.refl _ _).drew | exact (Chg.refl _ _).drewN _))))
                go_wp2
                exact ⟨⟨k + 1, by omega, by go_num, by rw [KNn.out], HK.out.drewN _⟩, by simp [intOf] <;> omega⟩
            · have hklz : ¬ (k : Int) < (M.length : Int) := by omega
              have hkM : k = M.length := by omega
              subst hkM
              obtain ⟨su, hrl⟩ := HIV.out.rel
              have hcnt : scN sets s M M.length = (ldS (fun _ => []) (lst.take j) s).length := by
                rw [scN_take _ _ _ _ (Nat.le_refl _), List.take_length]; exact (hrl.len z).1
              have hAt := at_any Wk D sets ways line _ M _ hR hMl n
              have hiff := hrl.at_iff z (t := t)
              rw [← KT.out] at hiff
              have HIk : Hid (LdI w Wk D sets ways line (.slice av M.length cv) M lst j) := HIV.out.kept HK.out
              unfold atI at hAt
              rw [hcnt]
              by_cases hat : atH M n < M.length
              · rw [if_pos hat] at hAt
                have hno := KC.out.2.1 (fun hc => hc.new (hiff.1 hat))
                generalize atH M n = ai at *
                have ha0 : (0 : Int) ≤ (ai : Int) := by omega
                clear hiff hcnt hrl hR
                go_wp2_with fail
                go_at_call 29
                refine hAt.mono ?_
                rintro e w3 ⟨rfl, rfl⟩
                go_wp2
                go_ret
                exact .inr ⟨hno, rfl, HIk.out.chg⟩
              · rw [if_neg hat] at hAt
                by_cases hfl : (ldS (fun _ => []) (lst.take j) s).length = ways
                · have hno := KC.out.2.1 (fun hc => absurd (show (ldS (fun _ => []) (lst.take j) s).length < ways from hc.room) (by omega))
                  rw [hfl]
                  clear hiff hcnt hrl hR hfl
                  go_wp2_with fail
                  go_at_call 29
                  refine hAt.mono ?_
                  rintro e w3 ⟨rfl, rfl⟩
                  go_wp2
                  go_ret
                  exact .inr ⟨hno, rfl, HIk.out.chg⟩
                · have hcan : CanAdd sets ways line (ldS (fun _ => []) (lst.take j)) (s, t, d) := by
                    rcases KC.out.1 with q | q | q
                    · exact absurd (hiff.2 q) hat
                    · have := (HIV.out.good s).le; omega
                    · exact q
                  generalize hmm : (ldS (fun _ => []) (lst.take j) s).length = mm at *
                  have hflz : ¬ (mm : Int) = (ways : Int) := by omega
                  obtain ⟨mo, hmo⟩ : ∃ mo, mo = len - j := ⟨_, rfl⟩
                  obtain ⟨_, w', a', l', c', rfl, hrun, z3, zf, hCA, hCw, e3, f3', hnew⟩ := HIk.out.add (by rw [HW.out.2]; exact Nat.le_refl _) hjl hP0 hcan KT.out (by omega) (mo := mo) (by rw [← HN.out]; exact hmo)
                  have HIn : Hid (LdI w (w'.setCell ⟨D, 3, none⟩ (.slice a' l' c')) D sets ways line (.slice a' l' c') (M ++ [(n, mo, d)]) lst (j + 1)) := hnew
                  have hcd : ∀ {X : World}, Chg w X (fun _ => False) → X.cell? ⟨b, off + j * 3 + 2, none⟩ = some (.bool d) := fun hX => by
                    have := (hX.cell hb (fun h => h)).trans (K0.out j hjl).2.2
                    simpa only [hP0] using this
                  have hmoz : (len : Int) - (j : Int) = (mo : Int) := by omega
                  have x2 : IntKind.i64.wrap (mo : Int) = (mo : Int) := by simp [IntKind.wrap, IntKind.bits, IntKind.signed]; omega
                  have HSa := hcd (hCk.drew)
                  have HSb := hcd hCA
                  have HSc := hcd hCw
                  have HSd := hcd hnew.chg
                  clear hiff hcnt hrl hR hcan hnew hCA hCw hcd hmo hCk
                  go_wp2_with fail
                  go_at_call 29
                  refine hAt.mono ?_
                  rintro e w3 ⟨rfl, rfl⟩
                  go_wp2_with fail
                  refine reg32_17 w3 D n j len cap mo b off d hltz x1 hmoz x2 av M.length cv _ rfl HSa e3 _ w' a' l' c' rfl hrun ⟨HSb, f3'⟩ HSc z3 zf HSd _ ?pan17 ?_
                  case pan17 => exact fun c a w d v h => by cases d <;> exact h
                  go_wp2
                  exact ⟨⟨j + 1, _, _, by omega, by go_num, HIn⟩, by simp [intOf] <;> omega⟩
        · have z2 : (Q : Int) ≤ (n : Int) := by omega
          have hno := hbad (fun hc => by have := hc.bd; rw [← KQ.out, ← KT.out] at this; omega)
          clear hbad hTk hOl hcc hne
          go_wp2_with fail
          go_quiet (fail)
          go_wp2_with fail
          go_quiet (fail)
          go_wp2
          go_ret
          exact .inr ⟨hno, rfl, (HI.out.chg.drewN _).drewN _⟩
      · have z1 : (sets : Int) ≤ (s : Int) := by omega
        have hno := hbad (fun hc => by have := hc.set; omega)
        clear hbad hTk hOl hcc hne
        go_wp2_with fail
        go_quiet (fail)
        go_wp2_with fail
        go_quiet (fail)
        go_wp2
        go_ret
        exact .inr ⟨hno, rfl, (HI.out.chg.drewN _).drewN _⟩
    · have hltz : ¬ (j : Int) < (len : Int) := by omega
      have hjn : j = len := by omega
      subst hjn
      have hB := HI.out.chg.heap K.out.1.at_ (fun h => h)
      obtain ⟨_, _, _, d3, d4, _, _⟩ := HI.out.rc.cells
      have g3 : Wj.frozen? ⟨B, 3, none⟩ = false := (cells_at hB _).2
      have g4 : Wj.frozen? ⟨B, 4, none⟩ = false := (cells_at hB _).2
      have hBD : B ≠ D := by have := HW.out.2; omega
      have hDB : D ≠ B := fun e => hBD e.symm
      have b3 : Wj.cell? ⟨B, 3, none⟩ = some v := by rw [(cells_at hB _).1]; rfl
      have b4 : Wj.cell? ⟨B, 4, none⟩ = some (.int .i64 (now : Nat)) := by rw [(cells_at hB _).1]; rfl
      have hB1 := heap_setCell_same Wj B 3 _ 79 vv hB
      have hB2 := heap_setCell_same (Wj.setCell ⟨B, 3, none⟩ vv) B 4 _ 79 (.int .i64 (lst.length : Nat)) hB1
      have hCB : Chg Wj ((Wj.setCell ⟨B, 3, none⟩ vv).setCell ⟨B, 4, none⟩ (.int .i64 (lst.length : Nat))) (fun k => k = B) := Chg.setCell (S := fun k => k = B) (Chg.setCell (S := fun k => k = B) (Chg.refl Wj _) (.inl rfl) _) (.inl rfl) _
      have htk : lst.take j = lst := by rw [HN.out, List.take_length]
      have hok := HI.out.ok
      obtain ⟨su, hrl⟩ := HI.out.rel
      rw [htk] at hok hrl
      have KX : Hid (LdR w ((Wj.setCell ⟨B, 3, none⟩ vv).setCell ⟨B, 4, none⟩ (.int .i64 (lst.length : Nat))) (.returned (.bool true)) B sets ways line lst) := .inl ⟨hok, rfl, vv, M, su, ⟨hB2, hCB.owns HI.out.rc.row (fun k hk e => by have := HI.out.new k hk; omega), HI.out.rc.sh, HI.out.rc.bd⟩, hrl, (HI.out.chg.mono (fun _ _ h => h.elim)).trans hCB (fun _ _ h => h), HI.out.new⟩
      obtain ⟨av, cv, hvw⟩ := own_len HI.out.rc.row
      clear hB1 hB2 hCB hok hrl htk hB HI
      subst hvw
      go_wp2
      go_ret
      exact KX.out
end Go.Proofs.Ytppcfofkneaigab
