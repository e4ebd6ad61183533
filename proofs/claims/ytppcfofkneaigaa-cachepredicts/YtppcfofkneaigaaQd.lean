import Derived.Test.YtppcfofkneaigaaQa
import Derived.Test.YtppcfofkneaigaaQc
namespace Go.Proofs.Ytppcfofkneaigaa
open Go.ChangeShapes Go.WideShapes Go.ChangeAt Go.RowKit
set_option linter.unusedVariables false

def u32V (x : Nat) : Value := .int .u32 (x : Nat)
theorem info35 : (Try.prog.info? 35).map (fun i => (i.zero, i.size, i.bytes)) = some (some (.int .u32 0), 1, 4) := by kernel_rfl

/-- A list of lines of one's own. -/
structure LU (w : World) (base : Nat) (v : Value) (l : List Nat) : Prop where
  row : w.ownsRow 0 35 1 v l.length (l.map u32V)
  fresh : ∀ k, v.ownBlock = some k → base ≤ k
theorem LU.kept {w w' : World} {base : Nat} {v : Value} {l : List Nat} {S : Nat → Prop} (h : LU w base v l) (hc : Chg w w' S) (hS : ∀ k, base ≤ k → ¬ S k) : LU w' base v l :=
  ⟨hc.owns h.row (fun k hk => hS k (h.fresh k hk)), h.fresh⟩
theorem LU.len {w : World} {base : Nat} {v : Value} {l : List Nat} (h : LU w base v l) : ∃ a cap, v = .slice a l.length cap := by
  rcases h.row.2 with ⟨rfl, h0⟩ | ⟨g, cap, cur, rfl, _⟩
  · exact ⟨none, 0, by rw [h0]⟩
  · exact ⟨_, _, rfl⟩
theorem LU.at_ {w : World} {base : Nat} {a : Option Addr} {cap n : Nat} {l : List Nat} (h : LU w base (.slice a n cap) l) (j : Nat) (hj : j < l.length) : ∃ g, a = some ⟨g, 0, none⟩ ∧ g < w.heap.size ∧ w.cell? ⟨g, j, none⟩ = some (.int .u32 ((l.getD j 0 : Nat) : Int)) := by
  obtain ⟨g, cap', cur, e, _, hg, hnc, _⟩ := h.row.2.resolve_left (by rintro ⟨_, h⟩; omega)
  simp only [Value.slice.injEq] at e
  obtain ⟨rfl, rfl, rfl⟩ := e
  refine ⟨g, rfl, (Array.getElem?_eq_some_iff.1 hg).1, ?_⟩
  rw [h.row.cellAt j (by simpa using hj)]
  simp [u32V, List.getD_eq_getElem?_getD, hj]

/-- One more line onto a list. -/
theorem app_u32 (w : World) (base : Nat) (v : Value) (l : List Nat) (h : LU w base v l) (hb : base ≤ w.heap.size) (x : Nat) (hn : l.length ≤ 2000000) :
    ∃ v' w', (Builtin.append_ #[111, 111] 111 #[v, .slice (some ⟨w.heap.size, 0, none⟩) 1 1]).run Try.prog (w.alloc (.cells #[.int .u32 (x : Nat)] 35)) = .ok v' w' ∧ LU w' base v' (l ++ [x]) ∧ Chg w w' (fun k => base ≤ k) := by
  obtain ⟨i0, hi, hz0, hz1, hz2⟩ := info_parts info35
  have hown2 := ((Chg.refl w (fun _ => False)).alloc (.cells #[.int .u32 (x : Nat)] 35)).owns h.row (fun _ _ h => h)
  obtain ⟨v', w', hr, h1, h2, h3⟩ := run_app (P := Try.prog) _ 111 111 35 i0 (.int .u32 0) 1 4 Try.underlying111 hi hz0 hz1 hz2 rfl (by decide) v _ _ hown2 (some ⟨w.heap.size, 0, none⟩) 1 1 [u32V x] rfl (.inr ⟨_, _, rfl, (by
    intro j u hu
    have hj : j < 1 := (List.getElem?_eq_some_iff.1 hu).1
    have hc := (cells_at (heap_alloc_new w (.cells #[.int .u32 (x : Nat)] 35)) (0 + j)).1
    rw [hc, ← hu]
    match j, hj with
    | 0, _ => rfl)⟩) (by
    intro u hu
    simp at hu
    subst hu; rfl) (by simp [maxLen]; omega) (by omega)
  refine ⟨v', w', hr, ⟨?_, ?_⟩, ((Chg.refl w _).alloc _).grown h2 (fun k e => .inl (h.fresh k e))⟩
  · simpa using h1
  · intro k hk
    rcases h3 with e | ⟨k', e, hk'⟩
    · rw [e] at hk; exact h.fresh k hk
    · rw [e] at hk
      simp at hk hk'; omega

/-- A use in a list that can be read. -/
theorem UsesIn.cell {w : World} {a : Option Addr} {len : Nat} {F : Nat → Nat × Bool} (h : UsesIn w a len F) (i : Nat) (hi : i < len) : ∃ b off, a = some ⟨b, off, none⟩ ∧ b < w.heap.size ∧ w.cell? ⟨b, off + i * 2, none⟩ = some (.int .u32 ((F i).1 : Nat)) ∧ w.cell? ⟨b, off + i * 2 + 1, none⟩ = some (.bool (F i).2) := by
  obtain ⟨b, off, e, hb, hc⟩ := h.src.resolve_left (by omega)
  exact ⟨b, off, e, hb, (hc i hi).1, (hc i hi).2⟩

theorem mem_take_succ {l : List Nat} {j n : Nat} (hj : j < l.length) : decide (n ∈ l.take (j + 1)) = (decide (n ∈ l.take j) || decide (l.getD j 0 = n)) := by
  have e : l.take (j + 1) = l.take j ++ [l.getD j 0] := by rw [List.take_add_one]; simp [hj]
  generalize l.getD j 0 = y at *
  generalize l.take j = p at *
  generalize l.take (j + 1) = q at *
  subst e
  rw [← Bool.decide_or, decide_eq_decide, List.mem_append, List.mem_singleton, eq_comm (a := n)]

set_option maxHeartbeats 4000000 in
set_option maxRecDepth 10000 in
theorem roth_any (w : World) (B sets ways line : Nat) (h : IsF w B sets ways line) (a : Option Addr) (len cap : Nat) (F : Nat → Nat × Bool) (hU : UsesIn w a len F) (i : Nat) (hi : i < len) (hlen : len ≤ 1048576) :
    Calls Try.prog 45 #[.pointer (some ⟨B, 0, none⟩), .slice a len cap, .int .i64 (i : Nat)] w fun e w' => ∃ v, e = .returned (.tuple #[v, .bool (oth sets line F ((F i).1 / line) i []).2]) ∧ LU w' w.heap.size v (oth sets line F ((F i).1 / line) i []).1 ∧ Chg w w' (fun _ => False) := by
  obtain ⟨b, off, rfl, hbw, hc0, hc1⟩ := hU.cell i hi
  have hFl := hU.lt i hi
  have hL := rline_any w B sets ways line h (F i).1 hFl
  obtain ⟨own, hown⟩ : ∃ o, o = (F i).1 / line := ⟨_, rfl⟩
  have hol : own < 4294967296 := by rw [hown]; exact Nat.lt_of_le_of_lt (Nat.div_le_self _ _) hFl
  rw [← hown] at hL ⊢
  generalize hO : oth sets line F own i [] = O
  have K : Hid (IsF w B sets ways line ∧ UsesIn w (some ⟨b, off, none⟩) len F) := ⟨h, hU⟩
  have hBw := h.lt
  generalize (F i).1 = ai at *
  clear h hU hown hFl
  go_enter Try.func45, Try.ntmps45
  go_wp2_with fail
  go_at_call 46
  refine hL.mono ?_
  rintro e w1 ⟨rfl, rfl⟩
  clear hL hc0 hc1
  go_wp2
  go_loopw [9, 10, 11, 12, 13] (fun s9 k s11 s12 s13 wr => ∃ (lv : Value) (kk : Nat) (acc : List Nat), lv = s9 ∧ k = .int .i64 ((kk : Int) - 1) ∧ kk ≤ i ∧ LU wr w1.heap.size lv acc ∧ Chg w1 wr (fun _ => False) ∧ oth sets line F own kk acc = O ∧ acc.length + kk ≤ len) (fun _ k _ _ _ _ => ((intOf k) + 1).toNat)
  case atStart => exact ⟨_, i, [], rfl, rfl, Nat.le_refl _, ⟨World.ownsRow_nil _ _ _ _, fun k hk => by cases hk⟩, Chg.refl _ _, hO, by simp; omega⟩
  case round =>
    obtain ⟨lv, kk, acc, rfl, rfl, hk, hLU, hC, hacc, hal⟩ := hrel
    by_cases h0 : kk = 0
    · subst h0
      have hO' : (acc, false) = O := hacc
      subst hO'
      have K2 : Hid (LU wr w1.heap.size lv acc ∧ Chg w1 wr (fun _ => False)) := ⟨hLU, hC⟩
      clear hLU hC hacc
      go_wp2
      go_ret2
      exact ⟨_, rfl, K2.out⟩
    · obtain ⟨k, rfl⟩ : ∃ k, kk = k + 1 := ⟨kk - 1, by omega⟩
      have ek : (((k + 1 : Nat) : Int) - 1) = (k : Int) := by omega
      rw [ek]
      obtain ⟨b', off', e, _, d0, d1⟩ := (K.out.2.kept hC (fun _ _ h => h)).cell k (by omega)
      simp only [Option.some.injEq, Addr.mk.injEq] at e
      obtain ⟨rfl, rfl, _⟩ := e
      have hFk := K.out.2.lt k (by omega)
      have hFr := K.out.1.kept hC (fun h => h)
      have hLk := rline_any wr B sets ways line hFr (F k).1 hFk
      obtain ⟨n, hn⟩ : ∃ n, n = (F k).1 / line := ⟨_, rfl⟩
      have hnl : n < 4294967296 := by rw [hn]; exact Nat.lt_of_le_of_lt (Nat.div_le_self _ _) hFk
      have hS1 := rset_any wr B sets ways line hFr n hnl
      have hS2 := rset_any wr B sets ways line hFr own hol
      simp only [oth] at hacc
      rw [← hn] at hLk hacc
      generalize (F k).1 = ak at *
      have K2 : Hid (LU wr w1.heap.size lv acc ∧ Chg w1 wr (fun _ => False)) := ⟨hLU, hC⟩
      obtain ⟨av, cv, rfl⟩ := hLU.len
      clear hLU hC hFr hFk hn
      go_wp2_with fail
      go_at_call 46
      refine hLk.mono ?_
      rintro e w2 ⟨rfl, rfl⟩
      by_cases h1 : n = own
      · rw [if_pos h1] at hacc
        subst hacc
        subst h1
        clear hLk hS1 hS2
        go_wp2
        go_ret2
        exact ⟨_, rfl, K2.out⟩
      · rw [if_neg h1] at hacc
        have h1z : ¬ (n : Int) = (own : Int) := by omega
        obtain ⟨k0, hk0⟩ : ∃ k0 : Bool, k0 = decide (n % sets ≠ own % sets) := ⟨_, rfl⟩
        have hacc : (if (k0 || decide (n ∈ acc)) = true then oth sets line F own k acc else oth sets line F own k (acc ++ [n])) = O := by
          rw [← hacc, hk0]
          congr 1
          simp
        have hcond : ((((n % sets : Nat) : Int)) != ((own % sets : Nat) : Int)) = k0 := by
          rw [hk0]
          by_cases e : n % sets = own % sets
          · rw [e]; simp
          · have : ¬ ((n % sets : Nat) : Int) = ((own % sets : Nat) : Int) := by omega
            rw [decide_eq_true e]
            simpa using this
        obtain ⟨sn, hsn⟩ : ∃ s : Int, s = ((n % sets : Nat) : Int) := ⟨_, rfl⟩
        obtain ⟨so, hso⟩ : ∃ s : Int, s = ((own % sets : Nat) : Int) := ⟨_, rfl⟩
        rw [← hsn] at hS1 hcond
        rw [← hso] at hS2 hcond
        clear hsn hso hk0 hLk
        go_wp2_with fail
        go_at_call 50
        refine hS1.mono ?_
        rintro e w2 ⟨rfl, rfl⟩
        go_wp2_with fail
        go_at_call 50
        refine hS2.mono ?_
        rintro e w2 ⟨rfl, rfl⟩
        clear hS1 hS2
        go_wp2_with fail
        have hcond2 : (!(sn == so)) = k0 := hcond
        have hcond3 : (decide (¬ sn = so)) = k0 := by rw [← hcond]; by_cases e : sn = so <;> simp [e]
        have hcond4 : (!(decide (sn = so))) = k0 := by rw [← hcond]; by_cases e : sn = so <;> simp [e]
        clear hcond hcond2 hcond3 hcond4
        go_loopw [12, 13] (fun s12 s13 wj => ∃ j : Nat, j ≤ acc.length ∧ s13 = .int .i64 j ∧ s12 = .bool (k0 || decide (n ∈ acc.take j)) ∧ wj = w2) (fun _ s13 _ => acc.length - (intOf s13).toNat)
        case atStart => exact ⟨0, by omega, rfl, by simp, rfl⟩
        case round =>
          obtain ⟨j, hj, rfl, rfl, rfl⟩ := hrel
          by_cases hlt : j < acc.length
          · have hltz : (j : Int) < (acc.length : Int) := by omega
            obtain ⟨g, rfl, _, hcell⟩ := K2.out.1.at_ j hlt
            have hnx := mem_take_succ (n := n) hlt
            generalize acc.getD j 0 = y at hcell hnx
            generalize hkb : (k0 || decide (n ∈ acc.take j)) = kb
            have KN : Hid ((k0 || decide (n ∈ acc.take (j + 1))) = (kb || decide (y = n))) := by
              show _ = _
              rw [hnx, ← Bool.or_assoc, hkb]
            clear hnx hkb
            cases kb
            · go_wp2
              exact ⟨⟨j + 1, by omega, by go_num, by rw [KN.out]; by_cases e : y = n <;> simp [e] <;> omega, trivial⟩, by simp [intOf]; omega⟩
            · go_wp2
              exact ⟨⟨j + 1, by omega, by go_num, by rw [KN.out]; simp, trivial⟩, by simp [intOf]; omega⟩
          · have hltz : ¬ (j : Int) < (acc.length : Int) := by omega
            have ej : j = acc.length := by omega
            subst ej
            rw [List.take_length]
            generalize (k0 || decide (n ∈ acc)) = kb at *
            cases kb
            · obtain ⟨v', w', hr, h2, h3⟩ := app_u32 _ w1.heap.size _ acc K2.out.1 K2.out.2.size n (by omega)
              have KN : Hid (LU w' w1.heap.size v' (acc ++ [n]) ∧ Chg w1 w' (fun _ => False) ∧ oth sets line F own k (acc ++ [n]) = O) := ⟨h2, K2.out.2.trans h3 (fun i hi hb => by omega), by simpa using hacc⟩
              clear h2 h3 hacc
              go_wp2_with (at_builtin; refine wpList_append_run _ rfl (.tmp 62) (.tmp 64) 111 111 rfl _ _ v' w' rfl rfl hr ?_)
              exact ⟨⟨_, k, acc ++ [n], rfl, by go_num, by omega, KN.out.1, KN.out.2.1, KN.out.2.2, by simp; omega⟩, by simp [intOf]⟩
            · have KN0 : oth sets line F own k acc = O := by simpa using hacc
              have KN : Hid (oth sets line F own k acc = O) := KN0
              clear KN0
              clear hacc
              go_wp2
              exact ⟨⟨_, k, acc, rfl, by go_num, by omega, K2.out.1, K2.out.2, KN.out, by omega⟩, by simp [intOf]⟩
end Go.Proofs.Ytppcfofkneaigaa
