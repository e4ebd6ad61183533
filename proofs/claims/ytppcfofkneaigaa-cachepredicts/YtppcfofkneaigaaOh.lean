import Derived.Test.YtppcfofkneaigaaOt
import Derived.Test.YtppcfofkneaigaaKm
import Derived.Laws.ResultCell
namespace Go.Proofs.Ytppcfofkneaigaa
open Go.ChangeShapes Go.WideShapes Go.ChangeAt Go.RowKit
set_option linter.unusedVariables false

/-- The uses, as cells. -/
def uList (ut ua : Nat → Nat) : Nat → List Value
  | 0 => []
  | n + 1 => uList ut ua n ++ [.int .u32 (ut n : Nat), .int .i64 (ua n : Nat)]
theorem uList_len (ut ua : Nat → Nat) : ∀ n, (uList ut ua n).length = n * 2
  | 0 => rfl
  | n + 1 => by simp [uList, uList_len ut ua n]; omega
theorem uList_get (ut ua : Nat → Nat) : ∀ n i, i < n → (uList ut ua n)[i * 2]? = some (.int .u32 (ut i : Nat)) ∧ (uList ut ua n)[i * 2 + 1]? = some (.int .i64 (ua i : Nat))
  | 0, i, h => by omega
  | n + 1, i, h => by
    have hl := uList_len ut ua n
    by_cases e : i = n
    · subst e
      rw [uList, List.getElem?_append_right (by omega), List.getElem?_append_right (by omega), hl]
      constructor
      · rw [show i * 2 - i * 2 = 0 by omega]; rfl
      · rw [show i * 2 + 1 - i * 2 = 1 by omega]; rfl
    · rw [uList, List.getElem?_append_left (by omega), List.getElem?_append_left (by omega)]
      exact uList_get ut ua n i (by omega)
theorem uList_congr {ut ua ut' ua' : Nat → Nat} : ∀ n, (∀ i, i < n → ut' i = ut i) → (∀ i, i < n → ua' i = ua i) → uList ut' ua' n = uList ut ua n
  | 0, _, _ => rfl
  | n + 1, h1, h2 => by rw [uList, uList, uList_congr n (fun i hi => h1 i (by omega)) (fun i hi => h2 i (by omega)), h1 n (by omega), h2 n (by omega)]

/-- Block P is what Predict knows. -/
structure IsP (w : World) (P M g uc sets ways line : Nat) (p : Pst) : Prop where
  row : ∃ arr, w.heap[P]? = some (.cells arr 88 (0, 0)) ∧ arr.size = 261 ∧ arr[0]? = some (.int .i64 sets) ∧ arr[1]? = some (.int .i64 ways) ∧ arr[2]? = some (.int .i64 line) ∧ arr[3]? = some (.map (some M)) ∧ arr[4]? = some (.slice (some ⟨g, 0, none⟩) p.n uc) ∧ ∀ s, s < 256 → arr[5 + s]? = some (.int .i64 (p.la s : Nat))
  map : LM w M p.n p.mp
  uses : w.ownsRow 0 106 2 (.slice (some ⟨g, 0, none⟩) p.n uc) p.n (uList p.ut p.ua p.n)
  sh : ShOk sets ways line

/-- The blocks that are Predict's own. -/
def Pf (P M g : Nat) (k : Nat) : Prop := k = P ∨ k = M ∨ k = g
theorem IsP.kept {w w' : World} {P M g uc sets ways line : Nat} {p : Pst} {S : Nat → Prop} (h : IsP w P M g uc sets ways line p) (hc : Chg w w' S) (hS : ∀ k, Pf P M g k → ¬ S k) : IsP w' P M g uc sets ways line p := by
  obtain ⟨arr, h1, h2⟩ := h.row
  refine ⟨⟨arr, hc.heap h1 (hS P (.inl rfl)), h2⟩, h.map.kept hc (hS M (.inr (.inl rfl))), hc.owns h.uses (fun k hk => ?_), h.sh⟩
  simp [Value.ownBlock] at hk; subst hk
  exact hS g (.inr (.inr rfl))

theorem sub102 (R n : Nat) (h : n ≤ 8) (w : World) : (Instr.sliceAt 102 (.pointer (some ⟨R, 0, none⟩)) none (some (.int .i64 n)) none).run Try.prog w = .ok (.slice (some ⟨R, 0, none⟩) n 8) w := by
  have e : ¬ 8 < n := by omega
  simp [Instr.sliceAt, Instr.sureAddr, run_underlying Try.underlying102, Instr.sliceBounds, Instr.sliceBound, asIntOf, e, Addr.add_lit]

theorem TagsAt.snoc {arr : Array Value} {acc : List Nat} (h : TagsAt arr acc) (hl : acc.length < 8) (x : Nat) : TagsAt (arr.setIfInBounds acc.length (.int .u32 (x : Nat))) (acc ++ [x]) := by
  refine ⟨by simp [h.1], by simp; omega, fun i hi => ?_⟩
  simp at hi
  rw [Array.getElem?_setIfInBounds]
  by_cases e : i = acc.length
  · subst e
    rw [if_pos rfl, if_pos (by have := h.1; omega)]
    simp
  · rw [if_neg (fun h => e h.symm), h.2.2 i (by omega), List.getElem_append_left (by omega)]

def OneC (a : Array Value) : Prop := ∀ v ∈ a.toList, v.oneCell' = true

theorem one102 : (Try.prog.info? 102).map (·.size) = some 8 := by kernel_rfl

set_option maxHeartbeats 2000000 in
set_option maxRecDepth 10000 in
theorem others_any (w : World) (P M g uc sets ways line : Nat) (p : Pst) (h : IsP w P M g uc sets ways line p) (hPn : p.n ≤ 2000000) (s : Nat) (hs : s < 256) (t since : Nat) (C D : List Nat) (hSeg : Seg p.ut p.ua p.n t since (p.la s) C) (hn0 : 0 < p.n) (hD : dedF [] C = D) :
    Calls Try.prog 39 #[.pointer (some ⟨P, 0, none⟩), .int .u32 s, .int .i64 since] w fun e w' => ∃ (vals : Array Value) (acc : List Nat), e = .returned (.tuple #[.agg vals, .int .i64 (acc.length : Nat)]) ∧ TagsAt vals acc ∧ acc = (D.take ways).take ((D.take ways).idxOf t) ∧ OneC vals ∧ Chg w w' (fun _ => False) := by
  obtain ⟨arr, hb, hsz, a0, a1, a2, a3, a4, a5⟩ := h.row
  have hw1 := h.sh.w1
  have hw8 := h.sh.w2
  have hla := hSeg.lt hn0
  have c5 : w.cell? ⟨P, 5 + s, none⟩ = some (.int .i64 (p.la s : Nat)) := by rw [(cells_at hb _).1, a5 s hs]
  have hPl : P < w.heap.size := (Array.getElem?_eq_some_iff.1 hb).1
  have hgl : g < w.heap.size := by
    rcases h.uses.2 with ⟨e, _⟩ | ⟨g', cap, cur, e, _, hg, _⟩
    · cases e
    · simp at e; obtain ⟨rfl, _⟩ := e; exact (Array.getElem?_eq_some_iff.1 hg).1
  have hcell : ∀ V, Chg w V (fun _ => False) → V.cell? ⟨P, 1, none⟩ = some (.int .i64 ways) ∧ V.cell? ⟨P, 4, none⟩ = some (.slice (some ⟨g, 0, none⟩) p.n uc) ∧ ∀ x, x < p.n → V.cell? ⟨g, x * 2, none⟩ = some (.int .u32 (p.ut x : Nat)) ∧ V.cell? ⟨g, x * 2 + 1, none⟩ = some (.int .i64 (p.ua x : Nat)) := by
    intro V hV
    have hb' := hV.heap hb (fun h => h)
    refine ⟨by rw [(cells_at hb' _).1, a1], by rw [(cells_at hb' _).1, a4], fun x hx => ?_⟩
    have hu := hV.owns h.uses (fun _ _ h => h)
    obtain ⟨g1, g2⟩ := uList_get p.ut p.ua p.n x hx
    exact ⟨by rw [hu.cellAt (x * 2) (by omega), g1], by rw [hu.cellAt (x * 2 + 1) (by omega), g2]⟩
  have K : Hid (Seg p.ut p.ua p.n t since (p.la s) C ∧ dedF [] C = D) := ⟨hSeg, hD⟩
  have hs256 : (s : Int) < 256 := by omega
  obtain ⟨n, hn⟩ : ∃ n, n = p.n := ⟨_, rfl⟩
  rw [← hn] at hPn hla hcell
  have HN : Hid (n = p.n) := hn
  clear h hb hsz a0 a1 a2 a3 a4 a5 hSeg hD hn0 hn
  generalize hls : p.la s = x0 at *
  go_enter Try.func39, Try.ntmps39
  go_wp2
  go_loopw [7, 8] (fun c i wr => ∃ (x : Nat) (r acc : List Nat) (vals : Array Value), c = .int .i64 (acc.length : Nat) ∧ i = .int .i64 x ∧ x < n ∧ acc.length ≤ ways ∧ Seg p.ut p.ua n t since x r ∧ dedF acc r = D ∧ t ∉ acc ∧ TagsAt vals acc ∧ OneC vals ∧ wr.heap[w.heap.size]? = some (.cells vals 102 (0, 0)) ∧ Chg w wr (fun _ => False)) (fun _ i _ => (intOf i).toNat)
  case atStart =>
    refine ⟨x0, C, [], _, rfl, rfl, hla, by simp, by have := HN.out; rw [this]; exact K.out.1, K.out.2, by simp, ⟨rfl, by simp, fun i hi => by simp at hi⟩, ?_, heap_alloc_new w _, (Chg.refl _ _).alloc _⟩
    intro v hv
    simp at hv
    subst hv; rfl
  case round =>
    obtain ⟨x, r, acc, vals, rfl, rfl, hx, hal, hsg, hde, hta, hTg, hone, hR, hC⟩ := hrel
    obtain ⟨k1, k2, k3⟩ := hcell wr hC
    obtain ⟨k4, k5⟩ := k3 x hx
    by_cases hstop : x = since ∨ acc.length = ways
    · have hfin := others_end hsg hde hta hal hstop
      have hrg : wr.rangeAt w.heap.size 0 vals.toList := by
        intro i u hu
        rw [(cells_at hR _).1, Nat.zero_add, ← hu]
        simp
      have e102 : (Try.prog.info? 102).map (·.size) = some vals.toList.length := by rw [one102]; simp [hTg.1]
      have hst := run_storeVar_row (P := Try.prog) wr w.heap.size 0 102 vals vals 102 hR (by omega) (by rw [one102, hTg.1]) hone
      have eself : (vals.toList.take 0 ++ vals.toList ++ vals.toList.drop (0 + vals.size)).toArray = vals := by
        have : vals.toList.drop (0 + vals.size) = [] := List.drop_eq_nil_of_le (by simp)
        rw [this]; simp
      rw [eself, setRow_self wr _ vals 102 (0, 0) hR] at hst
      have KF : Hid (acc = (D.take ways).take ((D.take ways).idxOf t) ∧ TagsAt vals acc ∧ OneC vals ∧ Chg w wr (fun _ => False) ∧ wr.rangeAt w.heap.size 0 vals.toList) := ⟨hfin, hTg, hone, hC, hrg⟩
      have hst' : (storeVar 102 ⟨w.heap.size, 0, none⟩ (.agg vals.toList.toArray)).run Try.prog wr = .ok () wr := by simpa using hst
      clear hfin hTg hone hC hR hsg hde hta k3 k4 k5 hcell eself hst
      obtain ⟨al, hal2⟩ : ∃ al, al = vals.toList := ⟨_, rfl⟩
      rw [← hal2] at hrg e102 hst'
      obtain ⟨m, hm⟩ : ∃ m, m = acc.length := ⟨_, rfl⟩
      rw [← hm] at hstop hal ⊢
      have KA : Hid (al = vals.toList ∧ m = acc.length) := ⟨hal2, hm⟩
      clear hal2 hm
      have fin : ∀ a' : Act, a'.tmps.getD 6 undef = .pointer (some ⟨w.heap.size, 0, none⟩) → a'.tmps.getD 7 undef = .int .i64 (m : Nat) → a'.defers = [] → bodyPost Try.prog Try.f39 (fun e w' => ∃ (vals : Array Value) (acc : List Nat), e = .returned (.tuple #[.agg vals, .int .i64 (acc.length : Nat)]) ∧ TagsAt vals acc ∧ acc = (D.take ways).take ((D.take ways).idxOf t) ∧ OneC vals ∧ Chg w w' (fun _ => False)) Exit.ret a' wr := by
        intro a' h6 h7 hdf
        obtain ⟨f1, f2, f3, f4, f5⟩ := KF.out
        refine bodyPost_ret (v := .tuple #[.agg vals, .int .i64 (acc.length : Nat)]) ?_ hdf ⟨vals, acc, rfl, f2, f1, f3, f4⟩
        have hld := run_loadVar_mid (P := Try.prog) wr w.heap.size 0 102 vals.toList _ f5 Try.underlying102 rfl (by rw [one102]; simp [f2.1])
        rw [results_cell_tmp rfl, h6, h7]
        simp [asAddr, hld, Result.andThen, KA.out.2]
      clear KF
      by_cases hxs : x = since
      · clear hstop
        subst hxs
        have hne : ((x : Int) != (x : Int)) = false := by simp
        go_wp2_with (first | refine wpList_load_mid rfl 102 (.tmp 6) rfl w.heap.size 0 rfl _ _ hrg Try.underlying102 rfl e102 ?_ | refine wpList_store_row rfl 102 (.tmp 6) (.tmp 54) rfl w.heap.size 0 al.toArray rfl rfl wr hst' ?_)
        exact fin _ rfl rfl rfl
      · have hmw : m = ways := hstop.resolve_left hxs
        have hlt : ¬ ((m : Int) < (ways : Int)) := by omega
        have hne : ((x : Int) != (since : Int)) = true := by simp; omega
        clear hstop hmw
        go_wp2_with (first | refine wpList_load_mid rfl 102 (.tmp 6) rfl w.heap.size 0 rfl _ _ hrg Try.underlying102 rfl e102 ?_ | refine wpList_store_row rfl 102 (.tmp 6) (.tmp 54) rfl w.heap.size 0 al.toArray rfl rfl wr hst' ?_)
    · have hxs : x ≠ since := fun e => hstop (.inl e)
      have hml : acc.length < ways := by have : acc.length ≠ ways := fun e => hstop (.inr e); omega
      obtain ⟨r', x1, x2, x3, hsg', hstep⟩ := others_next hsg hde hta hxs
      have hCo := contains_any wr w.heap.size vals 102 hR acc hTg (p.ut x)
      have hsub := sub102 w.heap.size acc.length (by omega)
      have hone2 := hone
      have cR : ∃ u, wr.cell? ⟨w.heap.size, acc.length, none⟩ = some u := ⟨vals[acc.length]'(by have := hTg.1; omega), by rw [(cells_at hR _).1]; exact Array.getElem?_eq_getElem _⟩
      have fR := (cells_at hR acc.length).2
      obtain ⟨u, cR⟩ := cR
      have hne : ((x : Int) != (since : Int)) = true := by simp; omega
      have hua : p.ua x < n := by omega
      have KS : Hid (Seg p.ut p.ua n t since (p.ua x) r' ∧ (if p.ut x ∈ acc then dedF acc r' = D else dedF (acc ++ [p.ut x]) r' = D ∧ t ∉ acc ++ [p.ut x]) ∧ t ∉ acc ∧ TagsAt vals acc ∧ OneC vals ∧ wr.heap[w.heap.size]? = some (.cells vals 102 (0, 0)) ∧ Chg w wr (fun _ => False)) := ⟨hsg', hstep, hta, hTg, hone, hR, hC⟩
      obtain ⟨m, hm⟩ : ∃ m, m = acc.length := ⟨_, rfl⟩
      rw [← hm] at hml hCo hsub cR fR ⊢
      have HM : Hid (m = acc.length) := hm
      clear hsg hde hta hsg' hstep hTg hone hone2 hR hC hcell k3 hm hstop
      by_cases hmem : p.ut x ∈ acc
      · rw [decide_eq_true hmem] at hCo
        go_wp2_with fail
        go_at_call 44
        refine hCo.mono ?_
        rintro e w' ⟨rfl, rfl⟩
        go_wp2
        obtain ⟨s1, s2, s3, s4, s5, s6, s7⟩ := KS.out
        rw [if_pos hmem] at s2
        exact ⟨⟨p.ua x, r', acc, vals, by rw [HM.out], rfl, hua, by have := HM.out; omega, s1, s2, s3, s4, s5, s6, s7⟩, by simp [intOf]; omega⟩
      · rw [decide_eq_false hmem] at hCo
        go_wp2_with fail
        go_at_call 44
        refine hCo.mono ?_
        rintro e w' ⟨rfl, rfl⟩
        have hm8 : (m : Int) < 8 := by omega
        go_wp2
        obtain ⟨s1, s2, s3, s4, s5, s6, s7⟩ := KS.out
        rw [if_neg hmem] at s2
        refine ⟨⟨p.ua x, r', acc ++ [p.ut x], vals.setIfInBounds acc.length (.int .u32 (p.ut x : Nat)), by simp [HM.out], rfl, hua, by have := HM.out; simp; omega, s1, s2.1, s2.2, s4.snoc (by have := HM.out; omega) _, ?_, ?_, ?_⟩, by simp [intOf]; omega⟩
        · intro v hv
          rw [Array.toList_setIfInBounds] at hv
          rcases List.mem_or_eq_of_mem_set hv with h1 | rfl
          · exact s5 v h1
          · rfl
        · rw [← HM.out]
          exact heap_setCell_same _ _ _ _ _ _ s6
        · exact Chg.setCell (S := fun _ => False) s7 (.inr (Nat.le_refl _)) _
end Go.Proofs.Ytppcfofkneaigaa
