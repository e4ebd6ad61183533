import Derived.Test.YtgofjmhdgmfgfaaGreatDoorAk
import Derived.DeepKeys4
import Derived.Maps.OwnSet
import Derived.StringKeys
namespace Go.Proofs.YtgofjmhdgmfgfaaGreatDoor
open Go.ChangeShapes Go.WideShapes Go.ChangeAt Go.RowKit
set_option linter.unusedVariables false

theorem keyed9 : Maps.Keyed Tryz.prog 9 := Maps.string_keyed Tryz.underlying9
theorem key9 (s : List UInt8) (hs : s.length ≤ 1000000) : keyOf Tryz.prog 9 (.string (sb s)) = some (.string s) := by
  have := Go.WideMaps.keyOf_string_mk (P := Tryz.prog) (k := 9) Tryz.underlying9 (s := sb s) (by rw [sb_size]; simp [maxLen]; omega)
  rw [this]
  simp [sb]
/-- How a map's elements read. -/
structure Rd where
  t : TypeId
  e : TypeId
  R : Value → Option (DataW Unit × List MemPlace)
  ev : Option Nat → Value
  dv : Option Nat → DataW Unit
  ht : Tryz.prog.underlying t = some (.map 9 e)
  hR : ∀ o, R (ev o) = some (dv o, [])
  hI : ∀ v o ps, R v = some (dv o, ps) → v = ev o
  hz : ∀ w, (zeroValue e).run Tryz.prog w = .ok (ev none) w
/-- Block M is a map from texts. -/
def SMp (r : Rd) (w : World) (M n : Nat) (f : List UInt8 → Option Nat) : Prop :=
  ∃ es, w.ownsMap Tryz.prog 9 r.R M n (.map es) ∧ ∀ s : List UInt8, s.length ≤ 1000000 → (DataW.map es).atKey (.string s) (r.dv none) = r.dv (f s) ∧ Maps.has (DataW.map es) (.string s) = (f s).isSome
theorem SMp.made (r : Rd) (w : World) : SMp r (w.alloc (.map #[] 0)) w.heap.size 0 (fun _ => none) :=
  ⟨[], World.ownsMap_made w Tryz.prog 9 r.R, fun s _ => ⟨rfl, rfl⟩⟩
theorem SMp.look {r : Rd} {w : World} {M n : Nat} {f : List UInt8 → Option Nat} (h : SMp r w M n f) (s : List UInt8) (hs : s.length ≤ 1000000) : (Instr.lookup r.t (.map (some M)) (.string (sb s)) true).run Tryz.prog w = .ok (.tuple #[r.ev (f s), .bool (f s).isSome]) w := by
  obtain ⟨es, h1, h2⟩ := h
  obtain ⟨v, ps, hr, hv⟩ := h1.look_ok keyed9 r.ht (r.hz w) (zd := r.dv none) (zp := []) (r.hR none) (key9 s hs)
  rw [(h2 s hs).1] at hv
  rw [hr, r.hI _ _ _ hv, (h2 s hs).2]
def setS (f : List UInt8 → Option Nat) (s : List UInt8) (x : Nat) : List UInt8 → Option Nat := fun a => if a = s then some x else f a
theorem SMp.store {r : Rd} {w : World} {M n : Nat} {f : List UInt8 → Option Nat} (h : SMp r w M n f) (s : List UInt8) (hs : s.length ≤ 1000000) (x : Nat) (hn : n ≤ 2000000) :
    ∃ w', (Instr.mapUpdate r.t (.map (some M)) (.string (sb s)) (r.ev (some x))).run Tryz.prog w = .ok () w' ∧ SMp r w' M (n + 1) (setS f s x) ∧ Chg w w' (fun k => k = M) := by
  obtain ⟨es, h1, h2⟩ := h
  obtain ⟨w', hr, h4, h5⟩ := h1.update keyed9 r.ht (by simp [maxLen]; omega) (key9 s hs) (r.hR (some x))
  have hm := h1.isMap
  have hD : (DataW.map es).put (.string s) (r.dv (some x)) = .map (DataW.insert (.string s, r.dv (some x)) (es.filter fun p => !p.1.sameKey (.string s))) := rfl
  refine ⟨w', hr, ⟨_, by rw [hD] at h4; exact h4, ?_⟩, ⟨h5.os, h5.tape, h5.output, h5.size, fun k hk hn => h5.block k hk (fun e => hn (by simpa using e))⟩⟩
  intro a ha
  rw [← hD]
  unfold setS
  by_cases e : a = s
  · subst e
    rw [if_pos rfl]
    exact ⟨Maps.atKey_put_same hm (keyed9.key (key9 a ha)) _ _, Maps.has_put_same hm (keyed9.key (key9 a ha)) _⟩
  · rw [if_neg e]
    have hne : (Lit.string a) ≠ Lit.string s := fun h => e (by simpa using h)
    rw [Maps.atKey_put_other hne, Maps.has_put_other hne]
    exact h2 a ha
theorem SMp.kept {r : Rd} {w w' : World} {M n : Nat} {f : List UInt8 → Option Nat} {S : Nat → Prop} (h : SMp r w M n f) (hc : Chg w w' S) (hM : ¬ S M) : SMp r w' M n f := by
  obtain ⟨es, ⟨es2, clock, q1, r⟩, h2⟩ := h
  exact ⟨es, ⟨es2, clock, hc.heap q1 hM, r⟩, h2⟩
theorem SMp.lt {r : Rd} {w : World} {M n : Nat} {f : List UInt8 → Option Nat} (h : SMp r w M n f) : M < w.heap.size := by
  obtain ⟨es, h1, _⟩ := h
  exact h1.lt
def nR : Value → Option (DataW Unit × List MemPlace)
  | .int .i64 n => some (.lit (.int .i64 n), [])
  | _ => none
def nE (o : Option Nat) : Value := .int .i64 (o.getD 0 : Nat)
def nD (o : Option Nat) : DataW Unit := .lit (.int .i64 (o.getD 0 : Nat))
theorem nI (v : Value) (o : Option Nat) (ps : List MemPlace) (h : nR v = some (nD o, ps)) : v = nE o := by
  unfold nR at h
  split at h
  · simp only [Option.some.injEq, Prod.mk.injEq, nD, DataW.lit.injEq, Lit.int.injEq, true_and] at h
    unfold nE
    rw [h.1]
  · cases h
/-- The places of labels. -/
def rdP : Rd := ⟨81, 2, nR, nE, nD, Tryz.underlying81, fun _ => rfl, nI, fun _ => by kernel_rfl⟩
/-- Which labels were seen. -/
def rdS : Rd := ⟨103, 3, nR, nE, nD, Tryz.underlying103, fun _ => rfl, nI, fun _ => by kernel_rfl⟩
def fR : Value → Option (DataW Unit × List MemPlace)
  | .func (.func k) ⟨[]⟩ ⟨[]⟩ => some (.lit (.int .i64 (k : Nat)), [])
  | .nilFunc => some (.nil, [])
  | _ => none
def fE : Option Nat → Value
  | some k => .func (.func k) #[] #[]
  | none => .nilFunc
def fD : Option Nat → DataW Unit
  | some k => .lit (.int .i64 (k : Nat))
  | none => .nil
theorem fI (v : Value) (o : Option Nat) (ps : List MemPlace) (h : fR v = some (fD o, ps)) : v = fE o := by
  unfold fR at h
  split at h
  · cases o with
    | none => simp [fD] at h
    | some k =>
      simp only [Option.some.injEq, Prod.mk.injEq, fD, DataW.lit.injEq, Lit.int.injEq, true_and] at h
      have : _ = k := Int.ofNat_inj.1 h.1
      unfold fE
      rw [this]
  · cases o with
    | none => rfl
    | some k => simp [fD] at h
  · cases h
/-- Statements that are no instructions. -/
def rdF : Rd := ⟨79, 144, fR, fE, fD, Tryz.underlying79, fun o => by cases o <;> rfl, fI, fun _ => by kernel_rfl⟩
/-- The statements by their words. -/
def stF : List UInt8 → Option Nat := setS (setS (setS (setS (setS (setS (setS (setS (fun _ => none) [108, 105] 76) [109, 118] 77) [106] 78) [99, 97, 108, 108] 79) [114, 101, 116] 80) [46, 111, 114, 103] 81) [46, 119, 111, 114, 100] 82) [46, 122, 101, 114, 111] 83
set_option maxRecDepth 100000 in
theorem statements_any (w : World) : Calls Tryz.prog 40 #[] w fun e w' => e = .returned (.map (some w.heap.size)) ∧ SMp rdF w' w.heap.size 8 stF ∧ Kp w w' := by
  have m0 := SMp.made rdF w
  have k0 : Kp w (w.alloc (.map #[] 0)) := (Chg.refl _ _).alloc _
  have hmm : (Instr.makeMap 79 none).run Tryz.prog w = .ok (.map (some w.heap.size)) (w.alloc (.map #[] 0)) := rfl
  obtain ⟨w1, r1, m1, k1⟩ := m0.store [108, 105] (by decide) 76 (by omega)
  obtain ⟨w2, r2, m2, k2⟩ := m1.store [109, 118] (by decide) 77 (by omega)
  obtain ⟨w3, r3, m3, k3⟩ := m2.store [106] (by decide) 78 (by omega)
  obtain ⟨w4, r4, m4, k4⟩ := m3.store [99, 97, 108, 108] (by decide) 79 (by omega)
  obtain ⟨w5, r5, m5, k5⟩ := m4.store [114, 101, 116] (by decide) 80 (by omega)
  obtain ⟨w6, r6, m6, k6⟩ := m5.store [46, 111, 114, 103] (by decide) 81 (by omega)
  obtain ⟨w7, r7, m7, k7⟩ := m6.store [46, 119, 111, 114, 100] (by decide) 82 (by omega)
  obtain ⟨w8, r8, m8, k8⟩ := m7.store [46, 122, 101, 114, 111] (by decide) 83 (by omega)
  have q1 : (Instr.mapUpdate 79 (.map (some w.heap.size)) (.string ⟨#[108, 105]⟩) (.func (.func 76) #[] #[])).run Tryz.prog (w.alloc (.map #[] 0)) = .ok () w1 := r1
  have q2 : (Instr.mapUpdate 79 (.map (some w.heap.size)) (.string ⟨#[109, 118]⟩) (.func (.func 77) #[] #[])).run Tryz.prog w1 = .ok () w2 := r2
  have q3 : (Instr.mapUpdate 79 (.map (some w.heap.size)) (.string ⟨#[106]⟩) (.func (.func 78) #[] #[])).run Tryz.prog w2 = .ok () w3 := r3
  have q4 : (Instr.mapUpdate 79 (.map (some w.heap.size)) (.string ⟨#[99, 97, 108, 108]⟩) (.func (.func 79) #[] #[])).run Tryz.prog w3 = .ok () w4 := r4
  have q5 : (Instr.mapUpdate 79 (.map (some w.heap.size)) (.string ⟨#[114, 101, 116]⟩) (.func (.func 80) #[] #[])).run Tryz.prog w4 = .ok () w5 := r5
  have q6 : (Instr.mapUpdate 79 (.map (some w.heap.size)) (.string ⟨#[46, 111, 114, 103]⟩) (.func (.func 81) #[] #[])).run Tryz.prog w5 = .ok () w6 := r6
  have q7 : (Instr.mapUpdate 79 (.map (some w.heap.size)) (.string ⟨#[46, 119, 111, 114, 100]⟩) (.func (.func 82) #[] #[])).run Tryz.prog w6 = .ok () w7 := r7
  have q8 : (Instr.mapUpdate 79 (.map (some w.heap.size)) (.string ⟨#[46, 122, 101, 114, 111]⟩) (.func (.func 83) #[] #[])).run Tryz.prog w7 = .ok () w8 := r8
  have hk : Kp w w8 := by
    have hS : ∀ i, i < w.heap.size → i = w.heap.size → False := fun i h e => by omega
    exact (((((((Chg.trans k0 k1 hS).trans k2 hS).trans k3 hS).trans k4 hS).trans k5 hS).trans k6 hS).trans k7 hS).trans k8 hS
  clear r1 r2 r3 r4 r5 r6 r7 r8 k1 k2 k3 k4 k5 k6 k7 k8 m0 m1 m2 m3 m4 m5 m6 m7 k0
  go_enter Tryz.func40, Tryz.ntmps40
  go_wp2_with fail
  go_ret
  exact ⟨rfl, m8, hk⟩
end Go.Proofs.YtgofjmhdgmfgfaaGreatDoor
namespace Go.Proofs.YtgofjmhdgmfgfaaGreatDoor
open Go.ChangeShapes Go.WideShapes Go.ChangeAt Go.RowKit
set_option linter.unusedVariables false

/-- How many tokens are left in a line. -/
def tokLen (w : World) (A : Nat) : Nat := match w.cell? ⟨A, 1, none⟩ with
  | some (.slice _ n _) => n
  | _ => 0
theorem LnAt.len {ok : Nat → Prop} {w : World} {B : Nat} {cs : Array Value} {T : TypeId} {ts : List Tk} (h : LnAt ok w B cs T ts) : tokLen w B = ts.length := by
  obtain ⟨a, c, h1, _⟩ := h.cell
  simp [tokLen, h1]
/-- The second token, in memory. -/
theorem LnAt.two {ok : Nat → Prop} {w : World} {B : Nat} {cs : Array Value} {T : TypeId} {x y : Tk} {ts : List Tk} (h : LnAt ok w B cs T (x :: y :: ts)) : ∃ g o c, w.cell? ⟨B, 1, none⟩ = some (.slice (some ⟨g, o, none⟩) (ts.length + 2) c) ∧ ts.length + 2 ≤ c ∧ w.cell? ⟨g, o + 4, none⟩ = some (.string (sb y.t)) := by
  obtain ⟨a, c, q1, q2, q3⟩ := h.cell
  obtain ⟨h0, v, h1, a', c', rfl, h2, h3⟩ := h
  rw [(cells_at h1 1).1, Array.getElem?_setIfInBounds_self_of_lt (by omega)] at q1
  have qq : a' = a ∧ c' = c := by simpa using q1
  obtain ⟨rfl, rfl⟩ := qq
  rcases h3 with h3 | ⟨g, o, rfl, hg, hlt, hx⟩
  · cases h3
  · refine ⟨g, o, c', ?_, h2, (hx 1 y rfl).2.1⟩
    rw [(cells_at h1 1).1, Array.getElem?_setIfInBounds_self_of_lt (by omega)]
    rfl
/-- The labels of a line. -/
def lbN : List Tk → Option (List (List UInt8) × List Tk)
  | x :: y :: ts => if y.t = [58] then (if nmB x.t = true ∧ y.k = 3 then match lbN ts with
      | some (ns, r) => some (x.t :: ns, r)
      | none => none
    else none) else some ([], x :: y :: ts)
  | [x] => some ([], [x])
  | [] => some ([], [])
theorem info9' : (Tryz.prog.info? 9).map (fun i => (i.zero, i.size, i.bytes)) = some (some (.string ⟨#[]⟩), 1, 16) := by kernel_rfl
theorem app_text (w : World) (v : Value) (l : List ByteArray) (h : OS w v l) (s : ByteArray) (hl : l.length < 1000000) :
    ∃ v' w', (Builtin.append_ #[39, 39] 39 #[v, .slice (some ⟨w.heap.size, 0, none⟩) 1 1]).run Tryz.prog (w.alloc (.cells #[.string s] 9)) = .ok v' w' ∧ OS w' v' (l ++ [s]) ∧ Chg w w' (fun i => v.ownBlock = some i) ∧ Loc (w.alloc (.cells #[.string s] 9)) v v' := by
  obtain ⟨i0, hi, hz, hs, hb⟩ := infoOf info9'
  obtain ⟨v', w', hr, ho, hc, hL⟩ := app1 39 9 i0 _ 1 16 Tryz.underlying39 hi hz hs hb rfl (by omega) w v l.length _ h [.string s] rfl (by simp [Value.oneCell']) hl (by omega)
  refine ⟨v', w', hr, ?_, hc, hL⟩
  unfold OS
  rw [List.map_append, List.length_append]
  exact ho
structure LbJ (ok : Nat → Prop) (w wr : World) (A : Nat) (cs : Array Value) (v : Value) (done : List (List UInt8)) (ts : List Tk) : Prop where
  ln : LnAt (fun g => ok g ∧ g < w.heap.size) wr A cs 87 ts
  os : OS wr v (done.map sb)
  nw : ∀ k, v.ownBlock = some k → w.heap.size ≤ k
  ch : Chg w wr (fun k => k = A)
set_option maxRecDepth 100000 in
set_option maxHeartbeats 2000000 in
theorem labelNames_ok (ok : Nat → Prop) (w : World) (hG : Gg w) (A : Nat) (hA : 9 ≤ A) (cs : Array Value) (ts : List Tk) (h : LnAt ok w A cs 87 ts) (ns : List (List UInt8)) (r : List Tk) (hM : lbN ts = some (ns, r)) (hlen : ts.length < 1000000) :
    Calls Tryz.prog 43 #[.pointer (some ⟨A, 0, none⟩)] w fun e w' => ∃ v, e = .returned v ∧ OS w' v (ns.map sb) ∧ (∀ k, v.ownBlock = some k → w.heap.size ≤ k) ∧ LnAt ok w' A cs 87 r ∧ Chg w w' (fun k => k = A) := by
  have hAw := h.lt
  have hst : LbJ ok w w A cs (.slice none 0 0) [] ts := ⟨h.below, World.ownsRow_nil _ _ _ _, fun k hk => (by cases hk), Chg.refl _ _⟩
  go_enter Tryz.func43, Tryz.ntmps43
  go_wp2_with fail
  go_loopw [3] (fun s3 wr => ∃ (done rem : List (List UInt8)) (tr : List Tk), Hid (lbN tr = some (rem, r) ∧ done ++ rem = ns ∧ done.length + tr.length ≤ ts.length) ∧ LbJ ok w wr A cs s3 done tr) (fun _ wr => tokLen wr A)
  case atStart => exact ⟨[], ns, ts, ⟨hM, rfl, by simp⟩, hst⟩
  case round =>
    obtain ⟨done, rem, tr, HM, hJ⟩ := hrel
    clear hst hM h
    have hG1 : Gg wr := hG.chg hJ.ch (fun i hi e => by omega)
    obtain ⟨av, cv, hv⟩ := own_slice hJ.os
    have hexit : (lbN tr = some ([], tr)) → ∃ v, Ending.returned (.slice av (done.map sb).length cv) = Ending.returned v ∧ OS wr v (ns.map sb) ∧ (∀ k, v.ownBlock = some k → w.heap.size ≤ k) ∧ LnAt ok wr A cs 87 r ∧ Chg w wr (fun k => k = A) := by
      intro he
      obtain ⟨h1, h2, h3⟩ := HM.out
      rw [he] at h1
      simp only [Option.some.injEq, Prod.mk.injEq] at h1
      obtain ⟨rfl, rfl⟩ := h1
      rw [List.append_nil] at h2
      subst h2
      exact ⟨_, rfl, by rw [← hv]; exact hJ.os, by rw [← hv]; exact hJ.nw, hJ.ln.mono (fun g hg => hg.1), hJ.ch⟩
    subst hv
    rcases tr with _ | ⟨x, _ | ⟨y, tr⟩⟩
    · obtain ⟨a1, c1, q1, q2, q3⟩ := hJ.ln.cell
      have he := hexit rfl
      simp only [List.length_nil] at q1 q3
      clear hexit HM
      go_wp2_with fail
      go_ret
      exact he
    · obtain ⟨a1, c1, q1, q2, q3⟩ := hJ.ln.cell
      have he := hexit rfl
      simp only [List.length_cons, List.length_nil] at q1 q3
      clear hexit HM
      go_wp2_with fail
      go_ret
      exact he
    · obtain ⟨g, o, c1, q1, q3, q4⟩ := hJ.ln.two
      have hz : (1 : Int) < (tr.length : Int) + 2 := by omega
      by_cases hy : y.t = [58]
      · obtain ⟨h1, h2, h3⟩ := HM.out
        simp only [lbN, hy, if_true] at h1
        split at h1
        case isFalse => cases h1
        next hnk =>
        split at h1
        case h_2 => cases h1
        next ns' r' hr' =>
        simp only [Option.some.injEq, Prod.mk.injEq] at h1
        obtain ⟨rfl, rfl⟩ := h1
        obtain ⟨hn, hk⟩ := hnk
        have hT := take_any _ wr A cs 87 x (y :: tr) hJ.ln
        simp only [Tk.v] at hT
        have HR : Hid (lbN tr = some (ns', r') ∧ (done ++ [x.t]) ++ ns' = ns ∧ (done ++ [x.t]).length + tr.length ≤ ts.length) := ⟨hr', by rw [← h2]; simp, by simp only [List.length_cons, List.length_append, List.length_nil] at h3 ⊢; omega⟩
        have hdl : (done.map sb).length < 1000000 := by rw [List.length_map]; simp only [List.length_cons] at h3; omega
        rw [hy] at q4
        have q4' : wr.cell? ⟨g, o + 4, none⟩ = some (.string ⟨#[58]⟩) := q4
        have hf : ∀ (wx : World) (s : ByteArray) (a b : Int), (Instr.field 151 (.agg #[.int .i64 a, .string s, .int .i64 b]) 1).run Tryz.prog wx = .ok (.string s) wx := fun _ _ _ _ => by kernel_rfl
        clear hexit HM hr' h2 h3 q4
        have hN : ∀ V, Gg V → Calls Tryz.prog 51 #[.string (sb x.t)] V fun e w' => e = .returned (.bool true) ∧ Kp V w' := fun V hV => isName_ok V hV x.t hn
        obtain ⟨yk, yt, yn⟩ := y
        obtain rfl : yk = 3 := hk
        obtain rfl : yt = [58] := hy
        have hS : ∀ V, LnAt (fun g => ok g ∧ g < w.heap.size) V A cs 87 (⟨3, [58], yn⟩ :: tr) → Calls Tryz.prog 90 #[.pointer (some ⟨A, 0, none⟩), .string ⟨#[58]⟩] V fun e w' => e = .returned (.tuple #[]) ∧ LnAt (fun g => ok g ∧ g < w.heap.size) w' A cs 87 tr ∧ Chg V w' (fun k => k = A) := fun V hV => sign_ok _ V A cs 87 [58] yn tr hV
        have hos := hJ.os
        have hnw := hJ.nw
        have hch := hJ.ch
        have htl := hJ.ln.len
        clear hn hJ
        obtain ⟨u, hu⟩ : ∃ u, u = sb x.t := ⟨_, rfl⟩
        rw [← hu] at hT hN
        have HU : Hid (u = sb x.t) := hu
        clear hu
        generalize hm : done.map sb = dl at *
        have HDL : Hid (done.map sb = dl) := hm
        clear hm
        go_wp2_with fail
        go_at_call 88
        refine hT.mono ?_
        rintro e w1 ⟨rfl, h1, k1⟩
        have hG2 : Gg w1 := hG1.chg k1 (fun i hi e => by omega)
        go_wp2_with fail
        go_at_call 51
        refine (hN _ hG2).mono ?_
        rintro e w2 ⟨rfl, k2⟩
        go_wp2_with fail
        go_at_call 90
        refine (hS _ (h1.keep k2)).mono ?_
        rintro e w3 ⟨rfl, h3, k3⟩
        have kk : Chg wr w3 (fun k => k = A) := (k1.trans k2 (fun _ _ h => h.elim)).trans k3 (fun _ _ h => h)
        have hos3 : OS w3 (.slice av dl.length cv) dl := Chg.owns kk hos (fun k hk e => by have := hnw k hk; omega)
        obtain ⟨v', W', hr, ho, hc, hLo⟩ := app_text w3 _ dl hos3 u hdl
        have hJ2 : LbJ ok w W' A cs v' (done ++ [x.t]) tr := by
          have hS' : ∀ k, (Value.slice av dl.length cv).ownBlock = some k → w.heap.size ≤ k := hnw
          refine ⟨h3.chg hc (fun e => by have := hnw _ e; omega) (fun g _ hg e => by have := hnw _ e; omega), ?_, ?_, (hch.trans kk (fun i hi e => e)).trans hc (fun i hi e => by have := hnw _ e; omega)⟩
          · rw [List.map_append, HDL.out, List.map_cons, List.map_nil, ← HU.out]; exact ho
          · intro k hk
            rcases hLo with e | ⟨g', e, hg'⟩
            · rw [e] at hk; exact hnw k hk
            · rw [e] at hk
              obtain rfl : g' = k := by simpa using hk
              rw [al_size] at hg'
              have := kk.size
              have := hch.size
              omega
        obtain ⟨a2, cp2, hv2⟩ := own_slice ho
        rw [show (dl ++ [u]).length = dl.length + 1 by simp] at hv2
        subst hv2
        clear hLo ho hc hos3 kk k3 k2 k1 h1 h3 hos hnw
        go_wp2_with (at_builtin; refine wpList_append_run _ rfl (.tmp 40) (.tmp 42) 39 39 rfl _ _ _ W' rfl rfl hr ?_)
        refine ⟨⟨done ++ [x.t], ns', tr, HR, hJ2⟩, ?_⟩
        rw [hJ2.ln.len, htl]
        simp only [List.length_cons]
        omega
      · have he := hexit (by simp [lbN, hy])
        have hs : ((sb y.t).toList == ([58] : List UInt8)) = false := by
          rw [ByteArray.toList_eq]
          simpa [sb] using hy
        clear hexit HM hy
        generalize sb y.t = u at *
        go_wp2_with fail
        go_ret
        exact he
end Go.Proofs.YtgofjmhdgmfgfaaGreatDoor
namespace Go.Proofs.YtgofjmhdgmfgfaaGreatDoor
open Go.ChangeShapes Go.WideShapes Go.ChangeAt Go.RowKit
set_option linter.unusedVariables false

def shTb : List (List UInt8) := [[], [68, 44, 65, 44, 66], [68, 44, 65, 44, 86], [65, 44, 66, 44, 86], [68, 44, 86], [68], [65], [86], []]
/-- What all variables hold. -/
structure Gs (w : World) : Prop where
  gg : Gg w
  sh : ∀ f, f < 9 → w.cell? ⟨2, f, none⟩ = some (.string (sb (shTb.getD f [])))
  ml : ∃ m, w.cell? ⟨4, 0, none⟩ = some (.int .i64 m)
  tz : w.cell? ⟨6, 15, none⟩ = some (.int .u8 4)
theorem cell_lt {w : World} {b o : Nat} {v : Value} (e : w.cell? ⟨b, o, none⟩ = some v) : b < w.heap.size := by
  rcases Nat.lt_or_ge b w.heap.size with h | h
  · exact h
  · simp [World.cell?, Array.getElem?_eq_none h] at e
theorem Gs.chg {w w' : World} {S : Nat → Prop} (h : Gs w) (k : Chg w w' S) (hS : ∀ i, i < 9 → ¬ S i) : Gs w' := by
  refine ⟨h.gg.chg k hS, fun f hf => ?_, ?_, by rw [Chg.cell k (cell_lt h.tz) (hS 6 (by omega))]; exact h.tz⟩
  · have := h.sh f hf
    rw [Chg.cell k (cell_lt this) (hS 2 (by omega))]; exact this
  · obtain ⟨m, hm⟩ := h.ml
    exact ⟨m, by rw [Chg.cell k (cell_lt hm) (hS 4 (by omega))]; exact hm⟩
theorem Gs.keep {w w' : World} (h : Gs w) (k : Kp w w') : Gs w' := h.chg k (fun _ _ h => h)
/-- How the operands of an op are written. -/
def shp (op : Int) : List UInt8 := if 24 ≤ op ∧ op ≤ 28 then [68, 44, 86, 40, 65, 41] else if 29 ≤ op ∧ op ≤ 31 then [66, 44, 86, 40, 65, 41] else shTb.getD (fo op) []
set_option maxRecDepth 100000 in
theorem shapeOf_any (w : World) (hg : Gs w) (op : Int) :
    Calls Tryz.prog 94 #[.int .i64 op] w fun e w' => e = .returned (.string (sb (shp op))) ∧ Kp w w' := by
  have hF := Form_any w hg.gg.1 op
  have hf := fo_lt op
  have hT : ∀ V, Kp w V → V.cell? ⟨2, fo op, none⟩ = some (.string (sb (shTb.getD (fo op) []))) := fun V k => Kp.cell k (hg.sh _ hf)
  unfold shp
  by_cases h0 : 24 ≤ op
  · by_cases h1 : op ≤ 28
    · rw [if_pos ⟨h0, h1⟩]
      clear hF hT hf hg
      go_enter Tryz.func94, Tryz.ntmps94
      go_wp2
      go_ret
      exact ⟨rfl, Chg.refl _ _⟩
    · rw [if_neg (by omega)]
      by_cases h2 : 29 ≤ op
      · by_cases h3 : op ≤ 31
        · rw [if_pos ⟨h2, h3⟩]
          clear hF hT hf hg
          go_enter Tryz.func94, Tryz.ntmps94
          go_wp2
          go_ret
          exact ⟨rfl, Chg.refl _ _⟩
        · rw [if_neg (by omega)]
          generalize fo op = f at *
          generalize sb (shTb.getD f []) = u at *
          go_enter Tryz.func94, Tryz.ntmps94
          go_wp2_with (go_at_call 105; refine hF.mono ?_; rintro e w1 ⟨rfl, k1⟩; have c1 := hT _ k1)
          go_ret
          exact ⟨rfl, k1⟩
      · exfalso; omega
  · rw [if_neg (by omega), if_neg (by omega)]
    have h2 : ¬ 29 ≤ op := by omega
    generalize fo op = f at *
    generalize sb (shTb.getD f []) = u at *
    go_enter Tryz.func94, Tryz.ntmps94
    go_wp2_with (go_at_call 105; refine hF.mono ?_; rintro e w1 ⟨rfl, k1⟩; have c1 := hT _ k1)
    go_ret
    exact ⟨rfl, k1⟩
theorem end_ok (ok : Nat → Prop) (w : World) (B : Nat) (cs : Array Value) (T : TypeId) (h : LnAt ok w B cs T []) :
    Calls Tryz.prog 45 #[.pointer (some ⟨B, 0, none⟩)] w fun e w' => e = .returned (.tuple #[]) ∧ w' = w := by
  have hE := isEnd_any ok w B cs T [] h
  simp only [List.isEmpty_nil] at hE
  go_enter Tryz.func45, Tryz.ntmps45
  go_wp2_with (go_at_call 91; refine hE.mono ?_; rintro e w1 ⟨rfl, rfl⟩)
  go_end0
  exact ⟨rfl, rfl⟩
/-- An assembler's cells. -/
def acs (at_ : Int) (S P : Nat) (nv : Value) (mv : Bool) (org : Nat) (dv lv : Value) : Array Value := #[.int .i64 at_, .slice none 0 0, .map (some S), nv, .bool mv, .int .i64 org, dv, lv, .map (some P)]
theorem acs_at {ok : Nat → Prop} {w : World} {A : Nat} {at_ : Int} {S P : Nat} {nv : Value} {mv : Bool} {org : Nat} {dv lv : Value} {ts : List Tk} (h : LnAt ok w A (acs at_ S P nv mv org dv lv) 87 ts) :
    w.cell? ⟨A, 0, none⟩ = some (.int .i64 at_) ∧ w.cell? ⟨A, 2, none⟩ = some (.map (some S)) ∧ w.cell? ⟨A, 3, none⟩ = some nv ∧ w.cell? ⟨A, 4, none⟩ = some (.bool mv) ∧ w.cell? ⟨A, 5, none⟩ = some (.int .i64 org) ∧ w.cell? ⟨A, 6, none⟩ = some dv ∧ w.cell? ⟨A, 7, none⟩ = some lv ∧ w.cell? ⟨A, 8, none⟩ = some (.map (some P)) := by
  obtain ⟨h0, v, h1, h2⟩ := h
  refine ⟨?_, ?_, ?_, ?_, ?_, ?_, ?_, ?_⟩ <;> rw [(cells_at h1 _).1] <;> simp [acs]
set_option maxRecDepth 100000 in
theorem moveOrigin_ok (ok : Nat → Prop) (w : World) (A : Nat) (at_ : Int) (S P : Nat) (an ad al : Option Addr) (cn cd cl : Nat) (org : Nat) (l : List UInt8) (n : Int) (ts : List Tk)
    (h : LnAt ok w A (acs at_ S P (.slice an 0 cn) false org (.slice ad 0 cd) (.slice al 0 cl)) 87 (⟨2, l, n⟩ :: ts)) :
    Calls Tryz.prog 81 #[.pointer (some ⟨A, 0, none⟩)] w fun e w' => e = .returned (.agg #[.slice none 0 0, .int .i64 0, .bool true, .int .i64 n]) ∧ LnAt ok w' A (acs at_ S P (.slice an 0 cn) false org (.slice ad 0 cd) (.slice al 0 cl)) 87 ts ∧ Chg w w' (fun k => k = A) := by
  have hAw := h.lt
  have kA : Kp w (w.alloc (.cells #[.slice none 0 0, .int .i64 0, .bool false, .int .i64 0] 92)) := (Chg.refl _ _).alloc _
  have hN := number_ok _ _ A _ 87 l n ts (h.below.keep kA)
  obtain ⟨_, _, c3, c4, _, c6, c7, _⟩ := acs_at h
  clear h
  generalize hcs : acs at_ S P (.slice an 0 cn) false org (.slice ad 0 cd) (.slice al 0 cl) = cs at *
  clear hcs
  go_enter Tryz.func81, Tryz.ntmps81
  go_wp2_with (go_at_call 118; refine hN.mono ?_; rintro e w1 ⟨rfl, h1, k1⟩; have g0 := k1.heap (heap_alloc_new w _) (show ¬ w.heap.size = A by omega); obtain ⟨a0, a1, a2, a3, b0, b1, b2, b3⟩ := cells4 g0)
  obtain ⟨V, hV⟩ : ∃ V, V = ((((w1.setCell ⟨w.heap.size, 0, none⟩ (.slice none 0 0)).setCell ⟨w.heap.size, 1, none⟩ (.int .i64 0)).setCell ⟨w.heap.size, 2, none⟩ (.bool true)).setCell ⟨w.heap.size, 3, none⟩ (.int .i64 n)) := ⟨_, rfl⟩
  rw [← hV]
  obtain ⟨v1, v2, v3⟩ := box4 g0 _ _ _ _ hV
  obtain ⟨r0, r1, r2, r3, _⟩ := cells4 v1
  refine bodyPost_ret (v := .agg #[.slice none 0 0, .int .i64 0, .bool true, .int .i64 n]) (by simp [results, Tryz.results81, go_sem, r0, r1, r2, r3]) rfl ⟨rfl, (h1.chg v3 (by omega) (fun g _ hg => by omega)).mono (fun g hg => hg.1), ?_⟩
  exact (((Chg.refl w (fun k => k = A)).alloc _).trans k1 (fun _ _ h => h)).trans v3 (fun i hi e => absurd e (Nat.ne_of_lt hi))
end Go.Proofs.YtgofjmhdgmfgfaaGreatDoor
