import Derived.Test.YtfmiicbaooaheaaDoorOe
namespace Go.Proofs.YtfmiicbaooaheaaDoor
open Go.ChangeShapes Go.WideShapes Go.ChangeAt Go.RowKit Go.Shelf
set_option linter.unusedVariables false
attribute [local go_sem] Oper.semAt_some
/-- What slices.Chunk's iterator holds to. -/
structure cBx (s bS bN n : Nat) (a : Option Addr) (cap : Nat) (W : World) : Prop where
  lS : bS < s
  lN : bN < s
  ln : n ≤ 1000000
  le : n ≤ cap
  cs : W.cell? ⟨bS, 0, none⟩ = some (.slice a n cap)
  cn : W.cell? ⟨bN, 0, none⟩ = some (.int .i64 1000000)
theorem cBx.chg {s bS bN n : Nat} {a : Option Addr} {cap : Nat} {W W' : World} {S : Nat → Prop} (x : cBx s bS bN n a cap W) (hc : Chg W W' S) (h1 : ¬ S bS) (h2 : ¬ S bN) : cBx s bS bN n a cap W' :=
  ⟨x.lS, x.lN, x.ln, x.le, hc.cell' h1 x.cs, hc.cell' h2 x.cn⟩
theorem cBx.kp {s bS bN n : Nat} {a : Option Addr} {cap : Nat} {W W' : World} (x : cBx s bS bN n a cap W) (k : Kp W W') : cBx s bS bN n a cap W' := x.chg k (fun e => e) (fun e => e)
def cKp (s bS bN n : Nat) (a : Option Addr) (cap : Nat) (_ : Unit) (A C : World) : Prop := cBx s bS bN n a cap A → cBx s bS bN n a cap C
/-- How many parts. -/
def cCnt (n : Nat) : Nat := if n = 0 then 0 else 1
def cArgs (a : Option Addr) (n : Nat) (_ : Unit) (_ : Nat) : Array Value := #[.slice a n n]
theorem chunk_any (w : World) (a : Option Addr) (n cap : Nat) : Calls Tryd.prog 12 #[.slice a n cap, .int .i64 1000000] w fun e w' => e = .returned (.func (.func 18) #[] #[.pointer (some ⟨w.heap.size, 0, none⟩), .pointer (some ⟨w.heap.size + 1, 0, none⟩)]) ∧ w' = (w.alloc (.cells #[.slice a n cap] 25)).alloc (.cells #[.int .i64 1000000] 3) := by
  go_enter Tryd.func12, Tryd.ntmps12
  go_wp2
  go_ret
  refine ⟨?_, rfl⟩
  simp
set_option maxHeartbeats 4000000 in
set_option maxRecDepth 10000 in
theorem chunk_seq (w : World) (s m bS bN n : Nat) (a : Option Addr) (cap : Nat) (x : cBx s bS bN n a cap w) :
    Seq Tryd.prog (m + 1) 18 #[.pointer (some ⟨bS, 0, none⟩), .pointer (some ⟨bN, 0, none⟩)] (cCnt n) (cArgs a n) oGood (cKp s bS bN n a cap) w := by
  intro l J Jx W hC hsz hJ h0 hY
  have hx := x.kp hC
  have cs := hx.cs
  have cn := hx.cn
  have hln := x.ln
  have hle := x.le
  have HJ : Hid (∀ t k A B, J t k A → Chg A B (fun _ => False) → J t k B) := hJ
  have HY : Hid (∀ (t : Unit) (k : Nat) (W1 : World), k < cCnt n → J t k W1 → YieldAt Fence.wide (m + 1 - 1) Tryd.prog l (cArgs a n t k) W1 fun e W' => (e = .returned (.bool true) ∧ J t (k + 1) W' ∧ cKp s bS bN n a cap t W1 W') ∨ (e = .returned (.bool false) ∧ Jx W')) := hY
  have HP : Hid (J () 0 W ∧ cBx s bS bN n a cap W) := ⟨h0 () W (Kp.refl W), hx⟩
  clear hJ h0 hY x hC hsz hx
  refine callsIn_of_wp Tryd.func18 rfl trivial ?_ rfl
  simp only [Tryd.ntmps18, List.size_toArray, List.length_cons, List.length_nil, Nat.reduceAdd, Nat.reduceSub, Array.replicate_succ, Array.replicate_zero, List.push_toArray, List.append_toArray, List.nil_append, List.cons_append]
  gi_wp2_with fail
  gi_loopw [4] (fun s4 wr => (s4 = .int .i64 0 ∧ Hid (J () 0 wr ∧ cBx s bS bN n a cap wr)) ∨ (s4 = .int .i64 1000000 ∧ n ≠ 0 ∧ Hid (J () 1 wr ∧ cBx s bS bN n a cap wr))) (fun s4 _ => 1000000 - (intOf s4).toNat)
  case atStart => exact .inl ⟨rfl, HP⟩
  case round =>
    clear HP cs cn
    rcases hrel with ⟨rfl, HI⟩ | ⟨rfl, hn0, HI⟩
    · have cs := HI.out.2.cs
      have cn := HI.out.2.cn
      by_cases hn0 : n = 0
      · subst hn0
        have KF : Hid (∃ t, J t (cCnt 0) wr) := ⟨(), HI.out.1⟩
        gi_wp2
        go_end0
        exact ⟨⟨_, rfl⟩, .inl KF.out⟩
      · have hpos : (0 : Int) < n := by omega
        have hcnt : cCnt n = 1 := by unfold cCnt; rw [if_neg hn0]
        have kd : Kp wr wr.drew := Kp.drew wr
        have cs2 := kd.cell cs
        have cn2 := kd.cell cn
        obtain ⟨fn, tm, asg, bd, hy, hRR⟩ : ∃ fn tmps assign body, (Instr.yield l #[.slice a n n]).run Tryd.prog wr.drew = .ok (.round l fn tmps assign body) wr.drew ∧ RoundIn Fence.wide (m + 1 - 1) Tryd.prog l fn tmps assign body wr.drew fun e W'' => ∃ bb, e = .returned (.bool bb) ∧ Hid ((bb = true → J () 1 W'' ∧ cBx s bS bN n a cap W'') ∧ (bb = false → Jx W'')) := by
          obtain ⟨fn, tmps, assign, body, hy, hR⟩ := HY.out () 0 wr.drew (by omega) (HJ.out _ _ _ _ HI.out.1 kd)
          refine ⟨fn, tmps, assign, body, hy, hR.mono ?_⟩
          rintro e W'' (⟨rfl, h1, hk⟩ | ⟨rfl, h1⟩)
          · exact ⟨true, rfl, ⟨fun _ => ⟨h1, hk (HI.out.2.kp kd)⟩, fun h => (by cases h)⟩⟩
          · exact ⟨false, rfl, ⟨fun h => (by cases h), fun _ => h1⟩⟩
        clear HJ HY kd hcnt
        gi_wp2_with fail
        gi_region
        rw [show (if (n : Int) < 1000000 then (n : Int) else 1000000) = n by split <;> omega]
        gi_wp2
        refine RoundIn.mono (show RoundIn Fence.wide m Tryd.prog l fn tm asg bd _ _ from hRR) ?_
        rintro e W5 ⟨bb, rfl, H5⟩
        clear hRR hy HI cs cs2 cn cn2
        cases bb
        · gi_wp2
          refine bodyPost_ret (results_none rfl _ _ _) rfl ?_
          exact ⟨⟨_, rfl⟩, .inr (H5.out.2 (by trivial))⟩
        · have HN : Hid (J () 1 W5 ∧ cBx s bS bN n a cap W5) := H5.out.1 (by trivial)
          have cn := HN.out.2.cn
          clear H5
          gi_wp2
          exact ⟨.inr ⟨by go_num, hn0, HN⟩, by simp [intOf]⟩
    · have cs := HI.out.2.cs
      have hlt : ¬ (1000000 : Int) < n := by omega
      have KF : Hid (∃ t, J t (cCnt n) wr) := ⟨(), by unfold cCnt; rw [if_neg hn0]; exact HI.out.1⟩
      gi_wp2
      go_end0
      exact ⟨⟨_, rfl⟩, .inl KF.out⟩
end Go.Proofs.YtfmiicbaooaheaaDoor
