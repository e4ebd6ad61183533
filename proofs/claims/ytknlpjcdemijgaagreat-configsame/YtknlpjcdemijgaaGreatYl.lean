import Derived.Test.YtknlpjcdemijgaaGreatYj
namespace Go.Proofs.YtknlpjcdemijgaaGreat
open Go.ChangeShapes Go.WideShapes Go.ChangeAt Go.RowKit
set_option linter.unusedVariables false
theorem Chg.setRow {a b : World} {S : Nat → Prop} (h : Chg a b S) {g : Nat} (hp : S g ∨ a.heap.size ≤ g) (cs : Array Value) : Chg a (b.setRow g cs) S :=
 h.trans (T := fun k => k = g) ⟨rfl, rfl, rfl, by simp [World.setRow], fun k hk hn => setRow_other b g k cs hn⟩
  (fun i hi x => by subst x; rcases hp with h | h; exact h; omega)
abbrev zC : Array Value := #[.int .i64 0, .int .u32 0, .int .i64 0, .int .i64 0, .int .i64 0, .int .i64 0, .int .i64 0, .int .u64 0, .slice none 0 0, .slice none 0 0, .slice none 0 0, .slice none 0 0]
theorem size31 : (Tryz.prog.info? 31).map (·.size) = some 12 := by kernel_rfl
theorem res11 (tmps : Array Value) (w : World) (T : Nat) (cs : Array Value) (e p : Value) (hp : tmps.getD 2 undef = .pointer (some ⟨T, 0, none⟩)) (h3 : tmps.getD 3 undef = e) (h4 : tmps.getD 4 undef = p) (hg : w.heap[T]? = some (.cells cs 31 (0, 0))) (hsz : cs.size = 12) : (results Tryz.f11 tmps).run Tryz.prog w = .ok (.tuple #[.agg cs, e, p]) w := by
 have hp' : tmps[2]?.getD undef = .pointer (some ⟨T, 0, none⟩) := by simpa using hp
 have h3' : tmps[3]?.getD undef = e := by simpa using h3
 have h4' : tmps[4]?.getD undef = p := by simpa using h4
 have hl := run_loadVar_row (P := Tryz.prog) w T 31 31 cs (0, 0) _ hg Tryz.underlying31 rfl (by rw [hsz]; exact size31)
 simp [results, Tryz.results11, hp', h3', h4', asAddr, hl]
def RS.flaw (s : RS) : Int := if s.err = 133 then wrap64 (s.wh - 1) else s.wh
set_option maxRecDepth 10000 in
theorem flaw_any (w : World) (R : Nat) (a : Option Addr) (cap : Nat) (s : RS) (h : IsRS w R a cap s) :
  Calls Tryz.prog 32 #[hR R] w fun r w' => r = .returned (.tuple #[.int .i64 s.flaw, .bool (decide (s.err = 0))]) ∧ Kp w w' := by
 have k0 := Kp.al w (.cells #[.pointer (some ⟨R, 0, none⟩)] 83)
 have A1 := rerr_any _ R a cap s (h.other k0 (fun e => e) (fun _ _ _ _ e => e))
 have HK : Hid (Kp w (w.alloc (.cells #[.pointer (some ⟨R, 0, none⟩)] 83))) := k0
 clear h k0
 have hfl : s.flaw = if s.err = 133 then wrap64 (s.wh - 1) else s.wh := rfl
 obtain ⟨er, her⟩ : ∃ x, x = s.err := ⟨_, rfl⟩
 obtain ⟨wh, hwh⟩ : ∃ x, x = s.wh := ⟨_, rfl⟩
 rw [← her, ← hwh] at hfl A1
 have HER : Hid (er = s.err) := her
 clear her hwh
 go_enter Tryz.func32, Tryz.ntmps32
 go_wp2_with fail
 go_at_call 84
 refine A1.mono ?_
 clear A1
 rintro e w1 ⟨rfl, i1, k1⟩
 have HK1 : Hid (Kp w w1) := Kp.trans HK.out k1
 clear i1 k1 HK
 by_cases h1 : er = 133
 ·rw [if_pos h1] at hfl
  have HF : Hid (s.flaw = wrap64 (wh - 1) ∧ decide (s.err = 0) = false) := ⟨hfl, by rw [← HER.out, h1]; rfl⟩
  clear hfl
  subst h1
  go_wp2
  go_ret2
  exact ⟨by rw [HF.out.1, HF.out.2]; rfl, HK1.out⟩
 ·rw [if_neg h1] at hfl
  have h1z : (er == 133) = false := by simpa using h1
  by_cases h0 : er = 0
  ·have HF : Hid (s.flaw = wh ∧ decide (s.err = 0) = true) := ⟨hfl, by rw [← HER.out, h0]; rfl⟩
   clear hfl
   subst h0
   go_wp2
   go_ret2
   exact ⟨by rw [HF.out.1, HF.out.2]; rfl, HK1.out⟩
  ·have h0z : (er == 0) = false := by simpa using h0
   have HF : Hid (s.flaw = wh ∧ decide (s.err = 0) = false) := ⟨hfl, by rw [← HER.out]; exact decide_eq_false h0⟩
   clear hfl
   go_wp2
   go_ret2
   exact ⟨by rw [HF.out.1, HF.out.2]; rfl, HK1.out⟩
def decS (bs : List Int) : RS := ((rs1 bs).part.1.cf.2).end
def decG (bs : List Int) : Cf := (rs1 bs).part.1.cf.1
theorem RowAt.lt {α : Type} {M sz : Nat} {w : World} {la : Option Addr} {cells : α → List Value} {xs : List α} (h : RowAt M w la sz cells xs) (hc : ∀ x, 0 < (cells x).length) : xs.length = 0 ∨ ∃ nb, la = some ⟨nb, 0, none⟩ ∧ nb < w.heap.size ∧ ∀ j x, xs[j]? = some x → At w nb (j * sz) (cells x) := by
 rcases h with e | ⟨nb, e, hm, h⟩
 ·exact .inl e
 ·rcases Nat.eq_zero_or_pos xs.length with h0 | h0
  ·exact .inl h0
  ·refine .inr ⟨nb, e, ?_, h⟩
   have h1 := h 0 xs[0] (List.getElem?_eq_getElem h0)
   have h2 := hc xs[0]
   exact lt_of_cell (h1 0 _ (List.getElem?_eq_getElem h2))
end Go.Proofs.YtknlpjcdemijgaaGreat
namespace Go.Proofs.YtknlpjcdemijgaaGreat
open Go.ChangeShapes Go.WideShapes Go.ChangeAt Go.RowKit
set_option linter.unusedVariables false
def rng (l : List Int) : Prop := ∀ x ∈ l, 0 ≤ x ∧ x ≤ 255
theorem num_lt (s : RS) (k : Nat) (h : rng s.bs) : s.num k < 2 ^ (8 * k) := RS.num_lt s k h
theorem rng_take {s : RS} (k : Nat) (h : rng s.bs) : rng (s.take k).2.bs := by rw [RS.take_bs]; exact h
theorem rng_pad {s : RS} (h : rng s.bs) : rng (s.pad 4).bs := by rw [RS.pad_bs]; exact h
theorem dl_all {α : Type} {f : RS → α × RS} {P : α → Prop} (hf : ∀ s, (f s).2.bs = s.bs) (hP : ∀ s, rng s.bs → P (f s).1) (n : Nat) (s : RS) (h : rng s.bs) : ∀ x, x ∈ (dl f n s).1 → P x := by
 induction n with
 | zero => intro x hx; simp [dl] at hx
 | succ n ih =>
  intro x hx
  have e : (dl f (n + 1) s).1 = (dl f n s).1 ++ [(f (dl f n s).2).1] := rfl
  rw [e] at hx
  rcases List.mem_append.1 hx with hx | hx
  ·exact ih x hx
  ·rw [List.mem_singleton.1 hx]
   exact hP _ (by rw [dl_bs f hf]; exact h)
theorem rg_ok (s : RS) (h : rng s.bs) : s.rg.1.ok := by
 have h0 := num_lt s 4 h
 have h1 := num_lt (s.take 4).2 4 (rng_take 4 h)
 have h2 := num_lt ((s.take 4).2.take 4).2 4 (rng_take 4 (rng_take 4 h))
 have h3 := num_lt (((s.take 4).2.take 4).2.take 4).2 1 (rng_take 4 (rng_take 4 (rng_take 4 h)))
 unfold RS.rg
 exact ⟨⟨by simp only; omega, by simp only; omega⟩, ⟨by simp only; omega, by simp only; omega⟩, ⟨by simp only; omega, by simp only; omega⟩, ⟨by simp only; omega, by simp only; omega⟩⟩
theorem wi_ok (s : RS) (h : rng s.bs) : s.wi.1.ok := by
 have h0 := num_lt s 1 h
 have h1 := num_lt ((s.take 1).2.pad 4) 8 (rng_pad (rng_take 1 h))
 have h2 := num_lt (((s.take 1).2.pad 4).take 8).2 8 (rng_take 8 (rng_pad (rng_take 1 h)))
 unfold RS.wi
 exact ⟨⟨by simp only; omega, by simp only; omega⟩, ⟨by simp only; omega, by simp only; omega⟩, ⟨by simp only; omega, by simp only; omega⟩⟩
theorem qu_ok (s : RS) (h : rng s.bs) : s.qu.1.ok := by
 have h0 := num_lt s 1 h
 have h1 := num_lt (s.take 1).2 1 (rng_take 1 h)
 have h2 := num_lt ((s.take 1).2.take 1).2 2 (rng_take 1 (rng_take 1 h))
 have h3 := num_lt (((s.take 1).2.take 1).2.take 2).2 2 (rng_take 2 (rng_take 1 (rng_take 1 h)))
 have h4 := num_lt ((((s.take 1).2.take 1).2.take 2).2.take 2).2 2 (rng_take 2 (rng_take 2 (rng_take 1 (rng_take 1 h))))
 unfold RS.qu
 exact ⟨⟨by simp only; omega, by simp only; omega⟩, ⟨by simp only; omega, by simp only; omega⟩, ⟨by simp only; omega, by simp only; omega⟩, ⟨by simp only; omega, by simp only; omega⟩, ⟨by simp only; omega, by simp only; omega⟩⟩
theorem mc_ok (s : RS) (h : rng s.bs) : s.mc.1.ok := by
 have r1 := rng_take 4 h
 have r2 := rng_take 4 r1
 have r3 := rng_take 4 r2
 have r4 := rng_take 2 r3
 have r5 := rng_take 2 r4
 have r6 := rng_take 2 r5
 have r7 := rng_take 2 r6
 have h0 := num_lt s 4 h
 have h1 := num_lt _ 4 r1
 have h2 := num_lt _ 4 r2
 have h3 := num_lt _ 2 r3
 have h4 := num_lt _ 2 r4
 have h5 := num_lt _ 2 r5
 have h6 := num_lt _ 2 r6
 have h7 := num_lt _ 8 r7
 unfold RS.mc
 exact ⟨⟨by simp only; omega, by simp only; omega⟩, ⟨by simp only; omega, by simp only; omega⟩, ⟨by simp only; omega, by simp only; omega⟩, ⟨by simp only; omega, by simp only; omega⟩, ⟨by simp only; omega, by simp only; omega⟩, ⟨by simp only; omega, by simp only; omega⟩, ⟨by simp only; omega, by simp only; omega⟩, ⟨by simp only; omega, by simp only; omega⟩⟩
theorem int1_ok (s : RS) (h : rng s.bs) : i64ok s.int1.1 := by
 have h0 := num_lt s 1 h
 unfold RS.int1 i64ok
 exact ⟨by simp only; omega, by simp only; omega⟩
structure Ce.ok (c : Ce) : Prop where
 e : 0 ≤ c.e ∧ c.e < 4294967296
 nm : c.nm.size ≤ 255
 rs : ∀ r, r ∈ c.rs → r.ok
 ls : ∀ n, n ∈ c.ls → i64ok n
 rl : c.rs.length ≤ 255
 ll : c.ls.length ≤ 255
structure Sa.ok (c : Sa) : Prop where
 w : i64ok c.w
 s : i64ok c.s
 rs : ∀ n, n ∈ c.rs → i64ok n
 rl : c.rs.length ≤ 255
theorem ce_ok (s : RS) (h : rng s.bs) : s.ce.1.ok := by
 have rA : rng s.ceA.bs := by rw [RS.ceA_bs]; exact h
 have rB : rng s.ceB.bs := by rw [RS.ceB_bs]; exact h
 have rN : rng (s.name.2.pad 4).bs := by rw [RS.pad_bs, RS.name_bs]; exact h
 have h0 := num_lt _ 4 rN
 have h1 := num_lt _ 1 rA
 have h2 := num_lt _ 1 (rng_take 1 rA)
 have h3 := num_lt s 1 h
 refine ⟨⟨?_, ?_⟩, ?_, ?_, ?_, ?_, ?_⟩
 ·show (0 : Int) ≤ ((s.name.2.pad 4).num 4 : Nat); omega
 ·show (((s.name.2.pad 4).num 4 : Nat) : Int) < 4294967296; omega
 ·show (strOf ((s.take 1).2.take (s.num 1)).1).size ≤ 255
  rw [strOf_eq _ (RS.take_range _ _ (rng_take 1 h))]
  have := RS.take_len (s.take 1).2 (s.num 1)
  simp [ByteArray.size]
  omega
 ·exact dl_all RS.rg_bs rg_ok _ _ rB
 ·exact dl_all (f := RS.int1) (fun s => RS.take_bs s 1) int1_ok _ _ (by rw [dl_bs RS.rg RS.rg_bs]; exact rB)
 ·show (dl RS.rg _ _).1.length ≤ 255; rw [dl_len]; omega
 ·show (dl RS.int1 _ _).1.length ≤ 255; rw [dl_len]; omega
theorem sa_ok (s : RS) (h : rng s.bs) : s.sa.1.ok := by
 have h0 := num_lt s 1 h
 have h1 := num_lt (s.take 1).2 1 (rng_take 1 h)
 have h2 := num_lt ((s.take 1).2.take 1).2 2 (rng_take 1 (rng_take 1 h))
 refine ⟨⟨?_, ?_⟩, ⟨?_, ?_⟩, ?_, ?_⟩
 ·show (-9223372036854775808 : Int) ≤ (s.num 1 : Nat); omega
 ·show ((s.num 1 : Nat) : Int) ≤ 9223372036854775807; omega
 ·show (-9223372036854775808 : Int) ≤ (((s.take 1).2.take 1).2.num 2 : Nat); omega
 ·show ((((s.take 1).2.take 1).2.num 2 : Nat) : Int) ≤ 9223372036854775807; omega
 ·exact dl_all (f := RS.int1) (fun s => RS.take_bs s 1) int1_ok _ _ (rng_take 2 (rng_take 1 (rng_take 1 h)))
 ·show (dl RS.int1 _ _).1.length ≤ 255; rw [dl_len]; omega
structure Cf.ok (g : Cf) : Prop where
 m : g.m.ok
 cs : ∀ x, x ∈ g.cs → x.ok
 ws : ∀ x, x ∈ g.ws → x.ok
 ss : ∀ x, x ∈ g.ss → x.ok
 qs : ∀ x, x ∈ g.qs → x.ok
 cl : g.cs.length ≤ 255
 wl : g.ws.length ≤ 255
 sl : g.ss.length ≤ 255
 ql : g.qs.length ≤ 255
theorem cf_ok (s : RS) (h : rng s.bs) : s.cf.1.ok := by
 have rA : rng s.cfA.bs := by rw [RS.cfA_bs]; exact h
 have rB : rng s.cfB.bs := by rw [RS.cfB_bs]; exact h
 have rC : rng s.cfC.bs := by rw [RS.cfC_bs]; exact h
 have rD : rng s.cfD.bs := by rw [RS.cfD_bs]; exact h
 have h1 := num_lt _ 1 rA
 have h2 := num_lt _ 1 rB
 have h3 := num_lt _ 1 rC
 have h4 := num_lt _ 1 rD
 refine ⟨mc_ok s h, dl_all RS.ce_bs ce_ok _ _ (by rw [RS.cfE_bs]; exact h), dl_all RS.wi_bs wi_ok _ _ (by rw [RS.cfF_bs]; exact h), dl_all RS.sa_bs sa_ok _ _ (by rw [RS.cfG_bs]; exact h), dl_all RS.qu_bs qu_ok _ _ (by rw [RS.cfH_bs]; exact h), ?_, ?_, ?_, ?_⟩
 ·show (dl RS.ce _ _).1.length ≤ 255; rw [dl_len]; omega
 ·show (dl RS.wi _ _).1.length ≤ 255; rw [dl_len]; omega
 ·show (dl RS.sa _ _).1.length ≤ 255; rw [dl_len]; omega
 ·show (dl RS.qu _ _).1.length ≤ 255; rw [dl_len]; omega
theorem IsCf.made {w : World} {cs : Array Value} {g : Cf} {ca wa sa qa : Option Addr} {M : Nat} (hg : g.ok) (hsz : cs.size = 12)
  (hc : ∀ i u, (g.m.cells ++ [.slice ca g.cs.length g.cs.length, .slice wa g.ws.length g.ws.length, .slice sa g.ss.length g.ss.length, .slice qa g.qs.length g.qs.length])[i]? = some u → cs[0 + i]? = some u)
  (h1 : RowW (CeW M) w ca 4 g.cs) (h2 : RowAt M w wa 3 Wi.cells g.ws) (h3 : RowW (SaW M) w sa 3 g.ss) (h4 : RowAt M w qa 6 Qu.cells g.qs) : IsCf w (.agg cs) g := by
 have ints : ∀ la (xs : List Int), RowAt M w la 1 icell xs → (∀ n, n ∈ xs → i64ok n) → xs.length ≤ 255 → RdI w w.heap.size la xs := by
  intro la xs h ho hl
  refine ⟨ho, by omega, ?_⟩
  rcases h.lt (fun x => by simp [icell]) with e | ⟨nb, e, hb, hx⟩
  ·exact .inl e
  ·exact .inr ⟨nb, 0, e, hb, fun i hi => by
    have := hx i xs[i] (List.getElem?_eq_getElem hi) 0 _ rfl
    rw [Nat.mul_one, Nat.add_zero] at this
    rw [Nat.zero_add]
    exact this⟩
 refine ⟨hg.m, ca, g.cs.length, wa, g.ws.length, sa, g.ss.length, qa, g.qs.length, ?_, ⟨by have := hg.cl; omega, ?_⟩, ⟨by have := hg.wl; omega, ?_⟩, ⟨by have := hg.sl; omega, ?_⟩, ⟨by have := hg.ql; omega, ?_⟩⟩
 ·unfold cfV
  congr 1
  apply Array.ext_getElem?
  intro i
  rcases Nat.lt_or_ge i 12 with hi | hi
  ·have := hc i _ (List.getElem?_eq_getElem (by simp [Mc.cells]; omega))
   rw [Nat.zero_add] at this
   rw [this, ← List.getElem?_eq_getElem]
   simp only [List.getElem?_toArray]
   rfl
  ·rw [Array.getElem?_eq_none (by omega), Array.getElem?_eq_none (by simpa using hi)]
 ·rcases h1 with e | ⟨nb, e, hx⟩
  ·exact .inl e
  ·rcases Nat.eq_zero_or_pos g.cs.length with h0 | h0
   ·exact .inl h0
   ·right
    have hlt : nb < w.heap.size := by
     obtain ⟨ra, la, p, _⟩ := hx 0 g.cs[0] (List.getElem?_eq_getElem h0)
     exact lt_of_cell (p 0 _ rfl)
    refine ⟨nb, 0, e, hlt, fun i hi => ?_⟩
    obtain ⟨ra, la, p1, p2, p3⟩ := hx i g.cs[i] (List.getElem?_eq_getElem hi)
    have ho := hg.cs _ (List.getElem_mem hi)
    rw [Nat.zero_add]
    refine ⟨ho.e, by have := ho.nm; omega, ra, _, la, _, p1, ⟨by have := ho.rl; omega, ?_⟩, ints la _ p3 ho.ls ho.ll⟩
    rcases p2.lt (fun x => by simp [Rg.cells]) with e2 | ⟨nb2, e2, hb2, hx2⟩
    ·exact .inl e2
    ·exact .inr ⟨nb2, 0, e2, hb2, fun j hj => ⟨by rw [Nat.zero_add]; exact hx2 j _ (List.getElem?_eq_getElem hj), ho.rs _ (List.getElem_mem hj)⟩⟩
 ·rcases h2.lt (fun x => by simp [Wi.cells]) with e2 | ⟨nb2, e2, hb2, hx2⟩
  ·exact .inl e2
  ·exact .inr ⟨nb2, 0, e2, hb2, fun j hj => ⟨by rw [Nat.zero_add]; exact hx2 j _ (List.getElem?_eq_getElem hj), hg.ws _ (List.getElem_mem hj)⟩⟩
 ·rcases h3 with e | ⟨nb, e, hx⟩
  ·exact .inl e
  ·rcases Nat.eq_zero_or_pos g.ss.length with h0 | h0
   ·exact .inl h0
   ·right
    have hlt : nb < w.heap.size := by
     obtain ⟨la, p, _⟩ := hx 0 g.ss[0] (List.getElem?_eq_getElem h0)
     exact lt_of_cell (p 0 _ rfl)
    refine ⟨nb, 0, e, hlt, fun i hi => ?_⟩
    obtain ⟨la, p1, p3⟩ := hx i g.ss[i] (List.getElem?_eq_getElem hi)
    have ho := hg.ss _ (List.getElem_mem hi)
    rw [Nat.zero_add]
    exact ⟨ho.w, ho.s, la, _, p1, ints la _ p3 ho.rs ho.rl⟩
 ·rcases h4.lt (fun x => by simp [Qu.cells]) with e2 | ⟨nb2, e2, hb2, hx2⟩
  ·exact .inl e2
  ·exact .inr ⟨nb2, 0, e2, hb2, fun j hj => ⟨by rw [Nat.zero_add]; exact hx2 j _ (List.getElem?_eq_getElem hj), hg.qs _ (List.getElem_mem hj)⟩⟩
end Go.Proofs.YtknlpjcdemijgaaGreat
