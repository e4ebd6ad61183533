import Derived.Test.YtibpbemenjgncaaHc
namespace Go.Proofs.Ytibpbemenjgncaa
open Go.ChangeShapes Go.WideShapes Go.ChangeAt Go.RowKit
set_option linter.unusedVariables false
theorem many_rem (T : Nat) : ((T : Nat) : Int).tmod 300 = ((T % 300 : Nat) : Int) := rfl
section
variable (W w : World) (σ : Nat → Nat) (K : Nat) (V : Nat → Value) (X : Nat → List Value) (MM : List Int) (fr hd ll : List Ent) (B F : Nat) (p : PS)
set_option maxHeartbeats 4000000 in
set_option maxRecDepth 10000 in
theorem step_many (h : Rdy W w σ K V X MM fr hd ll B F p) (ce : Int) (T : Nat) (hT : T < 18446744073709551616) (v : Value) (th nt : Bool) (v1 : Value) (t1 : Int) (v2 : Value) (t2 : Int) (bs : List Int) (hv : Bs W v bs) :
    Calls Try.prog 20 #[.pointer (some ⟨B, 0, none⟩), .pointer (some ⟨F, 0, none⟩), .agg #[.int .i64 6, .int .i64 ce, .int .u64 (T : Nat), v, .bool th, .bool nt, v1, .int .u64 t1, v2, .int .u64 t2], .pointer (some ⟨K, 0, none⟩)] w fun e w' => e = .returned (.bool true) ∧ StP W w w' σ K MM fr hd ll B F := by
  obtain ⟨da, dc, rfl⟩ := hv.vshape
  have hbl := hv.len
  have kA := Kp.al w (.cells #[.int .i64 6, .int .i64 ce, .int .u64 (T : Nat), .slice da bs.length dc, .bool th, .bool nt, v1, .int .u64 t1, v2, .int .u64 t2] 33)
  have hb := heap_alloc_new w (.cells #[.int .i64 6, .int .i64 ce, .int .u64 (T : Nat), .slice da bs.length dc, .bool th, .bool nt, v1, .int .u64 t1, v2, .int .u64 t2] 33)
  have HH : Hid (Rdy W (w.alloc (.cells #[.int .i64 6, .int .i64 ce, .int .u64 (T : Nat), .slice da bs.length dc, .bool th, .bool nt, v1, .int .u64 t1, v2, .int .u64 t2] 33)) σ K V X MM fr hd ll B F p ∧ Kp w (w.alloc (.cells #[.int .i64 6, .int .i64 ce, .int .u64 (T : Nat), .slice da bs.length dc, .bool th, .bool nt, v1, .int .u64 t1, v2, .int .u64 t2] 33)) ∧ Bs W (.slice da bs.length dc) bs) := ⟨h.al kA, kA, hv⟩
  clear h kA hv
  go_enter Try.func20, Try.ntmps20
  go_upto_region 1 with fail
  generalize w.alloc (.cells #[.int .i64 6, .int .i64 ce, .int .u64 (T : Nat), .slice da bs.length dc, .bool th, .bool nt, v1, .int .u64 t1, v2, .int .u64 t2] 33) = w1 at *
  generalize w.heap.size = N at *
  have HN : Hid (w1.heap[N]? = some (.cells #[.int .i64 6, .int .i64 ce, .int .u64 (T : Nat), .slice da bs.length dc, .bool th, .bool nt, v1, .int .u64 t1, v2, .int .u64 t2] 33 (0, 0))) := hb
  have z0 : w1.cell? ⟨N, 0, none⟩ = some (.int .i64 6) := (cells_at hb 0).1
  have z2 : w1.cell? ⟨N, 2, none⟩ = some (.int .u64 (T : Nat)) := (cells_at hb 2).1
  have r1 := many_rem T
  have r2 : T % 300 < 300 := Nat.mod_lt _ (by omega)
  have r3 : IntKind.u64.wrap ((T % 300 : Nat) : Int) = ((T % 300 : Nat) : Int) := by simp [IntKind.wrap, IntKind.bits, IntKind.signed]; omega
  have r4 : IntKind.i64.wrap ((T % 300 : Nat) : Int) = ((T % 300 : Nat) : Int) := w64 (by omega) (by omega)
  clear hb
  generalize T % 300 = M at *
  go_wp2_with fail
  clear z0 z2 r1 r3 r4
  go_loopw [13, 14, 15, 16, 17, 18, 19] (fun s13 s14 s15 s16 s17 s18 s19 wr => ∃ i : Nat, s13 = .int .i64 i ∧ i ≤ M ∧ Hid (∃ σ2 V2 q, Dn W w1 wr σ σ2 K V2 X MM fr hd ll B F q q ∧ wr.heap[N]? = some (.cells #[.int .i64 6, .int .i64 ce, .int .u64 (T : Nat), .slice da bs.length dc, .bool th, .bool nt, v1, .int .u64 t1, v2, .int .u64 t2] 33 (0, 0)))) (fun s13 _ _ _ _ _ _ _ => M - nI s13)
  case atStart => exact ⟨0, rfl, by omega, σ, V, p, HH.out.1.dn, HN.out⟩
  case round =>
    obtain ⟨i, rfl, hi, HI⟩ := hrel
    obtain ⟨wy, rfl⟩ : ∃ wy, wy = wr := ⟨_, rfl⟩
    obtain ⟨σ1, V1, q, D1, b1⟩ := HI.out
    clear HI
    by_cases hit : i < M
    · have hiz : (i : Int) < (M : Int) := by omega
      have hw1 : IntKind.u64.wrap (i : Int) = (i : Int) := by simp [IntKind.wrap, IntKind.bits, IntKind.signed]; omega
      obtain ⟨tt, hw2⟩ : ∃ tt, IntKind.u64.wrap (((T : Nat) : Int) + (i : Int)) = tt := ⟨_, rfl⟩
      have HD1 : Hid (Dn W w1 wy σ σ1 K V1 X MM fr hd ll B F q q ∧ wy.heap[N]? = some (.cells #[.int .i64 6, .int .i64 ce, .int .u64 (T : Nat), .slice da bs.length dc, .bool th, .bool nt, v1, .int .u64 t1, v2, .int .u64 t2] 33 (0, 0))) := ⟨D1, b1⟩
      have x3 : wy.cell? ⟨N, 3, none⟩ = some (.slice da bs.length dc) := (cells_at b1 3).1
      clear D1 b1
      go_wp2_with fail
      go_at_call 31
      refine (given_any W wy σ1 K V1 X MM fr hd ll HD1.out.1.bk HD1.out.1.kp _ bs HH.out.2.2).mono ?_
      rintro e w2 ⟨σ2, V2, g, cap, ys, rfl, hG⟩
      have D2 := HD1.out.1.pg hG.bk hG.pg hG.old
      have b2 : w2.heap[N]? = some (.cells #[.int .i64 6, .int .i64 ce, .int .u64 (T : Nat), .slice da bs.length dc, .bool th, .bool nt, v1, .int .u64 t1, v2, .int .u64 t2] 33 (0, 0)) := by
        obtain ⟨S, hc, hS⟩ := hG.pg
        refine hc.heap HD1.out.2 (fun e => ?_)
        rcases (hS N e).2 with ⟨cs, T, h1, h2⟩ | ⟨_, cs, h1⟩
        · rw [HD1.out.2] at h1
          rcases h2 with rfl | rfl <;> simp at h1
        · rw [HD1.out.2] at h1
          simp at h1
      have hcap := hG.ln.cap
      have d2 := Kp.drew w2
      have hA := (D2.al d2).x.write (D2.al d2).bk.fz ce tt (.slice (some ⟨g, 0, none⟩) bs.length cap) bs ((hG.ln.bs hbl).kp d2)
      have y1 : w2.cell? ⟨N, 1, none⟩ = some (.int .i64 ce) := (cells_at b2 1).1
      have y2 : w2.cell? ⟨N, 2, none⟩ = some (.int .u64 (T : Nat)) := (cells_at b2 2).1
      have y3 : w2.cell? ⟨N, 3, none⟩ = some (.slice da bs.length dc) := (cells_at b2 3).1
      have nB : N ≠ B := fun q => by
        obtain ⟨cs, hx⟩ := D2.x.tp
        rw [← q, b2] at hx
        simp at hx
      have HG : Hid (Gv W wy w2 σ1 σ2 K V2 X MM fr hd ll g cap bs ys ∧ Dn W w1 w2 σ σ2 K V2 X MM fr hd ll B F q q ∧ w2.heap[N]? = some (.cells #[.int .i64 6, .int .i64 ce, .int .u64 (T : Nat), .slice da bs.length dc, .bool th, .bool nt, v1, .int .u64 t1, v2, .int .u64 t2] 33 (0, 0))) := ⟨hG, D2, b2⟩
      clear hG D2 b2 x3 d2
      have HKc : ∀ W', Kp w2 W' → W'.cell? ⟨N, 1, none⟩ = some (.int .i64 ce) ∧ W'.cell? ⟨N, 2, none⟩ = some (.int .u64 (T : Nat)) ∧ W'.cell? ⟨N, 3, none⟩ = some (.slice da bs.length dc) := fun W' k => ⟨k.cell y1, k.cell y2, k.cell y3⟩
      have HKd : ∀ W', Chg w2.drew W' (fun k => k = B) → W'.cell? ⟨N, 1, none⟩ = some (.int .i64 ce) ∧ W'.cell? ⟨N, 2, none⟩ = some (.int .u64 (T : Nat)) ∧ W'.cell? ⟨N, 3, none⟩ = some (.slice da bs.length dc) := fun W' k => ⟨k.cell' nB ((Kp.drew w2).cell y1), k.cell' nB ((Kp.drew w2).cell y2), k.cell' nB ((Kp.drew w2).cell y3)⟩
      have hcz : (bs.length : Int) ≤ (cap : Int) := by omega
      go_upto_region 13 with fail
      go_region_held3 (fun w' => w'.cell? ⟨N, 1, none⟩ = some (.int .i64 ce) ∧ w'.cell? ⟨N, 2, none⟩ = some (.int .u64 (T : Nat)) ∧ w'.cell? ⟨N, 3, none⟩ = some (.slice da bs.length dc)) (first | exact ⟨by assumption, by assumption, by assumption⟩ | exact HKc _ (Kp.drew _) | exact HKd _ (by assumption)) (first | (go_at_call 10; with_reducible refine hA.mono ?_; rintro e wz ⟨rfl, xz, cz⟩))
      obtain ⟨hG, D2, b2⟩ := HG.out
      have D3 := (D2.al (Kp.drew w2)).mx xz cz
      have b3 := cz.heap ((Kp.drew w2).heap b2) nB
      have gB : g ≠ B := fun q => by
        obtain ⟨cs, hx⟩ := D2.x.tp
        obtain ⟨cs', hy⟩ := hG.ln.tp
        rw [q, hx] at hy
        simp at hy
      have L3 := (hG.ln.chg (Kp.drew w2) (fun x => x)).chg cz gB
      have u3 : wz.cell? ⟨N, 3, none⟩ = some (.slice da bs.length dc) := (cells_at b3 3).1
      have hkp := kept_any wz g cap bs ys L3 hbl (.slice da bs.length dc) (HH.out.2.2.kp D3.kp)
      have HD : Hid (Dn W w1 wz σ σ2 K V2 X MM fr hd ll B F (q.write ce tt bs) q ∧ Ln wz g cap bs ys ∧ wz.heap[N]? = some (.cells #[.int .i64 6, .int .i64 ce, .int .u64 (T : Nat), .slice da bs.length dc, .bool th, .bool nt, v1, .int .u64 t1, v2, .int .u64 t2] 33 (0, 0))) := ⟨D3, L3, b3⟩
      clear hG D2 b2 D3 b3 L3 xz cz hA HKc HKd y1 y2 y3
      go_wp2_with fail
      go_at_call 32
      refine hkp.mono ?_
      rintro e w4 ⟨rfl, ⟨zs, hz, oz⟩, c4⟩
      obtain ⟨D3, L3, b3⟩ := HD.out
      have hG := HG.out.1
      have D4 : Dn W w1 w4 σ σ2 K V2 X MM fr hd ll B F (q.write ce tt bs) q := D3.pg (hG.ov wz w4 zs D3.bk L3.tp c4 hz oz) ⟨_, c4, fun b e => by subst e; exact ⟨hG.gn, .inr ⟨hG.ng, L3.tp⟩⟩⟩ (fun _ _ => rfl)
      have gN : N ≠ g := fun q => by
        obtain ⟨cs, hx⟩ := L3.tp
        rw [← q, b3] at hx
        simp at hx
      have b4 := c4.heap b3 gN
      have s1 : w4.cell? ⟨N, 1, none⟩ = some (.int .i64 ce) := (cells_at b4 1).1
      have s2 : w4.cell? ⟨N, 2, none⟩ = some (.int .u64 (T : Nat)) := (cells_at b4 2).1
      have s3 : w4.cell? ⟨N, 3, none⟩ = some (.slice da bs.length dc) := (cells_at b4 3).1
      have hY := D4.y.write D4.bk.fz ce tt (.slice da bs.length dc) bs (HH.out.2.2.kp D4.kp) (HH.out.2.2.old D4.y.1)
      have nF : N ≠ F := fun q => by
        obtain ⟨cs, hx⟩ := D4.y.tp
        rw [← q, b4] at hx
        simp at hx
      have HD4 : Hid (Dn W w1 w4 σ σ2 K V2 X MM fr hd ll B F (q.write ce tt bs) q ∧ w4.heap[N]? = some (.cells #[.int .i64 6, .int .i64 ce, .int .u64 (T : Nat), .slice da bs.length dc, .bool th, .bool nt, v1, .int .u64 t1, v2, .int .u64 t2] 33 (0, 0))) := ⟨D4, b4⟩
      clear D3 L3 b3 hG D4 b4 oz c4 u3 hkp
      go_wp2_with fail
      go_at_call 33
      refine hY.mono ?_
      rintro e w5 ⟨rfl, y5, c5⟩
      have D5 := HD4.out.1.my y5 c5
      have b5 := c5.heap HD4.out.2 nF
      have s1 : w5.cell? ⟨N, 1, none⟩ = some (.int .i64 ce) := (cells_at b5 1).1
      have HD5 : Hid (Dn W w1 w5 σ σ2 K V2 X MM fr hd ll B F (q.write ce tt bs) (q.write ce tt bs) ∧ w5.heap[N]? = some (.cells #[.int .i64 6, .int .i64 ce, .int .u64 (T : Nat), .slice da bs.length dc, .bool th, .bool nt, v1, .int .u64 t1, v2, .int .u64 t2] 33 (0, 0))) := ⟨D5, b5⟩
      clear D5 b5 y5 c5 hY s2 s3
      go_wp2_with fail
      go_at_call 11
      refine (HD5.out.1.x.turn ce).mono ?_
      rintro e w6 ⟨rfl, x6, c6⟩
      have D6 := HD5.out.1.mx x6 c6
      have b6 := c6.heap HD5.out.2 nB
      have s1 : w6.cell? ⟨N, 1, none⟩ = some (.int .i64 ce) := (cells_at b6 1).1
      have HD6 : Hid (Dn W w1 w6 σ σ2 K V2 X MM fr hd ll B F ((q.write ce tt bs).turn ce) (q.write ce tt bs) ∧ w6.heap[N]? = some (.cells #[.int .i64 6, .int .i64 ce, .int .u64 (T : Nat), .slice da bs.length dc, .bool th, .bool nt, v1, .int .u64 t1, v2, .int .u64 t2] 33 (0, 0))) := ⟨D6, b6⟩
      clear D6 b6 x6 c6
      go_wp2_with fail
      go_at_call 34
      refine (HD6.out.1.y.turn ce).mono ?_
      rintro e w7 ⟨rfl, y7, c7⟩
      have D7 := HD6.out.1.my y7 c7
      have b7 := c7.heap HD6.out.2 nF
      have HD7 : Hid (∃ σ2 V2 q, Dn W w1 w7 σ σ2 K V2 X MM fr hd ll B F q q ∧ w7.heap[N]? = some (.cells #[.int .i64 6, .int .i64 ce, .int .u64 (T : Nat), .slice da bs.length dc, .bool th, .bool nt, v1, .int .u64 t1, v2, .int .u64 t2] 33 (0, 0))) := ⟨_, _, _, D7, b7⟩
      clear D7 b7 y7 c7
      have hq : (q.wE ce bs.length != q.wE ce bs.length) = false := by simp
      have hq2 : ((((q.write ce tt bs).tN ce : Nat) : Int) != (((q.write ce tt bs).tN ce : Nat) : Int)) = false := by simp
      generalize q.wE ce bs.length = er at *
      generalize (((q.write ce tt bs).tN ce : Nat) : Int) = nn at *
      go_wp2_with fail
      exact ⟨⟨i + 1, by go_num, by omega, HD7.out⟩, by simp [nI]; omega⟩
    · have hiz : ¬ (i : Int) < (M : Int) := by omega
      have HD1 : Hid (Dn W w1 wy σ σ1 K V1 X MM fr hd ll B F q q) := D1
      clear D1 b1
      go_wp2_with fail
      go_ret
      exact ⟨rfl, StP.al HD1.out.stp HH.out.2.1⟩
set_option maxHeartbeats 4000000 in
set_option maxRecDepth 10000 in
theorem step_none (h : Rdy W w σ K V X MM fr hd ll B F p) (kd ce tk : Int) (v : Value) (th nt : Bool) (v1 : Value) (t1 : Int) (v2 : Value) (t2 : Int) (h1 : (kd == 1) = false) (h2 : (kd == 2) = false) (h3 : (kd == 3) = false) (h4 : (kd == 4) = false) (h5 : (kd == 5) = false) (h6 : (kd == 6) = false) :
    Calls Try.prog 20 #[.pointer (some ⟨B, 0, none⟩), .pointer (some ⟨F, 0, none⟩), .agg #[.int .i64 kd, .int .i64 ce, .int .u64 tk, v, .bool th, .bool nt, v1, .int .u64 t1, v2, .int .u64 t2], .pointer (some ⟨K, 0, none⟩)] w fun e w' => e = .returned (.bool true) ∧ StP W w w' σ K MM fr hd ll B F := by
  have kA := Kp.al w (.cells #[.int .i64 kd, .int .i64 ce, .int .u64 tk, v, .bool th, .bool nt, v1, .int .u64 t1, v2, .int .u64 t2] 33)
  have hb := heap_alloc_new w (.cells #[.int .i64 kd, .int .i64 ce, .int .u64 tk, v, .bool th, .bool nt, v1, .int .u64 t1, v2, .int .u64 t2] 33)
  have HH : Hid (Rdy W (w.alloc (.cells #[.int .i64 kd, .int .i64 ce, .int .u64 tk, v, .bool th, .bool nt, v1, .int .u64 t1, v2, .int .u64 t2] 33)) σ K V X MM fr hd ll B F p ∧ Kp w (w.alloc (.cells #[.int .i64 kd, .int .i64 ce, .int .u64 tk, v, .bool th, .bool nt, v1, .int .u64 t1, v2, .int .u64 t2] 33))) := ⟨h.al kA, kA⟩
  clear h kA
  go_enter Try.func20, Try.ntmps20
  go_upto_region 1 with fail
  generalize w.alloc (.cells #[.int .i64 kd, .int .i64 ce, .int .u64 tk, v, .bool th, .bool nt, v1, .int .u64 t1, v2, .int .u64 t2] 33) = w1 at *
  generalize w.heap.size = N at *
  have z0 : w1.cell? ⟨N, 0, none⟩ = some (.int .i64 kd) := (cells_at hb 0).1
  clear hb
  go_wp2_with fail
  go_ret
  exact ⟨rfl, StP.al HH.out.1.dn.stp HH.out.2⟩
end
end Go.Proofs.Ytibpbemenjgncaa
