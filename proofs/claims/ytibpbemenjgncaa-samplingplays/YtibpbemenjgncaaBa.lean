import Derived.Test.YtibpbemenjgncaaAl
import Derived.Deep.CutRange
import Derived.Deep.CutBlock
namespace Go.Proofs.Ytibpbemenjgncaa
open Go.ChangeShapes Go.WideShapes Go.ChangeAt Go.RowKit
set_option linter.unusedVariables false
/-- A step of a script. -/
structure OpV where
  kd : Int
  ce : Int
  tk : Int
  v : Value
  bs : List Int
  th : Bool
  nt : Bool
  v1 : Value
  b1 : List Int
  t1 : Int
  v2 : Value
  b2 : List Int
  t2 : Int
def opC (o : OpV) : List Value := [.int .i64 o.kd, .int .i64 o.ce, .int .u64 o.tk, o.v, .bool o.th, .bool o.nt, o.v1, .int .u64 o.t1, o.v2, .int .u64 o.t2]
/-- What it reads. -/
structure OpV.data (w : World) (o : OpV) : Prop where
  b : Bs w o.v o.bs
  b1 : Bs w o.v1 o.b1
  b2 : Bs w o.v2 o.b2
  tk : 0 ≤ o.tk ∧ o.tk < 18446744073709551616
instance : Inhabited OpV := ⟨⟨0, 0, 0, .slice none 0 0, [], false, false, .slice none 0 0, [], 0, .slice none 0 0, [], 0⟩⟩
/-- A script that came in. -/
structure OpsIn (w : World) (a : Option Addr) (os : List OpV) : Prop where
  c : os = [] ∨ ∃ b o, a = some ⟨b, o, none⟩ ∧ ∀ i (h : i < os.length), w.rangeAt b (o + i * 10) (opC os[i])
  d : ∀ i (h : i < os.length), os[i].data w
  len : os.length * 10 ≤ 140737488355328
theorem range_kp {w w' : World} {b o : Nat} {l : List Value} (h : w.rangeAt b o l) (k : Kp w w') : w'.rangeAt b o l := fun j v hv => k.cell (h j v hv)
theorem OpV.data.kp {w w' : World} {o : OpV} (h : o.data w) (k : Kp w w') : o.data w' := ⟨h.b.kp k, h.b1.kp k, h.b2.kp k, h.tk⟩
/-- What SamplingLast holds to. -/
structure LsI (W w : World) (B : Nat) (p : PS) (vl vn : Value) (sn : Bool) (vL vN : Value) (tN : Int) : Prop where
  kp : Kp W w
  bn : W.heap.size ≤ B
  isp : IsP w B vl vn p sn
  fx : p.wr = 1 ∧ p.sz = 16 ∧ p.rd 3 = true
  l : OB w vL p.la.bs
  n : p.ne.th = true → OB w vN p.ne.bs ∧ tN = p.ne.tk
theorem LsI.chg {W w w' : World} {B : Nat} {p : PS} {vl vn : Value} {sn : Bool} {vL vN : Value} {tN : Int} (h : LsI W w B p vl vn sn vL vN tN) (k : Kp w w') : LsI W w' B p vl vn sn vL vN tN :=
  ⟨h.kp.trans k, h.bn, h.isp.kp k, h.fx, Chg.owns k h.l (fun _ _ h => h), fun e => ⟨Chg.owns k (h.n e).1 (fun _ _ h => h), (h.n e).2⟩⟩
theorem LsI.alloc {W w : World} {B : Nat} {p : PS} {vl vn : Value} {sn : Bool} {vL vN : Value} {tN : Int} (h : LsI W w B p vl vn sn vL vN tN) (o : Obj) : LsI W (w.alloc o) B p vl vn sn vL vN tN := h.chg (Kp.al _ _)
/-- A message was written. -/
theorem LsI.wrote {W w w' : World} {B : Nat} {p : PS} {vl vn vn' : Value} {sn : Bool} {vL vN : Value} {tN tk c : Int} {bs : List Int} {v' : Value} (h : LsI W w B p vl vn sn vL vN tN) (hv : OB w v' bs) (hE : p.wE c bs.length = 0)
    (hP : IsP w' B vl vn' (p.write c tk bs) sn) (hc : Chg w w' (fun k => k = B)) : LsI W w' B ⟨p.wr, p.sz, p.rd, p.la, ⟨true, bs, tk⟩⟩ vl vn' sn vL v' tk := by
  have e : p.write c tk bs = ⟨p.wr, p.sz, p.rd, p.la, ⟨true, bs, tk⟩⟩ := by unfold PS.write; rw [if_pos hE]
  rw [e] at hP
  exact ⟨Chg.trans h.kp hc (fun i hi e => by have := h.bn; omega), h.bn, hP, h.fx, hc.owns h.l (fun k hk e => h.l.no h.isp.box (by decide) (by rw [hk, e])), fun _ => ⟨hc.owns hv (fun k hk e => hv.no h.isp.box (by decide) (by rw [hk, e])), rfl⟩⟩
/-- None was. -/
theorem LsI.wrote_no {W w w' : World} {B : Nat} {p : PS} {vl vn vn' : Value} {sn : Bool} {vL vN : Value} {tN tk c : Int} {bs : List Int} (h : LsI W w B p vl vn sn vL vN tN) (hE : p.wE c bs.length ≠ 0)
    (hP : IsP w' B vl vn' (p.write c tk bs) sn) (hc : Chg w w' (fun k => k = B)) : LsI W w' B p vl vn' sn vL vN tN := by
  have e : p.write c tk bs = p := by unfold PS.write; rw [if_neg hE]
  rw [e] at hP
  exact ⟨Chg.trans h.kp hc (fun i hi e => by have := h.bn; omega), h.bn, hP, h.fx, hc.owns h.l (fun k hk e => h.l.no h.isp.box (by decide) (by rw [hk, e])), fun hn => ⟨hc.owns (h.n hn).1 (fun k hk e => (h.n hn).1.no h.isp.box (by decide) (by rw [hk, e])), (h.n hn).2⟩⟩
/-- It is turned. -/
theorem LsI.turned {W w w' : World} {B : Nat} {p : PS} {vl vn vl' vn' : Value} {sn sn' : Bool} {vL vN : Value} {tN c : Int} (h : LsI W w B p vl vn sn vL vN tN) (hT : p.tn c = true)
    (hP : IsP w' B vl' vn' (p.turn c) sn') (hc : Chg w w' (fun k => k = B)) : LsI W w' B ⟨p.wr, p.sz, p.rd, p.ne, Ms.no⟩ vl' vn' sn' vN vN tN ∧ tN = p.ne.tk ∧ p.ne.th = true := by
  have e : p.turn c = ⟨p.wr, p.sz, p.rd, p.ne, Ms.no⟩ := by unfold PS.turn; rw [if_pos hT]
  rw [e] at hP
  have ht : p.ne.th = true := by simp [PS.tn] at hT; exact hT.2
  exact ⟨⟨Chg.trans h.kp hc (fun i hi e => by have := h.bn; omega), h.bn, hP, h.fx, hc.owns (h.n ht).1 (fun k hk e => (h.n ht).1.no h.isp.box (by decide) (by rw [hk, e])), fun hn => by cases hn⟩, (h.n ht).2, ht⟩
theorem LsI.turned_no {W w w' : World} {B : Nat} {p : PS} {vl vn vl' vn' : Value} {sn sn' : Bool} {vL vN : Value} {tN c : Int} (h : LsI W w B p vl vn sn vL vN tN) (hT : p.tn c = false)
    (hP : IsP w' B vl' vn' (p.turn c) sn') (hc : Chg w w' (fun k => k = B)) : LsI W w' B p vl' vn' sn' vL vN tN := by
  have e : p.turn c = p := by unfold PS.turn; rw [if_neg (by simp [hT])]
  rw [e] at hP
  exact ⟨Chg.trans h.kp hc (fun i hi e => by have := h.bn; omega), h.bn, hP, h.fx, hc.owns h.l (fun k hk e => h.l.no h.isp.box (by decide) (by rw [hk, e])), fun hn => ⟨hc.owns (h.n hn).1 (fun k hk e => (h.n hn).1.no h.isp.box (by decide) (by rw [hk, e])), (h.n hn).2⟩⟩
theorem LsI.mr {W w : World} {B : Nat} {p : PS} {vl vn : Value} {sn : Bool} {vL vN : Value} {tN : Int} (h : LsI W w B p vl vn sn vL vN tN) : p.mr 3 = true := by
  have := h.fx.2.2
  simp [PS.mr, this]
set_option maxHeartbeats 4000000 in
set_option maxRecDepth 20000 in
theorem last_walk (W : World) (n : Int) (a : Option Addr) (cap : Nat) (os : List OpV) (hO : OpsIn W a os) :
    Calls Try.prog 3 #[.int .i64 n, .slice a os.length cap] W fun e w' => e = .returned (.bool true) ∧ Kp W w' := by
  have hlen := hO.len
  have HO : Hid (OpsIn W a os) := hO
  clear hO
  go_enter Try.func3, Try.ntmps3
  go_wp2_with fail
  go_at_call 8
  refine (known_any W).mono ?_
  rintro e w1 ⟨rfl, k1⟩
  go_wp2_with fail
  go_at_call 9
  refine (made_any w1 n).mono ?_
  rintro e w2 ⟨B, rfl, hB, hP, k2⟩
  have KI : Hid (LsI W w2 B (mdP n) (.slice none 0 0) (.slice none 0 0) false (.slice none 0 0) (.slice none 0 0) 0) :=
    ⟨k1.trans k2, by have := k1.size; omega, hP, ⟨rfl, rfl, mdP_rd n⟩, OB.nil _, fun h => by cases h⟩
  clear k1 k2 hB hP
  go_wp2_with fail
  go_loopw [7, 8, 9, 10, 11, 12, 13] (fun s7 s8 s9 s10 s11 s12 s13 wr => ∃ (i : Nat) (p : PS) (vl vn : Value) (sn : Bool) (tN : Int), s9 = .bool p.la.th ∧ s10 = .bool p.ne.th ∧ s11 = .int .u64 p.la.tk ∧ s12 = .int .u64 tN ∧ s13 = .int .i64 i ∧ i ≤ os.length ∧ i ≤ 200 ∧ Hid (LsI W wr B p vl vn sn s7 s8 tN)) (fun _ _ _ _ _ _ s13 _ => 200 - nI s13)
  case atStart => exact ⟨0, mdP n, _, _, false, 0, rfl, rfl, rfl, rfl, rfl, by omega, by omega, KI⟩
  case round =>
    obtain ⟨i, p, vl, vn, sn, tN, rfl, rfl, rfl, rfl, rfl, hi, hi2, HI⟩ := hrel
    clear KI
    generalize u7 = vL at *
    generalize u8 = vN at *
    by_cases hlt : i < os.length ∧ i < 200
    · have hz1 : (i : Int) < (os.length : Int) := by omega
      have hz2 : (i : Int) < 200 := by omega
      have hd := HO.out.d i hlt.1
      rcases HO.out.c with e | ⟨b, o, rfl, hcc⟩
      · rw [e] at hlt; simp at hlt
      have hr := range_kp (hcc i hlt.1) HI.out.kp
      have HD : Hid (os[i].data wr) := hd.kp HI.out.kp
      clear hcc hd
      generalize os[i] = ov at hr HD
      obtain ⟨kd, ce, tk, v, bs, th, nt, v1, b1, t1, v2, b2, t2⟩ := ov
      obtain ⟨va, vc, hva⟩ := HD.out.b.vshape
      obtain ⟨va1, vc1, hva1⟩ := HD.out.b1.vshape
      obtain ⟨va2, vc2, hva2⟩ := HD.out.b2.vshape
      simp only at hva hva1 hva2
      subst hva hva1 hva2
      unfold opC at hr
      simp only at hr
      have r0 := hr 0 _ rfl
      have r1 := hr 1 _ rfl
      have r2 := hr 2 _ rfl
      have r3 := hr 3 _ rfl
      have r4 := hr 4 _ rfl
      have r5 := hr 5 _ rfl
      have r6 := hr 6 _ rfl
      have r7 := hr 7 _ rfl
      have r8 := hr 8 _ rfl
      have r9 := hr 9 _ rfl
      simp only [Nat.add_zero] at r0
      clear hr
      go_upto_block 2 with fail
      have hI3 : LsI W (wr.alloc (.cells #[.int .i64 kd, .int .i64 ce, .int .u64 tk, .slice va bs.length vc, .bool th, .bool nt, .slice va1 b1.length vc1, .int .u64 t1, .slice va2 b2.length vc2, .int .u64 t2] 33)) B p vl vn sn vL vN tN := HI.out.alloc _
      have hD3 := HD.out.b.kp (Kp.al wr (.cells #[.int .i64 kd, .int .i64 ce, .int .u64 tk, .slice va bs.length vc, .bool th, .bool nt, .slice va1 b1.length vc1, .int .u64 t1, .slice va2 b2.length vc2, .int .u64 t2] 33))
      have hrow := heap_alloc_new wr (.cells #[.int .i64 kd, .int .i64 ce, .int .u64 tk, .slice va bs.length vc, .bool th, .bool nt, .slice va1 b1.length vc1, .int .u64 t1, .slice va2 b2.length vc2, .int .u64 t2] 33)
      simp only at hD3
      clear r0 r1 r2 r3 r4 r5 r6 r7 r8 r9 HD HI
      generalize hN : wr.heap.size = N at *
      clear hN
      generalize wr.alloc (.cells #[.int .i64 kd, .int .i64 ce, .int .u64 tk, .slice va bs.length vc, .bool th, .bool nt, .slice va1 b1.length vc1, .int .u64 t1, .slice va2 b2.length vc2, .int .u64 t2] 33) = w3 at *
      have HI : Hid (LsI W w3 B p vl vn sn vL vN tN ∧ Bs w3 (.slice va bs.length vc) bs ∧ w3.heap[N]? = some (.cells #[.int .i64 kd, .int .i64 ce, .int .u64 tk, .slice va bs.length vc, .bool th, .bool nt, .slice va1 b1.length vc1, .int .u64 t1, .slice va2 b2.length vc2, .int .u64 t2] 33 (0, 0))) := ⟨hI3, hD3, hrow⟩
      clear hI3 hD3 hrow
      go_cut [7, 8, 9, 10, 11, 12] from 33 to 135 (fun s7 s8 s9 s10 s11 s12 wx => ∃ (p : PS) (vl vn : Value) (sn : Bool) (tN : Int), s9 = .bool p.la.th ∧ s10 = .bool p.ne.th ∧ s11 = .int .u64 p.la.tk ∧ s12 = .int .u64 tN ∧ Hid (LsI W wx B p vl vn sn s7 s8 tN))
      case rest =>
        obtain ⟨p, vl, vn, sn, tN, rfl, rfl, rfl, rfl, HX⟩ := hcut
        clear HI
        generalize u7 = vL at *
        generalize u8 = vN at *
        obtain ⟨aL, cL, rfl⟩ := HX.out.l.shape
        go_wp2_with fail
        go_loopw [18] (fun s18 wz => ∃ k : Nat, s18 = .int .i64 k ∧ k ≤ 2 ∧ Hid (LsI W wz B p vl vn sn (.slice aL p.la.bs.length cL) vN tN)) (fun s18 _ => 2 - nI s18)
        case atStart => exact ⟨0, rfl, by omega, HX⟩
        case round =>
          obtain ⟨k, rfl, hk, HY⟩ := hrel
          clear HX
          by_cases hk2 : k < 2
          · have hkz : (k : Int) < 2 := by omega
            go_wp2_with fail
            go_at_call 12
            refine (read_ok _ B vl vn p sn HY.out.isp 3 HY.out.mr).mono ?_
            rintro e w5 ⟨v5, rfl, o5, k5, _⟩
            obtain ⟨a5, c5, rfl⟩ := o5.shape
            have HZ : Hid (LsI W w5 B p vl vn sn (.slice aL p.la.bs.length cL) vN tN ∧ OB w5 (.slice a5 p.la.bs.length c5) p.la.bs) := ⟨HY.out.chg k5, o5⟩
            clear HY k5 o5
            go_wp2_with fail
            go_at_call 13
            refine (same_any w5 _ _ p.la.bs p.la.bs (HZ.out.2.bs (by have := HZ.out.1.isp.lo.l; have := HZ.out.1.isp.sz; omega)) (HZ.out.1.l.bs (by have := HZ.out.1.isp.lo.l; have := HZ.out.1.isp.sz; omega))).mono ?_
            rintro e w6 ⟨rfl, m6, hm6⟩
            have s1 : decide (p.la.bs = p.la.bs) = true := by simp
            rw [s1]
            have HU : Hid (LsI W w6 B p vl vn sn (.slice aL p.la.bs.length cL) vN tN) := HZ.out.1.chg (by rw [hm6]; exact Kp.drewN _ _)
            have x1 : (p.la.tk != p.la.tk) = false := by simp
            have x2 : (p.la.th != p.la.th) = false := by simp
            clear HZ hm6 s1
            go_wp2_with fail
            exact ⟨⟨k + 1, by go_num, by omega, HU⟩, by simp [nI]; omega⟩
          · have hkz : ¬ (k : Int) < 2 := by omega
            go_wp2_with fail
            exact ⟨⟨i + 1, p, vl, vn, sn, tN, rfl, rfl, rfl, rfl, by go_num, by omega, by omega, HY⟩, by simp [nI]; omega⟩
      case first =>
        have q0 : w3.cell? ⟨N, 0, none⟩ = some (.int .i64 kd) := (cells_at HI.out.2.2 0).1
        have q1 : w3.cell? ⟨N, 1, none⟩ = some (.int .i64 ce) := (cells_at HI.out.2.2 1).1
        have q2 : w3.cell? ⟨N, 2, none⟩ = some (.int .u64 tk) := (cells_at HI.out.2.2 2).1
        have q3 : w3.cell? ⟨N, 3, none⟩ = some (.slice va bs.length vc) := (cells_at HI.out.2.2 3).1
        have HNB : Hid (¬ N = B) := fun e => by
          have h1 := HI.out.2.2
          have h2 := HI.out.1.isp.box
          rw [e, h2] at h1
          simp at h1
        by_cases hk1 : kd = 1
        · subst hk1
          obtain ⟨v', w4, hr, ho, k4, nw⟩ := run_app0 w3 (.slice va bs.length vc) bs HI.out.2.1 26
          obtain ⟨a', c', rfl⟩ := ho.shape
          have q1' := k4.cell q1
          have q2' := k4.cell q2
          have q3' := k4.cell q3
          have HJ : Hid (LsI W w4 B p vl vn sn vL vN tN ∧ OB w4 (.slice a' bs.length c') bs ∧ bs.length ≤ 140737488351232) := ⟨HI.out.1.chg k4, ho, HI.out.2.1.len⟩
          have hbl := HI.out.2.1.len
          clear ho k4 nw HI
          go_upto_region 19 with (first | (at_builtin; refine wpList_append_run _ rfl _ _ 26 26 rfl _ _ (.slice a' bs.length c') w4 rfl rfl hr ?_) | fail)
          clear q0 q1 q2 q3 hr
          go_wp2_with fail
          go_at_call 10
          refine (write_any w4 B vl vn p sn HJ.out.1.isp ce tk _ bs (HJ.out.2.1.bs HJ.out.2.2)).mono ?_
          rintro e w5 ⟨rfl, vn', hP, hC, _⟩
          have q1 := hC.cell' HNB.out q1'
          have q2 := hC.cell' HNB.out q2'
          have q3 := hC.cell' HNB.out q3'
          clear q1' q2' q3'
          have hfx := HJ.out.1.fx
          by_cases hE : p.wE ce bs.length = 0
          · have hJ := HJ.out.1.wrote HJ.out.2.1 hE hP hC
            obtain ⟨h1, h2, h3⟩ := wE_ok.1 hE
            rw [hfx.1] at h1
            rw [hfx.2.1] at h2
            rw [hE]
            have HK : Hid (LsI W w5 B ⟨p.wr, p.sz, p.rd, p.la, ⟨true, bs, tk⟩⟩ vl vn' sn vL (.slice a' bs.length c') tk) := hJ
            subst h1
            have g3 : ((bs.length : Int) % 4 == 0) = true := by simp; omega
            clear HJ hP hC hE h3 hJ hfx
            generalize hn : bs.length = nn at *
            clear hn
            go_wp2_with fail
            go_meet
            case rel => exact ⟨⟨p.wr, p.sz, p.rd, p.la, ⟨true, bs, tk⟩⟩, vl, vn', sn, tk, rfl, rfl, rfl, rfl, HK⟩
          · have HK : Hid (LsI W w5 B p vl vn' sn vL vN tN) := HJ.out.1.wrote_no hE hP hC
            have gE : (p.wE ce bs.length == 0) = false := by simp [hE]
            have hwe := hE
            rw [wE_ok, hfx.1, hfx.2.1] at hwe
            clear HJ hP hC hE hfx
            generalize p.wE ce bs.length = we at *
            generalize hn : bs.length = nn at *
            clear hn
            by_cases c1 : ce = 1
            · subst c1
              by_cases c2 : (nn : Int) ≤ 16
              · have g3 : ((nn : Int) % 4 == 0) = false := by simp; omega
                clear hwe
                go_wp2_with fail
                go_meet
                case rel => exact ⟨p, vl, vn', sn, tN, rfl, rfl, rfl, rfl, HK⟩
              · clear hwe
                go_wp2_with fail
                go_meet
                case rel => exact ⟨p, vl, vn', sn, tN, rfl, rfl, rfl, rfl, HK⟩
            · have g2 : (ce == 1) = false := by simp [c1]
              clear hwe c1
              go_wp2_with fail
              go_meet
              case rel => exact ⟨p, vl, vn', sn, tN, rfl, rfl, rfl, rfl, HK⟩
        · have g1 : (kd == 1) = false := by simp [hk1]
          by_cases hk3 : kd = 3
          · subst hk3
            clear g1 hk1 q0 q2 q3
            have q0 : w3.cell? ⟨N, 0, none⟩ = some (.int .i64 3) := (cells_at HI.out.2.2 0).1
            go_wp2_with fail
            go_at_call 11
            refine (turn_any w3 B vl vn p sn HI.out.1.isp ce).mono ?_
            rintro e w5 ⟨rfl, vl', vn', sn', hP, hC, _⟩
            have q1' := hC.cell' HNB.out q1
            clear q0 q1
            have hfx := HI.out.1.fx
            cases hT : p.tn ce with
            | true =>
              obtain ⟨hJ, h1, h2⟩ := HI.out.1.turned hT hP hC
              have h3 : ce = p.wr := by simp [PS.tn] at hT; exact hT.1
              rw [hfx.1] at h3
              have h4 : p.tN ce = p.ne.bs.length := by unfold PS.tN; rw [if_pos hT]
              rw [h4]
              obtain ⟨aN, cN, rfl⟩ := ((HI.out.1.n h2).1).shape
              have HK : Hid (LsI W w5 B ⟨p.wr, p.sz, p.rd, p.ne, Ms.no⟩ vl' vn' sn' (.slice aN p.ne.bs.length cN) (.slice aN p.ne.bs.length cN) tN ∧ tN = p.ne.tk ∧ true = p.ne.th) := ⟨hJ, h1, h2.symm⟩
              subst h3
              rw [h2]
              have g9 : ((p.ne.bs.length : Int) != (p.ne.bs.length : Int)) = false := by simp
              clear HI hP hC hT hJ h1 h2 h4 hfx
              go_wp2_with fail
              go_meet
              case rel => exact ⟨⟨p.wr, p.sz, p.rd, p.ne, Ms.no⟩, vl', vn', sn', tN, by rw [← HK.out.2.2], rfl, by rw [HK.out.2.1], rfl, HK.out.1⟩
            | false =>
              have HK : Hid (LsI W w5 B p vl' vn' sn' vL vN tN) := HI.out.1.turned_no hT hP hC
              have h4 : p.tN ce = 0 := by unfold PS.tN; rw [if_neg (by simp [hT])]
              rw [h4]
              clear HI hP hC
              by_cases c1 : ce = 1
              · have h5 : p.ne.th = false := by simpa [PS.tn, hfx.1, c1] using hT
                subst c1
                clear hT hfx
                have HK5 : Hid (p.ne.th = false) := h5
                rw [h5]
                clear h5
                go_wp2_with fail
                go_meet
                case rel => exact ⟨p, vl', vn', sn', tN, rfl, by rw [HK5.out], rfl, rfl, HK⟩
              · have g2 : (ce == 1) = false := by simp [c1]
                clear hT hfx c1
                go_wp2_with fail
                go_meet
                case rel => exact ⟨p, vl', vn', sn', tN, rfl, rfl, rfl, rfl, HK⟩
          · have g3 : (kd == 3) = false := by simp [hk3]
            have HJ : Hid (LsI W w3 B p vl vn sn vL vN tN) := HI.out.1
            clear HI hk1 hk3
            go_wp2_with fail
            go_meet
            case rel => exact ⟨p, vl, vn, sn, tN, rfl, rfl, rfl, rfl, HJ⟩
    · have hz : (decide ((i : Int) < (os.length : Int)) && decide ((i : Int) < 200)) = false := by
        by_cases h1 : i < os.length
        · have : ¬ i < 200 := fun h => hlt ⟨h1, h⟩
          simp; omega
        · simp; omega
      have HJ : Hid (Kp W wr) := HI.out.kp
      by_cases h1 : i < os.length
      · have h2 : ¬ (i : Int) < 200 := fun h => hlt ⟨h1, by omega⟩
        have h1' : (i : Int) < (os.length : Int) := by omega
        clear hz HI
        go_wp2_with fail
        go_ret
        exact ⟨rfl, HJ.out⟩
      · have h1' : ¬ (i : Int) < (os.length : Int) := by omega
        clear hz HI
        go_wp2_with fail
        go_ret
        exact ⟨rfl, HJ.out⟩
end Go.Proofs.Ytibpbemenjgncaa
