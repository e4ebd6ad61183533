import Derived.Test.YtghiffpolacmiabDoorUb
namespace Go.Proofs.YtghiffpolacmiabDoor
open Go.ChangeShapes Go.WideShapes Go.ChangeAt Go.RowKit
set_option linter.unusedVariables false

theorem d_add (w : World) (hg : Gt w) (B : Nat) (s : St) (h : IsT w B s) (ho : s.ok) :
    Calls Tryd.prog 31 #[.pointer (some ⟨B, 0, none⟩)] w fun e w' => Vo w B (s.setD ((s.va + s.oth) % 4294967296)) e w' := by
  have hA := fun w h => a_any w B s h ho
  have hB := fun w h => b_any w B s h ho
  have hO := fun w g h => other_any w g B s h ho
  have hN := fun w h => n_any w B s h
  have hL := fun w a b => lessSigned_any w a b
  have hS := fun w h v => set_any w B s h ho v
  have hW := fun w h v => setWhether_any w B s h ho v
  have hJ := fun w h v => goIf_any w B s h v
  have K := Kp.refl w
  have ra := ho.ra
  have rb := ho.rb
  have ro := ho.ro
  have rn := vn_r s
  generalize s.va = va at *
  generalize s.vb = vb at *
  generalize s.oth = vo at *
  generalize s.vn = vn at *
  go_enter Tryd.func31, Tryd.ntmps31
  go_wp2_with (first
    | (go_at_call 73; refine (hA _ h).mono ?_; rintro e w1 ⟨rfl, k1⟩; have h := h.kp k1; have hg := hg.keep k1; have K := Kp.trans K k1)
    | (go_at_call 75; refine (hB _ h).mono ?_; rintro e w1 ⟨rfl, k1⟩; have h := h.kp k1; have hg := hg.keep k1; have K := Kp.trans K k1)
    | (go_at_call 74; refine (hO _ hg h).mono ?_; rintro e w1 ⟨rfl, k1⟩; have h := h.kp k1; have hg := hg.keep k1; have K := Kp.trans K k1)
    | (go_at_call 78; refine (hN _ h).mono ?_; rintro e w1 ⟨rfl, k1⟩; have h := h.kp k1; have hg := hg.keep k1; have K := Kp.trans K k1)
    | (go_at_call 77; refine (hL _ _ _).mono ?_; rintro e w1 ⟨rfl, k1⟩; have h := h.kp k1; have hg := hg.keep k1; have K := Kp.trans K k1)
    | (go_at_call 72; refine (hS _ h _).mono ?_; rintro e w1 ⟨rfl, i9, c9⟩)
    | (go_at_call 76; refine (hW _ h _).mono ?_; rintro e w1 ⟨rfl, i9, c9⟩)
    | (go_at_call 86; refine (hJ _ h _).mono ?_; rintro e w1 ⟨rfl, i9, c9⟩))
  first | go_end0 | refine bodyPost_ret (results_none rfl _ _ _) rfl ?_
  exact ⟨rfl, i9, Chg.trans (Kp.any K) c9 (fun _ _ e => e)⟩

theorem d_sub (w : World) (hg : Gt w) (B : Nat) (s : St) (h : IsT w B s) (ho : s.ok) :
    Calls Tryd.prog 32 #[.pointer (some ⟨B, 0, none⟩)] w fun e w' => Vo w B (s.setD ((s.va - s.vb) % 4294967296)) e w' := by
  have hA := fun w h => a_any w B s h ho
  have hB := fun w h => b_any w B s h ho
  have hO := fun w g h => other_any w g B s h ho
  have hN := fun w h => n_any w B s h
  have hL := fun w a b => lessSigned_any w a b
  have hS := fun w h v => set_any w B s h ho v
  have hW := fun w h v => setWhether_any w B s h ho v
  have hJ := fun w h v => goIf_any w B s h v
  have K := Kp.refl w
  have ra := ho.ra
  have rb := ho.rb
  have ro := ho.ro
  have rn := vn_r s
  generalize s.va = va at *
  generalize s.vb = vb at *
  generalize s.oth = vo at *
  generalize s.vn = vn at *
  go_enter Tryd.func32, Tryd.ntmps32
  go_wp2_with (first
    | (go_at_call 73; refine (hA _ h).mono ?_; rintro e w1 ⟨rfl, k1⟩; have h := h.kp k1; have hg := hg.keep k1; have K := Kp.trans K k1)
    | (go_at_call 75; refine (hB _ h).mono ?_; rintro e w1 ⟨rfl, k1⟩; have h := h.kp k1; have hg := hg.keep k1; have K := Kp.trans K k1)
    | (go_at_call 74; refine (hO _ hg h).mono ?_; rintro e w1 ⟨rfl, k1⟩; have h := h.kp k1; have hg := hg.keep k1; have K := Kp.trans K k1)
    | (go_at_call 78; refine (hN _ h).mono ?_; rintro e w1 ⟨rfl, k1⟩; have h := h.kp k1; have hg := hg.keep k1; have K := Kp.trans K k1)
    | (go_at_call 77; refine (hL _ _ _).mono ?_; rintro e w1 ⟨rfl, k1⟩; have h := h.kp k1; have hg := hg.keep k1; have K := Kp.trans K k1)
    | (go_at_call 72; refine (hS _ h _).mono ?_; rintro e w1 ⟨rfl, i9, c9⟩)
    | (go_at_call 76; refine (hW _ h _).mono ?_; rintro e w1 ⟨rfl, i9, c9⟩)
    | (go_at_call 86; refine (hJ _ h _).mono ?_; rintro e w1 ⟨rfl, i9, c9⟩))
  first | go_end0 | refine bodyPost_ret (results_none rfl _ _ _) rfl ?_
  exact ⟨rfl, i9, Chg.trans (Kp.any K) c9 (fun _ _ e => e)⟩

theorem d_mul (w : World) (hg : Gt w) (B : Nat) (s : St) (h : IsT w B s) (ho : s.ok) :
    Calls Tryd.prog 33 #[.pointer (some ⟨B, 0, none⟩)] w fun e w' => Vo w B (s.setD (s.va * s.vb % 4294967296)) e w' := by
  have hA := fun w h => a_any w B s h ho
  have hB := fun w h => b_any w B s h ho
  have hO := fun w g h => other_any w g B s h ho
  have hN := fun w h => n_any w B s h
  have hL := fun w a b => lessSigned_any w a b
  have hS := fun w h v => set_any w B s h ho v
  have hW := fun w h v => setWhether_any w B s h ho v
  have hJ := fun w h v => goIf_any w B s h v
  have K := Kp.refl w
  have ra := ho.ra
  have rb := ho.rb
  have ro := ho.ro
  have rn := vn_r s
  generalize s.va = va at *
  generalize s.vb = vb at *
  generalize s.oth = vo at *
  generalize s.vn = vn at *
  go_enter Tryd.func33, Tryd.ntmps33
  go_wp2_with (first
    | (go_at_call 73; refine (hA _ h).mono ?_; rintro e w1 ⟨rfl, k1⟩; have h := h.kp k1; have hg := hg.keep k1; have K := Kp.trans K k1)
    | (go_at_call 75; refine (hB _ h).mono ?_; rintro e w1 ⟨rfl, k1⟩; have h := h.kp k1; have hg := hg.keep k1; have K := Kp.trans K k1)
    | (go_at_call 74; refine (hO _ hg h).mono ?_; rintro e w1 ⟨rfl, k1⟩; have h := h.kp k1; have hg := hg.keep k1; have K := Kp.trans K k1)
    | (go_at_call 78; refine (hN _ h).mono ?_; rintro e w1 ⟨rfl, k1⟩; have h := h.kp k1; have hg := hg.keep k1; have K := Kp.trans K k1)
    | (go_at_call 77; refine (hL _ _ _).mono ?_; rintro e w1 ⟨rfl, k1⟩; have h := h.kp k1; have hg := hg.keep k1; have K := Kp.trans K k1)
    | (go_at_call 72; refine (hS _ h _).mono ?_; rintro e w1 ⟨rfl, i9, c9⟩)
    | (go_at_call 76; refine (hW _ h _).mono ?_; rintro e w1 ⟨rfl, i9, c9⟩)
    | (go_at_call 86; refine (hJ _ h _).mono ?_; rintro e w1 ⟨rfl, i9, c9⟩))
  first | go_end0 | refine bodyPost_ret (results_none rfl _ _ _) rfl ?_
  exact ⟨rfl, i9, Chg.trans (Kp.any K) c9 (fun _ _ e => e)⟩

theorem d_and (w : World) (hg : Gt w) (B : Nat) (s : St) (h : IsT w B s) (ho : s.ok) :
    Calls Tryd.prog 36 #[.pointer (some ⟨B, 0, none⟩)] w fun e w' => Vo w B (s.setD (bits .and .u32 s.va s.oth)) e w' := by
  have hA := fun w h => a_any w B s h ho
  have hB := fun w h => b_any w B s h ho
  have hO := fun w g h => other_any w g B s h ho
  have hN := fun w h => n_any w B s h
  have hL := fun w a b => lessSigned_any w a b
  have hS := fun w h v => set_any w B s h ho v
  have hW := fun w h v => setWhether_any w B s h ho v
  have hJ := fun w h v => goIf_any w B s h v
  have K := Kp.refl w
  have ra := ho.ra
  have rb := ho.rb
  have ro := ho.ro
  have rn := vn_r s
  generalize s.va = va at *
  generalize s.vb = vb at *
  generalize s.oth = vo at *
  generalize s.vn = vn at *
  go_enter Tryd.func36, Tryd.ntmps36
  go_wp2_with (first
    | (go_at_call 73; refine (hA _ h).mono ?_; rintro e w1 ⟨rfl, k1⟩; have h := h.kp k1; have hg := hg.keep k1; have K := Kp.trans K k1)
    | (go_at_call 75; refine (hB _ h).mono ?_; rintro e w1 ⟨rfl, k1⟩; have h := h.kp k1; have hg := hg.keep k1; have K := Kp.trans K k1)
    | (go_at_call 74; refine (hO _ hg h).mono ?_; rintro e w1 ⟨rfl, k1⟩; have h := h.kp k1; have hg := hg.keep k1; have K := Kp.trans K k1)
    | (go_at_call 78; refine (hN _ h).mono ?_; rintro e w1 ⟨rfl, k1⟩; have h := h.kp k1; have hg := hg.keep k1; have K := Kp.trans K k1)
    | (go_at_call 77; refine (hL _ _ _).mono ?_; rintro e w1 ⟨rfl, k1⟩; have h := h.kp k1; have hg := hg.keep k1; have K := Kp.trans K k1)
    | (go_at_call 72; refine (hS _ h _).mono ?_; rintro e w1 ⟨rfl, i9, c9⟩)
    | (go_at_call 76; refine (hW _ h _).mono ?_; rintro e w1 ⟨rfl, i9, c9⟩)
    | (go_at_call 86; refine (hJ _ h _).mono ?_; rintro e w1 ⟨rfl, i9, c9⟩))
  first | go_end0 | refine bodyPost_ret (results_none rfl _ _ _) rfl ?_
  exact ⟨rfl, i9, Chg.trans (Kp.any K) c9 (fun _ _ e => e)⟩

theorem d_or (w : World) (hg : Gt w) (B : Nat) (s : St) (h : IsT w B s) (ho : s.ok) :
    Calls Tryd.prog 37 #[.pointer (some ⟨B, 0, none⟩)] w fun e w' => Vo w B (s.setD (bits .or .u32 s.va s.oth)) e w' := by
  have hA := fun w h => a_any w B s h ho
  have hB := fun w h => b_any w B s h ho
  have hO := fun w g h => other_any w g B s h ho
  have hN := fun w h => n_any w B s h
  have hL := fun w a b => lessSigned_any w a b
  have hS := fun w h v => set_any w B s h ho v
  have hW := fun w h v => setWhether_any w B s h ho v
  have hJ := fun w h v => goIf_any w B s h v
  have K := Kp.refl w
  have ra := ho.ra
  have rb := ho.rb
  have ro := ho.ro
  have rn := vn_r s
  generalize s.va = va at *
  generalize s.vb = vb at *
  generalize s.oth = vo at *
  generalize s.vn = vn at *
  go_enter Tryd.func37, Tryd.ntmps37
  go_wp2_with (first
    | (go_at_call 73; refine (hA _ h).mono ?_; rintro e w1 ⟨rfl, k1⟩; have h := h.kp k1; have hg := hg.keep k1; have K := Kp.trans K k1)
    | (go_at_call 75; refine (hB _ h).mono ?_; rintro e w1 ⟨rfl, k1⟩; have h := h.kp k1; have hg := hg.keep k1; have K := Kp.trans K k1)
    | (go_at_call 74; refine (hO _ hg h).mono ?_; rintro e w1 ⟨rfl, k1⟩; have h := h.kp k1; have hg := hg.keep k1; have K := Kp.trans K k1)
    | (go_at_call 78; refine (hN _ h).mono ?_; rintro e w1 ⟨rfl, k1⟩; have h := h.kp k1; have hg := hg.keep k1; have K := Kp.trans K k1)
    | (go_at_call 77; refine (hL _ _ _).mono ?_; rintro e w1 ⟨rfl, k1⟩; have h := h.kp k1; have hg := hg.keep k1; have K := Kp.trans K k1)
    | (go_at_call 72; refine (hS _ h _).mono ?_; rintro e w1 ⟨rfl, i9, c9⟩)
    | (go_at_call 76; refine (hW _ h _).mono ?_; rintro e w1 ⟨rfl, i9, c9⟩)
    | (go_at_call 86; refine (hJ _ h _).mono ?_; rintro e w1 ⟨rfl, i9, c9⟩))
  first | go_end0 | refine bodyPost_ret (results_none rfl _ _ _) rfl ?_
  exact ⟨rfl, i9, Chg.trans (Kp.any K) c9 (fun _ _ e => e)⟩

theorem d_xor (w : World) (hg : Gt w) (B : Nat) (s : St) (h : IsT w B s) (ho : s.ok) :
    Calls Tryd.prog 38 #[.pointer (some ⟨B, 0, none⟩)] w fun e w' => Vo w B (s.setD (bits .xor .u32 s.va s.oth)) e w' := by
  have hA := fun w h => a_any w B s h ho
  have hB := fun w h => b_any w B s h ho
  have hO := fun w g h => other_any w g B s h ho
  have hN := fun w h => n_any w B s h
  have hL := fun w a b => lessSigned_any w a b
  have hS := fun w h v => set_any w B s h ho v
  have hW := fun w h v => setWhether_any w B s h ho v
  have hJ := fun w h v => goIf_any w B s h v
  have K := Kp.refl w
  have ra := ho.ra
  have rb := ho.rb
  have ro := ho.ro
  have rn := vn_r s
  generalize s.va = va at *
  generalize s.vb = vb at *
  generalize s.oth = vo at *
  generalize s.vn = vn at *
  go_enter Tryd.func38, Tryd.ntmps38
  go_wp2_with (first
    | (go_at_call 73; refine (hA _ h).mono ?_; rintro e w1 ⟨rfl, k1⟩; have h := h.kp k1; have hg := hg.keep k1; have K := Kp.trans K k1)
    | (go_at_call 75; refine (hB _ h).mono ?_; rintro e w1 ⟨rfl, k1⟩; have h := h.kp k1; have hg := hg.keep k1; have K := Kp.trans K k1)
    | (go_at_call 74; refine (hO _ hg h).mono ?_; rintro e w1 ⟨rfl, k1⟩; have h := h.kp k1; have hg := hg.keep k1; have K := Kp.trans K k1)
    | (go_at_call 78; refine (hN _ h).mono ?_; rintro e w1 ⟨rfl, k1⟩; have h := h.kp k1; have hg := hg.keep k1; have K := Kp.trans K k1)
    | (go_at_call 77; refine (hL _ _ _).mono ?_; rintro e w1 ⟨rfl, k1⟩; have h := h.kp k1; have hg := hg.keep k1; have K := Kp.trans K k1)
    | (go_at_call 72; refine (hS _ h _).mono ?_; rintro e w1 ⟨rfl, i9, c9⟩)
    | (go_at_call 76; refine (hW _ h _).mono ?_; rintro e w1 ⟨rfl, i9, c9⟩)
    | (go_at_call 86; refine (hJ _ h _).mono ?_; rintro e w1 ⟨rfl, i9, c9⟩))
  first | go_end0 | refine bodyPost_ret (results_none rfl _ _ _) rfl ?_
  exact ⟨rfl, i9, Chg.trans (Kp.any K) c9 (fun _ _ e => e)⟩

theorem d_shl (w : World) (hg : Gt w) (B : Nat) (s : St) (h : IsT w B s) (ho : s.ok) :
    Calls Tryd.prog 39 #[.pointer (some ⟨B, 0, none⟩)] w fun e w' => Vo w B (s.setD (s.va * 2 ^ (s.oth % 32).toNat % 4294967296)) e w' := by
  have hA := fun w h => a_any w B s h ho
  have hB := fun w h => b_any w B s h ho
  have hO := fun w g h => other_any w g B s h ho
  have hN := fun w h => n_any w B s h
  have hL := fun w a b => lessSigned_any w a b
  have hS := fun w h v => set_any w B s h ho v
  have hW := fun w h v => setWhether_any w B s h ho v
  have hJ := fun w h v => goIf_any w B s h v
  have K := Kp.refl w
  have ra := ho.ra
  have rb := ho.rb
  have ro := ho.ro
  have rn := vn_r s
  generalize s.va = va at *
  generalize s.vb = vb at *
  generalize s.oth = vo at *
  generalize s.vn = vn at *
  go_enter Tryd.func39, Tryd.ntmps39
  go_wp2_with (first
    | (go_at_call 73; refine (hA _ h).mono ?_; rintro e w1 ⟨rfl, k1⟩; have h := h.kp k1; have hg := hg.keep k1; have K := Kp.trans K k1)
    | (go_at_call 75; refine (hB _ h).mono ?_; rintro e w1 ⟨rfl, k1⟩; have h := h.kp k1; have hg := hg.keep k1; have K := Kp.trans K k1)
    | (go_at_call 74; refine (hO _ hg h).mono ?_; rintro e w1 ⟨rfl, k1⟩; have h := h.kp k1; have hg := hg.keep k1; have K := Kp.trans K k1)
    | (go_at_call 78; refine (hN _ h).mono ?_; rintro e w1 ⟨rfl, k1⟩; have h := h.kp k1; have hg := hg.keep k1; have K := Kp.trans K k1)
    | (go_at_call 77; refine (hL _ _ _).mono ?_; rintro e w1 ⟨rfl, k1⟩; have h := h.kp k1; have hg := hg.keep k1; have K := Kp.trans K k1)
    | (go_at_call 72; refine (hS _ h _).mono ?_; rintro e w1 ⟨rfl, i9, c9⟩)
    | (go_at_call 76; refine (hW _ h _).mono ?_; rintro e w1 ⟨rfl, i9, c9⟩)
    | (go_at_call 86; refine (hJ _ h _).mono ?_; rintro e w1 ⟨rfl, i9, c9⟩))
  first | go_end0 | refine bodyPost_ret (results_none rfl _ _ _) rfl ?_
  exact ⟨rfl, i9, Chg.trans (Kp.any K) c9 (fun _ _ e => e)⟩

theorem d_shr (w : World) (hg : Gt w) (B : Nat) (s : St) (h : IsT w B s) (ho : s.ok) :
    Calls Tryd.prog 40 #[.pointer (some ⟨B, 0, none⟩)] w fun e w' => Vo w B (s.setD (s.va / 2 ^ (s.oth % 32).toNat)) e w' := by
  have hA := fun w h => a_any w B s h ho
  have hB := fun w h => b_any w B s h ho
  have hO := fun w g h => other_any w g B s h ho
  have hN := fun w h => n_any w B s h
  have hL := fun w a b => lessSigned_any w a b
  have hS := fun w h v => set_any w B s h ho v
  have hW := fun w h v => setWhether_any w B s h ho v
  have hJ := fun w h v => goIf_any w B s h v
  have K := Kp.refl w
  have ra := ho.ra
  have rb := ho.rb
  have ro := ho.ro
  have rn := vn_r s
  generalize s.va = va at *
  generalize s.vb = vb at *
  generalize s.oth = vo at *
  generalize s.vn = vn at *
  go_enter Tryd.func40, Tryd.ntmps40
  go_wp2_with (first
    | (go_at_call 73; refine (hA _ h).mono ?_; rintro e w1 ⟨rfl, k1⟩; have h := h.kp k1; have hg := hg.keep k1; have K := Kp.trans K k1)
    | (go_at_call 75; refine (hB _ h).mono ?_; rintro e w1 ⟨rfl, k1⟩; have h := h.kp k1; have hg := hg.keep k1; have K := Kp.trans K k1)
    | (go_at_call 74; refine (hO _ hg h).mono ?_; rintro e w1 ⟨rfl, k1⟩; have h := h.kp k1; have hg := hg.keep k1; have K := Kp.trans K k1)
    | (go_at_call 78; refine (hN _ h).mono ?_; rintro e w1 ⟨rfl, k1⟩; have h := h.kp k1; have hg := hg.keep k1; have K := Kp.trans K k1)
    | (go_at_call 77; refine (hL _ _ _).mono ?_; rintro e w1 ⟨rfl, k1⟩; have h := h.kp k1; have hg := hg.keep k1; have K := Kp.trans K k1)
    | (go_at_call 72; refine (hS _ h _).mono ?_; rintro e w1 ⟨rfl, i9, c9⟩)
    | (go_at_call 76; refine (hW _ h _).mono ?_; rintro e w1 ⟨rfl, i9, c9⟩)
    | (go_at_call 86; refine (hJ _ h _).mono ?_; rintro e w1 ⟨rfl, i9, c9⟩))
  first | go_end0 | refine bodyPost_ret (results_none rfl _ _ _) rfl ?_
  exact ⟨rfl, i9, Chg.trans (Kp.any K) c9 (fun _ _ e => e)⟩

theorem d_sar (w : World) (hg : Gt w) (B : Nat) (s : St) (h : IsT w B s) (ho : s.ok) :
    Calls Tryd.prog 41 #[.pointer (some ⟨B, 0, none⟩)] w fun e w' => Vo w B (s.setD (wrap32 s.va / 2 ^ (s.oth % 32).toNat % 4294967296)) e w' := by
  have hA := fun w h => a_any w B s h ho
  have hB := fun w h => b_any w B s h ho
  have hO := fun w g h => other_any w g B s h ho
  have hN := fun w h => n_any w B s h
  have hL := fun w a b => lessSigned_any w a b
  have hS := fun w h v => set_any w B s h ho v
  have hW := fun w h v => setWhether_any w B s h ho v
  have hJ := fun w h v => goIf_any w B s h v
  have K := Kp.refl w
  have ra := ho.ra
  have rb := ho.rb
  have ro := ho.ro
  have rn := vn_r s
  generalize s.va = va at *
  generalize s.vb = vb at *
  generalize s.oth = vo at *
  generalize s.vn = vn at *
  go_enter Tryd.func41, Tryd.ntmps41
  go_wp2_with (first
    | (go_at_call 73; refine (hA _ h).mono ?_; rintro e w1 ⟨rfl, k1⟩; have h := h.kp k1; have hg := hg.keep k1; have K := Kp.trans K k1)
    | (go_at_call 75; refine (hB _ h).mono ?_; rintro e w1 ⟨rfl, k1⟩; have h := h.kp k1; have hg := hg.keep k1; have K := Kp.trans K k1)
    | (go_at_call 74; refine (hO _ hg h).mono ?_; rintro e w1 ⟨rfl, k1⟩; have h := h.kp k1; have hg := hg.keep k1; have K := Kp.trans K k1)
    | (go_at_call 78; refine (hN _ h).mono ?_; rintro e w1 ⟨rfl, k1⟩; have h := h.kp k1; have hg := hg.keep k1; have K := Kp.trans K k1)
    | (go_at_call 77; refine (hL _ _ _).mono ?_; rintro e w1 ⟨rfl, k1⟩; have h := h.kp k1; have hg := hg.keep k1; have K := Kp.trans K k1)
    | (go_at_call 72; refine (hS _ h _).mono ?_; rintro e w1 ⟨rfl, i9, c9⟩)
    | (go_at_call 76; refine (hW _ h _).mono ?_; rintro e w1 ⟨rfl, i9, c9⟩)
    | (go_at_call 86; refine (hJ _ h _).mono ?_; rintro e w1 ⟨rfl, i9, c9⟩))
  first | go_end0 | refine bodyPost_ret (results_none rfl _ _ _) rfl ?_
  exact ⟨rfl, i9, Chg.trans (Kp.any K) c9 (fun _ _ e => e)⟩

theorem d_slt (w : World) (hg : Gt w) (B : Nat) (s : St) (h : IsT w B s) (ho : s.ok) :
    Calls Tryd.prog 42 #[.pointer (some ⟨B, 0, none⟩)] w fun e w' => Vo w B (s.setD ((decide (wrap32 s.va < wrap32 s.oth)).toInt)) e w' := by
  have hA := fun w h => a_any w B s h ho
  have hB := fun w h => b_any w B s h ho
  have hO := fun w g h => other_any w g B s h ho
  have hN := fun w h => n_any w B s h
  have hL := fun w a b => lessSigned_any w a b
  have hS := fun w h v => set_any w B s h ho v
  have hW := fun w h v => setWhether_any w B s h ho v
  have hJ := fun w h v => goIf_any w B s h v
  have K := Kp.refl w
  have ra := ho.ra
  have rb := ho.rb
  have ro := ho.ro
  have rn := vn_r s
  generalize s.va = va at *
  generalize s.vb = vb at *
  generalize s.oth = vo at *
  generalize s.vn = vn at *
  go_enter Tryd.func42, Tryd.ntmps42
  go_wp2_with (first
    | (go_at_call 73; refine (hA _ h).mono ?_; rintro e w1 ⟨rfl, k1⟩; have h := h.kp k1; have hg := hg.keep k1; have K := Kp.trans K k1)
    | (go_at_call 75; refine (hB _ h).mono ?_; rintro e w1 ⟨rfl, k1⟩; have h := h.kp k1; have hg := hg.keep k1; have K := Kp.trans K k1)
    | (go_at_call 74; refine (hO _ hg h).mono ?_; rintro e w1 ⟨rfl, k1⟩; have h := h.kp k1; have hg := hg.keep k1; have K := Kp.trans K k1)
    | (go_at_call 78; refine (hN _ h).mono ?_; rintro e w1 ⟨rfl, k1⟩; have h := h.kp k1; have hg := hg.keep k1; have K := Kp.trans K k1)
    | (go_at_call 77; refine (hL _ _ _).mono ?_; rintro e w1 ⟨rfl, k1⟩; have h := h.kp k1; have hg := hg.keep k1; have K := Kp.trans K k1)
    | (go_at_call 72; refine (hS _ h _).mono ?_; rintro e w1 ⟨rfl, i9, c9⟩)
    | (go_at_call 76; refine (hW _ h _).mono ?_; rintro e w1 ⟨rfl, i9, c9⟩)
    | (go_at_call 86; refine (hJ _ h _).mono ?_; rintro e w1 ⟨rfl, i9, c9⟩))
  first | go_end0 | refine bodyPost_ret (results_none rfl _ _ _) rfl ?_
  exact ⟨rfl, i9, Chg.trans (Kp.any K) c9 (fun _ _ e => e)⟩

theorem d_sltu (w : World) (hg : Gt w) (B : Nat) (s : St) (h : IsT w B s) (ho : s.ok) :
    Calls Tryd.prog 43 #[.pointer (some ⟨B, 0, none⟩)] w fun e w' => Vo w B (s.setD ((decide (s.va < s.oth)).toInt)) e w' := by
  have hA := fun w h => a_any w B s h ho
  have hB := fun w h => b_any w B s h ho
  have hO := fun w g h => other_any w g B s h ho
  have hN := fun w h => n_any w B s h
  have hL := fun w a b => lessSigned_any w a b
  have hS := fun w h v => set_any w B s h ho v
  have hW := fun w h v => setWhether_any w B s h ho v
  have hJ := fun w h v => goIf_any w B s h v
  have K := Kp.refl w
  have ra := ho.ra
  have rb := ho.rb
  have ro := ho.ro
  have rn := vn_r s
  generalize s.va = va at *
  generalize s.vb = vb at *
  generalize s.oth = vo at *
  generalize s.vn = vn at *
  go_enter Tryd.func43, Tryd.ntmps43
  go_wp2_with (first
    | (go_at_call 73; refine (hA _ h).mono ?_; rintro e w1 ⟨rfl, k1⟩; have h := h.kp k1; have hg := hg.keep k1; have K := Kp.trans K k1)
    | (go_at_call 75; refine (hB _ h).mono ?_; rintro e w1 ⟨rfl, k1⟩; have h := h.kp k1; have hg := hg.keep k1; have K := Kp.trans K k1)
    | (go_at_call 74; refine (hO _ hg h).mono ?_; rintro e w1 ⟨rfl, k1⟩; have h := h.kp k1; have hg := hg.keep k1; have K := Kp.trans K k1)
    | (go_at_call 78; refine (hN _ h).mono ?_; rintro e w1 ⟨rfl, k1⟩; have h := h.kp k1; have hg := hg.keep k1; have K := Kp.trans K k1)
    | (go_at_call 77; refine (hL _ _ _).mono ?_; rintro e w1 ⟨rfl, k1⟩; have h := h.kp k1; have hg := hg.keep k1; have K := Kp.trans K k1)
    | (go_at_call 72; refine (hS _ h _).mono ?_; rintro e w1 ⟨rfl, i9, c9⟩)
    | (go_at_call 76; refine (hW _ h _).mono ?_; rintro e w1 ⟨rfl, i9, c9⟩)
    | (go_at_call 86; refine (hJ _ h _).mono ?_; rintro e w1 ⟨rfl, i9, c9⟩))
  first | go_end0 | refine bodyPost_ret (results_none rfl _ _ _) rfl ?_
  exact ⟨rfl, i9, Chg.trans (Kp.any K) c9 (fun _ _ e => e)⟩

theorem d_lui (w : World) (hg : Gt w) (B : Nat) (s : St) (h : IsT w B s) (ho : s.ok) :
    Calls Tryd.prog 44 #[.pointer (some ⟨B, 0, none⟩)] w fun e w' => Vo w B (s.setD (s.vn * 16384 % 4294967296)) e w' := by
  have hA := fun w h => a_any w B s h ho
  have hB := fun w h => b_any w B s h ho
  have hO := fun w g h => other_any w g B s h ho
  have hN := fun w h => n_any w B s h
  have hL := fun w a b => lessSigned_any w a b
  have hS := fun w h v => set_any w B s h ho v
  have hW := fun w h v => setWhether_any w B s h ho v
  have hJ := fun w h v => goIf_any w B s h v
  have K := Kp.refl w
  have ra := ho.ra
  have rb := ho.rb
  have ro := ho.ro
  have rn := vn_r s
  generalize s.va = va at *
  generalize s.vb = vb at *
  generalize s.oth = vo at *
  generalize s.vn = vn at *
  go_enter Tryd.func44, Tryd.ntmps44
  go_wp2_with (first
    | (go_at_call 73; refine (hA _ h).mono ?_; rintro e w1 ⟨rfl, k1⟩; have h := h.kp k1; have hg := hg.keep k1; have K := Kp.trans K k1)
    | (go_at_call 75; refine (hB _ h).mono ?_; rintro e w1 ⟨rfl, k1⟩; have h := h.kp k1; have hg := hg.keep k1; have K := Kp.trans K k1)
    | (go_at_call 74; refine (hO _ hg h).mono ?_; rintro e w1 ⟨rfl, k1⟩; have h := h.kp k1; have hg := hg.keep k1; have K := Kp.trans K k1)
    | (go_at_call 78; refine (hN _ h).mono ?_; rintro e w1 ⟨rfl, k1⟩; have h := h.kp k1; have hg := hg.keep k1; have K := Kp.trans K k1)
    | (go_at_call 77; refine (hL _ _ _).mono ?_; rintro e w1 ⟨rfl, k1⟩; have h := h.kp k1; have hg := hg.keep k1; have K := Kp.trans K k1)
    | (go_at_call 72; refine (hS _ h _).mono ?_; rintro e w1 ⟨rfl, i9, c9⟩)
    | (go_at_call 76; refine (hW _ h _).mono ?_; rintro e w1 ⟨rfl, i9, c9⟩)
    | (go_at_call 86; refine (hJ _ h _).mono ?_; rintro e w1 ⟨rfl, i9, c9⟩))
  first | go_end0 | refine bodyPost_ret (results_none rfl _ _ _) rfl ?_
  exact ⟨rfl, i9, Chg.trans (Kp.any K) c9 (fun _ _ e => e)⟩

theorem d_div0 (w : World) (hg : Gt w) (B : Nat) (s : St) (h : IsT w B s) (ho : s.ok) (hz : s.vb = 0) :
    Calls Tryd.prog 34 #[.pointer (some ⟨B, 0, none⟩)] w fun e w' => Vo w B (s.setD (4294967295)) e w' := by
  have hA := fun w h => a_any w B s h ho
  have hB := fun w h => b_any w B s h ho
  have hO := fun w g h => other_any w g B s h ho
  have hN := fun w h => n_any w B s h
  have hL := fun w a b => lessSigned_any w a b
  have hS := fun w h v => set_any w B s h ho v
  have hW := fun w h v => setWhether_any w B s h ho v
  have hJ := fun w h v => goIf_any w B s h v
  have K := Kp.refl w
  have ra := ho.ra
  have rb := ho.rb
  have ro := ho.ro
  have rn := vn_r s
  rw [hz] at hB
  generalize s.va = va at *
  generalize s.vb = vb at *
  generalize s.oth = vo at *
  generalize s.vn = vn at *
  go_enter Tryd.func34, Tryd.ntmps34
  go_wp2_with (first
    | (go_at_call 73; refine (hA _ h).mono ?_; rintro e w1 ⟨rfl, k1⟩; have h := h.kp k1; have hg := hg.keep k1; have K := Kp.trans K k1)
    | (go_at_call 75; refine (hB _ h).mono ?_; rintro e w1 ⟨rfl, k1⟩; have h := h.kp k1; have hg := hg.keep k1; have K := Kp.trans K k1)
    | (go_at_call 74; refine (hO _ hg h).mono ?_; rintro e w1 ⟨rfl, k1⟩; have h := h.kp k1; have hg := hg.keep k1; have K := Kp.trans K k1)
    | (go_at_call 78; refine (hN _ h).mono ?_; rintro e w1 ⟨rfl, k1⟩; have h := h.kp k1; have hg := hg.keep k1; have K := Kp.trans K k1)
    | (go_at_call 77; refine (hL _ _ _).mono ?_; rintro e w1 ⟨rfl, k1⟩; have h := h.kp k1; have hg := hg.keep k1; have K := Kp.trans K k1)
    | (go_at_call 72; refine (hS _ h _).mono ?_; rintro e w1 ⟨rfl, i9, c9⟩)
    | (go_at_call 76; refine (hW _ h _).mono ?_; rintro e w1 ⟨rfl, i9, c9⟩)
    | (go_at_call 86; refine (hJ _ h _).mono ?_; rintro e w1 ⟨rfl, i9, c9⟩))
  first | go_end0 | refine bodyPost_ret (results_none rfl _ _ _) rfl ?_
  exact ⟨rfl, i9, Chg.trans (Kp.any K) c9 (fun _ _ e => e)⟩

theorem d_div1 (w : World) (hg : Gt w) (B : Nat) (s : St) (h : IsT w B s) (ho : s.ok) (hz : s.vb ≠ 0) :
    Calls Tryd.prog 34 #[.pointer (some ⟨B, 0, none⟩)] w fun e w' => Vo w B (s.setD (s.va / s.vb)) e w' := by
  have hA := fun w h => a_any w B s h ho
  have hB := fun w h => b_any w B s h ho
  have hO := fun w g h => other_any w g B s h ho
  have hN := fun w h => n_any w B s h
  have hL := fun w a b => lessSigned_any w a b
  have hS := fun w h v => set_any w B s h ho v
  have hW := fun w h v => setWhether_any w B s h ho v
  have hJ := fun w h v => goIf_any w B s h v
  have K := Kp.refl w
  have ra := ho.ra
  have rb := ho.rb
  have ro := ho.ro
  have rn := vn_r s
  have hz1 : (s.vb == 0) = false := by simpa using hz
  generalize s.va = va at *
  generalize s.vb = vb at *
  generalize s.oth = vo at *
  generalize s.vn = vn at *
  go_enter Tryd.func34, Tryd.ntmps34
  go_wp2_with (first
    | (go_at_call 73; refine (hA _ h).mono ?_; rintro e w1 ⟨rfl, k1⟩; have h := h.kp k1; have hg := hg.keep k1; have K := Kp.trans K k1)
    | (go_at_call 75; refine (hB _ h).mono ?_; rintro e w1 ⟨rfl, k1⟩; have h := h.kp k1; have hg := hg.keep k1; have K := Kp.trans K k1)
    | (go_at_call 74; refine (hO _ hg h).mono ?_; rintro e w1 ⟨rfl, k1⟩; have h := h.kp k1; have hg := hg.keep k1; have K := Kp.trans K k1)
    | (go_at_call 78; refine (hN _ h).mono ?_; rintro e w1 ⟨rfl, k1⟩; have h := h.kp k1; have hg := hg.keep k1; have K := Kp.trans K k1)
    | (go_at_call 77; refine (hL _ _ _).mono ?_; rintro e w1 ⟨rfl, k1⟩; have h := h.kp k1; have hg := hg.keep k1; have K := Kp.trans K k1)
    | (go_at_call 72; refine (hS _ h _).mono ?_; rintro e w1 ⟨rfl, i9, c9⟩)
    | (go_at_call 76; refine (hW _ h _).mono ?_; rintro e w1 ⟨rfl, i9, c9⟩)
    | (go_at_call 86; refine (hJ _ h _).mono ?_; rintro e w1 ⟨rfl, i9, c9⟩))
  first | go_end0 | refine bodyPost_ret (results_none rfl _ _ _) rfl ?_
  exact ⟨rfl, i9, Chg.trans (Kp.any K) c9 (fun _ _ e => e)⟩

theorem d_rem0 (w : World) (hg : Gt w) (B : Nat) (s : St) (h : IsT w B s) (ho : s.ok) (hz : s.vb = 0) :
    Calls Tryd.prog 35 #[.pointer (some ⟨B, 0, none⟩)] w fun e w' => Vo w B (s.setD (s.va)) e w' := by
  have hA := fun w h => a_any w B s h ho
  have hB := fun w h => b_any w B s h ho
  have hO := fun w g h => other_any w g B s h ho
  have hN := fun w h => n_any w B s h
  have hL := fun w a b => lessSigned_any w a b
  have hS := fun w h v => set_any w B s h ho v
  have hW := fun w h v => setWhether_any w B s h ho v
  have hJ := fun w h v => goIf_any w B s h v
  have K := Kp.refl w
  have ra := ho.ra
  have rb := ho.rb
  have ro := ho.ro
  have rn := vn_r s
  rw [hz] at hB
  generalize s.va = va at *
  generalize s.vb = vb at *
  generalize s.oth = vo at *
  generalize s.vn = vn at *
  go_enter Tryd.func35, Tryd.ntmps35
  go_wp2_with (first
    | (go_at_call 73; refine (hA _ h).mono ?_; rintro e w1 ⟨rfl, k1⟩; have h := h.kp k1; have hg := hg.keep k1; have K := Kp.trans K k1)
    | (go_at_call 75; refine (hB _ h).mono ?_; rintro e w1 ⟨rfl, k1⟩; have h := h.kp k1; have hg := hg.keep k1; have K := Kp.trans K k1)
    | (go_at_call 74; refine (hO _ hg h).mono ?_; rintro e w1 ⟨rfl, k1⟩; have h := h.kp k1; have hg := hg.keep k1; have K := Kp.trans K k1)
    | (go_at_call 78; refine (hN _ h).mono ?_; rintro e w1 ⟨rfl, k1⟩; have h := h.kp k1; have hg := hg.keep k1; have K := Kp.trans K k1)
    | (go_at_call 77; refine (hL _ _ _).mono ?_; rintro e w1 ⟨rfl, k1⟩; have h := h.kp k1; have hg := hg.keep k1; have K := Kp.trans K k1)
    | (go_at_call 72; refine (hS _ h _).mono ?_; rintro e w1 ⟨rfl, i9, c9⟩)
    | (go_at_call 76; refine (hW _ h _).mono ?_; rintro e w1 ⟨rfl, i9, c9⟩)
    | (go_at_call 86; refine (hJ _ h _).mono ?_; rintro e w1 ⟨rfl, i9, c9⟩))
  first | go_end0 | refine bodyPost_ret (results_none rfl _ _ _) rfl ?_
  exact ⟨rfl, i9, Chg.trans (Kp.any K) c9 (fun _ _ e => e)⟩

theorem d_rem1 (w : World) (hg : Gt w) (B : Nat) (s : St) (h : IsT w B s) (ho : s.ok) (hz : s.vb ≠ 0) :
    Calls Tryd.prog 35 #[.pointer (some ⟨B, 0, none⟩)] w fun e w' => Vo w B (s.setD (s.va % s.vb)) e w' := by
  have hA := fun w h => a_any w B s h ho
  have hB := fun w h => b_any w B s h ho
  have hO := fun w g h => other_any w g B s h ho
  have hN := fun w h => n_any w B s h
  have hL := fun w a b => lessSigned_any w a b
  have hS := fun w h v => set_any w B s h ho v
  have hW := fun w h v => setWhether_any w B s h ho v
  have hJ := fun w h v => goIf_any w B s h v
  have K := Kp.refl w
  have ra := ho.ra
  have rb := ho.rb
  have ro := ho.ro
  have rn := vn_r s
  have hz1 : (s.vb == 0) = false := by simpa using hz
  generalize s.va = va at *
  generalize s.vb = vb at *
  generalize s.oth = vo at *
  generalize s.vn = vn at *
  go_enter Tryd.func35, Tryd.ntmps35
  go_wp2_with (first
    | (go_at_call 73; refine (hA _ h).mono ?_; rintro e w1 ⟨rfl, k1⟩; have h := h.kp k1; have hg := hg.keep k1; have K := Kp.trans K k1)
    | (go_at_call 75; refine (hB _ h).mono ?_; rintro e w1 ⟨rfl, k1⟩; have h := h.kp k1; have hg := hg.keep k1; have K := Kp.trans K k1)
    | (go_at_call 74; refine (hO _ hg h).mono ?_; rintro e w1 ⟨rfl, k1⟩; have h := h.kp k1; have hg := hg.keep k1; have K := Kp.trans K k1)
    | (go_at_call 78; refine (hN _ h).mono ?_; rintro e w1 ⟨rfl, k1⟩; have h := h.kp k1; have hg := hg.keep k1; have K := Kp.trans K k1)
    | (go_at_call 77; refine (hL _ _ _).mono ?_; rintro e w1 ⟨rfl, k1⟩; have h := h.kp k1; have hg := hg.keep k1; have K := Kp.trans K k1)
    | (go_at_call 72; refine (hS _ h _).mono ?_; rintro e w1 ⟨rfl, i9, c9⟩)
    | (go_at_call 76; refine (hW _ h _).mono ?_; rintro e w1 ⟨rfl, i9, c9⟩)
    | (go_at_call 86; refine (hJ _ h _).mono ?_; rintro e w1 ⟨rfl, i9, c9⟩))
  first | go_end0 | refine bodyPost_ret (results_none rfl _ _ _) rfl ?_
  exact ⟨rfl, i9, Chg.trans (Kp.any K) c9 (fun _ _ e => e)⟩

theorem d_beq (w : World) (hg : Gt w) (B : Nat) (s : St) (h : IsT w B s) (ho : s.ok) :
    Calls Tryd.prog 53 #[.pointer (some ⟨B, 0, none⟩)] w fun e w' => Vo w B (s.goIf (s.va == s.vb)) e w' := by
  have hA := fun w h => a_any w B s h ho
  have hB := fun w h => b_any w B s h ho
  have hO := fun w g h => other_any w g B s h ho
  have hN := fun w h => n_any w B s h
  have hL := fun w a b => lessSigned_any w a b
  have hS := fun w h v => set_any w B s h ho v
  have hW := fun w h v => setWhether_any w B s h ho v
  have hJ := fun w h v => goIf_any w B s h v
  have K := Kp.refl w
  have ra := ho.ra
  have rb := ho.rb
  have ro := ho.ro
  have rn := vn_r s
  generalize s.va = va at *
  generalize s.vb = vb at *
  generalize s.oth = vo at *
  generalize s.vn = vn at *
  go_enter Tryd.func53, Tryd.ntmps53
  go_wp2_with (first
    | (go_at_call 73; refine (hA _ h).mono ?_; rintro e w1 ⟨rfl, k1⟩; have h := h.kp k1; have hg := hg.keep k1; have K := Kp.trans K k1)
    | (go_at_call 75; refine (hB _ h).mono ?_; rintro e w1 ⟨rfl, k1⟩; have h := h.kp k1; have hg := hg.keep k1; have K := Kp.trans K k1)
    | (go_at_call 74; refine (hO _ hg h).mono ?_; rintro e w1 ⟨rfl, k1⟩; have h := h.kp k1; have hg := hg.keep k1; have K := Kp.trans K k1)
    | (go_at_call 78; refine (hN _ h).mono ?_; rintro e w1 ⟨rfl, k1⟩; have h := h.kp k1; have hg := hg.keep k1; have K := Kp.trans K k1)
    | (go_at_call 77; refine (hL _ _ _).mono ?_; rintro e w1 ⟨rfl, k1⟩; have h := h.kp k1; have hg := hg.keep k1; have K := Kp.trans K k1)
    | (go_at_call 72; refine (hS _ h _).mono ?_; rintro e w1 ⟨rfl, i9, c9⟩)
    | (go_at_call 76; refine (hW _ h _).mono ?_; rintro e w1 ⟨rfl, i9, c9⟩)
    | (go_at_call 86; refine (hJ _ h _).mono ?_; rintro e w1 ⟨rfl, i9, c9⟩))
  first | go_end0 | refine bodyPost_ret (results_none rfl _ _ _) rfl ?_
  exact ⟨rfl, i9, Chg.trans (Kp.any K) c9 (fun _ _ e => e)⟩

theorem d_bne (w : World) (hg : Gt w) (B : Nat) (s : St) (h : IsT w B s) (ho : s.ok) :
    Calls Tryd.prog 54 #[.pointer (some ⟨B, 0, none⟩)] w fun e w' => Vo w B (s.goIf (!(s.va == s.vb))) e w' := by
  have hA := fun w h => a_any w B s h ho
  have hB := fun w h => b_any w B s h ho
  have hO := fun w g h => other_any w g B s h ho
  have hN := fun w h => n_any w B s h
  have hL := fun w a b => lessSigned_any w a b
  have hS := fun w h v => set_any w B s h ho v
  have hW := fun w h v => setWhether_any w B s h ho v
  have hJ := fun w h v => goIf_any w B s h v
  have K := Kp.refl w
  have ra := ho.ra
  have rb := ho.rb
  have ro := ho.ro
  have rn := vn_r s
  generalize s.va = va at *
  generalize s.vb = vb at *
  generalize s.oth = vo at *
  generalize s.vn = vn at *
  go_enter Tryd.func54, Tryd.ntmps54
  go_wp2_with (first
    | (go_at_call 73; refine (hA _ h).mono ?_; rintro e w1 ⟨rfl, k1⟩; have h := h.kp k1; have hg := hg.keep k1; have K := Kp.trans K k1)
    | (go_at_call 75; refine (hB _ h).mono ?_; rintro e w1 ⟨rfl, k1⟩; have h := h.kp k1; have hg := hg.keep k1; have K := Kp.trans K k1)
    | (go_at_call 74; refine (hO _ hg h).mono ?_; rintro e w1 ⟨rfl, k1⟩; have h := h.kp k1; have hg := hg.keep k1; have K := Kp.trans K k1)
    | (go_at_call 78; refine (hN _ h).mono ?_; rintro e w1 ⟨rfl, k1⟩; have h := h.kp k1; have hg := hg.keep k1; have K := Kp.trans K k1)
    | (go_at_call 77; refine (hL _ _ _).mono ?_; rintro e w1 ⟨rfl, k1⟩; have h := h.kp k1; have hg := hg.keep k1; have K := Kp.trans K k1)
    | (go_at_call 72; refine (hS _ h _).mono ?_; rintro e w1 ⟨rfl, i9, c9⟩)
    | (go_at_call 76; refine (hW _ h _).mono ?_; rintro e w1 ⟨rfl, i9, c9⟩)
    | (go_at_call 86; refine (hJ _ h _).mono ?_; rintro e w1 ⟨rfl, i9, c9⟩))
  first | go_end0 | refine bodyPost_ret (results_none rfl _ _ _) rfl ?_
  exact ⟨rfl, i9, Chg.trans (Kp.any K) c9 (fun _ _ e => e)⟩

theorem d_blt (w : World) (hg : Gt w) (B : Nat) (s : St) (h : IsT w B s) (ho : s.ok) :
    Calls Tryd.prog 55 #[.pointer (some ⟨B, 0, none⟩)] w fun e w' => Vo w B (s.goIf (decide (wrap32 s.va < wrap32 s.vb))) e w' := by
  have hA := fun w h => a_any w B s h ho
  have hB := fun w h => b_any w B s h ho
  have hO := fun w g h => other_any w g B s h ho
  have hN := fun w h => n_any w B s h
  have hL := fun w a b => lessSigned_any w a b
  have hS := fun w h v => set_any w B s h ho v
  have hW := fun w h v => setWhether_any w B s h ho v
  have hJ := fun w h v => goIf_any w B s h v
  have K := Kp.refl w
  have ra := ho.ra
  have rb := ho.rb
  have ro := ho.ro
  have rn := vn_r s
  generalize s.va = va at *
  generalize s.vb = vb at *
  generalize s.oth = vo at *
  generalize s.vn = vn at *
  go_enter Tryd.func55, Tryd.ntmps55
  go_wp2_with (first
    | (go_at_call 73; refine (hA _ h).mono ?_; rintro e w1 ⟨rfl, k1⟩; have h := h.kp k1; have hg := hg.keep k1; have K := Kp.trans K k1)
    | (go_at_call 75; refine (hB _ h).mono ?_; rintro e w1 ⟨rfl, k1⟩; have h := h.kp k1; have hg := hg.keep k1; have K := Kp.trans K k1)
    | (go_at_call 74; refine (hO _ hg h).mono ?_; rintro e w1 ⟨rfl, k1⟩; have h := h.kp k1; have hg := hg.keep k1; have K := Kp.trans K k1)
    | (go_at_call 78; refine (hN _ h).mono ?_; rintro e w1 ⟨rfl, k1⟩; have h := h.kp k1; have hg := hg.keep k1; have K := Kp.trans K k1)
    | (go_at_call 77; refine (hL _ _ _).mono ?_; rintro e w1 ⟨rfl, k1⟩; have h := h.kp k1; have hg := hg.keep k1; have K := Kp.trans K k1)
    | (go_at_call 72; refine (hS _ h _).mono ?_; rintro e w1 ⟨rfl, i9, c9⟩)
    | (go_at_call 76; refine (hW _ h _).mono ?_; rintro e w1 ⟨rfl, i9, c9⟩)
    | (go_at_call 86; refine (hJ _ h _).mono ?_; rintro e w1 ⟨rfl, i9, c9⟩))
  first | go_end0 | refine bodyPost_ret (results_none rfl _ _ _) rfl ?_
  exact ⟨rfl, i9, Chg.trans (Kp.any K) c9 (fun _ _ e => e)⟩

theorem d_bge (w : World) (hg : Gt w) (B : Nat) (s : St) (h : IsT w B s) (ho : s.ok) :
    Calls Tryd.prog 56 #[.pointer (some ⟨B, 0, none⟩)] w fun e w' => Vo w B (s.goIf (!decide (wrap32 s.va < wrap32 s.vb))) e w' := by
  have hA := fun w h => a_any w B s h ho
  have hB := fun w h => b_any w B s h ho
  have hO := fun w g h => other_any w g B s h ho
  have hN := fun w h => n_any w B s h
  have hL := fun w a b => lessSigned_any w a b
  have hS := fun w h v => set_any w B s h ho v
  have hW := fun w h v => setWhether_any w B s h ho v
  have hJ := fun w h v => goIf_any w B s h v
  have K := Kp.refl w
  have ra := ho.ra
  have rb := ho.rb
  have ro := ho.ro
  have rn := vn_r s
  generalize s.va = va at *
  generalize s.vb = vb at *
  generalize s.oth = vo at *
  generalize s.vn = vn at *
  go_enter Tryd.func56, Tryd.ntmps56
  go_wp2_with (first
    | (go_at_call 73; refine (hA _ h).mono ?_; rintro e w1 ⟨rfl, k1⟩; have h := h.kp k1; have hg := hg.keep k1; have K := Kp.trans K k1)
    | (go_at_call 75; refine (hB _ h).mono ?_; rintro e w1 ⟨rfl, k1⟩; have h := h.kp k1; have hg := hg.keep k1; have K := Kp.trans K k1)
    | (go_at_call 74; refine (hO _ hg h).mono ?_; rintro e w1 ⟨rfl, k1⟩; have h := h.kp k1; have hg := hg.keep k1; have K := Kp.trans K k1)
    | (go_at_call 78; refine (hN _ h).mono ?_; rintro e w1 ⟨rfl, k1⟩; have h := h.kp k1; have hg := hg.keep k1; have K := Kp.trans K k1)
    | (go_at_call 77; refine (hL _ _ _).mono ?_; rintro e w1 ⟨rfl, k1⟩; have h := h.kp k1; have hg := hg.keep k1; have K := Kp.trans K k1)
    | (go_at_call 72; refine (hS _ h _).mono ?_; rintro e w1 ⟨rfl, i9, c9⟩)
    | (go_at_call 76; refine (hW _ h _).mono ?_; rintro e w1 ⟨rfl, i9, c9⟩)
    | (go_at_call 86; refine (hJ _ h _).mono ?_; rintro e w1 ⟨rfl, i9, c9⟩))
  first | go_end0 | refine bodyPost_ret (results_none rfl _ _ _) rfl ?_
  exact ⟨rfl, i9, Chg.trans (Kp.any K) c9 (fun _ _ e => e)⟩

theorem d_bltu (w : World) (hg : Gt w) (B : Nat) (s : St) (h : IsT w B s) (ho : s.ok) :
    Calls Tryd.prog 57 #[.pointer (some ⟨B, 0, none⟩)] w fun e w' => Vo w B (s.goIf (decide (s.va < s.vb))) e w' := by
  have hA := fun w h => a_any w B s h ho
  have hB := fun w h => b_any w B s h ho
  have hO := fun w g h => other_any w g B s h ho
  have hN := fun w h => n_any w B s h
  have hL := fun w a b => lessSigned_any w a b
  have hS := fun w h v => set_any w B s h ho v
  have hW := fun w h v => setWhether_any w B s h ho v
  have hJ := fun w h v => goIf_any w B s h v
  have K := Kp.refl w
  have ra := ho.ra
  have rb := ho.rb
  have ro := ho.ro
  have rn := vn_r s
  generalize s.va = va at *
  generalize s.vb = vb at *
  generalize s.oth = vo at *
  generalize s.vn = vn at *
  go_enter Tryd.func57, Tryd.ntmps57
  go_wp2_with (first
    | (go_at_call 73; refine (hA _ h).mono ?_; rintro e w1 ⟨rfl, k1⟩; have h := h.kp k1; have hg := hg.keep k1; have K := Kp.trans K k1)
    | (go_at_call 75; refine (hB _ h).mono ?_; rintro e w1 ⟨rfl, k1⟩; have h := h.kp k1; have hg := hg.keep k1; have K := Kp.trans K k1)
    | (go_at_call 74; refine (hO _ hg h).mono ?_; rintro e w1 ⟨rfl, k1⟩; have h := h.kp k1; have hg := hg.keep k1; have K := Kp.trans K k1)
    | (go_at_call 78; refine (hN _ h).mono ?_; rintro e w1 ⟨rfl, k1⟩; have h := h.kp k1; have hg := hg.keep k1; have K := Kp.trans K k1)
    | (go_at_call 77; refine (hL _ _ _).mono ?_; rintro e w1 ⟨rfl, k1⟩; have h := h.kp k1; have hg := hg.keep k1; have K := Kp.trans K k1)
    | (go_at_call 72; refine (hS _ h _).mono ?_; rintro e w1 ⟨rfl, i9, c9⟩)
    | (go_at_call 76; refine (hW _ h _).mono ?_; rintro e w1 ⟨rfl, i9, c9⟩)
    | (go_at_call 86; refine (hJ _ h _).mono ?_; rintro e w1 ⟨rfl, i9, c9⟩))
  first | go_end0 | refine bodyPost_ret (results_none rfl _ _ _) rfl ?_
  exact ⟨rfl, i9, Chg.trans (Kp.any K) c9 (fun _ _ e => e)⟩

theorem d_bgeu (w : World) (hg : Gt w) (B : Nat) (s : St) (h : IsT w B s) (ho : s.ok) :
    Calls Tryd.prog 58 #[.pointer (some ⟨B, 0, none⟩)] w fun e w' => Vo w B (s.goIf (decide (s.vb ≤ s.va))) e w' := by
  have hA := fun w h => a_any w B s h ho
  have hB := fun w h => b_any w B s h ho
  have hO := fun w g h => other_any w g B s h ho
  have hN := fun w h => n_any w B s h
  have hL := fun w a b => lessSigned_any w a b
  have hS := fun w h v => set_any w B s h ho v
  have hW := fun w h v => setWhether_any w B s h ho v
  have hJ := fun w h v => goIf_any w B s h v
  have K := Kp.refl w
  have ra := ho.ra
  have rb := ho.rb
  have ro := ho.ro
  have rn := vn_r s
  generalize s.va = va at *
  generalize s.vb = vb at *
  generalize s.oth = vo at *
  generalize s.vn = vn at *
  go_enter Tryd.func58, Tryd.ntmps58
  go_wp2_with (first
    | (go_at_call 73; refine (hA _ h).mono ?_; rintro e w1 ⟨rfl, k1⟩; have h := h.kp k1; have hg := hg.keep k1; have K := Kp.trans K k1)
    | (go_at_call 75; refine (hB _ h).mono ?_; rintro e w1 ⟨rfl, k1⟩; have h := h.kp k1; have hg := hg.keep k1; have K := Kp.trans K k1)
    | (go_at_call 74; refine (hO _ hg h).mono ?_; rintro e w1 ⟨rfl, k1⟩; have h := h.kp k1; have hg := hg.keep k1; have K := Kp.trans K k1)
    | (go_at_call 78; refine (hN _ h).mono ?_; rintro e w1 ⟨rfl, k1⟩; have h := h.kp k1; have hg := hg.keep k1; have K := Kp.trans K k1)
    | (go_at_call 77; refine (hL _ _ _).mono ?_; rintro e w1 ⟨rfl, k1⟩; have h := h.kp k1; have hg := hg.keep k1; have K := Kp.trans K k1)
    | (go_at_call 72; refine (hS _ h _).mono ?_; rintro e w1 ⟨rfl, i9, c9⟩)
    | (go_at_call 76; refine (hW _ h _).mono ?_; rintro e w1 ⟨rfl, i9, c9⟩)
    | (go_at_call 86; refine (hJ _ h _).mono ?_; rintro e w1 ⟨rfl, i9, c9⟩))
  first | go_end0 | refine bodyPost_ret (results_none rfl _ _ _) rfl ?_
  exact ⟨rfl, i9, Chg.trans (Kp.any K) c9 (fun _ _ e => e)⟩
end Go.Proofs.YtghiffpolacmiabDoor
