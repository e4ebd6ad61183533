import Derived.Test.YtghiffpolacmiabGreatDoorUb
namespace Go.Proofs.YtghiffpolacmiabGreatDoor
open Go.ChangeShapes Go.WideShapes Go.ChangeAt Go.RowKit
set_option linter.unusedVariables false

theorem d_add (w : World) (hg : Gt w) (B : Nat) (s : St) (h : IsT w B s) (ho : s.ok) :
    Calls Tryz.prog 36 #[.pointer (some ⟨B, 0, none⟩)] w fun e w' => Vo w B (s.setD ((s.va + s.oth) % 4294967296)) e w' := by
  have hA := fun w h => a_any w B s h ho
  have hB := fun w h => b_any w B s h ho
  have hO := fun w g h => other_any w g B s h ho
  have hN := fun w h => n_any w B s h
  have hL := fun w a b => lessSigned_any w a b
  have hS := fun w h v => set_any w B s h ho v
  have hW := fun w h v => setWhether_any w B s h ho v
  have hJ := fun w h v => goIf_any w B s h v
  have K := Kp.refl w
  have ra := ho.ra
  have rb := ho.rb
  have ro := ho.ro
  have rn := vn_r s
  generalize s.va = va at *
  generalize s.vb = vb at *
  generalize s.oth = vo at *
  generalize s.vn = vn at *
  go_enter Tryz.func36, Tryz.ntmps36
  go_wp2_with (first
    | (go_at_call 81; refine (hA _ h).mono ?_; rintro e w1 ⟨rfl, k1⟩; have h := h.kp k1; have hg := hg.keep k1; have K := Kp.trans K k1)
    | (go_at_call 83; refine (hB _ h).mono ?_; rintro e w1 ⟨rfl, k1⟩; have h := h.kp k1; have hg := hg.keep k1; have K := Kp.trans K k1)
    | (go_at_call 82; refine (hO _ hg h).mono ?_; rintro e w1 ⟨rfl, k1⟩; have h := h.kp k1; have hg := hg.keep k1; have K := Kp.trans K k1)
    | (go_at_call 86; refine (hN _ h).mono ?_; rintro e w1 ⟨rfl, k1⟩; have h := h.kp k1; have hg := hg.keep k1; have K := Kp.trans K k1)
    | (go_at_call 85; refine (hL _ _ _).mono ?_; rintro e w1 ⟨rfl, k1⟩; have h := h.kp k1; have hg := hg.keep k1; have K := Kp.trans K k1)
    | (go_at_call 80; refine (hS _ h _).mono ?_; rintro e w1 ⟨rfl, i9, c9⟩)
    | (go_at_call 84; refine (hW _ h _).mono ?_; rintro e w1 ⟨rfl, i9, c9⟩)
    | (go_at_call 94; refine (hJ _ h _).mono ?_; rintro e w1 ⟨rfl, i9, c9⟩))
  first | go_end0 | refine bodyPost_ret (results_none rfl _ _ _) rfl ?_
  exact ⟨rfl, i9, Chg.trans (Kp.any K) c9 (fun _ _ e => e)⟩

theorem d_sub (w : World) (hg : Gt w) (B : Nat) (s : St) (h : IsT w B s) (ho : s.ok) :
    Calls Tryz.prog 37 #[.pointer (some ⟨B, 0, none⟩)] w fun e w' => Vo w B (s.setD ((s.va - s.vb) % 4294967296)) e w' := by
  have hA := fun w h => a_any w B s h ho
  have hB := fun w h => b_any w B s h ho
  have hO := fun w g h => other_any w g B s h ho
  have hN := fun w h => n_any w B s h
  have hL := fun w a b => lessSigned_any w a b
  have hS := fun w h v => set_any w B s h ho v
  have hW := fun w h v => setWhether_any w B s h ho v
  have hJ := fun w h v => goIf_any w B s h v
  have K := Kp.refl w
  have ra := ho.ra
  have rb := ho.rb
  have ro := ho.ro
  have rn := vn_r s
  generalize s.va = va at *
  generalize s.vb = vb at *
  generalize s.oth = vo at *
  generalize s.vn = vn at *
  go_enter Tryz.func37, Tryz.ntmps37
  go_wp2_with (first
    | (go_at_call 81; refine (hA _ h).mono ?_; rintro e w1 ⟨rfl, k1⟩; have h := h.kp k1; have hg := hg.keep k1; have K := Kp.trans K k1)
    | (go_at_call 83; refine (hB _ h).mono ?_; rintro e w1 ⟨rfl, k1⟩; have h := h.kp k1; have hg := hg.keep k1; have K := Kp.trans K k1)
    | (go_at_call 82; refine (hO _ hg h).mono ?_; rintro e w1 ⟨rfl, k1⟩; have h := h.kp k1; have hg := hg.keep k1; have K := Kp.trans K k1)
    | (go_at_call 86; refine (hN _ h).mono ?_; rintro e w1 ⟨rfl, k1⟩; have h := h.kp k1; have hg := hg.keep k1; have K := Kp.trans K k1)
    | (go_at_call 85; refine (hL _ _ _).mono ?_; rintro e w1 ⟨rfl, k1⟩; have h := h.kp k1; have hg := hg.keep k1; have K := Kp.trans K k1)
    | (go_at_call 80; refine (hS _ h _).mono ?_; rintro e w1 ⟨rfl, i9, c9⟩)
    | (go_at_call 84; refine (hW _ h _).mono ?_; rintro e w1 ⟨rfl, i9, c9⟩)
    | (go_at_call 94; refine (hJ _ h _).mono ?_; rintro e w1 ⟨rfl, i9, c9⟩))
  first | go_end0 | refine bodyPost_ret (results_none rfl _ _ _) rfl ?_
  exact ⟨rfl, i9, Chg.trans (Kp.any K) c9 (fun _ _ e => e)⟩

theorem d_mul (w : World) (hg : Gt w) (B : Nat) (s : St) (h : IsT w B s) (ho : s.ok) :
    Calls Tryz.prog 38 #[.pointer (some ⟨B, 0, none⟩)] w fun e w' => Vo w B (s.setD (s.va * s.vb % 4294967296)) e w' := by
  have hA := fun w h => a_any w B s h ho
  have hB := fun w h => b_any w B s h ho
  have hO := fun w g h => other_any w g B s h ho
  have hN := fun w h => n_any w B s h
  have hL := fun w a b => lessSigned_any w a b
  have hS := fun w h v => set_any w B s h ho v
  have hW := fun w h v => setWhether_any w B s h ho v
  have hJ := fun w h v => goIf_any w B s h v
  have K := Kp.refl w
  have ra := ho.ra
  have rb := ho.rb
  have ro := ho.ro
  have rn := vn_r s
  generalize s.va = va at *
  generalize s.vb = vb at *
  generalize s.oth = vo at *
  generalize s.vn = vn at *
  go_enter Tryz.func38, Tryz.ntmps38
  go_wp2_with (first
    | (go_at_call 81; refine (hA _ h).mono ?_; rintro e w1 ⟨rfl, k1⟩; have h := h.kp k1; have hg := hg.keep k1; have K := Kp.trans K k1)
    | (go_at_call 83; refine (hB _ h).mono ?_; rintro e w1 ⟨rfl, k1⟩; have h := h.kp k1; have hg := hg.keep k1; have K := Kp.trans K k1)
    | (go_at_call 82; refine (hO _ hg h).mono ?_; rintro e w1 ⟨rfl, k1⟩; have h := h.kp k1; have hg := hg.keep k1; have K := Kp.trans K k1)
    | (go_at_call 86; refine (hN _ h).mono ?_; rintro e w1 ⟨rfl, k1⟩; have h := h.kp k1; have hg := hg.keep k1; have K := Kp.trans K k1)
    | (go_at_call 85; refine (hL _ _ _).mono ?_; rintro e w1 ⟨rfl, k1⟩; have h := h.kp k1; have hg := hg.keep k1; have K := Kp.trans K k1)
    | (go_at_call 80; refine (hS _ h _).mono ?_; rintro e w1 ⟨rfl, i9, c9⟩)
    | (go_at_call 84; refine (hW _ h _).mono ?_; rintro e w1 ⟨rfl, i9, c9⟩)
    | (go_at_call 94; refine (hJ _ h _).mono ?_; rintro e w1 ⟨rfl, i9, c9⟩))
  first | go_end0 | refine bodyPost_ret (results_none rfl _ _ _) rfl ?_
  exact ⟨rfl, i9, Chg.trans (Kp.any K) c9 (fun _ _ e => e)⟩

theorem d_and (w : World) (hg : Gt w) (B : Nat) (s : St) (h : IsT w B s) (ho : s.ok) :
    Calls Tryz.prog 41 #[.pointer (some ⟨B, 0, none⟩)] w fun e w' => Vo w B (s.setD (bits .and .u32 s.va s.oth)) e w' := by
  have hA := fun w h => a_any w B s h ho
  have hB := fun w h => b_any w B s h ho
  have hO := fun w g h => other_any w g B s h ho
  have hN := fun w h => n_any w B s h
  have hL := fun w a b => lessSigned_any w a b
  have hS := fun w h v => set_any w B s h ho v
  have hW := fun w h v => setWhether_any w B s h ho v
  have hJ := fun w h v => goIf_any w B s h v
  have K := Kp.refl w
  have ra := ho.ra
  have rb := ho.rb
  have ro := ho.ro
  have rn := vn_r s
  generalize s.va = va at *
  generalize s.vb = vb at *
  generalize s.oth = vo at *
  generalize s.vn = vn at *
  go_enter Tryz.func41, Tryz.ntmps41
  go_wp2_with (first
    | (go_at_call 81; refine (hA _ h).mono ?_; rintro e w1 ⟨rfl, k1⟩; have h := h.kp k1; have hg := hg.keep k1; have K := Kp.trans K k1)
    | (go_at_call 83; refine (hB _ h).mono ?_; rintro e w1 ⟨rfl, k1⟩; have h := h.kp k1; have hg := hg.keep k1; have K := Kp.trans K k1)
    | (go_at_call 82; refine (hO _ hg h).mono ?_; rintro e w1 ⟨rfl, k1⟩; have h := h.kp k1; have hg := hg.keep k1; have K := Kp.trans K k1)
    | (go_at_call 86; refine (hN _ h).mono ?_; rintro e w1 ⟨rfl, k1⟩; have h := h.kp k1; have hg := hg.keep k1; have K := Kp.trans K k1)
    | (go_at_call 85; refine (hL _ _ _).mono ?_; rintro e w1 ⟨rfl, k1⟩; have h := h.kp k1; have hg := hg.keep k1; have K := Kp.trans K k1)
    | (go_at_call 80; refine (hS _ h _).mono ?_; rintro e w1 ⟨rfl, i9, c9⟩)
    | (go_at_call 84; refine (hW _ h _).mono ?_; rintro e w1 ⟨rfl, i9, c9⟩)
    | (go_at_call 94; refine (hJ _ h _).mono ?_; rintro e w1 ⟨rfl, i9, c9⟩))
  first | go_end0 | refine bodyPost_ret (results_none rfl _ _ _) rfl ?_
  exact ⟨rfl, i9, Chg.trans (Kp.any K) c9 (fun _ _ e => e)⟩

theorem d_or (w : World) (hg : Gt w) (B : Nat) (s : St) (h : IsT w B s) (ho : s.ok) :
    Calls Tryz.prog 42 #[.pointer (some ⟨B, 0, none⟩)] w fun e w' => Vo w B (s.setD (bits .or .u32 s.va s.oth)) e w' := by
  have hA := fun w h => a_any w B s h ho
  have hB := fun w h => b_any w B s h ho
  have hO := fun w g h => other_any w g B s h ho
  have hN := fun w h => n_any w B s h
  have hL := fun w a b => lessSigned_any w a b
  have hS := fun w h v => set_any w B s h ho v
  have hW := fun w h v => setWhether_any w B s h ho v
  have hJ := fun w h v => goIf_any w B s h v
  have K := Kp.refl w
  have ra := ho.ra
  have rb := ho.rb
  have ro := ho.ro
  have rn := vn_r s
  generalize s.va = va at *
  generalize s.vb = vb at *
  generalize s.oth = vo at *
  generalize s.vn = vn at *
  go_enter Tryz.func42, Tryz.ntmps42
  go_wp2_with (first
    | (go_at_call 81; refine (hA _ h).mono ?_; rintro e w1 ⟨rfl, k1⟩; have h := h.kp k1; have hg := hg.keep k1; have K := Kp.trans K k1)
    | (go_at_call 83; refine (hB _ h).mono ?_; rintro e w1 ⟨rfl, k1⟩; have h := h.kp k1; have hg := hg.keep k1; have K := Kp.trans K k1)
    | (go_at_call 82; refine (hO _ hg h).mono ?_; rintro e w1 ⟨rfl, k1⟩; have h := h.kp k1; have hg := hg.keep k1; have K := Kp.trans K k1)
    | (go_at_call 86; refine (hN _ h).mono ?_; rintro e w1 ⟨rfl, k1⟩; have h := h.kp k1; have hg := hg.keep k1; have K := Kp.trans K k1)
    | (go_at_call 85; refine (hL _ _ _).mono ?_; rintro e w1 ⟨rfl, k1⟩; have h := h.kp k1; have hg := hg.keep k1; have K := Kp.trans K k1)
    | (go_at_call 80; refine (hS _ h _).mono ?_; rintro e w1 ⟨rfl, i9, c9⟩)
    | (go_at_call 84; refine (hW _ h _).mono ?_; rintro e w1 ⟨rfl, i9, c9⟩)
    | (go_at_call 94; refine (hJ _ h _).mono ?_; rintro e w1 ⟨rfl, i9, c9⟩))
  first | go_end0 | refine bodyPost_ret (results_none rfl _ _ _) rfl ?_
  exact ⟨rfl, i9, Chg.trans (Kp.any K) c9 (fun _ _ e => e)⟩

theorem d_xor (w : World) (hg : Gt w) (B : Nat) (s : St) (h : IsT w B s) (ho : s.ok) :
    Calls Tryz.prog 43 #[.pointer (some ⟨B, 0, none⟩)] w fun e w' => Vo w B (s.setD (bits .xor .u32 s.va s.oth)) e w' := by
  have hA := fun w h => a_any w B s h ho
  have hB := fun w h => b_any w B s h ho
  have hO := fun w g h => other_any w g B s h ho
  have hN := fun w h => n_any w B s h
  have hL := fun w a b => lessSigned_any w a b
  have hS := fun w h v => set_any w B s h ho v
  have hW := fun w h v => setWhether_any w B s h ho v
  have hJ := fun w h v => goIf_any w B s h v
  have K := Kp.refl w
  have ra := ho.ra
  have rb := ho.rb
  have ro := ho.ro
  have rn := vn_r s
  generalize s.va = va at *
  generalize s.vb = vb at *
  generalize s.oth = vo at *
  generalize s.vn = vn at *
  go_enter Tryz.func43, Tryz.ntmps43
  go_wp2_with (first
    | (go_at_call 81; refine (hA _ h).mono ?_; rintro e w1 ⟨rfl, k1⟩; have h := h.kp k1; have hg := hg.keep k1; have K := Kp.trans K k1)
    | (go_at_call 83; refine (hB _ h).mono ?_; rintro e w1 ⟨rfl, k1⟩; have h := h.kp k1; have hg := hg.keep k1; have K := Kp.trans K k1)
    | (go_at_call 82; refine (hO _ hg h).mono ?_; rintro e w1 ⟨rfl, k1⟩; have h := h.kp k1; have hg := hg.keep k1; have K := Kp.trans K k1)
    | (go_at_call 86; refine (hN _ h).mono ?_; rintro e w1 ⟨rfl, k1⟩; have h := h.kp k1; have hg := hg.keep k1; have K := Kp.trans K k1)
    | (go_at_call 85; refine (hL _ _ _).mono ?_; rintro e w1 ⟨rfl, k1⟩; have h := h.kp k1; have hg := hg.keep k1; have K := Kp.trans K k1)
    | (go_at_call 80; refine (hS _ h _).mono ?_; rintro e w1 ⟨rfl, i9, c9⟩)
    | (go_at_call 84; refine (hW _ h _).mono ?_; rintro e w1 ⟨rfl, i9, c9⟩)
    | (go_at_call 94; refine (hJ _ h _).mono ?_; rintro e w1 ⟨rfl, i9, c9⟩))
  first | go_end0 | refine bodyPost_ret (results_none rfl _ _ _) rfl ?_
  exact ⟨rfl, i9, Chg.trans (Kp.any K) c9 (fun _ _ e => e)⟩

theorem d_shl (w : World) (hg : Gt w) (B : Nat) (s : St) (h : IsT w B s) (ho : s.ok) :
    Calls Tryz.prog 44 #[.pointer (some ⟨B, 0, none⟩)] w fun e w' => Vo w B (s.setD (s.va * 2 ^ (s.oth % 32).toNat % 4294967296)) e w' := by
  have hA := fun w h => a_any w B s h ho
  have hB := fun w h => b_any w B s h ho
  have hO := fun w g h => other_any w g B s h ho
  have hN := fun w h => n_any w B s h
  have hL := fun w a b => lessSigned_any w a b
  have hS := fun w h v => set_any w B s h ho v
  have hW := fun w h v => setWhether_any w B s h ho v
  have hJ := fun w h v => goIf_any w B s h v
  have K := Kp.refl w
  have ra := ho.ra
  have rb := ho.rb
  have ro := ho.ro
  have rn := vn_r s
  generalize s.va = va at *
  generalize s.vb = vb at *
  generalize s.oth = vo at *
  generalize s.vn = vn at *
  go_enter Tryz.func44, Tryz.ntmps44
  go_wp2_with (first
    | (go_at_call 81; refine (hA _ h).mono ?_; rintro e w1 ⟨rfl, k1⟩; have h := h.kp k1; have hg := hg.keep k1; have K := Kp.trans K k1)
    | (go_at_call 83; refine (hB _ h).mono ?_; rintro e w1 ⟨rfl, k1⟩; have h := h.kp k1; have hg := hg.keep k1; have K := Kp.trans K k1)
    | (go_at_call 82; refine (hO _ hg h).mono ?_; rintro e w1 ⟨rfl, k1⟩; have h := h.kp k1; have hg := hg.keep k1; have K := Kp.trans K k1)
    | (go_at_call 86; refine (hN _ h).mono ?_; rintro e w1 ⟨rfl, k1⟩; have h := h.kp k1; have hg := hg.keep k1; have K := Kp.trans K k1)
    | (go_at_call 85; refine (hL _ _ _).mono ?_; rintro e w1 ⟨rfl, k1⟩; have h := h.kp k1; have hg := hg.keep k1; have K := Kp.trans K k1)
    | (go_at_call 80; refine (hS _ h _).mono ?_; rintro e w1 ⟨rfl, i9, c9⟩)
    | (go_at_call 84; refine (hW _ h _).mono ?_; rintro e w1 ⟨rfl, i9, c9⟩)
    | (go_at_call 94; refine (hJ _ h _).mono ?_; rintro e w1 ⟨rfl, i9, c9⟩))
  first | go_end0 | refine bodyPost_ret (results_none rfl _ _ _) rfl ?_
  exact ⟨rfl, i9, Chg.trans (Kp.any K) c9 (fun _ _ e => e)⟩

theorem d_shr (w : World) (hg : Gt w) (B : Nat) (s : St) (h : IsT w B s) (ho : s.ok) :
    Calls Tryz.prog 45 #[.pointer (some ⟨B, 0, none⟩)] w fun e w' => Vo w B (s.setD (s.va / 2 ^ (s.oth % 32).toNat)) e w' := by
  have hA := fun w h => a_any w B s h ho
  have hB := fun w h => b_any w B s h ho
  have hO := fun w g h => other_any w g B s h ho
  have hN := fun w h => n_any w B s h
  have hL := fun w a b => lessSigned_any w a b
  have hS := fun w h v => set_any w B s h ho v
  have hW := fun w h v => setWhether_any w B s h ho v
  have hJ := fun w h v => goIf_any w B s h v
  have K := Kp.refl w
  have ra := ho.ra
  have rb := ho.rb
  have ro := ho.ro
  have rn := vn_r s
  generalize s.va = va at *
  generalize s.vb = vb at *
  generalize s.oth = vo at *
  generalize s.vn = vn at *
  go_enter Tryz.func45, Tryz.ntmps45
  go_wp2_with (first
    | (go_at_call 81; refine (hA _ h).mono ?_; rintro e w1 ⟨rfl, k1⟩; have h := h.kp k1; have hg := hg.keep k1; have K := Kp.trans K k1)
    | (go_at_call 83; refine (hB _ h).mono ?_; rintro e w1 ⟨rfl, k1⟩; have h := h.kp k1; have hg := hg.keep k1; have K := Kp.trans K k1)
    | (go_at_call 82; refine (hO _ hg h).mono ?_; rintro e w1 ⟨rfl, k1⟩; have h := h.kp k1; have hg := hg.keep k1; have K := Kp.trans K k1)
    | (go_at_call 86; refine (hN _ h).mono ?_; rintro e w1 ⟨rfl, k1⟩; have h := h.kp k1; have hg := hg.keep k1; have K := Kp.trans K k1)
    | (go_at_call 85; refine (hL _ _ _).mono ?_; rintro e w1 ⟨rfl, k1⟩; have h := h.kp k1; have hg := hg.keep k1; have K := Kp.trans K k1)
    | (go_at_call 80; refine (hS _ h _).mono ?_; rintro e w1 ⟨rfl, i9, c9⟩)
    | (go_at_call 84; refine (hW _ h _).mono ?_; rintro e w1 ⟨rfl, i9, c9⟩)
    | (go_at_call 94; refine (hJ _ h _).mono ?_; rintro e w1 ⟨rfl, i9, c9⟩))
  first | go_end0 | refine bodyPost_ret (results_none rfl _ _ _) rfl ?_
  exact ⟨rfl, i9, Chg.trans (Kp.any K) c9 (fun _ _ e => e)⟩

theorem d_sar (w : World) (hg : Gt w) (B : Nat) (s : St) (h : IsT w B s) (ho : s.ok) :
    Calls Tryz.prog 46 #[.pointer (some ⟨B, 0, none⟩)] w fun e w' => Vo w B (s.setD (wrap32 s.va / 2 ^ (s.oth % 32).toNat % 4294967296)) e w' := by
  have hA := fun w h => a_any w B s h ho
  have hB := fun w h => b_any w B s h ho
  have hO := fun w g h => other_any w g B s h ho
  have hN := fun w h => n_any w B s h
  have hL := fun w a b => lessSigned_any w a b
  have hS := fun w h v => set_any w B s h ho v
  have hW := fun w h v => setWhether_any w B s h ho v
  have hJ := fun w h v => goIf_any w B s h v
  have K := Kp.refl w
  have ra := ho.ra
  have rb := ho.rb
  have ro := ho.ro
  have rn := vn_r s
  generalize s.va = va at *
  generalize s.vb = vb at *
  generalize s.oth = vo at *
  generalize s.vn = vn at *
  go_enter Tryz.func46, Tryz.ntmps46
  go_wp2_with (first
    | (go_at_call 81; refine (hA _ h).mono ?_; rintro e w1 ⟨rfl, k1⟩; have h := h.kp k1; have hg := hg.keep k1; have K := Kp.trans K k1)
    | (go_at_call 83; refine (hB _ h).mono ?_; rintro e w1 ⟨rfl, k1⟩; have h := h.kp k1; have hg := hg.keep k1; have K := Kp.trans K k1)
    | (go_at_call 82; refine (hO _ hg h).mono ?_; rintro e w1 ⟨rfl, k1⟩; have h := h.kp k1; have hg := hg.keep k1; have K := Kp.trans K k1)
    | (go_at_call 86; refine (hN _ h).mono ?_; rintro e w1 ⟨rfl, k1⟩; have h := h.kp k1; have hg := hg.keep k1; have K := Kp.trans K k1)
    | (go_at_call 85; refine (hL _ _ _).mono ?_; rintro e w1 ⟨rfl, k1⟩; have h := h.kp k1; have hg := hg.keep k1; have K := Kp.trans K k1)
    | (go_at_call 80; refine (hS _ h _).mono ?_; rintro e w1 ⟨rfl, i9, c9⟩)
    | (go_at_call 84; refine (hW _ h _).mono ?_; rintro e w1 ⟨rfl, i9, c9⟩)
    | (go_at_call 94; refine (hJ _ h _).mono ?_; rintro e w1 ⟨rfl, i9, c9⟩))
  first | go_end0 | refine bodyPost_ret (results_none rfl _ _ _) rfl ?_
  exact ⟨rfl, i9, Chg.trans (Kp.any K) c9 (fun _ _ e => e)⟩

theorem d_slt (w : World) (hg : Gt w) (B : Nat) (s : St) (h : IsT w B s) (ho : s.ok) :
    Calls Tryz.prog 47 #[.pointer (some ⟨B, 0, none⟩)] w fun e w' => Vo w B (s.setD ((decide (wrap32 s.va < wrap32 s.oth)).toInt)) e w' := by
  have hA := fun w h => a_any w B s h ho
  have hB := fun w h => b_any w B s h ho
  have hO := fun w g h => other_any w g B s h ho
  have hN := fun w h => n_any w B s h
  have hL := fun w a b => lessSigned_any w a b
  have hS := fun w h v => set_any w B s h ho v
  have hW := fun w h v => setWhether_any w B s h ho v
  have hJ := fun w h v => goIf_any w B s h v
  have K := Kp.refl w
  have ra := ho.ra
  have rb := ho.rb
  have ro := ho.ro
  have rn := vn_r s
  generalize s.va = va at *
  generalize s.vb = vb at *
  generalize s.oth = vo at *
  generalize s.vn = vn at *
  go_enter Tryz.func47, Tryz.ntmps47
  go_wp2_with (first
    | (go_at_call 81; refine (hA _ h).mono ?_; rintro e w1 ⟨rfl, k1⟩; have h := h.kp k1; have hg := hg.keep k1; have K := Kp.trans K k1)
    | (go_at_call 83; refine (hB _ h).mono ?_; rintro e w1 ⟨rfl, k1⟩; have h := h.kp k1; have hg := hg.keep k1; have K := Kp.trans K k1)
    | (go_at_call 82; refine (hO _ hg h).mono ?_; rintro e w1 ⟨rfl, k1⟩; have h := h.kp k1; have hg := hg.keep k1; have K := Kp.trans K k1)
    | (go_at_call 86; refine (hN _ h).mono ?_; rintro e w1 ⟨rfl, k1⟩; have h := h.kp k1; have hg := hg.keep k1; have K := Kp.trans K k1)
    | (go_at_call 85; refine (hL _ _ _).mono ?_; rintro e w1 ⟨rfl, k1⟩; have h := h.kp k1; have hg := hg.keep k1; have K := Kp.trans K k1)
    | (go_at_call 80; refine (hS _ h _).mono ?_; rintro e w1 ⟨rfl, i9, c9⟩)
    | (go_at_call 84; refine (hW _ h _).mono ?_; rintro e w1 ⟨rfl, i9, c9⟩)
    | (go_at_call 94; refine (hJ _ h _).mono ?_; rintro e w1 ⟨rfl, i9, c9⟩))
  first | go_end0 | refine bodyPost_ret (results_none rfl _ _ _) rfl ?_
  exact ⟨rfl, i9, Chg.trans (Kp.any K) c9 (fun _ _ e => e)⟩

theorem d_sltu (w : World) (hg : Gt w) (B : Nat) (s : St) (h : IsT w B s) (ho : s.ok) :
    Calls Tryz.prog 48 #[.pointer (some ⟨B, 0, none⟩)] w fun e w' => Vo w B (s.setD ((decide (s.va < s.oth)).toInt)) e w' := by
  have hA := fun w h => a_any w B s h ho
  have hB := fun w h => b_any w B s h ho
  have hO := fun w g h => other_any w g B s h ho
  have hN := fun w h => n_any w B s h
  have hL := fun w a b => lessSigned_any w a b
  have hS := fun w h v => set_any w B s h ho v
  have hW := fun w h v => setWhether_any w B s h ho v
  have hJ := fun w h v => goIf_any w B s h v
  have K := Kp.refl w
  have ra := ho.ra
  have rb := ho.rb
  have ro := ho.ro
  have rn := vn_r s
  generalize s.va = va at *
  generalize s.vb = vb at *
  generalize s.oth = vo at *
  generalize s.vn = vn at *
  go_enter Tryz.func48, Tryz.ntmps48
  go_wp2_with (first
    | (go_at_call 81; refine (hA _ h).mono ?_; rintro e w1 ⟨rfl, k1⟩; have h := h.kp k1; have hg := hg.keep k1; have K := Kp.trans K k1)
    | (go_at_call 83; refine (hB _ h).mono ?_; rintro e w1 ⟨rfl, k1⟩; have h := h.kp k1; have hg := hg.keep k1; have K := Kp.trans K k1)
    | (go_at_call 82; refine (hO _ hg h).mono ?_; rintro e w1 ⟨rfl, k1⟩; have h := h.kp k1; have hg := hg.keep k1; have K := Kp.trans K k1)
    | (go_at_call 86; refine (hN _ h).mono ?_; rintro e w1 ⟨rfl, k1⟩; have h := h.kp k1; have hg := hg.keep k1; have K := Kp.trans K k1)
    | (go_at_call 85; refine (hL _ _ _).mono ?_; rintro e w1 ⟨rfl, k1⟩; have h := h.kp k1; have hg := hg.keep k1; have K := Kp.trans K k1)
    | (go_at_call 80; refine (hS _ h _).mono ?_; rintro e w1 ⟨rfl, i9, c9⟩)
    | (go_at_call 84; refine (hW _ h _).mono ?_; rintro e w1 ⟨rfl, i9, c9⟩)
    | (go_at_call 94; refine (hJ _ h _).mono ?_; rintro e w1 ⟨rfl, i9, c9⟩))
  first | go_end0 | refine bodyPost_ret (results_none rfl _ _ _) rfl ?_
  exact ⟨rfl, i9, Chg.trans (Kp.any K) c9 (fun _ _ e => e)⟩

theorem d_lui (w : World) (hg : Gt w) (B : Nat) (s : St) (h : IsT w B s) (ho : s.ok) :
    Calls Tryz.prog 49 #[.pointer (some ⟨B, 0, none⟩)] w fun e w' => Vo w B (s.setD (s.vn * 16384 % 4294967296)) e w' := by
  have hA := fun w h => a_any w B s h ho
  have hB := fun w h => b_any w B s h ho
  have hO := fun w g h => other_any w g B s h ho
  have hN := fun w h => n_any w B s h
  have hL := fun w a b => lessSigned_any w a b
  have hS := fun w h v => set_any w B s h ho v
  have hW := fun w h v => setWhether_any w B s h ho v
  have hJ := fun w h v => goIf_any w B s h v
  have K := Kp.refl w
  have ra := ho.ra
  have rb := ho.rb
  have ro := ho.ro
  have rn := vn_r s
  generalize s.va = va at *
  generalize s.vb = vb at *
  generalize s.oth = vo at *
  generalize s.vn = vn at *
  go_enter Tryz.func49, Tryz.ntmps49
  go_wp2_with (first
    | (go_at_call 81; refine (hA _ h).mono ?_; rintro e w1 ⟨rfl, k1⟩; have h := h.kp k1; have hg := hg.keep k1; have K := Kp.trans K k1)
    | (go_at_call 83; refine (hB _ h).mono ?_; rintro e w1 ⟨rfl, k1⟩; have h := h.kp k1; have hg := hg.keep k1; have K := Kp.trans K k1)
    | (go_at_call 82; refine (hO _ hg h).mono ?_; rintro e w1 ⟨rfl, k1⟩; have h := h.kp k1; have hg := hg.keep k1; have K := Kp.trans K k1)
    | (go_at_call 86; refine (hN _ h).mono ?_; rintro e w1 ⟨rfl, k1⟩; have h := h.kp k1; have hg := hg.keep k1; have K := Kp.trans K k1)
    | (go_at_call 85; refine (hL _ _ _).mono ?_; rintro e w1 ⟨rfl, k1⟩; have h := h.kp k1; have hg := hg.keep k1; have K := Kp.trans K k1)
    | (go_at_call 80; refine (hS _ h _).mono ?_; rintro e w1 ⟨rfl, i9, c9⟩)
    | (go_at_call 84; refine (hW _ h _).mono ?_; rintro e w1 ⟨rfl, i9, c9⟩)
    | (go_at_call 94; refine (hJ _ h _).mono ?_; rintro e w1 ⟨rfl, i9, c9⟩))
  first | go_end0 | refine bodyPost_ret (results_none rfl _ _ _) rfl ?_
  exact ⟨rfl, i9, Chg.trans (Kp.any K) c9 (fun _ _ e => e)⟩

theorem d_div0 (w : World) (hg : Gt w) (B : Nat) (s : St) (h : IsT w B s) (ho : s.ok) (hz : s.vb = 0) :
    Calls Tryz.prog 39 #[.pointer (some ⟨B, 0, none⟩)] w fun e w' => Vo w B (s.setD (4294967295)) e w' := by
  have hA := fun w h => a_any w B s h ho
  have hB := fun w h => b_any w B s h ho
  have hO := fun w g h => other_any w g B s h ho
  have hN := fun w h => n_any w B s h
  have hL := fun w a b => lessSigned_any w a b
  have hS := fun w h v => set_any w B s h ho v
  have hW := fun w h v => setWhether_any w B s h ho v
  have hJ := fun w h v => goIf_any w B s h v
  have K := Kp.refl w
  have ra := ho.ra
  have rb := ho.rb
  have ro := ho.ro
  have rn := vn_r s
  rw [hz] at hB
  generalize s.va = va at *
  generalize s.vb = vb at *
  generalize s.oth = vo at *
  generalize s.vn = vn at *
  go_enter Tryz.func39, Tryz.ntmps39
  go_wp2_with (first
    | (go_at_call 81; refine (hA _ h).mono ?_; rintro e w1 ⟨rfl, k1⟩; have h := h.kp k1; have hg := hg.keep k1; have K := Kp.trans K k1)
    | (go_at_call 83; refine (hB _ h).mono ?_; rintro e w1 ⟨rfl, k1⟩; have h := h.kp k1; have hg := hg.keep k1; have K := Kp.trans K k1)
    | (go_at_call 82; refine (hO _ hg h).mono ?_; rintro e w1 ⟨rfl, k1⟩; have h := h.kp k1; have hg := hg.keep k1; have K := Kp.trans K k1)
    | (go_at_call 86; refine (hN _ h).mono ?_; rintro e w1 ⟨rfl, k1⟩; have h := h.kp k1; have hg := hg.keep k1; have K := Kp.trans K k1)
    | (go_at_call 85; refine (hL _ _ _).mono ?_; rintro e w1 ⟨rfl, k1⟩; have h := h.kp k1; have hg := hg.keep k1; have K := Kp.trans K k1)
    | (go_at_call 80; refine (hS _ h _).mono ?_; rintro e w1 ⟨rfl, i9, c9⟩)
    | (go_at_call 84; refine (hW _ h _).mono ?_; rintro e w1 ⟨rfl, i9, c9⟩)
    | (go_at_call 94; refine (hJ _ h _).mono ?_; rintro e w1 ⟨rfl, i9, c9⟩))
  first | go_end0 | refine bodyPost_ret (results_none rfl _ _ _) rfl ?_
  exact ⟨rfl, i9, Chg.trans (Kp.any K) c9 (fun _ _ e => e)⟩

theorem d_div1 (w : World) (hg : Gt w) (B : Nat) (s : St) (h : IsT w B s) (ho : s.ok) (hz : s.vb ≠ 0) :
    Calls Tryz.prog 39 #[.pointer (some ⟨B, 0, none⟩)] w fun e w' => Vo w B (s.setD (s.va / s.vb)) e w' := by
  have hA := fun w h => a_any w B s h ho
  have hB := fun w h => b_any w B s h ho
  have hO := fun w g h => other_any w g B s h ho
  have hN := fun w h => n_any w B s h
  have hL := fun w a b => lessSigned_any w a b
  have hS := fun w h v => set_any w B s h ho v
  have hW := fun w h v => setWhether_any w B s h ho v
  have hJ := fun w h v => goIf_any w B s h v
  have K := Kp.refl w
  have ra := ho.ra
  have rb := ho.rb
  have ro := ho.ro
  have rn := vn_r s
  have hz1 : (s.vb == 0) = false := by simpa using hz
  generalize s.va = va at *
  generalize s.vb = vb at *
  generalize s.oth = vo at *
  generalize s.vn = vn at *
  go_enter Tryz.func39, Tryz.ntmps39
  go_wp2_with (first
    | (go_at_call 81; refine (hA _ h).mono ?_; rintro e w1 ⟨rfl, k1⟩; have h := h.kp k1; have hg := hg.keep k1; have K := Kp.trans K k1)
    | (go_at_call 83; refine (hB _ h).mono ?_; rintro e w1 ⟨rfl, k1⟩; have h := h.kp k1; have hg := hg.keep k1; have K := Kp.trans K k1)
    | (go_at_call 82; refine (hO _ hg h).mono ?_; rintro e w1 ⟨rfl, k1⟩; have h := h.kp k1; have hg := hg.keep k1; have K := Kp.trans K k1)
    | (go_at_call 86; refine (hN _ h).mono ?_; rintro e w1 ⟨rfl, k1⟩; have h := h.kp k1; have hg := hg.keep k1; have K := Kp.trans K k1)
    | (go_at_call 85; refine (hL _ _ _).mono ?_; rintro e w1 ⟨rfl, k1⟩; have h := h.kp k1; have hg := hg.keep k1; have K := Kp.trans K k1)
    | (go_at_call 80; refine (hS _ h _).mono ?_; rintro e w1 ⟨rfl, i9, c9⟩)
    | (go_at_call 84; refine (hW _ h _).mono ?_; rintro e w1 ⟨rfl, i9, c9⟩)
    | (go_at_call 94; refine (hJ _ h _).mono ?_; rintro e w1 ⟨rfl, i9, c9⟩))
  first | go_end0 | refine bodyPost_ret (results_none rfl _ _ _) rfl ?_
  exact ⟨rfl, i9, Chg.trans (Kp.any K) c9 (fun _ _ e => e)⟩

theorem d_rem0 (w : World) (hg : Gt w) (B : Nat) (s : St) (h : IsT w B s) (ho : s.ok) (hz : s.vb = 0) :
    Calls Tryz.prog 40 #[.pointer (some ⟨B, 0, none⟩)] w fun e w' => Vo w B (s.setD (s.va)) e w' := by
  have hA := fun w h => a_any w B s h ho
  have hB := fun w h => b_any w B s h ho
  have hO := fun w g h => other_any w g B s h ho
  have hN := fun w h => n_any w B s h
  have hL := fun w a b => lessSigned_any w a b
  have hS := fun w h v => set_any w B s h ho v
  have hW := fun w h v => setWhether_any w B s h ho v
  have hJ := fun w h v => goIf_any w B s h v
  have K := Kp.refl w
  have ra := ho.ra
  have rb := ho.rb
  have ro := ho.ro
  have rn := vn_r s
  rw [hz] at hB
  generalize s.va = va at *
  generalize s.vb = vb at *
  generalize s.oth = vo at *
  generalize s.vn = vn at *
  go_enter Tryz.func40, Tryz.ntmps40
  go_wp2_with (first
    | (go_at_call 81; refine (hA _ h).mono ?_; rintro e w1 ⟨rfl, k1⟩; have h := h.kp k1; have hg := hg.keep k1; have K := Kp.trans K k1)
    | (go_at_call 83; refine (hB _ h).mono ?_; rintro e w1 ⟨rfl, k1⟩; have h := h.kp k1; have hg := hg.keep k1; have K := Kp.trans K k1)
    | (go_at_call 82; refine (hO _ hg h).mono ?_; rintro e w1 ⟨rfl, k1⟩; have h := h.kp k1; have hg := hg.keep k1; have K := Kp.trans K k1)
    | (go_at_call 86; refine (hN _ h).mono ?_; rintro e w1 ⟨rfl, k1⟩; have h := h.kp k1; have hg := hg.keep k1; have K := Kp.trans K k1)
    | (go_at_call 85; refine (hL _ _ _).mono ?_; rintro e w1 ⟨rfl, k1⟩; have h := h.kp k1; have hg := hg.keep k1; have K := Kp.trans K k1)
    | (go_at_call 80; refine (hS _ h _).mono ?_; rintro e w1 ⟨rfl, i9, c9⟩)
    | (go_at_call 84; refine (hW _ h _).mono ?_; rintro e w1 ⟨rfl, i9, c9⟩)
    | (go_at_call 94; refine (hJ _ h _).mono ?_; rintro e w1 ⟨rfl, i9, c9⟩))
  first | go_end0 | refine bodyPost_ret (results_none rfl _ _ _) rfl ?_
  exact ⟨rfl, i9, Chg.trans (Kp.any K) c9 (fun _ _ e => e)⟩

theorem d_rem1 (w : World) (hg : Gt w) (B : Nat) (s : St) (h : IsT w B s) (ho : s.ok) (hz : s.vb ≠ 0) :
    Calls Tryz.prog 40 #[.pointer (some ⟨B, 0, none⟩)] w fun e w' => Vo w B (s.setD (s.va % s.vb)) e w' := by
  have hA := fun w h => a_any w B s h ho
  have hB := fun w h => b_any w B s h ho
  have hO := fun w g h => other_any w g B s h ho
  have hN := fun w h => n_any w B s h
  have hL := fun w a b => lessSigned_any w a b
  have hS := fun w h v => set_any w B s h ho v
  have hW := fun w h v => setWhether_any w B s h ho v
  have hJ := fun w h v => goIf_any w B s h v
  have K := Kp.refl w
  have ra := ho.ra
  have rb := ho.rb
  have ro := ho.ro
  have rn := vn_r s
  have hz1 : (s.vb == 0) = false := by simpa using hz
  generalize s.va = va at *
  generalize s.vb = vb at *
  generalize s.oth = vo at *
  generalize s.vn = vn at *
  go_enter Tryz.func40, Tryz.ntmps40
  go_wp2_with (first
    | (go_at_call 81; refine (hA _ h).mono ?_; rintro e w1 ⟨rfl, k1⟩; have h := h.kp k1; have hg := hg.keep k1; have K := Kp.trans K k1)
    | (go_at_call 83; refine (hB _ h).mono ?_; rintro e w1 ⟨rfl, k1⟩; have h := h.kp k1; have hg := hg.keep k1; have K := Kp.trans K k1)
    | (go_at_call 82; refine (hO _ hg h).mono ?_; rintro e w1 ⟨rfl, k1⟩; have h := h.kp k1; have hg := hg.keep k1; have K := Kp.trans K k1)
    | (go_at_call 86; refine (hN _ h).mono ?_; rintro e w1 ⟨rfl, k1⟩; have h := h.kp k1; have hg := hg.keep k1; have K := Kp.trans K k1)
    | (go_at_call 85; refine (hL _ _ _).mono ?_; rintro e w1 ⟨rfl, k1⟩; have h := h.kp k1; have hg := hg.keep k1; have K := Kp.trans K k1)
    | (go_at_call 80; refine (hS _ h _).mono ?_; rintro e w1 ⟨rfl, i9, c9⟩)
    | (go_at_call 84; refine (hW _ h _).mono ?_; rintro e w1 ⟨rfl, i9, c9⟩)
    | (go_at_call 94; refine (hJ _ h _).mono ?_; rintro e w1 ⟨rfl, i9, c9⟩))
  first | go_end0 | refine bodyPost_ret (results_none rfl _ _ _) rfl ?_
  exact ⟨rfl, i9, Chg.trans (Kp.any K) c9 (fun _ _ e => e)⟩

theorem d_beq (w : World) (hg : Gt w) (B : Nat) (s : St) (h : IsT w B s) (ho : s.ok) :
    Calls Tryz.prog 58 #[.pointer (some ⟨B, 0, none⟩)] w fun e w' => Vo w B (s.goIf (s.va == s.vb)) e w' := by
  have hA := fun w h => a_any w B s h ho
  have hB := fun w h => b_any w B s h ho
  have hO := fun w g h => other_any w g B s h ho
  have hN := fun w h => n_any w B s h
  have hL := fun w a b => lessSigned_any w a b
  have hS := fun w h v => set_any w B s h ho v
  have hW := fun w h v => setWhether_any w B s h ho v
  have hJ := fun w h v => goIf_any w B s h v
  have K := Kp.refl w
  have ra := ho.ra
  have rb := ho.rb
  have ro := ho.ro
  have rn := vn_r s
  generalize s.va = va at *
  generalize s.vb = vb at *
  generalize s.oth = vo at *
  generalize s.vn = vn at *
  go_enter Tryz.func58, Tryz.ntmps58
  go_wp2_with (first
    | (go_at_call 81; refine (hA _ h).mono ?_; rintro e w1 ⟨rfl, k1⟩; have h := h.kp k1; have hg := hg.keep k1; have K := Kp.trans K k1)
    | (go_at_call 83; refine (hB _ h).mono ?_; rintro e w1 ⟨rfl, k1⟩; have h := h.kp k1; have hg := hg.keep k1; have K := Kp.trans K k1)
    | (go_at_call 82; refine (hO _ hg h).mono ?_; rintro e w1 ⟨rfl, k1⟩; have h := h.kp k1; have hg := hg.keep k1; have K := Kp.trans K k1)
    | (go_at_call 86; refine (hN _ h).mono ?_; rintro e w1 ⟨rfl, k1⟩; have h := h.kp k1; have hg := hg.keep k1; have K := Kp.trans K k1)
    | (go_at_call 85; refine (hL _ _ _).mono ?_; rintro e w1 ⟨rfl, k1⟩; have h := h.kp k1; have hg := hg.keep k1; have K := Kp.trans K k1)
    | (go_at_call 80; refine (hS _ h _).mono ?_; rintro e w1 ⟨rfl, i9, c9⟩)
    | (go_at_call 84; refine (hW _ h _).mono ?_; rintro e w1 ⟨rfl, i9, c9⟩)
    | (go_at_call 94; refine (hJ _ h _).mono ?_; rintro e w1 ⟨rfl, i9, c9⟩))
  first | go_end0 | refine bodyPost_ret (results_none rfl _ _ _) rfl ?_
  exact ⟨rfl, i9, Chg.trans (Kp.any K) c9 (fun _ _ e => e)⟩

theorem d_bne (w : World) (hg : Gt w) (B : Nat) (s : St) (h : IsT w B s) (ho : s.ok) :
    Calls Tryz.prog 59 #[.pointer (some ⟨B, 0, none⟩)] w fun e w' => Vo w B (s.goIf (!(s.va == s.vb))) e w' := by
  have hA := fun w h => a_any w B s h ho
  have hB := fun w h => b_any w B s h ho
  have hO := fun w g h => other_any w g B s h ho
  have hN := fun w h => n_any w B s h
  have hL := fun w a b => lessSigned_any w a b
  have hS := fun w h v => set_any w B s h ho v
  have hW := fun w h v => setWhether_any w B s h ho v
  have hJ := fun w h v => goIf_any w B s h v
  have K := Kp.refl w
  have ra := ho.ra
  have rb := ho.rb
  have ro := ho.ro
  have rn := vn_r s
  generalize s.va = va at *
  generalize s.vb = vb at *
  generalize s.oth = vo at *
  generalize s.vn = vn at *
  go_enter Tryz.func59, Tryz.ntmps59
  go_wp2_with (first
    | (go_at_call 81; refine (hA _ h).mono ?_; rintro e w1 ⟨rfl, k1⟩; have h := h.kp k1; have hg := hg.keep k1; have K := Kp.trans K k1)
    | (go_at_call 83; refine (hB _ h).mono ?_; rintro e w1 ⟨rfl, k1⟩; have h := h.kp k1; have hg := hg.keep k1; have K := Kp.trans K k1)
    | (go_at_call 82; refine (hO _ hg h).mono ?_; rintro e w1 ⟨rfl, k1⟩; have h := h.kp k1; have hg := hg.keep k1; have K := Kp.trans K k1)
    | (go_at_call 86; refine (hN _ h).mono ?_; rintro e w1 ⟨rfl, k1⟩; have h := h.kp k1; have hg := hg.keep k1; have K := Kp.trans K k1)
    | (go_at_call 85; refine (hL _ _ _).mono ?_; rintro e w1 ⟨rfl, k1⟩; have h := h.kp k1; have hg := hg.keep k1; have K := Kp.trans K k1)
    | (go_at_call 80; refine (hS _ h _).mono ?_; rintro e w1 ⟨rfl, i9, c9⟩)
    | (go_at_call 84; refine (hW _ h _).mono ?_; rintro e w1 ⟨rfl, i9, c9⟩)
    | (go_at_call 94; refine (hJ _ h _).mono ?_; rintro e w1 ⟨rfl, i9, c9⟩))
  first | go_end0 | refine bodyPost_ret (results_none rfl _ _ _) rfl ?_
  exact ⟨rfl, i9, Chg.trans (Kp.any K) c9 (fun _ _ e => e)⟩

theorem d_blt (w : World) (hg : Gt w) (B : Nat) (s : St) (h : IsT w B s) (ho : s.ok) :
    Calls Tryz.prog 60 #[.pointer (some ⟨B, 0, none⟩)] w fun e w' => Vo w B (s.goIf (decide (wrap32 s.va < wrap32 s.vb))) e w' := by
  have hA := fun w h => a_any w B s h ho
  have hB := fun w h => b_any w B s h ho
  have hO := fun w g h => other_any w g B s h ho
  have hN := fun w h => n_any w B s h
  have hL := fun w a b => lessSigned_any w a b
  have hS := fun w h v => set_any w B s h ho v
  have hW := fun w h v => setWhether_any w B s h ho v
  have hJ := fun w h v => goIf_any w B s h v
  have K := Kp.refl w
  have ra := ho.ra
  have rb := ho.rb
  have ro := ho.ro
  have rn := vn_r s
  generalize s.va = va at *
  generalize s.vb = vb at *
  generalize s.oth = vo at *
  generalize s.vn = vn at *
  go_enter Tryz.func60, Tryz.ntmps60
  go_wp2_with (first
    | (go_at_call 81; refine (hA _ h).mono ?_; rintro e w1 ⟨rfl, k1⟩; have h := h.kp k1; have hg := hg.keep k1; have K := Kp.trans K k1)
    | (go_at_call 83; refine (hB _ h).mono ?_; rintro e w1 ⟨rfl, k1⟩; have h := h.kp k1; have hg := hg.keep k1; have K := Kp.trans K k1)
    | (go_at_call 82; refine (hO _ hg h).mono ?_; rintro e w1 ⟨rfl, k1⟩; have h := h.kp k1; have hg := hg.keep k1; have K := Kp.trans K k1)
    | (go_at_call 86; refine (hN _ h).mono ?_; rintro e w1 ⟨rfl, k1⟩; have h := h.kp k1; have hg := hg.keep k1; have K := Kp.trans K k1)
    | (go_at_call 85; refine (hL _ _ _).mono ?_; rintro e w1 ⟨rfl, k1⟩; have h := h.kp k1; have hg := hg.keep k1; have K := Kp.trans K k1)
    | (go_at_call 80; refine (hS _ h _).mono ?_; rintro e w1 ⟨rfl, i9, c9⟩)
    | (go_at_call 84; refine (hW _ h _).mono ?_; rintro e w1 ⟨rfl, i9, c9⟩)
    | (go_at_call 94; refine (hJ _ h _).mono ?_; rintro e w1 ⟨rfl, i9, c9⟩))
  first | go_end0 | refine bodyPost_ret (results_none rfl _ _ _) rfl ?_
  exact ⟨rfl, i9, Chg.trans (Kp.any K) c9 (fun _ _ e => e)⟩

theorem d_bge (w : World) (hg : Gt w) (B : Nat) (s : St) (h : IsT w B s) (ho : s.ok) :
    Calls Tryz.prog 61 #[.pointer (some ⟨B, 0, none⟩)] w fun e w' => Vo w B (s.goIf (!decide (wrap32 s.va < wrap32 s.vb))) e w' := by
  have hA := fun w h => a_any w B s h ho
  have hB := fun w h => b_any w B s h ho
  have hO := fun w g h => other_any w g B s h ho
  have hN := fun w h => n_any w B s h
  have hL := fun w a b => lessSigned_any w a b
  have hS := fun w h v => set_any w B s h ho v
  have hW := fun w h v => setWhether_any w B s h ho v
  have hJ := fun w h v => goIf_any w B s h v
  have K := Kp.refl w
  have ra := ho.ra
  have rb := ho.rb
  have ro := ho.ro
  have rn := vn_r s
  generalize s.va = va at *
  generalize s.vb = vb at *
  generalize s.oth = vo at *
  generalize s.vn = vn at *
  go_enter Tryz.func61, Tryz.ntmps61
  go_wp2_with (first
    | (go_at_call 81; refine (hA _ h).mono ?_; rintro e w1 ⟨rfl, k1⟩; have h := h.kp k1; have hg := hg.keep k1; have K := Kp.trans K k1)
    | (go_at_call 83; refine (hB _ h).mono ?_; rintro e w1 ⟨rfl, k1⟩; have h := h.kp k1; have hg := hg.keep k1; have K := Kp.trans K k1)
    | (go_at_call 82; refine (hO _ hg h).mono ?_; rintro e w1 ⟨rfl, k1⟩; have h := h.kp k1; have hg := hg.keep k1; have K := Kp.trans K k1)
    | (go_at_call 86; refine (hN _ h).mono ?_; rintro e w1 ⟨rfl, k1⟩; have h := h.kp k1; have hg := hg.keep k1; have K := Kp.trans K k1)
    | (go_at_call 85; refine (hL _ _ _).mono ?_; rintro e w1 ⟨rfl, k1⟩; have h := h.kp k1; have hg := hg.keep k1; have K := Kp.trans K k1)
    | (go_at_call 80; refine (hS _ h _).mono ?_; rintro e w1 ⟨rfl, i9, c9⟩)
    | (go_at_call 84; refine (hW _ h _).mono ?_; rintro e w1 ⟨rfl, i9, c9⟩)
    | (go_at_call 94; refine (hJ _ h _).mono ?_; rintro e w1 ⟨rfl, i9, c9⟩))
  first | go_end0 | refine bodyPost_ret (results_none rfl _ _ _) rfl ?_
  exact ⟨rfl, i9, Chg.trans (Kp.any K) c9 (fun _ _ e => e)⟩

theorem d_bltu (w : World) (hg : Gt w) (B : Nat) (s : St) (h : IsT w B s) (ho : s.ok) :
    Calls Tryz.prog 62 #[.pointer (some ⟨B, 0, none⟩)] w fun e w' => Vo w B (s.goIf (decide (s.va < s.vb))) e w' := by
  have hA := fun w h => a_any w B s h ho
  have hB := fun w h => b_any w B s h ho
  have hO := fun w g h => other_any w g B s h ho
  have hN := fun w h => n_any w B s h
  have hL := fun w a b => lessSigned_any w a b
  have hS := fun w h v => set_any w B s h ho v
  have hW := fun w h v => setWhether_any w B s h ho v
  have hJ := fun w h v => goIf_any w B s h v
  have K := Kp.refl w
  have ra := ho.ra
  have rb := ho.rb
  have ro := ho.ro
  have rn := vn_r s
  generalize s.va = va at *
  generalize s.vb = vb at *
  generalize s.oth = vo at *
  generalize s.vn = vn at *
  go_enter Tryz.func62, Tryz.ntmps62
  go_wp2_with (first
    | (go_at_call 81; refine (hA _ h).mono ?_; rintro e w1 ⟨rfl, k1⟩; have h := h.kp k1; have hg := hg.keep k1; have K := Kp.trans K k1)
    | (go_at_call 83; refine (hB _ h).mono ?_; rintro e w1 ⟨rfl, k1⟩; have h := h.kp k1; have hg := hg.keep k1; have K := Kp.trans K k1)
    | (go_at_call 82; refine (hO _ hg h).mono ?_; rintro e w1 ⟨rfl, k1⟩; have h := h.kp k1; have hg := hg.keep k1; have K := Kp.trans K k1)
    | (go_at_call 86; refine (hN _ h).mono ?_; rintro e w1 ⟨rfl, k1⟩; have h := h.kp k1; have hg := hg.keep k1; have K := Kp.trans K k1)
    | (go_at_call 85; refine (hL _ _ _).mono ?_; rintro e w1 ⟨rfl, k1⟩; have h := h.kp k1; have hg := hg.keep k1; have K := Kp.trans K k1)
    | (go_at_call 80; refine (hS _ h _).mono ?_; rintro e w1 ⟨rfl, i9, c9⟩)
    | (go_at_call 84; refine (hW _ h _).mono ?_; rintro e w1 ⟨rfl, i9, c9⟩)
    | (go_at_call 94; refine (hJ _ h _).mono ?_; rintro e w1 ⟨rfl, i9, c9⟩))
  first | go_end0 | refine bodyPost_ret (results_none rfl _ _ _) rfl ?_
  exact ⟨rfl, i9, Chg.trans (Kp.any K) c9 (fun _ _ e => e)⟩

theorem d_bgeu (w : World) (hg : Gt w) (B : Nat) (s : St) (h : IsT w B s) (ho : s.ok) :
    Calls Tryz.prog 63 #[.pointer (some ⟨B, 0, none⟩)] w fun e w' => Vo w B (s.goIf (decide (s.vb ≤ s.va))) e w' := by
  have hA := fun w h => a_any w B s h ho
  have hB := fun w h => b_any w B s h ho
  have hO := fun w g h => other_any w g B s h ho
  have hN := fun w h => n_any w B s h
  have hL := fun w a b => lessSigned_any w a b
  have hS := fun w h v => set_any w B s h ho v
  have hW := fun w h v => setWhether_any w B s h ho v
  have hJ := fun w h v => goIf_any w B s h v
  have K := Kp.refl w
  have ra := ho.ra
  have rb := ho.rb
  have ro := ho.ro
  have rn := vn_r s
  generalize s.va = va at *
  generalize s.vb = vb at *
  generalize s.oth = vo at *
  generalize s.vn = vn at *
  go_enter Tryz.func63, Tryz.ntmps63
  go_wp2_with (first
    | (go_at_call 81; refine (hA _ h).mono ?_; rintro e w1 ⟨rfl, k1⟩; have h := h.kp k1; have hg := hg.keep k1; have K := Kp.trans K k1)
    | (go_at_call 83; refine (hB _ h).mono ?_; rintro e w1 ⟨rfl, k1⟩; have h := h.kp k1; have hg := hg.keep k1; have K := Kp.trans K k1)
    | (go_at_call 82; refine (hO _ hg h).mono ?_; rintro e w1 ⟨rfl, k1⟩; have h := h.kp k1; have hg := hg.keep k1; have K := Kp.trans K k1)
    | (go_at_call 86; refine (hN _ h).mono ?_; rintro e w1 ⟨rfl, k1⟩; have h := h.kp k1; have hg := hg.keep k1; have K := Kp.trans K k1)
    | (go_at_call 85; refine (hL _ _ _).mono ?_; rintro e w1 ⟨rfl, k1⟩; have h := h.kp k1; have hg := hg.keep k1; have K := Kp.trans K k1)
    | (go_at_call 80; refine (hS _ h _).mono ?_; rintro e w1 ⟨rfl, i9, c9⟩)
    | (go_at_call 84; refine (hW _ h _).mono ?_; rintro e w1 ⟨rfl, i9, c9⟩)
    | (go_at_call 94; refine (hJ _ h _).mono ?_; rintro e w1 ⟨rfl, i9, c9⟩))
  first | go_end0 | refine bodyPost_ret (results_none rfl _ _ _) rfl ?_
  exact ⟨rfl, i9, Chg.trans (Kp.any K) c9 (fun _ _ e => e)⟩
end Go.Proofs.YtghiffpolacmiabGreatDoor
namespace Go.Proofs.YtghiffpolacmiabGreatDoor
open Go.ChangeShapes Go.WideShapes Go.ChangeAt Go.RowKit
set_option linter.unusedVariables false

theorem d_wait (w : World) (hg : Gt w) (B : Nat) (s : St) (h : IsT w B s) (ho : s.ok) :
    Calls Tryz.prog 68 #[.pointer (some ⟨B, 0, none⟩)] w fun e w' => Vo w B ({ s with r := { s.r with kind := 5 } }) e w' := by
  have K := Chg.refl w (fun k => k = B)
  have d0 := h.cell 28 _ rfl
  have f0 := h.fr 28
  obtain ⟨i0, k0⟩ := h.set 28 (.int .i64 5) ({ s with r := { s.r with kind := 5 } }) rfl
  have K := Chg.trans K k0 (fun _ _ e => e)
  have HK : Hid (IsT _ B _ ∧ Chg w _ (fun k => k = B)) := ⟨i0, K⟩
  clear i0 k0 K
  go_enter Tryz.func68, Tryz.ntmps68
  go_wp2
  go_end0
  exact ⟨rfl, HK.out⟩

theorem d_ei (w : World) (hg : Gt w) (B : Nat) (s : St) (h : IsT w B s) (ho : s.ok) :
    Calls Tryz.prog 69 #[.pointer (some ⟨B, 0, none⟩)] w fun e w' => Vo w B ({ s with g := { s.g with on := true } }) e w' := by
  have K := Chg.refl w (fun k => k = B)
  have d0 := h.cell 19 _ rfl
  have f0 := h.fr 19
  obtain ⟨i0, k0⟩ := h.set 19 (.bool true) ({ s with g := { s.g with on := true } }) rfl
  have K := Chg.trans K k0 (fun _ _ e => e)
  have HK : Hid (IsT _ B _ ∧ Chg w _ (fun k => k = B)) := ⟨i0, K⟩
  clear i0 k0 K
  go_enter Tryz.func69, Tryz.ntmps69
  go_wp2
  go_end0
  exact ⟨rfl, HK.out⟩

theorem d_di (w : World) (hg : Gt w) (B : Nat) (s : St) (h : IsT w B s) (ho : s.ok) :
    Calls Tryz.prog 70 #[.pointer (some ⟨B, 0, none⟩)] w fun e w' => Vo w B ({ s with g := { s.g with on := false } }) e w' := by
  have K := Chg.refl w (fun k => k = B)
  have d0 := h.cell 19 _ rfl
  have f0 := h.fr 19
  obtain ⟨i0, k0⟩ := h.set 19 (.bool false) ({ s with g := { s.g with on := false } }) rfl
  have K := Chg.trans K k0 (fun _ _ e => e)
  have HK : Hid (IsT _ B _ ∧ Chg w _ (fun k => k = B)) := ⟨i0, K⟩
  clear i0 k0 K
  go_enter Tryz.func70, Tryz.ntmps70
  go_wp2
  go_end0
  exact ⟨rfl, HK.out⟩

theorem d_nop (w : World) (hg : Gt w) (B : Nat) (s : St) (h : IsT w B s) (ho : s.ok) :
    Calls Tryz.prog 74 #[.pointer (some ⟨B, 0, none⟩)] w fun e w' => Vo w B (s) e w' := by
  have K := Chg.refl w (fun k => k = B)
  have HK : Hid (IsT _ B _ ∧ Chg w _ (fun k => k = B)) := ⟨h, K⟩
  go_enter Tryz.func74, Tryz.ntmps74
  go_wp2
  go_end0
  exact ⟨rfl, HK.out⟩

theorem d_eret1 (w : World) (hg : Gt w) (B : Nat) (s : St) (h : IsT w B s) (ho : s.ok) (hd : s.g.hd = true) :
    Calls Tryz.prog 71 #[.pointer (some ⟨B, 0, none⟩)] w fun e w' => Vo w B ({ s with nx := s.g.back, g := { s.g with hd := false } }) e w' := by
  have K := Chg.refl w (fun k => k = B)
  have c0 := h.cell 20 (.bool s.g.hd) rfl
  rw [hd] at c0
  have c1 := h.cell 18 (.int .u32 s.g.back) rfl
  have d0 := h.cell 27 _ rfl
  have f0 := h.fr 27
  obtain ⟨i0, k0⟩ := h.set 27 (.int .u32 s.g.back) (s.to s.g.back) rfl
  have K := Chg.trans K k0 (fun _ _ e => e)
  have d1 := i0.cell 20 _ rfl
  have f1 := i0.fr 20
  obtain ⟨i1, k1⟩ := i0.set 20 (.bool false) ({ s with nx := s.g.back, g := { s.g with hd := false } }) rfl
  have K := Chg.trans K k1 (fun _ _ e => e)
  have HK : Hid (IsT _ B _ ∧ Chg w _ (fun k => k = B)) := ⟨i1, K⟩
  clear i0 k0 i1 k1 K
  go_enter Tryz.func71, Tryz.ntmps71
  go_wp2
  go_end0
  exact ⟨rfl, HK.out⟩

theorem d_eret0 (w : World) (hg : Gt w) (B : Nat) (s : St) (h : IsT w B s) (ho : s.ok) (hd : s.g.hd = false) :
    Calls Tryz.prog 71 #[.pointer (some ⟨B, 0, none⟩)] w fun e w' => Vo w B (s.fault 6 s.g.pc) e w' := by
  have c0 := h.cell 20 (.bool s.g.hd) rfl
  rw [hd] at c0
  have c1 := h.cell 16 (.int .u32 s.g.pc) rfl
  have hR := refuse_any w B s h 6 s.g.pc
  clear h
  generalize s.fault 6 s.g.pc = t at *
  generalize s.g.pc = p at *
  go_enter Tryz.func71, Tryz.ntmps71
  go_wp2_with (go_at_call 34; refine hR.mono ?_; rintro e w1 ⟨rfl, i9, c9⟩)
  first | go_end0 | refine bodyPost_ret (results_none rfl _ _ _) rfl ?_
  exact ⟨rfl, i9, c9⟩

theorem d_halt (w : World) (hg : Gt w) (B : Nat) (s : St) (h : IsT w B s) (ho : s.ok) :
    Calls Tryz.prog 73 #[.pointer (some ⟨B, 0, none⟩)] w fun e w' => Vo w B (({ s with r := { s.r with kind := 4 } } : St).to s.g.pc) e w' := by
  have d0 := h.cell 28 _ rfl
  have f0 := h.fr 28
  obtain ⟨i0, k0⟩ := h.set 28 (.int .i64 4) { s with r := { s.r with kind := 4 } } rfl
  have hR := stay_any _ B _ i0
  clear h i0
  go_enter Tryz.func73, Tryz.ntmps73
  go_wp2_with (go_at_call 75; refine hR.mono ?_; rintro e w1 ⟨rfl, i9, c9⟩)
  go_end0
  exact ⟨rfl, i9, Chg.trans k0 c9 (fun _ _ e => e)⟩

theorem d_vec (w : World) (hg : Gt w) (B : Nat) (s : St) (h : IsT w B s) (ho : s.ok) :
    Calls Tryz.prog 72 #[.pointer (some ⟨B, 0, none⟩)] w fun e w' => Vo w B ({ s with g := { s.g with vec := s.va } }) e w' := by
  have hA := fun w h => a_any w B s h ho
  have hs := fun w (h : IsT w B s) => h.set 17 (.int .u32 s.va) { s with g := { s.g with vec := s.va } } rfl
  generalize ({ s with g := { s.g with vec := s.va } } : St) = t at *
  generalize s.va = v at *
  go_enter Tryz.func72, Tryz.ntmps72
  go_wp2_with (go_at_call 81; refine (hA _ h).mono ?_; rintro e w1 ⟨rfl, k1⟩; have c9 := (h.kp k1).cell 17 _ rfl; have f9 := (h.kp k1).fr 17; have HS : Hid (IsT (w1.setCell ⟨B, 17, none⟩ (.int .u32 v)) B t ∧ Chg w1 (w1.setCell ⟨B, 17, none⟩ (.int .u32 v)) (fun k => k = B)) := hs w1 (h.kp k1))
  go_end0
  exact ⟨rfl, HS.out.1, Chg.trans (Kp.any k1) HS.out.2 (fun _ _ e => e)⟩

theorem d_hcall (w : World) (hg : Gt w) (B : Nat) (s : St) (h : IsT w B s) (ho : s.ok) :
    Calls Tryz.prog 66 #[.pointer (some ⟨B, 0, none⟩)] w fun e w' => Vo w B ({ s with r := { s.r with kind := 2, num := s.vn } }) e w' := by
  have hN := n_same w B s h
  have d0 := h.cell 28 _ rfl
  have f0 := h.fr 28
  obtain ⟨i0, k0⟩ := h.set 28 (.int .i64 2) { s with r := { s.r with kind := 2 } } rfl
  have d1 := i0.cell 30 _ rfl
  have f1 := i0.fr 30
  obtain ⟨i1, k1⟩ := i0.set 30 (.int .u32 s.vn) { s with r := { s.r with kind := 2, num := s.vn } } rfl
  have HK : Hid (IsT _ B _ ∧ Chg w _ (fun k => k = B)) := ⟨i1, Chg.trans k0 k1 (fun _ _ e => e)⟩
  clear h i0 i1 k0 k1
  generalize ({ s with r := { s.r with kind := 2, num := s.vn } } : St) = t at *
  generalize s.vn = v at *
  go_enter Tryz.func66, Tryz.ntmps66
  go_wp2_with (go_at_call 86; refine hN.mono ?_; rintro e w1 ⟨rfl, rfl⟩)
  go_end0
  exact ⟨rfl, HK.out⟩

theorem St.ok.setD {s : St} (h : s.ok) (v : Int) (hv : 0 ≤ v ∧ v < 4294967296) : (s.setD v).ok := by
  unfold St.setD
  split
  · exact h
  · refine ⟨h.d, h.a, h.b, fun i => ?_⟩
    show 0 ≤ (if i = s.d then v else s.g.R i) ∧ (if i = s.d then v else s.g.R i) < 4294967296
    split
    · exact hv
    · exact h.r i
theorem setD_g (s : St) (v : Int) : (s.setD v).g.pc = s.g.pc ∧ (s.setD v).n = s.n ∧ (s.setD v).nx = s.nx ∧ (s.setD v).r = s.r ∧ (s.setD v).op = s.op ∧ (s.setD v).bus = s.bus := by
  unfold St.setD
  split <;> exact ⟨rfl, rfl, rfl, rfl, rfl, rfl⟩
theorem setD_tgt (s : St) (v : Int) : (s.setD v).tgt = s.tgt := by
  unfold St.tgt St.vn
  rw [(setD_g s v).1, (setD_g s v).2.1]

theorem d_jal (w : World) (hg : Gt w) (B : Nat) (s : St) (h : IsT w B s) (ho : s.ok) :
    Calls Tryz.prog 64 #[.pointer (some ⟨B, 0, none⟩)] w fun e w' => Vo w B ((s.setD s.nx).to s.tgt) e w' := by
  have c1 := h.cell 27 (.int .u32 s.nx) rfl
  have hS := set_any w B s h ho s.nx
  have hT := fun w h => target_any w B (s.setD s.nx) h
  rw [setD_tgt] at hT
  have hs := fun w (h : IsT w B (s.setD s.nx)) => h.set 27 (.int .u32 s.tgt) ((s.setD s.nx).to s.tgt) rfl
  clear h
  generalize (s.setD s.nx).to s.tgt = t at *
  generalize s.setD s.nx = u at *
  generalize s.tgt = v at *
  generalize s.nx = n at *
  go_enter Tryz.func64, Tryz.ntmps64
  go_wp2_with (first
    | (go_at_call 80; refine hS.mono ?_; rintro e w1 ⟨rfl, i1, k1⟩)
    | (go_at_call 95; refine (hT _ i1).mono ?_; rintro e w2 ⟨rfl, k2⟩; have c9 := (i1.kp k2).cell 27 _ rfl; have f9 := (i1.kp k2).fr 27; have HS : Hid (IsT (w2.setCell ⟨B, 27, none⟩ (.int .u32 v)) B t ∧ Chg w2 (w2.setCell ⟨B, 27, none⟩ (.int .u32 v)) (fun k => k = B)) := hs w2 (i1.kp k2)))
  go_end0
  exact ⟨rfl, HS.out.1, Chg.trans (Chg.trans k1 (Kp.any k2) (fun _ _ e => e)) HS.out.2 (fun _ _ e => e)⟩

theorem d_jalr (w : World) (hg : Gt w) (B : Nat) (s : St) (h : IsT w B s) (ho : s.ok) :
    Calls Tryz.prog 65 #[.pointer (some ⟨B, 0, none⟩)] w fun e w' => Vo w B ((s.setD s.nx).to ((s.va + s.vn) % 4294967296)) e w' := by
  have hA := a_any w B s h ho
  have hN := fun w h => n_same w B s h
  have hS := fun w h => set_any w B s h ho s.nx
  have c1 := fun w (h : IsT w B s) => h.cell 27 (.int .u32 s.nx) rfl
  have hs := fun w (h : IsT w B (s.setD s.nx)) => h.set 27 (.int .u32 ((s.va + s.vn) % 4294967296)) ((s.setD s.nx).to ((s.va + s.vn) % 4294967296)) rfl
  have ra := ho.ra
  have rn := vn_r s
  generalize (s.setD s.nx).to ((s.va + s.vn) % 4294967296) = t at *
  generalize s.setD s.nx = u at *
  generalize s.va = va at *
  generalize s.vn = vn at *
  generalize s.nx = n at *
  go_enter Tryz.func65, Tryz.ntmps65
  go_wp2_with (first
    | (go_at_call 81; refine hA.mono ?_; rintro e w1 ⟨rfl, k1⟩)
    | (go_at_call 86; refine (hN _ (h.kp k1)).mono ?_; rintro e w2 ⟨rfl, k2⟩; subst k2; have c2 := c1 _ (h.kp k1))
    | (go_at_call 80; refine (hS _ (h.kp k1)).mono ?_; rintro e w3 ⟨rfl, i3, k3⟩; have c9 := i3.cell 27 _ rfl; have f9 := i3.fr 27; have HS : Hid (IsT (w3.setCell ⟨B, 27, none⟩ (.int .u32 ((va + vn) % 4294967296))) B t ∧ Chg w3 (w3.setCell ⟨B, 27, none⟩ (.int .u32 ((va + vn) % 4294967296))) (fun k => k = B)) := hs w3 i3))
  go_end0
  exact ⟨rfl, HS.out.1, Chg.trans (Chg.trans (Kp.any k1) k3 (fun _ _ e => e)) HS.out.2 (fun _ _ e => e)⟩
end Go.Proofs.YtghiffpolacmiabGreatDoor
