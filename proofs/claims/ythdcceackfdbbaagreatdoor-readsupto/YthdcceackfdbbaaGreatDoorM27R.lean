import Derived.Test.YthdcceackfdbbaaGreatDoorM26R
import Derived.Test.YthdcceackfdbbaaGreatDoorM06R

namespace Go.Proofs.YthdcceackfdbbaaGreatDoor
open Go Go.RowKit
def EndS (w : World) (p : Nat) (Sf : Nat → Prop) (R C k : Nat) (er : Int) (s' : RSt) (e : Ending) (w' : World) : Prop :=
  e = .returned (.tuple #[.agg #[.int .i64 (R : Int), .int .i64 (C : Int), .int .i64 (k : Int)], .int .i64 er]) ∧ CallR w p Sf s' w'
set_option maxRecDepth 20000 in
set_option maxHeartbeats 2000000 in
theorem rend_no (w : World) (p : Nat) (Sf : Nat → Prop) (st file : Value) (er : Int) (wh : Bool) (R C : Nat) (num : Value) (k : Nat) (s' : RSt) (hno : wh = true ∨ (wh = false ∧ er ≠ 0)) (ha : Arr w p 90 (rdrC st file er wh R C num k)) (h : ReadIs w p Sf s') :
    Calls Tryz.prog 23 #[.pointer (some ⟨p, 0, none⟩)] w fun e w' => EndS w p Sf R C k er s' e w' := by
  have hmix : Tryz.prog.follows .mixedOrders = true := by kernel_rfl
  obtain ⟨b, hb⟩ : ∃ b, w.heap.size = b := ⟨_, rfl⟩
  have rX : Arr (w.alloc (.cells #[.int .i64 0, .int .i64 0, .int .i64 0] 62)) b 62 [.int .i64 0, .int .i64 0, .int .i64 0] := by rw [← hb]; exact Arr.newL _ _ _
  have bX : Below w.heap.size w (w.alloc (.cells #[.int .i64 0, .int .i64 0, .int .i64 0] 62)) := Below.refl' _ _
  have hpb : p ≠ b := by have := ha.lt; omega
  have hbS : ¬ Sf b := fun hq => by have := h.lt b hq; omega
  have hS' : ∀ q, Sf q → Sf q ∨ w.heap.size ≤ q := fun q h => .inl h
  have aX := ha.belowAll bX
  have hkX : Kept (fun q => q = p ∨ Sf q) w (w.alloc (.cells #[.int .i64 0, .int .i64 0, .int .i64 0] 62)) := Kept.ofBelow bX
  have hrX := h.below bX
  have c3 := aX.cell (i := 3) rfl
  have c2 := aX.cell (i := 2) rfl
  clear ha h bX
  obtain ⟨Sf', hSf⟩ : ∃ Sf', Sf = Sf' := ⟨_, rfl⟩
  have HSF := hid hSf
  rw [hSf] at hrX hbS
  have hS' : ∀ q, Sf' q → Sf q ∨ w.heap.size ≤ q := fun q h => .inl (by rw [HSF.out]; exact h)
  clear hSf
  obtain ⟨X, hX⟩ : ∃ X, w.alloc (.cells #[.int .i64 0, .int .i64 0, .int .i64 0] 62) = X := ⟨_, rfl⟩
  rw [hX] at rX aX hkX hrX c3 c2
  have HRX := hid rX
  have HAX := hid aX
  have HKX := hid hkX
  have HRD := hid hrX
  clear rX aX hkX hrX
  rcases hno with rfl | ⟨rfl, her⟩
  · go_enter Tryz.func23, Tryz.ntmps23
    go_wp2_with fail
    clear c3 c2 hX
    have rX := HRX.out
    have aX := HAX.out
    have hkX := HKX.out
    have hrX := HRD.out
    clear HRX HAX HKX HRD
    obtain ⟨wh, hwh⟩ : ∃ wh, true = wh := ⟨_, rfl⟩
    rw [hwh] at aX
    clear hwh
    -- the answer
    refine wp_region_held (S := fun W' => Arr W' p 90 (rdrC st file er wh R C num k)) hmix ?_
    change wpAnyH _ _ _ _ _ _ _ _ X.drew
    have hSS := aX.drew
    have rD := rX.drew
    have hkD : Kept (fun q => q = p ∨ Sf q) w X.drew := hkX.trans (Kept.drewN (S := fun q => q = p ∨ Sf q) 1) (fun q h => .inl h)
    have hrD : ReadIs X.drew p Sf' s' := hrX.frame (fun _ _ => rfl) (Nat.le_refl _)
    clear aX rX hkX hrX
    generalize X.drew = Y at *
    refine wpAnyH_take (i := 0) (v := .pointer (some ⟨p, 0, none⟩)) rfl (by kernel_rfl) (by kernel_rfl) (by kernel_rfl) (fun _ _ _ h => h) (Or.inl ⟨by rfl, fun W' hS => ?_⟩) hSS ?_
    · clear hS
      go_simp
    simp only [Act.put]
    refine wpAnyH_take (i := 1) (v := .pointer (some ⟨p, 0, none⟩)) rfl (by kernel_rfl) (by kernel_rfl) (by kernel_rfl) (fun _ _ _ h => h) (Or.inl ⟨by rfl, fun W' hS => ?_⟩) hSS ?_
    · clear hS
      go_simp
    simp only [Act.put]
    refine wpAnyH_take (i := 2) (v := .pointer (some ⟨p, 4, none⟩)) rfl (by kernel_rfl) (by kernel_rfl) (by kernel_rfl) (fun _ _ _ h => h) (Or.inl ⟨by rfl, fun W' hS => ?_⟩) hSS ?_
    · clear hS
      go_simp
    simp only [Act.put]
    refine wpAnyH_take (i := 3) (v := .pointer (some ⟨p, 4, none⟩)) rfl (by kernel_rfl) (by kernel_rfl) (by kernel_rfl) (fun _ _ _ h => h) (Or.inl ⟨by rfl, fun W' hS => ?_⟩) hSS ?_
    · clear hS
      go_simp
    simp only [Act.put]
    refine wpAnyH_take (i := 4) (v := .int .i64 (R : Int)) rfl (by kernel_rfl) (by kernel_rfl) (by kernel_rfl) (fun _ _ _ h => h) (Or.inl ⟨by rfl, fun W' hS => ?_⟩) hSS ?_
    · have q0 := hS.cell (i := 4) rfl
      clear hS
      go_simp
    simp only [Act.put]
    refine wpAnyH_take (i := 5) (v := .pointer (some ⟨p, 0, none⟩)) rfl (by kernel_rfl) (by kernel_rfl) (by kernel_rfl) (fun _ _ _ h => h) (Or.inl ⟨by rfl, fun W' hS => ?_⟩) hSS ?_
    · clear hS
      go_simp
    simp only [Act.put]
    refine wpAnyH_take (i := 6) (v := .pointer (some ⟨p, 0, none⟩)) rfl (by kernel_rfl) (by kernel_rfl) (by kernel_rfl) (fun _ _ _ h => h) (Or.inl ⟨by rfl, fun W' hS => ?_⟩) hSS ?_
    · clear hS
      go_simp
    simp only [Act.put]
    refine wpAnyH_take (i := 7) (v := .pointer (some ⟨p, 4, none⟩)) rfl (by kernel_rfl) (by kernel_rfl) (by kernel_rfl) (fun _ _ _ h => h) (Or.inl ⟨by rfl, fun W' hS => ?_⟩) hSS ?_
    · clear hS
      go_simp
    simp only [Act.put]
    refine wpAnyH_take (i := 8) (v := .pointer (some ⟨p, 5, none⟩)) rfl (by kernel_rfl) (by kernel_rfl) (by kernel_rfl) (fun _ _ _ h => h) (Or.inl ⟨by rfl, fun W' hS => ?_⟩) hSS ?_
    · clear hS
      go_simp
    simp only [Act.put]
    refine wpAnyH_take (i := 9) (v := .int .i64 (C : Int)) rfl (by kernel_rfl) (by kernel_rfl) (by kernel_rfl) (fun _ _ _ h => h) (Or.inl ⟨by rfl, fun W' hS => ?_⟩) hSS ?_
    · have q0 := hS.cell (i := 5) rfl
      clear hS
      go_simp
    simp only [Act.put]
    refine wpAnyH_take (i := 10) (v := .pointer (some ⟨p, 0, none⟩)) rfl (by kernel_rfl) (by kernel_rfl) (by kernel_rfl) (fun _ _ _ h => h) (Or.inl ⟨by rfl, fun W' hS => ?_⟩) hSS ?_
    · clear hS
      go_simp
    simp only [Act.put]
    refine wpAnyH_take (i := 11) (v := .pointer (some ⟨p, 0, none⟩)) rfl (by kernel_rfl) (by kernel_rfl) (by kernel_rfl) (fun _ _ _ h => h) (Or.inl ⟨by rfl, fun W' hS => ?_⟩) hSS ?_
    · clear hS
      go_simp
    simp only [Act.put]
    refine wpAnyH_take (i := 12) (v := .pointer (some ⟨p, 7, none⟩)) rfl (by kernel_rfl) (by kernel_rfl) (by kernel_rfl) (fun _ _ _ h => h) (Or.inl ⟨by rfl, fun W' hS => ?_⟩) hSS ?_
    · clear hS
      go_simp
    simp only [Act.put]
    refine wpAnyH_take (i := 13) (v := .int .i64 (k : Int)) rfl (by kernel_rfl) (by kernel_rfl) (by kernel_rfl) (fun _ _ _ h => h) (Or.inl ⟨by rfl, fun W' hS => ?_⟩) hSS ?_
    · have q0 := hS.cell (i := 7) rfl
      clear hS
      go_simp
    simp only [Act.put]
    refine wpAnyH_take (i := 14) (v := .agg #[.int .i64 (R : Int), .int .i64 (C : Int), .int .i64 (k : Int)]) rfl (by kernel_rfl) (by kernel_rfl) (by kernel_rfl) (fun _ _ _ h => h) (Or.inl ⟨by rfl, fun W' hS => ?_⟩) hSS ?_
    · clear hS
      go_simp
    simp only [Act.put]
    refine wpAnyH_take (i := 15) (v := .pointer (some ⟨p, 0, none⟩)) rfl (by kernel_rfl) (by kernel_rfl) (by kernel_rfl) (fun _ _ _ h => h) (Or.inl ⟨by rfl, fun W' hS => ?_⟩) hSS ?_
    · clear hS
      go_simp
    simp only [Act.put]
    refine wpAnyH_take (i := 16) (v := .pointer (some ⟨p, 0, none⟩)) rfl (by kernel_rfl) (by kernel_rfl) (by kernel_rfl) (fun _ _ _ h => h) (Or.inl ⟨by rfl, fun W' hS => ?_⟩) hSS ?_
    · clear hS
      go_simp
    simp only [Act.put]
    refine wpAnyH_take (i := 17) (v := .pointer (some ⟨p, 2, none⟩)) rfl (by kernel_rfl) (by kernel_rfl) (by kernel_rfl) (fun _ _ _ h => h) (Or.inl ⟨by rfl, fun W' hS => ?_⟩) hSS ?_
    · clear hS
      go_simp
    simp only [Act.put]
    refine wpAnyH_take (i := 18) (v := .int .i64 er) rfl (by kernel_rfl) (by kernel_rfl) (by kernel_rfl) (fun _ _ _ h => h) (Or.inl ⟨by rfl, fun W' hS => ?_⟩) hSS ?_
    · have q0 := hS.cell (i := 2) rfl
      clear hS
      go_simp
    simp only [Act.put, List.getElem_toArray, List.getElem_cons_succ, List.getElem_cons_zero, List.setIfInBounds_toArray, List.set_cons_succ, List.set_cons_zero]
    have x0 := rD.cell (i := 0) rfl
    have y0 := rD.frozen 0
    have x1 := (rD.set 0 (.int .i64 (R : Int))).cell (i := 1) rfl
    have y1 := (rD.set 0 (.int .i64 (R : Int))).frozen 1
    have x2 := ((rD.set 0 (.int .i64 (R : Int))).set 1 (.int .i64 (C : Int))).cell (i := 2) rfl
    have y2 := ((rD.set 0 (.int .i64 (R : Int))).set 1 (.int .i64 (C : Int))).frozen 2
    refine wpAnyH_ready (rs := [19]) (by kernel_rfl) (by simp) ?_
    refine AllReadyH.cons rfl (fun K hKK => ?_) AllReadyH.nil
    go_simp
    have aZ : Arr (((Y.setCell ⟨b, 0, none⟩ (.int .i64 (R : Int))).setCell ⟨b, 1, none⟩ (.int .i64 (C : Int))).setCell ⟨b, 2, none⟩ (.int .i64 (k : Int))) p 90 (rdrC st file er wh R C num k) := ((hSS.other _ hpb).other _ hpb).other _ hpb
    refine hKK.out _ _ aZ (fun hHeld => ?_)
    clear hKK hHeld
    refine wpAnyH_take (i := 20) (v := .int .i64 er) rfl (by kernel_rfl) (by kernel_rfl) (by kernel_rfl) (fun _ _ _ h => h) (Or.inl ⟨by rfl, fun W' hS => ?_⟩) aZ ?_
    · clear hS
      go_simp
    simp only [Act.put, List.getElem_toArray, List.getElem_cons_succ, List.getElem_cons_zero, List.setIfInBounds_toArray, List.set_cons_succ, List.set_cons_zero]
    refine wpAnyH_done (by kernel_rfl) ?_ _
    have r3 := ((rD.set 0 (.int .i64 (R : Int))).set 1 (.int .i64 (C : Int))).set 2 (.int .i64 (k : Int))
    have kb : ∀ (W : World) (i : Nat) (v : Value), (Kept (fun q => q = p ∨ Sf q) w W ∧ ReadIs W p Sf' s') → (Kept (fun q => q = p ∨ Sf q) w (W.setCell ⟨b, i, none⟩ v) ∧ ReadIs (W.setCell ⟨b, i, none⟩ v) p Sf' s') := fun W i v h =>
      ⟨h.1.trans (Kept.set (S := fun q => q = b) rfl v) (fun q hq => .inr (by omega)), h.2.frame (fun q hq => Below.heap_setCell _ _ _ _ (fun e => by
        have e' : q = b := e
        rcases hq with hq | hq
        · omega
        · exact hbS (e' ▸ hq))) (by simp [World.setCell])⟩
    have k3 := kb _ 2 (.int .i64 (k : Int)) (kb _ 1 (.int .i64 (C : Int)) (kb _ 0 (.int .i64 (R : Int)) ⟨hkD, hrD⟩))
    have HK3 := hid k3
    clear k3 kb hkD hrD aZ hSS
    generalize ((Y.setCell ⟨b, 0, none⟩ (.int .i64 (R : Int))).setCell ⟨b, 1, none⟩ (.int .i64 (C : Int))).setCell ⟨b, 2, none⟩ (.int .i64 (k : Int)) = Z at *
    have z0 := r3.cell (i := 0) rfl
    have z1 := r3.cell (i := 1) rfl
    have z2 := r3.cell (i := 2) rfl
    clear x0 x1 x2 y0 y1 y2 rD r3
    go_wp2
    refine bodyPost_ret (v := .tuple #[.agg #[.int .i64 (R : Int), .int .i64 (C : Int), .int .i64 (k : Int)], .int .i64 er]) ?_ rfl ⟨rfl, HK3.out.1, Sf', hS', HK3.out.2⟩
    simp [results, Tryz.results23, go_sem, z0, z1, z2]
  · go_enter Tryz.func23, Tryz.ntmps23
    go_wp2_with fail
    clear c3 c2 hX
    have rX := HRX.out
    have aX := HAX.out
    have hkX := HKX.out
    have hrX := HRD.out
    clear HRX HAX HKX HRD
    obtain ⟨wh, hwh⟩ : ∃ wh, false = wh := ⟨_, rfl⟩
    rw [hwh] at aX
    clear hwh
    -- the answer
    refine wp_region_held (S := fun W' => Arr W' p 90 (rdrC st file er wh R C num k)) hmix ?_
    change wpAnyH _ _ _ _ _ _ _ _ X.drew
    have hSS := aX.drew
    have rD := rX.drew
    have hkD : Kept (fun q => q = p ∨ Sf q) w X.drew := hkX.trans (Kept.drewN (S := fun q => q = p ∨ Sf q) 1) (fun q h => .inl h)
    have hrD : ReadIs X.drew p Sf' s' := hrX.frame (fun _ _ => rfl) (Nat.le_refl _)
    clear aX rX hkX hrX
    generalize X.drew = Y at *
    refine wpAnyH_take (i := 0) (v := .pointer (some ⟨p, 0, none⟩)) rfl (by kernel_rfl) (by kernel_rfl) (by kernel_rfl) (fun _ _ _ h => h) (Or.inl ⟨by rfl, fun W' hS => ?_⟩) hSS ?_
    · clear hS
      go_simp
    simp only [Act.put]
    refine wpAnyH_take (i := 1) (v := .pointer (some ⟨p, 0, none⟩)) rfl (by kernel_rfl) (by kernel_rfl) (by kernel_rfl) (fun _ _ _ h => h) (Or.inl ⟨by rfl, fun W' hS => ?_⟩) hSS ?_
    · clear hS
      go_simp
    simp only [Act.put]
    refine wpAnyH_take (i := 2) (v := .pointer (some ⟨p, 4, none⟩)) rfl (by kernel_rfl) (by kernel_rfl) (by kernel_rfl) (fun _ _ _ h => h) (Or.inl ⟨by rfl, fun W' hS => ?_⟩) hSS ?_
    · clear hS
      go_simp
    simp only [Act.put]
    refine wpAnyH_take (i := 3) (v := .pointer (some ⟨p, 4, none⟩)) rfl (by kernel_rfl) (by kernel_rfl) (by kernel_rfl) (fun _ _ _ h => h) (Or.inl ⟨by rfl, fun W' hS => ?_⟩) hSS ?_
    · clear hS
      go_simp
    simp only [Act.put]
    refine wpAnyH_take (i := 4) (v := .int .i64 (R : Int)) rfl (by kernel_rfl) (by kernel_rfl) (by kernel_rfl) (fun _ _ _ h => h) (Or.inl ⟨by rfl, fun W' hS => ?_⟩) hSS ?_
    · have q0 := hS.cell (i := 4) rfl
      clear hS
      go_simp
    simp only [Act.put]
    refine wpAnyH_take (i := 5) (v := .pointer (some ⟨p, 0, none⟩)) rfl (by kernel_rfl) (by kernel_rfl) (by kernel_rfl) (fun _ _ _ h => h) (Or.inl ⟨by rfl, fun W' hS => ?_⟩) hSS ?_
    · clear hS
      go_simp
    simp only [Act.put]
    refine wpAnyH_take (i := 6) (v := .pointer (some ⟨p, 0, none⟩)) rfl (by kernel_rfl) (by kernel_rfl) (by kernel_rfl) (fun _ _ _ h => h) (Or.inl ⟨by rfl, fun W' hS => ?_⟩) hSS ?_
    · clear hS
      go_simp
    simp only [Act.put]
    refine wpAnyH_take (i := 7) (v := .pointer (some ⟨p, 4, none⟩)) rfl (by kernel_rfl) (by kernel_rfl) (by kernel_rfl) (fun _ _ _ h => h) (Or.inl ⟨by rfl, fun W' hS => ?_⟩) hSS ?_
    · clear hS
      go_simp
    simp only [Act.put]
    refine wpAnyH_take (i := 8) (v := .pointer (some ⟨p, 5, none⟩)) rfl (by kernel_rfl) (by kernel_rfl) (by kernel_rfl) (fun _ _ _ h => h) (Or.inl ⟨by rfl, fun W' hS => ?_⟩) hSS ?_
    · clear hS
      go_simp
    simp only [Act.put]
    refine wpAnyH_take (i := 9) (v := .int .i64 (C : Int)) rfl (by kernel_rfl) (by kernel_rfl) (by kernel_rfl) (fun _ _ _ h => h) (Or.inl ⟨by rfl, fun W' hS => ?_⟩) hSS ?_
    · have q0 := hS.cell (i := 5) rfl
      clear hS
      go_simp
    simp only [Act.put]
    refine wpAnyH_take (i := 10) (v := .pointer (some ⟨p, 0, none⟩)) rfl (by kernel_rfl) (by kernel_rfl) (by kernel_rfl) (fun _ _ _ h => h) (Or.inl ⟨by rfl, fun W' hS => ?_⟩) hSS ?_
    · clear hS
      go_simp
    simp only [Act.put]
    refine wpAnyH_take (i := 11) (v := .pointer (some ⟨p, 0, none⟩)) rfl (by kernel_rfl) (by kernel_rfl) (by kernel_rfl) (fun _ _ _ h => h) (Or.inl ⟨by rfl, fun W' hS => ?_⟩) hSS ?_
    · clear hS
      go_simp
    simp only [Act.put]
    refine wpAnyH_take (i := 12) (v := .pointer (some ⟨p, 7, none⟩)) rfl (by kernel_rfl) (by kernel_rfl) (by kernel_rfl) (fun _ _ _ h => h) (Or.inl ⟨by rfl, fun W' hS => ?_⟩) hSS ?_
    · clear hS
      go_simp
    simp only [Act.put]
    refine wpAnyH_take (i := 13) (v := .int .i64 (k : Int)) rfl (by kernel_rfl) (by kernel_rfl) (by kernel_rfl) (fun _ _ _ h => h) (Or.inl ⟨by rfl, fun W' hS => ?_⟩) hSS ?_
    · have q0 := hS.cell (i := 7) rfl
      clear hS
      go_simp
    simp only [Act.put]
    refine wpAnyH_take (i := 14) (v := .agg #[.int .i64 (R : Int), .int .i64 (C : Int), .int .i64 (k : Int)]) rfl (by kernel_rfl) (by kernel_rfl) (by kernel_rfl) (fun _ _ _ h => h) (Or.inl ⟨by rfl, fun W' hS => ?_⟩) hSS ?_
    · clear hS
      go_simp
    simp only [Act.put]
    refine wpAnyH_take (i := 15) (v := .pointer (some ⟨p, 0, none⟩)) rfl (by kernel_rfl) (by kernel_rfl) (by kernel_rfl) (fun _ _ _ h => h) (Or.inl ⟨by rfl, fun W' hS => ?_⟩) hSS ?_
    · clear hS
      go_simp
    simp only [Act.put]
    refine wpAnyH_take (i := 16) (v := .pointer (some ⟨p, 0, none⟩)) rfl (by kernel_rfl) (by kernel_rfl) (by kernel_rfl) (fun _ _ _ h => h) (Or.inl ⟨by rfl, fun W' hS => ?_⟩) hSS ?_
    · clear hS
      go_simp
    simp only [Act.put]
    refine wpAnyH_take (i := 17) (v := .pointer (some ⟨p, 2, none⟩)) rfl (by kernel_rfl) (by kernel_rfl) (by kernel_rfl) (fun _ _ _ h => h) (Or.inl ⟨by rfl, fun W' hS => ?_⟩) hSS ?_
    · clear hS
      go_simp
    simp only [Act.put]
    refine wpAnyH_take (i := 18) (v := .int .i64 er) rfl (by kernel_rfl) (by kernel_rfl) (by kernel_rfl) (fun _ _ _ h => h) (Or.inl ⟨by rfl, fun W' hS => ?_⟩) hSS ?_
    · have q0 := hS.cell (i := 2) rfl
      clear hS
      go_simp
    simp only [Act.put, List.getElem_toArray, List.getElem_cons_succ, List.getElem_cons_zero, List.setIfInBounds_toArray, List.set_cons_succ, List.set_cons_zero]
    have x0 := rD.cell (i := 0) rfl
    have y0 := rD.frozen 0
    have x1 := (rD.set 0 (.int .i64 (R : Int))).cell (i := 1) rfl
    have y1 := (rD.set 0 (.int .i64 (R : Int))).frozen 1
    have x2 := ((rD.set 0 (.int .i64 (R : Int))).set 1 (.int .i64 (C : Int))).cell (i := 2) rfl
    have y2 := ((rD.set 0 (.int .i64 (R : Int))).set 1 (.int .i64 (C : Int))).frozen 2
    refine wpAnyH_ready (rs := [19]) (by kernel_rfl) (by simp) ?_
    refine AllReadyH.cons rfl (fun K hKK => ?_) AllReadyH.nil
    go_simp
    have aZ : Arr (((Y.setCell ⟨b, 0, none⟩ (.int .i64 (R : Int))).setCell ⟨b, 1, none⟩ (.int .i64 (C : Int))).setCell ⟨b, 2, none⟩ (.int .i64 (k : Int))) p 90 (rdrC st file er wh R C num k) := ((hSS.other _ hpb).other _ hpb).other _ hpb
    refine hKK.out _ _ aZ (fun hHeld => ?_)
    clear hKK hHeld
    refine wpAnyH_take (i := 20) (v := .int .i64 er) rfl (by kernel_rfl) (by kernel_rfl) (by kernel_rfl) (fun _ _ _ h => h) (Or.inl ⟨by rfl, fun W' hS => ?_⟩) aZ ?_
    · clear hS
      go_simp
    simp only [Act.put, List.getElem_toArray, List.getElem_cons_succ, List.getElem_cons_zero, List.setIfInBounds_toArray, List.set_cons_succ, List.set_cons_zero]
    refine wpAnyH_done (by kernel_rfl) ?_ _
    have r3 := ((rD.set 0 (.int .i64 (R : Int))).set 1 (.int .i64 (C : Int))).set 2 (.int .i64 (k : Int))
    have kb : ∀ (W : World) (i : Nat) (v : Value), (Kept (fun q => q = p ∨ Sf q) w W ∧ ReadIs W p Sf' s') → (Kept (fun q => q = p ∨ Sf q) w (W.setCell ⟨b, i, none⟩ v) ∧ ReadIs (W.setCell ⟨b, i, none⟩ v) p Sf' s') := fun W i v h =>
      ⟨h.1.trans (Kept.set (S := fun q => q = b) rfl v) (fun q hq => .inr (by omega)), h.2.frame (fun q hq => Below.heap_setCell _ _ _ _ (fun e => by
        have e' : q = b := e
        rcases hq with hq | hq
        · omega
        · exact hbS (e' ▸ hq))) (by simp [World.setCell])⟩
    have k3 := kb _ 2 (.int .i64 (k : Int)) (kb _ 1 (.int .i64 (C : Int)) (kb _ 0 (.int .i64 (R : Int)) ⟨hkD, hrD⟩))
    have HK3 := hid k3
    clear k3 kb hkD hrD aZ hSS
    generalize ((Y.setCell ⟨b, 0, none⟩ (.int .i64 (R : Int))).setCell ⟨b, 1, none⟩ (.int .i64 (C : Int))).setCell ⟨b, 2, none⟩ (.int .i64 (k : Int)) = Z at *
    have z0 := r3.cell (i := 0) rfl
    have z1 := r3.cell (i := 1) rfl
    have z2 := r3.cell (i := 2) rfl
    clear x0 x1 x2 y0 y1 y2 rD r3
    go_wp2
    refine bodyPost_ret (v := .tuple #[.agg #[.int .i64 (R : Int), .int .i64 (C : Int), .int .i64 (k : Int)], .int .i64 er]) ?_ rfl ⟨rfl, HK3.out.1, Sf', hS', HK3.out.2⟩
    simp [results, Tryz.results23, go_sem, z0, z1, z2]
set_option maxRecDepth 20000 in
set_option maxHeartbeats 2000000 in
theorem rend_yes (w : World) (p : Nat) (Sf : Nat → Prop) (s : RSt) (st0 file0 num0 : Value) (R0 C0 k0 : Nat) (ha : Arr w p 90 (rdrC st0 file0 0 false R0 C0 num0 k0)) (h : ReadIs w p Sf s)
    (hfin : ∀ V, ReadIs V p Sf s → Calls Tryz.prog 41 #[.pointer (some ⟨p, 0, none⟩)] V fun e w' => FinR V p Sf (endS s) e w') :
    Calls Tryz.prog 23 #[.pointer (some ⟨p, 0, none⟩)] w fun e w' => EndS w p Sf (endS s).1.1 (endS s).1.2.1 (endS s).1.2.2 (endS s).2.1 (endS s).2.2 e w' := by
  have hmix : Tryz.prog.follows .mixedOrders = true := by kernel_rfl
  obtain ⟨b, hb⟩ : ∃ b, w.heap.size = b := ⟨_, rfl⟩
  have rX : Arr (w.alloc (.cells #[.int .i64 0, .int .i64 0, .int .i64 0] 62)) b 62 [.int .i64 0, .int .i64 0, .int .i64 0] := by rw [← hb]; exact Arr.newL _ _ _
  have bX : Below w.heap.size w (w.alloc (.cells #[.int .i64 0, .int .i64 0, .int .i64 0] 62)) := Below.refl' _ _
  have zX : (w.alloc (.cells #[.int .i64 0, .int .i64 0, .int .i64 0] 62)).heap.size = b + 1 := by simp [hb]
  have hpb : p ≠ b := by have := ha.lt; omega
  have hbS0 : ¬ Sf b := fun hq => by have := h.lt b hq; omega
  have aX := ha.belowAll bX
  have hrX := h.below bX
  have c3 := aX.cell (i := 3) rfl
  have c2 := aX.cell (i := 2) rfl
  clear ha h
  obtain ⟨V, hV⟩ : ∃ V, w.alloc (.cells #[.int .i64 0, .int .i64 0, .int .i64 0] 62) = V := ⟨_, rfl⟩
  rw [hV] at rX aX bX hrX c3 c2 zX
  have HFIN := hid (hfin V hrX)
  clear hfin hrX aX
  generalize endS s = res at *
  obtain ⟨⟨R, C, k⟩, er, s'⟩ := res
  simp only at HFIN ⊢
  have HRX := hid rX
  have HBX := hid bX
  have HZX := hid zX
  clear rX bX zX
  go_enter Tryz.func23, Tryz.ntmps23
  go_wp2_with fail
  clear c3 c2 hV
  refine HFIN.out.mono ?_
  rintro e W1 ⟨F, st1, wh, num, rfl, hk1, ha1, Sf', hS1, hr1⟩
  clear HFIN
  simp only at ha1 hr1
  have r1 : Arr W1 b 62 [.int .i64 0, .int .i64 0, .int .i64 0] := hk1.arr HRX.out (fun h => h.elim (fun h => hpb h.symm) hbS0)
  have s0 := ha1.cell (i := 0) rfl
  have t0 := ha1.frozen 0
  have a1 := ha1.set 0 (stV F p)
  have s2 := a1.cell (i := 2) rfl
  have t2 := a1.frozen 2
  have a2 : Arr ((W1.setCell ⟨p, 0, none⟩ (stV F p)).setCell ⟨p, 2, none⟩ (.int .i64 er)) p 90 (rdrC (stV F p) .nilIface er wh R C num k) := a1.set 2 (.int .i64 er)
  have r2 : Arr ((W1.setCell ⟨p, 0, none⟩ (stV F p)).setCell ⟨p, 2, none⟩ (.int .i64 er)) b 62 [.int .i64 0, .int .i64 0, .int .i64 0] := (r1.other _ (Ne.symm hpb)).other _ (Ne.symm hpb)
  have hS' : ∀ q, Sf' q → Sf q ∨ w.heap.size ≤ q := fun q hq => (hS1 q hq).imp id (fun h => by have := HZX.out; omega)
  have hbS : ¬ Sf' b := fun hq => by
    rcases hS1 b hq with h | h
    · exact hbS0 h
    · have := HZX.out; omega
  have hkX : Kept (fun q => q = p ∨ Sf q) w ((W1.setCell ⟨p, 0, none⟩ (stV F p)).setCell ⟨p, 2, none⟩ (.int .i64 er)) :=
    (((Kept.ofBelow HBX.out).trans hk1 (fun q h => .inl h)).trans (Kept.set (S := fun q => q = p ∨ Sf q) (.inl rfl) _) (fun q h => .inl h)).trans (Kept.set (S := fun q => q = p ∨ Sf q) (.inl rfl) _) (fun q h => .inl h)
  have hrX : ReadIs ((W1.setCell ⟨p, 0, none⟩ (stV F p)).setCell ⟨p, 2, none⟩ (.int .i64 er)) p Sf' s' := by
    refine hr1.frame (fun q hq => ?_) (by simp [World.setCell])
    by_cases e : q = p
    · subst e
      exact (show (((W1.setCell ⟨q, 0, none⟩ (stV F q)).setCell ⟨q, 2, none⟩ (.int .i64 er)).heap[q]? = _) from a2).trans (show ((W1.setCell ⟨q, 0, none⟩ (stV F q)).heap[q]? = _) from a1).symm
    · exact Below.heap_setCell _ _ _ _ e
  have HR2 := hid r2
  have HA2 := hid a2
  have HK2 := hid hkX
  have HRD := hid hrX
  clear r1 r2 a1 a2 ha1 hk1 hr1 hS1 hkX hrX
  unfold stV at s2 t2 HR2 HA2 HK2 HRD ⊢
  go_wp2_with fail
  clear s0 t0 s2 t2
  generalize (W1.setCell ⟨p, 0, none⟩ (.func (.func F) #[.pointer (some ⟨p, 0, none⟩)] #[])).setCell ⟨p, 2, none⟩ (.int .i64 er) = X at *
  have rX := HR2.out
  have aX := HA2.out
  have hkX := HK2.out
  have hrX := HRD.out
  clear HR2 HA2 HK2 HRD
  obtain ⟨st, hst⟩ : ∃ st, Value.func (.func F) #[.pointer (some ⟨p, 0, none⟩)] #[] = st := ⟨_, rfl⟩
  obtain ⟨file, hfile⟩ : ∃ file, Value.nilIface = file := ⟨_, rfl⟩
  rw [hst, hfile] at aX
  clear hst hfile
  -- the answer
  refine wp_region_held (S := fun W' => Arr W' p 90 (rdrC st file er wh R C num k)) hmix ?_
  change wpAnyH _ _ _ _ _ _ _ _ X.drew
  have hSS := aX.drew
  have rD := rX.drew
  have hkD : Kept (fun q => q = p ∨ Sf q) w X.drew := hkX.trans (Kept.drewN (S := fun q => q = p ∨ Sf q) 1) (fun q h => .inl h)
  have hrD : ReadIs X.drew p Sf' s' := hrX.frame (fun _ _ => rfl) (Nat.le_refl _)
  clear aX rX hkX hrX
  generalize X.drew = Y at *
  refine wpAnyH_take (i := 0) (v := .pointer (some ⟨p, 0, none⟩)) rfl (by kernel_rfl) (by kernel_rfl) (by kernel_rfl) (fun _ _ _ h => h) (Or.inl ⟨by rfl, fun W' hS => ?_⟩) hSS ?_
  · clear hS
    go_simp
  simp only [Act.put]
  refine wpAnyH_take (i := 1) (v := .pointer (some ⟨p, 0, none⟩)) rfl (by kernel_rfl) (by kernel_rfl) (by kernel_rfl) (fun _ _ _ h => h) (Or.inl ⟨by rfl, fun W' hS => ?_⟩) hSS ?_
  · clear hS
    go_simp
  simp only [Act.put]
  refine wpAnyH_take (i := 2) (v := .pointer (some ⟨p, 4, none⟩)) rfl (by kernel_rfl) (by kernel_rfl) (by kernel_rfl) (fun _ _ _ h => h) (Or.inl ⟨by rfl, fun W' hS => ?_⟩) hSS ?_
  · clear hS
    go_simp
  simp only [Act.put]
  refine wpAnyH_take (i := 3) (v := .pointer (some ⟨p, 4, none⟩)) rfl (by kernel_rfl) (by kernel_rfl) (by kernel_rfl) (fun _ _ _ h => h) (Or.inl ⟨by rfl, fun W' hS => ?_⟩) hSS ?_
  · clear hS
    go_simp
  simp only [Act.put]
  refine wpAnyH_take (i := 4) (v := .int .i64 (R : Int)) rfl (by kernel_rfl) (by kernel_rfl) (by kernel_rfl) (fun _ _ _ h => h) (Or.inl ⟨by rfl, fun W' hS => ?_⟩) hSS ?_
  · have q0 := hS.cell (i := 4) rfl
    clear hS
    go_simp
  simp only [Act.put]
  refine wpAnyH_take (i := 5) (v := .pointer (some ⟨p, 0, none⟩)) rfl (by kernel_rfl) (by kernel_rfl) (by kernel_rfl) (fun _ _ _ h => h) (Or.inl ⟨by rfl, fun W' hS => ?_⟩) hSS ?_
  · clear hS
    go_simp
  simp only [Act.put]
  refine wpAnyH_take (i := 6) (v := .pointer (some ⟨p, 0, none⟩)) rfl (by kernel_rfl) (by kernel_rfl) (by kernel_rfl) (fun _ _ _ h => h) (Or.inl ⟨by rfl, fun W' hS => ?_⟩) hSS ?_
  · clear hS
    go_simp
  simp only [Act.put]
  refine wpAnyH_take (i := 7) (v := .pointer (some ⟨p, 4, none⟩)) rfl (by kernel_rfl) (by kernel_rfl) (by kernel_rfl) (fun _ _ _ h => h) (Or.inl ⟨by rfl, fun W' hS => ?_⟩) hSS ?_
  · clear hS
    go_simp
  simp only [Act.put]
  refine wpAnyH_take (i := 8) (v := .pointer (some ⟨p, 5, none⟩)) rfl (by kernel_rfl) (by kernel_rfl) (by kernel_rfl) (fun _ _ _ h => h) (Or.inl ⟨by rfl, fun W' hS => ?_⟩) hSS ?_
  · clear hS
    go_simp
  simp only [Act.put]
  refine wpAnyH_take (i := 9) (v := .int .i64 (C : Int)) rfl (by kernel_rfl) (by kernel_rfl) (by kernel_rfl) (fun _ _ _ h => h) (Or.inl ⟨by rfl, fun W' hS => ?_⟩) hSS ?_
  · have q0 := hS.cell (i := 5) rfl
    clear hS
    go_simp
  simp only [Act.put]
  refine wpAnyH_take (i := 10) (v := .pointer (some ⟨p, 0, none⟩)) rfl (by kernel_rfl) (by kernel_rfl) (by kernel_rfl) (fun _ _ _ h => h) (Or.inl ⟨by rfl, fun W' hS => ?_⟩) hSS ?_
  · clear hS
    go_simp
  simp only [Act.put]
  refine wpAnyH_take (i := 11) (v := .pointer (some ⟨p, 0, none⟩)) rfl (by kernel_rfl) (by kernel_rfl) (by kernel_rfl) (fun _ _ _ h => h) (Or.inl ⟨by rfl, fun W' hS => ?_⟩) hSS ?_
  · clear hS
    go_simp
  simp only [Act.put]
  refine wpAnyH_take (i := 12) (v := .pointer (some ⟨p, 7, none⟩)) rfl (by kernel_rfl) (by kernel_rfl) (by kernel_rfl) (fun _ _ _ h => h) (Or.inl ⟨by rfl, fun W' hS => ?_⟩) hSS ?_
  · clear hS
    go_simp
  simp only [Act.put]
  refine wpAnyH_take (i := 13) (v := .int .i64 (k : Int)) rfl (by kernel_rfl) (by kernel_rfl) (by kernel_rfl) (fun _ _ _ h => h) (Or.inl ⟨by rfl, fun W' hS => ?_⟩) hSS ?_
  · have q0 := hS.cell (i := 7) rfl
    clear hS
    go_simp
  simp only [Act.put]
  refine wpAnyH_take (i := 14) (v := .agg #[.int .i64 (R : Int), .int .i64 (C : Int), .int .i64 (k : Int)]) rfl (by kernel_rfl) (by kernel_rfl) (by kernel_rfl) (fun _ _ _ h => h) (Or.inl ⟨by rfl, fun W' hS => ?_⟩) hSS ?_
  · clear hS
    go_simp
  simp only [Act.put]
  refine wpAnyH_take (i := 15) (v := .pointer (some ⟨p, 0, none⟩)) rfl (by kernel_rfl) (by kernel_rfl) (by kernel_rfl) (fun _ _ _ h => h) (Or.inl ⟨by rfl, fun W' hS => ?_⟩) hSS ?_
  · clear hS
    go_simp
  simp only [Act.put]
  refine wpAnyH_take (i := 16) (v := .pointer (some ⟨p, 0, none⟩)) rfl (by kernel_rfl) (by kernel_rfl) (by kernel_rfl) (fun _ _ _ h => h) (Or.inl ⟨by rfl, fun W' hS => ?_⟩) hSS ?_
  · clear hS
    go_simp
  simp only [Act.put]
  refine wpAnyH_take (i := 17) (v := .pointer (some ⟨p, 2, none⟩)) rfl (by kernel_rfl) (by kernel_rfl) (by kernel_rfl) (fun _ _ _ h => h) (Or.inl ⟨by rfl, fun W' hS => ?_⟩) hSS ?_
  · clear hS
    go_simp
  simp only [Act.put]
  refine wpAnyH_take (i := 18) (v := .int .i64 er) rfl (by kernel_rfl) (by kernel_rfl) (by kernel_rfl) (fun _ _ _ h => h) (Or.inl ⟨by rfl, fun W' hS => ?_⟩) hSS ?_
  · have q0 := hS.cell (i := 2) rfl
    clear hS
    go_simp
  simp only [Act.put, List.getElem_toArray, List.getElem_cons_succ, List.getElem_cons_zero, List.setIfInBounds_toArray, List.set_cons_succ, List.set_cons_zero]
  have x0 := rD.cell (i := 0) rfl
  have y0 := rD.frozen 0
  have x1 := (rD.set 0 (.int .i64 (R : Int))).cell (i := 1) rfl
  have y1 := (rD.set 0 (.int .i64 (R : Int))).frozen 1
  have x2 := ((rD.set 0 (.int .i64 (R : Int))).set 1 (.int .i64 (C : Int))).cell (i := 2) rfl
  have y2 := ((rD.set 0 (.int .i64 (R : Int))).set 1 (.int .i64 (C : Int))).frozen 2
  refine wpAnyH_ready (rs := [19]) (by kernel_rfl) (by simp) ?_
  refine AllReadyH.cons rfl (fun K hKK => ?_) AllReadyH.nil
  go_simp
  have aZ : Arr (((Y.setCell ⟨b, 0, none⟩ (.int .i64 (R : Int))).setCell ⟨b, 1, none⟩ (.int .i64 (C : Int))).setCell ⟨b, 2, none⟩ (.int .i64 (k : Int))) p 90 (rdrC st file er wh R C num k) := ((hSS.other _ hpb).other _ hpb).other _ hpb
  refine hKK.out _ _ aZ (fun hHeld => ?_)
  clear hKK hHeld
  refine wpAnyH_take (i := 20) (v := .int .i64 er) rfl (by kernel_rfl) (by kernel_rfl) (by kernel_rfl) (fun _ _ _ h => h) (Or.inl ⟨by rfl, fun W' hS => ?_⟩) aZ ?_
  · clear hS
    go_simp
  simp only [Act.put, List.getElem_toArray, List.getElem_cons_succ, List.getElem_cons_zero, List.setIfInBounds_toArray, List.set_cons_succ, List.set_cons_zero]
  refine wpAnyH_done (by kernel_rfl) ?_ _
  have r3 := ((rD.set 0 (.int .i64 (R : Int))).set 1 (.int .i64 (C : Int))).set 2 (.int .i64 (k : Int))
  have kb : ∀ (W : World) (i : Nat) (v : Value), (Kept (fun q => q = p ∨ Sf q) w W ∧ ReadIs W p Sf' s') → (Kept (fun q => q = p ∨ Sf q) w (W.setCell ⟨b, i, none⟩ v) ∧ ReadIs (W.setCell ⟨b, i, none⟩ v) p Sf' s') := fun W i v h =>
    ⟨h.1.trans (Kept.set (S := fun q => q = b) rfl v) (fun q hq => .inr (by omega)), h.2.frame (fun q hq => Below.heap_setCell _ _ _ _ (fun e => by
      have e' : q = b := e
      rcases hq with hq | hq
      · omega
      · exact hbS (e' ▸ hq))) (by simp [World.setCell])⟩
  have k3 := kb _ 2 (.int .i64 (k : Int)) (kb _ 1 (.int .i64 (C : Int)) (kb _ 0 (.int .i64 (R : Int)) ⟨hkD, hrD⟩))
  have HK3 := hid k3
  clear k3 kb hkD hrD aZ hSS
  generalize ((Y.setCell ⟨b, 0, none⟩ (.int .i64 (R : Int))).setCell ⟨b, 1, none⟩ (.int .i64 (C : Int))).setCell ⟨b, 2, none⟩ (.int .i64 (k : Int)) = Z at *
  have z0 := r3.cell (i := 0) rfl
  have z1 := r3.cell (i := 1) rfl
  have z2 := r3.cell (i := 2) rfl
  clear x0 x1 x2 y0 y1 y2 rD r3
  go_wp2
  refine bodyPost_ret (v := .tuple #[.agg #[.int .i64 (R : Int), .int .i64 (C : Int), .int .i64 (k : Int)], .int .i64 er]) ?_ rfl ⟨rfl, HK3.out.1, Sf', hS', HK3.out.2⟩
  simp [results, Tryz.results23, go_sem, z0, z1, z2]
theorem rend_any (w : World) (p : Nat) (Sf : Nat → Prop) (s : RSt) (h : ReadIs w p Sf s) :
    Calls Tryz.prog 23 #[.pointer (some ⟨p, 0, none⟩)] w fun e w' => EndS w p Sf (endS s).1.1 (endS s).1.2.1 (endS s).1.2.2 (endS s).2.1 (endS s).2.2 e w' := by
  cases s with
  | begin => exact rend_yes w p Sf .begin _ _ _ _ _ _ h.at_ h (fun V hV => finish_begin V p Sf hV)
  | file s => obtain ⟨q, h1, h2⟩ := h.at_; exact rend_yes w p Sf (.file s) _ _ _ _ _ _ h1 h (fun V hV => finish_file V p Sf s hV)
  | failed e => exact rend_no w p Sf _ _ e false 0 0 _ 0 (.failed e) (.inr ⟨rfl, h.at_.1⟩) h.at_.2 h
  | ended k R C f => obtain ⟨_, _, _, g, v, h1, _⟩ := h.at_; exact rend_no w p Sf _ _ 0 true R C _ k (.ended k R C f) (.inl rfl) h1 h
end Go.Proofs.YthdcceackfdbbaaGreatDoor
namespace Go.Proofs.YthdcceackfdbbaaGreatDoor
open Go Go.RowKit
theorem isSide_b (w : World) (k : Int) (b : Bool) (hb : decide (0 ≤ k ∧ k ≤ 40) = b) : Calls Tryz.prog 60 #[.int .i64 k] w fun e w' => e = .returned (.bool b) ∧ w' = w := by
  rw [← hb]; exact isSide_any w k
set_option maxHeartbeats 1000000 in
theorem fits_any (w : World) (R C off rs cs : Int) (n : Nat) (hn : n < 9223372036854775808) :
    Calls Tryz.prog 39 #[viewV R C off rs cs, .int .i64 (n : Int)] w fun e w' => BoolOk (FitV R C off rs cs n) e ∧ Below w.heap.size w w' := by
  have HB : Hid (∀ o, Below w.heap.size w (w.alloc o)) := fun o => (Below.refl _ _).alloc (Nat.le_refl _) _
  unfold viewV
  by_cases c0 : 100000 < n
  · have HN : Hid (¬ FitV R C off rs cs n) := fun h => by have := h.1; omega
    have c0' : (100000 : Int) < n := by omega
    go_enter Tryz.func39, Tryz.ntmps39
    go_wp2
    go_ret
    exact ⟨boolOk_f HN.out, HB.out _⟩
  have c0' : ¬ (100000 : Int) < n := by omega
  by_cases c1 : ¬ (0 ≤ R ∧ R ≤ 40)
  · have e1 : decide (0 ≤ R ∧ R ≤ 40) = false := by simp only [decide_eq_false_iff_not]; exact c1
    have HN : Hid (¬ FitV R C off rs cs n) := fun h => c1 h.2.1
    clear c1
    go_enter Tryz.func39, Tryz.ntmps39
    go_wp2_with fail
    refine (isSide_b _ _ false e1).mono ?_
    rintro e w1 ⟨rfl, rfl⟩
    clear e1
    go_wp2
    go_ret
    exact ⟨boolOk_f HN.out, HB.out _⟩
  replace c1 := Decidable.not_not.1 c1
  have e1 : decide (0 ≤ R ∧ R ≤ 40) = true := by simp only [decide_eq_true_eq]; exact c1
  by_cases c2 : ¬ (0 ≤ C ∧ C ≤ 40)
  · have e2 : decide (0 ≤ C ∧ C ≤ 40) = false := by simp only [decide_eq_false_iff_not]; exact c2
    have HN : Hid (¬ FitV R C off rs cs n) := fun h => c2 h.2.2.1
    clear c1 c2
    go_enter Tryz.func39, Tryz.ntmps39
    go_wp2_with fail
    refine (isSide_b _ _ true e1).mono ?_
    rintro e w1 ⟨rfl, rfl⟩
    clear e1
    go_wp2_with fail
    refine (isSide_b _ _ false e2).mono ?_
    rintro e w1 ⟨rfl, rfl⟩
    clear e2
    go_wp2
    go_ret
    exact ⟨boolOk_f HN.out, HB.out _⟩
  replace c2 := Decidable.not_not.1 c2
  have e2 : decide (0 ≤ C ∧ C ≤ 40) = true := by simp only [decide_eq_true_eq]; exact c2
  obtain ⟨r, rfl⟩ := Int.eq_ofNat_of_zero_le c1.1
  obtain ⟨c, rfl⟩ := Int.eq_ofNat_of_zero_le c2.1
  by_cases hr : r = 0
  · subst hr
    have HN : Hid (FitV ((0 : Nat) : Int) c off rs cs n) := ⟨by omega, c1, c2, .inl rfl⟩
    clear c1 c2
    go_enter Tryz.func39, Tryz.ntmps39
    go_wp2_with fail
    refine (isSide_b _ _ true e1).mono ?_
    rintro e w1 ⟨rfl, rfl⟩
    clear e1
    go_wp2_with fail
    refine (isSide_b _ _ true e2).mono ?_
    rintro e w1 ⟨rfl, rfl⟩
    clear e2
    go_wp2
    go_ret
    exact ⟨boolOk_t HN.out, HB.out _⟩
  have hr' : ¬ (r : Int) = 0 := by omega
  by_cases hc : c = 0
  · subst hc
    have HN : Hid (FitV r ((0 : Nat) : Int) off rs cs n) := ⟨by omega, c1, c2, .inr (.inl rfl)⟩
    clear c1 c2
    go_enter Tryz.func39, Tryz.ntmps39
    go_wp2_with fail
    refine (isSide_b _ _ true e1).mono ?_
    rintro e w1 ⟨rfl, rfl⟩
    clear e1
    go_wp2_with fail
    refine (isSide_b _ _ true e2).mono ?_
    rintro e w1 ⟨rfl, rfl⟩
    clear e2
    go_wp2
    go_ret
    exact ⟨boolOk_t HN.out, HB.out _⟩
  have hc' : ¬ (c : Int) = 0 := by omega
  have hr2 : ((r : Int) == 0) = false := by simp; omega
  have hc2 : ((c : Int) == 0) = false := by simp; omega
  have HF : Hid (FitV r c off rs cs n ↔ Fit r c off rs cs n) := by
    show _ ↔ _
    unfold FitV
    simp only [Int.toNat_natCast]
    constructor
    · rintro ⟨_, _, _, h | h | h⟩
      · omega
      · omega
      · exact h
    · exact fun h => ⟨by omega, c1, c2, .inr (.inr h)⟩
  have hrr : 1 ≤ r ∧ r ≤ 40 := by omega
  have hcc : 1 ≤ c ∧ c ≤ 40 := by omega
  have HI : Hid _ := hid (fun w => inside_any w r c off rs cs n hrr hcc (by omega))
  have HM : Hid _ := hid (fun w => meets_any w r c off rs cs hrr hcc)
  have HP : Hid (Fit r c off rs cs n ↔ Corner r c off rs cs n ∧ ¬ Meets r c rs cs) := fit_prog (by omega) (by omega)
  clear c1 c2
  go_enter Tryz.func39, Tryz.ntmps39
  go_wp2_with fail
  refine (isSide_b _ _ true e1).mono ?_
  rintro e w1 ⟨rfl, rfl⟩
  clear e1
  go_wp2_with fail
  refine (isSide_b _ _ true e2).mono ?_
  rintro e w1 ⟨rfl, rfl⟩
  clear e2
  go_wp2_with fail
  refine (HI.out _).mono ?_
  rintro e w1 ⟨⟨b, rfl, hb, hs⟩, b1⟩
  have HB1 : Hid _ := hid b1
  have hsz := b1.size
  simp only [World.size_alloc] at hsz
  have k0 : w1.cell? ⟨w.heap.size, 0, none⟩ = some (.int .i64 (r : Int)) := (b1.cell (p := ⟨w.heap.size, 0, none⟩) (by simp)).trans (by simp [go_sem])
  have k1 : w1.cell? ⟨w.heap.size, 1, none⟩ = some (.int .i64 (c : Int)) := (b1.cell (p := ⟨w.heap.size, 1, none⟩) (by simp)).trans (by simp [go_sem])
  have k2 : w1.cell? ⟨w.heap.size, 2, none⟩ = some (.int .i64 off) := (b1.cell (p := ⟨w.heap.size, 2, none⟩) (by simp)).trans (by simp [go_sem])
  have k3 : w1.cell? ⟨w.heap.size, 3, none⟩ = some (.int .i64 rs) := (b1.cell (p := ⟨w.heap.size, 3, none⟩) (by simp)).trans (by simp [go_sem])
  have k4 : w1.cell? ⟨w.heap.size, 4, none⟩ = some (.int .i64 cs) := (b1.cell (p := ⟨w.heap.size, 4, none⟩) (by simp)).trans (by simp [go_sem])
  have HB2 : Hid (Below w.heap.size w w1) := (HB.out _).trans (b1.mono (by simp))
  clear b1
  have HH := hid hb
  have HS := hid hs
  clear hb hs
  cases b with
  | false =>
    go_wp2
    go_ret
    exact ⟨boolOk_f (fun h => by have := HH.out.2 (HP.out.1 (HF.out.1 h)).1; cases this), HB2.out⟩
  | true =>
    have HC0 := hid (HH.out.1 rfl)
    have HS0 := hid (HS.out rfl)
    clear HH HS
    go_wp2_with fail
    refine (HM.out _ HS0.out.1 HS0.out.2).mono ?_
    rintro e w2 ⟨⟨b, rfl, hb⟩, b2⟩
    have HH2 := hid hb
    have HB3 := hid b2
    clear hb b2
    go_wp2
    go_ret
    refine ⟨⟨!b, rfl, ?_⟩, HB2.out.trans (HB3.out.mono HB2.out.size)⟩
    rw [HF.out, HP.out, ← HH2.out]
    have := HC0.out
    cases b <;> simp [this]
end Go.Proofs.YthdcceackfdbbaaGreatDoor
