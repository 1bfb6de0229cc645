import Derived.Test.YthdcceackfdbbaaGreatDoorM12R
import Derived.Test.YthdcceackfdbbaaGreatDoorShelf3QR
import Derived.Deep.RegionHeld
import Derived.Laws.EntriesVeiled
namespace Go.Proofs.YthdcceackfdbbaaGreatDoor
open Go Go.RowKit
def openE (k R C : Nat) : Nat := if 40 < R ∨ 40 < C then 8 else if (k = 1 ∨ k = 3) ∧ R ≠ C then 4 else 0
theorem plsL_in {k R C : Nat} {q : Nat × Nat} (h : q ∈ plsL k R C) : q.1 < R ∧ q.2 < C := by
  unfold plsL at h
  obtain ⟨x, hx, rfl⟩ := List.mem_map.1 h
  have := plcL_mem hx
  exact ⟨this.1, this.2.1⟩
theorem plsL_len {k R C : Nat} (hR : R ≤ 40) (hC : C ≤ 40) : (plsL k R C).length ≤ 1600 := by
  unfold plsL
  rw [List.length_map]
  have h2 : R * C ≤ 40 * 40 := Nat.mul_le_mul hR hC
  unfold plcL
  split
  · rw [rowsL_len]; omega
  · split
    · have := List.length_filter_le (fun x : Nat × Nat × Nat => decide (x.2.1 ≤ x.1)) (colsL R C (fun _ _ => 0))
      rw [colsL_len] at this
      omega
    · rw [colsL_len]; omega
def OpenR (w : World) (p : Nat) (S : Nat → Prop) (st bytes : Value) (k R C : Nat) (left : Nat) (e : Ending) (w' : World) : Prop :=
  e = .returned (.int .i64 (openE k R C : Int)) ∧ ((openE k R C ≠ 0 ∧ w' = w) ∨ (openE k R C = 0 ∧ Kept S w w' ∧ ∃ g fv, Arr w' p 167 (rdC st bytes k R C (.slice (some ⟨g, 0, none⟩) (R * C) (R * C)) true fv left) ∧
    w.heap.size ≤ g ∧ Arr w' g 65 (List.replicate (R * C) (.int .u64 0)) ∧ w'.ownsRow w.heap.size 117 2 fv (plsL k R C).length (plcC (plsL k R C))))
set_option maxRecDepth 20000 in
set_option maxHeartbeats 2000000 in
theorem open_any (w : World) (p : Nat) (S : Nat → Prop) (st bytes num fv0 : Value) (R0 C0 : Nat) (sz : Bool) (k R C left : Nat) (hk : k ≤ 3) (hS : S p) (hR9 : R < 1000000000) (hC9 : C < 1000000000) (ha : Arr w p 167 (rdC st bytes k R0 C0 num sz fv0 left)) :
    Calls Tryz.prog 212 #[.pointer (some ⟨p, 0, none⟩), .int .i64 (R : Int), .int .i64 (C : Int)] w fun e w' => OpenR w p S st bytes k R C left e w' := by
  have hmix : Tryz.prog.follows .mixedOrders = true := by kernel_rfl
  have c2 := ha.cell (i := 2) rfl
  have HA := hid ha
  clear ha
  by_cases h8 : 40 < R ∨ 40 < C
  · have hE : openE k R C = 8 := by unfold openE; rw [if_pos h8]
    have HE := hid hE
    clear hE
    by_cases h8a : 40 < R
    · have h8' : (40 : Int) < R := by omega
      go_enter Tryz.func212, Tryz.ntmps212
      go_wp2
      go_ret
      exact ⟨by rw [HE.out]; rfl, .inl ⟨by rw [HE.out]; decide, rfl⟩⟩
    · have h8' : ¬ (40 : Int) < R := by omega
      have h8'' : (40 : Int) < C := by omega
      go_enter Tryz.func212, Tryz.ntmps212
      go_wp2
      go_ret
      exact ⟨by rw [HE.out]; rfl, .inl ⟨by rw [HE.out]; decide, rfl⟩⟩
  · have h8a : ¬ (40 : Int) < R := by omega
    have h8b : ¬ (40 : Int) < C := by omega
    have hR : R ≤ 40 := by omega
    have hC : C ≤ 40 := by omega
    by_cases h4 : (k = 1 ∨ k = 3) ∧ R ≠ C
    · have hE : openE k R C = 4 := by unfold openE; rw [if_neg h8, if_pos h4]
      have HE := hid hE
      clear hE
      have hne : ¬ (R : Int) = C := by omega
      go_enter Tryz.func212, Tryz.ntmps212
      go_wp2_with fail
      refine (ksym_b _ _ true (by simp; omega)).mono ?_
      rintro e w2 ⟨rfl, hw2⟩
      rw [hw2]
      clear hw2
      go_wp2
      go_ret
      exact ⟨by rw [HE.out]; rfl, .inl ⟨by rw [HE.out]; decide, rfl⟩⟩
    · have hE : openE k R C = 0 := by unfold openE; rw [if_neg h8, if_neg h4]
      have HE := hid hE
      clear hE
      obtain ⟨sb, hsb⟩ : ∃ sb, decide ((k : Int) = 1 ∨ (k : Int) = 3) = sb := ⟨_, rfl⟩
      have hneq : sb = true → (R : Int) = C := fun h => by
        subst h; simp at hsb; by_cases e : R = C
        · omega
        · exact (h4 ⟨by omega, e⟩).elim
      have HSB := hid (fun w => ksym_b w k sb hsb)
      have HNEQ := hid hneq
      clear hsb hneq
      have x6 := HA.out.cell (i := 6) rfl
      have y6 := HA.out.frozen 6
      go_enter Tryz.func212, Tryz.ntmps212
      go_wp2_with fail
      refine (HSB.out _).mono ?_
      rintro e w2 ⟨rfl, hw2⟩
      rw [hw2]
      clear hw2
      cases sb with
      | true =>
        have hrc := HNEQ.out rfl
        obtain rfl : R = C := by omega
        clear hrc
        have hW1 : Arr (w.setCell ⟨p, 6, none⟩ (.bool true)) p 167 (rdC st bytes k R0 C0 num true fv0 left) := HA.out.set 6 (.bool true)
        have hK1 : Kept S w (w.setCell ⟨p, 6, none⟩ (.bool true)) := Kept.set hS _
        have hz1 : (w.setCell ⟨p, 6, none⟩ (.bool true)).heap.size = w.heap.size := by simp [World.setCell]
        go_wp2_with fail
        clear x6 y6 c2
        generalize w.setCell ⟨p, 6, none⟩ (.bool true) = W1 at *
        have hpl := hW1.lt
        refine (mat_new W1 R R hR hC).mono ?_
        rintro e W2 ⟨rfl, hw2⟩
        obtain ⟨b, hb⟩ : ∃ b, w.heap.size = b := ⟨_, rfl⟩
        rw [hb] at hz1
        have g2 : Arr W2 (b + 1) 65 (List.replicate (R * R) (.int .u64 0)) := by
          have := Arr.newR (W1.alloc (matO R R (W1.heap.size + 1))) 65 (R * R) (.int .u64 0)
          rw [World.size_alloc, hz1] at this
          rw [hw2, hz1]; exact this
        have b2 : Below W1.heap.size W1 W2 := by rw [hw2]; exact ((Below.refl _ _).alloc (Nat.le_refl _) _).alloc (by simp) _
        have p2 : Arr W2 p 167 (rdC st bytes k R0 C0 num true fv0 left) := hW1.belowAll b2
        have hK2 : Kept S w W2 := hK1.trans (Kept.ofBelow (S := S) b2) (fun q h => .inl h)
        rw [hz1] at hpl ⊢
        have HB := hid hb
        clear hw2 hW1 hK1 b2 hz1 hb
        unfold matV
        have z3 := p2.cell (i := 3) rfl
        have u3 := p2.frozen 3
        have p3 := p2.set 3 (.int .i64 (R : Int))
        have z4 := p3.cell (i := 4) rfl
        have u4 := p3.frozen 4
        have p4 := p3.set 4 (.int .i64 (R : Int))
        have z5 := p4.cell (i := 5) rfl
        have u5 := p4.frozen 5
        have p5 : Arr (((W2.setCell ⟨p, 3, none⟩ (.int .i64 (R : Int))).setCell ⟨p, 4, none⟩ (.int .i64 (R : Int))).setCell ⟨p, 5, none⟩ (.slice (some ⟨b + 1, 0, none⟩) (R * R) (R * R))) p 167 (rdC st bytes k R R (.slice (some ⟨b + 1, 0, none⟩) (R * R) (R * R)) true fv0 left) := p4.set 5 (.slice (some ⟨b + 1, 0, none⟩) (R * R) (R * R))
        have g5 : Arr (((W2.setCell ⟨p, 3, none⟩ (.int .i64 (R : Int))).setCell ⟨p, 4, none⟩ (.int .i64 (R : Int))).setCell ⟨p, 5, none⟩ (.slice (some ⟨b + 1, 0, none⟩) (R * R) (R * R))) (b + 1) 65 (List.replicate (R * R) (.int .u64 0)) := ((g2.other _ (by omega)).other _ (by omega)).other _ (by omega)
        have hK5 : Kept S w (((W2.setCell ⟨p, 3, none⟩ (.int .i64 (R : Int))).setCell ⟨p, 4, none⟩ (.int .i64 (R : Int))).setCell ⟨p, 5, none⟩ (.slice (some ⟨b + 1, 0, none⟩) (R * R) (R * R))) :=
          ((hK2.trans (Kept.set (S := S) hS _) (fun q h => .inl h)).trans (Kept.set (S := S) hS _) (fun q h => .inl h)).trans (Kept.set (S := S) hS _) (fun q h => .inl h)
        have HP5 := hid p5
        have HG5 := hid g5
        have HK5 := hid hK5
        clear p3 p4 p5 g5 hK5 g2 hK2
        go_wp2_with fail
        clear z3 z4 z5 u3 u4 u5 p2
        generalize ((W2.setCell ⟨p, 3, none⟩ (.int .i64 (R : Int))).setCell ⟨p, 4, none⟩ (.int .i64 (R : Int))).setCell ⟨p, 5, none⟩ (.slice (some ⟨b + 1, 0, none⟩) (R * R) (R * R)) = W3 at *
        refine wp_region_held (S := fun W' => ∃ fv, Arr W' p 167 (rdC st bytes k R R (.slice (some ⟨b + 1, 0, none⟩) (R * R) (R * R)) true fv left)) hmix ?_
        change wpAnyH _ _ _ _ _ _ _ _ W3.drew
        have hSS : Arr W3.drew p 167 (rdC st bytes k R R (.slice (some ⟨b + 1, 0, none⟩) (R * R) (R * R)) true fv0 left) := HP5.out.drew
        have g6 : Arr W3.drew (b + 1) 65 (List.replicate (R * R) (.int .u64 0)) := HG5.out.drew
        have k6 : Kept S w W3.drew := HK5.out.trans (Kept.drewN (S := S) 1) (fun q h => .inl h)
        clear HP5 HG5 HK5
        generalize W3.drew = Vd at *
        refine wpAnyH_take (i := 0) (v := .pointer (some ⟨p, 0, none⟩)) rfl (by kernel_rfl) (by kernel_rfl) (by kernel_rfl) (fun _ _ _ h => h) (Or.inl ⟨by rfl, fun W' hS => ?_⟩) ⟨_,hSS⟩ ?_
        · clear hS
          go_simp
        simp only [Act.put]
        refine wpAnyH_take (i := 1) (v := .pointer (some ⟨p, 0, none⟩)) rfl (by kernel_rfl) (by kernel_rfl) (by kernel_rfl) (fun _ _ _ h => h) (Or.inl ⟨by rfl, fun W' hS => ?_⟩) ⟨_,hSS⟩ ?_
        · clear hS
          go_simp
        simp only [Act.put]
        refine wpAnyH_take (i := 2) (v := .pointer (some ⟨p, 0, none⟩)) rfl (by kernel_rfl) (by kernel_rfl) (by kernel_rfl) (fun _ _ _ h => h) (Or.inl ⟨by rfl, fun W' hS => ?_⟩) ⟨_,hSS⟩ ?_
        · clear hS
          go_simp
        simp only [Act.put]
        refine wpAnyH_take (i := 3) (v := .pointer (some ⟨p, 3, none⟩)) rfl (by kernel_rfl) (by kernel_rfl) (by kernel_rfl) (fun _ _ _ h => h) (Or.inl ⟨by rfl, fun W' hS => ?_⟩) ⟨_,hSS⟩ ?_
        · clear hS
          go_simp
        simp only [Act.put]
        refine wpAnyH_take (i := 4) (v := .agg #[.int .i64 (R : Int), .int .i64 (R : Int), .slice (some ⟨b + 1, 0, none⟩) (R * R) (R * R)]) rfl (by kernel_rfl) (by kernel_rfl) (by kernel_rfl) (fun _ _ _ h => h) (Or.inl ⟨by rfl, fun W' hS => ?_⟩) ⟨_,hSS⟩ ?_
        · have q0 := hS.choose_spec.cell (i := 3) rfl
          have q1 := hS.choose_spec.cell (i := 4) rfl
          have q2 := hS.choose_spec.cell (i := 5) rfl
          clear hS
          go_simp
        simp only [Act.put]
        refine wpAnyH_take (i := 5) (v := .pointer (some ⟨p, 0, none⟩)) rfl (by kernel_rfl) (by kernel_rfl) (by kernel_rfl) (fun _ _ _ h => h) (Or.inl ⟨by rfl, fun W' hS => ?_⟩) ⟨_,hSS⟩ ?_
        · clear hS
          go_simp
        simp only [Act.put]
        refine wpAnyH_take (i := 6) (v := .pointer (some ⟨p, 0, none⟩)) rfl (by kernel_rfl) (by kernel_rfl) (by kernel_rfl) (fun _ _ _ h => h) (Or.inl ⟨by rfl, fun W' hS => ?_⟩) ⟨_,hSS⟩ ?_
        · clear hS
          go_simp
        simp only [Act.put]
        refine wpAnyH_take (i := 7) (v := .pointer (some ⟨p, 2, none⟩)) rfl (by kernel_rfl) (by kernel_rfl) (by kernel_rfl) (fun _ _ _ h => h) (Or.inl ⟨by rfl, fun W' hS => ?_⟩) ⟨_,hSS⟩ ?_
        · clear hS
          go_simp
        simp only [Act.put]
        refine wpAnyH_take (i := 8) (v := .int .i64 (k : Int)) rfl (by kernel_rfl) (by kernel_rfl) (by kernel_rfl) (fun _ _ _ h => h) (Or.inl ⟨by rfl, fun W' hS => ?_⟩) ⟨_,hSS⟩ ?_
        · have q0 := hS.choose_spec.cell (i := 2) rfl
          clear hS
          go_simp
        simp only [Act.put]
        have hpl2 := places_any Vd k R R (b + 1) (by omega)
        unfold matV at hpl2
        refine wpAnyH_ready (rs := [9]) (by kernel_rfl) (by simp) ?_
        refine AllReadyH.cons rfl (fun K hKK => ?_) AllReadyH.nil
        go_simp
        refine hpl2.mono ?_
        rintro e W4 ⟨rfl, hW4⟩
        have bW4 : Below Vd.heap.size Vd W4 := by rw [hW4]; exact Below.refl' _ _
        have hS4 := hSS.belowAll bW4
        have g7 := g6.belowAll bW4
        have k7 : Kept S w W4 := k6.trans (Kept.ofBelow (S := S) bW4) (fun q h => .inl h)
        refine hKK.out _ _ ⟨_, hS4⟩ (fun hHeld => ?_)
        clear hKK hHeld hSS g6 k6 hW4 bW4 hpl2
        have hcol := collect_any W4 k R R (b + 1) hR hC (plsL_len hR hC)
        unfold matV at hcol
        refine wpAnyH_ready (rs := [10]) (by kernel_rfl) (by simp) ?_
        refine AllReadyH.cons rfl (fun K hKK => ?_) AllReadyH.nil
        go_simp
        refine hcol.mono ?_
        rintro e W5 ⟨v5, rfl, hfree, bW5⟩
        have hS5 := hS4.belowAll bW5
        have g8 := g7.belowAll bW5
        have k8 : Kept S w W5 := k7.trans (Kept.ofBelow (S := S) bW5) (fun q h => .inl h)
        obtain ⟨ao, cap, rfl, _, hcap, _⟩ := hfree.shape
        refine hKK.out _ _ ⟨_, hS5⟩ (fun hHeld => ?_)
        have hz4 := k7.size
        clear hKK hHeld hS4 g7 k7 bW5 hcol
        refine wpAnyH_take (i := 11) (v := .pointer (some ⟨p, 0, none⟩)) rfl (by kernel_rfl) (by kernel_rfl) (by kernel_rfl) (fun _ _ _ h => h) (Or.inl ⟨by rfl, fun W' hS => ?_⟩) ⟨_,hS5⟩ ?_
        · clear hS
          go_simp
        simp only [Act.put, List.getElem_toArray, List.getElem_cons_succ, List.getElem_cons_zero, List.setIfInBounds_toArray, List.set_cons_succ, List.set_cons_zero]
        refine wpAnyH_take (i := 12) (v := .pointer (some ⟨p, 7, none⟩)) rfl (by kernel_rfl) (by kernel_rfl) (by kernel_rfl) (fun _ _ _ h => h) (Or.inl ⟨by rfl, fun W' hS => ?_⟩) ⟨_,hS5⟩ ?_
        · clear hS
          go_simp
        simp only [Act.put, List.getElem_toArray, List.getElem_cons_succ, List.getElem_cons_zero, List.setIfInBounds_toArray, List.set_cons_succ, List.set_cons_zero]
        have s7 := hS5.cell (i := 7) rfl
        have t7 := hS5.frozen 7
        have hS6 : Arr (W5.setCell ⟨p, 7, none⟩ (.slice ao (plsL k R R).length cap)) p 167 _ := hS5.set 7 (.slice ao (plsL k R R).length cap)
        refine wpAnyH_ready (rs := [13]) (by kernel_rfl) (by simp) ?_
        refine AllReadyH.cons rfl (fun K hKK => ?_) AllReadyH.nil
        go_simp
        refine hKK.out _ _ ⟨_, hS6⟩ (fun hHeld => ?_)
        clear hKK hHeld s7 t7
        refine wpAnyH_done (by kernel_rfl) ?_ _
        have hfin : Hid (OpenR w p S st bytes k R R left (.returned (.int .i64 0)) (W5.setCell ⟨p, 7, none⟩ (.slice ao (plsL k R R).length cap))) := by
          refine ⟨by rw [HE.out]; rfl, .inr ⟨HE.out, k8.trans (Kept.set (S := S) hS _) (fun q h => .inl h), b + 1, _, hS6, by have := HB.out; omega, g8.other _ (by omega), ?_⟩⟩
          have hr : RowIn W5 (fun _ => True) 117 2 (.slice ao (plsL k R R).length cap) (plsL k R R).length (plcC (plsL k R R)) := ⟨ownsRow_base hfree (Nat.zero_le _), fun _ _ => trivial⟩
          have hr2 := (hr.set hS5 (j := 7) (by decide) (.slice ao (plsL k R R).length cap)).row
          obtain ⟨q1, q2 | ⟨g', cap', cur', q3, q4, q5⟩⟩ := hr2
          · exact ⟨q1, .inl q2⟩
          · refine ⟨q1, .inr ⟨g', cap', cur', q3, ?_, q5⟩⟩
            obtain ⟨_, ⟨q6, _⟩ | ⟨g2, cap2, cur2, q6, q7, _⟩⟩ := hfree
            · rw [q3] at q6; cases q6
            · rw [q3] at q6; cases q6; omega
        clear hS5 hS6 g8 k8 hfree
        go_wp2
        go_ret
        exact hfin.out
      | false =>
        have hW1 : Arr (w.setCell ⟨p, 6, none⟩ (.bool true)) p 167 (rdC st bytes k R0 C0 num true fv0 left) := HA.out.set 6 (.bool true)
        have hK1 : Kept S w (w.setCell ⟨p, 6, none⟩ (.bool true)) := Kept.set hS _
        have hz1 : (w.setCell ⟨p, 6, none⟩ (.bool true)).heap.size = w.heap.size := by simp [World.setCell]
        go_wp2_with fail
        clear x6 y6 c2
        generalize w.setCell ⟨p, 6, none⟩ (.bool true) = W1 at *
        have hpl := hW1.lt
        refine (mat_new W1 R C hR hC).mono ?_
        rintro e W2 ⟨rfl, hw2⟩
        obtain ⟨b, hb⟩ : ∃ b, w.heap.size = b := ⟨_, rfl⟩
        rw [hb] at hz1
        have g2 : Arr W2 (b + 1) 65 (List.replicate (R * C) (.int .u64 0)) := by
          have := Arr.newR (W1.alloc (matO R C (W1.heap.size + 1))) 65 (R * C) (.int .u64 0)
          rw [World.size_alloc, hz1] at this
          rw [hw2, hz1]; exact this
        have b2 : Below W1.heap.size W1 W2 := by rw [hw2]; exact ((Below.refl _ _).alloc (Nat.le_refl _) _).alloc (by simp) _
        have p2 : Arr W2 p 167 (rdC st bytes k R0 C0 num true fv0 left) := hW1.belowAll b2
        have hK2 : Kept S w W2 := hK1.trans (Kept.ofBelow (S := S) b2) (fun q h => .inl h)
        rw [hz1] at hpl ⊢
        have HB := hid hb
        clear hw2 hW1 hK1 b2 hz1 hb
        unfold matV
        have z3 := p2.cell (i := 3) rfl
        have u3 := p2.frozen 3
        have p3 := p2.set 3 (.int .i64 (R : Int))
        have z4 := p3.cell (i := 4) rfl
        have u4 := p3.frozen 4
        have p4 := p3.set 4 (.int .i64 (C : Int))
        have z5 := p4.cell (i := 5) rfl
        have u5 := p4.frozen 5
        have p5 : Arr (((W2.setCell ⟨p, 3, none⟩ (.int .i64 (R : Int))).setCell ⟨p, 4, none⟩ (.int .i64 (C : Int))).setCell ⟨p, 5, none⟩ (.slice (some ⟨b + 1, 0, none⟩) (R * C) (R * C))) p 167 (rdC st bytes k R C (.slice (some ⟨b + 1, 0, none⟩) (R * C) (R * C)) true fv0 left) := p4.set 5 (.slice (some ⟨b + 1, 0, none⟩) (R * C) (R * C))
        have g5 : Arr (((W2.setCell ⟨p, 3, none⟩ (.int .i64 (R : Int))).setCell ⟨p, 4, none⟩ (.int .i64 (C : Int))).setCell ⟨p, 5, none⟩ (.slice (some ⟨b + 1, 0, none⟩) (R * C) (R * C))) (b + 1) 65 (List.replicate (R * C) (.int .u64 0)) := ((g2.other _ (by omega)).other _ (by omega)).other _ (by omega)
        have hK5 : Kept S w (((W2.setCell ⟨p, 3, none⟩ (.int .i64 (R : Int))).setCell ⟨p, 4, none⟩ (.int .i64 (C : Int))).setCell ⟨p, 5, none⟩ (.slice (some ⟨b + 1, 0, none⟩) (R * C) (R * C))) :=
          ((hK2.trans (Kept.set (S := S) hS _) (fun q h => .inl h)).trans (Kept.set (S := S) hS _) (fun q h => .inl h)).trans (Kept.set (S := S) hS _) (fun q h => .inl h)
        have HP5 := hid p5
        have HG5 := hid g5
        have HK5 := hid hK5
        clear p3 p4 p5 g5 hK5 g2 hK2
        go_wp2_with fail
        clear z3 z4 z5 u3 u4 u5 p2
        generalize ((W2.setCell ⟨p, 3, none⟩ (.int .i64 (R : Int))).setCell ⟨p, 4, none⟩ (.int .i64 (C : Int))).setCell ⟨p, 5, none⟩ (.slice (some ⟨b + 1, 0, none⟩) (R * C) (R * C)) = W3 at *
        refine wp_region_held (S := fun W' => ∃ fv, Arr W' p 167 (rdC st bytes k R C (.slice (some ⟨b + 1, 0, none⟩) (R * C) (R * C)) true fv left)) hmix ?_
        change wpAnyH _ _ _ _ _ _ _ _ W3.drew
        have hSS : Arr W3.drew p 167 (rdC st bytes k R C (.slice (some ⟨b + 1, 0, none⟩) (R * C) (R * C)) true fv0 left) := HP5.out.drew
        have g6 : Arr W3.drew (b + 1) 65 (List.replicate (R * C) (.int .u64 0)) := HG5.out.drew
        have k6 : Kept S w W3.drew := HK5.out.trans (Kept.drewN (S := S) 1) (fun q h => .inl h)
        clear HP5 HG5 HK5
        generalize W3.drew = Vd at *
        refine wpAnyH_take (i := 0) (v := .pointer (some ⟨p, 0, none⟩)) rfl (by kernel_rfl) (by kernel_rfl) (by kernel_rfl) (fun _ _ _ h => h) (Or.inl ⟨by rfl, fun W' hS => ?_⟩) ⟨_,hSS⟩ ?_
        · clear hS
          go_simp
        simp only [Act.put]
        refine wpAnyH_take (i := 1) (v := .pointer (some ⟨p, 0, none⟩)) rfl (by kernel_rfl) (by kernel_rfl) (by kernel_rfl) (fun _ _ _ h => h) (Or.inl ⟨by rfl, fun W' hS => ?_⟩) ⟨_,hSS⟩ ?_
        · clear hS
          go_simp
        simp only [Act.put]
        refine wpAnyH_take (i := 2) (v := .pointer (some ⟨p, 0, none⟩)) rfl (by kernel_rfl) (by kernel_rfl) (by kernel_rfl) (fun _ _ _ h => h) (Or.inl ⟨by rfl, fun W' hS => ?_⟩) ⟨_,hSS⟩ ?_
        · clear hS
          go_simp
        simp only [Act.put]
        refine wpAnyH_take (i := 3) (v := .pointer (some ⟨p, 3, none⟩)) rfl (by kernel_rfl) (by kernel_rfl) (by kernel_rfl) (fun _ _ _ h => h) (Or.inl ⟨by rfl, fun W' hS => ?_⟩) ⟨_,hSS⟩ ?_
        · clear hS
          go_simp
        simp only [Act.put]
        refine wpAnyH_take (i := 4) (v := .agg #[.int .i64 (R : Int), .int .i64 (C : Int), .slice (some ⟨b + 1, 0, none⟩) (R * C) (R * C)]) rfl (by kernel_rfl) (by kernel_rfl) (by kernel_rfl) (fun _ _ _ h => h) (Or.inl ⟨by rfl, fun W' hS => ?_⟩) ⟨_,hSS⟩ ?_
        · have q0 := hS.choose_spec.cell (i := 3) rfl
          have q1 := hS.choose_spec.cell (i := 4) rfl
          have q2 := hS.choose_spec.cell (i := 5) rfl
          clear hS
          go_simp
        simp only [Act.put]
        refine wpAnyH_take (i := 5) (v := .pointer (some ⟨p, 0, none⟩)) rfl (by kernel_rfl) (by kernel_rfl) (by kernel_rfl) (fun _ _ _ h => h) (Or.inl ⟨by rfl, fun W' hS => ?_⟩) ⟨_,hSS⟩ ?_
        · clear hS
          go_simp
        simp only [Act.put]
        refine wpAnyH_take (i := 6) (v := .pointer (some ⟨p, 0, none⟩)) rfl (by kernel_rfl) (by kernel_rfl) (by kernel_rfl) (fun _ _ _ h => h) (Or.inl ⟨by rfl, fun W' hS => ?_⟩) ⟨_,hSS⟩ ?_
        · clear hS
          go_simp
        simp only [Act.put]
        refine wpAnyH_take (i := 7) (v := .pointer (some ⟨p, 2, none⟩)) rfl (by kernel_rfl) (by kernel_rfl) (by kernel_rfl) (fun _ _ _ h => h) (Or.inl ⟨by rfl, fun W' hS => ?_⟩) ⟨_,hSS⟩ ?_
        · clear hS
          go_simp
        simp only [Act.put]
        refine wpAnyH_take (i := 8) (v := .int .i64 (k : Int)) rfl (by kernel_rfl) (by kernel_rfl) (by kernel_rfl) (fun _ _ _ h => h) (Or.inl ⟨by rfl, fun W' hS => ?_⟩) ⟨_,hSS⟩ ?_
        · have q0 := hS.choose_spec.cell (i := 2) rfl
          clear hS
          go_simp
        simp only [Act.put]
        have hpl2 := places_any Vd k R C (b + 1) (by omega)
        unfold matV at hpl2
        refine wpAnyH_ready (rs := [9]) (by kernel_rfl) (by simp) ?_
        refine AllReadyH.cons rfl (fun K hKK => ?_) AllReadyH.nil
        go_simp
        refine hpl2.mono ?_
        rintro e W4 ⟨rfl, hW4⟩
        have bW4 : Below Vd.heap.size Vd W4 := by rw [hW4]; exact Below.refl' _ _
        have hS4 := hSS.belowAll bW4
        have g7 := g6.belowAll bW4
        have k7 : Kept S w W4 := k6.trans (Kept.ofBelow (S := S) bW4) (fun q h => .inl h)
        refine hKK.out _ _ ⟨_, hS4⟩ (fun hHeld => ?_)
        clear hKK hHeld hSS g6 k6 hW4 bW4 hpl2
        have hcol := collect_any W4 k R C (b + 1) hR hC (plsL_len hR hC)
        unfold matV at hcol
        refine wpAnyH_ready (rs := [10]) (by kernel_rfl) (by simp) ?_
        refine AllReadyH.cons rfl (fun K hKK => ?_) AllReadyH.nil
        go_simp
        refine hcol.mono ?_
        rintro e W5 ⟨v5, rfl, hfree, bW5⟩
        have hS5 := hS4.belowAll bW5
        have g8 := g7.belowAll bW5
        have k8 : Kept S w W5 := k7.trans (Kept.ofBelow (S := S) bW5) (fun q h => .inl h)
        obtain ⟨ao, cap, rfl, _, hcap, _⟩ := hfree.shape
        refine hKK.out _ _ ⟨_, hS5⟩ (fun hHeld => ?_)
        have hz4 := k7.size
        clear hKK hHeld hS4 g7 k7 bW5 hcol
        refine wpAnyH_take (i := 11) (v := .pointer (some ⟨p, 0, none⟩)) rfl (by kernel_rfl) (by kernel_rfl) (by kernel_rfl) (fun _ _ _ h => h) (Or.inl ⟨by rfl, fun W' hS => ?_⟩) ⟨_,hS5⟩ ?_
        · clear hS
          go_simp
        simp only [Act.put, List.getElem_toArray, List.getElem_cons_succ, List.getElem_cons_zero, List.setIfInBounds_toArray, List.set_cons_succ, List.set_cons_zero]
        refine wpAnyH_take (i := 12) (v := .pointer (some ⟨p, 7, none⟩)) rfl (by kernel_rfl) (by kernel_rfl) (by kernel_rfl) (fun _ _ _ h => h) (Or.inl ⟨by rfl, fun W' hS => ?_⟩) ⟨_,hS5⟩ ?_
        · clear hS
          go_simp
        simp only [Act.put, List.getElem_toArray, List.getElem_cons_succ, List.getElem_cons_zero, List.setIfInBounds_toArray, List.set_cons_succ, List.set_cons_zero]
        have s7 := hS5.cell (i := 7) rfl
        have t7 := hS5.frozen 7
        have hS6 : Arr (W5.setCell ⟨p, 7, none⟩ (.slice ao (plsL k R C).length cap)) p 167 _ := hS5.set 7 (.slice ao (plsL k R C).length cap)
        refine wpAnyH_ready (rs := [13]) (by kernel_rfl) (by simp) ?_
        refine AllReadyH.cons rfl (fun K hKK => ?_) AllReadyH.nil
        go_simp
        refine hKK.out _ _ ⟨_, hS6⟩ (fun hHeld => ?_)
        clear hKK hHeld s7 t7
        refine wpAnyH_done (by kernel_rfl) ?_ _
        have hfin : Hid (OpenR w p S st bytes k R C left (.returned (.int .i64 0)) (W5.setCell ⟨p, 7, none⟩ (.slice ao (plsL k R C).length cap))) := by
          refine ⟨by rw [HE.out]; rfl, .inr ⟨HE.out, k8.trans (Kept.set (S := S) hS _) (fun q h => .inl h), b + 1, _, hS6, by have := HB.out; omega, g8.other _ (by omega), ?_⟩⟩
          have hr : RowIn W5 (fun _ => True) 117 2 (.slice ao (plsL k R C).length cap) (plsL k R C).length (plcC (plsL k R C)) := ⟨ownsRow_base hfree (Nat.zero_le _), fun _ _ => trivial⟩
          have hr2 := (hr.set hS5 (j := 7) (by decide) (.slice ao (plsL k R C).length cap)).row
          obtain ⟨q1, q2 | ⟨g', cap', cur', q3, q4, q5⟩⟩ := hr2
          · exact ⟨q1, .inl q2⟩
          · refine ⟨q1, .inr ⟨g', cap', cur', q3, ?_, q5⟩⟩
            obtain ⟨_, ⟨q6, _⟩ | ⟨g2, cap2, cur2, q6, q7, _⟩⟩ := hfree
            · rw [q3] at q6; cases q6
            · rw [q3] at q6; cases q6; omega
        clear hS5 hS6 g8 k8 hfree
        go_wp2
        go_ret
        exact hfin.out
end Go.Proofs.YthdcceackfdbbaaGreatDoor
namespace Go.Proofs.YthdcceackfdbbaaGreatDoor
open Go Go.RowKit
inductive TSt where
  | first
  | sizes (k : Nat)
  | ent (k R C left : Nat) (free : List (Nat × Nat)) (f : Nat → Nat → Nat)
def entF (k : Nat) : Nat := if k = 2 ∨ k = 3 then 213 else 214
def TextIs (w : World) (p : Nat) (S : Nat → Prop) (cur : List UInt8) : TSt → Prop
  | .first => S p ∧ ∃ bytes, Arr w p 167 (rdC (stV 114 p) bytes 0 0 0 (.slice none 0 0) false (.slice none 0 0) 0) ∧ RowIn w S 5 1 bytes cur.length (u8s cur)
  | .sizes k => k ≤ 3 ∧ S p ∧ ∃ bytes, Arr w p 167 (rdC (stV 149 p) bytes k 0 0 (.slice none 0 0) false (.slice none 0 0) 0) ∧ RowIn w S 5 1 bytes cur.length (u8s cur)
  | .ent k R C left free f => ∃ bytes g fv, EntC w p S (stV (entF k) p) bytes g fv k R C left free f cur
def StepT (w : World) (p : Nat) (S : Nat → Prop) (r : Nat × TSt) (e : Ending) (w' : World) : Prop :=
  ∃ st : Value, e = .returned (.tuple #[st, .int .i64 (r.1 : Int)]) ∧ (∃ F a b, st = .func F a b ∨ st = .nilFunc) ∧ Kept S w w' ∧ (∃ c, Arr w' p 167 c ∧ c.length = 9) ∧ (r.1 = 0 → TextIs (w'.setCell ⟨p, 0, none⟩ st) p (plus S w w') [] r.2)
def firstWL (k : Nat) : List (List UInt8) := (firstW k).map (·.data.toList)
def firstK (ws : List (List UInt8)) : Option Nat := [0, 1, 2, 3].find? fun k => decide (ws = firstWL k)
def firstT (ws : List (List UInt8)) : Nat × TSt := match firstK ws with | some k => (0, .sizes k) | none => (6, .first)
theorem ba_inj {a b : ByteArray} (h : a.data.toList = b.data.toList) : a = b := by
  cases a; cases b; simp at h; rw [h]
theorem map_data_inj : ∀ {a b : List ByteArray}, a.map (·.data.toList) = b.map (·.data.toList) → a = b
  | [], [], _ => rfl
  | [], _ :: _, h => by simp at h
  | _ :: _, [], h => by simp at h
  | x :: r, y :: s, h => by
    simp only [List.map_cons, List.cons.injEq] at h
    rw [ba_inj h.1, map_data_inj h.2]
theorem firstK_some {ws : List ByteArray} {k : Nat} (hk : k ≤ 3) (h : ws = firstW k) (hn : ∀ j, j < k → ws ≠ firstW j) : firstK (ws.map (·.data.toList)) = some k := by
  unfold firstK
  have hj : ∀ j, j < k → decide (ws.map (·.data.toList) = firstWL j) = false := fun j hj => by
    simp only [decide_eq_false_iff_not]
    exact fun e => hn j hj (map_data_inj e)
  have hkk : decide (ws.map (·.data.toList) = firstWL k) = true := by simp [firstWL, h]
  rcases (by omega : k = 0 ∨ k = 1 ∨ k = 2 ∨ k = 3) with rfl | rfl | rfl | rfl
  · simp only [List.find?, hkk]
  · simp only [List.find?, hkk, hj 0 (by omega)]
  · simp only [List.find?, hkk, hj 0 (by omega), hj 1 (by omega)]
  · simp only [List.find?, hkk, hj 0 (by omega), hj 1 (by omega), hj 2 (by omega)]
theorem firstK_none {ws : List ByteArray} (hn : ∀ j, j < 4 → ws ≠ firstW j) : firstK (ws.map (·.data.toList)) = none := by
  unfold firstK
  have hj : ∀ j, j < 4 → decide (ws.map (·.data.toList) = firstWL j) = false := fun j hj => by
    simp only [decide_eq_false_iff_not]
    exact fun e => hn j hj (map_data_inj e)
  simp only [List.find?, hj 0 (by omega), hj 1 (by omega), hj 2 (by omega), hj 3 (by omega)]
theorem firstW_len (k : Nat) : (firstW k).length = 5 := by unfold firstW; split <;> rfl
theorem idx4 (k : Nat) (hk : k < 4) (w : World) : (Instr.index 214 (.agg #[.int .i64 0, .int .i64 1, .int .i64 2, .int .i64 3]) (.int .i64 (k : Int))).run Tryz.prog w = .ok (.int .i64 (k : Int)) w := by
  rcases (by omega : k = 0 ∨ k = 1 ∨ k = 2 ∨ k = 3) with rfl | rfl | rfl | rfl
  · kernel_rfl
  · kernel_rfl
  · kernel_rfl
  · kernel_rfl
theorem equal_any (w : World) (A n B k : Nat) (ws : List ByteArray) (hn : ws.length = n) (hn1 : n ≤ 1000000) (hs : StrsAt w (some ⟨A, 0, none⟩) ws) (hb : Arr w B 9 ((firstW k).map Value.string)) :
    Calls Tryz.prog 148 #[.slice (some ⟨A, 0, none⟩) n n, .slice (some ⟨B, 0, none⟩) 5 5] w fun e w' => e = .returned (.bool (decide (ws = firstW k))) ∧ ∃ q, w' = w.drewN q := by
  have hl := firstW_len k
  by_cases h5 : n = 5
  · subst h5
    refine (Tryz.slices_Equal_string A 0 5 5 B 0 5 5 ws (firstW k) w (by omega) (by omega) (by omega) (by omega) ?_ ?_).mono ?_
    · intro j hj
      obtain ⟨g, off, h1, _, h2⟩ := hs j ws[j] (by simp [hj])
      cases h1
      rw [h2]; simp [hj]
    · intro j hj
      rw [Nat.zero_add]
      refine hb.cell ?_
      rw [List.getElem?_map]; simp [hj]
    · rintro e w' ⟨rfl, hq⟩
      refine ⟨?_, hq⟩
      rw [List.take_of_length_le (by omega), List.take_of_length_le (by omega)]
  · refine (Tryz.slices_Equal_string_lens (some ⟨A, 0, none⟩) (some ⟨B, 0, none⟩) n n 5 5 w h5).mono ?_
    rintro e w' ⟨rfl, rfl⟩
    refine ⟨?_, 0, (World.drewN_zero _).symm⟩
    have : ¬ ws = firstW k := fun e => h5 (by rw [← hn, e, hl])
    simp [this]
set_option maxRecDepth 20000 in
set_option maxHeartbeats 2000000 in
theorem first_step (w : World) (p : Nat) (S : Nat → Prop) (A n : Nat) (ws : List ByteArray) (c : Bool) (hn : ws.length = n) (hn1 : n ≤ 1000000) (hs : StrsAt w (some ⟨A, 0, none⟩) ws) (h : TextIs w p S [] .first) :
    Calls Tryz.prog 114 #[.pointer (some ⟨p, 0, none⟩), lineV A n c] w fun e w' => StepT w p S (firstT (ws.map (·.data.toList))) e w' := by
  have hmix : Tryz.prog.follows .mixedOrders = true := by kernel_rfl
  have hmf : ∀ (fn : Fn) (first cap : Array Value) (w : World), (Instr.makeFunc fn first cap).run Tryz.prog w = .ok (.func fn first cap) w := fun _ _ _ _ => rfl
  obtain ⟨hS, bytes, ha, hr⟩ := h
  obtain ⟨b, hb⟩ : ∃ b, w.heap.size = b := ⟨_, rfl⟩
  obtain ⟨res, hres⟩ : ∃ res, firstT (ws.map (·.data.toList)) = res := ⟨_, rfl⟩
  rw [hres]
  have HRES := hid hres
  have HAA := hid ha
  have HR := hid hr
  have HS := hid hs
  have HN := hid hn
  clear hres ha hr hs hn
  unfold lineV
  go_enter Tryz.func114, Tryz.ntmps114
  go_wp2_with fail
  obtain ⟨V, hV⟩ : ∃ V, w.alloc (.cells #[.slice (some ⟨A, 0, none⟩) n n, .bool c] 213) = V := ⟨_, rfl⟩
  have aV : Arr V b 213 [.slice (some ⟨A, 0, none⟩) n n, .bool c] := by rw [← hV, ← hb]; exact Arr.newL w _ _
  have bV : Below b w V := by rw [← hV, ← hb]; exact Below.refl' _ _
  rw [hV]
  clear hV
  go_loopw [9] (fun i wr => ∃ k : Nat, k ≤ 4 ∧ i = .int .i64 (k : Int) ∧ Below b w wr ∧ Arr wr b 213 [.slice (some ⟨A, 0, none⟩) n n, .bool c] ∧ Hid (∀ j, j < k → ws ≠ firstW j)) (fun i _ => 4 - (intOf i).toNat)
  case atStart => exact ⟨0, by omega, rfl, bV, aV, fun j h => by omega⟩
  case round =>
    obtain ⟨k, hk, rfl, bR, aR, HJ⟩ := hrel
    by_cases hlt : k < 4
    · have hlt' : (k : Int) < 4 := by omega
      have hix := idx4 k hlt
      go_wp2_with fail
      clear hix
      refine wp_region_held (S := fun W' => Arr W' b 213 [.slice (some ⟨A, 0, none⟩) n n, .bool c]) hmix ?_
      change wpAnyH _ _ _ _ _ _ _ _ wr.drew
      have hS1 : Arr wr.drew b 213 [.slice (some ⟨A, 0, none⟩) n n, .bool c] := aR.drew
      have b1 : Below b w wr.drew := bR.drew
      clear aR bR
      generalize wr.drew = Wd at *
      refine wpAnyH_take (i := 0) (v := .pointer (some ⟨b, 0, none⟩)) rfl (by kernel_rfl) (by kernel_rfl) (by kernel_rfl) (fun _ _ _ h => h) (Or.inl ⟨by rfl, fun W' hS => ?_⟩) hS1 ?_
      · clear hS
        go_simp
      simp only [Act.put]
      refine wpAnyH_take (i := 1) (v := .slice (some ⟨A, 0, none⟩) n n) rfl (by kernel_rfl) (by kernel_rfl) (by kernel_rfl) (fun _ _ _ h => h) (Or.inl ⟨by rfl, fun W' hS => ?_⟩) hS1 ?_
      · have q0 := hS.cell (i := 0) rfl
        clear hS
        go_simp
      simp only [Act.put]
      refine wpAnyH_take (i := 2) (v := .int .i64 (k : Int)) rfl (by kernel_rfl) (by kernel_rfl) (by kernel_rfl) (fun _ _ _ h => h) (Or.inl ⟨by rfl, fun W' hS => ?_⟩) hS1 ?_
      · clear hS
        go_simp
      simp only [Act.put]
      refine wpAnyH_ready (rs := [3]) (by kernel_rfl) (by simp) ?_
      refine AllReadyH.cons rfl (fun K hKK => ?_) AllReadyH.nil
      go_simp
      refine (first_any Wd k (by omega)).mono ?_
      rintro e W2 ⟨rfl, hW2⟩
      have q2 : Arr W2 Wd.heap.size 9 ((firstW k).map Value.string) := by rw [hW2]; exact Arr.newL _ _ _
      have b2 : Below Wd.heap.size Wd W2 := by rw [hW2]; exact Below.refl' _ _
      have hS2 := hS1.belowAll b2
      have bz := b1.size
      have b3 : Below b w W2 := b1.trans (b2.mono (by omega))
      refine hKK.out _ _ hS2 (fun hHeld => ?_)
      clear hKK hHeld hS1 hW2
      have heq := equal_any W2 A n Wd.heap.size k ws HN.out hn1 (HS.out.below (hb ▸ b3)) q2
      obtain ⟨ev, hev⟩ : ∃ ev, decide (ws = firstW k) = ev := ⟨_, rfl⟩
      rw [hev] at heq
      have HEV := hid hev
      clear hev
      refine wpAnyH_ready (rs := [4]) (by kernel_rfl) (by simp) ?_
      refine AllReadyH.cons rfl (fun K hKK => ?_) AllReadyH.nil
      go_simp
      refine heq.mono ?_
      rintro e W3 ⟨rfl, q, hW3⟩
      have hS3 : Arr W3 b 213 [.slice (some ⟨A, 0, none⟩) n n, .bool c] := by rw [hW3]; exact hS2.drewN q
      have b4 : Below b w W3 := by rw [hW3]; exact below_dn b3 q
      refine hKK.out _ _ hS3 (fun hHeld => ?_)
      clear hKK hHeld hW3 hS2 b3 b2 q2 heq
      refine wpAnyH_done (by kernel_rfl) ?_ _
      cases ev with
      | true =>
        have hws : ws = firstW k := by have := HEV.out; simpa using this
        have hr0 : res = (0, .sizes k) := by rw [← HRES.out]; unfold firstT; rw [firstK_some (by omega) hws HJ.out]
        have a3 : Arr W3 p 167 _ := HAA.out.belowAll (hb ▸ b4)
        have x2 := a3.cell (i := 2) rfl
        have y2 := a3.frozen 2
        have hfin : Hid (StepT w p S res (.returned (.tuple #[stV 149 p, .int .i64 0])) (W3.setCell ⟨p, 2, none⟩ (.int .i64 (k : Int)))) := by
          have a4 := a3.set 2 (.int .i64 (k : Int))
          have hk4 : Kept S w (W3.setCell ⟨p, 2, none⟩ (.int .i64 (k : Int))) := (Kept.ofBelow (hb ▸ b4)).trans (Kept.set (S := S) hS _) (fun q h => .inl h)
          rw [hr0]
          refine ⟨_, rfl, ⟨_, _, _, .inl rfl⟩, hk4, ⟨_, a4, rfl⟩, fun _ => ⟨by omega, .inl hS, bytes, a4.set 0 (stV 149 p), ?_⟩⟩
          exact (((HR.out.below (hb ▸ b4)).set a3 (by decide) _).set a4 (by decide) _).mono (fun q h => .inl h)
        clear a3 b4 hS3 hws hr0
        unfold stV at hfin
        go_wp2
        go_ret2
        exact hfin.out
      | false =>
        have hws : ws ≠ firstW k := by have := HEV.out; simpa using this
        go_wp2
        go_round
        case rel => exact ⟨k + 1, by omega, by simp, b4, hS3, fun j hj => by
          by_cases e : j = k
          · subst e; exact hws
          · exact HJ.out j (by omega)⟩
        case measure => simp [intOf]; omega
    · obtain rfl : k = 4 := by omega
      have hr6 : res = (6, .first) := by rw [← HRES.out]; unfold firstT; rw [firstK_none HJ.out]
      subst hr6
      have hfin : Hid (StepT w p S (6, .first) (.returned (.tuple #[.nilFunc, .int .i64 6])) wr) :=
        ⟨_, rfl, ⟨default, default, default, .inr rfl⟩, Kept.ofBelow (hb ▸ bR), ⟨_, HAA.out.belowAll (hb ▸ bR), rfl⟩, fun h => by simp at h⟩
      clear bR aR
      go_wp2
      go_ret2
      exact hfin.out
end Go.Proofs.YthdcceackfdbbaaGreatDoor
