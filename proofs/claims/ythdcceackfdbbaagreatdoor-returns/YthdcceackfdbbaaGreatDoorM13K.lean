import Derived.Test.YthdcceackfdbbaaGreatDoorM12K
import Derived.OrdersHeld
namespace Go.Proofs.YthdcceackfdbbaaGreatDoor
open Go Go.RowKit Go.Shelf
attribute [local go_sem] Oper.semAt_some

theorem ksym_b (w : World) (k : Int) (b : Bool) (hb : decide (k = 1 ∨ k = 3) = b) : Calls Tryz.prog 68 #[.int .i64 k] w fun e w' => e = .returned (.bool b) ∧ w' = w := by
  rw [← hb]; exact ksym_any w k
theorem kcoord_b (w : World) (k : Int) (b : Bool) (hb : decide (k = 2 ∨ k = 3) = b) : Calls Tryz.prog 145 #[.int .i64 k] w fun e w' => e = .returned (.bool b) ∧ w' = w := by
  rw [← hb]; exact kcoord_any w k

/-- what goes through the places of a kind -/
def placeF (kind : Nat) : Nat := if kind = 4 then 97 else if kind = 1 ∨ kind = 3 then 98 else 99

/-- the places that a file of a kind may tell of, in its order, each with its number -/
def plcL (kind R C : Nat) (f : Nat → Nat → Nat) : List (Nat × Nat × Nat) :=
  if kind = 4 then rowsL R C f else if kind = 1 ∨ kind = 3 then (colsL R C f).filter (fun x => decide (x.2.1 ≤ x.1)) else colsL R C f

theorem plcL_mem {kind R C : Nat} {f : Nat → Nat → Nat} {x : Nat × Nat × Nat} (h : x ∈ plcL kind R C f) : x.1 < R ∧ x.2.1 < C ∧ x.2.2 = f x.1 x.2.1 := by
  unfold plcL at h
  split at h
  · exact rowsL_mem h
  · split at h
    · exact colsL_mem (List.mem_filter.1 h).1
    · exact colsL_mem h

theorem entL_plc (kind R C : Nat) (f : Nat → Nat → Nat) : entL kind R C f = (plcL kind R C f).filter (fun x => decide (¬ ((kind = 2 ∨ kind = 3) ∧ x.2.2 = 0))) := by
  unfold entL plcL
  by_cases h4 : kind = 4
  · subst h4
    exact (List.filter_eq_self.2 (fun x _ => by simp)).symm
  · rw [if_neg h4, if_neg h4]
    simp only
    by_cases hc : kind = 2 ∨ kind = 3
    · rw [if_pos hc]
      congr 1
      funext x; simp [hc]
    · rw [if_neg hc]
      exact (List.filter_eq_self.2 (fun x _ => by simp [hc])).symm

theorem places_any (w : World) (kind R C g : Nat) (hk : kind ≤ 5) :
    Calls Tryz.prog 63 #[matV R C g, .int .i64 (kind : Int)] w fun e w' => e = .returned (.func (.func (placeF kind)) #[matV R C g] #[]) ∧ w' = w.alloc (matO R C g) := by
  have hmf : ∀ (fn : Fn) (first cap : Array Value) (w : World), (Instr.makeFunc fn first cap).run Tryz.prog w = .ok (.func fn first cap) w := fun _ _ _ _ => rfl
  unfold matV matO
  by_cases h4 : kind = 4
  · subst h4
    go_enter Tryz.func63, Tryz.ntmps63
    go_wp2
    go_ret
    exact ⟨rfl, rfl⟩
  · have h4' : ¬ (kind : Int) = 4 := by omega
    by_cases hs : kind = 1 ∨ kind = 3
    · have hpf : placeF kind = 98 := by unfold placeF; rw [if_neg h4, if_pos hs]
      rw [hpf]
      go_enter Tryz.func63, Tryz.ntmps63
      go_wp2_with fail
      refine (ksym_b _ _ true (by simp; omega)).mono ?_
      rintro e w1 ⟨rfl, rfl⟩
      go_wp2
      go_ret
      exact ⟨rfl, rfl⟩
    · have hpf : placeF kind = 99 := by unfold placeF; rw [if_neg h4, if_neg hs]
      rw [hpf]
      go_enter Tryz.func63, Tryz.ntmps63
      go_wp2_with fail
      refine (ksym_b _ _ false (by simp; omega)).mono ?_
      rintro e w1 ⟨rfl, rfl⟩
      go_wp2
      go_ret
      exact ⟨rfl, rfl⟩

theorem places_gives (kind R C g : Nat) (f : Nat → Nat → Nat) (hR : R ≤ 40) (hC : C ≤ 40) : Gives Tryz.prog (placeF kind) #[matV R C g] #[] ((plcL kind R C f).map plcA) (fun _ _ => True) := by
  unfold placeF plcL
  split
  · exact rows_gives R C g f hR hC
  · split
    · exact lower_gives R C g f hR hC
    · exact cols_gives R C g f hR hC

theorem place_enters (kind : Nat) : ∀ args w, (callFunc (placeF kind) args).run Tryz.prog w = .ok (.enter (placeF kind) args) w := by
  unfold placeF
  split
  · exact enters_of Tryz.func97 (by kernel_rfl) rfl
  · split
    · exact enters_of Tryz.func98 (by kernel_rfl) rfl
    · exact enters_of Tryz.func99 (by kernel_rfl) rfl

/-- what the entries go through -/
structure MemE (kind R C g : Nat) (f : Nat → Nat → Nat) (be bk : Nat) (W : World) : Prop where
  mem : MemM C g R f W
  c0 : W.cell? ⟨be, 0, none⟩ = some (.int .i64 (R : Int))
  c1 : W.cell? ⟨be, 1, none⟩ = some (.int .i64 (C : Int))
  c2 : W.cell? ⟨be, 2, none⟩ = some (.slice (some ⟨g, 0, none⟩) (R * C) (R * C))
  ck : W.cell? ⟨bk, 0, none⟩ = some (.int .i64 (kind : Int))

theorem MemE.sim {B kind R C g : Nat} {f : Nat → Nat → Nat} {be bk : Nat} {W W' : World} (h : MemE kind R C g f be bk W) (s : Sim B W W') : MemE kind R C g f be bk W' :=
  ⟨h.mem.sim s, s.cell h.c0, s.cell h.c1, s.cell h.c2, s.cell h.ck⟩

set_option maxRecDepth 20000 in
set_option maxHeartbeats 4000000 in
theorem ent_gives (kind R C g : Nat) (f : Nat → Nat → Nat) (be bk : Nat) (hk : kind ≤ 5) (hR : R ≤ 40) (hC : C ≤ 40) :
    Gives Tryz.prog 147 #[] #[.pointer (some ⟨be, 0, none⟩), .pointer (some ⟨bk, 0, none⟩)] ((entL kind R C f).map entV) (fun _ => MemE kind R C g f be bk) := by
  intro l J Jx W hM hJ hJx hY h0
  rw [entL_plc] at hY ⊢
  rw [List.length_map]
  obtain ⟨xs, hxs⟩ : ∃ xs, plcL kind R C f = xs := ⟨_, rfl⟩
  obtain ⟨kp, hkpd⟩ : ∃ kp : Nat × Nat × Nat → Bool, (fun x => decide (¬ ((kind = 2 ∨ kind = 3) ∧ x.2.2 = 0))) = kp := ⟨_, rfl⟩
  obtain ⟨V, hV⟩ : ∃ V, W.alloc (.cells #[.func (.yield l) #[] #[]] 211) = V := ⟨_, rfl⟩
  obtain ⟨W0, hW0⟩ : ∃ W0, V.alloc (matO R C g) = W0 := ⟨_, rfl⟩
  have eV := (hM _ _ h0).sim (Sim.alloc 0 W (.cells #[.func (.yield l) #[] #[]] 211))
  have d0 := eV.c0
  have d1 := eV.c1
  have d2 := eV.c2
  have dk := eV.ck
  have hbx : Arr W0 W.heap.size 211 [.func (.yield l) #[] #[]] := by rw [← hW0, ← hV]; exact (Arr.newL W 211 [.func (.yield l) #[] #[]]).alloc _
  have hj1 : J 0 W0 := by rw [← hW0, ← hV]; exact hJ _ _ _ h0 ((Sim.alloc _ _ _).trans (Sim.alloc _ _ _))
  have hs0 : W0.heap.size = W.heap.size + 2 := by rw [← hW0, ← hV]; simp
  have HP := hid (callsIn_wide (n := 0).2 (places_any (W.alloc (.cells #[.func (.yield l) #[] #[]] 211)) kind R C g hk))
  have HJ := hid hJ
  have HJx := hid hJx
  have HY := hid hY
  have HM := hid hM
  have HBX := hid hbx
  have HJ1 := hid hj1
  have HW0 : Hid _ := hid hW0
  rw [← hV] at HW0
  clear hJ hJx hY hM hbx hj1 h0 eV hW0 hV
  rw [hkpd, hxs] at HY
  rw [hkpd, hxs]
  have hgv := places_gives kind R C g f hR hC
  rw [hxs] at hgv
  have hcm : ∀ x ∈ xs, x.1 < R ∧ x.2.1 < C ∧ x.2.2 = f x.1 x.2.1 := fun x hx => plcL_mem (by rw [hxs]; exact hx)
  refine callsIn_of_wp_marks Tryz.func147 rfl trivial ?_ rfl
  simp only [Tryz.ntmps147, List.size_toArray, List.length_cons, List.length_nil, Nat.reduceAdd, Nat.reduceSub, Array.replicate_succ, Array.replicate_zero, List.push_toArray, List.append_toArray, List.nil_append, List.cons_append]
  have hdep : Fence.wide.depth = none := rfl
  have hf1 : Fence.wide.fn 63 := trivial
  have hf2 : Fence.wide.fn 64 := trivial
  have hf3 : Fence.wide.fn 145 := trivial
  unfold matV at HP
  gi_wp2_with fail
  refine HP.out.mono ?_
  rintro e w' ⟨rfl, rfl⟩
  clear HP
  rw [HW0.out]
  gi_wp2_with fail
  clear HW0 d0 d1 d2 dk
  refine range_gives 0 (gf := placeF kind) (fst := #[matV R C g]) (lb := #[]) rfl (place_enters kind) hgv (by intro x hx; obtain ⟨y, _, rfl⟩ := List.mem_map.1 hx; rfl)
    (fun k W' => J ((xs.take k).filter kp).length W' ∧ Arr W' W.heap.size 211 [.func (.yield l) #[] #[]])
    (fun c W' => c = .ret ∧ Jx () W')
    (fun x a' W' => ∃ (y : Nat × Nat × Nat) (Bx : Nat), x = plcA y ∧ W.heap.size < Bx ∧ Arr W' Bx 117 [.int .i64 (y.1 : Int), .int .i64 (y.2.1 : Int)] ∧ a' = { tmps := #[.func (.yield l) #[] #[], .pointer (some ⟨be, 0, none⟩), .pointer (some ⟨bk, 0, none⟩), .pointer (some ⟨W.heap.size, 0, none⟩), .pointer (some ⟨Bx, 0, none⟩), undef, .agg #[.int .i64 (R : Int), .int .i64 (C : Int), .slice (some ⟨g, 0, none⟩) (R * C) (R * C)], .int .i64 (kind : Int), .func (.func (placeF kind)) #[.agg #[.int .i64 (R : Int), .int .i64 (C : Int), .slice (some ⟨g, 0, none⟩) (R * C) (R * C)]] #[], plcV y.1 y.2.1, undef, undef, undef, undef, undef, undef, undef, undef, undef, undef, undef, undef, undef, undef], defers := [] })
    (fun _ _ _ => trivial) ?hI ?hIx ?hAx ?h0 ?assign ?body ?done ?stop
  case hI => exact fun k A B h s => ⟨HJ.out _ _ _ h.1 (s.down (by omega)), h.2.sim s⟩
  case hIx => exact fun c A B h s => ⟨h.1, HJx.out _ _ _ h.2 (s.down (by omega))⟩
  case hAx => rintro x a' A B ⟨y, Bx, h1, h2, h3, h4⟩ s; exact ⟨y, Bx, h1, h2, h3.sim s, h4⟩
  case h0 => exact ⟨by simpa using HJ1.out, HBX.out⟩
  case assign =>
    intro l1 k x W1 K hx hi hK
    obtain ⟨y, hy, rfl⟩ := map_get hx
    have hlt := hi.2.lt
    have HK : Hid _ := hid (hK { tmps := #[.func (.yield l) #[] #[], .pointer (some ⟨be, 0, none⟩), .pointer (some ⟨bk, 0, none⟩), .pointer (some ⟨W.heap.size, 0, none⟩), .pointer (some ⟨W1.heap.size, 0, none⟩), undef, .agg #[.int .i64 (R : Int), .int .i64 (C : Int), .slice (some ⟨g, 0, none⟩) (R * C) (R * C)], .int .i64 (kind : Int), .func (.func (placeF kind)) #[.agg #[.int .i64 (R : Int), .int .i64 (C : Int), .slice (some ⟨g, 0, none⟩) (R * C) (R * C)]] #[], plcV y.1 y.2.1, undef, undef, undef, undef, undef, undef, undef, undef, undef, undef, undef, undef, undef, undef], defers := [] } (W1.alloc (plcO y.1 y.2.1))
      (KeptFrom.below (Below.refl' _ _)) ⟨HJ.out _ _ _ hi.1 (Sim.alloc _ _ _), hi.2.alloc _⟩ ⟨y, W1.heap.size, rfl, hlt, Arr.newL _ _ _, rfl⟩)
    clear hK hi hx
    unfold plcA plcV
    unfold plcV plcO at HK
    gi_wp2
    exact HK.out
  case body =>
    rintro l1 k x a' W1 hx hi ⟨y, Bx, rfl, hBx, hb, rfl⟩
    obtain ⟨y', hy, hye⟩ := map_get hx
    have hpe := plcA_inj hye
    obtain ⟨i, j, z⟩ := y
    simp only at hpe hb ⊢
    have hmemb := hcm y' (List.mem_of_getElem? hy)
    rw [hpe.1, hpe.2] at hmemb
    have hfn := filter_next kp xs k y' hy
    have hm := HM.out _ _ hi.1
    have e0 := hm.c0
    have e1 := hm.c1
    have e2 := hm.c2
    have ek : ∀ o o', ((W1.alloc o).alloc o').cell? ⟨bk, 0, none⟩ = some (.int .i64 (kind : Int)) := fun o o' => (hm.sim ((Sim.alloc 0 _ o).trans (Sim.alloc 0 _ o'))).ck
    have c3 : ∀ o o', ((W1.alloc o).alloc o').cell? ⟨W.heap.size, 0, none⟩ = some (.func (.yield l) #[] #[]) := fun o o' => ((hi.2.alloc o).alloc o').cell rfl
    have c4 := hb.cell (i := 0) rfl
    have c5 := hb.cell (i := 1) rfl
    have c6 : ∀ o o', ((W1.alloc o).alloc o').cell? ⟨Bx, 0, none⟩ = some (.int .i64 (i : Int)) := fun o o' => ((hb.alloc o).alloc o').cell rfl
    have c7 : ∀ o o', ((W1.alloc o).alloc o').cell? ⟨Bx, 1, none⟩ = some (.int .i64 (j : Int)) := fun o o' => ((hb.alloc o).alloc o').cell rfl
    have HA := hid (CallsIn.inRound l1 (mat_atM hm.mem hR hC hmemb.1 hmemb.2.1))
    obtain ⟨cb, hcbd⟩ : ∃ cb, decide ((kind : Int) = 2 ∨ (kind : Int) = 3) = cb := ⟨_, rfl⟩
    have HC := hid (fun W => CallsIn.inRound l1 (callsIn_wide (n := 0).2 (kcoord_b W kind cb hcbd)))
    have hj2 : J ((xs.take k).filter kp).length ((W1.alloc (matO R C g)).alloc (plcO i j)) := HJ.out _ _ _ hi.1 ((Sim.alloc _ _ _).trans (Sim.alloc _ _ _))
    have HB2 : Hid (Arr ((W1.alloc (matO R C g)).alloc (plcO i j)) W.heap.size 211 [.func (.yield l) #[] #[]]) := (hi.2.alloc _).alloc _
    have HKW : Hid (KeptFrom W0.heap.size W1 ((W1.alloc (matO R C g)).alloc (plcO i j))) := (KeptFrom.below (Below.refl' _ _)).trans (KeptFrom.below (Below.refl' _ _))
    unfold matV plcV at HA
    unfold plcV
    clear hb hi hm
    generalize hfx : f i j = fx at *
    cases cb with
    | true =>
      have hcb : kind = 2 ∨ kind = 3 := by simp at hcbd; omega
      by_cases hf0 : fx = 0
      · have hf0' : (fx : Int) = 0 := by omega
        have hcnt := hfn.2 (by rw [← hkpd]; simp only; rw [hmemb.2.2, hf0]; simp; omega)
        have HE : Hid (J ((xs.take (k + 1)).filter kp).length ((W1.alloc (matO R C g)).alloc (plcO i j))) := by rw [hcnt]; exact hj2
        clear hfn hcnt hj2 hy hye hx hmemb
        unfold matO plcO at HE HB2 HKW
        gi_wp2_with fail
        refine HA.out.mono ?_
        rintro e w' ⟨rfl, rfl⟩
        gi_wp2_with fail
        refine (HC.out _).mono ?_
        rintro e w' ⟨rfl, rfl⟩
        unfold matO plcO
        gi_wp2
        exact ⟨HKW.out, HE.out, HB2.out⟩
      · have hf0' : ¬ (fx : Int) = 0 := by omega
        have hcnt := hfn.1 (by rw [← hkpd]; simp only; rw [hmemb.2.2]; simp [hf0])
        obtain ⟨fn, tmps, assign, body, hyd, hR1⟩ := HY.out _ (entV y') _ (by rw [List.getElem?_map, hcnt.1]; rfl) hj2
        have hRd : RoundIn (Fence.wide.inRound l1) 0 Tryz.prog l fn tmps assign body ((W1.alloc (matO R C g)).alloc (plcO i j)) (fun e W' => ∃ b, e = .returned (.bool b) ∧ Hid (KeptFrom W0.heap.size W1 W' ∧ ((b = true ∧ J ((xs.take (k + 1)).filter kp).length W' ∧ Arr W' W.heap.size 211 [.func (.yield l) #[] #[]]) ∨ (b = false ∧ Jx () W')))) :=
          hR1.mono (fun e W' h => by
            rcases h with ⟨rfl, h1, h2⟩ | ⟨rfl, h1, h2⟩
            · exact ⟨true, rfl, HKW.out.trans (h2.up (by omega)), .inl ⟨rfl, by rw [hcnt.2]; exact h1, HB2.out.kept h2 (Nat.le_refl _) (by decide)⟩⟩
            · exact ⟨false, rfl, HKW.out.trans (h2.up (by omega)), .inr ⟨rfl, h1⟩⟩)
        dsimp only [entV] at hyd
        rw [hmemb.2.2, hpe.1, hpe.2] at hyd
        unfold plcV at hyd
        clear hfn hcnt hj2 hy hR1 HKW HB2 hye hx hmemb
        unfold matO plcO at hyd hRd
        gi_wp2_with fail
        refine HA.out.mono ?_
        rintro e w' ⟨rfl, rfl⟩
        gi_wp2_with fail
        refine (HC.out _).mono ?_
        rintro e w' ⟨rfl, rfl⟩
        unfold matO plcO
        gi_wp2_with fail
        refine hRd.mono ?_
        rintro e W3 ⟨b, rfl, hz⟩
        have HZ := hz
        clear hz
        cases b
        · gi_wp2
          refine ⟨HZ.out.1, rfl, ?_⟩
          rcases HZ.out.2 with ⟨h, _⟩ | ⟨_, h⟩
          · cases h
          · exact h
        · gi_wp2
          refine ⟨HZ.out.1, ?_⟩
          rcases HZ.out.2 with ⟨_, h⟩ | ⟨h, _⟩
          · exact h
          · cases h
    | false =>
      have hcb : ¬ (kind = 2 ∨ kind = 3) := by simp at hcbd; omega
      have hcnt := hfn.1 (by rw [← hkpd]; simp only; rw [hmemb.2.2]; simp [hcb])
      obtain ⟨fn, tmps, assign, body, hyd, hR1⟩ := HY.out _ (entV y') _ (by rw [List.getElem?_map, hcnt.1]; rfl) hj2
      have hRd : RoundIn (Fence.wide.inRound l1) 0 Tryz.prog l fn tmps assign body ((W1.alloc (matO R C g)).alloc (plcO i j)) (fun e W' => ∃ b, e = .returned (.bool b) ∧ Hid (KeptFrom W0.heap.size W1 W' ∧ ((b = true ∧ J ((xs.take (k + 1)).filter kp).length W' ∧ Arr W' W.heap.size 211 [.func (.yield l) #[] #[]]) ∨ (b = false ∧ Jx () W')))) :=
        hR1.mono (fun e W' h => by
          rcases h with ⟨rfl, h1, h2⟩ | ⟨rfl, h1, h2⟩
          · exact ⟨true, rfl, HKW.out.trans (h2.up (by omega)), .inl ⟨rfl, by rw [hcnt.2]; exact h1, HB2.out.kept h2 (Nat.le_refl _) (by decide)⟩⟩
          · exact ⟨false, rfl, HKW.out.trans (h2.up (by omega)), .inr ⟨rfl, h1⟩⟩)
      dsimp only [entV] at hyd
      rw [hmemb.2.2, hpe.1, hpe.2] at hyd
      unfold plcV at hyd
      clear hfn hcnt hj2 hy hR1 HKW HB2 hye hx hmemb
      unfold matO plcO at hyd hRd
      gi_wp2_with fail
      refine HA.out.mono ?_
      rintro e w' ⟨rfl, rfl⟩
      gi_wp2_with fail
      refine (HC.out _).mono ?_
      rintro e w' ⟨rfl, rfl⟩
      unfold matO plcO
      gi_wp2_with fail
      refine hRd.mono ?_
      rintro e W3 ⟨b, rfl, hz⟩
      have HZ := hz
      clear hz
      cases b
      · gi_wp2
        refine ⟨HZ.out.1, rfl, ?_⟩
        rcases HZ.out.2 with ⟨h, _⟩ | ⟨_, h⟩
        · cases h
        · exact h
      · gi_wp2
        refine ⟨HZ.out.1, ?_⟩
        rcases HZ.out.2 with ⟨_, h⟩ | ⟨h, _⟩
        · exact h
        · cases h
  case done =>
    intro D W1 hD hi hK
    refine ⟨by simp, .inl ⟨_, _, rfl, run_takeDeferred hK, ?_⟩⟩
    refine ⟨_, results_none rfl _ _ _, ⟨_, rfl⟩, .inl ?_⟩
    have := hi.1
    rw [List.length_map, List.take_length] at this
    exact HJ.out _ _ _ this (Sim.putObj _ (by omega) hK rfl)
  case stop =>
    rintro D c W1 hD ⟨rfl, hjx⟩ hK
    gi_wp2
    refine ⟨by simp, .inl ⟨_, _, rfl, run_takeDeferred hK, ?_⟩⟩
    exact ⟨_, results_none rfl _ _ _, ⟨_, rfl⟩, .inr (HJx.out _ _ _ hjx (Sim.putObj _ (by omega) hK rfl))⟩

/-- a value that goes through the entries of a kind -/
def EntV (kind R C g : Nat) (f : Nat → Nat → Nat) (w w' : World) (gf : Nat) (fst lb : Array Value) : Prop :=
  ∃ Mem : World → Prop, (∀ args w, (callFunc gf args).run Tryz.prog w = .ok (.enter gf args) w) ∧ Gives Tryz.prog gf fst lb ((entL kind R C f).map entV) (fun _ => Mem) ∧
    (∀ W, MemM C g R f W → (∀ k, w.heap.size ≤ k → k < w'.heap.size → W.heap[k]? = w'.heap[k]?) → Mem W) ∧
    (∀ k, w.heap.size ≤ k → k < w'.heap.size → ∃ o, w'.heap[k]? = some o ∧ ∀ c fz, o ≠ .cells c 5 fz) ∧ Below w.heap.size w w'

def EntOk (kind R C g : Nat) (f : Nat → Nat → Nat) (w : World) (e : Ending) (w' : World) : Prop :=
  ∃ gf fst lb, e = .returned (.func (.func gf) fst lb) ∧ EntV kind R C g f w w' gf fst lb

theorem entV_all (w : World) (kind R C g : Nat) (f : Nat → Nat → Nat) (hk : kind ≤ 5) (hR : R ≤ 40) (hC : C ≤ 40) :
    EntV kind R C g f w ((w.alloc (matO R C g)).alloc (.cells #[.int .i64 (kind : Int)] 3)) 147 #[] #[.pointer (some ⟨w.heap.size, 0, none⟩), .pointer (some ⟨w.heap.size + 1, 0, none⟩)] := by
  have a0 := (Arr.newL w 88 [.int .i64 (R : Int), .int .i64 (C : Int), .slice (some ⟨g, 0, none⟩) (R * C) (R * C)]).alloc (.cells #[.int .i64 (kind : Int)] 3)
  have a1 := Arr.newL (w.alloc (matO R C g)) 3 [.int .i64 (kind : Int)]
  simp only [World.size_alloc] at a1
  refine ⟨MemE kind R C g f w.heap.size (w.heap.size + 1), enters_of Tryz.func147 (by kernel_rfl) rfl, ent_gives kind R C g f _ _ hk hR hC, fun W hm hk => ?_, fun k h1 h2 => ?_, ?_⟩
  · have x0 := Arr.eq a0 (hk w.heap.size (by omega) (by simp; omega))
    have x1 := Arr.eq a1 (hk (w.heap.size + 1) (by omega) (by simp))
    exact ⟨hm, x0.cell rfl, x0.cell rfl, x0.cell rfl, x1.cell rfl⟩
  · simp only [World.size_alloc] at h2
    rcases (by omega : k = w.heap.size ∨ k = w.heap.size + 1) with rfl | rfl
    · exact ⟨_, a0, fun c fz e => by cases e⟩
    · exact ⟨_, a1, fun c fz e => by cases e⟩
  · exact ((Below.refl _ _).alloc (Nat.le_refl _) _).alloc (by simp) _

theorem entries_any (w : World) (kind R C g : Nat) (f : Nat → Nat → Nat) (hk : kind ≤ 5) (hR : R ≤ 40) (hC : C ≤ 40) :
    Calls Tryz.prog 110 #[matV R C g, .int .i64 (kind : Int)] w fun e w' => EntOk kind R C g f w e w' := by
  have hmf : ∀ (fn : Fn) (first cap : Array Value) (w : World), (Instr.makeFunc fn first cap).run Tryz.prog w = .ok (.func fn first cap) w := fun _ _ _ _ => rfl
  have HE := hid (entV_all w kind R C g f hk hR hC)
  unfold matO at HE
  unfold matV
  go_enter Tryz.func110, Tryz.ntmps110
  go_wp2
  go_ret
  exact ⟨_, _, _, rfl, HE.out⟩

end Go.Proofs.YthdcceackfdbbaaGreatDoor
namespace Go.Proofs.YthdcceackfdbbaaGreatDoor
open Go Go.RowKit Go.Shelf

theorem rowsWide {n : Nat} {P : Program} {row : String} {args : Array Value} {w : World} {R : Value → World → Prop} (h : Rows P row args w R) : RowsIn Fence.wide n P row args w R :=
  fun c cs _ => let ⟨v, w', r, s⟩ := h c cs; ⟨v, w', r, stepsIn_wide.2 s⟩

/-- what holds of a region in every order holds of it in a round -/
theorem any_round {P : Program} {md : Region.Mode} {ops : Array Oper} {Q : Exit → Act → World → Prop} {n : Nat} (l : Nat) (hd : ∀ (i : Nat) (o : Oper), ops[i]? = some o → ∀ c, o.op ≠ .defer c) (hq : ¬ LetsOut Q) :
    ∀ (fuel : Nat) (listed : Array Bool) (a : Act) (w : World), wpAny P md ops Q fuel listed a w → wpAnyIn (Fence.wide.inRound l) n P md ops Q fuel listed a w
  | 0, _, _, _, h => h
  | fuel + 1, listed, a, w, h => by
    refine ⟨h.1, fun i hi => ?_⟩
    have h1 := h.2 i hi
    unfold wpOp at h1
    unfold wpOpIn
    cases ho : ops[i]? with
    | none => rw [ho] at h1; exact any_round l hd hq fuel _ _ _ h1
    | some o =>
      rw [ho] at h1
      simp only at h1 ⊢
      split
      · rename_i hw
        rw [if_pos hw] at h1
        rcases h1 with h1 | ⟨_, h1⟩
        · refine ⟨fun _ _ => trivial, ?_⟩
          rw [show (Fence.wide.inRound l).round = some l from rfl, Oper.semAt_some l _ _ (hd i o ho)]
          unfold Oper.wp at h1
          generalize (execOp a.eval o).run P w = r at h1 ⊢
          cases r with
          | ok x w' =>
            cases x with
            | value v => exact any_round l hd hq fuel _ _ _ h1
            | skip => exact any_round l hd hq fuel _ _ _ h1
            | defer d => exact any_round l hd hq fuel _ _ _ h1
            | enter f args =>
              refine ⟨fun h => (by cases h), CallsIn.inRound l (callsIn_wide.2 (h1.mono fun e w'' he => ?_))⟩
              cases e with
              | returned v => exact any_round l hd hq fuel _ _ _ he
              | panicked c => exact he
              | outgrown => exact he
            | row row args => exact ⟨fun h => (by cases h), rowsWide (h1.mono fun v w'' he => any_round l hd hq fuel _ _ _ he)⟩
            | _ => exact h1.elim
          | halt x w' => cases x <;> exact h1
        · exact absurd h1 hq
      · rename_i hw
        rw [if_neg hw] at h1
        exact ⟨fun _ _ => trivial, any_round l hd hq fuel _ _ _ h1⟩

def noDefer (ops : Array Oper) : Bool := ops.toList.all fun o => match o.op with | .defer _ => false | _ => true

theorem noDefer_spec {ops : Array Oper} (h : noDefer ops = true) (i : Nat) (o : Oper) (ho : ops[i]? = some o) (c : Call) : o.op ≠ .defer c := by
  intro e
  have := List.all_eq_true.1 h o (List.mem_of_getElem? (by simpa using ho))
  rw [e] at this
  cases this

theorem region_round {P : Program} {id : Nat} {ops : Array Oper} {Q : Exit → Act → World → Prop} {n : Nat} {a : Act} {w : World} (l : Nat) (S : World → Prop) (hm : P.follows .mixedOrders = true) (hd : noDefer ops = true) (hq : ¬ LetsOut Q)
    (h : wpAnyH P .any ops Q S ops.size (Array.replicate ops.size false) a w.drew) : (Code.region id ops true).wpIn (Fence.wide.inRound l) n P Q a w :=
  wpIn_region_any hm (any_round l (noDefer_spec hd) hq _ _ _ _ (wpAny_of_held _ _ _ _ h))

end Go.Proofs.YthdcceackfdbbaaGreatDoor
