import Derived.Test.YthdcceackfdbbaaGreatDoorM02W
import Derived.Test.YthdcceackfdbbaaGreatDoorM04W
import Derived.Test.YthdcceackfdbbaaGreatDoorM05W
import Derived.Test.YthdcceackfdbbaaGreatDoorM15W
import Derived.LoopTactic
import Derived.Deep.RegionHeld
/- Own text: the reference: box. -/
namespace Go.Proofs.YthdcceackfdbbaaGreatDoor
open Go Go.RowKit

theorem wrap_small {R : Nat} (h : R < 18446744073709551616) : IntKind.u64.wrap (R : Int) = (R : Int) := by
  rw [IntKind.wrap_u64]; omega

theorem low_two {w : World} {R : Nat} {p C : Nat} {f : Nat → Nat → Nat} (h : RMat w p R C f) : R ≤ 40 ∧ C ≤ 40 := ⟨h.hR, h.hC⟩

set_option maxRecDepth 20000 in
set_option maxHeartbeats 1000000 in
theorem rbox_any (w : World) (p kind R C : Nat) (f : Nat → Nat → Nat) (hk : kind = 4 ∨ kind = 5) (h : RMat w p R C f) (hf : ∀ i j, f i j < 18446744073709551616) :
    Calls Tryz.prog 46 #[.pointer (some ⟨p, 0, none⟩), .int .i64 (kind : Int)] w fun e w' => ∃ s : ByteArray, e = .returned (.string s) ∧ s.data.toList = boxL kind R C f ∧ Below w.heap.size w w' := by
  have hmix : Tryz.prog.follows .mixedOrders = true := by kernel_rfl
  obtain ⟨b, hb⟩ : ∃ b, w.heap.size = b := ⟨_, rfl⟩
  have hR := h.hR
  have hC := h.hC
  have hwR : IntKind.u64.wrap (R : Int) = (R : Int) := wrap_small (by omega)
  have hwC : IntKind.u64.wrap (C : Int) = (C : Int) := wrap_small (by omega)
  have HM := hid h
  have HF := hid hf
  clear h hf
  obtain ⟨k, hk2, hk3, hk4⟩ : ∃ k : Nat, (kind : Int) - 4 = (k : Int) ∧ k ≤ 1 ∧ k = (if kind = 5 then 1 else 0) := by
    rcases hk with rfl | rfl
    · exact ⟨0, by simp, by omega, by simp⟩
    · exact ⟨1, by simp, by omega, by simp⟩
  have HK := hid hk
  have HK4 := hid hk4
  have hcv : (convert 72 9 (.slice (some ⟨b, 0, none⟩) 1 1)).run Tryz.prog (w.alloc (.cells #[.int .u8 (k : Int)] 5)) = .ok (.string ⟨#[UInt8.ofNat k]⟩) (w.alloc (.cells #[.int .u8 (k : Int)] 5)) := by
    refine run_convert_bytes_back (w.alloc (.cells #[.int .u8 (k : Int)] 5)) 72 9 5 ⟨b, 0, none⟩ 1 [UInt8.ofNat k] Tryz.underlying72 Tryz.underlying5 Tryz.underlying9 ?_
    intro j hj
    obtain rfl : j = 0 := by simpa using hj
    rw [addr_add, ← hb]
    have := (Arr.newL w 5 [.int .u8 (k : Int)]).cell (i := 0) rfl
    rw [this]
    have e : (UInt8.ofNat k).toNat = k := by simp; omega
    simp [e]
  clear hk hk4
  go_enter Tryz.func46, Tryz.ntmps46
  go_wp2_with fail
  obtain ⟨V, hV⟩ : ∃ V, w.alloc (.cells #[.int .u8 (k : Int)] 5) = V := ⟨_, rfl⟩
  have bV : Below b w V := by rw [← hV, ← hb]; exact Below.refl' _ _
  have mV : RMat V p R C f := HM.out.below (by rw [hb]; exact bV)
  have y0 := mV.c0
  have y1 := mV.c1
  have hpv : p < V.heap.size := by obtain ⟨_, _, sl, ha, _⟩ := mV; exact ha.lt
  have HBV := hid bV
  have HMV := hid mV
  rw [hV]
  clear hV bV mV hcv HM
  obtain ⟨s0, hs0⟩ : ∃ s0 : ByteArray, ({ data := #[65, 66, 65, 67, 1] } : ByteArray) ++ { data := #[UInt8.ofNat k] } = s0 := ⟨_, rfl⟩
  have hs0z : s0.size = 6 := by rw [← hs0]; rfl
  rw [hs0]
  refine wp_region_held (S := fun W' => RMat W' p R C f) hmix ?_
  change wpAnyH _ _ _ _ _ _ _ _ V.drew
  have hS0 : RMat V.drew p R C f := HMV.out.below (Below.refl _ _).drew
  refine wpAnyH_take (i := 0) (v := .string s0) rfl (by kernel_rfl) (by kernel_rfl) (by kernel_rfl) (fun _ _ _ h => h) (Or.inl ⟨by rfl, fun W' hS => ?_⟩) hS0 ?_
  · have c0 := hS.c0
    have c1 := hS.c1
    clear hS
    go_simp
  simp only [Act.put]
  refine wpAnyH_take (i := 1) (v := .pointer (some ⟨p, 0, none⟩)) rfl (by kernel_rfl) (by kernel_rfl) (by kernel_rfl) (fun _ _ _ h => h) (Or.inl ⟨by rfl, fun W' hS => ?_⟩) hS0 ?_
  · have c0 := hS.c0
    have c1 := hS.c1
    clear hS
    go_simp
  simp only [Act.put]
  refine wpAnyH_take (i := 2) (v := .pointer (some ⟨p, 0, none⟩)) rfl (by kernel_rfl) (by kernel_rfl) (by kernel_rfl) (fun _ _ _ h => h) (Or.inl ⟨by rfl, fun W' hS => ?_⟩) hS0 ?_
  · have c0 := hS.c0
    have c1 := hS.c1
    clear hS
    go_simp
  simp only [Act.put]
  refine wpAnyH_take (i := 3) (v := .pointer (some ⟨p, 0, none⟩)) rfl (by kernel_rfl) (by kernel_rfl) (by kernel_rfl) (fun _ _ _ h => h) (Or.inl ⟨by rfl, fun W' hS => ?_⟩) hS0 ?_
  · have c0 := hS.c0
    have c1 := hS.c1
    clear hS
    go_simp
  simp only [Act.put]
  refine wpAnyH_take (i := 4) (v := .int .i64 (R : Int)) rfl (by kernel_rfl) (by kernel_rfl) (by kernel_rfl) (fun _ _ _ h => h) (Or.inl ⟨by rfl, fun W' hS => ?_⟩) hS0 ?_
  · have c0 := hS.c0
    have c1 := hS.c1
    clear hS
    go_simp
  simp only [Act.put]
  refine wpAnyH_take (i := 5) (v := .int .u64 (R : Int)) rfl (by kernel_rfl) (by kernel_rfl) (by kernel_rfl) (fun _ _ _ h => h) (Or.inl ⟨by rfl, fun W' hS => ?_⟩) hS0 ?_
  · have c0 := hS.c0
    have c1 := hS.c1
    clear hS
    go_simp
  simp only [Act.put]
  refine wpAnyH_take (i := 8) (v := .pointer (some ⟨p, 0, none⟩)) rfl (by kernel_rfl) (by kernel_rfl) (by kernel_rfl) (fun _ _ _ h => h) (Or.inl ⟨by rfl, fun W' hS => ?_⟩) hS0 ?_
  · have c0 := hS.c0
    have c1 := hS.c1
    clear hS
    go_simp
  simp only [Act.put]
  refine wpAnyH_take (i := 9) (v := .pointer (some ⟨p, 0, none⟩)) rfl (by kernel_rfl) (by kernel_rfl) (by kernel_rfl) (fun _ _ _ h => h) (Or.inl ⟨by rfl, fun W' hS => ?_⟩) hS0 ?_
  · have c0 := hS.c0
    have c1 := hS.c1
    clear hS
    go_simp
  simp only [Act.put]
  refine wpAnyH_take (i := 10) (v := .pointer (some ⟨p, 1, none⟩)) rfl (by kernel_rfl) (by kernel_rfl) (by kernel_rfl) (fun _ _ _ h => h) (Or.inl ⟨by rfl, fun W' hS => ?_⟩) hS0 ?_
  · have c0 := hS.c0
    have c1 := hS.c1
    clear hS
    go_simp
  simp only [Act.put]
  refine wpAnyH_take (i := 11) (v := .int .i64 (C : Int)) rfl (by kernel_rfl) (by kernel_rfl) (by kernel_rfl) (fun _ _ _ h => h) (Or.inl ⟨by rfl, fun W' hS => ?_⟩) hS0 ?_
  · have c0 := hS.c0
    have c1 := hS.c1
    clear hS
    go_simp
  simp only [Act.put]
  refine wpAnyH_take (i := 12) (v := .int .u64 (C : Int)) rfl (by kernel_rfl) (by kernel_rfl) (by kernel_rfl) (fun _ _ _ h => h) (Or.inl ⟨by rfl, fun W' hS => ?_⟩) hS0 ?_
  · have c0 := hS.c0
    have c1 := hS.c1
    clear hS
    go_simp
  simp only [Act.put]
  refine wpAnyH_ready (rs := [6]) (by kernel_rfl) (by simp) ?_
  refine AllReadyH.cons rfl (fun K hKK => ?_) AllReadyH.nil
  go_simp
  refine (low_any _ R 2 (by omega)).mono ?_
  rintro e W1 ⟨t1, rfl, ht1, b1⟩
  have hS1 : RMat W1 p R C f := hS0.below b1
  refine hKK.out _ _ hS1 (fun hHeld => ?_)
  clear hKK
  have z1 : t1.size = 2 := by rw [bytes_size ht1, lowL_len]
  refine wpAnyH_take (i := 7) (v := .string (s0 ++ t1)) rfl (by kernel_rfl) (by kernel_rfl) (by kernel_rfl) (fun _ _ _ h => h) (Or.inl ⟨by rfl, fun W' hS => ?_⟩) hS1 ?_
  · clear hS
    go_simp
  simp only [Act.put]
  refine wpAnyH_ready (rs := [13]) (by kernel_rfl) (by simp) ?_
  refine AllReadyH.cons rfl (fun K hKK => ?_) AllReadyH.nil
  go_simp
  refine (low_any _ C 2 (by omega)).mono ?_
  rintro e W2 ⟨t2, rfl, ht2, b2⟩
  have hS2 : RMat W2 p R C f := hS1.below b2
  refine hKK.out _ _ hS2 (fun hHeld => ?_)
  clear hKK
  have z2 : t2.size = 2 := by rw [bytes_size ht2, lowL_len]
  refine wpAnyH_take (i := 14) (v := .string (s0 ++ t1 ++ t2)) rfl (by kernel_rfl) (by kernel_rfl) (by kernel_rfl) (fun _ _ _ h => h) (Or.inl ⟨by rfl, fun W' hS => ?_⟩) hS2 ?_
  · clear hS
    go_simp
  simp only [Act.put]
  refine wpAnyH_take (i := 15) (v := .string (s0 ++ t1 ++ t2)) rfl (by kernel_rfl) (by kernel_rfl) (by kernel_rfl) (fun _ _ _ h => h) (Or.inl ⟨by rfl, fun W' hS => ?_⟩) hS2 ?_
  · clear hS
    go_simp
  simp only [Act.put]
  refine wpAnyH_done (by kernel_rfl) ?_ _
  have bW2 : Below b w W2 := (HBV.out.drew.trans (b1.mono (by have := HBV.out.size; have e : V.drew.heap.size = V.heap.size := rfl; omega))).trans (b2.mono (by have := HBV.out.size; have := b1.size; have e : V.drew.heap.size = V.heap.size := rfl; omega))
  obtain ⟨s1, hs1⟩ : ∃ s1, s0 ++ t1 ++ t2 = s1 := ⟨_, rfl⟩
  have HS1 : Hid (s1.data.toList = hdL kind R C) := by
    unfold Hid
    rw [← hs1, bytes_append_list, bytes_append_list, ht1, ht2, ← hs0, bytes_append_list]
    unfold hdL
    rw [← HK4.out]
    have hk01 : k = 0 ∨ k = 1 := by omega
    rcases hk01 with h | h <;> rw [h] <;> simp [lowL]
  have HB2 := hid bW2
  have HM2 := hid hS2
  have hs1z : s1.size = 10 := by rw [bytes_size HS1.out, hdL_len]
  rw [hs1]
  clear hs1 hs0 ht1 ht2 z1 z2 b1 b2 hS0 hS1 hS2 bW2 HBV HMV hpv y0 y1 hHeld hs0z
  go_wp2_with fail
  refine (rsum_any W2 s1 (by omega)).mono ?_
  rintro e W ⟨rfl, e1⟩
  obtain rfl : W2 = W := e1.symm
  have hsl := sumL_lt s1.data.toList
  obtain ⟨h1, hh1⟩ : ∃ h1, sumL s1.data.toList = h1 := ⟨_, rfl⟩
  rw [hh1] at hsl ⊢
  have HH1 := hid hh1
  clear hh1 e1
  go_wp2_with fail
  refine (low_any _ h1 4 (by omega)).mono ?_
  rintro e W3 ⟨t4, rfl, ht4, b4⟩
  have z4 : t4.size = 4 := by rw [bytes_size ht4, lowL_len]
  have HM3 := hid (HM2.out.below b4)
  have HB3 := hid (HB2.out.trans (b4.mono (by have := HB2.out.size; omega)))
  obtain ⟨s2, hs2⟩ : ∃ s2, s1 ++ t4 = s2 := ⟨_, rfl⟩
  have hs2z : s2.size = 14 := by rw [← hs2, ByteArray.size_append]; omega
  have HS2 : Hid (s2.data.toList = hdL kind R C ++ lowL (sumL (hdL kind R C)) 4) := by
    unfold Hid
    rw [← hs2, bytes_append_list, HS1.out, ht4, ← HH1.out, HS1.out]
  have HSE := hid hs2
  obtain ⟨N, hN⟩ : ∃ N, R * C = N := ⟨_, rfl⟩
  have hN2 : N ≤ 1600 := by rw [← hN]; exact Nat.mul_le_mul hR hC
  have hNi : (R : Int) * (C : Int) = (N : Int) := by rw [← hN]; simp
  clear ht4 b4 hs2 HM2 HB2
  go_wp2
  rw [HSE.out]
  go_loopw [7, 8] (fun vp vk wr => ∃ (q : Nat) (P : ByteArray), vk = .int .i64 (q : Int) ∧ q ≤ N ∧ vp = .string P ∧ Hid (P.data.toList = payL ((entL kind R C f).take q)) ∧ P.size = 8 * q ∧ Hid (RMat wr p R C f) ∧ Hid (Below b w wr)) (fun _ vk _ => N - (intOf vk).toNat)
  case atStart => exact ⟨0, ⟨#[]⟩, rfl, by omega, rfl, by rw [List.take_zero]; rfl, rfl, HM3, HB3⟩
  case round =>
    clear HM3 HB3
    obtain ⟨q, P, rfl, hq, rfl, HP, hPz, HM, HB⟩ := hrel
    have k0 := HM.out.c0
    have k1 := HM.out.c1
    by_cases hlt : q < N
    · have hlt' : (q : Int) < N := by omega
      go_wp2
      go_quiet (fail)
      have HMD0 := hid (HM.out.dn nq)
      have HBD0 := hid (below_dn HB.out nq)
      generalize wr.drewN nq = wd at *
      clear k0 k1 HM HB
      rcases HK.out with h4 | h5
      · have hkb : ((kind : Int) == 4) = true := by simp; omega
        obtain ⟨X, hX⟩ : ∃ X, f (q / C) (q % C) = X := ⟨_, rfl⟩
        have hX64 : X < 18446744073709551616 := by rw [← hX]; exact HF.out _ _
        have hdm := div_mod_lt (R := R) (C := C) (k := q) (by rw [hN]; exact hlt)
        have HE : Hid ((entL kind R C f)[q]? = some (q / C, q % C, X)) := by
          unfold Hid
          rw [← hX]
          have := rowsL_at f hdm.1 hdm.2
          rw [show q / C * C + q % C = q by rw [Nat.mul_comm]; exact Nat.div_add_mod q C] at this
          unfold entL
          rw [if_pos h4]
          exact this
        obtain ⟨g, cap, c2, cq, hg⟩ : ∃ g cap, wd.cell? ⟨p, 2, none⟩ = some (.slice (some ⟨g, 0, none⟩) N cap) ∧ wd.cell? ⟨g, q, none⟩ = some (.int .u64 (X : Int)) ∧ g < wd.heap.size := by
          obtain ⟨_, _, sl, ha, h0 | ⟨g, cap, rfl, hg, hc⟩⟩ := HMD0.out
          · omega
          · refine ⟨g, cap, by rw [← hN]; exact ha.cell (i := 2) rfl, ?_, hg⟩
            have := hc _ _ hdm.1 hdm.2
            rw [show q / C * C + q % C = q by rw [Nat.mul_comm]; exact Nat.div_add_mod q C, hX] at this
            exact this
        clear hX hdm h4
        have HMD := HMD0
        have HBD := HBD0
        clear HMD0 HBD0
        go_wp2_with fail
        refine (low_any _ X 8 (by omega)).mono ?_
        rintro e w3 ⟨t5, rfl, ht5, b5⟩
        have z5 : t5.size = 8 := by rw [bytes_size ht5, lowL_len]
        have HM5 := hid (HMD.out.below b5)
        have HB5 := hid (HBD.out.trans (b5.mono (by have := HBD.out.size; omega)))
        have HT5 := hid ht5
        clear b5 ht5 HMD HBD
        go_wp2
        go_round
        case rel =>
          refine ⟨q + 1, P ++ t5, by simp, by omega, rfl, ?_, by rw [ByteArray.size_append]; omega, HM5, HB5⟩
          unfold Hid
          rw [bytes_append_list, HP.out, HT5.out, List.take_add_one, HE.out]
          rw [Option.toList_some, payL_snoc]
        case measure => simp [intOf]; omega
      · have hkb : ((kind : Int) == 4) = false := by simp; omega
        obtain ⟨X, hX⟩ : ∃ X, f (q % R) (q / R) = X := ⟨_, rfl⟩
        have hX64 : X < 18446744073709551616 := by rw [← hX]; exact HF.out _ _
        have hdm := mod_div_lt (R := R) (C := C) (k := q) (by rw [hN]; exact hlt)
        have HE : Hid ((entL kind R C f)[q]? = some (q % R, q / R, X)) := by
          unfold Hid
          rw [← hX]
          have := colsL_at f hdm.1 hdm.2
          rw [show q / R * R + q % R = q by rw [Nat.mul_comm]; exact Nat.div_add_mod q R] at this
          unfold entL
          rw [if_neg (by omega)]
          simp only []
          rw [if_neg (by omega), if_neg (by omega)]
          exact this
        obtain ⟨a, ha⟩ : ∃ a, q % R = a := ⟨_, rfl⟩
        obtain ⟨d, hd⟩ : ∃ d, q / R = d := ⟨_, rfl⟩
        have hqa : (q : Int) % (R : Int) = (a : Int) := by rw [← ha]; simp
        have hqd : wrap64 ((q : Int) / (R : Int)) = (d : Int) := by
          have : d ≤ q := by rw [← hd]; exact Nat.div_le_self _ _
          rw [show (q : Int) / (R : Int) = (d : Int) by rw [← hd]; simp]
          unfold wrap64
          omega
        rw [ha, hd] at hX hdm
        have HW := hid (fun n => Calls.quiet_of (P := Tryz.prog) (w := wd) (rat_any (wd.drewN n) p R C a d f (HMD0.out.dn n) hdm.1 hdm.2))
        rw [hX] at HW
        have k0 := HMD0.out.c0
        have hRpos : (R : Int) ≠ 0 := by omega
        clear hX hdm ha hd h5
        go_wp2_with fail
        go_quiet (first | (go_at_call 32; with_reducible exact HW.out _))
        have HMD := hid (HMD0.out.dn nq)
        have HBD := hid (below_dn HBD0.out nq)
        generalize wd.drewN nq = we at *
        clear HMD0 HBD0 HW k0 hqa hqd
        go_wp2_with fail
        refine (low_any _ X 8 (by omega)).mono ?_
        rintro e w3 ⟨t5, rfl, ht5, b5⟩
        have z5 : t5.size = 8 := by rw [bytes_size ht5, lowL_len]
        have HM5 := hid (HMD.out.below b5)
        have HB5 := hid (HBD.out.trans (b5.mono (by have := HBD.out.size; omega)))
        have HT5 := hid ht5
        clear b5 ht5 HMD HBD
        go_wp2
        go_round
        case rel =>
          refine ⟨q + 1, P ++ t5, by simp, by omega, rfl, ?_, by rw [ByteArray.size_append]; omega, HM5, HB5⟩
          unfold Hid
          rw [bytes_append_list, HP.out, HT5.out, List.take_add_one, HE.out]
          rw [Option.toList_some, payL_snoc]
        case measure => simp [intOf]; omega
    · have hlt' : ¬ (q : Int) < N := by omega
      obtain rfl : q = N := by omega
      go_wp2
      go_quiet (fail)
      have HMD := hid (HM.out.dn nq)
      have HBD := hid (below_dn HB.out nq)
      generalize wr.drewN nq = wd at *
      clear k0 k1 HM HB
      go_wp2_with fail
      refine (rsum_any wd P (by omega)).mono ?_
      rintro e W ⟨rfl, e1⟩
      obtain rfl : wd = W := e1.symm
      have hsl2 := sumL_lt P.data.toList
      obtain ⟨h2, hh2⟩ : ∃ h2, sumL P.data.toList = h2 := ⟨_, rfl⟩
      rw [hh2] at hsl2 ⊢
      have HH2 := hid hh2
      clear hh2 e1
      go_wp2_with fail
      refine (low_any _ h2 4 (by omega)).mono ?_
      rintro e w3 ⟨t6, rfl, ht6, b6⟩
      have z6 : t6.size = 4 := by rw [bytes_size ht6, lowL_len]
      have HB6 := hid (HBD.out.trans (b6.mono (by have := HBD.out.size; omega)))
      have HT6 := hid ht6
      clear b6 ht6 HMD HBD
      go_wp2
      go_ret
      refine ⟨_, rfl, ?_, by rw [hb]; exact HB6.out⟩
      have hel : (entL kind R C f).length = q := by
        rw [← hN]
        unfold entL
        rcases HK.out with h4 | h5
        · rw [if_pos h4, rowsL_len]
        · rw [if_neg (by omega)]
          simp only []
          rw [if_neg (by omega), if_neg (by omega), colsL_len]
      rw [bytes_append_list, bytes_append_list, HS2.out, HT6.out, ← HH2.out, HP.out, List.take_of_length_le (by omega)]
      unfold boxL
      simp

end Go.Proofs.YthdcceackfdbbaaGreatDoor
