import Derived.Test.YthdcceackfdbbaaGreatDoorM32K
import Derived.Test.YthdcceackfdbbaaGreatDoorM28K
import Derived.BigQuiet
/- Own text: the law Returns. -/
namespace Go.Proofs.YthdcceackfdbbaaGreatDoor
open Go Go.RowKit

theorem ReadIs.keptOut {w w' : World} {p po : Nat} {Sf : Nat → Prop} {s : RSt} (h : ReadIs w p Sf s) (k : Kept (fun z => z = po) w w') (h1 : p ≠ po) (h2 : ¬ Sf po) : ReadIs w' p Sf s := by
  refine h.frame (fun z hz => k.block z ?_ ?_) k.size
  · rcases hz with rfl | hz
    · exact h.ptr_lt
    · exact h.lt z hz
  · intro e
    rcases hz with hz | hz
    · exact h1 (hz.symm.trans e)
    · exact h2 (e ▸ hz)

theorem BufIs.keptOut {w w' : World} {po : Nat} {mo : Option Addr} {ys : List Nat} (h : BufIs w mo ys) (k : Kept (fun z => z = po) w w') (hp : ∀ ad, mo = some ad → ys ≠ [] → ad.block ≠ po) : BufIs w' mo ys := fun kk x hx => by
  obtain ⟨h1, ad, h2, h3, h4⟩ := h kk x hx
  have hne : ys ≠ [] := by intro e; rw [e] at hx; simp at hx
  exact ⟨h1, ad, h2, Nat.lt_of_lt_of_le h3 k.size, (World.cell?_of_block (a := ad.add kk) (by rw [Go.ChangeShapes.block_add]; exact k.block _ h3 (hp ad h2 hne))).trans h4⟩

theorem sevens_at {i M : Nat} (h : i < M) : (List.replicate i (Value.int .u64 7) ++ List.replicate (M - i) (Value.int .u64 0))[i]? = some (Value.int .u64 0) := by
  rw [List.getElem?_append_right (by rw [List.length_replicate]; exact Nat.le_refl _), List.length_replicate, Nat.sub_self, List.getElem?_replicate, if_pos (by omega)]
theorem sevens_set {i M : Nat} (h : i < M) : (List.replicate i (Value.int .u64 7) ++ List.replicate (M - i) (Value.int .u64 0)).set i (Value.int .u64 7) = List.replicate (i + 1) (Value.int .u64 7) ++ List.replicate (M - (i + 1)) (Value.int .u64 0) := by
  rw [List.set_append_right _ _ (by rw [List.length_replicate]; exact Nat.le_refl _), List.length_replicate, Nat.sub_self, show M - i = (M - (i + 1)) + 1 by omega, List.replicate_succ, List.set_cons_zero, List.replicate_succ', List.append_assoc]
  rfl

theorem clean_canon (x : Nat) : cleanN x = canon x := rfl

set_option maxRecDepth 20000 in
set_option maxHeartbeats 8000000 in
theorem returns_law (w : World) (ao : Option Addr) (n cap : Nat) (xs : List Nat) (hn : xs.length = n) (hn1 : n ≤ 20000000000000) (hbuf : BufIs w ao xs) (a b c piece other : Int)
    (ha1 : -9223372036854775808 ≤ a) (ha2 : a ≤ 9223372036854775807) (hb1 : -9223372036854775808 ≤ b) (hb2 : b ≤ 9223372036854775807) (hc1 : -9223372036854775808 ≤ c) (hc2 : c ≤ 9223372036854775807) (hp1 : -9223372036854775808 ≤ piece) (hp2 : piece ≤ 9223372036854775807) (ho1 : -9223372036854775808 ≤ other) (ho2 : other ≤ 9223372036854775807)
    (htab : Lib.TabIs Tryz.prog w "internal/strconv.uint64pow10" .u64 Lib.pow10Tab) :
    Calls Tryz.prog 6 #[.slice ao n cap, .int .i64 a, .int .i64 b, .int .i64 c, .int .i64 piece, .int .i64 other] w fun e w' => e = .returned (.bool true) ∧ Below w.heap.size w w' := by
  have hmix : Tryz.prog.follows .mixedOrders = true := by kernel_rfl
  obtain ⟨i0, hi, hz0, hz1, hz2⟩ := info_parts Tryz.infoU64
  have HMK : Hid (∀ (N : Nat), N ≤ 4000 → ∀ w : World, (Instr.makeSlice 22 (.int .i64 (N : Int)) (.int .i64 (N : Int))).run Tryz.prog w = .ok (.slice (some ⟨w.heap.size, 0, none⟩) N N) (w.alloc (.cells (Array.replicate N (.int .u64 0)) 65))) := fun N hN w => run_make1 (P := Tryz.prog) 22 65 i0 (.int .u64 0) Tryz.underlying22 hi hz0 hz1 rfl N (by rw [hz2]; omega) (by omega) w
  clear hi hz0 hz1 hz2
  obtain ⟨B, hB⟩ : ∃ B, w.heap.size = B := ⟨_, rfl⟩
  have HPR : Hid (∀ x, x < 18446744073709551616 → PrintOk x (prL x) ∧ (prL x).length ≤ 100) := fun x hx => prL_ok htab hx
  have HBUF := hid hbuf
  have HT := hid htab
  have KP := hid (fun (w : World) (z m : Int) (h1 : -9223372036854775808 ≤ z) (h2 : z ≤ 9223372036854775807) (h3 : 0 < m) (h4 : m ≤ 9223372036854775807) => kpick w z m h1 h2 h3 h4)
  have HCL := hid (fun (w : World) (x : Nat) (hx : x < 18446744073709551616) => clean_any w x hx)
  clear hbuf htab
  rw [hB]
  go_enter Tryz.func6, Tryz.ntmps6
  go_wp2_with fail
  refine (KP.out w c 6 hc1 hc2 (by omega) (by omega)).mono ?_
  rintro e w1 ⟨⟨k, rfl, hk⟩, rfl⟩
  go_wp2_with fail
  refine (KP.out w1 piece 20 hp1 hp2 (by omega) (by omega)).mono ?_
  rintro e w2 ⟨⟨t0, rfl, ht0⟩, rfl⟩
  have fork : (((t0 : Int) == 0) = true) ∨ (((t0 : Int) == 0) = false) := by cases ((t0 : Int) == 0) <;> simp
  clear ht0
  rcases fork with ht | ht
  · go_wp2_with fail
    refine (KP.out w2 a 41 ha1 ha2 (by omega) (by omega)).mono ?_
    rintro e w3 ⟨⟨R, rfl, hR⟩, rfl⟩
    go_wp2_with fail
    refine (KP.out w3 b 41 hb1 hb2 (by omega) (by omega)).mono ?_
    rintro e w4 ⟨⟨C, rfl, hC⟩, rfl⟩
    have hR40 : R ≤ 40 := by omega
    have hSQ := square_any w4 ao n cap xs hn hn1 HBUF.out R C k hR40 (by omega)
    rw [hB] at hSQ
    have HSQ := hid hSQ
    clear hSQ hR hC
    unfold viewV at HSQ
    go_wp2_with fail
    refine HSQ.out.mono ?_
    rintro e W4 ⟨D, mo, mcap, ys, rfl, hD, hDR, hsy, hlen, hlt, hbuf, hown, hbel⟩
    obtain ⟨L, hL, hRT, hL1, hL2, hbx⟩ := file_ok hlen hlt hR40 hD (show k ≤ 5 by omega) hDR hsy HPR.out
    clear hbx hDR hsy hL1
    have hN : R * D ≤ 1600 := Nat.mul_le_mul hR40 hD
    have hz4 : B ≤ W4.heap.size := by have := hbel.size; omega
    obtain ⟨q, hq⟩ : ∃ q, W4.heap.size = q := ⟨_, rfl⟩
    have bV : Below B w4 (W4.alloc (.cells #[.int .i64 (R : Int), .int .i64 (D : Int), .int .i64 0, .int .i64 (D : Int), .int .i64 1] 24)) := hbel.alloc hz4 _
    have aV : Arr (W4.alloc (.cells #[.int .i64 (R : Int), .int .i64 (D : Int), .int .i64 0, .int .i64 (D : Int), .int .i64 1] 24)) q 24 [.int .i64 (R : Int), .int .i64 (D : Int), .int .i64 0, .int .i64 (D : Int), .int .i64 1] := by rw [← hq]; exact Arr.newL _ _ _
    have hBq : B ≤ q := by omega
    have HAV := hid aV
    have HBV := hid bV
    have HQ := hid hq
    have HRT := hid hRT
    have HLEN := hid hlen
    have HYL := hid hlt
    have HBF := hid (hbuf.below (Below.refl' W4 (.cells #[.int .i64 (R : Int), .int .i64 (D : Int), .int .i64 0, .int .i64 (D : Int), .int .i64 1] 24)))
    have HL := hid hL
    obtain ⟨N, hNN⟩ : ∃ N, R * D = N := ⟨_, rfl⟩
    rw [hNN] at hN HLEN ⊢
    have HNN := hid hNN
    have hRDi : (R : Int) * (D : Int) = (N : Int) := by rw [← hNN]; push_cast; rfl
    clear aV bV hq hRT HSQ hbel hlen hlt hbuf hown hL hNN
    go_wp2_with fail
    rw [HQ.out]
    generalize W4.alloc (.cells #[.int .i64 (R : Int), .int .i64 (D : Int), .int .i64 0, .int .i64 (D : Int), .int .i64 1] 24) = V at *
    clear HQ hz4
    refine wp_region_held (S := fun W' => Arr W' q 24 [.int .i64 (R : Int), .int .i64 (D : Int), .int .i64 0, .int .i64 (D : Int), .int .i64 1]) hmix ?_
    change wpAnyH _ _ _ _ _ _ _ _ V.drew
    have hS0 : Arr V.drew q 24 [.int .i64 (R : Int), .int .i64 (D : Int), .int .i64 0, .int .i64 (D : Int), .int .i64 1] := HAV.out.drew
    have hBZ : Below B w4 V.drew := HBV.out.drew
    have hFZ : BufIs V.drew mo ys := HBF.out
    clear HAV HBV HBF
    generalize V.drew = Z at *
    refine wpAnyH_take (i := 0) (v := .slice mo N mcap) rfl (by kernel_rfl) (by kernel_rfl) (by kernel_rfl) (fun _ _ _ h => h) (Or.inl ⟨by rfl, fun W' hS => ?_⟩) hS0 ?_
    · clear hS
      go_simp
    simp only [Act.put]
    refine wpAnyH_take (i := 1) (v := .agg #[.int .i64 (R : Int), .int .i64 (D : Int), .int .i64 0, .int .i64 (D : Int), .int .i64 1]) rfl (by kernel_rfl) (by kernel_rfl) (by kernel_rfl) (fun _ _ _ h => h) (Or.inl ⟨by rfl, fun W' hS => ?_⟩) hS0 ?_
    · have q0 := hS.cell (i := 0) rfl
      have q1 := hS.cell (i := 1) rfl
      have q2 := hS.cell (i := 2) rfl
      have q3 := hS.cell (i := 3) rfl
      have q4 := hS.cell (i := 4) rfl
      clear hS
      go_simp
    simp only [Act.put]
    refine wpAnyH_take (i := 2) (v := .int .i64 (k : Int)) rfl (by kernel_rfl) (by kernel_rfl) (by kernel_rfl) (fun _ _ _ h => h) (Or.inl ⟨by rfl, fun W' hS => ?_⟩) hS0 ?_
    · clear hS
      go_simp
    simp only [Act.put]
    refine wpAnyH_take (i := 3) (v := .int .i64 piece) rfl (by kernel_rfl) (by kernel_rfl) (by kernel_rfl) (fun _ _ _ h => h) (Or.inl ⟨by rfl, fun W' hS => ?_⟩) hS0 ?_
    · clear hS
      go_simp
    simp only [Act.put]
    refine wpAnyH_ready (rs := [4]) (by kernel_rfl) (by simp) ?_
    refine AllReadyH.cons rfl (fun K hKK => ?_) AllReadyH.nil
    go_simp
    refine (KP.out Z piece 300 hp1 hp2 (by omega) (by omega)).mono ?_
    rintro e Z1 ⟨⟨pc0, rfl, hpc0⟩, rfl⟩
    refine hKK.out _ _ hS0 (fun hHeld => ?_)
    clear hKK hHeld
    obtain ⟨pc, hpc⟩ : ∃ pc : Nat, 1 + (pc0 : Int) = (pc : Int) := ⟨1 + pc0, by omega⟩
    have hwp : IntKind.i64.wrap (pc : Int) = pc := by rw [IntKind.wrap_i64]; omega
    refine wpAnyH_take (i := 5) (v := .int .i64 (pc : Int)) rfl (by kernel_rfl) (by kernel_rfl) (by kernel_rfl) (fun _ _ _ h => h) (Or.inl ⟨by rfl, fun W' hS => ?_⟩) hS0 ?_
    · clear hS
      go_simp
    simp only [Act.put]
    have hF := kfile_any Z1 mo N mcap ys HLEN.out hN hFZ R D k pc L HL.out hL2 (by omega) (by omega) (tab_below HT.out (hB ▸ hBZ))
    unfold viewV at hF
    refine wpAnyH_ready (rs := [6]) (by kernel_rfl) (by simp) ?_
    refine AllReadyH.cons rfl (fun K hKK => ?_) AllReadyH.nil
    go_simp
    refine hF.mono ?_
    rintro e Z2 ⟨⟨s, rfl, hs⟩, b2⟩
    have hS2 : Arr Z2 q 24 [.int .i64 (R : Int), .int .i64 (D : Int), .int .i64 0, .int .i64 (D : Int), .int .i64 1] := hS0.belowAll b2
    have hF2 := hFZ.below b2
    have hB2 : Below B w4 Z2 := hBZ.trans (b2.mono (by have := hS0.lt; omega))
    refine hKK.out _ _ hS2 (fun hHeld => ?_)
    clear hKK hHeld hF hS0 hBZ hFZ b2 hpc hpc0
    refine wpAnyH_take (i := 7) (v := .tuple #[.string s, .bool true]) rfl (by kernel_rfl) (by kernel_rfl) (by kernel_rfl) (fun _ _ _ h => h) (Or.inl ⟨by rfl, fun W' hS => ?_⟩) hS2 ?_
    · clear hS
      go_simp
    simp only [Act.put]
    refine wpAnyH_take (i := 8) (v := .string s) rfl (by kernel_rfl) (by kernel_rfl) (by kernel_rfl) (fun _ _ _ h => h) (Or.inl ⟨by rfl, fun W' hS => ?_⟩) hS2 ?_
    · clear hS
      go_simp
    simp only [Act.put]
    refine wpAnyH_take (i := 9) (v := .bool true) rfl (by kernel_rfl) (by kernel_rfl) (by kernel_rfl) (fun _ _ _ h => h) (Or.inl ⟨by rfl, fun W' hS => ?_⟩) hS2 ?_
    · clear hS
      go_simp
    simp only [Act.put]
    refine wpAnyH_take (i := 10) (v := .string s) rfl (by kernel_rfl) (by kernel_rfl) (by kernel_rfl) (fun _ _ _ h => h) (Or.inl ⟨by rfl, fun W' hS => ?_⟩) hS2 ?_
    · clear hS
      go_simp
    simp only [Act.put]
    refine wpAnyH_take (i := 11) (v := .bool true) rfl (by kernel_rfl) (by kernel_rfl) (by kernel_rfl) (fun _ _ _ h => h) (Or.inl ⟨by rfl, fun W' hS => ?_⟩) hS2 ?_
    · clear hS
      go_simp
    simp only [Act.put, List.getElem_toArray, List.getElem_cons_succ, List.getElem_cons_zero, List.setIfInBounds_toArray, List.set_cons_succ, List.set_cons_zero]
    refine wpAnyH_done (by kernel_rfl) ?_ _
    have HA5 := hid hS2
    have HB5 := hid hB2
    have HF5 := hid hF2
    have HS := hid hs
    have hsL : s.size ≤ 100000 := by rw [bytes_size hs]; exact hL2
    clear hS2 hB2 hF2 hs hL2
    go_wp2_with fail
    refine (KP.out Z2 other 300 ho1 ho2 (by omega) (by omega)).mono ?_
    rintro e Z3 ⟨⟨oc0, rfl, hoc0⟩, rfl⟩
    obtain ⟨oc, hoc⟩ : ∃ oc : Nat, 1 + (oc0 : Int) = (oc : Int) := ⟨1 + oc0, by omega⟩
    have hrd := kread_any Z3 s s.size oc rfl (by omega) (by omega) (by omega)
    obtain ⟨hf0, gg, hend, hgg⟩ := HRT.out.feed
    rw [HS.out] at hrd
    have HRD : Hid (Calls Tryz.prog 19 #[.string s, .int .i64 (oc : Int)] Z3 fun e w' => Below Z3.heap.size Z3 w' ∧ ∃ (p7 : Nat) (Sf : Nat → Prop), e = .returned (.tuple #[.pointer (some ⟨p7, 0, none⟩), .agg #[.int .i64 (R : Int), .int .i64 (D : Int), .int .i64 (k : Int)], .bool true]) ∧ Z3.heap.size ≤ p7 ∧ (∀ z, Sf z → Z3.heap.size ≤ z) ∧ ReadIs w' p7 Sf (.ended k R D gg)) := by
      refine hrd.mono ?_
      rintro e W7 ⟨b7, hr⟩
      refine ⟨b7, ?_⟩
      rcases hr with ⟨h, _⟩ | ⟨_, p7, Sf, h, h1, h2, h3⟩
      · exact (h hf0).elim
      · rw [hend] at h h3
        exact ⟨p7, Sf, h, h1, h2, h3⟩
    have HGG := hid hgg
    clear hrd hf0 hend hgg
    go_wp2_with fail
    refine HRD.out.mono ?_
    rintro e W7 ⟨b7, p7, Sf, rfl, hp7, hSf, hr7⟩
    have hzq : q < Z3.heap.size := HA5.out.lt
    have HB7 : Hid (Below B w4 (W7.alloc (.cells #[.int .i64 (R : Int), .int .i64 (D : Int), .int .i64 (k : Int)] 62))) := (HB5.out.trans (b7.mono (by omega))).alloc (by have := b7.size; omega) _
    have HA7 := hid ((HA5.out.belowAll b7).alloc (.cells #[.int .i64 (R : Int), .int .i64 (D : Int), .int .i64 (k : Int)] 62))
    have HF7 := hid ((HF5.out.below b7).below (Below.refl' W7 (.cells #[.int .i64 (R : Int), .int .i64 (D : Int), .int .i64 (k : Int)] 62)))
    have HR7 := hid (hr7.below (Below.refl' W7 (.cells #[.int .i64 (R : Int), .int .i64 (D : Int), .int .i64 (k : Int)] 62)))
    have HSF : Hid (q < p7 ∧ ∀ z, Sf z → q < z) := ⟨by omega, fun z hz => by have := hSf z hz; omega⟩
    have HFA : Hid (∀ ad, mo = some ad → ys ≠ [] → ad.block ≠ p7 ∧ ¬ Sf ad.block) := fun ad h hne => by
      have hy0 : ys[0]? = some (ys[0]'(List.length_pos_iff.2 hne)) := by simp
      obtain ⟨_, ad', h1, h2, _⟩ := HF5.out 0 _ hy0
      rw [h] at h1; cases h1
      exact ⟨by omega, fun hh => by have := hSf _ hh; omega⟩
    clear HRD b7 hr7 HB5 HA5 HF5 hoc hoc0 hSf hp7
    have a0 := HA7.out.cell (i := 0) rfl
    have a1 := HA7.out.cell (i := 1) rfl
    obtain ⟨M, hM⟩ : ∃ M, 2 * (N + 10) = M := ⟨_, rfl⟩
    have hMi : 2 * ((N : Int) + 10) = (M : Int) := by omega
    have hM1 : M ≤ 4000 := by omega
    have hmk := HMK.out M hM1
    obtain ⟨po, hpo⟩ : ∃ po, (W7.alloc (.cells #[.int .i64 (R : Int), .int .i64 (D : Int), .int .i64 (k : Int)] 62)).heap.size = po := ⟨_, rfl⟩
    have hpo2 : W7.heap.size + 1 = po := by rw [← hpo]; simp
    have HOUT : Hid (Arr ((W7.alloc (.cells #[.int .i64 (R : Int), .int .i64 (D : Int), .int .i64 (k : Int)] 62)).alloc (.cells (Array.replicate M (.int .u64 0)) 65)) po 65 (List.replicate M (.int .u64 0))) := by
      have h := Arr.newL (W7.alloc (.cells #[.int .i64 (R : Int), .int .i64 (D : Int), .int .i64 (k : Int)] 62)) 65 (List.replicate M (.int .u64 0))
      rw [List.toArray_replicate, hpo] at h
      exact h
    have bX := Below.refl' (W7.alloc (.cells #[.int .i64 (R : Int), .int .i64 (D : Int), .int .i64 (k : Int)] 62)) (.cells (Array.replicate M (.int .u64 0)) 65)
    rw [hpo] at bX
    have hqpo : q < po := by rw [← hpo]; exact HA7.out.lt
    have hppo : p7 < po := by rw [← hpo]; exact HR7.out.ptr_lt
    have HSPO : Hid (∀ z, Sf z → z < po) := fun z hz => by rw [← hpo]; exact HR7.out.lt z hz
    have HBX : Hid (Below B w4 ((W7.alloc (.cells #[.int .i64 (R : Int), .int .i64 (D : Int), .int .i64 (k : Int)] 62)).alloc (.cells (Array.replicate M (.int .u64 0)) 65))) := HB7.out.trans (bX.mono (by omega))
    have HAX := hid (HA7.out.below bX hqpo)
    have HFX := hid (HF7.out.below (by rw [hpo]; exact bX))
    have HRX := hid (HR7.out.below (by rw [hpo]; exact bX))
    have HFP : Hid (∀ ad, mo = some ad → ys ≠ [] → ad.block < po) := fun ad h hne => by
      have hy0 : ys[0]? = some (ys[0]'(List.length_pos_iff.2 hne)) := by simp
      obtain ⟨_, ad', h1, h2, _⟩ := HF7.out 0 _ hy0
      rw [h] at h1; cases h1
      rw [hpo] at h2; exact h2
    have HPO := hid hpo2
    clear bX hpo hpo2 HB7 HA7 HF7 HR7 HMK
    go_wp2_with fail
    rw [HPO.out]
    generalize (W7.alloc (.cells #[.int .i64 (R : Int), .int .i64 (D : Int), .int .i64 (k : Int)] 62)).alloc (.cells (Array.replicate M (.int .u64 0)) 65) = X at *
    clear hmk a0 a1
    go_loopw [23] (fun vi wr => ∃ i : Nat, vi = .int .i64 (i : Int) ∧ i ≤ M ∧ Hid (Arr wr po 65 (List.replicate i (.int .u64 7) ++ List.replicate (M - i) (.int .u64 0))) ∧ Hid (Kept (fun z => z = po) X wr)) (fun vi _ => M - (intOf vi).toNat)
    case atStart => exact ⟨0, rfl, by omega, by show Arr _ _ _ _; rw [List.replicate_zero, List.nil_append, Nat.sub_zero]; exact HOUT.out, Kept.refl _ _⟩
    case round =>
      clear HOUT
      obtain ⟨i, rfl, hi, HO, HK⟩ := hrel
      by_cases hit : i < M
      · have hit' : (i : Int) < M := by omega
        have c0 := HO.out.cell (sevens_at hit)
        have f0 := HO.out.frozen i
        have HON : Hid (Arr (wr.setCell ⟨po, i, none⟩ (.int .u64 7)) po 65 (List.replicate (i + 1) (.int .u64 7) ++ List.replicate (M - (i + 1)) (.int .u64 0))) := by
          have h := HO.out.set i (.int .u64 7)
          rw [sevens_set hit] at h
          exact h
        have HKN : Hid (Kept (fun z => z = po) X (wr.setCell ⟨po, i, none⟩ (.int .u64 7))) := HK.out.trans (Kept.set (S := fun z => z = po) rfl _) (fun z h => .inl h)
        clear HO HK
        go_wp2
        go_round
        case rel => exact ⟨i + 1, by simp, by omega, HON, HKN⟩
        case measure => simp [intOf]; omega
      · have hit' : ¬ (i : Int) < M := by omega
        have hiM : i = M := by omega
        rw [hiM, Nat.sub_self, List.replicate_zero, List.append_nil] at HO
        clear hiM hi
        have HAW := hid (HK.out.arr HAX.out (by omega))
        have HBW : Hid (Below B w4 wr) := HBX.out.trans (HK.out.below (fun z hz => by rw [hz]; omega) (by have := HAX.out.lt; omega))
        have HRW := hid (HRX.out.keptOut HK.out (by omega) (fun h => by have := HSPO.out po h; omega))
        have HFW := hid (HFX.out.keptOut HK.out (fun ad h1 h2 => by have := HFP.out ad h1 h2; omega))
        have a0 := HAW.out.cell (i := 0) rfl
        have a1 := HAW.out.cell (i := 1) rfl
        clear HAX HBX HRX HFX HK
        have hpw : po < wr.heap.size := HO.out.lt
        obtain ⟨pv, hpv⟩ : ∃ pv, wr.heap.size = pv := ⟨_, rfl⟩
        have HIV : Hid (Arr (wr.alloc (.cells #[.int .i64 (R : Int), .int .i64 (D : Int), .int .i64 3, .int .i64 (2 * (D : Int)), .int .i64 2] 24)) pv 24 [.int .i64 (R : Int), .int .i64 (D : Int), .int .i64 3, .int .i64 (2 * (D : Int)), .int .i64 2]) := by
          show Arr _ _ _ _; rw [← hpv]; exact Arr.newL _ _ _
        have bI := Below.refl' wr (.cells #[.int .i64 (R : Int), .int .i64 (D : Int), .int .i64 3, .int .i64 (2 * (D : Int)), .int .i64 2] 24)
        have HAI := hid (HAW.out.alloc (.cells #[.int .i64 (R : Int), .int .i64 (D : Int), .int .i64 3, .int .i64 (2 * (D : Int)), .int .i64 2] 24))
        have HOI := hid (HO.out.alloc (.cells #[.int .i64 (R : Int), .int .i64 (D : Int), .int .i64 3, .int .i64 (2 * (D : Int)), .int .i64 2] 24))
        have HBI : Hid (Below B w4 (wr.alloc (.cells #[.int .i64 (R : Int), .int .i64 (D : Int), .int .i64 3, .int .i64 (2 * (D : Int)), .int .i64 2] 24))) := HBW.out.alloc (by omega) _
        have HRI := hid (HRW.out.below bI)
        have HFI := hid (HFW.out.below bI)
        have HPV := hid hpv
        have hppv : po < pv := by omega
        clear bI hpv HAW HO HBW HRW HFW
        go_wp2_with fail
        rw [HPV.out]
        generalize wr.alloc (.cells #[.int .i64 (R : Int), .int .i64 (D : Int), .int .i64 3, .int .i64 (2 * (D : Int)), .int .i64 2] 24) = Y at *
        clear a0 a1 hpw HPV
        refine (KP.out Y a 3 ha1 ha2 (by omega) (by omega)).mono ?_
        rintro e Y1 ⟨⟨t3, rfl, ht3⟩, rfl⟩
        have fork2 : (((t3 : Int) == 0) = true) ∨ (((t3 : Int) == 0) = false) := by cases ((t3 : Int) == 0) <;> simp
        clear ht3
        rcases fork2 with ht3 | ht3
        · have v0 := HIV.out
          have a0 := HAI.out.cell (i := 0) rfl
          have a1 := HAI.out.cell (i := 1) rfl
          have c0 := v0.cell (i := 0) rfl
          have f0 := v0.frozen 0
          have v1 := v0.set 0 (.int .i64 (R : Int))
          have c1 := v1.cell (i := 1) rfl
          have f1 := v1.frozen 1
          have v2 := v1.set 1 (.int .i64 (D : Int))
          have c2 := v2.cell (i := 2) rfl
          have f2 := v2.frozen 2
          have v3 := v2.set 2 (.int .i64 ((M : Int) - 5))
          have c3 := v3.cell (i := 3) rfl
          have f3 := v3.frozen 3
          have v4 := v3.set 3 (.int .i64 (-1))
          have c4 := v4.cell (i := 4) rfl
          have f4 := v4.frozen 4
          have v5 := v4.set 4 (.int .i64 (-(R : Int)))
          have d0 := v5.cell (i := 0) rfl
          have d1 := v5.cell (i := 1) rfl
          have d2 := v5.cell (i := 2) rfl
          have d3 := v5.cell (i := 3) rfl
          have d4 := v5.cell (i := 4) rfl
          have kI : Kept (fun z => z = pv) Y1 (((((Y1.setCell ⟨pv, 0, none⟩ (.int .i64 (R : Int))).setCell ⟨pv, 1, none⟩ (.int .i64 (D : Int))).setCell ⟨pv, 2, none⟩ (.int .i64 ((M : Int) - 5))).setCell ⟨pv, 3, none⟩ (.int .i64 (-1))).setCell ⟨pv, 4, none⟩ (.int .i64 (-(R : Int)))) := by
            have st : ∀ (W : World) (i : Nat) (v : Value), Kept (fun z => z = pv) Y1 W → Kept (fun z => z = pv) Y1 (W.setCell ⟨pv, i, none⟩ v) := fun W i v h => h.trans (Kept.set (S := fun z => z = pv) rfl v) (fun z h => .inl h)
            exact st _ 4 _ (st _ 3 _ (st _ 2 _ (st _ 1 _ (st _ 0 _ (Kept.refl _ _)))))
          have HV5 : Hid (Arr (((((Y1.setCell ⟨pv, 0, none⟩ (.int .i64 (R : Int))).setCell ⟨pv, 1, none⟩ (.int .i64 (D : Int))).setCell ⟨pv, 2, none⟩ (.int .i64 ((M : Int) - 5))).setCell ⟨pv, 3, none⟩ (.int .i64 (-1))).setCell ⟨pv, 4, none⟩ (.int .i64 (-(R : Int)))) pv 24 [.int .i64 (R : Int), .int .i64 (D : Int), .int .i64 ((M : Int) - 5), .int .i64 (-1), .int .i64 (-(R : Int))]) := v5
          have HK5 := hid kI
          clear v0 v1 v2 v3 v4 v5 kI
          have hfit : Fit R D ((M : Int) - 5) (-1) (-(R : Int)) M := by
            have h := fit_cols (R := R) (C := D) (o := M - 5) (n := M) (by omega) (by have := HNN.out; omega)
            rw [show ((M - 5 : Nat) : Int) = (M : Int) - 5 by omega] at h
            exact h
          go_wp2_with fail
          have hFV : FitV (R : Int) (D : Int) ((M : Int) - 5) (-1) (-(R : Int)) M := ⟨by omega, by omega, by omega, .inr (.inr (by simpa using hfit))⟩
          have aQ := HK5.out.arr HAI.out (by omega)
          have aO := HK5.out.arr HOI.out (by omega)
          have rY := HRI.out.keptOut HK5.out (by omega) (fun h => by have := HSPO.out pv h; omega)
          have fY := HFI.out.keptOut HK5.out (fun ad h1 h2 => by have := HFP.out ad h1 h2; omega)
          have bY := HBI.out.trans (HK5.out.below (fun z hz => by rw [hz]; omega) (by have := HOI.out.lt; omega))
          have hin := into_any (((((Y1.setCell ⟨pv, 0, none⟩ (.int .i64 (R : Int))).setCell ⟨pv, 1, none⟩ (.int .i64 (D : Int))).setCell ⟨pv, 2, none⟩ (.int .i64 ((M : Int) - 5))).setCell ⟨pv, 3, none⟩ (.int .i64 (-1))).setCell ⟨pv, 4, none⟩ (.int .i64 (-(R : Int)))) p7 Sf (.ended k R D gg) M M po (List.replicate M (.int .u64 7)) R D ((M : Int) - 5) (-1) (-(R : Int)) rY aO (by simp) (by unfold maxLen; omega) (by omega) (fun h => by have := HSPO.out po h; omega)
          have e0 : intoE (.ended k R D gg) R D ((M : Int) - 5) (-1) (-(R : Int)) M = 0 := intoE_0 hFV ⟨rfl, rfl⟩
          have eL : intoL (.ended k R D gg) R D ((M : Int) - 5) (-1) (-(R : Int)) M (List.replicate M (.int .u64 7)) = putL R D ((M : Int) - 5) (-1) (-(R : Int)) gg (List.replicate M (.int .u64 7)) := by unfold intoL; simp only; rw [if_pos e0]
          rw [e0, eL] at hin
          unfold viewV at hin
          refine hin.mono ?_
          rintro e W9 ⟨rfl, k9, a9, _⟩
          have aQ9 := k9.arr aQ (by omega)
          have aV9 := k9.arr HV5.out (by omega)
          have fY9 := fY.keptOut k9 (fun ad h1 h2 => by have := HFP.out ad h1 h2; omega)
          have bY9 := bY.trans (k9.below (fun z hz => by rw [hz]; omega) (by have := aO.lt; omega))
          obtain ⟨off, hoff⟩ : ∃ off : Int, ((M : Int) - 5) = off := ⟨_, rfl⟩
          obtain ⟨rs, hrs⟩ : ∃ rs : Int, (-1) = rs := ⟨_, rfl⟩
          obtain ⟨cs, hcs⟩ : ∃ cs : Int, (-(R : Int)) = cs := ⟨_, rfl⟩
          rw [hoff, hrs, hcs] at hfit aV9 a9
          have hoffB : 0 ≤ off ∧ off ≤ 4000 := by omega
          have HQ9 := hid aQ9
          have HV9 := hid aV9
          have HF9 := hid fY9
          have HB9 := hid bY9
          have HA9 : Hid (Arr W9 po 65 (backL R D off rs cs gg 0 (List.replicate M (.int .u64 7)))) := a9
          have HFIT := hid hfit
          clear hin e0 eL hFV aQ aO rY fY bY k9 aQ9 aV9 fY9 bY9 a9 hfit hoff hrs hcs HK5 HV5 HAI HOI HRI HFI HBI a0 a1 c0 c1 c2 c3 c4 f0 f1 f2 f3 f4 d0 d1 d2 d3 d4
          go_wp2_with fail
          go_loopw [26] (fun vi wx => ∃ i : Nat, vi = .int .i64 (i : Int) ∧ i ≤ R ∧ Hid (Arr wx po 65 (backL R D off rs cs gg (i * D) (List.replicate M (.int .u64 7)))) ∧ Hid (Kept (fun z => z = po) W9 wx)) (fun vi _ => R - (intOf vi).toNat)
          case atStart => exact ⟨0, rfl, by omega, by show Arr _ _ _ _; rw [Nat.zero_mul]; exact HA9.out, Kept.refl _ _⟩
          case round =>
            clear HA9
            obtain ⟨i, rfl, hi, HO, HK⟩ := hrel
            have q9 := HK.out.arr HQ9.out (by omega)
            have q0 := q9.cell (i := 0) rfl
            clear q9
            by_cases hit : i < R
            · have hit' : (i : Int) < R := by omega
              go_wp2_with fail
              go_loopw [27] (fun vj wy => ∃ j : Nat, vj = .int .i64 (j : Int) ∧ j ≤ D ∧ Hid (Arr wy po 65 (backL R D off rs cs gg (i * D + j) (List.replicate M (.int .u64 7)))) ∧ Hid (Kept (fun z => z = po) W9 wy)) (fun vj _ => D - (intOf vj).toNat)
              case atStart => exact ⟨0, rfl, by omega, HO, HK⟩
              case round =>
                clear HO HK q0
                obtain ⟨j, rfl, hj, HO, HK⟩ := hrel
                have q9 := HK.out.arr HQ9.out (by omega)
                have q1 := q9.cell (i := 1) rfl
                clear q9
                by_cases hjt : j < D
                · have hjt' : (j : Int) < D := by omega
                  have v9 := HK.out.arr HV9.out (by omega)
                  have v2 := v9.cell (i := 2) rfl
                  have v3 := v9.cell (i := 3) rfl
                  have v4 := v9.cell (i := 4) rfl
                  clear v9
                  have hin1 := HFIT.out.1 i j hit hjt
                  have hin2 := HFIT.out.1 i 0 hit (by omega)
                  obtain ⟨u, hu⟩ : ∃ u : Int, (i : Int) * rs = u := ⟨_, rfl⟩
                  obtain ⟨vv, hvv⟩ : ∃ vv : Int, (j : Int) * cs = vv := ⟨_, rfl⟩
                  rw [hu, hvv] at hin1
                  rw [hu] at hin2
                  rw [show ((0 : Nat) : Int) * cs = 0 by simp, Int.add_zero] at hin2
                  have hob1 := hoffB.1
                  have hob2 := hoffB.2
                  have hub1 : -4000 ≤ u := by omega
                  have hub2 : u ≤ 4000 := by omega
                  have hvb1 : -8000 ≤ vv := by omega
                  have hvb2 : vv ≤ 8000 := by omega
                  obtain ⟨pl, hpl⟩ : ∃ pl : Nat, off + u + vv = (pl : Int) := ⟨_, (Int.toNat_of_nonneg hin1.1).symm⟩
                  have hplM : pl < M := by omega
                  have hplM' : (pl : Int) < M := by omega
                  obtain ⟨P, hP⟩ : ∃ P : Nat, (i : Int) * (D : Int) = (P : Int) := ⟨i * D, by push_cast; rfl⟩
                  have eP : i * D = P := by have : ((i * D : Nat) : Int) = P := by push_cast; exact hP
                                            omega
                  have hPN : P + j < N := by have := idx_lt (R := R) (C := D) hit hjt; have := HNN.out; omega
                  have hPN' : (P : Int) + j < N := by omega
                  obtain ⟨y, hy⟩ : ∃ y, ys[P + j]? = some y := ⟨ys[P + j]'(by rw [HLEN.out]; exact hPN), by simp⟩
                  have fK := HF9.out.keptOut HK.out (fun ad h1 h2 => by have := HFP.out ad h1 h2; omega)
                  obtain ⟨hy64, ad, hmo, _, hcy⟩ := fK (P + j) y hy
                  subst hmo
                  clear fK
                  have hgy : gg i j = cleanN y := by
                    rw [HGG.out i j hit hjt, clean_canon]
                    unfold seenF
                    have e1 : (0 : Int) + i * D + j * 1 = ((P + j : Nat) : Int) := by rw [hP]; push_cast; omega
                    rw [e1, Int.toNat_natCast, List.getD_eq_getElem?_getD, hy]
                    rfl
                  have hrw := rowsL_at (R := R) (C := D) gg hit hjt
                  have hba := backL_at (f := gg) (.inr (.inr HFIT.out)) (l := List.replicate M (.int .u64 7)) (by rw [List.length_replicate]; exact Nat.le_refl _) hrw
                  have hplc : plcP off rs cs (i, j, gg i j) = pl := by unfold plcP; simp only; rw [hu, hvv, hpl, Int.toNat_natCast]
                  rw [hplc] at hba
                  have co := HO.out.cell hba.1
                  simp only at co
                  rw [hgy] at co
                  have fo := HO.out.frozen pl
                  have HN : Hid (∀ nq : Nat, Arr ((wr.drewN nq).setCell ⟨po, pl, none⟩ (.int .u64 7)) po 65 (backL R D off rs cs gg (i * D + (j + 1)) (List.replicate M (.int .u64 7))) ∧ Kept (fun z => z = po) W9 ((wr.drewN nq).setCell ⟨po, pl, none⟩ (.int .u64 7))) := fun nq => by
                    refine ⟨?_, (HK.out.trans (Kept.drewN (S := fun z => z = po) nq) (fun z h => .inl h)).trans (Kept.set (S := fun z => z = po) rfl _) (fun z h => .inl h)⟩
                    have h : Arr (wr.drewN nq) po 65 _ := HO.out
                    have h2 := h.set pl (.int .u64 7)
                    rw [hba.2] at h2
                    exact h2
                  have HQL := hid (fun W : World => HCL.out W y hy64)
                  clear hba hrw hplc hgy hy eP HO HK hin1 hin2
                  go_wp2_with fail
                  go_quiet (first | (go_at_call 21; exact Calls.quiet_of_same (HQL.out _)))
                  go_wp2
                  go_round
                  case rel => exact ⟨j + 1, by simp, by omega, (HN.out _).1, (HN.out _).2⟩
                  case measure => simp [intOf]; omega
                · have hjt' : ¬ (j : Int) < D := by omega
                  have ej : j = D := by omega
                  rw [ej] at HO
                  clear ej
                  go_wp2
                  go_round
                  case rel => exact ⟨i + 1, by simp, by omega, by show Arr _ _ _ _; rw [Nat.succ_mul]; exact HO.out, HK⟩
                  case measure => simp [intOf]; omega
            · have hit' : ¬ (i : Int) < R := by omega
              have ei : i = R := by omega
              rw [ei] at HO
              have HBF : Hid (Below B w4 wr) := HB9.out.trans (HK.out.below (fun z hz => by rw [hz]; omega) (by have := HQ9.out.lt; omega))
              clear ei HK
              go_wp2_with fail
              go_loopw [29] (fun vi wx => ∃ i : Nat, vi = .int .i64 (i : Int) ∧ i ≤ M ∧ wx = wr) (fun vi _ => M - (intOf vi).toNat)
              case atStart => exact ⟨0, rfl, by omega, rfl⟩
              case round =>
                obtain ⟨ii, rfl, hii, rfl⟩ := hrel
                by_cases hmt : ii < M
                · have hmt' : (ii : Int) < M := by omega
                  have co := HO.out.cell (backL_all (f := gg) (.inr (.inr HFIT.out)) hmt)
                  go_wp2
                  go_round
                  case rel => exact ⟨ii + 1, by simp, by omega, by first | rfl | trivial⟩
                  case measure => simp [intOf]; omega
                · have hmt' : ¬ (ii : Int) < M := by omega
                  go_wp2
                  go_ret
                  exact ⟨rfl, HBF.out⟩
        · have HV5 := HIV
          have HK5 : Hid (Kept (fun z => z = pv) Y1 Y1) := Kept.refl _ _
          have hfit : Fit R D 3 (2 * (D : Int)) 2 M := by
            have h := fit_rows (R := R) (C := D) (d := 2) (o := 3) (n := M) (by omega) (by have := HNN.out; omega)
            rw [show ((2 * D : Nat) : Int) = 2 * (D : Int) by push_cast; rfl] at h
            exact h
          have d0 := HIV.out.cell (i := 0) rfl
          have d1 := HIV.out.cell (i := 1) rfl
          have d2 := HIV.out.cell (i := 2) rfl
          have d3 := HIV.out.cell (i := 3) rfl
          have d4 := HIV.out.cell (i := 4) rfl
          go_wp2_with fail
          have hFV : FitV (R : Int) (D : Int) 3 (2 * (D : Int)) 2 M := ⟨by omega, by omega, by omega, .inr (.inr (by simpa using hfit))⟩
          have aQ := HK5.out.arr HAI.out (by omega)
          have aO := HK5.out.arr HOI.out (by omega)
          have rY := HRI.out.keptOut HK5.out (by omega) (fun h => by have := HSPO.out pv h; omega)
          have fY := HFI.out.keptOut HK5.out (fun ad h1 h2 => by have := HFP.out ad h1 h2; omega)
          have bY := HBI.out.trans (HK5.out.below (fun z hz => by rw [hz]; omega) (by have := HOI.out.lt; omega))
          have hin := into_any Y1 p7 Sf (.ended k R D gg) M M po (List.replicate M (.int .u64 7)) R D 3 (2 * (D : Int)) 2 rY aO (by simp) (by unfold maxLen; omega) (by omega) (fun h => by have := HSPO.out po h; omega)
          have e0 : intoE (.ended k R D gg) R D 3 (2 * (D : Int)) 2 M = 0 := intoE_0 hFV ⟨rfl, rfl⟩
          have eL : intoL (.ended k R D gg) R D 3 (2 * (D : Int)) 2 M (List.replicate M (.int .u64 7)) = putL R D 3 (2 * (D : Int)) 2 gg (List.replicate M (.int .u64 7)) := by unfold intoL; simp only; rw [if_pos e0]
          rw [e0, eL] at hin
          unfold viewV at hin
          refine hin.mono ?_
          rintro e W9 ⟨rfl, k9, a9, _⟩
          have aQ9 := k9.arr aQ (by omega)
          have aV9 := k9.arr HV5.out (by omega)
          have fY9 := fY.keptOut k9 (fun ad h1 h2 => by have := HFP.out ad h1 h2; omega)
          have bY9 := bY.trans (k9.below (fun z hz => by rw [hz]; omega) (by have := aO.lt; omega))
          obtain ⟨off, hoff⟩ : ∃ off : Int, 3 = off := ⟨_, rfl⟩
          obtain ⟨rs, hrs⟩ : ∃ rs : Int, (2 * (D : Int)) = rs := ⟨_, rfl⟩
          obtain ⟨cs, hcs⟩ : ∃ cs : Int, 2 = cs := ⟨_, rfl⟩
          rw [hoff, hrs, hcs] at hfit aV9 a9
          have hoffB : 0 ≤ off ∧ off ≤ 4000 := by omega
          have HQ9 := hid aQ9
          have HV9 := hid aV9
          have HF9 := hid fY9
          have HB9 := hid bY9
          have HA9 : Hid (Arr W9 po 65 (backL R D off rs cs gg 0 (List.replicate M (.int .u64 7)))) := a9
          have HFIT := hid hfit
          clear hin e0 eL hFV aQ aO rY fY bY k9 aQ9 aV9 fY9 bY9 a9 hfit hoff hrs hcs HK5 HV5 HAI HOI HRI HFI HBI d0 d1 d2 d3 d4 HIV
          go_wp2_with fail
          go_loopw [26] (fun vi wx => ∃ i : Nat, vi = .int .i64 (i : Int) ∧ i ≤ R ∧ Hid (Arr wx po 65 (backL R D off rs cs gg (i * D) (List.replicate M (.int .u64 7)))) ∧ Hid (Kept (fun z => z = po) W9 wx)) (fun vi _ => R - (intOf vi).toNat)
          case atStart => exact ⟨0, rfl, by omega, by show Arr _ _ _ _; rw [Nat.zero_mul]; exact HA9.out, Kept.refl _ _⟩
          case round =>
            clear HA9
            obtain ⟨i, rfl, hi, HO, HK⟩ := hrel
            have q9 := HK.out.arr HQ9.out (by omega)
            have q0 := q9.cell (i := 0) rfl
            clear q9
            by_cases hit : i < R
            · have hit' : (i : Int) < R := by omega
              go_wp2_with fail
              go_loopw [27] (fun vj wy => ∃ j : Nat, vj = .int .i64 (j : Int) ∧ j ≤ D ∧ Hid (Arr wy po 65 (backL R D off rs cs gg (i * D + j) (List.replicate M (.int .u64 7)))) ∧ Hid (Kept (fun z => z = po) W9 wy)) (fun vj _ => D - (intOf vj).toNat)
              case atStart => exact ⟨0, rfl, by omega, HO, HK⟩
              case round =>
                clear HO HK q0
                obtain ⟨j, rfl, hj, HO, HK⟩ := hrel
                have q9 := HK.out.arr HQ9.out (by omega)
                have q1 := q9.cell (i := 1) rfl
                clear q9
                by_cases hjt : j < D
                · have hjt' : (j : Int) < D := by omega
                  have v9 := HK.out.arr HV9.out (by omega)
                  have v2 := v9.cell (i := 2) rfl
                  have v3 := v9.cell (i := 3) rfl
                  have v4 := v9.cell (i := 4) rfl
                  clear v9
                  have hin1 := HFIT.out.1 i j hit hjt
                  have hin2 := HFIT.out.1 i 0 hit (by omega)
                  obtain ⟨u, hu⟩ : ∃ u : Int, (i : Int) * rs = u := ⟨_, rfl⟩
                  obtain ⟨vv, hvv⟩ : ∃ vv : Int, (j : Int) * cs = vv := ⟨_, rfl⟩
                  rw [hu, hvv] at hin1
                  rw [hu] at hin2
                  rw [show ((0 : Nat) : Int) * cs = 0 by simp, Int.add_zero] at hin2
                  have hob1 := hoffB.1
                  have hob2 := hoffB.2
                  have hub1 : -4000 ≤ u := by omega
                  have hub2 : u ≤ 4000 := by omega
                  have hvb1 : -8000 ≤ vv := by omega
                  have hvb2 : vv ≤ 8000 := by omega
                  obtain ⟨pl, hpl⟩ : ∃ pl : Nat, off + u + vv = (pl : Int) := ⟨_, (Int.toNat_of_nonneg hin1.1).symm⟩
                  have hplM : pl < M := by omega
                  have hplM' : (pl : Int) < M := by omega
                  obtain ⟨P, hP⟩ : ∃ P : Nat, (i : Int) * (D : Int) = (P : Int) := ⟨i * D, by push_cast; rfl⟩
                  have eP : i * D = P := by have : ((i * D : Nat) : Int) = P := by push_cast; exact hP
                                            omega
                  have hPN : P + j < N := by have := idx_lt (R := R) (C := D) hit hjt; have := HNN.out; omega
                  have hPN' : (P : Int) + j < N := by omega
                  obtain ⟨y, hy⟩ : ∃ y, ys[P + j]? = some y := ⟨ys[P + j]'(by rw [HLEN.out]; exact hPN), by simp⟩
                  have fK := HF9.out.keptOut HK.out (fun ad h1 h2 => by have := HFP.out ad h1 h2; omega)
                  obtain ⟨hy64, ad, hmo, _, hcy⟩ := fK (P + j) y hy
                  subst hmo
                  clear fK
                  have hgy : gg i j = cleanN y := by
                    rw [HGG.out i j hit hjt, clean_canon]
                    unfold seenF
                    have e1 : (0 : Int) + i * D + j * 1 = ((P + j : Nat) : Int) := by rw [hP]; push_cast; omega
                    rw [e1, Int.toNat_natCast, List.getD_eq_getElem?_getD, hy]
                    rfl
                  have hrw := rowsL_at (R := R) (C := D) gg hit hjt
                  have hba := backL_at (f := gg) (.inr (.inr HFIT.out)) (l := List.replicate M (.int .u64 7)) (by rw [List.length_replicate]; exact Nat.le_refl _) hrw
                  have hplc : plcP off rs cs (i, j, gg i j) = pl := by unfold plcP; simp only; rw [hu, hvv, hpl, Int.toNat_natCast]
                  rw [hplc] at hba
                  have co := HO.out.cell hba.1
                  simp only at co
                  rw [hgy] at co
                  have fo := HO.out.frozen pl
                  have HN : Hid (∀ nq : Nat, Arr ((wr.drewN nq).setCell ⟨po, pl, none⟩ (.int .u64 7)) po 65 (backL R D off rs cs gg (i * D + (j + 1)) (List.replicate M (.int .u64 7))) ∧ Kept (fun z => z = po) W9 ((wr.drewN nq).setCell ⟨po, pl, none⟩ (.int .u64 7))) := fun nq => by
                    refine ⟨?_, (HK.out.trans (Kept.drewN (S := fun z => z = po) nq) (fun z h => .inl h)).trans (Kept.set (S := fun z => z = po) rfl _) (fun z h => .inl h)⟩
                    have h : Arr (wr.drewN nq) po 65 _ := HO.out
                    have h2 := h.set pl (.int .u64 7)
                    rw [hba.2] at h2
                    exact h2
                  have HQL := hid (fun W : World => HCL.out W y hy64)
                  clear hba hrw hplc hgy hy eP HO HK hin1 hin2
                  go_wp2_with fail
                  go_quiet (first | (go_at_call 21; exact Calls.quiet_of_same (HQL.out _)))
                  go_wp2
                  go_round
                  case rel => exact ⟨j + 1, by simp, by omega, (HN.out _).1, (HN.out _).2⟩
                  case measure => simp [intOf]; omega
                · have hjt' : ¬ (j : Int) < D := by omega
                  have ej : j = D := by omega
                  rw [ej] at HO
                  clear ej
                  go_wp2
                  go_round
                  case rel => exact ⟨i + 1, by simp, by omega, by show Arr _ _ _ _; rw [Nat.succ_mul]; exact HO.out, HK⟩
                  case measure => simp [intOf]; omega
            · have hit' : ¬ (i : Int) < R := by omega
              have ei : i = R := by omega
              rw [ei] at HO
              have HBF : Hid (Below B w4 wr) := HB9.out.trans (HK.out.below (fun z hz => by rw [hz]; omega) (by have := HQ9.out.lt; omega))
              clear ei HK
              go_wp2_with fail
              go_loopw [29] (fun vi wx => ∃ i : Nat, vi = .int .i64 (i : Int) ∧ i ≤ M ∧ wx = wr) (fun vi _ => M - (intOf vi).toNat)
              case atStart => exact ⟨0, rfl, by omega, rfl⟩
              case round =>
                obtain ⟨ii, rfl, hii, rfl⟩ := hrel
                by_cases hmt : ii < M
                · have hmt' : (ii : Int) < M := by omega
                  have co := HO.out.cell (backL_all (f := gg) (.inr (.inr HFIT.out)) hmt)
                  go_wp2
                  go_round
                  case rel => exact ⟨ii + 1, by simp, by omega, by first | rfl | trivial⟩
                  case measure => simp [intOf]; omega
                · have hmt' : ¬ (ii : Int) < M := by omega
                  go_wp2
                  go_ret
                  exact ⟨rfl, HBF.out⟩
  · go_wp2_with fail
    refine (KP.out w2 a 8 ha1 ha2 (by omega) (by omega)).mono ?_
    rintro e w3 ⟨⟨R, rfl, hR⟩, rfl⟩
    go_wp2_with fail
    refine (KP.out w3 b 8 hb1 hb2 (by omega) (by omega)).mono ?_
    rintro e w4 ⟨⟨C, rfl, hC⟩, rfl⟩
    have hR40 : R ≤ 40 := by omega
    have hSQ := square_any w4 ao n cap xs hn hn1 HBUF.out R C k hR40 (by omega)
    rw [hB] at hSQ
    have HSQ := hid hSQ
    clear hSQ hR hC
    unfold viewV at HSQ
    go_wp2_with fail
    refine HSQ.out.mono ?_
    rintro e W4 ⟨D, mo, mcap, ys, rfl, hD, hDR, hsy, hlen, hlt, hbuf, hown, hbel⟩
    obtain ⟨L, hL, hRT, hL1, hL2, hbx⟩ := file_ok hlen hlt hR40 hD (show k ≤ 5 by omega) hDR hsy HPR.out
    clear hbx hDR hsy hL1
    have hN : R * D ≤ 1600 := Nat.mul_le_mul hR40 hD
    have hz4 : B ≤ W4.heap.size := by have := hbel.size; omega
    obtain ⟨q, hq⟩ : ∃ q, W4.heap.size = q := ⟨_, rfl⟩
    have bV : Below B w4 (W4.alloc (.cells #[.int .i64 (R : Int), .int .i64 (D : Int), .int .i64 0, .int .i64 (D : Int), .int .i64 1] 24)) := hbel.alloc hz4 _
    have aV : Arr (W4.alloc (.cells #[.int .i64 (R : Int), .int .i64 (D : Int), .int .i64 0, .int .i64 (D : Int), .int .i64 1] 24)) q 24 [.int .i64 (R : Int), .int .i64 (D : Int), .int .i64 0, .int .i64 (D : Int), .int .i64 1] := by rw [← hq]; exact Arr.newL _ _ _
    have hBq : B ≤ q := by omega
    have HAV := hid aV
    have HBV := hid bV
    have HQ := hid hq
    have HRT := hid hRT
    have HLEN := hid hlen
    have HYL := hid hlt
    have HBF := hid (hbuf.below (Below.refl' W4 (.cells #[.int .i64 (R : Int), .int .i64 (D : Int), .int .i64 0, .int .i64 (D : Int), .int .i64 1] 24)))
    have HL := hid hL
    obtain ⟨N, hNN⟩ : ∃ N, R * D = N := ⟨_, rfl⟩
    rw [hNN] at hN HLEN ⊢
    have HNN := hid hNN
    have hRDi : (R : Int) * (D : Int) = (N : Int) := by rw [← hNN]; push_cast; rfl
    clear aV bV hq hRT HSQ hbel hlen hlt hbuf hown hL hNN
    go_wp2_with fail
    rw [HQ.out]
    generalize W4.alloc (.cells #[.int .i64 (R : Int), .int .i64 (D : Int), .int .i64 0, .int .i64 (D : Int), .int .i64 1] 24) = V at *
    clear HQ hz4
    refine wp_region_held (S := fun W' => Arr W' q 24 [.int .i64 (R : Int), .int .i64 (D : Int), .int .i64 0, .int .i64 (D : Int), .int .i64 1]) hmix ?_
    change wpAnyH _ _ _ _ _ _ _ _ V.drew
    have hS0 : Arr V.drew q 24 [.int .i64 (R : Int), .int .i64 (D : Int), .int .i64 0, .int .i64 (D : Int), .int .i64 1] := HAV.out.drew
    have hBZ : Below B w4 V.drew := HBV.out.drew
    have hFZ : BufIs V.drew mo ys := HBF.out
    clear HAV HBV HBF
    generalize V.drew = Z at *
    refine wpAnyH_take (i := 0) (v := .slice mo N mcap) rfl (by kernel_rfl) (by kernel_rfl) (by kernel_rfl) (fun _ _ _ h => h) (Or.inl ⟨by rfl, fun W' hS => ?_⟩) hS0 ?_
    · clear hS
      go_simp
    simp only [Act.put]
    refine wpAnyH_take (i := 1) (v := .agg #[.int .i64 (R : Int), .int .i64 (D : Int), .int .i64 0, .int .i64 (D : Int), .int .i64 1]) rfl (by kernel_rfl) (by kernel_rfl) (by kernel_rfl) (fun _ _ _ h => h) (Or.inl ⟨by rfl, fun W' hS => ?_⟩) hS0 ?_
    · have q0 := hS.cell (i := 0) rfl
      have q1 := hS.cell (i := 1) rfl
      have q2 := hS.cell (i := 2) rfl
      have q3 := hS.cell (i := 3) rfl
      have q4 := hS.cell (i := 4) rfl
      clear hS
      go_simp
    simp only [Act.put]
    refine wpAnyH_take (i := 2) (v := .int .i64 (k : Int)) rfl (by kernel_rfl) (by kernel_rfl) (by kernel_rfl) (fun _ _ _ h => h) (Or.inl ⟨by rfl, fun W' hS => ?_⟩) hS0 ?_
    · clear hS
      go_simp
    simp only [Act.put]
    refine wpAnyH_take (i := 3) (v := .int .i64 piece) rfl (by kernel_rfl) (by kernel_rfl) (by kernel_rfl) (fun _ _ _ h => h) (Or.inl ⟨by rfl, fun W' hS => ?_⟩) hS0 ?_
    · clear hS
      go_simp
    simp only [Act.put]
    refine wpAnyH_ready (rs := [4]) (by kernel_rfl) (by simp) ?_
    refine AllReadyH.cons rfl (fun K hKK => ?_) AllReadyH.nil
    go_simp
    refine (KP.out Z piece 300 hp1 hp2 (by omega) (by omega)).mono ?_
    rintro e Z1 ⟨⟨pc0, rfl, hpc0⟩, rfl⟩
    refine hKK.out _ _ hS0 (fun hHeld => ?_)
    clear hKK hHeld
    obtain ⟨pc, hpc⟩ : ∃ pc : Nat, 1 + (pc0 : Int) = (pc : Int) := ⟨1 + pc0, by omega⟩
    have hwp : IntKind.i64.wrap (pc : Int) = pc := by rw [IntKind.wrap_i64]; omega
    refine wpAnyH_take (i := 5) (v := .int .i64 (pc : Int)) rfl (by kernel_rfl) (by kernel_rfl) (by kernel_rfl) (fun _ _ _ h => h) (Or.inl ⟨by rfl, fun W' hS => ?_⟩) hS0 ?_
    · clear hS
      go_simp
    simp only [Act.put]
    have hF := kfile_any Z1 mo N mcap ys HLEN.out hN hFZ R D k pc L HL.out hL2 (by omega) (by omega) (tab_below HT.out (hB ▸ hBZ))
    unfold viewV at hF
    refine wpAnyH_ready (rs := [6]) (by kernel_rfl) (by simp) ?_
    refine AllReadyH.cons rfl (fun K hKK => ?_) AllReadyH.nil
    go_simp
    refine hF.mono ?_
    rintro e Z2 ⟨⟨s, rfl, hs⟩, b2⟩
    have hS2 : Arr Z2 q 24 [.int .i64 (R : Int), .int .i64 (D : Int), .int .i64 0, .int .i64 (D : Int), .int .i64 1] := hS0.belowAll b2
    have hF2 := hFZ.below b2
    have hB2 : Below B w4 Z2 := hBZ.trans (b2.mono (by have := hS0.lt; omega))
    refine hKK.out _ _ hS2 (fun hHeld => ?_)
    clear hKK hHeld hF hS0 hBZ hFZ b2 hpc hpc0
    refine wpAnyH_take (i := 7) (v := .tuple #[.string s, .bool true]) rfl (by kernel_rfl) (by kernel_rfl) (by kernel_rfl) (fun _ _ _ h => h) (Or.inl ⟨by rfl, fun W' hS => ?_⟩) hS2 ?_
    · clear hS
      go_simp
    simp only [Act.put]
    refine wpAnyH_take (i := 8) (v := .string s) rfl (by kernel_rfl) (by kernel_rfl) (by kernel_rfl) (fun _ _ _ h => h) (Or.inl ⟨by rfl, fun W' hS => ?_⟩) hS2 ?_
    · clear hS
      go_simp
    simp only [Act.put]
    refine wpAnyH_take (i := 9) (v := .bool true) rfl (by kernel_rfl) (by kernel_rfl) (by kernel_rfl) (fun _ _ _ h => h) (Or.inl ⟨by rfl, fun W' hS => ?_⟩) hS2 ?_
    · clear hS
      go_simp
    simp only [Act.put]
    refine wpAnyH_take (i := 10) (v := .string s) rfl (by kernel_rfl) (by kernel_rfl) (by kernel_rfl) (fun _ _ _ h => h) (Or.inl ⟨by rfl, fun W' hS => ?_⟩) hS2 ?_
    · clear hS
      go_simp
    simp only [Act.put]
    refine wpAnyH_take (i := 11) (v := .bool true) rfl (by kernel_rfl) (by kernel_rfl) (by kernel_rfl) (fun _ _ _ h => h) (Or.inl ⟨by rfl, fun W' hS => ?_⟩) hS2 ?_
    · clear hS
      go_simp
    simp only [Act.put, List.getElem_toArray, List.getElem_cons_succ, List.getElem_cons_zero, List.setIfInBounds_toArray, List.set_cons_succ, List.set_cons_zero]
    refine wpAnyH_done (by kernel_rfl) ?_ _
    have HA5 := hid hS2
    have HB5 := hid hB2
    have HF5 := hid hF2
    have HS := hid hs
    have hsL : s.size ≤ 100000 := by rw [bytes_size hs]; exact hL2
    clear hS2 hB2 hF2 hs hL2
    go_wp2_with fail
    refine (KP.out Z2 other 300 ho1 ho2 (by omega) (by omega)).mono ?_
    rintro e Z3 ⟨⟨oc0, rfl, hoc0⟩, rfl⟩
    obtain ⟨oc, hoc⟩ : ∃ oc : Nat, 1 + (oc0 : Int) = (oc : Int) := ⟨1 + oc0, by omega⟩
    have hrd := kread_any Z3 s s.size oc rfl (by omega) (by omega) (by omega)
    obtain ⟨hf0, gg, hend, hgg⟩ := HRT.out.feed
    rw [HS.out] at hrd
    have HRD : Hid (Calls Tryz.prog 19 #[.string s, .int .i64 (oc : Int)] Z3 fun e w' => Below Z3.heap.size Z3 w' ∧ ∃ (p7 : Nat) (Sf : Nat → Prop), e = .returned (.tuple #[.pointer (some ⟨p7, 0, none⟩), .agg #[.int .i64 (R : Int), .int .i64 (D : Int), .int .i64 (k : Int)], .bool true]) ∧ Z3.heap.size ≤ p7 ∧ (∀ z, Sf z → Z3.heap.size ≤ z) ∧ ReadIs w' p7 Sf (.ended k R D gg)) := by
      refine hrd.mono ?_
      rintro e W7 ⟨b7, hr⟩
      refine ⟨b7, ?_⟩
      rcases hr with ⟨h, _⟩ | ⟨_, p7, Sf, h, h1, h2, h3⟩
      · exact (h hf0).elim
      · rw [hend] at h h3
        exact ⟨p7, Sf, h, h1, h2, h3⟩
    have HGG := hid hgg
    clear hrd hf0 hend hgg
    go_wp2_with fail
    refine HRD.out.mono ?_
    rintro e W7 ⟨b7, p7, Sf, rfl, hp7, hSf, hr7⟩
    have hzq : q < Z3.heap.size := HA5.out.lt
    have HB7 : Hid (Below B w4 (W7.alloc (.cells #[.int .i64 (R : Int), .int .i64 (D : Int), .int .i64 (k : Int)] 62))) := (HB5.out.trans (b7.mono (by omega))).alloc (by have := b7.size; omega) _
    have HA7 := hid ((HA5.out.belowAll b7).alloc (.cells #[.int .i64 (R : Int), .int .i64 (D : Int), .int .i64 (k : Int)] 62))
    have HF7 := hid ((HF5.out.below b7).below (Below.refl' W7 (.cells #[.int .i64 (R : Int), .int .i64 (D : Int), .int .i64 (k : Int)] 62)))
    have HR7 := hid (hr7.below (Below.refl' W7 (.cells #[.int .i64 (R : Int), .int .i64 (D : Int), .int .i64 (k : Int)] 62)))
    have HSF : Hid (q < p7 ∧ ∀ z, Sf z → q < z) := ⟨by omega, fun z hz => by have := hSf z hz; omega⟩
    have HFA : Hid (∀ ad, mo = some ad → ys ≠ [] → ad.block ≠ p7 ∧ ¬ Sf ad.block) := fun ad h hne => by
      have hy0 : ys[0]? = some (ys[0]'(List.length_pos_iff.2 hne)) := by simp
      obtain ⟨_, ad', h1, h2, _⟩ := HF5.out 0 _ hy0
      rw [h] at h1; cases h1
      exact ⟨by omega, fun hh => by have := hSf _ hh; omega⟩
    clear HRD b7 hr7 HB5 HA5 HF5 hoc hoc0 hSf hp7
    have a0 := HA7.out.cell (i := 0) rfl
    have a1 := HA7.out.cell (i := 1) rfl
    obtain ⟨M, hM⟩ : ∃ M, 2 * (N + 10) = M := ⟨_, rfl⟩
    have hMi : 2 * ((N : Int) + 10) = (M : Int) := by omega
    have hM1 : M ≤ 4000 := by omega
    have hmk := HMK.out M hM1
    obtain ⟨po, hpo⟩ : ∃ po, (W7.alloc (.cells #[.int .i64 (R : Int), .int .i64 (D : Int), .int .i64 (k : Int)] 62)).heap.size = po := ⟨_, rfl⟩
    have hpo2 : W7.heap.size + 1 = po := by rw [← hpo]; simp
    have HOUT : Hid (Arr ((W7.alloc (.cells #[.int .i64 (R : Int), .int .i64 (D : Int), .int .i64 (k : Int)] 62)).alloc (.cells (Array.replicate M (.int .u64 0)) 65)) po 65 (List.replicate M (.int .u64 0))) := by
      have h := Arr.newL (W7.alloc (.cells #[.int .i64 (R : Int), .int .i64 (D : Int), .int .i64 (k : Int)] 62)) 65 (List.replicate M (.int .u64 0))
      rw [List.toArray_replicate, hpo] at h
      exact h
    have bX := Below.refl' (W7.alloc (.cells #[.int .i64 (R : Int), .int .i64 (D : Int), .int .i64 (k : Int)] 62)) (.cells (Array.replicate M (.int .u64 0)) 65)
    rw [hpo] at bX
    have hqpo : q < po := by rw [← hpo]; exact HA7.out.lt
    have hppo : p7 < po := by rw [← hpo]; exact HR7.out.ptr_lt
    have HSPO : Hid (∀ z, Sf z → z < po) := fun z hz => by rw [← hpo]; exact HR7.out.lt z hz
    have HBX : Hid (Below B w4 ((W7.alloc (.cells #[.int .i64 (R : Int), .int .i64 (D : Int), .int .i64 (k : Int)] 62)).alloc (.cells (Array.replicate M (.int .u64 0)) 65))) := HB7.out.trans (bX.mono (by omega))
    have HAX := hid (HA7.out.below bX hqpo)
    have HFX := hid (HF7.out.below (by rw [hpo]; exact bX))
    have HRX := hid (HR7.out.below (by rw [hpo]; exact bX))
    have HFP : Hid (∀ ad, mo = some ad → ys ≠ [] → ad.block < po) := fun ad h hne => by
      have hy0 : ys[0]? = some (ys[0]'(List.length_pos_iff.2 hne)) := by simp
      obtain ⟨_, ad', h1, h2, _⟩ := HF7.out 0 _ hy0
      rw [h] at h1; cases h1
      rw [hpo] at h2; exact h2
    have HPO := hid hpo2
    clear bX hpo hpo2 HB7 HA7 HF7 HR7 HMK
    go_wp2_with fail
    rw [HPO.out]
    generalize (W7.alloc (.cells #[.int .i64 (R : Int), .int .i64 (D : Int), .int .i64 (k : Int)] 62)).alloc (.cells (Array.replicate M (.int .u64 0)) 65) = X at *
    clear hmk a0 a1
    go_loopw [23] (fun vi wr => ∃ i : Nat, vi = .int .i64 (i : Int) ∧ i ≤ M ∧ Hid (Arr wr po 65 (List.replicate i (.int .u64 7) ++ List.replicate (M - i) (.int .u64 0))) ∧ Hid (Kept (fun z => z = po) X wr)) (fun vi _ => M - (intOf vi).toNat)
    case atStart => exact ⟨0, rfl, by omega, by show Arr _ _ _ _; rw [List.replicate_zero, List.nil_append, Nat.sub_zero]; exact HOUT.out, Kept.refl _ _⟩
    case round =>
      clear HOUT
      obtain ⟨i, rfl, hi, HO, HK⟩ := hrel
      by_cases hit : i < M
      · have hit' : (i : Int) < M := by omega
        have c0 := HO.out.cell (sevens_at hit)
        have f0 := HO.out.frozen i
        have HON : Hid (Arr (wr.setCell ⟨po, i, none⟩ (.int .u64 7)) po 65 (List.replicate (i + 1) (.int .u64 7) ++ List.replicate (M - (i + 1)) (.int .u64 0))) := by
          have h := HO.out.set i (.int .u64 7)
          rw [sevens_set hit] at h
          exact h
        have HKN : Hid (Kept (fun z => z = po) X (wr.setCell ⟨po, i, none⟩ (.int .u64 7))) := HK.out.trans (Kept.set (S := fun z => z = po) rfl _) (fun z h => .inl h)
        clear HO HK
        go_wp2
        go_round
        case rel => exact ⟨i + 1, by simp, by omega, HON, HKN⟩
        case measure => simp [intOf]; omega
      · have hit' : ¬ (i : Int) < M := by omega
        have hiM : i = M := by omega
        rw [hiM, Nat.sub_self, List.replicate_zero, List.append_nil] at HO
        clear hiM hi
        have HAW := hid (HK.out.arr HAX.out (by omega))
        have HBW : Hid (Below B w4 wr) := HBX.out.trans (HK.out.below (fun z hz => by rw [hz]; omega) (by have := HAX.out.lt; omega))
        have HRW := hid (HRX.out.keptOut HK.out (by omega) (fun h => by have := HSPO.out po h; omega))
        have HFW := hid (HFX.out.keptOut HK.out (fun ad h1 h2 => by have := HFP.out ad h1 h2; omega))
        have a0 := HAW.out.cell (i := 0) rfl
        have a1 := HAW.out.cell (i := 1) rfl
        clear HAX HBX HRX HFX HK
        have hpw : po < wr.heap.size := HO.out.lt
        obtain ⟨pv, hpv⟩ : ∃ pv, wr.heap.size = pv := ⟨_, rfl⟩
        have HIV : Hid (Arr (wr.alloc (.cells #[.int .i64 (R : Int), .int .i64 (D : Int), .int .i64 3, .int .i64 (2 * (D : Int)), .int .i64 2] 24)) pv 24 [.int .i64 (R : Int), .int .i64 (D : Int), .int .i64 3, .int .i64 (2 * (D : Int)), .int .i64 2]) := by
          show Arr _ _ _ _; rw [← hpv]; exact Arr.newL _ _ _
        have bI := Below.refl' wr (.cells #[.int .i64 (R : Int), .int .i64 (D : Int), .int .i64 3, .int .i64 (2 * (D : Int)), .int .i64 2] 24)
        have HAI := hid (HAW.out.alloc (.cells #[.int .i64 (R : Int), .int .i64 (D : Int), .int .i64 3, .int .i64 (2 * (D : Int)), .int .i64 2] 24))
        have HOI := hid (HO.out.alloc (.cells #[.int .i64 (R : Int), .int .i64 (D : Int), .int .i64 3, .int .i64 (2 * (D : Int)), .int .i64 2] 24))
        have HBI : Hid (Below B w4 (wr.alloc (.cells #[.int .i64 (R : Int), .int .i64 (D : Int), .int .i64 3, .int .i64 (2 * (D : Int)), .int .i64 2] 24))) := HBW.out.alloc (by omega) _
        have HRI := hid (HRW.out.below bI)
        have HFI := hid (HFW.out.below bI)
        have HPV := hid hpv
        have hppv : po < pv := by omega
        clear bI hpv HAW HO HBW HRW HFW
        go_wp2_with fail
        rw [HPV.out]
        generalize wr.alloc (.cells #[.int .i64 (R : Int), .int .i64 (D : Int), .int .i64 3, .int .i64 (2 * (D : Int)), .int .i64 2] 24) = Y at *
        clear a0 a1 hpw HPV
        refine (KP.out Y a 3 ha1 ha2 (by omega) (by omega)).mono ?_
        rintro e Y1 ⟨⟨t3, rfl, ht3⟩, rfl⟩
        have fork2 : (((t3 : Int) == 0) = true) ∨ (((t3 : Int) == 0) = false) := by cases ((t3 : Int) == 0) <;> simp
        clear ht3
        rcases fork2 with ht3 | ht3
        · have v0 := HIV.out
          have a0 := HAI.out.cell (i := 0) rfl
          have a1 := HAI.out.cell (i := 1) rfl
          have c0 := v0.cell (i := 0) rfl
          have f0 := v0.frozen 0
          have v1 := v0.set 0 (.int .i64 (R : Int))
          have c1 := v1.cell (i := 1) rfl
          have f1 := v1.frozen 1
          have v2 := v1.set 1 (.int .i64 (D : Int))
          have c2 := v2.cell (i := 2) rfl
          have f2 := v2.frozen 2
          have v3 := v2.set 2 (.int .i64 ((M : Int) - 5))
          have c3 := v3.cell (i := 3) rfl
          have f3 := v3.frozen 3
          have v4 := v3.set 3 (.int .i64 (-1))
          have c4 := v4.cell (i := 4) rfl
          have f4 := v4.frozen 4
          have v5 := v4.set 4 (.int .i64 (-(R : Int)))
          have d0 := v5.cell (i := 0) rfl
          have d1 := v5.cell (i := 1) rfl
          have d2 := v5.cell (i := 2) rfl
          have d3 := v5.cell (i := 3) rfl
          have d4 := v5.cell (i := 4) rfl
          have kI : Kept (fun z => z = pv) Y1 (((((Y1.setCell ⟨pv, 0, none⟩ (.int .i64 (R : Int))).setCell ⟨pv, 1, none⟩ (.int .i64 (D : Int))).setCell ⟨pv, 2, none⟩ (.int .i64 ((M : Int) - 5))).setCell ⟨pv, 3, none⟩ (.int .i64 (-1))).setCell ⟨pv, 4, none⟩ (.int .i64 (-(R : Int)))) := by
            have st : ∀ (W : World) (i : Nat) (v : Value), Kept (fun z => z = pv) Y1 W → Kept (fun z => z = pv) Y1 (W.setCell ⟨pv, i, none⟩ v) := fun W i v h => h.trans (Kept.set (S := fun z => z = pv) rfl v) (fun z h => .inl h)
            exact st _ 4 _ (st _ 3 _ (st _ 2 _ (st _ 1 _ (st _ 0 _ (Kept.refl _ _)))))
          have HV5 : Hid (Arr (((((Y1.setCell ⟨pv, 0, none⟩ (.int .i64 (R : Int))).setCell ⟨pv, 1, none⟩ (.int .i64 (D : Int))).setCell ⟨pv, 2, none⟩ (.int .i64 ((M : Int) - 5))).setCell ⟨pv, 3, none⟩ (.int .i64 (-1))).setCell ⟨pv, 4, none⟩ (.int .i64 (-(R : Int)))) pv 24 [.int .i64 (R : Int), .int .i64 (D : Int), .int .i64 ((M : Int) - 5), .int .i64 (-1), .int .i64 (-(R : Int))]) := v5
          have HK5 := hid kI
          clear v0 v1 v2 v3 v4 v5 kI
          have hfit : Fit R D ((M : Int) - 5) (-1) (-(R : Int)) M := by
            have h := fit_cols (R := R) (C := D) (o := M - 5) (n := M) (by omega) (by have := HNN.out; omega)
            rw [show ((M - 5 : Nat) : Int) = (M : Int) - 5 by omega] at h
            exact h
          go_wp2_with fail
          have hFV : FitV (R : Int) (D : Int) ((M : Int) - 5) (-1) (-(R : Int)) M := ⟨by omega, by omega, by omega, .inr (.inr (by simpa using hfit))⟩
          have aQ := HK5.out.arr HAI.out (by omega)
          have aO := HK5.out.arr HOI.out (by omega)
          have rY := HRI.out.keptOut HK5.out (by omega) (fun h => by have := HSPO.out pv h; omega)
          have fY := HFI.out.keptOut HK5.out (fun ad h1 h2 => by have := HFP.out ad h1 h2; omega)
          have bY := HBI.out.trans (HK5.out.below (fun z hz => by rw [hz]; omega) (by have := HOI.out.lt; omega))
          have hin := into_any (((((Y1.setCell ⟨pv, 0, none⟩ (.int .i64 (R : Int))).setCell ⟨pv, 1, none⟩ (.int .i64 (D : Int))).setCell ⟨pv, 2, none⟩ (.int .i64 ((M : Int) - 5))).setCell ⟨pv, 3, none⟩ (.int .i64 (-1))).setCell ⟨pv, 4, none⟩ (.int .i64 (-(R : Int)))) p7 Sf (.ended k R D gg) M M po (List.replicate M (.int .u64 7)) R D ((M : Int) - 5) (-1) (-(R : Int)) rY aO (by simp) (by unfold maxLen; omega) (by omega) (fun h => by have := HSPO.out po h; omega)
          have e0 : intoE (.ended k R D gg) R D ((M : Int) - 5) (-1) (-(R : Int)) M = 0 := intoE_0 hFV ⟨rfl, rfl⟩
          have eL : intoL (.ended k R D gg) R D ((M : Int) - 5) (-1) (-(R : Int)) M (List.replicate M (.int .u64 7)) = putL R D ((M : Int) - 5) (-1) (-(R : Int)) gg (List.replicate M (.int .u64 7)) := by unfold intoL; simp only; rw [if_pos e0]
          rw [e0, eL] at hin
          unfold viewV at hin
          refine hin.mono ?_
          rintro e W9 ⟨rfl, k9, a9, _⟩
          have aQ9 := k9.arr aQ (by omega)
          have aV9 := k9.arr HV5.out (by omega)
          have fY9 := fY.keptOut k9 (fun ad h1 h2 => by have := HFP.out ad h1 h2; omega)
          have bY9 := bY.trans (k9.below (fun z hz => by rw [hz]; omega) (by have := aO.lt; omega))
          obtain ⟨off, hoff⟩ : ∃ off : Int, ((M : Int) - 5) = off := ⟨_, rfl⟩
          obtain ⟨rs, hrs⟩ : ∃ rs : Int, (-1) = rs := ⟨_, rfl⟩
          obtain ⟨cs, hcs⟩ : ∃ cs : Int, (-(R : Int)) = cs := ⟨_, rfl⟩
          rw [hoff, hrs, hcs] at hfit aV9 a9
          have hoffB : 0 ≤ off ∧ off ≤ 4000 := by omega
          have HQ9 := hid aQ9
          have HV9 := hid aV9
          have HF9 := hid fY9
          have HB9 := hid bY9
          have HA9 : Hid (Arr W9 po 65 (backL R D off rs cs gg 0 (List.replicate M (.int .u64 7)))) := a9
          have HFIT := hid hfit
          clear hin e0 eL hFV aQ aO rY fY bY k9 aQ9 aV9 fY9 bY9 a9 hfit hoff hrs hcs HK5 HV5 HAI HOI HRI HFI HBI a0 a1 c0 c1 c2 c3 c4 f0 f1 f2 f3 f4 d0 d1 d2 d3 d4
          go_wp2_with fail
          go_loopw [26] (fun vi wx => ∃ i : Nat, vi = .int .i64 (i : Int) ∧ i ≤ R ∧ Hid (Arr wx po 65 (backL R D off rs cs gg (i * D) (List.replicate M (.int .u64 7)))) ∧ Hid (Kept (fun z => z = po) W9 wx)) (fun vi _ => R - (intOf vi).toNat)
          case atStart => exact ⟨0, rfl, by omega, by show Arr _ _ _ _; rw [Nat.zero_mul]; exact HA9.out, Kept.refl _ _⟩
          case round =>
            clear HA9
            obtain ⟨i, rfl, hi, HO, HK⟩ := hrel
            have q9 := HK.out.arr HQ9.out (by omega)
            have q0 := q9.cell (i := 0) rfl
            clear q9
            by_cases hit : i < R
            · have hit' : (i : Int) < R := by omega
              go_wp2_with fail
              go_loopw [27] (fun vj wy => ∃ j : Nat, vj = .int .i64 (j : Int) ∧ j ≤ D ∧ Hid (Arr wy po 65 (backL R D off rs cs gg (i * D + j) (List.replicate M (.int .u64 7)))) ∧ Hid (Kept (fun z => z = po) W9 wy)) (fun vj _ => D - (intOf vj).toNat)
              case atStart => exact ⟨0, rfl, by omega, HO, HK⟩
              case round =>
                clear HO HK q0
                obtain ⟨j, rfl, hj, HO, HK⟩ := hrel
                have q9 := HK.out.arr HQ9.out (by omega)
                have q1 := q9.cell (i := 1) rfl
                clear q9
                by_cases hjt : j < D
                · have hjt' : (j : Int) < D := by omega
                  have v9 := HK.out.arr HV9.out (by omega)
                  have v2 := v9.cell (i := 2) rfl
                  have v3 := v9.cell (i := 3) rfl
                  have v4 := v9.cell (i := 4) rfl
                  clear v9
                  have hin1 := HFIT.out.1 i j hit hjt
                  have hin2 := HFIT.out.1 i 0 hit (by omega)
                  obtain ⟨u, hu⟩ : ∃ u : Int, (i : Int) * rs = u := ⟨_, rfl⟩
                  obtain ⟨vv, hvv⟩ : ∃ vv : Int, (j : Int) * cs = vv := ⟨_, rfl⟩
                  rw [hu, hvv] at hin1
                  rw [hu] at hin2
                  rw [show ((0 : Nat) : Int) * cs = 0 by simp, Int.add_zero] at hin2
                  have hob1 := hoffB.1
                  have hob2 := hoffB.2
                  have hub1 : -4000 ≤ u := by omega
                  have hub2 : u ≤ 4000 := by omega
                  have hvb1 : -8000 ≤ vv := by omega
                  have hvb2 : vv ≤ 8000 := by omega
                  obtain ⟨pl, hpl⟩ : ∃ pl : Nat, off + u + vv = (pl : Int) := ⟨_, (Int.toNat_of_nonneg hin1.1).symm⟩
                  have hplM : pl < M := by omega
                  have hplM' : (pl : Int) < M := by omega
                  obtain ⟨P, hP⟩ : ∃ P : Nat, (i : Int) * (D : Int) = (P : Int) := ⟨i * D, by push_cast; rfl⟩
                  have eP : i * D = P := by have : ((i * D : Nat) : Int) = P := by push_cast; exact hP
                                            omega
                  have hPN : P + j < N := by have := idx_lt (R := R) (C := D) hit hjt; have := HNN.out; omega
                  have hPN' : (P : Int) + j < N := by omega
                  obtain ⟨y, hy⟩ : ∃ y, ys[P + j]? = some y := ⟨ys[P + j]'(by rw [HLEN.out]; exact hPN), by simp⟩
                  have fK := HF9.out.keptOut HK.out (fun ad h1 h2 => by have := HFP.out ad h1 h2; omega)
                  obtain ⟨hy64, ad, hmo, _, hcy⟩ := fK (P + j) y hy
                  subst hmo
                  clear fK
                  have hgy : gg i j = cleanN y := by
                    rw [HGG.out i j hit hjt, clean_canon]
                    unfold seenF
                    have e1 : (0 : Int) + i * D + j * 1 = ((P + j : Nat) : Int) := by rw [hP]; push_cast; omega
                    rw [e1, Int.toNat_natCast, List.getD_eq_getElem?_getD, hy]
                    rfl
                  have hrw := rowsL_at (R := R) (C := D) gg hit hjt
                  have hba := backL_at (f := gg) (.inr (.inr HFIT.out)) (l := List.replicate M (.int .u64 7)) (by rw [List.length_replicate]; exact Nat.le_refl _) hrw
                  have hplc : plcP off rs cs (i, j, gg i j) = pl := by unfold plcP; simp only; rw [hu, hvv, hpl, Int.toNat_natCast]
                  rw [hplc] at hba
                  have co := HO.out.cell hba.1
                  simp only at co
                  rw [hgy] at co
                  have fo := HO.out.frozen pl
                  have HN : Hid (∀ nq : Nat, Arr ((wr.drewN nq).setCell ⟨po, pl, none⟩ (.int .u64 7)) po 65 (backL R D off rs cs gg (i * D + (j + 1)) (List.replicate M (.int .u64 7))) ∧ Kept (fun z => z = po) W9 ((wr.drewN nq).setCell ⟨po, pl, none⟩ (.int .u64 7))) := fun nq => by
                    refine ⟨?_, (HK.out.trans (Kept.drewN (S := fun z => z = po) nq) (fun z h => .inl h)).trans (Kept.set (S := fun z => z = po) rfl _) (fun z h => .inl h)⟩
                    have h : Arr (wr.drewN nq) po 65 _ := HO.out
                    have h2 := h.set pl (.int .u64 7)
                    rw [hba.2] at h2
                    exact h2
                  have HQL := hid (fun W : World => HCL.out W y hy64)
                  clear hba hrw hplc hgy hy eP HO HK hin1 hin2
                  go_wp2_with fail
                  go_quiet (first | (go_at_call 21; exact Calls.quiet_of_same (HQL.out _)))
                  go_wp2
                  go_round
                  case rel => exact ⟨j + 1, by simp, by omega, (HN.out _).1, (HN.out _).2⟩
                  case measure => simp [intOf]; omega
                · have hjt' : ¬ (j : Int) < D := by omega
                  have ej : j = D := by omega
                  rw [ej] at HO
                  clear ej
                  go_wp2
                  go_round
                  case rel => exact ⟨i + 1, by simp, by omega, by show Arr _ _ _ _; rw [Nat.succ_mul]; exact HO.out, HK⟩
                  case measure => simp [intOf]; omega
            · have hit' : ¬ (i : Int) < R := by omega
              have ei : i = R := by omega
              rw [ei] at HO
              have HBF : Hid (Below B w4 wr) := HB9.out.trans (HK.out.below (fun z hz => by rw [hz]; omega) (by have := HQ9.out.lt; omega))
              clear ei HK
              go_wp2_with fail
              go_loopw [29] (fun vi wx => ∃ i : Nat, vi = .int .i64 (i : Int) ∧ i ≤ M ∧ wx = wr) (fun vi _ => M - (intOf vi).toNat)
              case atStart => exact ⟨0, rfl, by omega, rfl⟩
              case round =>
                obtain ⟨ii, rfl, hii, rfl⟩ := hrel
                by_cases hmt : ii < M
                · have hmt' : (ii : Int) < M := by omega
                  have co := HO.out.cell (backL_all (f := gg) (.inr (.inr HFIT.out)) hmt)
                  go_wp2
                  go_round
                  case rel => exact ⟨ii + 1, by simp, by omega, by first | rfl | trivial⟩
                  case measure => simp [intOf]; omega
                · have hmt' : ¬ (ii : Int) < M := by omega
                  go_wp2
                  go_ret
                  exact ⟨rfl, HBF.out⟩
        · have HV5 := HIV
          have HK5 : Hid (Kept (fun z => z = pv) Y1 Y1) := Kept.refl _ _
          have hfit : Fit R D 3 (2 * (D : Int)) 2 M := by
            have h := fit_rows (R := R) (C := D) (d := 2) (o := 3) (n := M) (by omega) (by have := HNN.out; omega)
            rw [show ((2 * D : Nat) : Int) = 2 * (D : Int) by push_cast; rfl] at h
            exact h
          have d0 := HIV.out.cell (i := 0) rfl
          have d1 := HIV.out.cell (i := 1) rfl
          have d2 := HIV.out.cell (i := 2) rfl
          have d3 := HIV.out.cell (i := 3) rfl
          have d4 := HIV.out.cell (i := 4) rfl
          go_wp2_with fail
          have hFV : FitV (R : Int) (D : Int) 3 (2 * (D : Int)) 2 M := ⟨by omega, by omega, by omega, .inr (.inr (by simpa using hfit))⟩
          have aQ := HK5.out.arr HAI.out (by omega)
          have aO := HK5.out.arr HOI.out (by omega)
          have rY := HRI.out.keptOut HK5.out (by omega) (fun h => by have := HSPO.out pv h; omega)
          have fY := HFI.out.keptOut HK5.out (fun ad h1 h2 => by have := HFP.out ad h1 h2; omega)
          have bY := HBI.out.trans (HK5.out.below (fun z hz => by rw [hz]; omega) (by have := HOI.out.lt; omega))
          have hin := into_any Y1 p7 Sf (.ended k R D gg) M M po (List.replicate M (.int .u64 7)) R D 3 (2 * (D : Int)) 2 rY aO (by simp) (by unfold maxLen; omega) (by omega) (fun h => by have := HSPO.out po h; omega)
          have e0 : intoE (.ended k R D gg) R D 3 (2 * (D : Int)) 2 M = 0 := intoE_0 hFV ⟨rfl, rfl⟩
          have eL : intoL (.ended k R D gg) R D 3 (2 * (D : Int)) 2 M (List.replicate M (.int .u64 7)) = putL R D 3 (2 * (D : Int)) 2 gg (List.replicate M (.int .u64 7)) := by unfold intoL; simp only; rw [if_pos e0]
          rw [e0, eL] at hin
          unfold viewV at hin
          refine hin.mono ?_
          rintro e W9 ⟨rfl, k9, a9, _⟩
          have aQ9 := k9.arr aQ (by omega)
          have aV9 := k9.arr HV5.out (by omega)
          have fY9 := fY.keptOut k9 (fun ad h1 h2 => by have := HFP.out ad h1 h2; omega)
          have bY9 := bY.trans (k9.below (fun z hz => by rw [hz]; omega) (by have := aO.lt; omega))
          obtain ⟨off, hoff⟩ : ∃ off : Int, 3 = off := ⟨_, rfl⟩
          obtain ⟨rs, hrs⟩ : ∃ rs : Int, (2 * (D : Int)) = rs := ⟨_, rfl⟩
          obtain ⟨cs, hcs⟩ : ∃ cs : Int, 2 = cs := ⟨_, rfl⟩
          rw [hoff, hrs, hcs] at hfit aV9 a9
          have hoffB : 0 ≤ off ∧ off ≤ 4000 := by omega
          have HQ9 := hid aQ9
          have HV9 := hid aV9
          have HF9 := hid fY9
          have HB9 := hid bY9
          have HA9 : Hid (Arr W9 po 65 (backL R D off rs cs gg 0 (List.replicate M (.int .u64 7)))) := a9
          have HFIT := hid hfit
          clear hin e0 eL hFV aQ aO rY fY bY k9 aQ9 aV9 fY9 bY9 a9 hfit hoff hrs hcs HK5 HV5 HAI HOI HRI HFI HBI d0 d1 d2 d3 d4 HIV
          go_wp2_with fail
          go_loopw [26] (fun vi wx => ∃ i : Nat, vi = .int .i64 (i : Int) ∧ i ≤ R ∧ Hid (Arr wx po 65 (backL R D off rs cs gg (i * D) (List.replicate M (.int .u64 7)))) ∧ Hid (Kept (fun z => z = po) W9 wx)) (fun vi _ => R - (intOf vi).toNat)
          case atStart => exact ⟨0, rfl, by omega, by show Arr _ _ _ _; rw [Nat.zero_mul]; exact HA9.out, Kept.refl _ _⟩
          case round =>
            clear HA9
            obtain ⟨i, rfl, hi, HO, HK⟩ := hrel
            have q9 := HK.out.arr HQ9.out (by omega)
            have q0 := q9.cell (i := 0) rfl
            clear q9
            by_cases hit : i < R
            · have hit' : (i : Int) < R := by omega
              go_wp2_with fail
              go_loopw [27] (fun vj wy => ∃ j : Nat, vj = .int .i64 (j : Int) ∧ j ≤ D ∧ Hid (Arr wy po 65 (backL R D off rs cs gg (i * D + j) (List.replicate M (.int .u64 7)))) ∧ Hid (Kept (fun z => z = po) W9 wy)) (fun vj _ => D - (intOf vj).toNat)
              case atStart => exact ⟨0, rfl, by omega, HO, HK⟩
              case round =>
                clear HO HK q0
                obtain ⟨j, rfl, hj, HO, HK⟩ := hrel
                have q9 := HK.out.arr HQ9.out (by omega)
                have q1 := q9.cell (i := 1) rfl
                clear q9
                by_cases hjt : j < D
                · have hjt' : (j : Int) < D := by omega
                  have v9 := HK.out.arr HV9.out (by omega)
                  have v2 := v9.cell (i := 2) rfl
                  have v3 := v9.cell (i := 3) rfl
                  have v4 := v9.cell (i := 4) rfl
                  clear v9
                  have hin1 := HFIT.out.1 i j hit hjt
                  have hin2 := HFIT.out.1 i 0 hit (by omega)
                  obtain ⟨u, hu⟩ : ∃ u : Int, (i : Int) * rs = u := ⟨_, rfl⟩
                  obtain ⟨vv, hvv⟩ : ∃ vv : Int, (j : Int) * cs = vv := ⟨_, rfl⟩
                  rw [hu, hvv] at hin1
                  rw [hu] at hin2
                  rw [show ((0 : Nat) : Int) * cs = 0 by simp, Int.add_zero] at hin2
                  have hob1 := hoffB.1
                  have hob2 := hoffB.2
                  have hub1 : -4000 ≤ u := by omega
                  have hub2 : u ≤ 4000 := by omega
                  have hvb1 : -8000 ≤ vv := by omega
                  have hvb2 : vv ≤ 8000 := by omega
                  obtain ⟨pl, hpl⟩ : ∃ pl : Nat, off + u + vv = (pl : Int) := ⟨_, (Int.toNat_of_nonneg hin1.1).symm⟩
                  have hplM : pl < M := by omega
                  have hplM' : (pl : Int) < M := by omega
                  obtain ⟨P, hP⟩ : ∃ P : Nat, (i : Int) * (D : Int) = (P : Int) := ⟨i * D, by push_cast; rfl⟩
                  have eP : i * D = P := by have : ((i * D : Nat) : Int) = P := by push_cast; exact hP
                                            omega
                  have hPN : P + j < N := by have := idx_lt (R := R) (C := D) hit hjt; have := HNN.out; omega
                  have hPN' : (P : Int) + j < N := by omega
                  obtain ⟨y, hy⟩ : ∃ y, ys[P + j]? = some y := ⟨ys[P + j]'(by rw [HLEN.out]; exact hPN), by simp⟩
                  have fK := HF9.out.keptOut HK.out (fun ad h1 h2 => by have := HFP.out ad h1 h2; omega)
                  obtain ⟨hy64, ad, hmo, _, hcy⟩ := fK (P + j) y hy
                  subst hmo
                  clear fK
                  have hgy : gg i j = cleanN y := by
                    rw [HGG.out i j hit hjt, clean_canon]
                    unfold seenF
                    have e1 : (0 : Int) + i * D + j * 1 = ((P + j : Nat) : Int) := by rw [hP]; push_cast; omega
                    rw [e1, Int.toNat_natCast, List.getD_eq_getElem?_getD, hy]
                    rfl
                  have hrw := rowsL_at (R := R) (C := D) gg hit hjt
                  have hba := backL_at (f := gg) (.inr (.inr HFIT.out)) (l := List.replicate M (.int .u64 7)) (by rw [List.length_replicate]; exact Nat.le_refl _) hrw
                  have hplc : plcP off rs cs (i, j, gg i j) = pl := by unfold plcP; simp only; rw [hu, hvv, hpl, Int.toNat_natCast]
                  rw [hplc] at hba
                  have co := HO.out.cell hba.1
                  simp only at co
                  rw [hgy] at co
                  have fo := HO.out.frozen pl
                  have HN : Hid (∀ nq : Nat, Arr ((wr.drewN nq).setCell ⟨po, pl, none⟩ (.int .u64 7)) po 65 (backL R D off rs cs gg (i * D + (j + 1)) (List.replicate M (.int .u64 7))) ∧ Kept (fun z => z = po) W9 ((wr.drewN nq).setCell ⟨po, pl, none⟩ (.int .u64 7))) := fun nq => by
                    refine ⟨?_, (HK.out.trans (Kept.drewN (S := fun z => z = po) nq) (fun z h => .inl h)).trans (Kept.set (S := fun z => z = po) rfl _) (fun z h => .inl h)⟩
                    have h : Arr (wr.drewN nq) po 65 _ := HO.out
                    have h2 := h.set pl (.int .u64 7)
                    rw [hba.2] at h2
                    exact h2
                  have HQL := hid (fun W : World => HCL.out W y hy64)
                  clear hba hrw hplc hgy hy eP HO HK hin1 hin2
                  go_wp2_with fail
                  go_quiet (first | (go_at_call 21; exact Calls.quiet_of_same (HQL.out _)))
                  go_wp2
                  go_round
                  case rel => exact ⟨j + 1, by simp, by omega, (HN.out _).1, (HN.out _).2⟩
                  case measure => simp [intOf]; omega
                · have hjt' : ¬ (j : Int) < D := by omega
                  have ej : j = D := by omega
                  rw [ej] at HO
                  clear ej
                  go_wp2
                  go_round
                  case rel => exact ⟨i + 1, by simp, by omega, by show Arr _ _ _ _; rw [Nat.succ_mul]; exact HO.out, HK⟩
                  case measure => simp [intOf]; omega
            · have hit' : ¬ (i : Int) < R := by omega
              have ei : i = R := by omega
              rw [ei] at HO
              have HBF : Hid (Below B w4 wr) := HB9.out.trans (HK.out.below (fun z hz => by rw [hz]; omega) (by have := HQ9.out.lt; omega))
              clear ei HK
              go_wp2_with fail
              go_loopw [29] (fun vi wx => ∃ i : Nat, vi = .int .i64 (i : Int) ∧ i ≤ M ∧ wx = wr) (fun vi _ => M - (intOf vi).toNat)
              case atStart => exact ⟨0, rfl, by omega, rfl⟩
              case round =>
                obtain ⟨ii, rfl, hii, rfl⟩ := hrel
                by_cases hmt : ii < M
                · have hmt' : (ii : Int) < M := by omega
                  have co := HO.out.cell (backL_all (f := gg) (.inr (.inr HFIT.out)) hmt)
                  go_wp2
                  go_round
                  case rel => exact ⟨ii + 1, by simp, by omega, by first | rfl | trivial⟩
                  case measure => simp [intOf]; omega
                · have hmt' : ¬ (ii : Int) < M := by omega
                  go_wp2
                  go_ret
                  exact ⟨rfl, HBF.out⟩

end Go.Proofs.YthdcceackfdbbaaGreatDoor
