/- Walk of Whole. Own text. -/
import Derived.Test.YthdcceackfdbbaaDoorMw
namespace Go.Proofs.YthdcceackfdbbaaDoor
open Go.RowKit

def strLen : Value → Nat
  | .string s => s.size
  | _ => 0

def minusB : ByteArray := ⟨#[45]⟩
theorem minusB_eq : (⟨#[45]⟩ : ByteArray) = minusB := rfl
theorem minusB_list : minusB.data.toList = [45] := rfl
theorem minusB_size : minusB.size = 1 := rfl

set_option maxHeartbeats 400000 in
theorem pick_fix (w : World) (c n : Int) (h1 : -9223372036854775808 ≤ c) (h2 : c ≤ 9223372036854775807) (hn : 0 < n) (hn2 : n ≤ 9223372036854775807) :
    ∃ k : Nat, (k : Int) < n ∧ Calls Tryd.prog 17 #[.int .i64 c, .int .i64 n] w fun e w' => e = .returned (.int .i64 (k : Int)) ∧ w' = w := by
  by_cases hc : c < 0
  · have e1 : (c + 1).tmod n = -(-(c + 1) % n) := by
      rw [← Int.tmod_eq_emod_of_nonneg (by omega : 0 ≤ -(c + 1)), Int.neg_tmod, Int.neg_neg]
    have e2 := Int.emod_nonneg (-(c + 1)) (by omega : n ≠ 0)
    have e3 := Int.emod_lt_of_pos (-(c + 1)) hn
    refine ⟨(-(c + 1) % n).toNat, by omega, ?_⟩
    go_enter Tryd.func17, Tryd.ntmps17
    go_wp2
    go_ret
    exact ⟨ret_int (by first | omega | (rw [e1]; omega)), rfl⟩
  · have e2 := Int.emod_nonneg c (by omega : n ≠ 0)
    have e3 := Int.emod_lt_of_pos c hn
    refine ⟨(c % n).toNat, by omega, ?_⟩
    go_enter Tryd.func17, Tryd.ntmps17
    go_wp2
    go_ret
    exact ⟨ret_int (by omega), rfl⟩

theorem print_zero {l : List UInt8} (h : PrintOk 0 l) : l = [48] := by
  rcases h with ⟨h, _⟩ | ⟨h, _⟩ | ⟨_, rfl⟩ | ⟨h, _⟩
  · simp at h
  · simp at h
  · rfl
  · simp at h

set_option maxRecDepth 20000 in
set_option maxHeartbeats 1600000 in
theorem whole_zero (w : World) (k : Nat) (hk0 : k = 0) (n : Int) (htab : Lib.TabIs Tryd.prog w "internal/strconv.uint64pow10" .u64 Lib.pow10Tab)
    (hpick : Calls Tryd.prog 17 #[.int .i64 n, .int .i64 9007199254740993] w fun e w' => e = .returned (.int .i64 (k : Int)) ∧ w' = w) :
    Calls Tryd.prog 7 #[.int .i64 n] w fun e w' => e = .returned (.bool true) ∧ Below w.heap.size w w' := by
  subst hk0
  have HT : Hid (Lib.TabIs Tryd.prog w "internal/strconv.uint64pow10" .u64 Lib.pow10Tab) := htab
  have HP := Hid.mk' hpick
  clear htab hpick
  go_enter Tryd.func7, Tryd.ntmps7
  go_wp2_with fail
  refine HP.out.mono ?_
  rintro e w1 ⟨rfl, rfl⟩
  go_wp2_with fail
  refine (itoa_any _ _ 0 (by rfl) (by omega) HT.out).mono ?_
  rintro e w2 ⟨t, rfl, ht, b2⟩
  have hd0 : Lib.decDigits 0 = [48] := by kernel_rfl
  rw [hd0] at ht
  have hts : t.size = 1 := bytes_size ht
  have HTL := Hid.mk' ht
  clear ht
  go_wp2_with fail
  refine (scan_any _ t (by unfold maxLen; omega)).mono ?_
  rintro e w3 ⟨rfl, b3⟩
  rw [HTL.out, scan_z0]
  go_wp2_with fail
  refine (scan_any _ (minusB ++ t) (by unfold maxLen; rw [ByteArray.size_append, minusB_size]; omega)).mono ?_
  rintro e w4 ⟨rfl, b4⟩
  rw [bytes_append_list, minusB_list, HTL.out, List.singleton_append, scan_z1]
  have hb4 := (b2.trans (b3.mono b2.size)).trans (b4.mono (Nat.le_trans b2.size b3.size))
  have ht4 := tab_below HT.out hb4
  have HT4 := Hid.mk' ht4
  clear b2 b3 b4 ht4 HT
  go_wp2_with fail
  refine (print_any _ 0 (by omega) HT4.out).mono ?_
  rintro e w5 ⟨s, rfl, hp, hsz, b5⟩
  have hs := print_zero hp
  have hse : (s.toList == [48]) = true := list_eq_beq hs
  go_wp2
  go_ret
  exact ⟨by simp, hb4.trans (b5.mono hb4.size)⟩

theorem dbl {k i M : Nat} (h : k * 2 ^ i = M) : (2 : Int) * (M : Int) = ((k * 2 ^ (i + 1) : Nat) : Int) := by
  rw [Nat.pow_succ, ← Nat.mul_assoc, h]; omega

set_option maxRecDepth 20000 in
set_option maxHeartbeats 3200000 in
theorem whole_pos (w : World) (k : Nat) (hk1 : 1 ≤ k) (hk2 : k ≤ 9007199254740992) (n : Int) (htab : Lib.TabIs Tryd.prog w "internal/strconv.uint64pow10" .u64 Lib.pow10Tab)
    (hpick : Calls Tryd.prog 17 #[.int .i64 n, .int .i64 9007199254740993] w fun e w' => e = .returned (.int .i64 (k : Int)) ∧ w' = w) :
    Calls Tryd.prog 7 #[.int .i64 n] w fun e w' => e = .returned (.bool true) ∧ Below w.heap.size w w' := by
  have HT : Hid (Lib.TabIs Tryd.prog w "internal/strconv.uint64pow10" .u64 Lib.pow10Tab) := htab
  have HP := Hid.mk' hpick
  clear htab hpick
  obtain ⟨j, hj, j1, j2, j3⟩ := whole_j hk1 hk2
  obtain ⟨s, hs, hw⟩ : ∃ s, s = (if k = 9007199254740992 then 4845873199050653696 else (1075 - j) * 4503599627370496 + (k * 2 ^ j - 4503599627370496)) ∧ WholeS s k := by
    rcases j3 with ⟨q1, q2⟩ | q1
    · refine ⟨_, rfl, ?_⟩
      rw [if_pos q1, q1]
      exact whole_top
    · by_cases hk : k = 9007199254740992
      · refine ⟨_, rfl, ?_⟩
        rw [if_pos hk, hk]
        exact whole_top
      · refine ⟨_, rfl, ?_⟩
        rw [if_neg hk]
        exact whole_size rfl j1 q1 hj
  have hsc := whole_scan hw hk1
  have hslt := hw.lt
  have hsne := hw.ne
  have HS := Hid.mk' hs
  have HW := Hid.mk' hw
  have HSC := Hid.mk' hsc
  have HJ1 := Hid.mk' j1
  have HJ2 := Hid.mk' j2
  have HJ3 := Hid.mk' j3
  have hlen : (Lib.decDigits k).length ≤ 16 := dd_len (by omega) (by omega)
  have HLEN := Hid.mk' hlen
  clear hs hw hsc j1 j2 j3 hlen
  go_enter Tryd.func7, Tryd.ntmps7
  go_wp2_with fail
  refine HP.out.mono ?_
  rintro e w1 ⟨rfl, rfl⟩
  go_wp2_with fail
  refine (itoa_any _ _ k rfl (by omega) HT.out).mono ?_
  rintro e w2 ⟨t, rfl, ht, b2⟩
  have hts2 : t.size ≤ 16 := by rw [bytes_size ht]; exact HLEN.out
  have HTL := Hid.mk' ht
  clear ht
  go_wp2_with fail
  refine (scan_any _ t (by unfold maxLen; omega)).mono ?_
  rintro e w3 ⟨rfl, b3⟩
  rw [HTL.out, scan_whole (by have := HLEN.out; omega), HSC.out]
  go_wp2_with fail
  refine (scan_any _ (minusB ++ t) (by unfold maxLen; rw [ByteArray.size_append, minusB_size]; omega)).mono ?_
  rintro e w4 ⟨rfl, b4⟩
  rw [bytes_append_list, minusB_list, HTL.out, List.singleton_append, scan_neg (by have := HLEN.out; omega), HSC.out]
  have hb4 := (b2.trans (b3.mono b2.size)).trans (b4.mono (Nat.le_trans b2.size b3.size))
  have ht4 := tab_below HT.out hb4
  have HT4 := Hid.mk' ht4
  have HB4 := Hid.mk' hb4
  clear b2 b3 b4 ht4 HT hb4
  go_wp2_with fail
  go_loop [10, 11] (fun m p => ∃ i : Nat, i ≤ j ∧ m = .int .i64 ((k * 2 ^ i : Nat) : Int) ∧ p = .int .i64 (1075 - (i : Int))) (fun _ p => (intOf p - (1075 - (j : Int))).toNat)
  case atStart => exact ⟨0, Nat.zero_le _, by simp, by simp⟩
  case round =>
    obtain ⟨i, hi, rfl, rfl⟩ := hrel
    obtain ⟨M, hM⟩ : ∃ M, k * 2 ^ i = M := ⟨_, rfl⟩
    rw [hM]
    have HM := Hid.mk' hM
    by_cases hij : i < j
    · have hlt := HJ2.out i hij
      rw [hM] at hlt
      have hltb : decide ((M : Int) < 4503599627370496) = true := by simp; omega
      clear hM
      go_wp2
      go_round
      case rel => exact ⟨i + 1, by omega, by rw [← dbl HM.out], by go_num⟩
      case measure => simp [intOf]; omega
    · have hije : i = j := by omega
      subst hije
      have hge := HJ1.out
      rw [hM] at hge
      have hgeb : decide ((M : Int) < 4503599627370496) = false := by simp; omega
      clear hM
      by_cases hk : k = 9007199254740992
      · have hMe : M = 9007199254740992 := by
          rcases HJ3.out with ⟨_, q2⟩ | q1
          · have := HM.out; rw [q2] at this; omega
          · rw [HM.out] at q1
            have : k ≤ k * 2 ^ i := Nat.le_mul_of_pos_right k (Nat.pow_pos (by omega))
            rw [HM.out] at this; omega
        have hi0 : i = 0 := by
          rcases HJ3.out with ⟨_, q2⟩ | q1
          · exact q2
          · rw [HM.out] at q1; omega
        have hse : s = 4845873199050653696 := by rw [HS.out, if_pos hk]
        have hbe : ((M : Int) == 9007199254740992) = true := by simp; omega
        subst hi0
        have HMe := Hid.mk' hMe
        have HSE := Hid.mk' hse
        clear hMe hse
        have hc1 : ((s : Int) != 4845873199050653696) = false := by rw [HSE.out]; rfl
        have hc2 : ((s : Int) + 9223372036854775808 != 14069245235905429504) = false := by rw [HSE.out]; rfl
        go_wp2_with fail
        refine (print_any _ s (by omega) HT4.out).mono ?_
        rintro e w5 ⟨ps, rfl, hp, hsz, b5⟩
        obtain ⟨d, p, hsa, hl⟩ := print_pos hsne hslt hp
        obtain ⟨c, f, y, e1, e2, e3, e4, e5⟩ := whole_parts HW.out hk1 hk2 hsa
        have hk0b : ((k : Int) == 0) = false := by simp; omega
        have htz := bytes_size HTL.out
        have hfl : f.length + 1 + y = t.size := by rw [htz, e4]; simp; omega
        rw [← htz] at e1 e5
        have HPS := Hid.mk' (hl.trans e1)
        have HE4 := Hid.mk' e4
        have HB5 := Hid.mk' (HB4.out.trans (b5.mono HB4.out.size))
        have HF1 := Hid.mk' e2
        have HF2 := Hid.mk' e3
        clear hp hsz b5 hsa hl e1 e2 e3 e4 htz
        have HFL := Hid.mk' hfl
        go_wp2_with fail
        refine (taken_any _ ps c f ((t.size : Int) - 1) HPS.out HF1.out HF2.out (by omega) (by omega) (by omega)).mono ?_
        rintro e w6 ⟨dt, rfl, hdt, nq, rfl⟩
        have hds := bytes_size hdt
        rw [List.length_cons] at hds
        have HDT := Hid.mk' hdt
        have hcmp : dt.size ≤ t.size := by omega
        clear hdt hds hfl hk0b hgeb hbe hge hk hslt hk2 hi hsne hk1 HJ1 HJ2 HJ3 e5 hc1 hc2 HMe HSE
        go_wp2_with fail
        go_loop [13] (fun v => ∃ (i : Nat) (t' : ByteArray), i ≤ y ∧ v = .string t' ∧ t'.data.toList = (c :: f) ++ List.replicate i 48) (fun v => t.size - strLen v)
        case atStart => exact ⟨0, dt, Nat.zero_le _, rfl, by rw [HDT.out]; simp⟩
        case round =>
          obtain ⟨i', t', hi', rfl, ht'⟩ := hrel
          have hts' : t'.size = f.length + 1 + i' := by rw [bytes_size ht']; simp; omega
          have HT' := Hid.mk' ht'
          have HTS' := Hid.mk' hts'
          clear ht'
          by_cases hy : i' < y
          · have hcl : t'.size < t.size := by have := HFL.out; omega
            have ht17 : t'.size ≤ 20 := by have := HFL.out; omega
            clear hts'
            go_wp2
            go_round
            case rel => exact ⟨i' + 1, _, by omega, rfl, by rw [bytes_append_list, HT'.out, List.replicate_succ', List.append_assoc]⟩
            case measure =>
              simp only [strLen]
              have h8 : (t' ++ (⟨#[48]⟩ : ByteArray)).size = t'.size + 1 := by rw [ByteArray.size_append]; rfl
              have := HFL.out
              have := HTS'.out
              omega
          · have hy' : i' = y := by omega
            have hEq : (t'.toList == t.toList) = true := by
              rw [bytes_toList, bytes_toList, HT'.out, HTL.out, HE4.out, hy']; simp
            have hcl : ¬ t'.size < t.size := by have := HFL.out; omega
            clear hts'
            go_wp2
            go_ret
            exact ⟨by simp, below_drewN HB5.out nq⟩
      · have hMl : M < 9007199254740992 := by
          rcases HJ3.out with ⟨q1, _⟩ | q1
          · exact absurd q1 hk
          · rw [HM.out] at q1; exact q1
        have hsI : (1075 - (i : Int)) * 4503599627370496 + ((M : Int) - 4503599627370496) = (s : Int) := by
          have := HS.out
          rw [if_neg hk, HM.out] at this
          omega
        have hbe : ((M : Int) == 9007199254740992) = false := by simp; omega
        go_wp2_with fail
        refine (print_any _ s (by omega) HT4.out).mono ?_
        rintro e w5 ⟨ps, rfl, hp, hsz, b5⟩
        obtain ⟨d, p, hsa, hl⟩ := print_pos hsne hslt hp
        obtain ⟨c, f, y, e1, e2, e3, e4, e5⟩ := whole_parts HW.out hk1 hk2 hsa
        have hk0b : ((k : Int) == 0) = false := by simp; omega
        have htz := bytes_size HTL.out
        have hfl : f.length + 1 + y = t.size := by rw [htz, e4]; simp; omega
        rw [← htz] at e1 e5
        have HPS := Hid.mk' (hl.trans e1)
        have HE4 := Hid.mk' e4
        have HB5 := Hid.mk' (HB4.out.trans (b5.mono HB4.out.size))
        have HF1 := Hid.mk' e2
        have HF2 := Hid.mk' e3
        clear hp hsz b5 hsa hl e1 e2 e3 e4 htz
        have HFL := Hid.mk' hfl
        go_wp2_with fail
        refine (taken_any _ ps c f ((t.size : Int) - 1) HPS.out HF1.out HF2.out (by omega) (by omega) (by omega)).mono ?_
        rintro e w6 ⟨dt, rfl, hdt, nq, rfl⟩
        have hds := bytes_size hdt
        rw [List.length_cons] at hds
        have HDT := Hid.mk' hdt
        have hcmp : dt.size ≤ t.size := by omega
        clear hdt hds hfl hk0b hgeb hbe hge hk hslt hk2 hi hsne hk1 HJ1 HJ2 HJ3 e5 hMl hsI hij hj HM
        go_wp2_with fail
        go_loop [13] (fun v => ∃ (i : Nat) (t' : ByteArray), i ≤ y ∧ v = .string t' ∧ t'.data.toList = (c :: f) ++ List.replicate i 48) (fun v => t.size - strLen v)
        case atStart => exact ⟨0, dt, Nat.zero_le _, rfl, by rw [HDT.out]; simp⟩
        case round =>
          obtain ⟨i', t', hi', rfl, ht'⟩ := hrel
          have hts' : t'.size = f.length + 1 + i' := by rw [bytes_size ht']; simp; omega
          have HT' := Hid.mk' ht'
          have HTS' := Hid.mk' hts'
          clear ht'
          by_cases hy : i' < y
          · have hcl : t'.size < t.size := by have := HFL.out; omega
            have ht17 : t'.size ≤ 20 := by have := HFL.out; omega
            clear hts'
            go_wp2
            go_round
            case rel => exact ⟨i' + 1, _, by omega, rfl, by rw [bytes_append_list, HT'.out, List.replicate_succ', List.append_assoc]⟩
            case measure =>
              simp only [strLen]
              have h8 : (t' ++ (⟨#[48]⟩ : ByteArray)).size = t'.size + 1 := by rw [ByteArray.size_append]; rfl
              have := HFL.out
              have := HTS'.out
              omega
          · have hy' : i' = y := by omega
            have hEq : (t'.toList == t.toList) = true := by
              rw [bytes_toList, bytes_toList, HT'.out, HTL.out, HE4.out, hy']; simp
            have hcl : ¬ t'.size < t.size := by have := HFL.out; omega
            clear hts'
            go_wp2
            go_ret
            exact ⟨by simp, below_drewN HB5.out nq⟩

set_option maxRecDepth 20000 in
theorem whole_law (w : World) (n : Int) (h1 : -9223372036854775808 ≤ n) (h2 : n ≤ 9223372036854775807) (htab : Lib.TabIs Tryd.prog w "internal/strconv.uint64pow10" .u64 Lib.pow10Tab) :
    Calls Tryd.prog 7 #[.int .i64 n] w fun e w' => e = .returned (.bool true) ∧ Below w.heap.size w w' := by
  obtain ⟨k, hk, hp⟩ := pick_fix w n 9007199254740993 h1 h2 (by omega) (by omega)
  by_cases h0 : k = 0
  · exact whole_zero w k h0 n htab hp
  · exact whole_pos w k (by omega) (by omega) n htab hp

end Go.Proofs.YthdcceackfdbbaaDoor
