/- Walk of Ties. Own text. -/
import Derived.Test.YthdcceackfdbbaaDoorWn
import Derived.Test.YthdcceackfdbbaaDoorTv
import Derived.Lib.LaidTab
namespace Go.Proofs.YthdcceackfdbbaaDoor
open Go.RowKit

theorem below_grow (w : World) (k : Nat) (os : Array Obj) : Below w.heap.size w (Sort.grow (w.drewN k) os) :=
  ⟨rfl, rfl, rfl, by simp [Sort.grow], fun i hi => by simp [Sort.grow, Array.getElem?_append_left hi]⟩

theorem gPow : Tryd.prog.globalNamed "internal/strconv.uint64pow10" = some 0 := by kernel_rfl

theorem tab_below {w w' : World} (h : Lib.TabIs Tryd.prog w "internal/strconv.uint64pow10" .u64 Lib.pow10Tab) (hb : Below w.heap.size w w') : Lib.TabIs Tryd.prog w' "internal/strconv.uint64pow10" .u64 Lib.pow10Tab := by
  have hc := h.cell gPow 0 (by rw [Lib.pow10Tab_length]; omega)
  exact var?_below hb gPow (World.block_lt_of_cell? w _ hc) h

theorem itoa_any (w : World) (n : Int) (u : Nat) (hn : n = (u : Int)) (hu : u < 9223372036854775808) (htab : Lib.TabIs Tryd.prog w "internal/strconv.uint64pow10" .u64 Lib.pow10Tab) :
    Calls Tryd.prog 18 #[.int .i64 n] w fun e w' => ∃ s : ByteArray, e = .returned (.string s) ∧ s.data.toList = Lib.decDigits u ∧ Below w.heap.size w w' := by
  subst hn
  refine (Tryd.strconv_Itoa (u : Int) (by omega) (by omega) w htab).mono ?_
  rintro e w' ⟨rfl, k, os, rfl⟩
  refine ⟨_, rfl, ?_, below_grow w k os⟩
  simp only [Lib.itoa]
  rw [if_neg (by omega)]
  simp

set_option maxHeartbeats 400000 in
theorem pick_any (w : World) (c n : Int) (h1 : -9223372036854775808 ≤ c) (h2 : c ≤ 9223372036854775807) (hn : 0 < n) (hn2 : n ≤ 9223372036854775807) :
    Calls Tryd.prog 17 #[.int .i64 c, .int .i64 n] w fun e w' => (∃ k : Nat, e = .returned (.int .i64 (k : Int)) ∧ (k : Int) < n) ∧ w' = w := by
  by_cases hc : c < 0
  · go_enter Tryd.func17, Tryd.ntmps17
    go_wp2
    go_ret
    have e1 : (c + 1).tmod n = -(-(c + 1) % n) := by
      rw [← Int.tmod_eq_emod_of_nonneg (by omega : 0 ≤ -(c + 1)), Int.neg_tmod, Int.neg_neg]
    have e2 := Int.emod_nonneg (-(c + 1)) (by omega : n ≠ 0)
    have e3 := Int.emod_lt_of_pos (-(c + 1)) hn
    exact ⟨⟨(-(c + 1) % n).toNat, ret_int (by rw [e1]; omega), by omega⟩, rfl⟩
  · go_enter Tryd.func17, Tryd.ntmps17
    go_wp2
    go_ret
    refine ⟨⟨(c % n).toNat, ret_int ?_, ?_⟩, rfl⟩
    · have := Int.emod_nonneg c (by omega : n ≠ 0); omega
    · have := Int.emod_nonneg c (by omega : n ≠ 0); have := Int.emod_lt_of_pos c hn; omega

set_option maxRecDepth 100000 in
set_option maxHeartbeats 1600000 in
theorem ties_any (w : World) (n : Int) (h1 : -9223372036854775808 ≤ n) (h2 : n ≤ 9223372036854775807) (htab : Lib.TabIs Tryd.prog w "internal/strconv.uint64pow10" .u64 Lib.pow10Tab) :
    Calls Tryd.prog 8 #[.int .i64 n] w fun e w' => e = .returned (.bool true) ∧ Below w.heap.size w w' := by
  have HT : Hid (Lib.TabIs Tryd.prog w "internal/strconv.uint64pow10" .u64 Lib.pow10Tab) := htab
  clear htab
  go_enter Tryd.func8, Tryd.ntmps8
  go_wp2_with fail
  refine (pick_any _ n _ h1 h2 (by omega) (by omega)).mono ?_
  rintro e w1 ⟨⟨k, rfl, hk⟩, rfl⟩
  have hlen1 : (Lib.decDigits (9007199254740992 + 2 * k + 1)).length ≤ 17 := dd_len (by omega) (by omega)
  have hlen2 : (Lib.decDigits (9007199254740992 + 2 * k)).length ≤ 17 := dd_len (by omega) (by omega)
  rcases Nat.mod_two_eq_zero_or_one k with hpar | hpar
  · have hb : ((k : Int) % 2 == 1) = false := by simp; omega
    have HX : Hid (scanL (Lib.decDigits (9007199254740992 + 2 * k + 1)) = (4845873199050653696 + k, 0)) := by
      unfold Hid; rw [ties_x (by omega), if_neg (by omega)]
    have HY : Hid (scanL (Lib.decDigits (9007199254740992 + 2 * k + 1) ++ 46 :: zerosOne) = (4845873199050653696 + (k + 1), 0)) := ties_y (by omega)
    have HZ : Hid (scanL (Lib.decDigits (9007199254740992 + 2 * k) ++ 46 :: nines) = (4845873199050653696 + k, 0)) := ties_z (by omega)
    clear hpar
    go_wp2_with fail
    refine (itoa_any _ (9007199254740992 + 2 * (k : Int) + 1) (9007199254740992 + 2 * k + 1) (by omega) (by omega) HT.out).mono ?_
    rintro e w2 ⟨t, rfl, ht, b2⟩
    have hts : t.size ≤ 17 := by rw [bytes_size ht]; exact hlen1
    have T1 : Hid (t.data.toList = Lib.decDigits (9007199254740992 + 2 * k + 1)) := ht
    clear ht
    go_wp2_with fail
    refine (scan_any _ t (by unfold maxLen; omega)).mono ?_
    rintro e w3 ⟨rfl, b3⟩
    rw [T1.out, HX.out]
    go_wp2_with fail
    refine (scan_any _ (t ++ pointOne) (by unfold maxLen; rw [ByteArray.size_append, pointOne_size]; omega)).mono ?_
    rintro e w4 ⟨rfl, b4⟩
    rw [bytes_append_list, pointOne_list, T1.out, HY.out]
    go_wp2_with fail
    refine (itoa_any _ (9007199254740992 + 2 * (k : Int)) (9007199254740992 + 2 * k) (by omega) (by omega) (tab_below (tab_below (tab_below HT.out b2) b3) b4)).mono ?_
    rintro e w5 ⟨u, rfl, hu, b5⟩
    have hus : u.size ≤ 17 := by rw [bytes_size hu]; exact hlen2
    have U1 : Hid (u.data.toList = Lib.decDigits (9007199254740992 + 2 * k)) := hu
    clear hu
    go_wp2_with fail
    refine (scan_any _ (u ++ pointNines) (by unfold maxLen; rw [ByteArray.size_append, pointNines_size]; omega)).mono ?_
    rintro e w6 ⟨rfl, b6⟩
    rw [bytes_append_list, pointNines_list, U1.out, HZ.out]
    have hbb : Below w1.heap.size w1 w6 := b2.trans ((b3.mono b2.size).trans ((b4.mono (Nat.le_trans b2.size b3.size)).trans ((b5.mono (Nat.le_trans b2.size (Nat.le_trans b3.size b4.size))).trans (b6.mono (Nat.le_trans b2.size (Nat.le_trans b3.size (Nat.le_trans b4.size b5.size)))))))
    clear b2 b3 b4 b5 b6 HT
    go_wp2
    go_ret
    exact ⟨rfl, hbb⟩
  · have hb : ((k : Int) % 2 == 1) = true := by simp; omega
    have HX : Hid (scanL (Lib.decDigits (9007199254740992 + 2 * k + 1)) = (4845873199050653696 + (k + 1), 0)) := by
      unfold Hid; rw [ties_x (by omega), if_pos hpar]
    have HY : Hid (scanL (Lib.decDigits (9007199254740992 + 2 * k + 1) ++ 46 :: zerosOne) = (4845873199050653696 + (k + 1), 0)) := ties_y (by omega)
    have HZ : Hid (scanL (Lib.decDigits (9007199254740992 + 2 * k) ++ 46 :: nines) = (4845873199050653696 + k, 0)) := ties_z (by omega)
    clear hpar
    go_wp2_with fail
    refine (itoa_any _ (9007199254740992 + 2 * (k : Int) + 1) (9007199254740992 + 2 * k + 1) (by omega) (by omega) HT.out).mono ?_
    rintro e w2 ⟨t, rfl, ht, b2⟩
    have hts : t.size ≤ 17 := by rw [bytes_size ht]; exact hlen1
    have T1 : Hid (t.data.toList = Lib.decDigits (9007199254740992 + 2 * k + 1)) := ht
    clear ht
    go_wp2_with fail
    refine (scan_any _ t (by unfold maxLen; omega)).mono ?_
    rintro e w3 ⟨rfl, b3⟩
    rw [T1.out, HX.out]
    go_wp2_with fail
    refine (scan_any _ (t ++ pointOne) (by unfold maxLen; rw [ByteArray.size_append, pointOne_size]; omega)).mono ?_
    rintro e w4 ⟨rfl, b4⟩
    rw [bytes_append_list, pointOne_list, T1.out, HY.out]
    go_wp2_with fail
    refine (itoa_any _ (9007199254740992 + 2 * (k : Int)) (9007199254740992 + 2 * k) (by omega) (by omega) (tab_below (tab_below (tab_below HT.out b2) b3) b4)).mono ?_
    rintro e w5 ⟨u, rfl, hu, b5⟩
    have hus : u.size ≤ 17 := by rw [bytes_size hu]; exact hlen2
    have U1 : Hid (u.data.toList = Lib.decDigits (9007199254740992 + 2 * k)) := hu
    clear hu
    go_wp2_with fail
    refine (scan_any _ (u ++ pointNines) (by unfold maxLen; rw [ByteArray.size_append, pointNines_size]; omega)).mono ?_
    rintro e w6 ⟨rfl, b6⟩
    rw [bytes_append_list, pointNines_list, U1.out, HZ.out]
    have hbb : Below w1.heap.size w1 w6 := b2.trans ((b3.mono b2.size).trans ((b4.mono (Nat.le_trans b2.size b3.size)).trans ((b5.mono (Nat.le_trans b2.size (Nat.le_trans b3.size b4.size))).trans (b6.mono (Nat.le_trans b2.size (Nat.le_trans b3.size (Nat.le_trans b4.size b5.size)))))))
    clear b2 b3 b4 b5 b6 HT
    go_wp2
    go_ret
    exact ⟨rfl, hbb⟩

end Go.Proofs.YthdcceackfdbbaaDoor
