/- Walks: clean, Round. Own text. -/
import Derived.Test.YthdcceackfdbbaaDoorMc
namespace Go.Proofs.YthdcceackfdbbaaDoor
open Go.RowKit

set_option maxRecDepth 5000 in
set_option maxHeartbeats 400000 in
theorem clean_any (w : World) (x : Nat) (hx : x < 18446744073709551616) :
    Calls Tryd.prog 13 #[.int .u64 (x : Int)] w fun e w' => e = .returned (.int .u64 ((cleanN x : Nat) : Int)) ∧ w' = w := by
  have h1 := and_inf hx
  have h2 := and_frac hx
  by_cases c1 : x / 4503599627370496 % 2048 = 2047
  · have b1 : (bits BinOp.and IntKind.u64 (x : Int) 9218868437227405312 == 9218868437227405312) = true := by rw [h1, c1]; rfl
    by_cases c2 : x % 4503599627370496 = 0
    · have b2 : (bits BinOp.and IntKind.u64 (x : Int) 4503599627370495 != 0) = false := by rw [h2, c2]; rfl
      clear h1 h2
      go_enter Tryd.func13, Tryd.ntmps13
      go_wp2
      go_ret
      refine ⟨ret_int ?_, rfl⟩
      rw [cleanN, if_neg (by omega)]
    · have b2 : (bits BinOp.and IntKind.u64 (x : Int) 4503599627370495 != 0) = true := by rw [h2]; simp; omega
      clear h1 h2
      go_enter Tryd.func13, Tryd.ntmps13
      go_wp2
      go_ret
      refine ⟨ret_int ?_, rfl⟩
      rw [cleanN, if_pos (by omega)]
      rfl
  · have b1 : (bits BinOp.and IntKind.u64 (x : Int) 9218868437227405312 == 9218868437227405312) = false := by rw [h1]; simp; omega
    clear h1 h2
    go_enter Tryd.func13, Tryd.ntmps13
    go_wp2
    go_ret
    refine ⟨ret_int ?_, rfl⟩
    rw [cleanN, if_neg (by omega)]

set_option maxRecDepth 5000 in
set_option maxHeartbeats 800000 in
theorem round_law (w : World) (n : Int) (h1 : 0 ≤ n) (h2 : n ≤ 18446744073709551615) (htab : Lib.TabIs Tryd.prog w "internal/strconv.uint64pow10" .u64 Lib.pow10Tab) :
    Calls Tryd.prog 5 #[.int .u64 n] w fun e w' => e = .returned (.bool true) ∧ Below w.heap.size w w' := by
  obtain ⟨x, rfl⟩ := Int.eq_ofNat_of_zero_le h1
  have hx : x < 18446744073709551616 := by omega
  have HT : Hid (Lib.TabIs Tryd.prog w "internal/strconv.uint64pow10" .u64 Lib.pow10Tab) := htab
  clear htab
  go_enter Tryd.func5, Tryd.ntmps5
  go_wp2_with fail
  refine (print_any _ x hx HT.out).mono ?_
  rintro e w1 ⟨s, rfl, hp, hsz, b1⟩
  obtain ⟨q1, q2, q3⟩ := scan_print hx hp
  have hl : s.data.toList.length = s.size := by simp
  rw [hl] at q2 q3
  have HQ := Hid.mk' q1
  clear q1 hl hp hsz
  go_wp2_with fail
  refine (scan_any _ s (by unfold maxLen; omega)).mono ?_
  rintro e w2 ⟨rfl, b2⟩
  rw [HQ.out]
  have hbb := b1.trans (b2.mono b1.size)
  clear b1 b2
  go_wp2_with fail
  refine (clean_any _ x hx).mono ?_
  rintro e w3 ⟨rfl, rfl⟩
  go_wp2
  go_ret
  exact ⟨by simp; omega, hbb⟩

end Go.Proofs.YthdcceackfdbbaaDoor
