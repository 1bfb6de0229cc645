/- What the three texts of Ties are read as. Own text. -/
import Derived.Test.YthdcceackfdbbaaDoorDig
import Derived.KernelRfl
namespace Go.Proofs.YthdcceackfdbbaaDoor

def zerosOne : List UInt8 := [48, 48, 48, 48, 48, 48, 48, 48, 48, 48, 48, 48, 48, 48, 48, 48, 48, 48, 48, 48, 48, 48, 48, 48, 48, 48, 48, 48, 48, 49]
def nines : List UInt8 := [57, 57, 57, 57, 57, 57, 57, 57, 57, 57, 57, 57, 57, 57, 57, 57, 57, 57, 57, 57, 57, 57, 57, 57, 57]
def pointOne : ByteArray := ⟨#[46, 48, 48, 48, 48, 48, 48, 48, 48, 48, 48, 48, 48, 48, 48, 48, 48, 48, 48, 48, 48, 48, 48, 48, 48, 48, 48, 48, 48, 48, 49]⟩
def pointNines : ByteArray := ⟨#[46, 57, 57, 57, 57, 57, 57, 57, 57, 57, 57, 57, 57, 57, 57, 57, 57, 57, 57, 57, 57, 57, 57, 57, 57, 57]⟩
theorem pointOne_list : pointOne.data.toList = 46 :: zerosOne := rfl
theorem pointNines_list : pointNines.data.toList = 46 :: nines := rfl
theorem pointOne_size : pointOne.size = 31 := rfl
theorem pointNines_size : pointNines.size = 26 := rfl
theorem zerosOne_digs : Digs zerosOne := by unfold Digs; decide
theorem nines_digs : Digs nines := by unfold Digs; decide
theorem zerosOne_val : dval zerosOne = 1 := by kernel_rfl
theorem nines_val : dval nines = 10 ^ 25 - 1 := by kernel_rfl

theorem ties_y {k : Nat} (hk : k < 4503599627370496) : scanL (Lib.decDigits (9007199254740992 + 2 * k + 1) ++ 46 :: zerosOne) = (4845873199050653696 + (k + 1), 0) := by
  have hlen1 : (Lib.decDigits (9007199254740992 + 2 * k + 1)).length ≤ 17 := dd_len (by omega) (by omega)
  have e : (46 :: zerosOne).length = 31 := rfl
  have e2 : zerosOne.length = 30 := rfl
  rw [scan_point zerosOne_digs (by rw [List.length_append]; omega), dval_append, (dd_all _).2.1, zerosOne_val, e2, tie_above (n := 30) hk rfl (by omega)]

theorem ties_z {k : Nat} (hk : k < 4503599627370496) : scanL (Lib.decDigits (9007199254740992 + 2 * k) ++ 46 :: nines) = (4845873199050653696 + k, 0) := by
  have hlen1 : (Lib.decDigits (9007199254740992 + 2 * k)).length ≤ 17 := dd_len (by omega) (by omega)
  have e : (46 :: nines).length = 26 := rfl
  have e2 : nines.length = 25 := rfl
  rw [scan_point nines_digs (by rw [List.length_append]; omega), dval_append, (dd_all _).2.1, nines_val, e2, tie_below (n := 25) hk rfl (by omega)]

theorem ties_x {k : Nat} (hk : k < 4503599627370496) : scanL (Lib.decDigits (9007199254740992 + 2 * k + 1)) = (4845873199050653696 + (if k % 2 = 1 then k + 1 else k), 0) := by
  have hlen1 : (Lib.decDigits (9007199254740992 + 2 * k + 1)).length ≤ 17 := dd_len (by omega) (by omega)
  rw [scan_whole (by omega), tie_mid hk]

end Go.Proofs.YthdcceackfdbbaaDoor
