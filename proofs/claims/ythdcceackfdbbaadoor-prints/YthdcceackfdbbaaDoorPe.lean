/- Walks: layOut, Print. Own text. -/
import Derived.Test.YthdcceackfdbbaaDoorPd
import Derived.Test.YthdcceackfdbbaaDoorFu
namespace Go.Proofs.YthdcceackfdbbaaDoor
open Go.RowKit

def ptL (r : List UInt8) : List UInt8 := if 1 < r.length then r.take 1 ++ 46 :: r.drop 1 else r
def outL (d : Nat) (p : Int) : List UInt8 := ptL (Lib.trimRightB (Lib.decDigits d) 48) ++ 101 :: Lib.itoa (p + ((Lib.decDigits d).length : Int) - 1)

theorem trim_len (l : List UInt8) (c : UInt8) : (Lib.trimRightB l c).length ≤ l.length := by
  unfold Lib.trimRightB
  rw [List.length_reverse]
  have := (List.dropWhile_sublist (· == c) (l := l.reverse)).length_le
  simpa using this

theorem itoa_len {n : Int} (h0 : -100000 ≤ n) (h1 : n ≤ 100000) : (Lib.itoa n).length ≤ 7 := by
  unfold Lib.itoa
  have h : (Lib.decDigits n.natAbs).length ≤ 6 := dd_len (by omega) (by omega)
  have h' : (Lib.decDigits n.toNat).length ≤ 6 := dd_len (by omega) (by omega)
  split
  · simp; first | omega | (rw [show (-n).toNat = n.natAbs by omega]; omega)
  · omega

def dotB : ByteArray := ⟨#[46]⟩
def expB : ByteArray := ⟨#[101]⟩
theorem dotB_list : dotB.data.toList = [46] := rfl
theorem expB_list : expB.data.toList = [101] := rfl
theorem dotB_eq : (⟨#[46]⟩ : ByteArray) = dotB := rfl
theorem expB_eq : (⟨#[101]⟩ : ByteArray) = expB := rfl

theorem lay_dot {r : ByteArray} (h : 1 < r.size) : (r.extract 0 1 ++ dotB ++ r.extract 1 r.size).data.toList = ptL r.data.toList := by
  rw [bytes_append_list, bytes_append_list, extract_take, extract_drop, dotB_list]
  have : r.data.toList.length = r.size := by simp
  rw [ptL, if_pos (by omega)]
  simp

set_option maxRecDepth 20000 in
set_option maxHeartbeats 1600000 in
theorem layOut_any (w : World) (d : Nat) (p : Int) (hd1 : 1 ≤ d) (hd : d ≤ 100000000000000000) (hp1 : -20000 ≤ p) (hp2 : p ≤ 20000) (htab : Lib.TabIs Tryd.prog w "internal/strconv.uint64pow10" .u64 Lib.pow10Tab) :
    Calls Tryd.prog 30 #[.int .u64 (d : Int), .int .i64 p] w fun e w' => ∃ s : ByteArray, e = .returned (.string s) ∧ s.data.toList = outL d p ∧ Below w.heap.size w w' := by
  have HT : Hid (Lib.TabIs Tryd.prog w "internal/strconv.uint64pow10" .u64 Lib.pow10Tab) := htab
  clear htab
  have hlen : (Lib.decDigits d).length ≤ 18 := dd_len (by omega) (by omega)
  have HOUT : Hid (outL d p = ptL (Lib.trimRightB (Lib.decDigits d) 48) ++ 101 :: Lib.itoa (p + ((Lib.decDigits d).length : Int) - 1)) := rfl
  go_enter Tryd.func30, Tryd.ntmps30
  go_wp2_with fail
  refine (fmtu_any _ d hd1 (by omega) HT.out).mono ?_
  rintro e w1 ⟨t, rfl, ht, b1⟩
  have hts := bytes_size ht
  have hts2 : t.size ≤ 18 := by omega
  have HTT : Hid (t.data.toList = Lib.decDigits d) := ht
  have HTS : Hid (t.size = (Lib.decDigits d).length) := hts
  clear ht hts hlen
  go_wp2_with fail
  refine (Tryd.strings_TrimRight_one t 48 (by decide) _ (by omega)).mono ?_
  rintro e w2 ⟨rfl, rfl⟩
  obtain ⟨r, hr⟩ : ∃ r : ByteArray, (⟨(Lib.trimRightB t.data.toList 48).toArray⟩ : ByteArray) = r := ⟨_, rfl⟩
  have hrl : r.data.toList = Lib.trimRightB (Lib.decDigits d) 48 := by rw [← hr, ← HTT.out]
  have hrs : r.size ≤ 18 := by
    rw [bytes_size hrl]; exact Nat.le_trans (trim_len _ _) (by rw [← HTS.out]; exact hts2)
  rw [hr]
  have HRL : Hid (r.data.toList = Lib.trimRightB (Lib.decDigits d) 48) := hrl
  clear hr hrl
  have ht2 := tab_below HT.out b1
  have HT2 : Hid (Lib.TabIs Tryd.prog w2 "internal/strconv.uint64pow10" .u64 Lib.pow10Tab) := ht2
  clear ht2
  by_cases h1 : 1 < r.size
  · have hi1 : (1 : Int) ≤ (r.size : Int) := by omega
    go_wp2
    go_quiet (fail)
    go_wp2_with fail
    refine (itoaI_any _ (p + ((t.size : Int) - 1)) (by omega) (by omega) (tab_below HT2.out (below_drewN (Below.refl _ _) _))).mono ?_
    rintro e w3 ⟨q, rfl, hq, b3⟩
    have hqs : q.size ≤ 7 := by rw [bytes_size hq]; exact itoa_len (by omega) (by omega)
    have HQ := Hid.mk' hq
    clear hq
    go_wp2
    go_ret
    refine ⟨_, rfl, ?_, b1.trans ((below_drewN (Below.refl _ _) _).trans (b3.mono b1.size))⟩
    rw [bytes_append_list, bytes_append_list, dotB_eq, expB_eq, lay_dot h1, expB_list, HRL.out, HQ.out, HOUT.out, HTS.out, Int.add_sub_assoc]
    simp
  · go_wp2_with fail
    refine (itoaI_any _ (p + ((t.size : Int) - 1)) (by omega) (by omega) HT2.out).mono ?_
    rintro e w3 ⟨q, rfl, hq, b3⟩
    have hqs : q.size ≤ 7 := by rw [bytes_size hq]; exact itoa_len (by omega) (by omega)
    have HQ := Hid.mk' hq
    clear hq
    go_wp2
    go_ret
    refine ⟨_, rfl, ?_, b1.trans (b3.mono b1.size)⟩
    have hrl : r.data.toList.length = r.size := by simp
    rw [bytes_append_list, bytes_append_list, expB_eq, expB_list, HQ.out, HOUT.out, HTS.out, ← HRL.out, ptL, if_neg (by omega), Int.add_sub_assoc]
    simp

theorem pick_val {N B A D d : Nat} {ev : Bool} (h : pickO N B A D ev = some d) : d = N / D ∨ d = N / D + 1 := by
  have hn := nearS_le (N / D) (N % D) (D - N % D)
  unfold pickO at h
  split at h
  · simp at h; omega
  · split at h
    · simp at h; omega
    · split at h
      · simp at h; omega
      · simp at h

/-- What shortest answers, of a size. -/
def ShortAt (s d : Nat) (p : Int) : Prop := ∃ a b j : Nat, a ≤ 400 ∧ b ≤ 9400 ∧ j ≤ 16 ∧ p = (b : Int) - a - j ∧
  oneS s * 10 ^ b ≤ sizeS s * 10 ^ a ∧ sizeS s * 10 ^ a < 10 * (oneS s * 10 ^ b) ∧ Short (sizeS s * 10 ^ a) (belowS s * 10 ^ a) (aboveS s * 10 ^ a) (oneS s * 10 ^ b) (decide (s % 2 = 0)) j d

theorem ShortAt.bd {s d : Nat} {p : Int} (h : ShortAt s d p) : 1 ≤ d ∧ d ≤ 100000000000000000 ∧ -20000 ≤ p ∧ p ≤ 20000 := by
  obtain ⟨a, b, j, h1, h2, h3, rfl, h4, h5, h6, _⟩ := h
  have hv := pick_val h6
  have hD : 0 < oneS s * 10 ^ b := Nat.mul_pos (Nat.pos_of_ne_zero (one_ne s)) (ten_pow_pos b)
  generalize oneS s * 10 ^ b = D at *
  generalize sizeS s * 10 ^ a = S at *
  have ht := ten_le_16 h3
  have hp := ten_pow_pos j
  generalize 10 ^ j = T at *
  have q1 : 1 ≤ S * T / D := by
    rw [Nat.le_div_iff_mul_le hD]
    have := Nat.le_mul_of_pos_right S hp
    omega
  have q2 : S * T / D < 10 * T := by
    rw [Nat.div_lt_iff_lt_mul hD]
    have := Nat.mul_lt_mul_of_pos_right h5 hp
    rw [show 10 * T * D = 10 * D * T by rw [Nat.mul_right_comm]]
    exact this
  exact ⟨by omega, by omega, by omega, by omega⟩

def sgL (x : Nat) : List UInt8 := if 9223372036854775808 ≤ x then [45] else []

/-- What Print answers. -/
def PrintOk (x : Nat) (l : List UInt8) : Prop :=
  (9218868437227405312 < x % 9223372036854775808 ∧ l = [110, 97, 110]) ∨ (x % 9223372036854775808 = 9218868437227405312 ∧ l = sgL x ++ [105, 110, 102]) ∨
  (x % 9223372036854775808 = 0 ∧ l = sgL x ++ [48]) ∨
  (x % 9223372036854775808 ≠ 0 ∧ x % 9223372036854775808 < 9218868437227405312 ∧ ∃ d p, ShortAt (x % 9223372036854775808) d p ∧ l = sgL x ++ outL d p)

theorem andNot_sign {x : Nat} (h : x < 18446744073709551616) : bits BinOp.andNot IntKind.u64 (x : Int) 9223372036854775808 = ((x % 9223372036854775808 : Nat) : Int) := by
  rw [show (9223372036854775808 : Int) = ((9223372036854775808 : Nat) : Int) from rfl, u64_andNot_nat _ _ h (by omega)]
  congr 1
  exact Nat.and_two_pow_sub_one_eq_mod x 63

theorem and_sign {x : Nat} (h : x < 18446744073709551616) : bits BinOp.and IntKind.u64 (x : Int) 9223372036854775808 = ((if 9223372036854775808 ≤ x then 9223372036854775808 else 0 : Nat) : Int) := by
  rw [show (9223372036854775808 : Int) = ((9223372036854775808 : Nat) : Int) from rfl, u64_and_nat _ _ h (by omega)]
  congr 1
  have hb : x.testBit 63 = decide (9223372036854775808 ≤ x) := by
    rw [Nat.testBit_eq_decide_div_mod_eq]
    by_cases h1 : 9223372036854775808 ≤ x
    · rw [decide_eq_true h1, show x / 2 ^ 63 = 1 by omega]; rfl
    · rw [decide_eq_false h1, show x / 2 ^ 63 = 0 by omega]; rfl
  apply Nat.eq_of_testBit_eq
  intro i
  rw [Nat.testBit_and, show (9223372036854775808 : Nat) = 2 ^ 63 from rfl, Nat.testBit_two_pow]
  by_cases hi : 63 = i
  · subst hi
    rw [hb]
    split
    · rename_i h1; rw [Nat.testBit_two_pow, decide_eq_true h1]; rfl
    · rename_i h1; rw [Nat.zero_testBit, decide_eq_false h1]; rfl
  · rw [decide_eq_false hi, Bool.and_false]
    split
    · rw [Nat.testBit_two_pow, decide_eq_false hi]
    · rw [Nat.zero_testBit]

def sgB (x : Nat) : ByteArray := ⟨(sgL x).toArray⟩
theorem sgB_list (x : Nat) : (sgB x).data.toList = sgL x := rfl
theorem sgB_size (x : Nat) : (sgB x).size ≤ 1 := by rw [bytes_size (sgB_list x)]; unfold sgL; split <;> simp

end Go.Proofs.YthdcceackfdbbaaDoor
