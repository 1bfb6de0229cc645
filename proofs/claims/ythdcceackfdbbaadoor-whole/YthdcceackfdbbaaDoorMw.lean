/- Whole numbers: what is printed of them. Own text. -/
import Derived.Test.YthdcceackfdbbaaDoorTb
namespace Go.Proofs.YthdcceackfdbbaaDoor
open Go.RowKit

/-- s is the number of the value k. -/
structure WholeS (s k : Nat) : Prop where
  ne : s ≠ 0
  lt : s < 9218868437227405312
  val : sizeS s = k * oneS s
  low : 2 * belowS s ≤ oneS s
  high : 2 * aboveS s ≤ oneS s ∨ (k = 9007199254740992 ∧ aboveS s = oneS s)

theorem inS_false {d r : Nat} {ev : Bool} (h : r < d) : inS d r ev = false := by
  cases hh : inS d r ev
  · rfl
  · rw [inS_iff] at hh; omega

theorem whole_short {s d k : Nat} {p : Int} (hw : WholeS s k) (hk : 1 ≤ k) (h : ShortAt s d p) : ∃ z : Nat, p = z ∧ d * 10 ^ z = k := by
  obtain ⟨a, b, j, h1, h2, h3, rfl, h4, h5, h6, h7⟩ := h
  have ho := one_ne s
  have hb0 := below_pos s
  rw [hw.val] at h4 h5 h6 h7
  have q1 : 10 ^ b ≤ k * 10 ^ a := by
    refine Nat.le_of_mul_le_mul_left (c := oneS s) ?_ (by omega)
    rw [← Nat.mul_assoc, Nat.mul_comm (oneS s) k]; exact h4
  have q2 : k * 10 ^ a < 10 * 10 ^ b := by
    refine Nat.lt_of_mul_lt_mul_left (a := oneS s) ?_
    rw [← Nat.mul_assoc, Nat.mul_comm (oneS s) k, Nat.mul_left_comm]; exact h5
  have hba : a ≤ b := by
    have e1 : 10 ^ a < 10 ^ (b + 1) := by
      rw [Nat.pow_succ]
      have := Nat.le_mul_of_pos_left (10 ^ a) hk
      omega
    have := (Nat.pow_lt_pow_iff_right (by omega : 1 < 10)).1 e1
    omega
  have hjb : j ≤ b - a := by
    rcases Nat.lt_or_ge (b - a) j with h' | h'
    · exfalso
      have hn := h7 (b - a) h'
      have e : k * oneS s * 10 ^ a * 10 ^ (b - a) = k * (oneS s * 10 ^ b) := by
        rw [Nat.mul_assoc (k * oneS s), ← Nat.pow_add, show a + (b - a) = b by omega, Nat.mul_assoc]
      rw [e] at hn
      unfold pickO at hn
      rw [Nat.mul_mod_left] at hn
      have hl : inS 0 (belowS s * 10 ^ a * 10 ^ (b - a)) (decide (s % 2 = 0)) = true := by
        rw [inS_iff]; left
        exact Nat.mul_pos (Nat.mul_pos hb0 (ten_pow_pos _)) (ten_pow_pos _)
      rw [hl] at hn
      cases hu : inS (oneS s * 10 ^ b - 0) (aboveS s * 10 ^ a * 10 ^ (b - a)) (decide (s % 2 = 0)) <;> rw [hu] at hn <;> simp at hn
    · exact h'
  obtain ⟨z, hz⟩ : ∃ z, b = a + j + z := ⟨b - a - j, by omega⟩
  refine ⟨z, by omega, ?_⟩
  have hU0 : 0 < oneS s * 10 ^ (a + j) := Nat.mul_pos (by omega) (ten_pow_pos _)
  have eN : k * oneS s * 10 ^ a * 10 ^ j = k * (oneS s * 10 ^ (a + j)) := by rw [Nat.pow_add]; ac_rfl
  have eD : oneS s * 10 ^ b = 10 ^ z * (oneS s * 10 ^ (a + j)) := by rw [hz, Nat.pow_add 10 (a + j)]; ac_rfl
  have eB : belowS s * 10 ^ a * 10 ^ j = belowS s * 10 ^ (a + j) := by rw [Nat.pow_add]; ac_rfl
  have eA : aboveS s * 10 ^ a * 10 ^ j = aboveS s * 10 ^ (a + j) := by rw [Nat.pow_add]; ac_rfl
  rw [eN, eD, eB, eA] at h6
  have hB : 2 * (belowS s * 10 ^ (a + j)) ≤ oneS s * 10 ^ (a + j) := by
    rw [← Nat.mul_assoc]; exact Nat.mul_le_mul_right _ hw.low
  have hA : 2 * (aboveS s * 10 ^ (a + j)) ≤ oneS s * 10 ^ (a + j) ∨ (k = 9007199254740992 ∧ aboveS s * 10 ^ (a + j) = oneS s * 10 ^ (a + j)) := by
    rcases hw.high with h' | ⟨h', h''⟩
    · left; rw [← Nat.mul_assoc]; exact Nat.mul_le_mul_right _ h'
    · right; exact ⟨h', by rw [h'']⟩
  have hB0 : 0 < belowS s * 10 ^ (a + j) := Nat.mul_pos hb0 (ten_pow_pos _)
  clear eN eD eB eA h7 h4 h5 q1 q2
  generalize oneS s * 10 ^ (a + j) = U at *
  generalize belowS s * 10 ^ (a + j) = B' at *
  generalize aboveS s * 10 ^ (a + j) = A' at *
  generalize decide (s % 2 = 0) = ev at *
  have hT := ten_pow_pos z
  have hT10 : z = 0 ∨ 10 ∣ 10 ^ z := by
    cases z with
    | zero => exact .inl rfl
    | succ z => right; rw [Nat.pow_succ]; exact Nat.dvd_mul_left 10 (10 ^ z)
  generalize hTe : 10 ^ z = T at *
  have f1 : k * U / (T * U) = k / T := Nat.mul_div_mul_right k T hU0
  have f2 : k * U % (T * U) = k % T * U := Nat.mul_mod_mul_right U k T
  unfold pickO at h6
  rw [f1, f2] at h6
  have hm := Nat.mod_lt k hT
  have hdm := Nat.div_add_mod k T
  have e3 : T * U - k % T * U = (T - k % T) * U := by rw [Nat.sub_mul]
  rw [e3] at h6
  by_cases hr : k % T = 0
  · rw [hr] at h6
    simp only [Nat.zero_mul, Nat.sub_zero] at h6
    have hl : inS 0 B' ev = true := by rw [inS_iff]; exact .inl hB0
    rw [hl] at h6
    have hnear : nearS (k / T) 0 (T * U) = 0 := by unfold nearS; rw [if_pos (Nat.mul_pos hT hU0)]
    rw [hnear] at h6
    have : d = k / T := by
      cases hu : inS (T * U) A' ev <;> simp [hu] at h6 <;> omega
    rw [this, Nat.mul_comm]
    omega
  · exfalso
    have hl : inS (k % T * U) B' ev = false := by
      refine inS_false ?_
      have : U ≤ k % T * U := Nat.le_mul_of_pos_left _ (by omega)
      omega
    have hu : inS ((T - k % T) * U) A' ev = false := by
      have hge : U ≤ (T - k % T) * U := Nat.le_mul_of_pos_left _ (by omega)
      rcases hA with hA | ⟨hk', hA⟩
      · exact inS_false (by omega)
      · have h2 : 2 ≤ T - k % T := by
          rcases hT10 with h0 | ⟨c, hc⟩
          · rw [h0] at hTe; simp at hTe; omega
          · have hkT : k = T * (k / T) + k % T := by omega
            rcases Nat.lt_or_ge (T - k % T) 2 with h' | h'
            · exfalso
              have e9 : k + 1 = T * (k / T) + T := by omega
              rw [hc, hk', Nat.mul_assoc] at e9
              omega
            · exact h'
        refine inS_false ?_
        have := Nat.mul_le_mul_right U h2
        omega
    rw [hl, hu] at h6
    simp at h6

theorem dd_zeros {d z : Nat} (hd : 1 ≤ d) : Lib.decDigits (d * 10 ^ z) = Lib.decDigits d ++ List.replicate z 48 := by
  induction z with
  | zero => simp
  | succ z ih =>
    have e : d * 10 ^ (z + 1) = d * 10 ^ z * 10 := by rw [Nat.pow_succ, Nat.mul_assoc]
    have hp : 1 ≤ d * 10 ^ z := Nat.mul_pos (by omega) (ten_pow_pos z)
    rw [e]
    generalize d * 10 ^ z = n at *
    rw [Lib.decDigits, dif_neg (by omega), show n * 10 / 10 = n by omega, show n * 10 % 10 = 0 by omega, ih, List.append_assoc]
    congr 1
    exact List.replicate_succ'.symm

/-- What is printed of a whole number: its digits. -/
theorem whole_parts {s d k : Nat} {p : Int} (hw : WholeS s k) (hk : 1 ≤ k) (hk2 : k ≤ 9007199254740992) (h : ShortAt s d p) : ∃ (c : UInt8) (f : List UInt8) (y : Nat), outL d p = ptL (c :: f) ++ 101 :: Lib.itoa (((Lib.decDigits k).length : Int) - 1) ∧ isDig c = true ∧ Digs f ∧ Lib.decDigits k = (c :: f) ++ List.replicate y 48 ∧ (Lib.decDigits k).length ≤ 16 := by
  obtain ⟨z, rfl, hz⟩ := whole_short hw hk h
  obtain ⟨d1, _, _, _⟩ := h.bd
  obtain ⟨c, f, y, e1, e2, e3, e4, e5, e6, e7, e8⟩ := trim_digits d1
  have hdd := dd_zeros (z := z) d1
  rw [hz] at hdd
  have hl16 : (Lib.decDigits k).length ≤ 16 := dd_len (by omega) (by omega)
  have hlen : ((Lib.decDigits k).length : Int) = z + ((Lib.decDigits d).length : Int) := by
    rw [hdd, List.length_append, List.length_replicate]; omega
  refine ⟨c, f, y + z, ?_, e2, e4, ?_, hl16⟩
  · unfold outL
    rw [e1, hlen]
  · rw [hdd, e8, List.append_assoc, List.replicate_append_replicate]

theorem whole_size {k j m : Nat} (hm : m = k * 2 ^ j) (h1 : 4503599627370496 ≤ m) (h2 : m < 9007199254740992) (hj : j ≤ 52) : WholeS ((1075 - j) * 4503599627370496 + (m - 4503599627370496)) k := by
  obtain ⟨s, hs⟩ : ∃ s, (1075 - j) * 4503599627370496 + (m - 4503599627370496) = s := ⟨_, rfl⟩
  rw [hs]
  have e1 : s / 4503599627370496 = 1075 - j := by omega
  have e2 : s % 4503599627370496 = m - 4503599627370496 := by omega
  have hms : mS s = m := by unfold mS; rw [e1, e2, if_neg (by omega)]; omega
  have hes : eS s = -(j : Int) := by unfold eS; rw [e1, if_neg (by omega)]; omega
  have hq : qS s = 1 := by unfold qS; rw [hes, show (-(j : Int)).toNat = 0 by omega]
  have ho : oneS s = 4 * 2 ^ j := by unfold oneS; rw [hes, show (-(-(j : Int))).toNat = j by omega]
  have hp : 1 ≤ 2 ^ j := Nat.pow_pos (by omega)
  refine ⟨by omega, by omega, ?_, ?_, .inl ?_⟩
  · unfold sizeS; rw [hms, hq, ho, hm]; ac_rfl
  · rw [ho]; unfold belowS; rw [hq]; split <;> omega
  · rw [ho]; unfold aboveS; rw [hq]; omega

theorem whole_top : WholeS 4845873199050653696 9007199254740992 := by
  have hms : mS 4845873199050653696 = 4503599627370496 := by decide
  have hes : eS 4845873199050653696 = 1 := by decide
  have hq : qS 4845873199050653696 = 2 := by unfold qS; rw [hes]; rfl
  have ho : oneS 4845873199050653696 = 4 := by unfold oneS; rw [hes]; rfl
  have hnb : nbS 4845873199050653696 = true := by decide
  refine ⟨by omega, by omega, ?_, ?_, .inr ⟨rfl, ?_⟩⟩
  · unfold sizeS; rw [hms, hq, ho]
  · unfold belowS; rw [hnb, hq, ho]; decide
  · unfold aboveS; rw [hq, ho]

theorem whole_scan {s k : Nat} (hw : WholeS s k) (hk : 1 ≤ k) : decRnd k 0 = s := by
  rw [decRnd_iff (by omega) hw.lt]
  unfold InD InV
  rw [hw.val]
  simp only [Int.toNat_zero, Int.neg_zero, Nat.pow_zero, Nat.mul_one, Nat.one_mul]
  left
  refine ⟨Nat.le_refl _, ?_⟩
  rw [Nat.sub_self, inS_iff]
  exact .inl (below_pos s)

theorem whole_j {k : Nat} (h1 : 1 ≤ k) (h2 : k ≤ 9007199254740992) : ∃ j : Nat, j ≤ 52 ∧ 4503599627370496 ≤ k * 2 ^ j ∧ (∀ i, i < j → k * 2 ^ i < 4503599627370496) ∧ ((k = 9007199254740992 ∧ j = 0) ∨ k * 2 ^ j < 9007199254740992) := by
  have hb := bl_lo (n := k) (by omega)
  have hb2 := bl_hi k
  have hb3 := bl_pos (n := k) (by omega)
  by_cases hk : k = 9007199254740992
  · exact ⟨0, by omega, by omega, by intro i hi; omega, .inl ⟨hk, rfl⟩⟩
  · have h53 : bl k ≤ 53 := bl_le (n := k) (k := 53) (by omega)
    refine ⟨53 - bl k, by omega, ?_, ?_, .inr ?_⟩
    · have := Nat.mul_le_mul_right (2 ^ (53 - bl k)) hb
      rw [← Nat.pow_add, show bl k - 1 + (53 - bl k) = 52 by omega] at this
      exact this
    · intro i hi
      have := Nat.mul_lt_mul_of_pos_right hb2 (Nat.pow_pos (by omega) : 0 < 2 ^ i)
      rw [← Nat.pow_add] at this
      exact Nat.lt_of_lt_of_le this (Nat.le_trans (Nat.pow_le_pow_right (by omega) (show bl k + i ≤ 52 by omega)) (by decide))
    · have := Nat.mul_lt_mul_of_pos_right hb2 (Nat.pow_pos (by omega) : 0 < 2 ^ (53 - bl k))
      rw [← Nat.pow_add, show bl k + (53 - bl k) = 53 by omega] at this
      exact this

theorem scan_neg {k : Nat} (hl : (Lib.decDigits k).length ≤ 50) : scanL (45 :: Lib.decDigits k) = (decRnd k 0 + 9223372036854775808, 0) := by
  obtain ⟨h1, h2, _, h4⟩ := dd_all k
  have hd := decL_whole h1 h4
  cases hc : Lib.decDigits k with
  | nil => exact absurd hc h4
  | cons c r =>
    rw [hc] at hl h1 h2 hd
    rw [scan_minus (h1 c (by simp)) (by omega), hd]
    simp only [finL]
    rw [dval_drop, h2]
    simp

theorem print_pos {s : Nat} {l : List UInt8} (h0 : s ≠ 0) (hs : s < 9218868437227405312) (h : PrintOk s l) : ∃ d p, ShortAt s d p ∧ l = outL d p := by
  have e : s % 9223372036854775808 = s := by omega
  rcases h with ⟨h, _⟩ | ⟨h, _⟩ | ⟨h, _⟩ | ⟨_, _, d, p, hsa, rfl⟩
  · omega
  · omega
  · omega
  · rw [e] at hsa
    exact ⟨d, p, hsa, by unfold sgL; rw [if_neg (by omega)]; rfl⟩

end Go.Proofs.YthdcceackfdbbaaDoor
