/- Plain mathematics: the reference's rounding. Own text. -/
import Derived.Test.YthdcceackfdbbaaDoorRle
import Derived.Test.YthdcceackfdbbaaDoorNatB
namespace Go.Proofs.YthdcceackfdbbaaDoor

theorem rat_of2 {a b i j : Nat} : rhe (a * 2 ^ i) (b * 2 ^ j) = rat a b ((j : Int) - i) := by
  unfold rat
  by_cases h : 0 ≤ (j : Int) - i
  · rw [if_pos h]
    have e2 : b * 2 ^ j = b * 2 ^ ((j : Int) - i).toNat * 2 ^ i := by rw [Nat.mul_assoc, ← Nat.pow_add]; congr 2; omega
    rw [e2, rhe_scale _ _ _ (Nat.pow_pos (by omega))]
  · rw [if_neg h]
    have e2 : a * 2 ^ i = a * 2 ^ (-((j : Int) - i)).toNat * 2 ^ j := by rw [Nat.mul_assoc, ← Nat.pow_add]; congr 2; omega
    rw [e2, rhe_scale _ _ _ (Nat.pow_pos (by omega))]

/-- The first guess of the power. -/
def guess (la lb : Nat) : Int := if 0 < (la : Int) - lb - 1 then 29 * ((la : Int) - lb - 1) - 54 else 30 * ((la : Int) - lb - 1) - 54

theorem guess_le {a b la lb : Nat} (ha : a ≠ 0) (hb : b ≠ 0) (h1 : 1000000000 ^ (la - 1) ≤ a) (h2 : b < 1000000000 ^ lb) (hla : 1 ≤ la) : guess la lb + 54 ≤ plog a b := by
  obtain ⟨i, j, e, k1, k2⟩ := plog_key ha hb
  rw [e]
  unfold guess
  by_cases hc : 0 < (la : Int) - lb - 1
  · rw [if_pos hc]
    have h3 : b * 2 ^ (29 * (la - lb - 1)) ≤ a * 2 ^ 0 := by
      rw [Nat.pow_zero, Nat.mul_one]
      refine Nat.le_trans (Nat.mul_le_mul (Nat.le_of_lt h2) (Nat.le_trans ?_ (Nat.le_refl (1000000000 ^ (la - lb - 1))))) ?_
      · rw [Nat.pow_mul]; exact Nat.pow_le_pow_left (by decide) _
      · rw [← Nat.pow_add, show lb + (la - lb - 1) = la - 1 from by omega]; exact h1
    have := power_unique h3 k2
    omega
  · rw [if_neg hc]
    have h3 : b * 2 ^ 0 ≤ a * 2 ^ (30 * (lb + 1 - la)) := by
      rw [Nat.pow_zero, Nat.mul_one]
      refine Nat.le_trans (Nat.le_of_lt h2) ?_
      refine Nat.le_trans ?_ (Nat.mul_le_mul h1 (Nat.le_trans (Nat.le_refl (1000000000 ^ (lb + 1 - la))) ?_))
      · rw [← Nat.pow_add, show la - 1 + (lb + 1 - la) = lb from by omega]; exact Nat.le_refl _
      · rw [Nat.pow_mul]; exact Nat.pow_le_pow_left (by decide) _
    have := power_unique h3 k2
    omega

/-- While the quotient is not below 2^53 the power may rise. -/
theorem round_more {a b i j : Nat} (ha : a ≠ 0) (hb : b ≠ 0) (h : b * 2 ^ j * 9007199254740992 ≤ a * 2 ^ i) : (j : Int) - i + 53 ≤ plog a b := by
  obtain ⟨i0, j0, e, k1, k2⟩ := plog_key ha hb
  have h3 : b * 2 ^ (j + 53) ≤ a * 2 ^ i := by
    rw [Nat.pow_add, ← Nat.mul_assoc]; exact h
  have := power_unique h3 k2
  omega

theorem round_stop {a b i j : Nat} (ha : a ≠ 0) (hb : b ≠ 0) (h : a * 2 ^ i < b * 2 ^ j * 9007199254740992) : plog a b ≤ (j : Int) - i + 52 := by
  obtain ⟨i0, j0, e, k1, k2⟩ := plog_key ha hb
  have h3 : a * 2 ^ i < 2 * (b * 2 ^ (j + 52)) := by
    rw [Nat.pow_add, ← Nat.mul_assoc b]; omega
  have := power_unique k1 h3
  omega

theorem round_low {a b i j : Nat} (ha : a ≠ 0) (hb : b ≠ 0) (h : (j : Int) - i + 52 ≤ plog a b) : b * 2 ^ j * 4503599627370496 ≤ a * 2 ^ i := by
  obtain ⟨i0, j0, e, k1, k2⟩ := plog_key ha hb
  by_cases hh : b * 2 ^ j * 4503599627370496 ≤ a * 2 ^ i
  · exact hh
  · exfalso
    have h3 : a * 2 ^ i < 2 * (b * 2 ^ (j + 51)) := by
      rw [Nat.pow_add, ← Nat.mul_assoc b]; omega
    have := power_unique k1 h3
    omega

theorem rhe_bounds {n d q r : Nat} (h : n = d * q + r) (hr : r < d) (h1 : n < d * 9007199254740992) : q < 9007199254740992 ∧ rhe n d ≤ 9007199254740992 ∧ q ≤ rhe n d := by
  have h2 : n / d = q := by rw [h, Nat.mul_comm, Nat.add_comm, Nat.add_mul_div_right _ _ (by omega), Nat.div_eq_of_lt hr]; omega
  have h3 : n / d < 9007199254740992 := Nat.div_lt_of_lt_mul h1
  refine ⟨by omega, ?_, ?_⟩ <;> (unfold rhe; split <;> omega)

/-- What the last lines of the reference's rounding answer. -/
def finR (m : Nat) (e : Int) : Nat :=
  if m = 9007199254740992 then (if 2047 ≤ e + 1 + 1075 then 9218868437227405312 else (e + 1 + 1075).toNat * 4503599627370496)
  else if m < 4503599627370496 then m
  else if 2047 ≤ e + 1075 then 9218868437227405312 else (e + 1075).toNat * 4503599627370496 + (m - 4503599627370496)

theorem finR_eq {a b i j : Nat} (ha : a ≠ 0) (hb : b ≠ 0) (he1 : -1074 ≤ (j : Int) - i) (hstop : plog a b ≤ (j : Int) - i + 52) (hlow : (j : Int) - i = -1074 ∨ (j : Int) - i + 52 ≤ plog a b) :
    finR (rhe (a * 2 ^ i) (b * 2 ^ j)) ((j : Int) - i) = rnd a b := by
  have hrat := rat_of2 (a := a) (b := b) (i := i) (j := j)
  have hm : rhe (a * 2 ^ i) (b * 2 ^ j) ≤ 9007199254740992 := by
    refine rhe_le ?_
    by_cases hh : a * 2 ^ i < b * 2 ^ j * 9007199254740992
    · exact hh
    · have := round_more ha hb (by omega : b * 2 ^ j * 9007199254740992 ≤ a * 2 ^ i); omega
  have hE : eOf (plog a b) = (j : Int) - i := by unfold eOf; split <;> omega
  have hml : (j : Int) - i ≠ -1074 → 4503599627370496 ≤ rhe (a * 2 ^ i) (b * 2 ^ j) := by
    intro hne
    have h1 := round_low ha hb (by omega : (j : Int) - i + 52 ≤ plog a b)
    have hpos : 0 < b * 2 ^ j := Nat.mul_pos (by omega) (Nat.pow_pos (by omega))
    have h2 : 4503599627370496 ≤ a * 2 ^ i / (b * 2 ^ j) := (Nat.le_div_iff_mul_le hpos).2 (by rw [Nat.mul_comm]; exact h1)
    unfold rhe; split <;> omega
  unfold rnd
  rw [hE, ← hrat]
  generalize rhe (a * 2 ^ i) (b * 2 ^ j) = m at *
  unfold finR
  by_cases c1 : 1023 < plog a b
  · rw [if_pos c1]
    split
    · rw [if_pos (by omega)]
    · split
      · omega
      · rw [if_pos (by omega)]
  · rw [if_neg c1]
    split
    · rename_i h1
      subst h1
      split
      · omega
      · omega
    · split
      · have : (j : Int) - i = -1074 := by
          by_cases hx : (j : Int) - i = -1074
          · exact hx
          · have := hml hx; omega
        rw [this]; simp
      · rw [if_neg (by omega)]; omega

end Go.Proofs.YthdcceackfdbbaaDoor
