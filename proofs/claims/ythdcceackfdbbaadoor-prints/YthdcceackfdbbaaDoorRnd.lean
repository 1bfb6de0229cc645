/- Plain mathematics: rounding a quotient. Own text. -/
import Derived.Test.YthdcceackfdbbaaDoorWd
namespace Go.Proofs.YthdcceackfdbbaaDoor

/-- n by d, rounded to the nearest whole number, halves to the even one. -/
def rhe (n d : Nat) : Nat := if d < 2 * (n % d) ∨ (2 * (n % d) = d ∧ n / d % 2 = 1) then n / d + 1 else n / d

theorem rhe_scale (n d c : Nat) (hc : 0 < c) : rhe (n * c) (d * c) = rhe n d := by
  unfold rhe
  rw [Nat.mul_mod_mul_right, Nat.mul_div_mul_right _ _ hc]
  have h1 : d * c < 2 * (n % d * c) ↔ d < 2 * (n % d) := by rw [← Nat.mul_assoc]; exact Nat.mul_lt_mul_right hc
  have h2 : 2 * (n % d * c) = d * c ↔ 2 * (n % d) = d := by rw [← Nat.mul_assoc]; exact Nat.mul_right_cancel_iff hc
  simp only [h1, h2]

/-- The power of two of a by b. -/
def plog (a b : Nat) : Int :=
  if 0 ≤ (bl a : Int) - bl b then (if a < b * 2 ^ ((bl a : Int) - bl b).toNat then (bl a : Int) - bl b - 1 else (bl a : Int) - bl b)
  else (if a * 2 ^ (-((bl a : Int) - bl b)).toNat < b then (bl a : Int) - bl b - 1 else (bl a : Int) - bl b)

/-- a by b by 2^e, rounded. -/
def rat (a b : Nat) (e : Int) : Nat := if 0 ≤ e then rhe a (b * 2 ^ e.toNat) else rhe (a * 2 ^ (-e).toNat) b

def eOf (p : Int) : Int := if p < -1022 then -1074 else p - 52

/-- a by b as a size, or infinity. -/
def rnd (a b : Nat) : Nat := if 1023 < plog a b then 9218868437227405312 else (eOf (plog a b) + 1074).toNat * 4503599627370496 + rat a b (eOf (plog a b))

theorem pow_split {a b : Nat} (h : a ≤ b) : 2 ^ b = 2 ^ a * 2 ^ (b - a) := by rw [← Nat.pow_add]; congr 1; omega

/-- There is one power only. -/
theorem power_unique {a b i j i' j' : Nat} (h1 : b * 2 ^ j ≤ a * 2 ^ i) (h2 : a * 2 ^ i' < 2 * (b * 2 ^ j')) : (j : Int) - i ≤ (j' : Int) - i' := by
  by_cases hh : (j : Int) - i ≤ (j' : Int) - i'
  · exact hh
  · exfalso
    have hle : j' + 1 + i ≤ j + i' := by omega
    have e1 := Nat.mul_le_mul_right (2 ^ i') h1
    have e2 := (Nat.mul_lt_mul_right (a := 2 ^ i) (Nat.pow_pos (by omega))).2 h2
    have e3 : a * 2 ^ i * 2 ^ i' = a * 2 ^ i' * 2 ^ i := by rw [Nat.mul_assoc, Nat.mul_assoc, Nat.mul_comm (2 ^ i)]
    have e4 : b * 2 ^ j * 2 ^ i' = b * 2 ^ (j + i') := by rw [Nat.mul_assoc, Nat.pow_add]
    have e5 : 2 * (b * 2 ^ j') * 2 ^ i = b * 2 ^ (j' + 1 + i) := by
      rw [Nat.pow_add, Nat.pow_succ, Nat.mul_comm 2 (b * _), Nat.mul_assoc, Nat.mul_assoc, Nat.mul_assoc]
    have e6 : b * 2 ^ (j' + 1 + i) ≤ b * 2 ^ (j + i') := Nat.mul_le_mul_left _ (Nat.pow_le_pow_right (by omega) hle)
    omega

theorem norm_ge {a b : Nat} (ha : a ≠ 0) (hb : b ≠ 0) (h : bl b ≤ bl a) : a < 2 * (b * 2 ^ (bl a - bl b)) ∧ b * 2 ^ (bl a - bl b) < 2 * a := by
  have a1 := bl_lo ha
  have a2 := bl_hi a
  have b1 := bl_lo hb
  have b2 := bl_hi b
  have p1 := bl_pos ha
  have p2 := bl_pos hb
  have e1 : 2 ^ bl a = 2 * 2 ^ (bl a - 1) := by rw [← Nat.pow_succ']; congr 1; omega
  have e2 : 2 ^ (bl b - 1) * 2 ^ (bl a - bl b) = 2 ^ (bl a - 1) := by rw [← Nat.pow_add]; congr 1; omega
  have e3 : 2 ^ bl b * 2 ^ (bl a - bl b) = 2 ^ bl a := by rw [← Nat.pow_add]; congr 1; omega
  have e4 := Nat.mul_le_mul_right (2 ^ (bl a - bl b)) b1
  have e5 := (Nat.mul_lt_mul_right (a := 2 ^ (bl a - bl b)) (Nat.pow_pos (by omega))).2 b2
  exact ⟨by omega, by omega⟩

theorem plog_eq {a b i j : Nat} (ha : a ≠ 0) (hb : b ≠ 0) (h1 : b * 2 ^ j ≤ a * 2 ^ i) (h2 : a * 2 ^ i < 2 * (b * 2 ^ j)) : plog a b = (j : Int) - i := by
  have key : ∃ i' j' : Nat, plog a b = (j' : Int) - i' ∧ b * 2 ^ j' ≤ a * 2 ^ i' ∧ a * 2 ^ i' < 2 * (b * 2 ^ j') := by
    unfold plog
    by_cases hk : 0 ≤ (bl a : Int) - bl b
    · rw [if_pos hk]
      obtain ⟨n1, n2⟩ := norm_ge ha hb (by omega)
      have et : ((bl a : Int) - bl b).toNat = bl a - bl b := by omega
      rw [et]
      by_cases hc : a < b * 2 ^ (bl a - bl b)
      · rw [if_pos hc]; exact ⟨1, bl a - bl b, by omega, by omega, by omega⟩
      · rw [if_neg hc]; exact ⟨0, bl a - bl b, by omega, by omega, by omega⟩
    · rw [if_neg hk]
      obtain ⟨n1, n2⟩ := norm_ge hb ha (by omega)
      have et : (-((bl a : Int) - bl b)).toNat = bl b - bl a := by omega
      rw [et]
      by_cases hc : a * 2 ^ (bl b - bl a) < b
      · rw [if_pos hc]
        refine ⟨bl b - bl a + 1, 0, by omega, ?_, ?_⟩
        · rw [Nat.pow_succ, ← Nat.mul_assoc]; omega
        · rw [Nat.pow_succ, ← Nat.mul_assoc]; omega
      · rw [if_neg hc]; exact ⟨bl b - bl a, 0, by omega, by omega, by omega⟩
  obtain ⟨i', j', e, k1, k2⟩ := key
  have u1 := power_unique h1 k2
  have u2 := power_unique k1 h2
  omega

/-- What the loop of roundQuotient leaves. -/
theorem rat_of {a b i j s : Nat} {e : Int} (he : e = (j : Int) + 1 - i - s) : rhe (a * 2 ^ i * 2 ^ s) (2 * (b * 2 ^ j)) = rat a b e := by
  unfold rat
  have n1 : a * 2 ^ i * 2 ^ s = a * 2 ^ (i + s) := by rw [Nat.mul_assoc, Nat.pow_add]
  have n2 : 2 * (b * 2 ^ j) = b * 2 ^ (j + 1) := by rw [Nat.pow_succ]; simp only [Nat.mul_left_comm, Nat.mul_comm]
  rw [n1, n2]
  by_cases h : 0 ≤ e
  · rw [if_pos h]
    have e1 : j + 1 = e.toNat + (i + s) := by omega
    have e2 : b * 2 ^ (j + 1) = b * 2 ^ e.toNat * 2 ^ (i + s) := by rw [e1, Nat.pow_add, Nat.mul_assoc]
    rw [e2, rhe_scale _ _ _ (Nat.pow_pos (by omega))]
  · rw [if_neg h]
    have e1 : i + s = (-e).toNat + (j + 1) := by omega
    have e2 : a * 2 ^ (i + s) = a * 2 ^ (-e).toNat * 2 ^ (j + 1) := by rw [e1, Nat.pow_add, Nat.mul_assoc]
    rw [e2, rhe_scale _ _ _ (Nat.pow_pos (by omega))]

theorem rhe_small {n d : Nat} (h : 2 * n < d) : rhe n d = 0 := by
  unfold rhe
  rw [Nat.div_eq_of_lt (by omega), Nat.mod_eq_of_lt (by omega), if_neg (by omega)]

theorem rat_low {a b i j c : Nat} (h2 : a * 2 ^ i < 2 * (b * 2 ^ j)) (hc : 1 ≤ c) (hp : j + c + 2 ≤ i) : rat a b (-(c : Int)) = 0 := by
  unfold rat
  rw [if_neg (by omega), show (-(-(c : Int))).toNat = c from by omega]
  refine rhe_small ?_
  have hs : a * 2 ^ c * 2 ^ (i - c) < 2 * (b * 2 ^ j) := by
    rw [Nat.mul_assoc, ← Nat.pow_add, show c + (i - c) = i from by omega]; exact h2
  have e1 : 2 * (b * 2 ^ j) ≤ b * 2 ^ (i - c - 1) := by
    have h3 : 2 ^ (j + 1) ≤ 2 ^ (i - c - 1) := Nat.pow_le_pow_right (by omega) (by omega)
    have h4 := Nat.mul_le_mul_left b h3
    rw [Nat.pow_succ, ← Nat.mul_assoc] at h4
    omega
  have e2 : 2 ^ (i - c) = 2 * 2 ^ (i - c - 1) := by rw [← Nat.pow_succ']; congr 1; omega
  have e3 : a * 2 ^ c * 2 * 2 ^ (i - c - 1) < b * 2 ^ (i - c - 1) := by
    rw [e2, ← Nat.mul_assoc] at hs; omega
  have e4 := Nat.lt_of_mul_lt_mul_right e3
  omega

/-- Far below the least size: 0. -/
theorem rnd_low {a b i j : Nat} (ha : a ≠ 0) (hb : b ≠ 0) (h1 : b * 2 ^ j ≤ a * 2 ^ i) (h2 : a * 2 ^ i < 2 * (b * 2 ^ j)) (hp : (j : Int) - i < -1075) : rnd a b = 0 := by
  have hpl := plog_eq ha hb h1 h2
  unfold rnd
  rw [hpl, if_neg (by omega)]
  unfold eOf
  rw [if_pos (by omega)]
  have := rat_low (c := 1074) h2 (by omega) (by omega)
  rw [show (-((1074 : Nat) : Int)) = -1074 from rfl] at this
  rw [this]
  rfl

end Go.Proofs.YthdcceackfdbbaaDoor
