/- A fraction is rounded to a size exactly where it lies in the size's interval. Own text. -/
import Derived.Test.YthdcceackfdbbaaDoorRr
import Derived.Test.YthdcceackfdbbaaDoorPf
namespace Go.Proofs.YthdcceackfdbbaaDoor
open Go.RowKit

theorem inS_iff {d r : Nat} {ev : Bool} : inS d r ev = true ↔ d < r ∨ (d = r ∧ ev = true) := by
  unfold inS; simp

/-- X in quarters of a step: in the interval of m steps? -/
def InI (X Q m : Nat) (nb ev : Bool) : Prop :=
  (X ≤ 4 * Q * m ∧ inS (4 * Q * m - X) (if nb then Q else 2 * Q) ev = true) ∨ (4 * Q * m ≤ X ∧ inS (X - 4 * Q * m) (2 * Q) ev = true)

theorem plog_lo {a b k K : Nat} (ha : a ≠ 0) (hb : b ≠ 0) (h : (k : Int) - K ≤ plog a b) : b * 2 ^ k ≤ a * 2 ^ K := by
  obtain ⟨i, j, e, h1, _⟩ := plog_key ha hb
  rw [e] at h
  have hk : k + i ≤ j + K := by omega
  have q1 : b * 2 ^ k * 2 ^ i ≤ b * 2 ^ j * 2 ^ K := by
    rw [Nat.mul_assoc, Nat.mul_assoc, ← Nat.pow_add, ← Nat.pow_add]
    exact Nat.mul_le_mul_left _ (Nat.pow_le_pow_right (by omega) hk)
  have q2 : b * 2 ^ j * 2 ^ K ≤ a * 2 ^ K * 2 ^ i := by
    rw [Nat.mul_right_comm a]; exact Nat.mul_le_mul_right _ h1
  exact Nat.le_of_mul_le_mul_right (Nat.le_trans q1 q2) (Nat.pow_pos (by omega))

theorem plog_hi {a b k K : Nat} (ha : a ≠ 0) (hb : b ≠ 0) (h : plog a b ≤ (k : Int) - K) : a * 2 ^ K < 2 * (b * 2 ^ k) := by
  obtain ⟨i, j, e, _, h2⟩ := plog_key ha hb
  rw [e] at h
  have hk : j + K ≤ k + i := by omega
  have q1 : a * 2 ^ K * 2 ^ i < 2 * (b * 2 ^ j) * 2 ^ K := by
    rw [Nat.mul_right_comm a]; exact Nat.mul_lt_mul_of_pos_right h2 (Nat.pow_pos (by omega))
  have q2 : 2 * (b * 2 ^ j) * 2 ^ K ≤ 2 * (b * 2 ^ k) * 2 ^ i := by
    rw [Nat.mul_assoc, Nat.mul_assoc, Nat.mul_assoc, Nat.mul_assoc, ← Nat.pow_add, ← Nat.pow_add]
    exact Nat.mul_le_mul_left _ (Nat.mul_le_mul_left _ (Nat.pow_le_pow_right (by omega) hk))
  exact Nat.lt_of_mul_lt_mul_right (Nat.lt_of_lt_of_le q1 q2)

theorem rnd_form {a b K : Nat} (ha : a ≠ 0) (hb : b ≠ 0) (hK : K = 1076) : ∃ n : Nat, (n = 0 ∨ 4 * (b * 2 ^ n) * 4503599627370496 ≤ a * 2 ^ K) ∧ a * 2 ^ K < 4 * (b * 2 ^ n) * 9007199254740992 ∧
    rnd a b = if 2045 < n then 9218868437227405312 else n * 4503599627370496 + rhe (a * 2 ^ K) (4 * (b * 2 ^ n)) := by
  have hsplit : ∀ n : Nat, b * 2 ^ (n + 54) = 4 * (b * 2 ^ n) * 4503599627370496 := by
    intro n; rw [Nat.pow_add]; rw [← Nat.mul_assoc]; omega
  have hq : ∀ n : Nat, (n : Int) + 2 - K = (n : Int) - 1074 := by intro n; omega
  have hrat : ∀ n : Nat, rhe (a * 2 ^ K) (4 * (b * 2 ^ n)) = rat a b ((n : Int) - 1074) := by
    intro n
    rw [show 4 * (b * 2 ^ n) = b * 2 ^ (n + 2) by rw [Nat.pow_add, ← Nat.mul_assoc b]; omega, rat_of2, ← hq n]
    congr 1
  unfold rnd
  generalize hp : plog a b = p
  by_cases h1 : p < -1022
  · refine ⟨0, .inl rfl, ?_, ?_⟩
    · have := plog_hi (k := 54) (K := K) ha hb (by omega)
      have e := hsplit 0
      simp only [Nat.zero_add] at e
      omega
    · rw [if_neg (by omega), if_neg (by omega), hrat]
      unfold eOf
      rw [if_pos h1]
      simp
  · obtain ⟨n, hn⟩ : ∃ n : Nat, p = (n : Int) - 1022 := ⟨(p + 1022).toNat, by omega⟩
    refine ⟨n, .inr ?_, ?_, ?_⟩
    · have := plog_lo (k := n + 54) (K := K) ha hb (by omega)
      rw [hsplit] at this
      exact this
    · have := plog_hi (k := n + 54) (K := K) ha hb (by omega)
      rw [hsplit] at this
      omega
    · by_cases h2 : 1023 < p
      · rw [if_pos h2, if_pos (by omega)]
      · rw [if_neg h2, if_neg (by omega), hrat]
        unfold eOf
        rw [if_neg h1, hn]
        rw [show (n : Int) - 1022 - 52 = (n : Int) - 1074 by omega, show ((n : Int) - 1074 + 1074).toNat = n by omega]

/-- What rounding to the nearest whole number says. -/
theorem rhe_spec {X D : Nat} (hD : D ≠ 0) : (X = D * rhe X D + X % D ∧ (2 * (X % D) < D ∨ (2 * (X % D) = D ∧ rhe X D % 2 = 0))) ∨ (X + (D - X % D) = D * rhe X D ∧ (D < 2 * (X % D) ∨ (2 * (X % D) = D ∧ rhe X D % 2 = 0))) := by
  have h1 := Nat.div_add_mod X D
  have h2 := Nat.mod_lt X (Nat.pos_of_ne_zero hD)
  unfold rhe
  generalize X / D = q at *
  generalize X % D = r at *
  split
  · rename_i h
    right
    refine ⟨by rw [Nat.mul_add]; omega, ?_⟩
    rcases h with h | ⟨h, h'⟩
    · exact .inl h
    · exact .inr ⟨h, by omega⟩
  · rename_i h
    left
    refine ⟨by omega, ?_⟩
    by_cases hh : 2 * r < D
    · exact .inl hh
    · right; exact ⟨by omega, by omega⟩

theorem rhe_in {X Q m : Nat} {nb ev : Bool} (hQ : Q ≠ 0) (hev : ev = decide (m % 2 = 0)) (h : InI X Q m nb ev) : rhe X (4 * Q) = m := by
  rcases h with ⟨h1, h2⟩ | ⟨h1, h2⟩
  · rw [inS_iff] at h2
    by_cases h0 : X = 4 * Q * m
    · rw [rhe_of (q := m) (r := 0) (by omega) (by omega), if_neg (by omega)]
    · have hm : m ≠ 0 := by intro h'; subst h'; omega
      obtain ⟨k, rfl⟩ : ∃ k, m = k + 1 := ⟨m - 1, by omega⟩
      have e : 4 * Q * (k + 1) = 4 * Q * k + 4 * Q := by rw [Nat.mul_add]; omega
      rw [e] at h1 h2 h0
      have hb : (if nb = true then Q else 2 * Q) ≤ 2 * Q := by split <;> omega
      have hb2 : 4 * Q * k + 4 * Q - X ≤ 2 * Q := by rcases h2 with h2 | h2 <;> omega
      have hb3 : (if nb = true then Q else 2 * Q) < 2 * Q ∨ (if nb = true then Q else 2 * Q) = 2 * Q := by omega
      rw [rhe_of (q := k) (r := X - 4 * Q * k) (by omega) (by omega)]
      rw [if_pos]
      by_cases hh : 4 * Q < 2 * (X - 4 * Q * k)
      · exact .inl hh
      · right
        refine ⟨by omega, ?_⟩
        rcases h2 with h2 | ⟨h2, h3⟩
        · omega
        · rw [hev] at h3
          simp at h3
          omega
  · rw [inS_iff] at h2
    have hb2 : X - 4 * Q * m ≤ 2 * Q := by rcases h2 with h2 | h2 <;> omega
    rw [rhe_of (q := m) (r := X - 4 * Q * m) (by omega) (by omega)]
    rw [if_neg]
    intro hh
    rcases hh with hh | ⟨hh, hh'⟩
    · omega
    · rcases h2 with h2 | ⟨h2, h3⟩
      · omega
      · rw [hev] at h3
        simp at h3
        omega

theorem pow_le_double {b n k : Nat} (h : n < k) : 2 * (b * 2 ^ n) ≤ b * 2 ^ k := by
  obtain ⟨i, rfl⟩ : ∃ i, k = n + 1 + i := ⟨k - (n + 1), by omega⟩
  rw [Nat.pow_add, Nat.pow_succ]
  have : 1 ≤ 2 ^ i := Nat.pow_pos (by omega)
  have := Nat.mul_le_mul_left (b * (2 ^ n * 2)) this
  rw [← Nat.mul_assoc b, ← Nat.mul_assoc b] at *
  omega

theorem in_rnd {a b n m K : Nat} {nb ev : Bool} (ha : a ≠ 0) (hb : b ≠ 0) (hK : K = 1076) (hn : n ≤ 2045) (hm : m < 9007199254740992) (hnm : n = 0 ∨ 4503599627370496 ≤ m) (hnb : nb = decide (m = 4503599627370496 ∧ 1 ≤ n)) (hev : ev = decide (m % 2 = 0))
    (h : InI (a * 2 ^ K) (b * 2 ^ n) m nb ev) : rnd a b = n * 4503599627370496 + m := by
  obtain ⟨k, f1, f2, f3⟩ := rnd_form ha hb hK
  rw [f3]
  clear f3
  generalize a * 2 ^ K = X at *
  have hQ : b * 2 ^ n ≠ 0 := Nat.mul_ne_zero hb (Nat.ne_of_gt (Nat.pow_pos (by omega)))
  have hQk : b * 2 ^ k ≠ 0 := Nat.mul_ne_zero hb (Nat.ne_of_gt (Nat.pow_pos (by omega)))
  have hX1 : X ≤ 4 * (b * 2 ^ n) * m + 2 * (b * 2 ^ n) := by
    rcases h with ⟨h1, _⟩ | ⟨h1, h2⟩
    · omega
    · rw [inS_iff] at h2; rcases h2 with h2 | h2 <;> omega
  rcases Nat.lt_trichotomy n k with hlt | hlt | hlt
  · exfalso
    have hd := pow_le_double (b := b) hlt
    have e := Nat.mul_le_mul_left (4 * (b * 2 ^ n)) (show m ≤ 9007199254740991 by omega)
    omega
  · subst hlt
    rw [if_neg (by omega), rhe_in hQ hev h]
  · have hd := pow_le_double (b := b) hlt
    have hm52 : 4503599627370496 ≤ m := by omega
    by_cases hme : m = 4503599627370496
    · have hnbt : nb = true := by rw [hnb]; simp; omega
      rw [hnbt] at h
      have hX2 : 4 * (b * 2 ^ n) * m ≤ X + b * 2 ^ n := by
        rcases h with ⟨h1, h2⟩ | ⟨h1, h2⟩
        · rw [inS_iff, if_pos rfl] at h2; rcases h2 with h2 | h2 <;> omega
        · omega
      rw [hme] at hX2
      by_cases hk1 : n = k + 1
      · have e2 : b * 2 ^ n = 2 * (b * 2 ^ k) := by rw [hk1, Nat.pow_succ, ← Nat.mul_assoc]; omega
        rw [e2] at hX2
        rw [if_neg (by omega), rhe_of (q := 9007199254740991) (r := X - 4 * (b * 2 ^ k) * 9007199254740991) (by omega) (by omega), if_pos]
        · omega
        · by_cases hh : 4 * (b * 2 ^ k) < 2 * (X - 4 * (b * 2 ^ k) * 9007199254740991)
          · exact .inl hh
          · right; exact ⟨by omega, by decide⟩
      · exfalso
        have hd2 := pow_le_double (b := b) (show k < k + 1 by omega)
        have hd3 := pow_le_double (b := b) (show k + 1 < n by omega)
        omega
    · exfalso
      have e := Nat.mul_le_mul_left (4 * (b * 2 ^ n)) (show 4503599627370497 ≤ m by omega)
      have hb' : (if nb = true then b * 2 ^ n else 2 * (b * 2 ^ n)) ≤ 2 * (b * 2 ^ n) := by split <;> omega
      rcases h with ⟨h1, h2⟩ | ⟨h1, h2⟩
      · rw [inS_iff] at h2; rcases h2 with h2 | h2 <;> omega
      · omega

theorem rnd_in {a b n m K : Nat} {nb ev : Bool} (ha : a ≠ 0) (hb : b ≠ 0) (hK : K = 1076) (hn : n ≤ 2045) (hm : m < 9007199254740992) (hnm : n = 0 ∨ 4503599627370496 ≤ m) (hnb : nb = decide (m = 4503599627370496 ∧ 1 ≤ n)) (hev : ev = decide (m % 2 = 0))
    (h : rnd a b = n * 4503599627370496 + m) : InI (a * 2 ^ K) (b * 2 ^ n) m nb ev := by
  obtain ⟨k, f1, f2, f3⟩ := rnd_form ha hb hK
  rw [f3] at h
  clear f3
  generalize a * 2 ^ K = X at *
  have hQ : b * 2 ^ n ≠ 0 := Nat.mul_ne_zero hb (Nat.ne_of_gt (Nat.pow_pos (by omega)))
  have hQk : b * 2 ^ k ≠ 0 := Nat.mul_ne_zero hb (Nat.ne_of_gt (Nat.pow_pos (by omega)))
  by_cases hk : 2045 < k
  · rw [if_pos hk] at h; exfalso; omega
  · rw [if_neg hk] at h
    have hs := rhe_spec (X := X) (D := 4 * (b * 2 ^ k)) (by omega)
    have hmod := Nat.mod_lt X (show 0 < 4 * (b * 2 ^ k) by omega)
    have hr53 : rhe X (4 * (b * 2 ^ k)) ≤ 9007199254740992 := rhe_le f2
    have hr52 : k = 0 ∨ 4503599627370496 ≤ rhe X (4 * (b * 2 ^ k)) := by
      rcases f1 with f1 | f1
      · exact .inl f1
      · right
        rcases Nat.lt_or_ge (rhe X (4 * (b * 2 ^ k))) 4503599627370496 with h' | h'
        · exfalso
          have e := Nat.mul_le_mul_left (4 * (b * 2 ^ k)) (show rhe X (4 * (b * 2 ^ k)) ≤ 4503599627370495 by omega)
          omega
        · exact h'
    generalize rhe X (4 * (b * 2 ^ k)) = r at *
    rcases (show (k = n ∧ r = m) ∨ (n = k + 1 ∧ r = 9007199254740992 ∧ m = 4503599627370496) by omega) with ⟨rfl, rfl⟩ | ⟨rfl, rfl, rfl⟩
    · rcases hs with ⟨h1, h2⟩ | ⟨h1, h2⟩
      · right
        refine ⟨by omega, ?_⟩
        rw [inS_iff]
        rcases h2 with h2 | ⟨h2, h3⟩
        · left; omega
        · right; exact ⟨by omega, by rw [hev]; simpa using h3⟩
      · left
        have hnbf : nb = false := by
          rw [hnb, decide_eq_false]
          rintro ⟨g1, g2⟩
          rw [g1] at h1
          omega
        rw [hnbf]
        refine ⟨by omega, ?_⟩
        rw [inS_iff]
        simp only [Bool.false_eq_true, if_false]
        rcases h2 with h2 | ⟨h2, h3⟩
        · left; omega
        · right; exact ⟨by omega, by rw [hev]; simpa using h3⟩
    · have e2 : b * 2 ^ (k + 1) = 2 * (b * 2 ^ k) := by rw [Nat.pow_succ, ← Nat.mul_assoc]; omega
      rw [e2]
      have hnbt : nb = true := by rw [hnb]; simp
      have hevt : ev = true := by rw [hev]; rfl
      rw [hnbt, hevt]
      left
      rcases hs with ⟨h1, h2⟩ | ⟨h1, h2⟩
      · exfalso; omega
      · refine ⟨by omega, ?_⟩
        rw [inS_iff]
        simp only [if_true, and_true]
        omega

end Go.Proofs.YthdcceackfdbbaaDoor
