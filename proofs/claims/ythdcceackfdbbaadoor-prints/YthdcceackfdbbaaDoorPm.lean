/- What shortest reckons; where it begins, and that it ends. Own text. -/
import Derived.Test.YthdcceackfdbbaaDoorPc
namespace Go.Proofs.YthdcceackfdbbaaDoor
open Go.RowKit

/-- One digit more: the lower, the upper, or neither. -/
def pickO (N B A D : Nat) (ev : Bool) : Option Nat :=
  if inS (N % D) B ev && inS (D - N % D) A ev then some (N / D + nearS (N / D) (N % D) (D - N % D))
  else if inS (N % D) B ev then some (N / D)
  else if inS (D - N % D) A ev then some (N / D + 1)
  else none

def Short (S B A D : Nat) (ev : Bool) (j d : Nat) : Prop :=
  pickO (S * 10 ^ j) (B * 10 ^ j) (A * 10 ^ j) D ev = some d ∧ ∀ i, i < j → pickO (S * 10 ^ i) (B * 10 ^ i) (A * 10 ^ i) D ev = none

theorem pick_hit {N B A D : Nat} {ev : Bool} (hD : D ≠ 0) (h : (D < 2 * A ∧ B = A) ∨ D < A) : pickO N B A D ev ≠ none := by
  have h1 := Nat.mod_lt N (Nat.pos_of_ne_zero hD)
  have h2 : inS (N % D) B ev = true ∨ inS (D - N % D) A ev = true := by
    unfold inS
    rcases h with ⟨h, rfl⟩ | h
    · by_cases hb : N % D < B
      · left; simp [hb]
      · right; have : D - N % D < B := by omega
        simp [this]
    · right; by_cases h0 : D - N % D < A
      · simp [h0]
      · omega
  unfold pickO
  cases hx : inS (N % D) B ev <;> cases hy : inS (D - N % D) A ev <;> simp_all

theorem pick_17 {S B A D : Nat} {ev : Bool} (hD : D ≠ 0) (h0 : D ≤ S) (h : (S ≤ 18014398509481984 * A ∧ B = A) ∨ S ≤ 9007199254740992 * A) : pickO (S * 10 ^ 16) (B * 10 ^ 16) (A * 10 ^ 16) D ev ≠ none := by
  refine pick_hit hD ?_
  rcases h with ⟨h, rfl⟩ | h
  · left; exact ⟨by omega, rfl⟩
  · right; omega

/-- Is the power that is guessed not above the size's? -/
def gchk (k : Nat) : Bool := Nat.ble (10 ^ (gS ((k : Int) - 1074)).toNat * 2 ^ (-((k : Int) - 1074)).toNat) (2 ^ ((k : Int) - 1074).toNat * 10 ^ (-(gS ((k : Int) - 1074))).toNat)

theorem gchk_all : (List.range 2098).all gchk = true := by kernel_rfl

theorem gchk_of {t : Int} (h1 : -1074 ≤ t) (h2 : t ≤ 1023) : 10 ^ (gS t).toNat * 2 ^ (-t).toNat ≤ 2 ^ t.toNat * 10 ^ (-(gS t)).toNat := by
  have h := (List.all_eq_true.1 gchk_all) (t + 1074).toNat (by rw [List.mem_range]; omega)
  unfold gchk at h
  rw [show (((t + 1074).toNat : Nat) : Int) - 1074 = t by omega] at h
  exact Nat.le_of_ble_eq_true h

theorem gS_bd {t : Int} (h1 : -1074 ≤ t) (h2 : t ≤ 1023) : -400 ≤ gS t ∧ gS t ≤ 400 := by unfold gS; omega

def tS (s : Nat) : Int := (bl (mS s) : Int) - 1 + eS s

theorem mS_ne {s : Nat} (h : s ≠ 0) : mS s ≠ 0 := by unfold mS; split <;> omega

theorem tS_bd {s : Nat} (h0 : s ≠ 0) (h : s < 9218868437227405312) : -1074 ≤ tS s ∧ tS s ≤ 1023 := by
  have := eS_bd h
  have h1 := bl_pos (mS_ne h0)
  have h2 := bl_le (n := mS s) (k := 53) (mS_lt s)
  unfold tS
  omega

theorem guess_low {s : Nat} (h0 : s ≠ 0) (h : s < 9218868437227405312) : oneS s * 10 ^ (gS (tS s)).toNat ≤ sizeS s * 10 ^ (-(gS (tS s))).toNat := by
  obtain ⟨h1, h2⟩ := tS_bd h0 h
  have hc := gchk_of h1 h2
  have hb := bl_lo (mS_ne h0)
  have hp := bl_pos (mS_ne h0)
  unfold oneS sizeS qS
  generalize 10 ^ (gS (tS s)).toNat = X at *
  generalize 10 ^ (-(gS (tS s))).toNat = Y at *
  have ht : tS s = ((bl (mS s) - 1 : Nat) : Int) + eS s := by unfold tS; omega
  generalize mS s = m at *
  generalize eS s = e at *
  generalize tS s = t at *
  generalize bl m - 1 = b at *
  subst ht
  have key : X * 2 ^ (-e).toNat ≤ 2 ^ b * 2 ^ e.toNat * Y := by
    by_cases he : 0 ≤ e
    · rw [show (-e).toNat = 0 by omega]
      rw [show (-((b : Int) + e)).toNat = 0 by omega, show ((b : Int) + e).toNat = b + e.toNat by omega, Nat.pow_add] at hc
      exact hc
    · rw [show e.toNat = 0 by omega]
      by_cases ht : 0 ≤ (b : Int) + e
      · rw [show (-((b : Int) + e)).toNat = 0 by omega] at hc
        have e1 : 2 ^ b = 2 ^ ((b : Int) + e).toNat * 2 ^ (-e).toNat := by rw [← Nat.pow_add]; congr 1; omega
        rw [e1]
        have := Nat.mul_le_mul_right (2 ^ (-e).toNat) hc
        simp only [Nat.pow_zero, Nat.mul_one] at this ⊢
        rw [Nat.mul_right_comm]
        exact this
      · rw [show ((b : Int) + e).toNat = 0 by omega] at hc
        have e1 : 2 ^ (-e).toNat = 2 ^ (-((b : Int) + e)).toNat * 2 ^ b := by rw [← Nat.pow_add]; congr 1; omega
        rw [e1]
        have := Nat.mul_le_mul_right (2 ^ b) hc
        simp only [Nat.pow_zero, Nat.mul_one, Nat.one_mul] at this ⊢
        rw [← Nat.mul_assoc, Nat.mul_comm (2 ^ b) Y]
        exact this
  have k2 : 2 ^ b * 2 ^ e.toNat * Y ≤ m * 2 ^ e.toNat * Y := Nat.mul_le_mul_right _ (Nat.mul_le_mul_right _ hb)
  have k3 := Nat.mul_le_mul_left 4 (Nat.le_trans key k2)
  have e1 : 4 * 2 ^ (-e).toNat * X = 4 * (X * 2 ^ (-e).toNat) := by rw [Nat.mul_assoc, Nat.mul_comm X]
  have e2 : m * (4 * 2 ^ e.toNat) * Y = 4 * (m * 2 ^ e.toNat * Y) := by rw [Nat.mul_left_comm m 4, Nat.mul_assoc]
  rw [e1, e2]
  exact k3

theorem size_above {s : Nat} : (sizeS s ≤ 18014398509481984 * aboveS s ∧ belowS s = aboveS s) ∨ sizeS s ≤ 9007199254740992 * aboveS s := by
  have hm := mS_lt s
  unfold sizeS aboveS belowS
  cases hnb : nbS s
  · left
    refine ⟨?_, by simp⟩
    have : mS s * (4 * qS s) = 2 * mS s * (2 * qS s) := by rw [Nat.mul_comm 2 (mS s), Nat.mul_assoc, show 4 * qS s = 2 * (2 * qS s) by omega]
    rw [this]
    exact Nat.mul_le_mul_right _ (by omega)
  · right
    have hm2 : mS s = 4503599627370496 := by
      unfold nbS at hnb
      simp at hnb
      unfold mS
      rw [if_neg (by omega)]; omega
    rw [hm2]
    omega

theorem size_bl {s : Nat} (h : s < 9218868437227405312) : bl (sizeS s) ≤ 1030 ∧ bl (belowS s) ≤ 975 ∧ bl (aboveS s) ≤ 975 ∧ bl (oneS s) ≤ 1080 := by
  have hq := qS_bl h
  have he := eS_bd h
  have h4 : bl 4 ≤ 3 := bl_le (n := 4) (k := 3) (by omega)
  have h2 : bl 2 ≤ 2 := bl_le (n := 2) (k := 2) (by omega)
  have hm := bl_le (n := mS s) (k := 53) (mS_lt s)
  have a1 := bl_mul 4 (qS s)
  have a2 := bl_mul (mS s) (4 * qS s)
  have a3 := bl_mul 2 (qS s)
  have a4 := bl_mul 4 (2 ^ (-eS s).toNat)
  have a5 := bl_two (-eS s).toNat
  unfold sizeS belowS aboveS oneS
  refine ⟨by omega, ?_, by omega, by omega⟩
  split <;> omega

theorem one_ne (s : Nat) : oneS s ≠ 0 := by unfold oneS; have : 0 < 2 ^ (-eS s).toNat := Nat.pow_pos (by omega); omega

/-- A round of shortest. -/
theorem round_step {S D u dj j : Nat} (hD : D ≠ 0) (h : u + D * 10 * dj = S * 10 ^ j) : (S * 10 ^ j) / D = dj * 10 + u / D ∧ (S * 10 ^ j) % D = u % D := by
  have h1 := Nat.div_add_mod u D
  have h2 := Nat.mod_lt u (Nat.pos_of_ne_zero hD)
  have h3 : u % D + (dj * 10 + u / D) * D = S * 10 ^ j := by
    rw [← h, Nat.add_mul, Nat.mul_comm (u / D) D]
    have : D * 10 * dj = dj * 10 * D := by rw [Nat.mul_assoc, Nat.mul_comm D, Nat.mul_comm 10 dj]
    omega
  exact div_of h3 h2

theorem round_next {S D u dj j : Nat} (h : u + D * 10 * dj = S * 10 ^ j) : u % D * 10 + D * 10 * (dj * 10 + u / D) = S * 10 ^ (j + 1) := by
  have h1 := Nat.div_add_mod u D
  rw [Nat.pow_succ, ← Nat.mul_assoc, ← h, Nat.add_mul, Nat.mul_add]
  have e1 : D * 10 * (dj * 10) = D * 10 * dj * 10 := by rw [Nat.mul_assoc (D * 10)]
  have e2 : D * 10 * (u / D) = D * (u / D) * 10 := by rw [Nat.mul_right_comm]
  omega

theorem dj_lt {S D u dj j : Nat} (hS : S < 10 * D) (h : u + D * 10 * dj = S * 10 ^ j) : dj < 10 ^ j := by
  have h1 : S * 10 ^ j < 10 * D * 10 ^ j := Nat.mul_lt_mul_of_pos_right hS (Nat.pow_pos (by omega))
  have h2 : D * 10 * dj < D * 10 * 10 ^ j := by rw [Nat.mul_comm D 10] at *; omega
  exact Nat.lt_of_mul_lt_mul_left h2

end Go.Proofs.YthdcceackfdbbaaDoor
