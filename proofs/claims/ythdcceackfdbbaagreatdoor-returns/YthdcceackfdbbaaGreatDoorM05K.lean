import Derived.Test.YthdcceackfdbbaaGreatDoorM04K
import Derived.Test.YthdcceackfdbbaaGreatDoorM03K

/- What shortest reckons; where it begins, and that it ends. Own text. -/
namespace Go.Proofs.YthdcceackfdbbaaGreatDoor
open Go.RowKit

/-- One digit more: the lower, the upper, or neither. -/
def pickO (N B A D : Nat) (ev : Bool) : Option Nat :=
  if inS (N % D) B ev && inS (D - N % D) A ev then some (N / D + nearS (N / D) (N % D) (D - N % D))
  else if inS (N % D) B ev then some (N / D)
  else if inS (D - N % D) A ev then some (N / D + 1)
  else none

def Short (S B A D : Nat) (ev : Bool) (j d : Nat) : Prop :=
  pickO (S * 10 ^ j) (B * 10 ^ j) (A * 10 ^ j) D ev = some d ∧ ∀ i, i < j → pickO (S * 10 ^ i) (B * 10 ^ i) (A * 10 ^ i) D ev = none

theorem pick_hit {N B A D : Nat} {ev : Bool} (hD : D ≠ 0) (h : (D < 2 * A ∧ B = A) ∨ D < A) : pickO N B A D ev ≠ none := by
  have h1 := Nat.mod_lt N (Nat.pos_of_ne_zero hD)
  have h2 : inS (N % D) B ev = true ∨ inS (D - N % D) A ev = true := by
    unfold inS
    rcases h with ⟨h, rfl⟩ | h
    · by_cases hb : N % D < B
      · left; simp [hb]
      · right; have : D - N % D < B := by omega
        simp [this]
    · right; by_cases h0 : D - N % D < A
      · simp [h0]
      · omega
  unfold pickO
  cases hx : inS (N % D) B ev <;> cases hy : inS (D - N % D) A ev <;> simp_all

theorem pick_17 {S B A D : Nat} {ev : Bool} (hD : D ≠ 0) (h0 : D ≤ S) (h : (S ≤ 18014398509481984 * A ∧ B = A) ∨ S ≤ 9007199254740992 * A) : pickO (S * 10 ^ 16) (B * 10 ^ 16) (A * 10 ^ 16) D ev ≠ none := by
  refine pick_hit hD ?_
  rcases h with ⟨h, rfl⟩ | h
  · left; exact ⟨by omega, rfl⟩
  · right; omega

/-- Is the power that is guessed not above the size's? -/
def gchk (k : Nat) : Bool := Nat.ble (10 ^ (gS ((k : Int) - 1074)).toNat * 2 ^ (-((k : Int) - 1074)).toNat) (2 ^ ((k : Int) - 1074).toNat * 10 ^ (-(gS ((k : Int) - 1074))).toNat)

theorem gchk_all : (List.range 2098).all gchk = true := by kernel_rfl

theorem gchk_of {t : Int} (h1 : -1074 ≤ t) (h2 : t ≤ 1023) : 10 ^ (gS t).toNat * 2 ^ (-t).toNat ≤ 2 ^ t.toNat * 10 ^ (-(gS t)).toNat := by
  have h := (List.all_eq_true.1 gchk_all) (t + 1074).toNat (by rw [List.mem_range]; omega)
  unfold gchk at h
  rw [show (((t + 1074).toNat : Nat) : Int) - 1074 = t by omega] at h
  exact Nat.le_of_ble_eq_true h

theorem gS_bd {t : Int} (h1 : -1074 ≤ t) (h2 : t ≤ 1023) : -400 ≤ gS t ∧ gS t ≤ 400 := by unfold gS; omega

def tS (s : Nat) : Int := (bl (mS s) : Int) - 1 + eS s

theorem mS_ne {s : Nat} (h : s ≠ 0) : mS s ≠ 0 := by unfold mS; split <;> omega

theorem tS_bd {s : Nat} (h0 : s ≠ 0) (h : s < 9218868437227405312) : -1074 ≤ tS s ∧ tS s ≤ 1023 := by
  have := eS_bd h
  have h1 := bl_pos (mS_ne h0)
  have h2 := bl_le (n := mS s) (k := 53) (mS_lt s)
  unfold tS
  omega

theorem guess_low {s : Nat} (h0 : s ≠ 0) (h : s < 9218868437227405312) : oneS s * 10 ^ (gS (tS s)).toNat ≤ sizeS s * 10 ^ (-(gS (tS s))).toNat := by
  obtain ⟨h1, h2⟩ := tS_bd h0 h
  have hc := gchk_of h1 h2
  have hb := bl_lo (mS_ne h0)
  have hp := bl_pos (mS_ne h0)
  unfold oneS sizeS qS
  generalize 10 ^ (gS (tS s)).toNat = X at *
  generalize 10 ^ (-(gS (tS s))).toNat = Y at *
  have ht : tS s = ((bl (mS s) - 1 : Nat) : Int) + eS s := by unfold tS; omega
  generalize mS s = m at *
  generalize eS s = e at *
  generalize tS s = t at *
  generalize bl m - 1 = b at *
  subst ht
  have key : X * 2 ^ (-e).toNat ≤ 2 ^ b * 2 ^ e.toNat * Y := by
    by_cases he : 0 ≤ e
    · rw [show (-e).toNat = 0 by omega]
      rw [show (-((b : Int) + e)).toNat = 0 by omega, show ((b : Int) + e).toNat = b + e.toNat by omega, Nat.pow_add] at hc
      exact hc
    · rw [show e.toNat = 0 by omega]
      by_cases ht : 0 ≤ (b : Int) + e
      · rw [show (-((b : Int) + e)).toNat = 0 by omega] at hc
        have e1 : 2 ^ b = 2 ^ ((b : Int) + e).toNat * 2 ^ (-e).toNat := by rw [← Nat.pow_add]; congr 1; omega
        rw [e1]
        have := Nat.mul_le_mul_right (2 ^ (-e).toNat) hc
        simp only [Nat.pow_zero, Nat.mul_one] at this ⊢
        rw [Nat.mul_right_comm]
        exact this
      · rw [show ((b : Int) + e).toNat = 0 by omega] at hc
        have e1 : 2 ^ (-e).toNat = 2 ^ (-((b : Int) + e)).toNat * 2 ^ b := by rw [← Nat.pow_add]; congr 1; omega
        rw [e1]
        have := Nat.mul_le_mul_right (2 ^ b) hc
        simp only [Nat.pow_zero, Nat.mul_one, Nat.one_mul] at this ⊢
        rw [← Nat.mul_assoc, Nat.mul_comm (2 ^ b) Y]
        exact this
  have k2 : 2 ^ b * 2 ^ e.toNat * Y ≤ m * 2 ^ e.toNat * Y := Nat.mul_le_mul_right _ (Nat.mul_le_mul_right _ hb)
  have k3 := Nat.mul_le_mul_left 4 (Nat.le_trans key k2)
  have e1 : 4 * 2 ^ (-e).toNat * X = 4 * (X * 2 ^ (-e).toNat) := by rw [Nat.mul_assoc, Nat.mul_comm X]
  have e2 : m * (4 * 2 ^ e.toNat) * Y = 4 * (m * 2 ^ e.toNat * Y) := by rw [Nat.mul_left_comm m 4, Nat.mul_assoc]
  rw [e1, e2]
  exact k3

theorem size_above {s : Nat} : (sizeS s ≤ 18014398509481984 * aboveS s ∧ belowS s = aboveS s) ∨ sizeS s ≤ 9007199254740992 * aboveS s := by
  have hm := mS_lt s
  unfold sizeS aboveS belowS
  cases hnb : nbS s
  · left
    refine ⟨?_, by simp⟩
    have : mS s * (4 * qS s) = 2 * mS s * (2 * qS s) := by rw [Nat.mul_comm 2 (mS s), Nat.mul_assoc, show 4 * qS s = 2 * (2 * qS s) by omega]
    rw [this]
    exact Nat.mul_le_mul_right _ (by omega)
  · right
    have hm2 : mS s = 4503599627370496 := by
      unfold nbS at hnb
      simp at hnb
      unfold mS
      rw [if_neg (by omega)]; omega
    rw [hm2]
    omega

theorem size_bl {s : Nat} (h : s < 9218868437227405312) : bl (sizeS s) ≤ 1030 ∧ bl (belowS s) ≤ 975 ∧ bl (aboveS s) ≤ 975 ∧ bl (oneS s) ≤ 1080 := by
  have hq := qS_bl h
  have he := eS_bd h
  have h4 : bl 4 ≤ 3 := bl_le (n := 4) (k := 3) (by omega)
  have h2 : bl 2 ≤ 2 := bl_le (n := 2) (k := 2) (by omega)
  have hm := bl_le (n := mS s) (k := 53) (mS_lt s)
  have a1 := bl_mul 4 (qS s)
  have a2 := bl_mul (mS s) (4 * qS s)
  have a3 := bl_mul 2 (qS s)
  have a4 := bl_mul 4 (2 ^ (-eS s).toNat)
  have a5 := bl_two (-eS s).toNat
  unfold sizeS belowS aboveS oneS
  refine ⟨by omega, ?_, by omega, by omega⟩
  split <;> omega

theorem one_ne (s : Nat) : oneS s ≠ 0 := by unfold oneS; have : 0 < 2 ^ (-eS s).toNat := Nat.pow_pos (by omega); omega

/-- A round of shortest. -/
theorem round_step {S D u dj j : Nat} (hD : D ≠ 0) (h : u + D * 10 * dj = S * 10 ^ j) : (S * 10 ^ j) / D = dj * 10 + u / D ∧ (S * 10 ^ j) % D = u % D := by
  have h1 := Nat.div_add_mod u D
  have h2 := Nat.mod_lt u (Nat.pos_of_ne_zero hD)
  have h3 : u % D + (dj * 10 + u / D) * D = S * 10 ^ j := by
    rw [← h, Nat.add_mul, Nat.mul_comm (u / D) D]
    have : D * 10 * dj = dj * 10 * D := by rw [Nat.mul_assoc, Nat.mul_comm D, Nat.mul_comm 10 dj]
    omega
  exact div_of h3 h2

theorem round_next {S D u dj j : Nat} (h : u + D * 10 * dj = S * 10 ^ j) : u % D * 10 + D * 10 * (dj * 10 + u / D) = S * 10 ^ (j + 1) := by
  have h1 := Nat.div_add_mod u D
  rw [Nat.pow_succ, ← Nat.mul_assoc, ← h, Nat.add_mul, Nat.mul_add]
  have e1 : D * 10 * (dj * 10) = D * 10 * dj * 10 := by rw [Nat.mul_assoc (D * 10)]
  have e2 : D * 10 * (u / D) = D * (u / D) * 10 := by rw [Nat.mul_right_comm]
  omega

theorem dj_lt {S D u dj j : Nat} (hS : S < 10 * D) (h : u + D * 10 * dj = S * 10 ^ j) : dj < 10 ^ j := by
  have h1 : S * 10 ^ j < 10 * D * 10 ^ j := Nat.mul_lt_mul_of_pos_right hS (Nat.pow_pos (by omega))
  have h2 : D * 10 * dj < D * 10 * 10 ^ j := by rw [Nat.mul_comm D 10] at *; omega
  exact Nat.lt_of_mul_lt_mul_left h2

end Go.Proofs.YthdcceackfdbbaaGreatDoor
/- Walk: shortest. Own text. -/
namespace Go.Proofs.YthdcceackfdbbaaGreatDoor
open Go.RowKit
attribute [local go_sem ↓] Go.wp_at_zero Go.wp_at_succ

theorem scale_any (w : World) (g : Nat) (v0 v1 v2 v3 : Value) (ev : Bool) (s : Nat) (h0 : s ≠ 0) (hs : s < 9218868437227405312) (h : Spn w g v0 v1 v2 v3 ev (sizeS s) (belowS s) (aboveS s) (oneS s)) :
    Calls Tryz.prog 165 #[.pointer (some ⟨g, 0, none⟩), .int .i64 (gS (tS s))] w fun e w' => ∃ (a b : Nat) (v0' v1' v2' v3' : Value), e = .returned (.int .i64 ((b : Int) - a)) ∧ a ≤ 400 ∧ b ≤ 9400 ∧ bl (sizeS s * 10 ^ a) ≤ 9000 ∧
      Spn w' g v0' v1' v2' v3' ev (sizeS s * 10 ^ a) (belowS s * 10 ^ a) (aboveS s * 10 ^ a) (oneS s * 10 ^ b) ∧ oneS s * 10 ^ b ≤ sizeS s * 10 ^ a ∧ sizeS s * 10 ^ a < 10 * (oneS s * 10 ^ b) ∧ Below g w w' := by
  obtain ⟨t1, t2⟩ := tS_bd h0 hs
  obtain ⟨g1, g2⟩ := gS_bd t1 t2
  obtain ⟨l1, l2, l3, l4⟩ := size_bl hs
  have hlow := guess_low h0 hs
  have hone := one_ne s
  generalize gS (tS s) = G at *
  have hbl : ∀ n : Nat, n ≤ 400 → bl (sizeS s * 10 ^ n) ≤ 9000 := by
    intro n hn
    have := bl_mul (sizeS s) (10 ^ n)
    have := ten_bl n
    omega
  by_cases hG : 0 ≤ G
  · obtain ⟨n, rfl⟩ := Int.eq_ofNat_of_zero_le hG
    rw [show ((n : Int)).toNat = n from rfl, show (-(n : Int)).toNat = 0 by omega] at hlow
    refine (scale_up w g v0 v1 v2 v3 ev (sizeS s) (belowS s) (aboveS s) (oneS s) (oneS s * 10 ^ n) n h (by omega) (small_of_bl l4 (by omega)) (by omega) rfl (by simpa using hlow) (Nat.mul_ne_zero hone (Nat.ne_of_gt (ten_pow_pos n)))).mono ?_
    rintro e w' ⟨t, x0, x1, x2, x3, rfl, ht, sp, k1, k2, bb⟩
    rw [Nat.mul_assoc, ← Nat.pow_add] at sp k1 k2
    refine ⟨0, n + t, x0, x1, x2, x3, ret_int (by omega), by omega, by omega, hbl 0 (by omega), ?_, ?_, ?_, bb⟩
    · simpa using sp
    · simpa using k1
    · simpa using k2
  · obtain ⟨n, rfl⟩ : ∃ n : Nat, G = -(n : Int) := ⟨(-G).toNat, by omega⟩
    rw [show (-(n : Int)).toNat = 0 by omega, show (-(-(n : Int))).toNat = n by omega] at hlow
    refine (scale_down w g v0 v1 v2 v3 ev (sizeS s) (belowS s) (aboveS s) _ _ _ (oneS s) n h (by omega) (by omega) (small_of_bl l1 (by omega)) (small_of_bl l2 (by omega)) (small_of_bl l3 (by omega)) (hbl n (by omega)) rfl rfl rfl (by simpa using hlow) hone).mono ?_
    rintro e w' ⟨t, x0, x1, x2, x3, rfl, ht, sp, k1, k2, bb⟩
    exact ⟨n, t, x0, x1, x2, x3, ret_int (by omega), by omega, by omega, hbl n (by omega), sp, k1, k2, bb⟩

theorem pick_both {N B A D : Nat} {ev : Bool} {lo down up : Nat} (h1 : N / D = lo) (h2 : N % D = down) (h3 : D - down = up) (hl : inS down B ev = true) (hu : inS up A ev = true) : pickO N B A D ev = some (lo + nearS lo down up) := by
  unfold pickO; rw [h1, h2, h3, hl, hu]; rfl
theorem pick_lower {N B A D : Nat} {ev : Bool} {lo down up : Nat} (h1 : N / D = lo) (h2 : N % D = down) (h3 : D - down = up) (hl : inS down B ev = true) (hu : inS up A ev = false) : pickO N B A D ev = some lo := by
  unfold pickO; rw [h1, h2, h3, hl, hu]; rfl
theorem pick_upper {N B A D : Nat} {ev : Bool} {lo down up : Nat} (h1 : N / D = lo) (h2 : N % D = down) (h3 : D - down = up) (hl : inS down B ev = false) (hu : inS up A ev = true) : pickO N B A D ev = some (lo + 1) := by
  unfold pickO; rw [h1, h2, h3, hl, hu]; rfl
theorem pick_none {N B A D : Nat} {ev : Bool} {lo down up : Nat} (_h1 : N / D = lo) (h2 : N % D = down) (h3 : D - down = up) (hl : inS down B ev = false) (hu : inS up A ev = false) : pickO N B A D ev = none := by
  unfold pickO; rw [h2, h3, hl, hu]; rfl

theorem Hid.mk' {p : Prop} (h : p) : Hid p := h

theorem nearS_le (a b c : Nat) : nearS a b c ≤ 1 := by unfold nearS; split <;> (try split) <;> omega

theorem nearer_anyI (w : World) (n : Nat) (m : Int) (va vb : Value) (a b : Nat) (ha : Rep w 0 va a) (hb : Rep w 0 vb b) (la : Small a) (hn : n < 18446744073709551616) (hm : m = (n : Int)) :
    Calls Tryz.prog 170 #[.int .u64 m, va, vb] w fun e w' => e = .returned (.int .u64 ((nearS n a b : Nat) : Int)) ∧ ∃ n, w' = w.drewN n := by
  subst hm; exact nearer_any w n va vb a b ha hb la hn

theorem ten_le_16 {j : Nat} (h : j ≤ 16) : 10 ^ j ≤ 10000000000000000 := Nat.le_trans (Nat.pow_le_pow_right (by omega) h) (by decide)

set_option maxRecDepth 20000 in
set_option maxHeartbeats 3200000 in
theorem shortest_any (w : World) (s : Nat) (h0 : s ≠ 0) (hs : s < 9218868437227405312) :
    Calls Tryz.prog 131 #[.int .u64 (s : Int)] w fun e w' => ∃ (a b j d : Nat), e = .returned (.tuple #[.int .u64 (d : Int), .int .i64 ((b : Int) - a - j)]) ∧ a ≤ 400 ∧ b ≤ 9400 ∧ j ≤ 16 ∧
      oneS s * 10 ^ b ≤ sizeS s * 10 ^ a ∧ sizeS s * 10 ^ a < 10 * (oneS s * 10 ^ b) ∧ Short (sizeS s * 10 ^ a) (belowS s * 10 ^ a) (aboveS s * 10 ^ a) (oneS s * 10 ^ b) (decide (s % 2 = 0)) j d ∧ Below w.heap.size w w' := by
  obtain ⟨ev, hev⟩ : ∃ ev, decide (s % 2 = 0) = ev := ⟨_, rfl⟩
  have HEV : Hid (decide (s % 2 = 0) = ev) := hev
  clear hev
  go_enter Tryz.func131, Tryz.ntmps131
  go_wp2_with fail
  refine (spanOf_any _ s hs).mono ?_
  rintro e w1 ⟨v0, v1, v2, v3, rfl, r0, r1, r2, r3, b1⟩
  rw [HEV.out]
  obtain ⟨a0, k0, p0, e0⟩ := r0.form
  obtain ⟨a1, k1, p1, e1⟩ := r1.form
  obtain ⟨a2, k2, p2, e2⟩ := r2.form
  obtain ⟨a3, k3, p3, e3⟩ := r3.form
  subst e0 e1 e2 e3
  have spW : Spn (w1.alloc (.cells #[.slice a0 k0 p0, .slice a1 k1 p1, .slice a2 k2 p2, .slice a3 k3 p3, .bool ev] 232)) w1.heap.size (.slice a0 k0 p0) (.slice a1 k1 p1) (.slice a2 k2 p2) (.slice a3 k3 p3) ev (sizeS s) (belowS s) (aboveS s) (oneS s) := by
    have hb := (Below.refl w1.heap.size w1).alloc (Nat.le_refl _) (.cells #[.slice a0 k0 p0, .slice a1 k1 p1, .slice a2 k2 p2, .slice a3 k3 p3, .bool ev] 232)
    exact ⟨by simp, by intro i; simp, by simp, by simp, by simp, by simp, by simp, (num_old r0 (Nat.le_refl _)).below hb, (num_old r1 (Nat.le_refl _)).below hb, (num_old r2 (Nat.le_refl _)).below hb, (num_old r3 (Nat.le_refl _)).below hb⟩
  have HSPW : Hid (Spn (w1.alloc (.cells #[.slice a0 k0 p0, .slice a1 k1 p1, .slice a2 k2 p2, .slice a3 k3 p3, .bool ev] 232)) w1.heap.size (.slice a0 k0 p0) (.slice a1 k1 p1) (.slice a2 k2 p2) (.slice a3 k3 p3) ev (sizeS s) (belowS s) (aboveS s) (oneS s)) := spW
  have hg1 := b1.size
  have B1 : Below w.heap.size w (w1.alloc (.cells #[.slice a0 k0 p0, .slice a1 k1 p1, .slice a2 k2 p2, .slice a3 k3 p3, .bool ev] 232)) := b1.alloc b1.size _
  have HB1 : Hid (Below w.heap.size w (w1.alloc (.cells #[.slice a0 k0 p0, .slice a1 k1 p1, .slice a2 k2 p2, .slice a3 k3 p3, .bool ev] 232))) := B1
  clear spW r0 r1 r2 r3 b1 B1
  go_wp2_with fail
  refine (guess_any _ s hs).mono ?_
  rintro e w2 ⟨rfl, rfl⟩
  go_wp2_with fail
  refine (scale_any _ w1.heap.size _ _ _ _ ev s h0 hs HSPW.out).mono ?_
  rintro e w3 ⟨a, b, x0, x1, x2, x3, rfl, ha, hb, hbl, sp, hle, hlt, b3⟩
  have HOK : Hid (oneS s * 10 ^ b ≤ sizeS s * 10 ^ a ∧ sizeS s * 10 ^ a < 10 * (oneS s * 10 ^ b)) := ⟨hle, hlt⟩
  have hD0 : oneS s * 10 ^ b ≠ 0 := Nat.mul_ne_zero (one_ne s) (Nat.ne_of_gt (ten_pow_pos b))
  have h17 : (sizeS s * 10 ^ a ≤ 18014398509481984 * (aboveS s * 10 ^ a) ∧ belowS s * 10 ^ a = aboveS s * 10 ^ a) ∨ sizeS s * 10 ^ a ≤ 9007199254740992 * (aboveS s * 10 ^ a) := by
    rcases size_above (s := s) with ⟨q1, q2⟩ | q1
    · left; exact ⟨by rw [← Nat.mul_assoc]; exact Nat.mul_le_mul_right _ q1, by rw [q2]⟩
    · right; rw [← Nat.mul_assoc]; exact Nat.mul_le_mul_right _ q1
  have hbB : bl (belowS s * 10 ^ a) ≤ 3000 := by have := bl_mul (belowS s) (10 ^ a); have := ten_bl a; have := (size_bl hs).2.1; omega
  have hbA : bl (aboveS s * 10 ^ a) ≤ 3000 := by have := bl_mul (aboveS s) (10 ^ a); have := ten_bl a; have := (size_bl hs).2.2.1; omega
  have HSH : Hid (∀ j d, Short (sizeS s * 10 ^ a) (belowS s * 10 ^ a) (aboveS s * 10 ^ a) (oneS s * 10 ^ b) ev j d → Short (sizeS s * 10 ^ a) (belowS s * 10 ^ a) (aboveS s * 10 ^ a) (oneS s * 10 ^ b) (decide (s % 2 = 0)) j d) := fun j d h => by rw [HEV.out]; exact h
  have bw3 : Below w.heap.size w w3 := HB1.out.trans (b3.mono hg1)
  generalize hS1 : sizeS s * 10 ^ a = S1 at *
  generalize hB1 : belowS s * 10 ^ a = B1 at *
  generalize hA1 : aboveS s * 10 ^ a = A1 at *
  generalize hD1 : oneS s * 10 ^ b = D1 at *
  have HS1 : Hid (sizeS s * 10 ^ a = S1) := hS1
  have HB1' : Hid (belowS s * 10 ^ a = B1) := hB1
  have HA1 : Hid (aboveS s * 10 ^ a = A1) := hA1
  have HD1 : Hid (oneS s * 10 ^ b = D1) := hD1
  have HLT : Hid (S1 < 10 * D1) := hlt
  have HLE : Hid (D1 ≤ S1) := hle
  have H17 : Hid ((S1 ≤ 18014398509481984 * A1 ∧ B1 = A1) ∨ S1 ≤ 9007199254740992 * A1) := h17
  have smS : Small S1 := small_of_bl hbl (by omega)
  have smD : Small D1 := smS.le hle
  have smD10 : Small (10 * D1) := by
    have q1 := bl_mul 10 D1
    have q2 := bl_mono hle
    have q3 : bl 10 ≤ 4 := bl_le (n := 10) (k := 4) (by omega)
    exact small_of_bl (k := 9004) (by omega) (by omega)
  clear hS1 hB1 hA1 hD1 hlt hle h17 HSPW HB1 b3
  generalize hgg : w1.heap.size = g at *
  clear hgg
  go_wp2_with fail
  go_loopw [2, 3] (fun dgt pw wr => ∃ (j dj u : Nat) (x0 x1 x2 x3 : Value), j ≤ 16 ∧ dgt = .int .u64 (dj : Int) ∧ pw = .int .i64 ((b : Int) - a - j) ∧ Spn wr g x0 x1 x2 x3 ev u (B1 * 10 ^ j) (A1 * 10 ^ j) D1 ∧ u + D1 * 10 * dj = S1 * 10 ^ j ∧ u < 10 * D1 ∧ (∀ i, i < j → pickO (S1 * 10 ^ i) (B1 * 10 ^ i) (A1 * 10 ^ i) D1 ev = none) ∧ Below w.heap.size w wr) (fun _ pw _ => (intOf pw - ((b : Int) - a - 17)).toNat)
  case atStart => exact ⟨0, 0, S1, x0, x1, x2, x3, by omega, rfl, by simp, by simpa using sp, by simp, HLT.out, by intro i hi; omega, bw3⟩
  case round =>
    obtain ⟨j, dj, u, x0, x1, x2, x3, hj, rfl, rfl, sp, he, hu, hno, hbel⟩ := hrel
    have hdj := dj_lt HLT.out he
    have hdj2 : dj < 10000000000000000 := Nat.lt_of_lt_of_le hdj (ten_le_16 hj)
    obtain ⟨st1, st2⟩ := round_step hD0 he
    have st3 := round_next he
    have HNO : Hid (∀ i, i < j → pickO (S1 * 10 ^ i) (B1 * 10 ^ i) (A1 * 10 ^ i) D1 ev = none) := hno
    have HST1 : Hid (S1 * 10 ^ j / D1 = dj * 10 + u / D1) := st1
    have HST2 : Hid (S1 * 10 ^ j % D1 = u % D1) := st2
    have HST3 : Hid (u % D1 * 10 + D1 * 10 * (dj * 10 + u / D1) = S1 * 10 ^ (j + 1)) := st3
    have smu : Small u := smD10.le (by omega)
    have hq9 : u / D1 ≤ 9 := by have := Nat.div_lt_of_lt_mul (show u < D1 * 10 by omega); omega
    have hmod : u % D1 < D1 := Nat.mod_lt u (by omega)
    have smBj : Small (B1 * 10 ^ j) := by have := bl_mul B1 (10 ^ j); have := ten_bl j; exact small_of_bl (k := 3100) (by omega) (by omega)
    have smAj : Small (A1 * 10 ^ j) := by have := bl_mul A1 (10 ^ j); have := ten_bl j; exact small_of_bl (k := 3100) (by omega) (by omega)
    have HSP : Hid (Spn wr g x0 x1 x2 x3 ev u (B1 * 10 ^ j) (A1 * 10 ^ j) D1) := sp
    have HBE : Hid (Below w.heap.size w wr) := hbel
    have hltr := sp.lt
    have y0 := sp.c0
    have y3 := sp.c3
    have m0 := sp.n0.1
    have m3 := sp.n3.1
    have hgw : w.heap.size ≤ g := hg1
    clear he hu hno st1 st2 st3 hdj sp hbel
    go_wp2_with fail
    refine (digit_any _ x0 x3 u D1 m0 m3 hD0 smu (by omega)).mono ?_
    rintro e w4 ⟨vd, rfl, rd, bd⟩
    have nd := num_new rd hltr
    have sp4 := HSP.out.below bd
    have be4 : Below w.heap.size w w4 := HBE.out.trans (bd.mono HBE.out.size)
    clear HSP HBE y0 y3 m0 m3 bd rd
    have HSP4 : Hid (Spn w4 g x0 x1 x2 x3 ev u (B1 * 10 ^ j) (A1 * 10 ^ j) D1) := sp4
    have HBE4 : Hid (Below w.heap.size w w4) := be4
    have hl4 := sp4.lt
    have y3 := sp4.c3
    have m3 := sp4.n3.1
    have HND : Hid (Num w4 g vd (u % D1)) := nd
    have hdig : u / D1 ≤ 9 := hq9
    generalize hdg : u / D1 = dg at *
    generalize hdn : u % D1 = dn at *
    have HND' := HND
    clear sp4 be4 hdg hdn nd hq9
    have hlo : dj * 10 + dg < 18446744073709551616 := by omega
    go_wp2_with fail
    refine (sub_any _ x3 vd D1 dn m3 HND.out.1 (by omega) hD0 smD).mono ?_
    rintro e w5 ⟨vu, rfl, ru, bu⟩
    have sp5 := HSP4.out.below bu
    have nd5 := HND.out.below bu
    have nu5 := num_new ru hl4
    have be5 : Below w.heap.size w w5 := HBE4.out.trans (bu.mono HBE4.out.size)
    clear HSP4 HBE4 HND HND' y3 m3 hl4 ru bu
    have y1 := sp5.c1
    have y2 := sp5.c2
    have y4 := sp5.c4
    have smdn : Small dn := smD.le (by omega)
    have smup : Small (D1 - dn) := smD.le (by omega)
    obtain ⟨up, hup⟩ : ∃ up, D1 - dn = up := ⟨_, rfl⟩
    rw [hup] at nu5 smup
    have HUP : Hid (D1 - dn = up) := hup
    have HSP5 : Hid (Spn w5 g x0 x1 x2 x3 ev u (B1 * 10 ^ j) (A1 * 10 ^ j) D1) := sp5
    have HND5 : Hid (Num w5 g vd dn) := nd5
    have HNU5 : Hid (Num w5 g vu up) := nu5
    have HBE5 : Hid (Below w.heap.size w w5) := be5
    clear hup sp5 nd5 nu5 be5
    obtain ⟨Bj, hBj⟩ : ∃ Bj, B1 * 10 ^ j = Bj := ⟨_, rfl⟩
    obtain ⟨Aj, hAj⟩ : ∃ Aj, A1 * 10 ^ j = Aj := ⟨_, rfl⟩
    rw [hBj] at smBj HSP5
    rw [hAj] at smAj HSP5
    have HBJ : Hid (B1 * 10 ^ j = Bj) := hBj
    have HAJ : Hid (A1 * 10 ^ j = Aj) := hAj
    clear hBj hAj
    have hw1 : ∀ n, Calls Tryz.prog 169 #[.pointer (some ⟨g, 0, none⟩), vd, x1] (w5.drewN n) fun e w'' => e = .returned (.bool (inS dn Bj ev)) ∧ ∃ m, w'' = w5.drewN m := fun n => Calls.quiet_of (within_any _ g vd x1 dn Bj ev (HND5.out.drewN _).1 (HSP5.out.drewN _).n1.1 smdn (HSP5.out.drewN _).c4)
    have hw2 : ∀ n, Calls Tryz.prog 169 #[.pointer (some ⟨g, 0, none⟩), vu, x2] (w5.drewN n) fun e w'' => e = .returned (.bool (inS up Aj ev)) ∧ ∃ m, w'' = w5.drewN m := fun n => Calls.quiet_of (within_any _ g vu x2 up Aj ev (HNU5.out.drewN _).1 (HSP5.out.drewN _).n2.1 smup (HSP5.out.drewN _).c4)
    have HW1 := Hid.mk' hw1
    have HW2 := Hid.mk' hw2
    clear hw1 hw2
    go_wp2_with fail
    go_quiet (first
      | (go_at_call 169; with_reducible exact HW1.out _)
      | (go_at_call 169; with_reducible exact HW2.out _))
    clear HW1 HW2
    have HSP6 := Hid.mk' (HSP5.out.drewN nq)
    have HND6 := Hid.mk' (HND5.out.drewN nq)
    have HNU6 := Hid.mk' (HNU5.out.drewN nq)
    have HBE6 := Hid.mk' (below_drewN HBE5.out nq)
    clear HSP5 HND5 HNU5 HBE5
    generalize w5.drewN nq = w6 at *
    cases hl : inS dn Bj ev <;> cases hu : inS up Aj ev
    · have sp6 := HSP6.out
      have z0 := sp6.c0
      have z1 := sp6.c1
      have z2 := sp6.c2
      have m1 := sp6.n1
      have m2 := sp6.n2
      have hl6 := sp6.lt
      have fr6 := sp6.fr
      have m6 := HND6.out
      clear sp6
      have hj16 : j < 16 := by
        rcases Nat.lt_or_eq_of_le hj with h' | h'
        · exact h'
        · exfalso
          have hp := pick_none (ev := ev) (A := A1 * 10 ^ j) (B := B1 * 10 ^ j) HST1.out HST2.out HUP.out (by rw [HBJ.out]; exact hl) (by rw [HAJ.out]; exact hu)
          rw [h'] at hp
          exact pick_17 hD0 HLE.out H17.out hp
      go_wp2_with fail
      go_region_with
        (first
          | (go_at_call_of 171 vd; refine (tenfold_any _ vd dn (m6.1.below (Below.refl _ _).drew) smdn).mono ?_; rintro e wA ⟨vA, rfl, rA, bA⟩; obtain ⟨aA, kA, pA, eA⟩ := rA.form; subst eA; have bA' := (Below.refl _ _).drew.trans bA; have spA := HSP6.out.below bA'; have cA1 := spA.c1; have cA2 := spA.c2)
          | (go_at_call_of 171 x1; refine (tenfold_any _ x1 Bj (m1.1.below bA') smBj).mono ?_; rintro e wB ⟨vB, rfl, rB, bB⟩; obtain ⟨aB, kB, pB, eB⟩ := rB.form; subst eB; have spB := spA.below bB; have cB2 := spB.c2)
          | (go_at_call_of 171 x2; refine (tenfold_any _ x2 Aj ((m2.1.below bA').below bB) smAj).mono ?_; rintro e wC ⟨vC, rfl, rC, bC⟩; obtain ⟨aC, kC, pC, eC⟩ := rC.form; subst eC; have spC := spB.below bC; have cC0 := spC.c0; have cC1 := spC.c1; have cC2 := spC.c2; have fC := spC.fr))
      all_goals
        have nA := ((num_new rA hl6).below bB).below bC
        have nB := (num_new rB spA.lt).below bC
        have nC := num_new rC spB.lt
        have SPF := Hid.mk' (((spC.set0 nA).set1 (nB.set 0 (.slice aA kA pA))).set2 ((nC.set 0 (.slice aA kA pA)).set 1 (.slice aB kB pB)))
        have bC6 : Below w6.heap.size w6 wC := (bA'.trans (bB.mono bA'.size)).trans (bC.mono (Nat.le_trans bA'.size bB.size))
        have BEF := Hid.mk' ((((HBE6.out.trans (bC6.mono HBE6.out.size)).setCell (p := ⟨g, 0, none⟩) hgw (.slice aA kA pA)).setCell (p := ⟨g, 1, none⟩) hgw (.slice aB kB pB)).setCell (p := ⟨g, 2, none⟩) hgw (.slice aC kC pC))
        clear nA nB nC spA spB spC bA bA' bB bC rA rB rC bC6
        go_wp2
        go_roundw
        case rel =>
          refine ⟨j + 1, dj * 10 + dg, dn * 10, .slice aA kA pA, .slice aB kB pB, .slice aC kC pC, x3, by omega, by go_num, by go_num, ?_, HST3.out, by omega, ?_, BEF.out⟩
          · rw [Nat.pow_succ, ← Nat.mul_assoc, ← Nat.mul_assoc, HBJ.out, HAJ.out]; exact SPF.out
          · intro i hi
            rcases Nat.lt_or_eq_of_le (Nat.le_of_lt_succ hi) with h' | h'
            · exact HNO.out i h'
            · rw [h']
              exact pick_none HST1.out HST2.out HUP.out (by rw [HBJ.out]; exact hl) (by rw [HAJ.out]; exact hu)
        case measure => simp [intOf]; omega
    · go_wp2
      go_ret2
      refine ⟨a, b, j, dj * 10 + dg + 1, tup2 (by omega) (by omega), ha, hb, hj, ?_⟩
      rw [HS1.out, HB1'.out, HA1.out, HD1.out]
      refine ⟨HOK.out.1, HOK.out.2, HSH.out _ _ ⟨?_, HNO.out⟩, HBE6.out⟩
      rw [HBJ.out, HAJ.out]
      exact pick_upper HST1.out HST2.out HUP.out hl hu
    · go_wp2
      go_ret2
      refine ⟨a, b, j, dj * 10 + dg, tup2 (by omega) (by omega), ha, hb, hj, ?_⟩
      rw [HS1.out, HB1'.out, HA1.out, HD1.out]
      refine ⟨HOK.out.1, HOK.out.2, HSH.out _ _ ⟨?_, HNO.out⟩, HBE6.out⟩
      rw [HBJ.out, HAJ.out]
      exact pick_lower HST1.out HST2.out HUP.out hl hu
    · go_wp2_with fail
      refine (nearer_anyI _ (dj * 10 + dg) _ vd vu dn up HND6.out.1 HNU6.out.1 smdn hlo (by omega)).mono ?_
      rintro e w7 ⟨rfl, n7, rfl⟩
      have hne := nearS_le (dj * 10 + dg) dn up
      generalize hnr : nearS (dj * 10 + dg) dn up = nr at *
      have HNR : Hid (nearS (dj * 10 + dg) dn up = nr) := hnr
      clear hnr
      go_wp2
      go_ret2
      refine ⟨a, b, j, dj * 10 + dg + nr, tup2 (by omega) (by omega), ha, hb, hj, ?_⟩
      rw [HS1.out, HB1'.out, HA1.out, HD1.out]
      refine ⟨HOK.out.1, HOK.out.2, HSH.out _ _ ⟨?_, HNO.out⟩, below_drewN HBE6.out n7⟩
      rw [HBJ.out, HAJ.out, ← HNR.out]
      exact pick_both HST1.out HST2.out HUP.out hl hu

end Go.Proofs.YthdcceackfdbbaaGreatDoor
/- Plain mathematics: a number's text taken apart. Own text. -/
namespace Go.Proofs.YthdcceackfdbbaaGreatDoor

theorem takeWhile_at {α : Type} {p : α → Bool} {l : List α} {k : Nat} (h1 : ∀ x ∈ l.take k, p x = true) (h2 : ∀ x, l[k]? = some x → p x = false) : l.takeWhile p = l.take k ∧ l.dropWhile p = l.drop k := by
  induction l generalizing k with
  | nil => simp
  | cons a r ih =>
    cases k with
    | zero =>
      have := h2 a (by simp)
      simp [this]
    | succ k =>
      have ha := h1 a (by simp)
      obtain ⟨e1, e2⟩ := ih (k := k) (fun x hx => h1 x (by simp [hx])) (fun x hx => h2 x (by simpa using hx))
      simp [ha, e1, e2]

/-- A sign ahead. -/
def signL : List UInt8 → Bool × List UInt8
  | [] => (false, [])
  | c :: r => if c = 43 then (false, r) else if c = 45 then (true, r) else (false, c :: r)

/-- What small powers tell, and of great ones some thousands. -/
def smallW (l : List UInt8) : Nat := l.foldl (fun v c => if v < 1000 then v * 10 + (c.toNat - 48) else v) 0

theorem smallW_snoc (l : List UInt8) (c : UInt8) : smallW (l ++ [c]) = if smallW l < 1000 then smallW l * 10 + (c.toNat - 48) else smallW l := by unfold smallW; rw [List.foldl_append]; rfl

theorem smallW_le {l : List UInt8} (h : Digs l) : smallW l ≤ 10000 := by
  induction l using list_snoc_ind with
  | h0 => simp [smallW]
  | h1 l c ih =>
    obtain ⟨h1, h2⟩ := digs_snoc h
    have := ih h1
    have := isDig_bd h2
    rw [smallW_snoc]
    split <;> omega

theorem smallW_stay (l r : List UInt8) (h : 1000 ≤ smallW l) : smallW (l ++ r) = smallW l := by
  induction r using list_snoc_ind with
  | h0 => simp
  | h1 r c ih => rw [← List.append_assoc, smallW_snoc, ih, if_neg (by omega)]

/-- What stands behind the digits. -/
def powL : List UInt8 → Option Int
  | [] => some 0
  | c :: r =>
    if c = 101 ∨ c = 69 then
      (if (signL r).2.takeWhile isDig = [] ∨ (signL r).2.dropWhile isDig ≠ [] then none
       else some (if (signL r).1 then -(smallW ((signL r).2.takeWhile isDig) : Int) else (smallW ((signL r).2.takeWhile isDig) : Int)))
    else none

/-- The digits behind a point, and what stands behind them. -/
def fracL : List UInt8 → List UInt8 × List UInt8
  | [] => ([], [])
  | c :: r => if c = 46 then (r.takeWhile isDig, r.dropWhile isDig) else ([], c :: r)

/-- Digits without noughts ahead, and the power of ten. -/
def decL (l : List UInt8) : Option (List UInt8 × Int) :=
  if l.takeWhile isDig ++ (fracL (l.dropWhile isDig)).1 = [] then none
  else (powL (fracL (l.dropWhile isDig)).2).map fun p => ((l.takeWhile isDig ++ (fracL (l.dropWhile isDig)).1).dropWhile (· == 48), p - (fracL (l.dropWhile isDig)).1.length)

/-- The answer, out of the digits and the sign. -/
def finL : Option (List UInt8 × Int) → Bool → Nat × Nat
  | none, _ => (0, 1)
  | some dp, m => (decRnd (dval dp.1) dp.2 + (if m then 9223372036854775808 else 0), 0)

/-- The number that a text tells, and the error. -/
def scanL (l : List UInt8) : Nat × Nat :=
  if 60 < l.length then (0, 1)
  else if l = [105, 110, 102] ∨ l = [43, 105, 110, 102] then (9218868437227405312, 0)
  else if l = [45, 105, 110, 102] then (18442240474082181120, 0)
  else if l = [110, 97, 110] then (9221120237041090560, 0)
  else finL (decL (signL l).2) (signL l).1

end Go.Proofs.YthdcceackfdbbaaGreatDoor
/- Walks: cutSign, cutDigits, smallWhole. Own text. -/
namespace Go.Proofs.YthdcceackfdbbaaGreatDoor
open Go.RowKit

theorem extract_take (s : ByteArray) (n : Nat) : (s.extract 0 n).data.toList = s.data.toList.take n := by
  rw [Lib.extract_data]; simp
theorem extract_drop (s : ByteArray) (n : Nat) : (s.extract n s.size).data.toList = s.data.toList.drop n := by
  rw [Lib.extract_data, List.take_of_length_le]
  simp

set_option maxHeartbeats 400000 in
theorem cutDigits_any (w : World) (s : ByteArray) (hs : s.size ≤ 1000) :
    Calls Tryz.prog 153 #[.string s] w fun e w' => ∃ d r : ByteArray, e = .returned (.tuple #[.string d, .string r]) ∧ d.data.toList = s.data.toList.takeWhile isDig ∧ r.data.toList = s.data.toList.dropWhile isDig ∧ ∃ n, w' = w.drewN n := by
  have hsz : s.data.toList.length = s.size := by simp
  have HSZ : Hid (s.data.toList.length = s.size) := hsz
  clear hsz
  go_enter Tryz.func153, Tryz.ntmps153
  go_wp2
  go_loop [4] (fun i => ∃ k : Nat, k ≤ s.size ∧ i = .int .i64 k ∧ ∀ x ∈ s.data.toList.take k, isDig x = true) (fun i => s.size - (intOf i).toNat)
  case atStart => exact ⟨0, Nat.zero_le _, rfl, by simp⟩
  case round =>
    obtain ⟨k, hk, rfl, hall⟩ := hrel
    have HALL : Hid (∀ x ∈ s.data.toList.take k, isDig x = true) := hall
    clear hall
    by_cases hlt : k < s.size
    · have hg := take_get hlt
      have HG : Hid (s.data.toList[k]? = some s[k]) := hg
      clear hg
      by_cases hdg : 48 ≤ s[k].toNat ∧ s[k].toNat ≤ 57
      · obtain ⟨h1, h2⟩ := hdg
        go_wp2
        go_round
        case rel =>
          refine ⟨k + 1, by omega, by go_num, ?_⟩
          intro x hx
          rw [take_snoc_get HG.out] at hx
          rcases List.mem_append.1 hx with h | h
          · exact HALL.out x h
          · simp at h; subst h; simp [isDig]; omega
        case measure => simp [intOf]; omega
      · have HD : Hid (¬ (48 ≤ s[k].toNat ∧ s[k].toNat ≤ 57)) := hdg
        have fin := takeWhile_at (p := isDig) (l := s.data.toList) (k := k) HALL.out (fun x hx => by
          rw [HG.out] at hx; cases hx; simp only [isDig]; have := HD.out; simp; omega)
        have HF : Hid (s.data.toList.takeWhile isDig = s.data.toList.take k ∧ s.data.toList.dropWhile isDig = s.data.toList.drop k) := fin
        clear fin hdg
        by_cases h1 : 48 ≤ s[k].toNat
        · have h2 : 57 < s[k].toNat := by have := HD.out; omega
          go_wp2
          go_quiet (fail)
          go_wp2
          go_ret2
          exact ⟨_, _, rfl, by rw [HF.out.1]; exact extract_take _ _, by rw [HF.out.2]; exact extract_drop _ _, _, rfl⟩
        · go_wp2
          go_quiet (fail)
          go_wp2
          go_ret2
          exact ⟨_, _, rfl, by rw [HF.out.1]; exact extract_take _ _, by rw [HF.out.2]; exact extract_drop _ _, _, rfl⟩
    · have fin := takeWhile_at (p := isDig) (l := s.data.toList) (k := k) HALL.out (fun x hx => by
          have := (List.getElem?_eq_some_iff.1 hx).1; have := HSZ.out; omega)
      have HF : Hid (s.data.toList.takeWhile isDig = s.data.toList.take k ∧ s.data.toList.dropWhile isDig = s.data.toList.drop k) := fin
      clear fin
      go_wp2
      go_quiet (fail)
      go_wp2
      go_ret2
      exact ⟨_, _, rfl, by rw [HF.out.1]; exact extract_take _ _, by rw [HF.out.2]; exact extract_drop _ _, _, rfl⟩

set_option maxRecDepth 5000 in
set_option maxHeartbeats 400000 in
theorem smallWhole_any (w : World) (s : ByteArray) (hd : Digs s.data.toList) (hs : s.size ≤ 1000) :
    Calls Tryz.prog 188 #[.string s] w fun e w' => e = .returned (.int .i64 ((smallW s.data.toList : Nat) : Int)) ∧ w' = w := by
  have hsz : s.data.toList.length = s.size := by simp
  have HSZ : Hid (s.data.toList.length = s.size) := hsz
  clear hsz
  go_enter Tryz.func188, Tryz.ntmps188
  go_wp2
  go_loop [3, 4] (fun v i => ∃ k : Nat, k ≤ s.size ∧ i = .int .i64 k ∧ v = .int .i64 ((smallW (s.data.toList.take k) : Nat) : Int)) (fun _ i => s.size - (intOf i).toNat)
  case atStart => exact ⟨0, Nat.zero_le _, rfl, rfl⟩
  case round =>
    obtain ⟨k, hk, rfl, rfl⟩ := hrel
    have hle := smallW_le (l := s.data.toList.take k) (fun x hx => hd x (List.mem_of_mem_take hx))
    generalize hV : smallW (s.data.toList.take k) = V at *
    have HV : Hid (smallW (s.data.toList.take k) = V) := hV
    clear hV
    by_cases hlt : k < s.size
    · have hg := take_get hlt
      have hb := isDig_bd (hd _ (List.mem_of_getElem? hg))
      have HG : Hid (s.data.toList[k]? = some s[k]) := hg
      have HB : Hid (48 ≤ s[k].toNat ∧ s[k].toNat ≤ 57) := hb
      clear hg hb
      by_cases hv : V < 1000
      · go_wp2
        go_round
        case rel =>
          refine ⟨k + 1, by omega, by go_num, ?_⟩
          rw [take_snoc_get HG.out, smallW_snoc, HV.out, if_pos hv]
          have := HB.out
          go_num
        case measure => simp [intOf]; omega
      · go_wp2
        go_ret
        refine ⟨ret_int ?_, rfl⟩
        have := smallW_stay (s.data.toList.take k) (s.data.toList.drop k) (by rw [HV.out]; omega)
        rw [List.take_append_drop, HV.out] at this
        rw [this]
    · go_wp2
      go_ret
      refine ⟨ret_int ?_, rfl⟩
      have e := HV.out
      rw [List.take_of_length_le (by rw [HSZ.out]; omega)] at e
      rw [e]

end Go.Proofs.YthdcceackfdbbaaGreatDoor
