/- Walks: normalize, roundQuotient. Own text. -/
import Derived.Test.YthdcceackfdbbaaDoorWg
import Derived.Test.YthdcceackfdbbaaDoorRnd
namespace Go.Proofs.YthdcceackfdbbaaDoor
open Go.RowKit

theorem small_of_bl {a k : Nat} (h : bl a ≤ k) (hk : k ≤ 65536) : Small a := Small.of_lt (k := k) (Nat.lt_of_lt_of_le (bl_hi a) (Nat.pow_le_pow_right (by omega) h)) hk

theorem bl_shift (a n : Nat) : bl (a * 2 ^ n) ≤ bl a + n := by
  refine bl_le ?_
  rw [Nat.pow_add]
  exact (Nat.mul_lt_mul_right (Nat.pow_pos (by omega))).2 (bl_hi a)

theorem shift_repI (w : World) (va : Value) (a n : Nat) (m : Int) (ha : Rep w 0 va a) (la : Small a) (hn : n ≤ 100000) (hm : m = (n : Int)) :
    Calls Tryd.prog 79 #[va, .int .i64 m] w fun e w' => ∃ v', e = .returned v' ∧ Rep w' w.heap.size v' (a * 2 ^ n) ∧ Below w.heap.size w w' := by
  subst hm; exact shift_rep w va a n ha la hn

theorem tup3 {a b : Value} {c c' : Int} (h : c = c') : Ending.returned (.tuple #[a, b, .int .i64 c]) = .returned (.tuple #[a, b, .int .i64 c']) := by rw [h]

set_option maxHeartbeats 800000 in
theorem normalize_any (w : World) (va vb : Value) (a b : Nat) (ha : Rep w 0 va a) (hb : Rep w 0 vb b) (ha0 : a ≠ 0) (hb0 : b ≠ 0) (la : bl a ≤ 20000) (lb : bl b ≤ 20000) :
    Calls Tryd.prog 92 #[va, vb] w fun e w' => ∃ (va' vb' : Value) (i j : Nat), e = .returned (.tuple #[va', vb', .int .i64 ((j : Int) - (i : Int))]) ∧ Rep w' 0 va' (a * 2 ^ i) ∧ Rep w' 0 vb' (b * 2 ^ j) ∧
      b * 2 ^ j ≤ a * 2 ^ i ∧ a * 2 ^ i < 2 * (b * 2 ^ j) ∧ i ≤ 20001 ∧ j ≤ 20000 ∧ Below w.heap.size w w' := by
  have sa := small_of_bl la (by omega)
  have sb := small_of_bl lb (by omega)
  generalize hA : bl a = A at *
  generalize hB : bl b = B at *
  have HA : Hid (bl a = A) := hA
  have HB : Hid (bl b = B) := hB
  clear hA hB
  go_enter Tryd.func92, Tryd.ntmps92
  go_wp2_with fail
  refine (bitlen_rep _ _ a ha sa).mono ?_
  rintro e w1 ⟨rfl, n1, rfl⟩
  go_wp2_with fail
  refine (bitlen_rep _ _ b (hb.drewN n1) sb).mono ?_
  rintro e w1 ⟨rfl, n2, rfl⟩
  rw [HA.out, HB.out]
  by_cases hge : B ≤ A
  · obtain ⟨m1, m2⟩ := norm_ge ha0 hb0 (by rw [HA.out, HB.out]; exact hge)
    rw [HA.out, HB.out] at m1 m2
    obtain ⟨d, hd⟩ : ∃ d : Nat, d = A - B := ⟨_, rfl⟩
    rw [← hd] at m1 m2
    have hd2 : d ≤ 20000 := by omega
    have sb2 : Small (b * 2 ^ d) := small_of_bl (Nat.le_trans (bl_shift b d) (by rw [HB.out]; exact Nat.add_le_add lb hd2)) (by omega)
    have M1 : Hid (a < 2 * (b * 2 ^ d)) := m1
    have M2 : Hid (b * 2 ^ d < 2 * a) := m2
    have HD : Hid (d = A - B) := hd
    clear hd m1 m2
    go_wp2_with fail
    refine (shift_repI _ _ b d ((A : Int) - (B : Int)) (hb.drewN (n1 + n2)) sb (by omega) (by have := HD.out; omega)).mono ?_
    rintro e w2 ⟨v2, rfl, r2, b2⟩
    simp only [World.heap_drewN] at b2 r2
    have bb2 : Below w.heap.size w w2 := (below_drewN (Below.refl _ _) (n1 + n2)).trans b2
    go_wp2_with fail
    refine (compare_rep _ _ _ a (b * 2 ^ d) (ha.below bb2) (r2.base (Nat.zero_le _)) sa).mono ?_
    rintro e w3 ⟨rfl, n3, rfl⟩
    by_cases hc : a < b * 2 ^ d
    · rw [cmpI_lt (by omega)]
      have HC : Hid (a < b * 2 ^ d) := hc
      clear hc
      go_wp2_with fail
      refine (shift_rep _ _ a 1 ((ha.below bb2).drewN n3) sa (by omega)).mono ?_
      rintro e w4 ⟨v4, rfl, r4, b4⟩
      simp only [World.heap_drewN] at b4 r4
      go_wp2
      go_ret3
      refine ⟨v4, v2, 1, d, tup3 (by have := HD.out; omega), r4.base (Nat.zero_le _), ((r2.base (Nat.zero_le _)).drewN n3).below (by simpa using b4), ?_, ?_, by omega, by omega, (below_drewN bb2 n3).trans (b4.mono bb2.size)⟩
      · have := M2.out; omega
      · have := HC.out; omega
    · have hcm : (0 : Int) ≤ cmpI (a : Int) ((b * 2 ^ d : Nat) : Int) := by unfold cmpI; split <;> (try split) <;> omega
      generalize cmpI (a : Int) ((b * 2 ^ d : Nat) : Int) = cm at hcm ⊢
      have HC : Hid (¬ a < b * 2 ^ d) := hc
      clear hc
      go_wp2
      go_ret3
      refine ⟨va, v2, 0, d, tup3 (by have := HD.out; omega), by simpa using (ha.below bb2).drewN n3, (r2.base (Nat.zero_le _)).drewN n3, ?_, ?_, by omega, by omega, below_drewN bb2 n3⟩
      · have := HC.out; omega
      · have := M1.out; omega
  · obtain ⟨m1, m2⟩ := norm_ge hb0 ha0 (by rw [HA.out, HB.out]; omega)
    rw [HA.out, HB.out] at m1 m2
    obtain ⟨d, hd⟩ : ∃ d : Nat, d = B - A := ⟨_, rfl⟩
    rw [← hd] at m1 m2
    have hd2 : d ≤ 20000 := by omega
    have hd3 : 1 ≤ d := by omega
    have sa2 : Small (a * 2 ^ d) := small_of_bl (Nat.le_trans (bl_shift a d) (by rw [HA.out]; exact Nat.add_le_add la hd2)) (by omega)
    have M1 : Hid (b < 2 * (a * 2 ^ d)) := m1
    have M2 : Hid (a * 2 ^ d < 2 * b) := m2
    have HD : Hid (d = B - A) := hd
    clear hd m1 m2
    go_wp2_with fail
    refine (shift_repI _ _ a d (-((A : Int) - (B : Int))) (ha.drewN (n1 + n2)) sa (by omega) (by have := HD.out; omega)).mono ?_
    rintro e w2 ⟨v2, rfl, r2, b2⟩
    simp only [World.heap_drewN] at b2 r2
    have bb2 : Below w.heap.size w w2 := (below_drewN (Below.refl _ _) (n1 + n2)).trans b2
    go_wp2_with fail
    refine (compare_rep _ _ _ (a * 2 ^ d) b (r2.base (Nat.zero_le _)) (hb.below bb2) sa2).mono ?_
    rintro e w3 ⟨rfl, n3, rfl⟩
    by_cases hc : a * 2 ^ d < b
    · rw [cmpI_lt (by omega)]
      have HC : Hid (a * 2 ^ d < b) := hc
      clear hc
      go_wp2_with fail
      refine (shift_rep _ _ (a * 2 ^ d) 1 ((r2.base (Nat.zero_le _)).drewN n3) sa2 (by omega)).mono ?_
      rintro e w4 ⟨v4, rfl, r4, b4⟩
      simp only [World.heap_drewN] at b4 r4
      go_wp2
      go_ret3
      refine ⟨v4, vb, d + 1, 0, tup3 (by have := HD.out; omega), ?_, by simpa using ((hb.below bb2).drewN n3).below (by simpa using b4), ?_, ?_, by omega, by omega, (below_drewN bb2 n3).trans (b4.mono bb2.size)⟩
      · rw [Nat.pow_succ, ← Nat.mul_assoc]; exact r4.base (Nat.zero_le _)
      · have := M1.out; rw [Nat.pow_succ, ← Nat.mul_assoc]; omega
      · have := HC.out; rw [Nat.pow_succ, ← Nat.mul_assoc]; omega
    · have hcm : (0 : Int) ≤ cmpI ((a * 2 ^ d : Nat) : Int) (b : Int) := by unfold cmpI; split <;> (try split) <;> omega
      generalize cmpI ((a * 2 ^ d : Nat) : Int) (b : Int) = cm at hcm ⊢
      have HC : Hid (¬ a * 2 ^ d < b) := hc
      clear hc
      go_wp2
      go_ret3
      refine ⟨v2, vb, d, 0, tup3 (by have := HD.out; omega), (r2.base (Nat.zero_le _)).drewN n3, by simpa using (hb.below bb2).drewN n3, ?_, ?_, by omega, by omega, below_drewN bb2 n3⟩
      · have := HC.out; omega
      · have := M2.out; omega

end Go.Proofs.YthdcceackfdbbaaDoor
