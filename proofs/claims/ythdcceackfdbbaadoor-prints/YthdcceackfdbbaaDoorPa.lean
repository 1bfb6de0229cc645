/- Walks: parts, nearerBelow, guessPower, tenfold, within, nearer. Own text. -/
import Derived.Test.YthdcceackfdbbaaDoorWj
import Derived.Deep.RegionHeld3
namespace Go.Proofs.YthdcceackfdbbaaDoor
open Go.RowKit

/-- A size is mS times 2 to the eS. -/
def mS (s : Nat) : Nat := if s / 4503599627370496 = 0 then s % 4503599627370496 else 4503599627370496 + s % 4503599627370496
def eS (s : Nat) : Int := if s / 4503599627370496 = 0 then -1074 else ((s / 4503599627370496 : Nat) : Int) - 1075

theorem and_frac {s : Nat} (h : s < 18446744073709551616) : bits BinOp.and IntKind.u64 (s : Int) 4503599627370495 = ((s % 4503599627370496 : Nat) : Int) := by
  rw [show (4503599627370495 : Int) = ((4503599627370495 : Nat) : Int) from rfl, u64_and_nat _ _ h (by omega)]
  congr 1
  exact Nat.and_two_pow_sub_one_eq_mod s 52

theorem or_frac {f : Nat} (h : f < 4503599627370496) : bits BinOp.or IntKind.u64 4503599627370496 (f : Int) = ((4503599627370496 + f : Nat) : Int) := by
  rw [show (4503599627370496 : Int) = ((4503599627370496 : Nat) : Int) from rfl, u64_or_nat _ _ (by omega) (by omega), nat_join52 _ _ (by simp) h]

theorem tup2 {a a' b b' : Int} (h1 : a = a') (h2 : b = b') : Ending.returned (.tuple #[.int .u64 a, .int .i64 b]) = .returned (.tuple #[.int .u64 a', .int .i64 b']) := by rw [h1, h2]

set_option maxHeartbeats 400000 in
theorem parts_any (w : World) (s : Nat) (hs : s < 9218868437227405312) :
    Calls Tryd.prog 78 #[.int .u64 (s : Int)] w fun e w' => e = .returned (.tuple #[.int .u64 ((mS s : Nat) : Int), .int .i64 (eS s)]) ∧ w' = w := by
  have hf := and_frac (s := s) (by omega)
  by_cases h0 : s / 4503599627370496 = 0
  · have hb : ((s : Int) / 4503599627370496 == 0) = true := by simp; omega
    go_enter Tryd.func78, Tryd.ntmps78
    go_wp2
    go_ret2
    refine ⟨tup2 ?_ ?_, rfl⟩
    · simp [mS, h0]
    · simp [eS, h0]
  · have hb : ((s : Int) / 4503599627370496 == 0) = false := by simp; omega
    have ho := or_frac (f := s % 4503599627370496) (by omega)
    go_enter Tryd.func78, Tryd.ntmps78
    go_wp2
    go_ret2
    refine ⟨tup2 ?_ ?_, rfl⟩
    · rw [mS, if_neg h0]; first | exact ho | (simp at ho ⊢; exact ho) | omega
    · rw [eS, if_neg h0]; omega

def nbS (s : Nat) : Bool := decide (s % 4503599627370496 = 0) && decide (1 < s / 4503599627370496)

theorem ret_bool {a b : Bool} (h : a = b) : Ending.returned (.bool a) = .returned (.bool b) := by rw [h]

set_option maxHeartbeats 400000 in
theorem nearerBelow_any (w : World) (s : Nat) (hs : s < 9218868437227405312) :
    Calls Tryd.prog 80 #[.int .u64 (s : Int)] w fun e w' => e = .returned (.bool (nbS s)) ∧ w' = w := by
  have hf := and_frac (s := s) (by omega)
  by_cases h0 : s % 4503599627370496 = 0
  · have hb : (((s % 4503599627370496 : Nat) : Int) == 0) = true := by simp; omega
    have hb2 : ((s : Int) % 4503599627370496 == 0) = true := by simp; omega
    go_enter Tryd.func80, Tryd.ntmps80
    go_wp2
    go_ret
    refine ⟨ret_bool ?_, rfl⟩
    unfold nbS
    simp [h0]
    try omega
  · have hb : (((s % 4503599627370496 : Nat) : Int) == 0) = false := by simp; omega
    have hb2 : ((s : Int) % 4503599627370496 == 0) = false := by simp; omega
    go_enter Tryd.func80, Tryd.ntmps80
    go_wp2
    go_ret
    refine ⟨ret_bool ?_, rfl⟩
    unfold nbS
    simp [h0]

/-- The power of ten that the walk begins with. -/
def gS (t : Int) : Int := t * 1233 / 4096 - 1

theorem mS_lt (s : Nat) : mS s < 9007199254740992 := by unfold mS; split <;> omega
theorem eS_bd {s : Nat} (h : s < 9218868437227405312) : -1074 ≤ eS s ∧ eS s ≤ 971 := by unfold eS; split <;> omega

set_option maxHeartbeats 400000 in
theorem guess_any (w : World) (s : Nat) (hs : s < 9218868437227405312) :
    Calls Tryd.prog 54 #[.int .u64 (s : Int)] w fun e w' => e = .returned (.int .i64 (gS ((bl (mS s) : Int) - 1 + eS s))) ∧ w' = w := by
  go_enter Tryd.func54, Tryd.ntmps54
  go_wp2_with fail
  refine (parts_any _ s hs).mono ?_
  rintro e w1 ⟨rfl, rfl⟩
  have hm := mS_lt s
  obtain ⟨he1, he2⟩ := eS_bd hs
  have hbl := bl_le (n := mS s) (k := 53) (by omega)
  have hbx := bitLen_bl (x := mS s) (by omega)
  have hbx2 : Lib.bitLen (mS s) ≤ 53 := by omega
  generalize hmS : mS s = m at *
  generalize heS : eS s = ee at *
  go_wp2_with fail
  refine (Tryd.bits_Len64 _ _ (by omega) (by omega)).mono ?_
  rintro e w2 ⟨rfl, rfl⟩
  go_wp2
  go_ret
  refine ⟨ret_int ?_, rfl⟩
  unfold gS
  first | omega | (rw [hmS, heS]) | (rw [hmS, heS]; omega)

set_option maxHeartbeats 400000 in
theorem tenfold_any (w : World) (v : Value) (a : Nat) (h : Rep w 0 v a) (ha : Small a) :
    Calls Tryd.prog 59 #[v] w fun e w' => ∃ v', e = .returned v' ∧ Rep w' w.heap.size v' (a * 10) ∧ Below w.heap.size w w' := by
  go_enter Tryd.func59, Tryd.ntmps59
  go_wp2_with fail
  refine (mulAdd_rep _ v a 10 0 h ha (by omega) (by omega)).mono ?_
  rintro e w1 ⟨v1, rfl, r1, b1⟩
  go_wp2
  go_ret
  exact ⟨v1, rfl, r1, b1⟩

/-- Is what is so far from the size in the interval? -/
def inS (d r : Nat) (ev : Bool) : Bool := decide (d < r) || (decide (d = r) && ev)

set_option maxHeartbeats 400000 in
theorem within_any (w : World) (g : Nat) (va vb : Value) (a b : Nat) (ev : Bool) (ha : Rep w 0 va a) (hb : Rep w 0 vb b) (la : Small a) (hc : w.cell? ⟨g, 4, none⟩ = some (.bool ev)) :
    Calls Tryd.prog 57 #[.pointer (some ⟨g, 0, none⟩), va, vb] w fun e w' => e = .returned (.bool (inS a b ev)) ∧ ∃ n, w' = w.drewN n := by
  go_enter Tryd.func57, Tryd.ntmps57
  go_wp2_with fail
  refine (compare_rep _ va vb a b ha hb la).mono ?_
  rintro e w1 ⟨rfl, nq, rfl⟩
  rcases Nat.lt_trichotomy a b with hlt | hlt | hlt
  · rw [cmpI_lt (by omega)]
    go_wp2
    first | go_quiet (fail) | skip
    go_wp2
    go_ret
    exact ⟨ret_bool (by simp [inS, hlt]), _, rfl⟩
  · rw [cmpI_eq (by omega)]
    go_wp2
    first | go_quiet (fail) | skip
    go_wp2
    go_ret
    exact ⟨ret_bool (by simp [inS, hlt]), _, rfl⟩
  · rw [cmpI_gt (by omega)]
    go_wp2
    first | go_quiet (fail) | skip
    go_wp2
    go_ret
    exact ⟨ret_bool (by simp [inS]; omega), _, rfl⟩

/-- 0 for the lower of the two, 1 for the upper. -/
def nearS (lo down up : Nat) : Nat := if down < up then 0 else if up < down then 1 else lo % 2

set_option maxHeartbeats 400000 in
theorem nearer_any (w : World) (n : Nat) (va vb : Value) (a b : Nat) (ha : Rep w 0 va a) (hb : Rep w 0 vb b) (la : Small a) (hn : n < 18446744073709551616) :
    Calls Tryd.prog 58 #[.int .u64 (n : Int), va, vb] w fun e w' => e = .returned (.int .u64 ((nearS n a b : Nat) : Int)) ∧ ∃ n, w' = w.drewN n := by
  go_enter Tryd.func58, Tryd.ntmps58
  go_wp2_with fail
  refine (compare_rep _ va vb a b ha hb la).mono ?_
  rintro e w1 ⟨rfl, nq, rfl⟩
  rcases Nat.lt_trichotomy a b with hlt | hlt | hlt
  · rw [cmpI_lt (by omega)]
    go_wp2
    go_ret
    exact ⟨ret_int (by simp [nearS, hlt]), _, rfl⟩
  · rw [cmpI_eq (by omega)]
    go_wp2
    go_ret
    refine ⟨ret_int ?_, _, rfl⟩
    rw [and_one_u64 _ (by omega) (by omega)]
    simp [nearS, hlt]
  · rw [cmpI_gt (by omega)]
    go_wp2
    go_ret
    exact ⟨ret_int (by simp [nearS, hlt, show ¬ a < b by omega]), _, rfl⟩

end Go.Proofs.YthdcceackfdbbaaDoor
