import Derived.Test.YthdcceackfdbbaaGreatDoorM08K
import Derived.Test.YthdcceackfdbbaaGreatDoorM00K
import Derived.Test.YthdcceackfdbbaaGreatDoorM07K
import Derived.Carry
import Derived.SizedLaws
import Derived.RangeFuncOwn
import Derived.Lib.SmallJoins
import Derived.WalkKit
/- What is printed is scanned. Own text. -/
namespace Go.Proofs.YthdcceackfdbbaaGreatDoor
open Go.RowKit

theorem smallW_dval {l : List UInt8} (h : Digs l) (hv : dval l < 10000) : smallW l = dval l := by
  induction l using list_snoc_ind with
  | h0 => rfl
  | h1 l c ih =>
    obtain ⟨h1, h2⟩ := digs_snoc h
    rw [dval_snoc] at hv ⊢
    have := ih h1 (by omega)
    rw [smallW_snoc, this, if_pos (by omega)]

theorem itoa_form {q : Int} (h1 : -1000 < q) (h2 : q < 1000) : ∃ u : Nat, u < 1000 ∧ ((q < 0 ∧ q = -(u : Int) ∧ Lib.itoa q = 45 :: Lib.decDigits u) ∨ (0 ≤ q ∧ q = (u : Int) ∧ Lib.itoa q = Lib.decDigits u)) := by
  by_cases h : q < 0
  · obtain ⟨u, rfl⟩ : ∃ u : Nat, q = -(u : Int) := ⟨q.natAbs, by omega⟩
    exact ⟨u, by omega, .inl ⟨h, rfl, Lib.itoa_neg u (by omega)⟩⟩
  · obtain ⟨u, rfl⟩ : ∃ u : Nat, q = (u : Int) := ⟨q.toNat, by omega⟩
    exact ⟨u, by omega, .inr ⟨by omega, rfl, Lib.itoa_nonneg u⟩⟩

theorem powL_itoa {q : Int} (h1 : -1000 < q) (h2 : q < 1000) : powL (101 :: Lib.itoa q) = some q := by
  obtain ⟨u, hu, h⟩ := itoa_form h1 h2
  obtain ⟨d1, d2, _, d4⟩ := dd_all u
  have hw := smallW_dval d1 (by rw [d2]; omega)
  obtain ⟨e1, e2⟩ := takeWhile_all d1 [] (by simp)
  rw [List.append_nil] at e1 e2
  rcases h with ⟨_, rfl, e⟩ | ⟨_, rfl, e⟩
  · rw [e]
    have hs : signL (45 :: Lib.decDigits u) = (true, Lib.decDigits u) := by simp [signL]
    simp [powL, hs, e1, e2, d4, hw, d2]
  · rw [e]
    have hs : signL (Lib.decDigits u) = (false, Lib.decDigits u) := by
      cases hc : Lib.decDigits u with
      | nil => exact absurd hc d4
      | cons c r => rw [hc] at d1; exact signL_dig (d1 c (by simp))
    simp [powL, hs, e1, e2, d4, hw, d2]

theorem decL_exp {c : UInt8} {f : List UInt8} {q : Int} (hc : isDig c = true) (hf : Digs f) (h1 : -1000 < q) (h2 : q < 1000) :
    decL (c :: 46 :: (f ++ 101 :: Lib.itoa q)) = some ((c :: f).dropWhile (· == 48), q - f.length) := by
  have hd : Digs [c] := by intro x hx; simp at hx; subst hx; exact hc
  obtain ⟨e1, e2⟩ := takeWhile_all hd (46 :: (f ++ 101 :: Lib.itoa q)) (by intro c t e; cases e; rfl)
  obtain ⟨e3, e4⟩ := takeWhile_all hf (101 :: Lib.itoa q) (by intro c t e; cases e; rfl)
  have ef : fracL (46 :: (f ++ 101 :: Lib.itoa q)) = (f, 101 :: Lib.itoa q) := by simp [fracL, e3, e4]
  rw [List.singleton_append] at e1 e2
  unfold decL
  rw [e1, e2, ef]
  simp only []
  rw [powL_itoa h1 h2]
  simp

theorem decL_exp1 {c : UInt8} {q : Int} (hc : isDig c = true) (h1 : -1000 < q) (h2 : q < 1000) :
    decL (c :: 101 :: Lib.itoa q) = some ([c].dropWhile (· == 48), q) := by
  have hd : Digs [c] := by intro x hx; simp at hx; subst hx; exact hc
  obtain ⟨e1, e2⟩ := takeWhile_all hd (101 :: Lib.itoa q) (by intro c t e; cases e; rfl)
  have ef : fracL (101 :: Lib.itoa q) = ([], 101 :: Lib.itoa q) := by simp [fracL]
  rw [List.singleton_append] at e1 e2
  unfold decL
  rw [e1, e2, ef]
  simp only []
  rw [powL_itoa h1 h2]
  simp

theorem decL_pt {c : UInt8} {f : List UInt8} {q : Int} (hc : isDig c = true) (hf : Digs f) (h1 : -1000 < q) (h2 : q < 1000) :
    decL (ptL (c :: f) ++ 101 :: Lib.itoa q) = some ((c :: f).dropWhile (· == 48), q - f.length) := by
  cases f with
  | nil => simpa [ptL] using decL_exp1 hc h1 h2
  | cons b t =>
    have := decL_exp (f := b :: t) hc hf h1 h2
    simpa [ptL] using this

theorem trim_split (l : List UInt8) : ∃ z, l = Lib.trimRightB l 48 ++ List.replicate z 48 := by
  unfold Lib.trimRightB
  refine ⟨(l.reverse.takeWhile (· == 48)).length, ?_⟩
  have h : (l.reverse.takeWhile (· == 48)) = List.replicate (l.reverse.takeWhile (· == 48)).length 48 := by
    apply List.eq_replicate_of_mem
    intro b hb
    have := List.all_eq_true.1 (List.all_takeWhile (p := (· == (48 : UInt8))) (l := l.reverse)) b hb
    simpa using this
  have h2 := List.takeWhile_append_dropWhile (p := (· == (48 : UInt8))) (l := l.reverse)
  have h3 := congrArg List.reverse h2
  rw [List.reverse_append, List.reverse_reverse] at h3
  rw [← List.reverse_replicate, ← h]
  exact h3.symm

theorem dval_zeros (z : Nat) : dval (List.replicate z 48) = 0 := by
  induction z with
  | zero => rfl
  | succ z ih => rw [List.replicate_succ', dval_snoc, ih]; rfl

/-- The digits that are printed. -/
theorem trim_digits {d : Nat} (hd : 1 ≤ d) : ∃ (c : UInt8) (f : List UInt8) (z : Nat), Lib.trimRightB (Lib.decDigits d) 48 = c :: f ∧ isDig c = true ∧ c.toNat ≠ 48 ∧ Digs f ∧ dval (c :: f) * 10 ^ z = d ∧ dval (c :: f) ≠ 0 ∧ (Lib.decDigits d).length = f.length + 1 + z ∧ Lib.decDigits d = (c :: f) ++ List.replicate z 48 := by
  obtain ⟨d1, d2, d3, d4⟩ := dd_all d
  obtain ⟨z, hz⟩ := trim_split (Lib.decDigits d)
  generalize hr : Lib.trimRightB (Lib.decDigits d) 48 = r at *
  have hv : dval r * 10 ^ z = d := by
    rw [hz, dval_append, dval_zeros, List.length_replicate] at d2
    omega
  cases r with
  | nil => simp [dval] at hv; omega
  | cons c f =>
    have hall : Digs (c :: f) := fun x hx => d1 x (by rw [hz]; simp at hx ⊢; rcases hx with hx | hx <;> simp [hx])
    refine ⟨c, f, z, rfl, hall c (by simp), d3 (by omega) c (f ++ List.replicate z 48) (by rw [hz]; simp), fun x hx => hall x (by simp [hx]), hv, ?_, ?_, hz⟩
    · intro h0; rw [h0] at hv; omega
    · have := congrArg List.length hz; simp at this; omega

theorem drop48 {c : UInt8} {f : List UInt8} (h : c.toNat ≠ 48) : (c :: f).dropWhile (· == 48) = c :: f := by
  have : (c == 48) = false := by
    simp; intro e; subst e; exact h rfl
  simp [this]

theorem lt_ten {x k m : Nat} (h : bl x ≤ k) (hp : powLe k m = true) : x < 10 ^ m := Nat.lt_of_lt_of_le (bl_hi x) (Nat.le_trans (Nat.pow_le_pow_right (by omega) h) (powLe_le hp))
theorem p1030 : powLe 1030 400 = true := by kernel_rfl
theorem p1080 : powLe 1080 400 = true := by kernel_rfl

theorem pM : ∃ M : Nat, M = 400 ∧ powLe 1030 M = true ∧ powLe 1080 M = true := ⟨400, rfl, p1030, p1080⟩

theorem size_ne {s : Nat} (h : s ≠ 0) : 0 < sizeS s := by
  unfold sizeS qS
  have : 0 < 2 ^ (eS s).toNat := Nat.pow_pos (by omega)
  exact Nat.mul_pos (Nat.pos_of_ne_zero (mS_ne h)) (by omega)

theorem mag_gen {S O a b M : Nat} (hS0 : 0 < S) (hO0 : 0 < O) (hS : S < 10 ^ M) (hO : O < 10 ^ M) (h1 : O * 10 ^ b ≤ S * 10 ^ a) (h2 : S * 10 ^ a < 10 * (O * 10 ^ b)) : b < M + a ∧ a < M + 1 + b := by
  constructor
  · have q1 : 10 ^ b < 10 ^ (M + a) := by
      rw [Nat.pow_add]
      have e1 : 10 ^ b ≤ O * 10 ^ b := Nat.le_mul_of_pos_left _ hO0
      have e2 : S * 10 ^ a < 10 ^ M * 10 ^ a := Nat.mul_lt_mul_of_pos_right hS (ten_pow_pos a)
      generalize 10 ^ M * 10 ^ a = Z at *
      omega
    exact (Nat.pow_lt_pow_iff_right (by omega : 1 < 10)).1 q1
  · have q1 : 10 ^ a < 10 ^ (M + 1 + b) := by
      have e1 : 10 ^ a ≤ S * 10 ^ a := Nat.le_mul_of_pos_left _ hS0
      have e2 : O * 10 ^ b < 10 ^ M * 10 ^ b := Nat.mul_lt_mul_of_pos_right hO (ten_pow_pos b)
      have e3 : 10 ^ (M + 1 + b) = 10 * (10 ^ M * 10 ^ b) := by rw [Nat.pow_add, Nat.pow_succ]; ac_rfl
      rw [e3]
      generalize 10 ^ M * 10 ^ b = Z at *
      omega
    exact (Nat.pow_lt_pow_iff_right (by omega : 1 < 10)).1 q1

theorem mag_bd {s a b : Nat} (h0 : s ≠ 0) (h : s < 9218868437227405312) (h1 : oneS s * 10 ^ b ≤ sizeS s * 10 ^ a) (h2 : sizeS s * 10 ^ a < 10 * (oneS s * 10 ^ b)) : (b : Int) - a ≤ 400 ∧ -401 ≤ (b : Int) - a := by
  obtain ⟨l1, _, _, l4⟩ := size_bl h
  obtain ⟨M, hM, m1, m2⟩ := pM
  have := mag_gen (size_ne h0) (Nat.pos_of_ne_zero (one_ne s)) (lt_ten l1 m1) (lt_ten l4 m2) h1 h2
  omega

theorem ShortAt.pow {s d : Nat} {p : Int} (h : ShortAt s d p) (h0 : s ≠ 0) (hs : s < 9218868437227405312) : -418 ≤ p ∧ p ≤ 400 := by
  obtain ⟨a, b, j, h1, h2, h3, rfl, h4, h5, _⟩ := h
  have := mag_bd h0 hs h4 h5
  omega

/-- The digits and the power that are printed tell a decimal of the interval. -/
theorem out_parts {s d : Nat} {p : Int} (h : ShortAt s d p) (h0 : s ≠ 0) (hs : s < 9218868437227405312) : ∃ (c : UInt8) (f : List UInt8) (q : Int), outL d p = ptL (c :: f) ++ 101 :: Lib.itoa q ∧ isDig c = true ∧ c.toNat ≠ 48 ∧ Digs f ∧ -1000 < q ∧ q < 1000 ∧ f.length ≤ 16 ∧ decRnd (dval (c :: f)) (q - f.length) = s := by
  obtain ⟨d1, d2, _, _⟩ := h.bd
  obtain ⟨p1, p2⟩ := h.pow h0 hs
  obtain ⟨c, f, z, e1, e2, e3, e4, e5, e6, e7, e8⟩ := trim_digits d1
  have hlen : (Lib.decDigits d).length ≤ 18 := dd_len (by omega) (by omega)
  refine ⟨c, f, p + ((Lib.decDigits d).length : Int) - 1, by unfold outL; rw [e1], e2, e3, e4, by omega, by omega, ?_, ?_⟩
  · by_cases hd : d < 100000000000000000
    · have : (Lib.decDigits d).length ≤ 17 := dd_len (by omega) (by omega)
      omega
    · have hd' : d = 100000000000000000 := by omega
      subst hd'
      have : Lib.trimRightB (Lib.decDigits 100000000000000000) 48 = [49] := by kernel_rfl
      rw [this] at e1
      injection e1 with _ e9
      rw [← e9]
      simp
  · rw [decRnd_iff e6 hs, e7]
    have : (p + ((f.length + 1 + z : Nat) : Int) - 1 - (f.length : Int)) = p + z := by omega
    rw [this, ← InD_shift, e5]
    exact h.inD

theorem scan_minus {c : UInt8} {r : List UInt8} (hc : isDig c = true) (hl : (c :: r).length ≤ 59) : scanL (45 :: c :: r) = finL (decL (c :: r)) true := by
  have b := isDig_bd hc
  unfold scanL
  rw [if_neg (by simp only [List.length_cons] at hl ⊢; omega)]
  rw [if_neg (by rintro (e | e) <;> (injection e with e1 _; exact absurd e1 (by decide))), if_neg (by intro e; simp only [List.cons.injEq] at e; rw [e.2.1] at b; simp at b), if_neg (by intro e; injection e with e1 _; exact absurd e1 (by decide))]
  simp [signL]

theorem ptL_cons (c : UInt8) (f : List UInt8) : ∃ t, ptL (c :: f) = c :: t ∧ t.length ≤ f.length + 1 := by
  cases f with
  | nil => exact ⟨[], by simp [ptL], by simp⟩
  | cons b r => exact ⟨46 :: b :: r, by simp [ptL], by simp⟩

theorem itoa_len3 {q : Int} (h1 : -1000 < q) (h2 : q < 1000) : 1 ≤ (Lib.itoa q).length ∧ (Lib.itoa q).length ≤ 4 := by
  obtain ⟨u, hu, h⟩ := itoa_form h1 h2
  have hl : (Lib.decDigits u).length ≤ 3 := dd_len (by omega) (by omega)
  have hne := (dd_all u).2.2.2
  have hpos : 1 ≤ (Lib.decDigits u).length := by
    cases hc : Lib.decDigits u with
    | nil => exact absurd hc hne
    | cons c r => simp
  rcases h with ⟨_, _, e⟩ | ⟨_, _, e⟩ <;> rw [e]
  · simp only [List.length_cons]; omega
  · omega

theorem scan_out {s d : Nat} {p : Int} (h : ShortAt s d p) (h0 : s ≠ 0) (hs : s < 9218868437227405312) : scanL (outL d p) = (s, 0) ∧ scanL (45 :: outL d p) = (s + 9223372036854775808, 0) ∧ 1 ≤ (outL d p).length ∧ (outL d p).length ≤ 23 := by
  obtain ⟨c, f, q, e1, e2, e3, e4, e5, e6, e7, e8⟩ := out_parts h h0 hs
  rw [e1]
  obtain ⟨t, ht, htl⟩ := ptL_cons c f
  have hd := decL_pt e2 e4 e5 e6
  rw [drop48 e3] at hd
  rw [ht] at hd ⊢
  rw [List.cons_append] at hd ⊢
  obtain ⟨l0, l1⟩ := itoa_len3 e5 e6
  have hlen : (c :: (t ++ 101 :: Lib.itoa q)).length ≤ 23 := by simp; omega
  refine ⟨?_, ?_, by simp, hlen⟩
  · rw [scanL_dig e2 (by omega), hd]
    simp only [finL]
    rw [e8]
    simp
  · rw [scan_minus e2 (by omega), hd]
    simp only [finL]
    rw [e8]
    simp

/-- A number, a nan being the canonical one. -/
def cleanN (x : Nat) : Nat := if 9218868437227405312 < x % 9223372036854775808 then 9221120237041090560 else x

theorem scan_z0 : scanL [48] = (0, 0) := by decide
theorem scan_z1 : scanL [45, 48] = (9223372036854775808, 0) := by decide

theorem scan_print {x : Nat} {l : List UInt8} (hx : x < 18446744073709551616) (h : PrintOk x l) : scanL l = (cleanN x, 0) ∧ 1 ≤ l.length ∧ l.length ≤ 24 := by
  unfold cleanN
  rcases h with ⟨h, rfl⟩ | ⟨h, rfl⟩ | ⟨h, rfl⟩ | ⟨h, h', d, p, hsa, rfl⟩
  · rw [if_pos h]; exact ⟨by decide, by decide, by decide⟩
  · rw [if_neg (by omega)]
    unfold sgL
    split
    · refine ⟨?_, by decide, by decide⟩
      have : x = 18442240474082181120 := by omega
      rw [this]; decide
    · refine ⟨?_, by decide, by decide⟩
      have : x = 9218868437227405312 := by omega
      rw [this]; decide
  · rw [if_neg (by omega)]
    unfold sgL
    split
    · refine ⟨?_, by decide, by decide⟩
      have : x = 9223372036854775808 := by omega
      rw [this]; exact scan_z1
    · refine ⟨?_, by decide, by decide⟩
      have : x = 0 := by omega
      rw [this]; exact scan_z0
  · rw [if_neg (by omega)]
    obtain ⟨q1, q2, q3, q4⟩ := scan_out hsa h h'
    unfold sgL
    split
    · rw [List.singleton_append]
      refine ⟨?_, by simp, by simp; omega⟩
      rw [q2]
      congr 1
      omega
    · rw [List.nil_append]
      refine ⟨?_, q3, by omega⟩
      rw [q1]
      congr 1
      omega

theorem and_hi (x M : Nat) : x &&& (M * 2 ^ 52) = ((x / 2 ^ 52) &&& M) * 2 ^ 52 := by
  apply Nat.eq_of_testBit_eq
  intro i
  rw [Nat.testBit_and, Nat.testBit_mul_two_pow, Nat.testBit_mul_two_pow, Nat.testBit_and, Nat.testBit_div_two_pow]
  by_cases hi : 52 ≤ i
  · rw [show i - 52 + 52 = i by omega]
    simp [hi]
  · simp [hi]

theorem and_inf {x : Nat} (h : x < 18446744073709551616) : bits BinOp.and IntKind.u64 (x : Int) 9218868437227405312 = ((x / 4503599627370496 % 2048 * 4503599627370496 : Nat) : Int) := by
  rw [show (9218868437227405312 : Int) = ((2047 * 2 ^ 52 : Nat) : Int) from rfl, u64_and_nat _ _ h (by omega), and_hi]
  congr 2
  exact Nat.and_two_pow_sub_one_eq_mod (x / 2 ^ 52) 11

end Go.Proofs.YthdcceackfdbbaaGreatDoor
/- What Print reckons: powers of ten. Own text. -/
namespace Go.Proofs.YthdcceackfdbbaaGreatDoor
open Go.RowKit
attribute [local go_sem ↓] Go.wp_at_zero Go.wp_at_succ

/-- Is 10 to the k not above the size? -/
def leT (s : Nat) (k : Int) : Prop := oneS s * 10 ^ k.toNat ≤ sizeS s * 10 ^ (-k).toNat

theorem leT_iff {s a b : Nat} {k : Int} (h : (b : Int) - a = k) : leT s k ↔ oneS s * 10 ^ b ≤ sizeS s * 10 ^ a := by
  obtain ⟨t, h1, h2⟩ : ∃ t : Nat, b = k.toNat + t ∧ a = (-k).toNat + t := ⟨b - k.toNat, by omega, by omega⟩
  unfold leT
  rw [h1, h2, Nat.pow_add, Nat.pow_add, ← Nat.mul_assoc, ← Nat.mul_assoc]
  exact ⟨fun h => Nat.mul_le_mul_right _ h, fun h => Nat.le_of_mul_le_mul_right h (ten_pow_pos t)⟩

theorem leT_down {s : Nat} {k : Int} (h : leT s (k + 1)) : leT s k := by
  obtain ⟨a, b, hab⟩ : ∃ a b : Nat, (b : Int) - a = k := ⟨(-k).toNat, k.toNat, by omega⟩
  rw [leT_iff (a := a) (b := b + 1) (by omega)] at h
  rw [leT_iff hab]
  rw [Nat.pow_succ, ← Nat.mul_assoc] at h
  omega

theorem leT_le {s : Nat} {k k' : Int} (h : leT s k) (hk : k' ≤ k) : leT s k' := by
  obtain ⟨n, rfl⟩ : ∃ n : Nat, k = k' + n := ⟨(k - k').toNat, by omega⟩
  clear hk
  induction n with
  | zero => simpa using h
  | succ n ih => exact ih (leT_down (by rw [show k' + (n : Int) + 1 = k' + ((n + 1 : Nat) : Int) by omega]; exact h))

theorem top_unique {s : Nat} {k k' : Int} (h1 : leT s k) (h2 : ¬ leT s (k + 1)) (h3 : leT s k') (h4 : ¬ leT s (k' + 1)) : k = k' := by
  by_cases h : k < k'
  · exact absurd (leT_le h3 (by omega)) h2
  · by_cases h' : k' < k
    · exact absurd (leT_le h1 (by omega)) h4
    · omega

theorem leT_bd {s : Nat} {k : Int} (hs : s < 9218868437227405312) (h : leT s k) : k ≤ 400 := by
  by_cases hk : k ≤ 400
  · exact hk
  · obtain ⟨M, hM, p1, p2⟩ := pM
    have hS : sizeS s < 10 ^ M := lt_ten (size_bl hs).1 p1
    unfold leT at h
    rw [show (-k).toNat = 0 by omega, Nat.pow_zero, Nat.mul_one] at h
    have h1 : 10 ^ M ≤ 10 ^ k.toNat := Nat.pow_le_pow_right (by omega) (by omega)
    have h2 : 10 ^ k.toNat ≤ oneS s * 10 ^ k.toNat := Nat.le_mul_of_pos_left _ (Nat.pos_of_ne_zero (one_ne s))
    exact absurd (Nat.lt_of_lt_of_le hS (Nat.le_trans h1 (Nat.le_trans h2 h))) (Nat.lt_irrefl _)

theorem near_scale {lo d u c : Nat} (hc : 0 < c) : nearS lo (d * c) (u * c) = nearS lo d u := by
  have h1 : ∀ x y : Nat, x * c < y * c ↔ x < y := fun x y => ⟨fun h => Nat.lt_of_mul_lt_mul_right h, fun h => Nat.mul_lt_mul_of_pos_right h hc⟩
  unfold nearS
  simp only [h1]

theorem pick_scale {N B A D c : Nat} {ev : Bool} (hc : 0 < c) : pickO (N * c) (B * c) (A * c) (D * c) ev = pickO N B A D ev := by
  unfold pickO
  rw [Nat.mul_div_mul_right _ _ hc, Nat.mul_mod_mul_right, ← Nat.sub_mul, inS_scale hc, inS_scale hc, near_scale hc]

/-- The step of shortest at the power k. -/
def PK (s : Nat) (k : Int) : Option Nat := pickO (sizeS s * 10 ^ (-k).toNat) (belowS s * 10 ^ (-k).toNat) (aboveS s * 10 ^ (-k).toNat) (oneS s * 10 ^ k.toNat) (decide (s % 2 = 0))

theorem PK_iff {s a b : Nat} {k : Int} (h : (b : Int) - a = k) : PK s k = pickO (sizeS s * 10 ^ a) (belowS s * 10 ^ a) (aboveS s * 10 ^ a) (oneS s * 10 ^ b) (decide (s % 2 = 0)) := by
  obtain ⟨t, h1, h2⟩ : ∃ t : Nat, b = k.toNat + t ∧ a = (-k).toNat + t := ⟨b - k.toNat, by omega, by omega⟩
  have q : ∀ x i : Nat, x * 10 ^ (i + t) = x * 10 ^ i * 10 ^ t := fun x i => by rw [Nat.pow_add, Nat.mul_assoc]
  unfold PK
  rw [h1, h2, q, q, q, q]
  exact (pick_scale (ten_pow_pos t)).symm

theorem ShortAt.steps {s d : Nat} {p : Int} (h : ShortAt s d p) : ∃ j : Nat, j ≤ 16 ∧ leT s (p + j) ∧ ¬ leT s (p + j + 1) ∧ PK s p = some d ∧ ∀ i : Nat, i < j → PK s (p + j - i) = none := by
  obtain ⟨a, b, j, h1, h2, h3, rfl, h4, h5, h6, h7⟩ := h
  have q : ∀ x i : Nat, x * 10 ^ (a + i) = x * 10 ^ a * 10 ^ i := fun x i => by rw [Nat.pow_add, Nat.mul_assoc]
  refine ⟨j, h3, ?_, ?_, ?_, ?_⟩
  · rw [leT_iff (a := a) (b := b) (by omega)]; exact h4
  · rw [leT_iff (a := a) (b := b + 1) (by omega), Nat.pow_succ, ← Nat.mul_assoc]
    omega
  · rw [PK_iff (a := a + j) (b := b) (by omega), q, q, q]; exact h6
  · intro i hi
    rw [PK_iff (a := a + i) (b := b) (by omega), q, q, q]; exact h7 i hi

/-- How far one is from the other. -/
def gap (V N : Nat) : Nat := if V < N then N - V else V - N
def reach (V N B A : Nat) : Nat := if V < N then B else A

theorem low_facts {N D : Nat} (hD : D ≠ 0) : N / D * D + N % D = N ∧ N % D < D := ⟨by rw [Nat.mul_comm]; exact Nat.div_add_mod N D, Nat.mod_lt N (Nat.pos_of_ne_zero hD)⟩

theorem gap_low {N D : Nat} (hD : D ≠ 0) : gap (N / D * D) N = N % D := by
  obtain ⟨h1, h2⟩ := low_facts (N := N) hD
  unfold gap
  split <;> omega

theorem gap_high {N D : Nat} (hD : D ≠ 0) : gap ((N / D + 1) * D) N = D - N % D := by
  obtain ⟨h1, h2⟩ := low_facts (N := N) hD
  unfold gap
  rw [Nat.add_mul, Nat.one_mul]
  split <;> omega

theorem in_low {N B A D : Nat} {ev : Bool} (hD : D ≠ 0) (hB : 0 < B) (hA : 0 < A) : inS (gap (N / D * D) N) (reach (N / D * D) N B A) ev = inS (N % D) B ev := by
  obtain ⟨h1, h2⟩ := low_facts (N := N) hD
  rw [gap_low hD]
  unfold reach
  split
  · rfl
  · rw [show N % D = 0 by omega]
    unfold inS
    simp [hB, hA]

theorem in_high {N B A D : Nat} {ev : Bool} (hD : D ≠ 0) : inS (gap ((N / D + 1) * D) N) (reach ((N / D + 1) * D) N B A) ev = inS (D - N % D) A ev := by
  obtain ⟨h1, h2⟩ := low_facts (N := N) hD
  rw [gap_high hD]
  unfold reach
  rw [if_neg (by rw [Nat.add_mul, Nat.one_mul]; omega)]

theorem above_pos (s : Nat) : 0 < aboveS s := by
  unfold aboveS qS
  have : 0 < 2 ^ (eS s).toNat := Nat.pow_pos (by omega)
  omega

theorem digs_inj {a b : List UInt8} (ha : Digs a) (hb : Digs b) (hl : a.length = b.length) (hv : dval a = dval b) : a = b := by
  induction a generalizing b with
  | nil => cases b with
    | nil => rfl
    | cons y b => simp at hl
  | cons x a ih =>
    cases b with
    | nil => simp at hl
    | cons y b =>
      have hl' : a.length = b.length := by simpa using hl
      have da : Digs a := fun c hc => ha c (by simp [hc])
      have db : Digs b := fun c hc => hb c (by simp [hc])
      have e1 := dval_append [x] a
      have e2 := dval_append [y] b
      simp only [List.cons_append, List.nil_append] at e1 e2
      rw [e1, e2, hl'] at hv
      have l1 := dval_lt da
      have l2 := dval_lt db
      rw [hl'] at l1
      have f1 : dval [x] = x.toNat - 48 := by simp [dval]
      have f2 : dval [y] = y.toNat - 48 := by simp [dval]
      rw [f1, f2] at hv
      have hx := ha x (by simp)
      have hy := hb y (by simp)
      unfold isDig at hx hy
      simp at hx hy
      have g1 : (x.toNat - 48) = (y.toNat - 48) := by
        have q1 : ((x.toNat - 48) * 10 ^ b.length + dval a) / 10 ^ b.length = x.toNat - 48 := by
          rw [Nat.mul_comm, Nat.mul_add_div (ten_pow_pos _), Nat.div_eq_of_lt l1, Nat.add_zero]
        have q2 : ((y.toNat - 48) * 10 ^ b.length + dval b) / 10 ^ b.length = y.toNat - 48 := by
          rw [Nat.mul_comm, Nat.mul_add_div (ten_pow_pos _), Nat.div_eq_of_lt l2, Nat.add_zero]
        rw [← q1, ← q2, hv]
      have g2 : dval a = dval b := by rw [g1] at hv; omega
      have g3 : x = y := by
        apply UInt8.toNat_inj.1
        omega
      rw [g3, ih da db hl' g2]

theorem dd_unique {l : List UInt8} {n : Nat} (hd : Digs l) (h0 : ∀ c r, l = c :: r → c.toNat ≠ 48) (hv : dval l = n) (hn : n ≠ 0) : l = Lib.decDigits n := by
  obtain ⟨d1, d2, d3, d4⟩ := dd_all n
  have key : ∀ {a b : List UInt8}, Digs a → Digs b → (∀ c r, a = c :: r → c.toNat ≠ 48) → dval a = dval b → a ≠ [] → a.length ≤ b.length := by
    intro a b ha hb h0 hv hne
    cases a with
    | nil => exact absurd rfl hne
    | cons c r =>
      have h1 := dval_ge ha (c := c) (r := r) rfl (h0 c r rfl)
      have h2 := dval_lt hb
      by_cases h : (c :: r).length ≤ b.length
      · exact h
      · have h3 : 10 ^ b.length ≤ 10 ^ ((c :: r).length - 1) := Nat.pow_le_pow_right (by omega) (by omega)
        omega
  have hne : l ≠ [] := by intro h; subst h; simp [dval] at hv; omega
  refine digs_inj hd d1 (Nat.le_antisymm (key hd d1 h0 (by rw [hv, d2]) hne) (key d1 hd (d3 hn) (by rw [hv, d2]) d4)) (by rw [hv, d2])

end Go.Proofs.YthdcceackfdbbaaGreatDoor
namespace Go.Proofs.YthdcceackfdbbaaGreatDoor
open Go.RowKit

theorem exp_le {o S a b a' b' : Nat} (h1 : o * 10 ^ b ≤ S * 10 ^ a) (h2 : S * 10 ^ a' < 10 * (o * 10 ^ b')) : b + a' ≤ b' + a := by
  by_cases h : b + a' ≤ b' + a
  · exact h
  · have e1 : o * 10 ^ b * 10 ^ a' ≤ S * 10 ^ a * 10 ^ a' := Nat.mul_le_mul_right _ h1
    have e2 : S * 10 ^ a' * 10 ^ a < 10 * (o * 10 ^ b') * 10 ^ a := Nat.mul_lt_mul_of_pos_right h2 (ten_pow_pos a)
    have e3 : S * 10 ^ a * 10 ^ a' = S * 10 ^ a' * 10 ^ a := by rw [Nat.mul_right_comm]
    have e4 : o * 10 ^ b * 10 ^ a' = o * 10 ^ (b + a') := by rw [Nat.mul_assoc, Nat.pow_add]
    have e5 : 10 * (o * 10 ^ b') * 10 ^ a = o * 10 ^ (b' + a + 1) := by
      rw [Nat.pow_succ, Nat.pow_add, Nat.mul_comm 10, ← Nat.mul_assoc, Nat.mul_right_comm, Nat.mul_assoc o]
    have e6 : o * 10 ^ (b' + a + 1) ≤ o * 10 ^ (b + a') := Nat.mul_le_mul_left _ (Nat.pow_le_pow_right (by omega) (by omega))
    omega

theorem shortAt_unique {s d d' : Nat} {p p' : Int} (h : ShortAt s d p) (h' : ShortAt s d' p') : d = d' ∧ p = p' := by
  obtain ⟨a, b, j, -, -, -, rfl, h1, h2, h3, h4⟩ := h
  obtain ⟨a', b', j', -, -, -, rfl, h1', h2', h3', h4'⟩ := h'
  have q1 := exp_le h1 h2'
  have q2 := exp_le h1' h2
  have key : ∀ (a b i : Nat), pickO (sizeS s * 10 ^ a * 10 ^ i) (belowS s * 10 ^ a * 10 ^ i) (aboveS s * 10 ^ a * 10 ^ i) (oneS s * 10 ^ b) (decide (s % 2 = 0)) = PK s ((b : Int) - a - i) := by
    intro a b i
    rw [PK_iff (a := a + i) (b := b) (by omega), Nat.pow_add, Nat.mul_assoc, Nat.mul_assoc, Nat.mul_assoc]
  rw [key] at h3 h3'
  have g4 : ∀ i, i < j → PK s ((b : Int) - a - i) = none := fun i hi => by rw [← key]; exact h4 i hi
  have g4' : ∀ i, i < j' → PK s ((b' : Int) - a' - i) = none := fun i hi => by rw [← key]; exact h4' i hi
  have hK : (b : Int) - a = (b' : Int) - a' := by omega
  rw [← hK] at h3' g4' ⊢
  by_cases hj : j = j'
  · subst hj; rw [h3] at h3'; exact ⟨Option.some.inj h3', rfl⟩
  · by_cases hlt : j < j'
    · have := g4' j hlt; rw [h3] at this; cases this
    · have := g4 j' (by omega); rw [h3'] at this; cases this

theorem printOk_unique {x : Nat} {l l' : List UInt8} (h : PrintOk x l) (h' : PrintOk x l') : l = l' := by
  unfold PrintOk at h h'
  rcases h with ⟨a, b⟩ | ⟨a, b⟩ | ⟨a, b⟩ | ⟨a, b, d, p, hs, hl⟩ <;> rcases h' with ⟨a', b'⟩ | ⟨a', b'⟩ | ⟨a', b'⟩ | ⟨a', b', d', p', hs', hl'⟩
  all_goals first | (exact b.trans b'.symm) | (exfalso; omega) | skip
  obtain ⟨rfl, rfl⟩ := shortAt_unique hs hs'
  exact hl.trans hl'.symm

/-- what is printed -/
noncomputable def prL (x : Nat) : List UInt8 := Classical.epsilon (PrintOk x)

theorem prL_eq {x : Nat} {l : List UInt8} (h : PrintOk x l) : prL x = l := printOk_unique (Classical.epsilon_spec (p := PrintOk x) ⟨l, h⟩) h

end Go.Proofs.YthdcceackfdbbaaGreatDoor
/- Own text: what every number prints; a row of numbers as an argument. -/
namespace Go.Proofs.YthdcceackfdbbaaGreatDoor
open Go Go.ChangeShapes Go.WideShapes Go.ChangeAt Go.RowKit

theorem Tryz.laidOutF : laidOutB Tryz.prog = true := by kernel_rfl
/-- a buffer's numbers, where it has any -/
def BufIs (w : World) (ao : Option Addr) (xs : List Nat) : Prop := ∀ (k x : Nat), xs[k]? = some x → x < 18446744073709551616 ∧ ∃ ad : Addr, ao = some ad ∧ ad.block < w.heap.size ∧ w.cell? (ad.add k) = some (.int .u64 (x : Int))

theorem prL_ok {w : World} (htab : Lib.TabIs Tryz.prog w "internal/strconv.uint64pow10" .u64 Lib.pow10Tab) {x : Nat} (hx : x < 18446744073709551616) : PrintOk x (prL x) ∧ (prL x).length ≤ 100 := by
  obtain ⟨e, w', fr, ⟨s, rfl, h1, h2, h3⟩, _⟩ := print_any w x hx htab []
  rw [prL_eq h1]
  exact ⟨h1, by have := bytes_size (s := s) rfl; omega⟩

theorem lt_of_cell {w : World} {a : Addr} {v : Value} (h : w.cell? a = some v) : a.block < w.heap.size := by
  obtain ⟨o, ho, _⟩ := cells_of_cell h
  exact (Array.getElem?_eq_some_iff.1 ho).1

section
variable {H : Type} {enc : TypeId × Value → H} {w : World} {base b0 : Nat} {sp : Nat → Bool} {held : Bool} {r : Reach}

theorem lits_length (k : IntKind) (l : List Int) : (lits (H := H) k l).length = l.length := by simp [lits]

set_option maxRecDepth 100000 in
theorem open_u64s {v : Value} {d : DataW H} {p : List MemPlace} (hv : Value.okWide Tryz.prog w r b0 22 v) (h : DataW.Trod enc Tryz.prog w base sp held 22 v d p) :
    ∃ (ao : Option Addr) (n cap : Nat) (xs : List Nat), v = .slice ao n cap ∧ xs.length = n ∧ BufIs w ao xs ∧ ((d = .nil ∧ n = 0) ∨ ∃ el spr, d = .slice el spr ∧ el.length = n) := by
  obtain ⟨ao, n, cap, rfl⟩ := okWide_slice Tryz.underlying22 hv
  obtain ⟨fuel, hf⟩ := h
  rcases open_ints Tryz.underlying22 Tryz.underlying65 cellsU64 hf with ⟨hcs, hx⟩ | ⟨a, len, cap', zs, hcs, _, hl, hm, hz, hx, hcell, hwz⟩
  · have hcs' : Value.slice ao n cap = .slice none 0 0 := by simpa [Value.cells] using hcs
    cases hcs'
    exact ⟨none, 0, 0, [], rfl, rfl, fun k x hk => by simp at hk, .inl ⟨by simpa using congrArg Prod.fst hx, rfl⟩⟩
  · have hcs' : Value.slice ao n cap = .slice (some a) len cap' := by simpa [Value.cells] using hcs
    cases hcs'
    have hzl : n ≤ zs.length := by rw [hz]; split <;> omega
    refine ⟨some a, n, cap, (zs.take n).map Int.toNat, rfl, by simp; omega, fun k x hk => ?_, .inr ⟨_, _, congrArg Prod.fst hx, by rw [lits_length]; simp; omega⟩⟩
    rw [List.getElem?_map, List.getElem?_take] at hk
    by_cases hkn : k < n
    · rw [if_pos hkn] at hk
      have hkz : k < zs.length := by omega
      rw [List.getElem?_eq_getElem hkz] at hk
      obtain rfl : (zs[k]'hkz).toNat = x := by simpa using hk
      have hw := hwz _ (List.getElem_mem hkz)
      have hw' : 0 ≤ zs[k]'hkz ∧ zs[k]'hkz ≤ 18446744073709551615 := by simpa [Lit.wf, IntKind.min, IntKind.max, IntKind.signed, IntKind.bits] using hw
      have hc := hcell k hkz
      rw [show zs.getD k 0 = zs[k]'hkz by simp [hkz]] at hc
      refine ⟨by omega, a, rfl, ?_, ?_⟩
      · have := lt_of_cell hc; rw [block_add] at this; exact this
      · rw [hc, Int.toNat_of_nonneg hw'.1]
    · rw [if_neg hkn] at hk; cases hk

end

end Go.Proofs.YthdcceackfdbbaaGreatDoor
namespace Go.Proofs.YthdcceackfdbbaaGreatDoor
open Go Go.RowKit

/-- one bit of the sum -/
def crcBit (h b i : Nat) : Nat := if (b >>> i + h) % 2 = 1 then (h >>> 1) ^^^ 3988292384 else h >>> 1

def crcTo (h b : Nat) : Nat → Nat
  | 0 => h
  | i + 1 => crcBit (crcTo h b i) b i

theorem crcBit_lt {h b i : Nat} (hh : h < 4294967296) : crcBit h b i < 4294967296 := by
  unfold crcBit
  have h1 : h >>> 1 < 2 ^ 32 := by rw [Nat.shiftRight_eq_div_pow]; omega
  split
  · exact Nat.xor_lt_two_pow h1 (by decide)
  · exact h1

theorem crcTo_lt {h b : Nat} (hh : h < 4294967296) : ∀ i, crcTo h b i < 4294967296
  | 0 => hh
  | i + 1 => crcBit_lt (crcTo_lt hh i)

def crcAll (h : Nat) (l : List UInt8) : Nat := l.foldl (fun h b => crcTo h b.toNat 8) h

theorem crcAll_cons (h : Nat) (b : UInt8) (l : List UInt8) : crcAll h (b :: l) = crcAll (crcTo h b.toNat 8) l := by unfold crcAll; rw [List.foldl_cons]

theorem crcAll_lt {h : Nat} (hh : h < 4294967296) (l : List UInt8) : crcAll h l < 4294967296 := by
  induction l generalizing h with
  | nil => exact hh
  | cons b r ih =>
    have := ih (crcTo_lt (b := b.toNat) hh 8)
    rw [crcAll_cons]; exact this

theorem crcAll_snoc (h : Nat) (l : List UInt8) (b : UInt8) : crcAll h (l ++ [b]) = crcTo (crcAll h l) b.toNat 8 := by simp [crcAll, List.foldl_append]

/-- all bits turned -/
def flip32 (h : Nat) : Nat := 4294967295 - h

/-- the sum of bytes -/
def sumL (l : List UInt8) : Nat := flip32 (crcAll 4294967295 l)

theorem flip_flip {h : Nat} (hh : h < 4294967296) : flip32 (flip32 h) = h := by unfold flip32; omega

theorem sumL_lt (l : List UInt8) : sumL l < 4294967296 := by unfold sumL flip32; omega

theorem sumL_nil : sumL [] = 0 := rfl

theorem sumL_snoc (l : List UInt8) (b : UInt8) : sumL (l ++ [b]) = flip32 (crcTo (flip32 (sumL l)) b.toNat 8) := by
  unfold sumL; rw [crcAll_snoc, flip_flip (crcAll_lt (by omega) l)]

theorem flip_xor {h : Nat} (hh : h < 4294967296) : h ^^^ 4294967295 = flip32 h := by
  have := Nat.eq_of_testBit_eq (x := h ^^^ 4294967295) (y := flip32 h) fun i => by
    unfold flip32
    rw [show 4294967295 - h = 2 ^ 32 - (h + 1) by omega, Nat.testBit_two_pow_sub_succ (by omega), Nat.testBit_xor]
    rw [show (4294967295 : Nat) = 2 ^ 32 - 1 by rfl, Nat.testBit_two_pow_sub_one]
    by_cases hi : i < 32
    · simp [hi]
    · have : h.testBit i = false := Nat.testBit_lt_two_pow (Nat.lt_of_lt_of_le hh (by rw [show 4294967296 = 2 ^ 32 by rfl]; exact Nat.pow_le_pow_right (by omega) (by omega)))
      simp [hi, this]
  exact this

/-- the lowest bytes of a number, the low one first -/
def lowL (x : Nat) : Nat → List UInt8
  | 0 => []
  | n + 1 => lowL x n ++ [UInt8.ofNat (x / 256 ^ n % 256)]

theorem lowL_len (x : Nat) : ∀ n, (lowL x n).length = n
  | 0 => rfl
  | n + 1 => by simp [lowL, lowL_len x n]

end Go.Proofs.YthdcceackfdbbaaGreatDoor
namespace Go.Proofs.YthdcceackfdbbaaGreatDoor
open Go Go.RowKit

/-- a view with rows and columns fits a list of n numbers -/
def Fit (R C : Nat) (off rs cs : Int) (n : Nat) : Prop :=
  (∀ i j : Nat, i < R → j < C → 0 ≤ off + i * rs + j * cs ∧ off + i * rs + j * cs < n) ∧
  (∀ i j i' j' : Nat, i < R → j < C → i' < R → j' < C → off + i * rs + j * cs = off + i' * rs + j' * cs → i = i' ∧ j = j')

theorem between {i m : Nat} (s : Int) (h : i ≤ m) : (0 ≤ (i : Int) * s ∧ (i : Int) * s ≤ m * s) ∨ ((m : Int) * s ≤ i * s ∧ (i : Int) * s ≤ 0) := by
  by_cases hs : 0 ≤ s
  · left; exact ⟨Int.mul_nonneg (by omega) hs, Int.mul_le_mul_of_nonneg_right (by omega) hs⟩
  · right; exact ⟨Int.mul_le_mul_of_nonpos_right (by omega) (by omega), Int.mul_nonpos_of_nonneg_of_nonpos (by omega) (by omega)⟩

def Corner (R C : Nat) (off rs cs : Int) (n : Nat) : Prop :=
  (0 ≤ off ∧ off < n) ∧ (0 ≤ off + ((R - 1 : Nat) : Int) * rs ∧ off + ((R - 1 : Nat) : Int) * rs < n) ∧ (0 ≤ off + ((C - 1 : Nat) : Int) * cs ∧ off + ((C - 1 : Nat) : Int) * cs < n) ∧
  (0 ≤ off + ((R - 1 : Nat) : Int) * rs + ((C - 1 : Nat) : Int) * cs ∧ off + ((R - 1 : Nat) : Int) * rs + ((C - 1 : Nat) : Int) * cs < n)

theorem corner_iff {R C : Nat} {off rs cs : Int} {n : Nat} (hR : 0 < R) (hC : 0 < C) :
    Corner R C off rs cs n ↔ ∀ i j : Nat, i < R → j < C → 0 ≤ off + i * rs + j * cs ∧ off + i * rs + j * cs < n := by
  constructor
  · rintro ⟨h1, h2, h3, h4⟩ i j hi hj
    have b1 := between rs (show i ≤ R - 1 by omega)
    have b2 := between cs (show j ≤ C - 1 by omega)
    generalize (i : Int) * rs = x at *
    generalize (j : Int) * cs = y at *
    generalize ((R - 1 : Nat) : Int) * rs = X at *
    generalize ((C - 1 : Nat) : Int) * cs = Y at *
    omega
  · intro h
    refine ⟨?_, ?_, ?_, h (R - 1) (C - 1) (by omega) (by omega)⟩
    · have := h 0 0 hR hC; simpa using this
    · have := h (R - 1) 0 (by omega) hC; simpa using this
    · have := h 0 (C - 1) hR (by omega); simpa using this

def Meets (R C : Nat) (rs cs : Int) : Prop := ∃ d : Nat, d < R ∧ ∃ r : Int, -(C : Int) < r ∧ r < C ∧ (d ≠ 0 ∨ r ≠ 0) ∧ (d : Int) * rs + r * cs = 0

theorem meets_iff {R C : Nat} {off rs cs : Int} :
    ¬ Meets R C rs cs ↔ ∀ i j i' j' : Nat, i < R → j < C → i' < R → j' < C → off + i * rs + j * cs = off + i' * rs + j' * cs → i = i' ∧ j = j' := by
  constructor
  · intro h i j i' j' hi hj hi' hj' e
    apply Classical.byContradiction
    intro hne
    apply h
    have e1 : ((i : Int) - i') * rs + ((j : Int) - j') * cs = 0 := by rw [Int.sub_mul, Int.sub_mul]; omega
    by_cases hle : i' ≤ i
    · refine ⟨i - i', by omega, (j : Int) - j', by omega, by omega, by omega, ?_⟩
      rw [show ((i - i' : Nat) : Int) = (i : Int) - i' by omega]; exact e1
    · refine ⟨i' - i, by omega, (j' : Int) - j, by omega, by omega, by omega, ?_⟩
      rw [show ((i' - i : Nat) : Int) = -((i : Int) - i') by omega, show (j' : Int) - j = -((j : Int) - j') by omega, Int.neg_mul, Int.neg_mul]; omega
  · rintro h ⟨d, hd, r, h1, h2, h3, h4⟩
    by_cases hr : 0 ≤ r
    · obtain ⟨k, rfl⟩ := Int.eq_ofNat_of_zero_le hr
      have := h d k 0 0 hd (by omega) (by omega) (by omega) (by simp; omega)
      omega
    · obtain ⟨k, hk⟩ := Int.eq_ofNat_of_zero_le (show 0 ≤ -r by omega)
      have hr' : r = -(k : Int) := by omega
      subst hr'
      rw [Int.neg_mul] at h4
      have := h d 0 0 k hd (by omega) (by omega) (by omega) (by simp; omega)
      omega

/-- the program's tests -/
theorem fit_prog {R C : Nat} {off rs cs : Int} {n : Nat} (hR : 0 < R) (hC : 0 < C) : Fit R C off rs cs n ↔ Corner R C off rs cs n ∧ ¬ Meets R C rs cs := by
  unfold Fit
  rw [← corner_iff hR hC, ← meets_iff]

/-- a step that leaves every buffer -/
theorem fit_step {R C : Nat} {off rs cs : Int} {n : Nat} (hR : 0 < R) (hC : 0 < C) (h : Fit R C off rs cs n) :
    (0 ≤ off ∧ off < n) ∧ (R = 1 ∨ (-(n : Int) < rs ∧ rs < n)) ∧ (C = 1 ∨ (-(n : Int) < cs ∧ cs < n)) := by
  have h0 := h.1 0 0 hR hC
  simp at h0
  refine ⟨h0, ?_, ?_⟩
  · by_cases e : R = 1
    · exact .inl e
    · have := h.1 1 0 (by omega) hC; simp at this; right; omega
  · by_cases e : C = 1
    · exact .inl e
    · have := h.1 0 1 hR (by omega); simp at this; right; omega

/-- what the reference has seen: the places ahead of row i, column j -/
def Ahead (C : Nat) (i j : Nat) (i' j' : Nat) : Prop := (i' < i ∧ j' < C) ∨ (i' = i ∧ j' < j)

def SeenTo (C : Nat) (off rs cs : Int) (n i j : Nat) : Prop :=
  (∀ a b : Nat, Ahead C i j a b → 0 ≤ off + a * rs + b * cs ∧ off + a * rs + b * cs < n) ∧
  (∀ a b a' b' : Nat, Ahead C i j a b → Ahead C i j a' b' → off + a * rs + b * cs = off + a' * rs + b' * cs → a = a' ∧ b = b')

theorem seen_zero (C : Nat) (off rs cs : Int) (n : Nat) : SeenTo C off rs cs n 0 0 := by
  refine ⟨fun a b h => ?_, fun a b a' b' h => ?_⟩ <;> · unfold Ahead at h; omega

theorem ahead_step {C i j a b : Nat} : Ahead C i (j + 1) a b ↔ Ahead C i j a b ∨ (a = i ∧ b = j) := by unfold Ahead; omega

theorem ahead_row {C i a b : Nat} : Ahead C (i + 1) 0 a b ↔ Ahead C i C a b := by unfold Ahead; omega

theorem seen_row {C : Nat} {off rs cs : Int} {n i : Nat} (h : SeenTo C off rs cs n i C) : SeenTo C off rs cs n (i + 1) 0 := by
  unfold SeenTo at h ⊢
  simp only [ahead_row]
  exact h

theorem seen_step {C : Nat} {off rs cs : Int} {n i j : Nat} (h : SeenTo C off rs cs n i j) (hp : 0 ≤ off + i * rs + j * cs ∧ off + i * rs + j * cs < n)
    (hnew : ∀ a b : Nat, Ahead C i j a b → off + a * rs + b * cs ≠ off + i * rs + j * cs) : SeenTo C off rs cs n i (j + 1) := by
  refine ⟨fun a b hab => ?_, fun a b a' b' hab hab' e => ?_⟩
  · rcases ahead_step.1 hab with h1 | ⟨rfl, rfl⟩
    · exact h.1 a b h1
    · exact hp
  · rcases ahead_step.1 hab with h1 | ⟨rfl, rfl⟩ <;> rcases ahead_step.1 hab' with h2 | ⟨rfl, rfl⟩
    · exact h.2 a b a' b' h1 h2 e
    · exact absurd e (hnew _ _ h1)
    · exact absurd e.symm (hnew _ _ h2)
    · exact ⟨rfl, rfl⟩

theorem seen_fit {R C : Nat} {off rs cs : Int} {n : Nat} (h : SeenTo C off rs cs n R 0) : Fit R C off rs cs n := by
  refine ⟨fun i j hi hj => h.1 i j ?_, fun i j i' j' hi hj hi' hj' e => h.2 i j i' j' ?_ ?_ e⟩ <;> · unfold Ahead; omega

/-- the view fits: the program's and the document's word -/
def FitV (R C off rs cs : Int) (n : Nat) : Prop := n ≤ 100000 ∧ (0 ≤ R ∧ R ≤ 40) ∧ (0 ≤ C ∧ C ≤ 40) ∧ (R = 0 ∨ C = 0 ∨ Fit R.toNat C.toNat off rs cs n)

end Go.Proofs.YthdcceackfdbbaaGreatDoor
