/- What is printed is scanned. Own text. -/
import Derived.Test.YthdcceackfdbbaaDoorMb
namespace Go.Proofs.YthdcceackfdbbaaDoor
open Go.RowKit

theorem smallW_dval {l : List UInt8} (h : Digs l) (hv : dval l < 10000) : smallW l = dval l := by
  induction l using list_snoc_ind with
  | h0 => rfl
  | h1 l c ih =>
    obtain ⟨h1, h2⟩ := digs_snoc h
    rw [dval_snoc] at hv ⊢
    have := ih h1 (by omega)
    rw [smallW_snoc, this, if_pos (by omega)]

theorem itoa_form {q : Int} (h1 : -1000 < q) (h2 : q < 1000) : ∃ u : Nat, u < 1000 ∧ ((q < 0 ∧ q = -(u : Int) ∧ Lib.itoa q = 45 :: Lib.decDigits u) ∨ (0 ≤ q ∧ q = (u : Int) ∧ Lib.itoa q = Lib.decDigits u)) := by
  by_cases h : q < 0
  · obtain ⟨u, rfl⟩ : ∃ u : Nat, q = -(u : Int) := ⟨q.natAbs, by omega⟩
    exact ⟨u, by omega, .inl ⟨h, rfl, Lib.itoa_neg u (by omega)⟩⟩
  · obtain ⟨u, rfl⟩ : ∃ u : Nat, q = (u : Int) := ⟨q.toNat, by omega⟩
    exact ⟨u, by omega, .inr ⟨by omega, rfl, Lib.itoa_nonneg u⟩⟩

theorem powL_itoa {q : Int} (h1 : -1000 < q) (h2 : q < 1000) : powL (101 :: Lib.itoa q) = some q := by
  obtain ⟨u, hu, h⟩ := itoa_form h1 h2
  obtain ⟨d1, d2, _, d4⟩ := dd_all u
  have hw := smallW_dval d1 (by rw [d2]; omega)
  obtain ⟨e1, e2⟩ := takeWhile_all d1 [] (by simp)
  rw [List.append_nil] at e1 e2
  rcases h with ⟨_, rfl, e⟩ | ⟨_, rfl, e⟩
  · rw [e]
    have hs : signL (45 :: Lib.decDigits u) = (true, Lib.decDigits u) := by simp [signL]
    simp [powL, hs, e1, e2, d4, hw, d2]
  · rw [e]
    have hs : signL (Lib.decDigits u) = (false, Lib.decDigits u) := by
      cases hc : Lib.decDigits u with
      | nil => exact absurd hc d4
      | cons c r => rw [hc] at d1; exact signL_dig (d1 c (by simp))
    simp [powL, hs, e1, e2, d4, hw, d2]

theorem decL_exp {c : UInt8} {f : List UInt8} {q : Int} (hc : isDig c = true) (hf : Digs f) (h1 : -1000 < q) (h2 : q < 1000) :
    decL (c :: 46 :: (f ++ 101 :: Lib.itoa q)) = some ((c :: f).dropWhile (· == 48), q - f.length) := by
  have hd : Digs [c] := by intro x hx; simp at hx; subst hx; exact hc
  obtain ⟨e1, e2⟩ := takeWhile_all hd (46 :: (f ++ 101 :: Lib.itoa q)) (by intro c t e; cases e; rfl)
  obtain ⟨e3, e4⟩ := takeWhile_all hf (101 :: Lib.itoa q) (by intro c t e; cases e; rfl)
  have ef : fracL (46 :: (f ++ 101 :: Lib.itoa q)) = (f, 101 :: Lib.itoa q) := by simp [fracL, e3, e4]
  rw [List.singleton_append] at e1 e2
  unfold decL
  rw [e1, e2, ef]
  simp only []
  rw [powL_itoa h1 h2]
  simp

theorem decL_exp1 {c : UInt8} {q : Int} (hc : isDig c = true) (h1 : -1000 < q) (h2 : q < 1000) :
    decL (c :: 101 :: Lib.itoa q) = some ([c].dropWhile (· == 48), q) := by
  have hd : Digs [c] := by intro x hx; simp at hx; subst hx; exact hc
  obtain ⟨e1, e2⟩ := takeWhile_all hd (101 :: Lib.itoa q) (by intro c t e; cases e; rfl)
  have ef : fracL (101 :: Lib.itoa q) = ([], 101 :: Lib.itoa q) := by simp [fracL]
  rw [List.singleton_append] at e1 e2
  unfold decL
  rw [e1, e2, ef]
  simp only []
  rw [powL_itoa h1 h2]
  simp

theorem decL_pt {c : UInt8} {f : List UInt8} {q : Int} (hc : isDig c = true) (hf : Digs f) (h1 : -1000 < q) (h2 : q < 1000) :
    decL (ptL (c :: f) ++ 101 :: Lib.itoa q) = some ((c :: f).dropWhile (· == 48), q - f.length) := by
  cases f with
  | nil => simpa [ptL] using decL_exp1 hc h1 h2
  | cons b t =>
    have := decL_exp (f := b :: t) hc hf h1 h2
    simpa [ptL] using this

theorem trim_split (l : List UInt8) : ∃ z, l = Lib.trimRightB l 48 ++ List.replicate z 48 := by
  unfold Lib.trimRightB
  refine ⟨(l.reverse.takeWhile (· == 48)).length, ?_⟩
  have h : (l.reverse.takeWhile (· == 48)) = List.replicate (l.reverse.takeWhile (· == 48)).length 48 := by
    apply List.eq_replicate_of_mem
    intro b hb
    have := List.all_eq_true.1 (List.all_takeWhile (p := (· == (48 : UInt8))) (l := l.reverse)) b hb
    simpa using this
  have h2 := List.takeWhile_append_dropWhile (p := (· == (48 : UInt8))) (l := l.reverse)
  have h3 := congrArg List.reverse h2
  rw [List.reverse_append, List.reverse_reverse] at h3
  rw [← List.reverse_replicate, ← h]
  exact h3.symm

theorem dval_zeros (z : Nat) : dval (List.replicate z 48) = 0 := by
  induction z with
  | zero => rfl
  | succ z ih => rw [List.replicate_succ', dval_snoc, ih]; rfl

/-- The digits that are printed. -/
theorem trim_digits {d : Nat} (hd : 1 ≤ d) : ∃ (c : UInt8) (f : List UInt8) (z : Nat), Lib.trimRightB (Lib.decDigits d) 48 = c :: f ∧ isDig c = true ∧ c.toNat ≠ 48 ∧ Digs f ∧ dval (c :: f) * 10 ^ z = d ∧ dval (c :: f) ≠ 0 ∧ (Lib.decDigits d).length = f.length + 1 + z ∧ Lib.decDigits d = (c :: f) ++ List.replicate z 48 := by
  obtain ⟨d1, d2, d3, d4⟩ := dd_all d
  obtain ⟨z, hz⟩ := trim_split (Lib.decDigits d)
  generalize hr : Lib.trimRightB (Lib.decDigits d) 48 = r at *
  have hv : dval r * 10 ^ z = d := by
    rw [hz, dval_append, dval_zeros, List.length_replicate] at d2
    omega
  cases r with
  | nil => simp [dval] at hv; omega
  | cons c f =>
    have hall : Digs (c :: f) := fun x hx => d1 x (by rw [hz]; simp at hx ⊢; rcases hx with hx | hx <;> simp [hx])
    refine ⟨c, f, z, rfl, hall c (by simp), d3 (by omega) c (f ++ List.replicate z 48) (by rw [hz]; simp), fun x hx => hall x (by simp [hx]), hv, ?_, ?_, hz⟩
    · intro h0; rw [h0] at hv; omega
    · have := congrArg List.length hz; simp at this; omega

theorem drop48 {c : UInt8} {f : List UInt8} (h : c.toNat ≠ 48) : (c :: f).dropWhile (· == 48) = c :: f := by
  have : (c == 48) = false := by
    simp; intro e; subst e; exact h rfl
  simp [this]

theorem lt_ten {x k m : Nat} (h : bl x ≤ k) (hp : powLe k m = true) : x < 10 ^ m := Nat.lt_of_lt_of_le (bl_hi x) (Nat.le_trans (Nat.pow_le_pow_right (by omega) h) (powLe_le hp))
theorem p1030 : powLe 1030 400 = true := by kernel_rfl
theorem p1080 : powLe 1080 400 = true := by kernel_rfl

theorem pM : ∃ M : Nat, M = 400 ∧ powLe 1030 M = true ∧ powLe 1080 M = true := ⟨400, rfl, p1030, p1080⟩

theorem size_ne {s : Nat} (h : s ≠ 0) : 0 < sizeS s := by
  unfold sizeS qS
  have : 0 < 2 ^ (eS s).toNat := Nat.pow_pos (by omega)
  exact Nat.mul_pos (Nat.pos_of_ne_zero (mS_ne h)) (by omega)

theorem mag_gen {S O a b M : Nat} (hS0 : 0 < S) (hO0 : 0 < O) (hS : S < 10 ^ M) (hO : O < 10 ^ M) (h1 : O * 10 ^ b ≤ S * 10 ^ a) (h2 : S * 10 ^ a < 10 * (O * 10 ^ b)) : b < M + a ∧ a < M + 1 + b := by
  constructor
  · have q1 : 10 ^ b < 10 ^ (M + a) := by
      rw [Nat.pow_add]
      have e1 : 10 ^ b ≤ O * 10 ^ b := Nat.le_mul_of_pos_left _ hO0
      have e2 : S * 10 ^ a < 10 ^ M * 10 ^ a := Nat.mul_lt_mul_of_pos_right hS (ten_pow_pos a)
      generalize 10 ^ M * 10 ^ a = Z at *
      omega
    exact (Nat.pow_lt_pow_iff_right (by omega : 1 < 10)).1 q1
  · have q1 : 10 ^ a < 10 ^ (M + 1 + b) := by
      have e1 : 10 ^ a ≤ S * 10 ^ a := Nat.le_mul_of_pos_left _ hS0
      have e2 : O * 10 ^ b < 10 ^ M * 10 ^ b := Nat.mul_lt_mul_of_pos_right hO (ten_pow_pos b)
      have e3 : 10 ^ (M + 1 + b) = 10 * (10 ^ M * 10 ^ b) := by rw [Nat.pow_add, Nat.pow_succ]; ac_rfl
      rw [e3]
      generalize 10 ^ M * 10 ^ b = Z at *
      omega
    exact (Nat.pow_lt_pow_iff_right (by omega : 1 < 10)).1 q1

theorem mag_bd {s a b : Nat} (h0 : s ≠ 0) (h : s < 9218868437227405312) (h1 : oneS s * 10 ^ b ≤ sizeS s * 10 ^ a) (h2 : sizeS s * 10 ^ a < 10 * (oneS s * 10 ^ b)) : (b : Int) - a ≤ 400 ∧ -401 ≤ (b : Int) - a := by
  obtain ⟨l1, _, _, l4⟩ := size_bl h
  obtain ⟨M, hM, m1, m2⟩ := pM
  have := mag_gen (size_ne h0) (Nat.pos_of_ne_zero (one_ne s)) (lt_ten l1 m1) (lt_ten l4 m2) h1 h2
  omega

theorem ShortAt.pow {s d : Nat} {p : Int} (h : ShortAt s d p) (h0 : s ≠ 0) (hs : s < 9218868437227405312) : -418 ≤ p ∧ p ≤ 400 := by
  obtain ⟨a, b, j, h1, h2, h3, rfl, h4, h5, _⟩ := h
  have := mag_bd h0 hs h4 h5
  omega

/-- The digits and the power that are printed tell a decimal of the interval. -/
theorem out_parts {s d : Nat} {p : Int} (h : ShortAt s d p) (h0 : s ≠ 0) (hs : s < 9218868437227405312) : ∃ (c : UInt8) (f : List UInt8) (q : Int), outL d p = ptL (c :: f) ++ 101 :: Lib.itoa q ∧ isDig c = true ∧ c.toNat ≠ 48 ∧ Digs f ∧ -1000 < q ∧ q < 1000 ∧ f.length ≤ 16 ∧ decRnd (dval (c :: f)) (q - f.length) = s := by
  obtain ⟨d1, d2, _, _⟩ := h.bd
  obtain ⟨p1, p2⟩ := h.pow h0 hs
  obtain ⟨c, f, z, e1, e2, e3, e4, e5, e6, e7, e8⟩ := trim_digits d1
  have hlen : (Lib.decDigits d).length ≤ 18 := dd_len (by omega) (by omega)
  refine ⟨c, f, p + ((Lib.decDigits d).length : Int) - 1, by unfold outL; rw [e1], e2, e3, e4, by omega, by omega, ?_, ?_⟩
  · by_cases hd : d < 100000000000000000
    · have : (Lib.decDigits d).length ≤ 17 := dd_len (by omega) (by omega)
      omega
    · have hd' : d = 100000000000000000 := by omega
      subst hd'
      have : Lib.trimRightB (Lib.decDigits 100000000000000000) 48 = [49] := by kernel_rfl
      rw [this] at e1
      injection e1 with _ e9
      rw [← e9]
      simp
  · rw [decRnd_iff e6 hs, e7]
    have : (p + ((f.length + 1 + z : Nat) : Int) - 1 - (f.length : Int)) = p + z := by omega
    rw [this, ← InD_shift, e5]
    exact h.inD

theorem scan_minus {c : UInt8} {r : List UInt8} (hc : isDig c = true) (hl : (c :: r).length ≤ 59) : scanL (45 :: c :: r) = finL (decL (c :: r)) true := by
  have b := isDig_bd hc
  unfold scanL
  rw [if_neg (by simp only [List.length_cons] at hl ⊢; omega)]
  rw [if_neg (by rintro (e | e) <;> (injection e with e1 _; exact absurd e1 (by decide))), if_neg (by intro e; simp only [List.cons.injEq] at e; rw [e.2.1] at b; simp at b), if_neg (by intro e; injection e with e1 _; exact absurd e1 (by decide))]
  simp [signL]

theorem ptL_cons (c : UInt8) (f : List UInt8) : ∃ t, ptL (c :: f) = c :: t ∧ t.length ≤ f.length + 1 := by
  cases f with
  | nil => exact ⟨[], by simp [ptL], by simp⟩
  | cons b r => exact ⟨46 :: b :: r, by simp [ptL], by simp⟩

theorem itoa_len3 {q : Int} (h1 : -1000 < q) (h2 : q < 1000) : 1 ≤ (Lib.itoa q).length ∧ (Lib.itoa q).length ≤ 4 := by
  obtain ⟨u, hu, h⟩ := itoa_form h1 h2
  have hl : (Lib.decDigits u).length ≤ 3 := dd_len (by omega) (by omega)
  have hne := (dd_all u).2.2.2
  have hpos : 1 ≤ (Lib.decDigits u).length := by
    cases hc : Lib.decDigits u with
    | nil => exact absurd hc hne
    | cons c r => simp
  rcases h with ⟨_, _, e⟩ | ⟨_, _, e⟩ <;> rw [e]
  · simp only [List.length_cons]; omega
  · omega

theorem scan_out {s d : Nat} {p : Int} (h : ShortAt s d p) (h0 : s ≠ 0) (hs : s < 9218868437227405312) : scanL (outL d p) = (s, 0) ∧ scanL (45 :: outL d p) = (s + 9223372036854775808, 0) ∧ 1 ≤ (outL d p).length ∧ (outL d p).length ≤ 23 := by
  obtain ⟨c, f, q, e1, e2, e3, e4, e5, e6, e7, e8⟩ := out_parts h h0 hs
  rw [e1]
  obtain ⟨t, ht, htl⟩ := ptL_cons c f
  have hd := decL_pt e2 e4 e5 e6
  rw [drop48 e3] at hd
  rw [ht] at hd ⊢
  rw [List.cons_append] at hd ⊢
  obtain ⟨l0, l1⟩ := itoa_len3 e5 e6
  have hlen : (c :: (t ++ 101 :: Lib.itoa q)).length ≤ 23 := by simp; omega
  refine ⟨?_, ?_, by simp, hlen⟩
  · rw [scanL_dig e2 (by omega), hd]
    simp only [finL]
    rw [e8]
    simp
  · rw [scan_minus e2 (by omega), hd]
    simp only [finL]
    rw [e8]
    simp

/-- A number, a nan being the canonical one. -/
def cleanN (x : Nat) : Nat := if 9218868437227405312 < x % 9223372036854775808 then 9221120237041090560 else x

theorem scan_z0 : scanL [48] = (0, 0) := by decide
theorem scan_z1 : scanL [45, 48] = (9223372036854775808, 0) := by decide

theorem scan_print {x : Nat} {l : List UInt8} (hx : x < 18446744073709551616) (h : PrintOk x l) : scanL l = (cleanN x, 0) ∧ 1 ≤ l.length ∧ l.length ≤ 24 := by
  unfold cleanN
  rcases h with ⟨h, rfl⟩ | ⟨h, rfl⟩ | ⟨h, rfl⟩ | ⟨h, h', d, p, hsa, rfl⟩
  · rw [if_pos h]; exact ⟨by decide, by decide, by decide⟩
  · rw [if_neg (by omega)]
    unfold sgL
    split
    · refine ⟨?_, by decide, by decide⟩
      have : x = 18442240474082181120 := by omega
      rw [this]; decide
    · refine ⟨?_, by decide, by decide⟩
      have : x = 9218868437227405312 := by omega
      rw [this]; decide
  · rw [if_neg (by omega)]
    unfold sgL
    split
    · refine ⟨?_, by decide, by decide⟩
      have : x = 9223372036854775808 := by omega
      rw [this]; exact scan_z1
    · refine ⟨?_, by decide, by decide⟩
      have : x = 0 := by omega
      rw [this]; exact scan_z0
  · rw [if_neg (by omega)]
    obtain ⟨q1, q2, q3, q4⟩ := scan_out hsa h h'
    unfold sgL
    split
    · rw [List.singleton_append]
      refine ⟨?_, by simp, by simp; omega⟩
      rw [q2]
      congr 1
      omega
    · rw [List.nil_append]
      refine ⟨?_, q3, by omega⟩
      rw [q1]
      congr 1
      omega

theorem and_hi (x M : Nat) : x &&& (M * 2 ^ 52) = ((x / 2 ^ 52) &&& M) * 2 ^ 52 := by
  apply Nat.eq_of_testBit_eq
  intro i
  rw [Nat.testBit_and, Nat.testBit_mul_two_pow, Nat.testBit_mul_two_pow, Nat.testBit_and, Nat.testBit_div_two_pow]
  by_cases hi : 52 ≤ i
  · rw [show i - 52 + 52 = i by omega]
    simp [hi]
  · simp [hi]

theorem and_inf {x : Nat} (h : x < 18446744073709551616) : bits BinOp.and IntKind.u64 (x : Int) 9218868437227405312 = ((x / 4503599627370496 % 2048 * 4503599627370496 : Nat) : Int) := by
  rw [show (9218868437227405312 : Int) = ((2047 * 2 ^ 52 : Nat) : Int) from rfl, u64_and_nat _ _ h (by omega), and_hi]
  congr 2
  exact Nat.and_two_pow_sub_one_eq_mod (x / 2 ^ 52) 11

end Go.Proofs.YthdcceackfdbbaaDoor
