/- Plain mathematics: digits of whole numbers, and how their texts are read. Own text. -/
import Derived.Test.YthdcceackfdbbaaDoorRle
import Derived.Lib.ItoaNum
namespace Go.Proofs.YthdcceackfdbbaaDoor

theorem u8_dig {d : Nat} (h : d < 10) : (UInt8.ofNat (48 + d)).toNat = 48 + d := by
  rw [UInt8.toNat_ofNat_of_lt' (by show 48 + d < 256; omega)]

theorem isDig_of {d : Nat} (h : d < 10) : isDig (UInt8.ofNat (48 + d)) = true := by
  unfold isDig; rw [u8_dig h]; simp; omega

theorem dd_all (u : Nat) : Digs (Lib.decDigits u) ∧ dval (Lib.decDigits u) = u ∧ (u ≠ 0 → ∀ c r, Lib.decDigits u = c :: r → c.toNat ≠ 48) ∧ Lib.decDigits u ≠ [] := by
  induction u using Nat.strongRecOn with
  | ind u ih =>
    by_cases h : u < 10
    · rw [Lib.decDigits, dif_pos h]
      refine ⟨?_, ?_, ?_, by simp⟩
      · intro x hx; rw [List.mem_singleton] at hx; rw [hx]; exact isDig_of h
      · simp only [dval, List.foldl_cons, List.foldl_nil]; rw [u8_dig h]; omega
      · intro h0 c r e
        simp only [List.cons.injEq] at e
        rw [← e.1, u8_dig h]; omega
    · obtain ⟨i1, i2, i3, i4⟩ := ih (u / 10) (by omega)
      have e : Lib.decDigits u = Lib.decDigits (u / 10) ++ [UInt8.ofNat (48 + u % 10)] := by rw [Lib.decDigits, dif_neg h]
      rw [e]
      refine ⟨?_, ?_, ?_, by simp⟩
      · refine digs_append i1 ?_
        intro x hx; rw [List.mem_singleton] at hx; rw [hx]; exact isDig_of (by omega)
      · rw [dval_snoc, i2, u8_dig (by omega)]; omega
      · intro _ c r e2
        cases hd : Lib.decDigits (u / 10) with
        | nil => exact absurd hd i4
        | cons c' r' =>
          rw [hd] at e2
          simp only [List.cons_append, List.cons.injEq] at e2
          rw [← e2.1]
          exact i3 (by omega) c' r' hd

theorem dd_len {u k : Nat} (h : u < 10 ^ k) (hk : 1 ≤ k) : (Lib.decDigits u).length ≤ k := by
  induction k generalizing u with
  | zero => omega
  | succ k ih =>
    by_cases h10 : u < 10
    · rw [Lib.decDigits, dif_pos h10]; simp
    · rw [Lib.decDigits, dif_neg h10, List.length_append, List.length_singleton]
      by_cases hk0 : k = 0
      · subst hk0; simp at h; omega
      · have := ih (u := u / 10) (by rw [Nat.pow_succ] at h; omega) (by omega)
        omega

theorem dval_cons_zero (l : List UInt8) : dval (48 :: l) = dval l := by simp [dval]

theorem dval_drop (l : List UInt8) : dval (l.dropWhile (· == 48)) = dval l := by
  induction l with
  | nil => rfl
  | cons c r ih =>
    by_cases h : c = 48
    · subst h; simp only [List.dropWhile_cons, beq_self_eq_true, if_true]; rw [ih, dval_cons_zero]
    · have : (c == 48) = false := by simpa using h
      simp [this]

theorem takeWhile_all {l : List UInt8} (h : Digs l) (r : List UInt8) (hr : ∀ c t, r = c :: t → isDig c = false) : (l ++ r).takeWhile isDig = l ∧ (l ++ r).dropWhile isDig = r := by
  have := takeWhile_at (p := isDig) (l := l ++ r) (k := l.length) (fun x hx => by rw [List.take_left'] at hx; exact h x hx; rfl) (fun x hx => by
    rw [List.getElem?_append_right (Nat.le_refl _), Nat.sub_self] at hx
    cases r with
    | nil => simp at hx
    | cons c t => simp at hx; subst hx; exact hr c t rfl)
  rw [List.take_left' rfl, List.drop_left' rfl] at this
  exact this

theorem decL_whole {l : List UInt8} (h : Digs l) (hne : l ≠ []) : decL l = some (l.dropWhile (· == 48), 0) := by
  obtain ⟨e1, e2⟩ := takeWhile_all h [] (by simp)
  rw [List.append_nil] at e1 e2
  unfold decL
  rw [e1, e2]
  simp [fracL, powL, hne]

theorem decL_point {l f : List UInt8} (h : Digs l) (hf : Digs f) (hne : l ≠ []) : decL (l ++ 46 :: f) = some ((l ++ f).dropWhile (· == 48), -(f.length : Int)) := by
  obtain ⟨e1, e2⟩ := takeWhile_all h (46 :: f) (by intro c t e; cases e; rfl)
  obtain ⟨e3, e4⟩ := takeWhile_all hf [] (by simp)
  rw [List.append_nil] at e3 e4
  unfold decL
  rw [e1, e2]
  have ef : fracL (46 :: f) = (f, []) := by simp [fracL, e3, e4]
  rw [ef]
  simp [powL, hne]

theorem signL_dig {c : UInt8} {r : List UInt8} (h : isDig c = true) : signL (c :: r) = (false, c :: r) := by
  have b := isDig_bd h
  have h1 : c ≠ 43 := by intro e; subst e; simp at b
  have h2 : c ≠ 45 := by intro e; subst e; simp at b
  simp [signL, h1, h2]

theorem scanL_dig {c : UInt8} {r : List UInt8} (h : isDig c = true) (hl : (c :: r).length ≤ 60) : scanL (c :: r) = finL (decL (c :: r)) false := by
  have b := isDig_bd h
  unfold scanL
  rw [if_neg (by omega), signL_dig h]
  rw [if_neg (by rintro (e | e) <;> (simp only [List.cons.injEq] at e; rw [e.1] at b; simp at b)), if_neg (by intro e; simp only [List.cons.injEq] at e; rw [e.1] at b; simp at b), if_neg (by intro e; simp only [List.cons.injEq] at e; rw [e.1] at b; simp at b)]

theorem scan_whole {u : Nat} (hl : (Lib.decDigits u).length ≤ 60) : scanL (Lib.decDigits u) = (decRnd u 0, 0) := by
  obtain ⟨h1, h2, _, h4⟩ := dd_all u
  have hd := decL_whole h1 h4
  cases hc : Lib.decDigits u with
  | nil => exact absurd hc h4
  | cons c r =>
    rw [hc] at hl h1 h2 hd
    rw [scanL_dig (h1 c (by simp)) hl, hd]
    simp only [finL]
    rw [dval_drop, h2]
    simp

theorem scan_point {u : Nat} {f : List UInt8} (hf : Digs f) (hl : (Lib.decDigits u ++ 46 :: f).length ≤ 60) : scanL (Lib.decDigits u ++ 46 :: f) = (decRnd (dval (Lib.decDigits u ++ f)) (-(f.length : Int)), 0) := by
  obtain ⟨h1, h2, _, h4⟩ := dd_all u
  have hd := decL_point h1 hf h4
  cases hc : Lib.decDigits u with
  | nil => exact absurd hc h4
  | cons c r =>
    rw [hc] at hl h1 h2 hd
    rw [List.cons_append] at hl hd ⊢
    rw [scanL_dig (h1 c (by simp)) hl, hd]
    simp only [finL]
    rw [dval_drop]
    simp

theorem dval_append (a b : List UInt8) : dval (a ++ b) = dval a * 10 ^ b.length + dval b := by
  induction b using list_snoc_ind with
  | h0 => simp [dval]
  | h1 b c ih =>
    rw [← List.append_assoc, dval_snoc, dval_snoc, ih, List.length_append, List.length_singleton, Nat.pow_succ, Nat.add_mul, Nat.mul_assoc]
    omega

theorem rhe_of' {n d q r : Nat} (h : n = d * q + r) (hr : r < d) : rhe n d = if d < 2 * r ∨ (2 * r = d ∧ q % 2 = 1) then q + 1 else q := by
  have h1 : n / d = q := by rw [h, Nat.mul_comm, Nat.add_comm, Nat.add_mul_div_right _ _ (by omega), Nat.div_eq_of_lt hr]; omega
  have h2 : n % d = r := by rw [h, Nat.mul_add_mod, Nat.mod_eq_of_lt hr]
  unfold rhe
  rw [h1, h2]

/-- Numbers from 2^53 up to below 2^54. -/
theorem rnd_53 {a b : Nat} (hb : b ≠ 0) (h1 : b * 9007199254740992 ≤ a) (h2 : a < b * 18014398509481984) : rnd a b = 2 * 2251799813685248 * 1075 + rhe a (b * 2) := by
  have hp := plog_eq (a := a) (b := b) (i := 0) (j := 53) (by have : 0 < b * 9007199254740992 := Nat.mul_pos (by omega) (by omega); omega) hb (by simpa using h1) (by omega)
  have e1 : plog a b = 53 := by rw [hp]; rfl
  unfold rnd
  rw [e1, if_neg (by omega)]
  unfold eOf
  rw [if_neg (by omega)]
  unfold rat
  rw [if_pos (by omega)]
  rfl

theorem tie_mid {k : Nat} (hk : k < 4503599627370496) : decRnd (9007199254740992 + 2 * k + 1) 0 = 4845873199050653696 + (if k % 2 = 1 then k + 1 else k) := by
  unfold decRnd
  rw [if_neg (by omega), if_pos (by omega)]
  rw [show (9007199254740992 + 2 * k + 1) * 10 ^ (0 : Int).toNat = 9007199254740992 + 2 * k + 1 from by simp]
  rw [rnd_53 (by omega) (by omega) (by omega)]
  unfold rhe
  split <;> split <;> omega

theorem tie_above {k B n : Nat} (hk : k < 4503599627370496) (hB : B = 10 ^ n) (hn : 1 ≤ n) : decRnd ((9007199254740992 + 2 * k + 1) * 10 ^ n + 1) (-(n : Int)) = 4845873199050653696 + (k + 1) := by
  have hpos := ten_pow_pos n
  have h10 : 10 ≤ 10 ^ n := by
    have : 10 ^ 1 ≤ 10 ^ n := Nat.pow_le_pow_right (by omega) hn
    omega
  unfold decRnd
  rw [if_neg (by omega), if_neg (by omega), show (-(-(n : Int))).toNat = n from by omega, ← hB] at *
  rw [rnd_53 (by omega) (by
    have : B * 9007199254740992 ≤ (9007199254740992 + 2 * k + 1) * B := by rw [Nat.mul_comm]; exact Nat.mul_le_mul_right _ (by omega)
    omega) (by
    have : (9007199254740992 + 2 * k + 1 + 1) * B ≤ 18014398509481984 * B := Nat.mul_le_mul_right _ (by omega)
    rw [Nat.add_mul _ 1, Nat.mul_comm 18014398509481984] at this
    omega)]
  have e : (9007199254740992 + 2 * k + 1) * B + 1 = B * 2 * (4503599627370496 + k) + (B + 1) := by
    rw [show 9007199254740992 + 2 * k + 1 = 2 * (4503599627370496 + k) + 1 from by omega, Nat.add_mul, Nat.one_mul, Nat.mul_right_comm, Nat.mul_comm B 2]
    omega
  rw [e]
  have hr := rhe_of' (n := B * 2 * (4503599627370496 + k) + (B + 1)) (d := B * 2) (q := 4503599627370496 + k) (r := B + 1) rfl (by omega)
  rw [hr, if_pos (by omega)]
  omega

theorem tie_below {k B n : Nat} (hk : k < 4503599627370496) (hB : B = 10 ^ n) (hn : 1 ≤ n) : decRnd ((9007199254740992 + 2 * k) * 10 ^ n + (10 ^ n - 1)) (-(n : Int)) = 4845873199050653696 + k := by
  have hpos := ten_pow_pos n
  have h10 : 10 ≤ 10 ^ n := by
    have : 10 ^ 1 ≤ 10 ^ n := Nat.pow_le_pow_right (by omega) hn
    omega
  unfold decRnd
  rw [if_neg (by omega), if_neg (by omega), show (-(-(n : Int))).toNat = n from by omega, ← hB] at *
  rw [rnd_53 (by omega) (by
    have : B * 9007199254740992 ≤ (9007199254740992 + 2 * k) * B := by rw [Nat.mul_comm]; exact Nat.mul_le_mul_right _ (by omega)
    omega) (by
    have : (9007199254740992 + 2 * k + 1) * B ≤ 18014398509481984 * B := Nat.mul_le_mul_right _ (by omega)
    rw [Nat.add_mul _ 1, Nat.mul_comm 18014398509481984] at this
    omega)]
  have e : (9007199254740992 + 2 * k) * B + (B - 1) = B * 2 * (4503599627370496 + k) + (B - 1) := by
    rw [show 9007199254740992 + 2 * k = 2 * (4503599627370496 + k) from by omega, Nat.mul_right_comm, Nat.mul_comm B 2]
  rw [e]
  have hr := rhe_of' (n := B * 2 * (4503599627370496 + k) + (B - 1)) (d := B * 2) (q := 4503599627370496 + k) (r := B - 1) rfl (by omega)
  rw [hr, if_neg (by omega)]
  omega

end Go.Proofs.YthdcceackfdbbaaDoor
