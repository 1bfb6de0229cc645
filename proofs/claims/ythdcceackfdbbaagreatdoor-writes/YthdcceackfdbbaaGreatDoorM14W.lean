import Derived.Test.YthdcceackfdbbaaGreatDoorM13W
import Derived.Test.YthdcceackfdbbaaGreatDoorM09W

/- Walk: Print. Own text. -/
namespace Go.Proofs.YthdcceackfdbbaaGreatDoor
open Go.RowKit

theorem ptL_len (r : List UInt8) : (ptL r).length ≤ r.length + 1 := by unfold ptL; split <;> simp <;> omega

theorem outL_size {r : ByteArray} {d : Nat} {p : Int} (h : r.data.toList = outL d p) (_h1 : 1 ≤ d) (h2 : d ≤ 100000000000000000) (h3 : -20000 ≤ p) (h4 : p ≤ 20000) : r.size ≤ 40 := by
  rw [bytes_size h]
  have hlen : (Lib.decDigits d).length ≤ 18 := dd_len (by omega) (by omega)
  have hi := itoa_len (n := p + ((Lib.decDigits d).length : Int) - 1) (by omega) (by omega)
  have ht := trim_len (Lib.decDigits d) 48
  have hp := ptL_len (Lib.trimRightB (Lib.decDigits d) 48)
  unfold outL
  rw [List.length_append, List.length_cons]
  omega

set_option maxRecDepth 20000 in
set_option maxHeartbeats 1600000 in
theorem nprint_any (w : World) (x : Nat) (hx : x < 18446744073709551616) (htab : Lib.TabIs Tryz.prog w "internal/strconv.uint64pow10" .u64 Lib.pow10Tab) :
    Calls Tryz.prog 93 #[.int .u64 (x : Int)] w fun e w' => ∃ s : ByteArray, e = .returned (.string s) ∧ PrintOk x s.data.toList ∧ s.size ≤ 100 ∧ Below w.heap.size w w' := by
  have HT : Hid (Lib.TabIs Tryz.prog w "internal/strconv.uint64pow10" .u64 Lib.pow10Tab) := htab
  clear htab
  have h1 := andNot_sign hx
  have h2 := and_sign hx
  obtain ⟨s, hs⟩ : ∃ s, x % 9223372036854775808 = s := ⟨_, rfl⟩
  have hs2 : s < 9223372036854775808 := by omega
  rw [hs] at h1
  have HS : Hid (x % 9223372036854775808 = s) := hs
  clear hs
  by_cases hg : 9223372036854775808 ≤ x
  · rw [if_pos hg] at h2
    have hb : (bits BinOp.and IntKind.u64 (x : Int) 9223372036854775808 != 0) = true := by rw [h2]; rfl
    have HG : Hid (sgL x = [45]) := by unfold Hid sgL; rw [if_pos hg]
    clear h2
    by_cases c1 : 9218868437227405312 < s
    · have c1b : decide ((9218868437227405312 : Int) < (s : Int)) = true := by simp; omega
      go_enter Tryz.func93, Tryz.ntmps93
      go_wp2
      go_ret
      exact ⟨_, rfl, .inl ⟨by rw [HS.out]; exact c1, rfl⟩, by decide, Below.refl _ _⟩
    · have c1b : decide ((9218868437227405312 : Int) < (s : Int)) = false := by simp; omega
      by_cases c2 : s = 9218868437227405312
      · have c2b : ((s : Int) == 9218868437227405312) = true := by simp; omega
        go_enter Tryz.func93, Tryz.ntmps93
        go_wp2
        go_ret
        exact ⟨_, rfl, .inr (.inl ⟨by rw [HS.out]; exact c2, by rw [HG.out]; rfl⟩), by decide, Below.refl _ _⟩
      · have c2b : ((s : Int) == 9218868437227405312) = false := by simp; omega
        by_cases c3 : s = 0
        · have c3b : ((s : Int) == 0) = true := by simp; omega
          go_enter Tryz.func93, Tryz.ntmps93
          go_wp2
          go_ret
          exact ⟨_, rfl, .inr (.inr (.inl ⟨by rw [HS.out]; exact c3, by rw [HG.out]; rfl⟩)), by decide, Below.refl _ _⟩
        · have c3b : ((s : Int) == 0) = false := by simp; omega
          go_enter Tryz.func93, Tryz.ntmps93
          go_wp2_with fail
          refine (shortest_any _ s c3 (by omega)).mono ?_
          rintro e w1 ⟨a, b, j, d, rfl, ha, hb', hj, q1, q2, q3, b1⟩
          have hsa : ShortAt s d ((b : Int) - a - j) := ⟨a, b, j, ha, hb', hj, rfl, q1, q2, q3⟩
          obtain ⟨d1, d2, p1, p2⟩ := hsa.bd
          have HSA := Hid.mk' hsa
          clear hsa q1 q2 q3
          go_wp2_with fail
          refine (layOut_any _ d _ d1 d2 p1 p2 (tab_below HT.out b1)).mono ?_
          rintro e w2 ⟨r, rfl, hr, b2⟩
          have hrs : r.size ≤ 40 := outL_size hr d1 d2 p1 p2
          go_wp2
          go_ret
          refine ⟨_, rfl, .inr (.inr (.inr ⟨by rw [HS.out]; exact c3, by rw [HS.out]; omega, d, _, by rw [HS.out]; exact HSA.out, ?_⟩)), ?_, b1.trans (b2.mono b1.size)⟩
          · rw [bytes_append_list, hr, HG.out]
          · rw [ByteArray.size_append]; have : (⟨#[45]⟩ : ByteArray).size ≤ 1 := by decide
            omega
  · rw [if_neg hg] at h2
    have hb : (bits BinOp.and IntKind.u64 (x : Int) 9223372036854775808 != 0) = false := by rw [h2]; rfl
    have HG : Hid (sgL x = []) := by unfold Hid sgL; rw [if_neg hg]
    clear h2
    by_cases c1 : 9218868437227405312 < s
    · have c1b : decide ((9218868437227405312 : Int) < (s : Int)) = true := by simp; omega
      go_enter Tryz.func93, Tryz.ntmps93
      go_wp2
      go_ret
      exact ⟨_, rfl, .inl ⟨by rw [HS.out]; exact c1, rfl⟩, by decide, Below.refl _ _⟩
    · have c1b : decide ((9218868437227405312 : Int) < (s : Int)) = false := by simp; omega
      by_cases c2 : s = 9218868437227405312
      · have c2b : ((s : Int) == 9218868437227405312) = true := by simp; omega
        go_enter Tryz.func93, Tryz.ntmps93
        go_wp2
        go_ret
        exact ⟨_, rfl, .inr (.inl ⟨by rw [HS.out]; exact c2, by rw [HG.out]; rfl⟩), by decide, Below.refl _ _⟩
      · have c2b : ((s : Int) == 9218868437227405312) = false := by simp; omega
        by_cases c3 : s = 0
        · have c3b : ((s : Int) == 0) = true := by simp; omega
          go_enter Tryz.func93, Tryz.ntmps93
          go_wp2
          go_ret
          exact ⟨_, rfl, .inr (.inr (.inl ⟨by rw [HS.out]; exact c3, by rw [HG.out]; rfl⟩)), by decide, Below.refl _ _⟩
        · have c3b : ((s : Int) == 0) = false := by simp; omega
          go_enter Tryz.func93, Tryz.ntmps93
          go_wp2_with fail
          refine (shortest_any _ s c3 (by omega)).mono ?_
          rintro e w1 ⟨a, b, j, d, rfl, ha, hb', hj, q1, q2, q3, b1⟩
          have hsa : ShortAt s d ((b : Int) - a - j) := ⟨a, b, j, ha, hb', hj, rfl, q1, q2, q3⟩
          obtain ⟨d1, d2, p1, p2⟩ := hsa.bd
          have HSA := Hid.mk' hsa
          clear hsa q1 q2 q3
          go_wp2_with fail
          refine (layOut_any _ d _ d1 d2 p1 p2 (tab_below HT.out b1)).mono ?_
          rintro e w2 ⟨r, rfl, hr, b2⟩
          have hrs : r.size ≤ 40 := outL_size hr d1 d2 p1 p2
          go_wp2
          go_ret
          refine ⟨_, rfl, .inr (.inr (.inr ⟨by rw [HS.out]; exact c3, by rw [HS.out]; omega, d, _, by rw [HS.out]; exact HSA.out, ?_⟩)), ?_, b1.trans (b2.mono b1.size)⟩
          · rw [bytes_append_list, hr, HG.out]
          · rw [ByteArray.size_append]; have : (⟨#[]⟩ : ByteArray).size ≤ 1 := by decide
            omega

set_option maxHeartbeats 400000 in
theorem print_any (w : World) (x : Nat) (hx : x < 18446744073709551616) (htab : Lib.TabIs Tryz.prog w "internal/strconv.uint64pow10" .u64 Lib.pow10Tab) :
    Calls Tryz.prog 58 #[.int .u64 (x : Int)] w fun e w' => ∃ s : ByteArray, e = .returned (.string s) ∧ PrintOk x s.data.toList ∧ s.size ≤ 100 ∧ Below w.heap.size w w' := by
  go_enter Tryz.func58, Tryz.ntmps58
  go_wp2_with fail
  refine (nprint_any _ x hx htab).mono ?_
  rintro e w1 ⟨s, rfl, h1, h2, h3⟩
  go_wp2
  go_ret
  exact ⟨s, rfl, h1, h2, h3⟩

end Go.Proofs.YthdcceackfdbbaaGreatDoor
/- A fraction is rounded to a size exactly where it lies in the size's interval. Own text. -/
namespace Go.Proofs.YthdcceackfdbbaaGreatDoor
open Go.RowKit

theorem inS_iff {d r : Nat} {ev : Bool} : inS d r ev = true ↔ d < r ∨ (d = r ∧ ev = true) := by
  unfold inS; simp

/-- X in quarters of a step: in the interval of m steps? -/
def InI (X Q m : Nat) (nb ev : Bool) : Prop :=
  (X ≤ 4 * Q * m ∧ inS (4 * Q * m - X) (if nb then Q else 2 * Q) ev = true) ∨ (4 * Q * m ≤ X ∧ inS (X - 4 * Q * m) (2 * Q) ev = true)

theorem plog_lo {a b k K : Nat} (ha : a ≠ 0) (hb : b ≠ 0) (h : (k : Int) - K ≤ plog a b) : b * 2 ^ k ≤ a * 2 ^ K := by
  obtain ⟨i, j, e, h1, _⟩ := plog_key ha hb
  rw [e] at h
  have hk : k + i ≤ j + K := by omega
  have q1 : b * 2 ^ k * 2 ^ i ≤ b * 2 ^ j * 2 ^ K := by
    rw [Nat.mul_assoc, Nat.mul_assoc, ← Nat.pow_add, ← Nat.pow_add]
    exact Nat.mul_le_mul_left _ (Nat.pow_le_pow_right (by omega) hk)
  have q2 : b * 2 ^ j * 2 ^ K ≤ a * 2 ^ K * 2 ^ i := by
    rw [Nat.mul_right_comm a]; exact Nat.mul_le_mul_right _ h1
  exact Nat.le_of_mul_le_mul_right (Nat.le_trans q1 q2) (Nat.pow_pos (by omega))

theorem plog_hi {a b k K : Nat} (ha : a ≠ 0) (hb : b ≠ 0) (h : plog a b ≤ (k : Int) - K) : a * 2 ^ K < 2 * (b * 2 ^ k) := by
  obtain ⟨i, j, e, _, h2⟩ := plog_key ha hb
  rw [e] at h
  have hk : j + K ≤ k + i := by omega
  have q1 : a * 2 ^ K * 2 ^ i < 2 * (b * 2 ^ j) * 2 ^ K := by
    rw [Nat.mul_right_comm a]; exact Nat.mul_lt_mul_of_pos_right h2 (Nat.pow_pos (by omega))
  have q2 : 2 * (b * 2 ^ j) * 2 ^ K ≤ 2 * (b * 2 ^ k) * 2 ^ i := by
    rw [Nat.mul_assoc, Nat.mul_assoc, Nat.mul_assoc, Nat.mul_assoc, ← Nat.pow_add, ← Nat.pow_add]
    exact Nat.mul_le_mul_left _ (Nat.mul_le_mul_left _ (Nat.pow_le_pow_right (by omega) hk))
  exact Nat.lt_of_mul_lt_mul_right (Nat.lt_of_lt_of_le q1 q2)

theorem rnd_form {a b K : Nat} (ha : a ≠ 0) (hb : b ≠ 0) (hK : K = 1076) : ∃ n : Nat, (n = 0 ∨ 4 * (b * 2 ^ n) * 4503599627370496 ≤ a * 2 ^ K) ∧ a * 2 ^ K < 4 * (b * 2 ^ n) * 9007199254740992 ∧
    rnd a b = if 2045 < n then 9218868437227405312 else n * 4503599627370496 + rhe (a * 2 ^ K) (4 * (b * 2 ^ n)) := by
  have hsplit : ∀ n : Nat, b * 2 ^ (n + 54) = 4 * (b * 2 ^ n) * 4503599627370496 := by
    intro n; rw [Nat.pow_add]; rw [← Nat.mul_assoc]; omega
  have hq : ∀ n : Nat, (n : Int) + 2 - K = (n : Int) - 1074 := by intro n; omega
  have hrat : ∀ n : Nat, rhe (a * 2 ^ K) (4 * (b * 2 ^ n)) = rat a b ((n : Int) - 1074) := by
    intro n
    rw [show 4 * (b * 2 ^ n) = b * 2 ^ (n + 2) by rw [Nat.pow_add, ← Nat.mul_assoc b]; omega, rat_of2, ← hq n]
    congr 1
  unfold rnd
  generalize hp : plog a b = p
  by_cases h1 : p < -1022
  · refine ⟨0, .inl rfl, ?_, ?_⟩
    · have := plog_hi (k := 54) (K := K) ha hb (by omega)
      have e := hsplit 0
      simp only [Nat.zero_add] at e
      omega
    · rw [if_neg (by omega), if_neg (by omega), hrat]
      unfold eOf
      rw [if_pos h1]
      simp
  · obtain ⟨n, hn⟩ : ∃ n : Nat, p = (n : Int) - 1022 := ⟨(p + 1022).toNat, by omega⟩
    refine ⟨n, .inr ?_, ?_, ?_⟩
    · have := plog_lo (k := n + 54) (K := K) ha hb (by omega)
      rw [hsplit] at this
      exact this
    · have := plog_hi (k := n + 54) (K := K) ha hb (by omega)
      rw [hsplit] at this
      omega
    · by_cases h2 : 1023 < p
      · rw [if_pos h2, if_pos (by omega)]
      · rw [if_neg h2, if_neg (by omega), hrat]
        unfold eOf
        rw [if_neg h1, hn]
        rw [show (n : Int) - 1022 - 52 = (n : Int) - 1074 by omega, show ((n : Int) - 1074 + 1074).toNat = n by omega]

/-- What rounding to the nearest whole number says. -/
theorem rhe_spec {X D : Nat} (hD : D ≠ 0) : (X = D * rhe X D + X % D ∧ (2 * (X % D) < D ∨ (2 * (X % D) = D ∧ rhe X D % 2 = 0))) ∨ (X + (D - X % D) = D * rhe X D ∧ (D < 2 * (X % D) ∨ (2 * (X % D) = D ∧ rhe X D % 2 = 0))) := by
  have h1 := Nat.div_add_mod X D
  have h2 := Nat.mod_lt X (Nat.pos_of_ne_zero hD)
  unfold rhe
  generalize X / D = q at *
  generalize X % D = r at *
  split
  · rename_i h
    right
    refine ⟨by rw [Nat.mul_add]; omega, ?_⟩
    rcases h with h | ⟨h, h'⟩
    · exact .inl h
    · exact .inr ⟨h, by omega⟩
  · rename_i h
    left
    refine ⟨by omega, ?_⟩
    by_cases hh : 2 * r < D
    · exact .inl hh
    · right; exact ⟨by omega, by omega⟩

theorem rhe_in {X Q m : Nat} {nb ev : Bool} (hQ : Q ≠ 0) (hev : ev = decide (m % 2 = 0)) (h : InI X Q m nb ev) : rhe X (4 * Q) = m := by
  rcases h with ⟨h1, h2⟩ | ⟨h1, h2⟩
  · rw [inS_iff] at h2
    by_cases h0 : X = 4 * Q * m
    · rw [rhe_of (q := m) (r := 0) (by omega) (by omega), if_neg (by omega)]
    · have hm : m ≠ 0 := by intro h'; subst h'; omega
      obtain ⟨k, rfl⟩ : ∃ k, m = k + 1 := ⟨m - 1, by omega⟩
      have e : 4 * Q * (k + 1) = 4 * Q * k + 4 * Q := by rw [Nat.mul_add]; omega
      rw [e] at h1 h2 h0
      have hb : (if nb = true then Q else 2 * Q) ≤ 2 * Q := by split <;> omega
      have hb2 : 4 * Q * k + 4 * Q - X ≤ 2 * Q := by rcases h2 with h2 | h2 <;> omega
      have hb3 : (if nb = true then Q else 2 * Q) < 2 * Q ∨ (if nb = true then Q else 2 * Q) = 2 * Q := by omega
      rw [rhe_of (q := k) (r := X - 4 * Q * k) (by omega) (by omega)]
      rw [if_pos]
      by_cases hh : 4 * Q < 2 * (X - 4 * Q * k)
      · exact .inl hh
      · right
        refine ⟨by omega, ?_⟩
        rcases h2 with h2 | ⟨h2, h3⟩
        · omega
        · rw [hev] at h3
          simp at h3
          omega
  · rw [inS_iff] at h2
    have hb2 : X - 4 * Q * m ≤ 2 * Q := by rcases h2 with h2 | h2 <;> omega
    rw [rhe_of (q := m) (r := X - 4 * Q * m) (by omega) (by omega)]
    rw [if_neg]
    intro hh
    rcases hh with hh | ⟨hh, hh'⟩
    · omega
    · rcases h2 with h2 | ⟨h2, h3⟩
      · omega
      · rw [hev] at h3
        simp at h3
        omega

theorem pow_le_double {b n k : Nat} (h : n < k) : 2 * (b * 2 ^ n) ≤ b * 2 ^ k := by
  obtain ⟨i, rfl⟩ : ∃ i, k = n + 1 + i := ⟨k - (n + 1), by omega⟩
  rw [Nat.pow_add, Nat.pow_succ]
  have : 1 ≤ 2 ^ i := Nat.pow_pos (by omega)
  have := Nat.mul_le_mul_left (b * (2 ^ n * 2)) this
  rw [← Nat.mul_assoc b, ← Nat.mul_assoc b] at *
  omega

theorem in_rnd {a b n m K : Nat} {nb ev : Bool} (ha : a ≠ 0) (hb : b ≠ 0) (hK : K = 1076) (hn : n ≤ 2045) (hm : m < 9007199254740992) (hnm : n = 0 ∨ 4503599627370496 ≤ m) (hnb : nb = decide (m = 4503599627370496 ∧ 1 ≤ n)) (hev : ev = decide (m % 2 = 0))
    (h : InI (a * 2 ^ K) (b * 2 ^ n) m nb ev) : rnd a b = n * 4503599627370496 + m := by
  obtain ⟨k, f1, f2, f3⟩ := rnd_form ha hb hK
  rw [f3]
  clear f3
  generalize a * 2 ^ K = X at *
  have hQ : b * 2 ^ n ≠ 0 := Nat.mul_ne_zero hb (Nat.ne_of_gt (Nat.pow_pos (by omega)))
  have hQk : b * 2 ^ k ≠ 0 := Nat.mul_ne_zero hb (Nat.ne_of_gt (Nat.pow_pos (by omega)))
  have hX1 : X ≤ 4 * (b * 2 ^ n) * m + 2 * (b * 2 ^ n) := by
    rcases h with ⟨h1, _⟩ | ⟨h1, h2⟩
    · omega
    · rw [inS_iff] at h2; rcases h2 with h2 | h2 <;> omega
  rcases Nat.lt_trichotomy n k with hlt | hlt | hlt
  · exfalso
    have hd := pow_le_double (b := b) hlt
    have e := Nat.mul_le_mul_left (4 * (b * 2 ^ n)) (show m ≤ 9007199254740991 by omega)
    omega
  · subst hlt
    rw [if_neg (by omega), rhe_in hQ hev h]
  · have hd := pow_le_double (b := b) hlt
    have hm52 : 4503599627370496 ≤ m := by omega
    by_cases hme : m = 4503599627370496
    · have hnbt : nb = true := by rw [hnb]; simp; omega
      rw [hnbt] at h
      have hX2 : 4 * (b * 2 ^ n) * m ≤ X + b * 2 ^ n := by
        rcases h with ⟨h1, h2⟩ | ⟨h1, h2⟩
        · rw [inS_iff, if_pos rfl] at h2; rcases h2 with h2 | h2 <;> omega
        · omega
      rw [hme] at hX2
      by_cases hk1 : n = k + 1
      · have e2 : b * 2 ^ n = 2 * (b * 2 ^ k) := by rw [hk1, Nat.pow_succ, ← Nat.mul_assoc]; omega
        rw [e2] at hX2
        rw [if_neg (by omega), rhe_of (q := 9007199254740991) (r := X - 4 * (b * 2 ^ k) * 9007199254740991) (by omega) (by omega), if_pos]
        · omega
        · by_cases hh : 4 * (b * 2 ^ k) < 2 * (X - 4 * (b * 2 ^ k) * 9007199254740991)
          · exact .inl hh
          · right; exact ⟨by omega, by decide⟩
      · exfalso
        have hd2 := pow_le_double (b := b) (show k < k + 1 by omega)
        have hd3 := pow_le_double (b := b) (show k + 1 < n by omega)
        omega
    · exfalso
      have e := Nat.mul_le_mul_left (4 * (b * 2 ^ n)) (show 4503599627370497 ≤ m by omega)
      have hb' : (if nb = true then b * 2 ^ n else 2 * (b * 2 ^ n)) ≤ 2 * (b * 2 ^ n) := by split <;> omega
      rcases h with ⟨h1, h2⟩ | ⟨h1, h2⟩
      · rw [inS_iff] at h2; rcases h2 with h2 | h2 <;> omega
      · omega

theorem rnd_in {a b n m K : Nat} {nb ev : Bool} (ha : a ≠ 0) (hb : b ≠ 0) (hK : K = 1076) (hn : n ≤ 2045) (hm : m < 9007199254740992) (hnm : n = 0 ∨ 4503599627370496 ≤ m) (hnb : nb = decide (m = 4503599627370496 ∧ 1 ≤ n)) (hev : ev = decide (m % 2 = 0))
    (h : rnd a b = n * 4503599627370496 + m) : InI (a * 2 ^ K) (b * 2 ^ n) m nb ev := by
  obtain ⟨k, f1, f2, f3⟩ := rnd_form ha hb hK
  rw [f3] at h
  clear f3
  generalize a * 2 ^ K = X at *
  have hQ : b * 2 ^ n ≠ 0 := Nat.mul_ne_zero hb (Nat.ne_of_gt (Nat.pow_pos (by omega)))
  have hQk : b * 2 ^ k ≠ 0 := Nat.mul_ne_zero hb (Nat.ne_of_gt (Nat.pow_pos (by omega)))
  by_cases hk : 2045 < k
  · rw [if_pos hk] at h; exfalso; omega
  · rw [if_neg hk] at h
    have hs := rhe_spec (X := X) (D := 4 * (b * 2 ^ k)) (by omega)
    have hmod := Nat.mod_lt X (show 0 < 4 * (b * 2 ^ k) by omega)
    have hr53 : rhe X (4 * (b * 2 ^ k)) ≤ 9007199254740992 := rhe_le f2
    have hr52 : k = 0 ∨ 4503599627370496 ≤ rhe X (4 * (b * 2 ^ k)) := by
      rcases f1 with f1 | f1
      · exact .inl f1
      · right
        rcases Nat.lt_or_ge (rhe X (4 * (b * 2 ^ k))) 4503599627370496 with h' | h'
        · exfalso
          have e := Nat.mul_le_mul_left (4 * (b * 2 ^ k)) (show rhe X (4 * (b * 2 ^ k)) ≤ 4503599627370495 by omega)
          omega
        · exact h'
    generalize rhe X (4 * (b * 2 ^ k)) = r at *
    rcases (show (k = n ∧ r = m) ∨ (n = k + 1 ∧ r = 9007199254740992 ∧ m = 4503599627370496) by omega) with ⟨rfl, rfl⟩ | ⟨rfl, rfl, rfl⟩
    · rcases hs with ⟨h1, h2⟩ | ⟨h1, h2⟩
      · right
        refine ⟨by omega, ?_⟩
        rw [inS_iff]
        rcases h2 with h2 | ⟨h2, h3⟩
        · left; omega
        · right; exact ⟨by omega, by rw [hev]; simpa using h3⟩
      · left
        have hnbf : nb = false := by
          rw [hnb, decide_eq_false]
          rintro ⟨g1, g2⟩
          rw [g1] at h1
          omega
        rw [hnbf]
        refine ⟨by omega, ?_⟩
        rw [inS_iff]
        simp only [Bool.false_eq_true, if_false]
        rcases h2 with h2 | ⟨h2, h3⟩
        · left; omega
        · right; exact ⟨by omega, by rw [hev]; simpa using h3⟩
    · have e2 : b * 2 ^ (k + 1) = 2 * (b * 2 ^ k) := by rw [Nat.pow_succ, ← Nat.mul_assoc]; omega
      rw [e2]
      have hnbt : nb = true := by rw [hnb]; simp
      have hevt : ev = true := by rw [hev]; rfl
      rw [hnbt, hevt]
      left
      rcases hs with ⟨h1, h2⟩ | ⟨h1, h2⟩
      · exfalso; omega
      · refine ⟨by omega, ?_⟩
        rw [inS_iff]
        simp only [if_true, and_true]
        omega

end Go.Proofs.YthdcceackfdbbaaGreatDoor
/- Decimals and the interval of a size. Own text. -/
namespace Go.Proofs.YthdcceackfdbbaaGreatDoor
open Go.RowKit

/-- u lies about v, no farther than B below and A above. -/
def InW (u v B A : Nat) (ev : Bool) : Prop := (u ≤ v ∧ inS (v - u) B ev = true) ∨ (v ≤ u ∧ inS (u - v) A ev = true)

theorem inS_scale {d r c : Nat} {ev : Bool} (hc : 0 < c) : inS (d * c) (r * c) ev = inS d r ev := by
  have h1 : d * c < r * c ↔ d < r := ⟨fun h => Nat.lt_of_mul_lt_mul_right h, fun h => Nat.mul_lt_mul_of_pos_right h hc⟩
  have h2 : d * c = r * c ↔ d = r := ⟨fun h => Nat.eq_of_mul_eq_mul_right hc h, fun h => by rw [h]⟩
  unfold inS
  simp only [h1, h2]

theorem InW.scale {u v B A c : Nat} {ev : Bool} (hc : 0 < c) : InW (u * c) (v * c) (B * c) (A * c) ev ↔ InW u v B A ev := by
  have h1 : ∀ x y : Nat, x * c ≤ y * c ↔ x ≤ y := fun x y => ⟨fun h => Nat.le_of_mul_le_mul_right h hc, fun h => Nat.mul_le_mul_right c h⟩
  unfold InW
  rw [h1, h1, ← Nat.sub_mul, ← Nat.sub_mul, inS_scale hc, inS_scale hc]

def nS (s : Nat) : Nat := (eS s + 1074).toNat

theorem size_eq {s : Nat} (h : s < 9218868437227405312) : s = nS s * 4503599627370496 + mS s ∧ nS s ≤ 2045 ∧ (nS s = 0 ∨ 4503599627370496 ≤ mS s) ∧ nbS s = decide (mS s = 4503599627370496 ∧ 1 ≤ nS s) ∧ decide (s % 2 = 0) = decide (mS s % 2 = 0) := by
  unfold nS eS mS nbS
  by_cases h0 : s / 4503599627370496 = 0
  · simp only [h0, if_true]
    refine ⟨by omega, by omega, .inl (by omega), ?_, ?_⟩
    · by_cases h1 : s % 4503599627370496 = 0 <;> simp <;> omega
    · rw [show s % 4503599627370496 % 2 = s % 2 by omega]
  · simp only [h0, if_false]
    refine ⟨by omega, by omega, .inr (by omega), ?_, ?_⟩
    · by_cases h1 : s % 4503599627370496 = 0
      · by_cases h2 : 1 < s / 4503599627370496
        · rw [decide_eq_true h1, decide_eq_true h2, decide_eq_true]
          · rfl
          · omega
        · rw [decide_eq_true h1, decide_eq_false h2, decide_eq_false]
          · rfl
          · omega
      · rw [decide_eq_false h1, Bool.false_and, decide_eq_false]; omega
    · congr 1; apply propext; constructor <;> intro h <;> omega

def InV (a b s : Nat) : Prop := InW (a * oneS s) (b * sizeS s) (b * belowS s) (b * aboveS s) (decide (s % 2 = 0))

theorem InV_iff {a b s K : Nat} (h : s < 9218868437227405312) (hK : K = 1076) : InV a b s ↔ InI (a * 2 ^ K) (b * 2 ^ nS s) (mS s) (nbS s) (decide (mS s % 2 = 0)) := by
  obtain ⟨e1, e2⟩ := eS_bd h
  have hc : 0 < 2 ^ (1074 - (-eS s).toNat) := Nat.pow_pos (by omega)
  have k1 : oneS s * 2 ^ (1074 - (-eS s).toNat) = 2 ^ K := by
    unfold oneS
    rw [show (4 : Nat) = 2 ^ 2 from rfl, ← Nat.pow_add, ← Nat.pow_add]
    congr 1
    omega
  have k2 : qS s * 2 ^ (1074 - (-eS s).toNat) = 2 ^ nS s := by
    unfold qS nS
    rw [← Nat.pow_add]
    congr 1
    omega
  unfold InV
  rw [← InW.scale hc, (size_eq h).2.2.2.2]
  have q1 : a * oneS s * 2 ^ (1074 - (-eS s).toNat) = a * 2 ^ K := by rw [Nat.mul_assoc, k1]
  have q2 : b * sizeS s * 2 ^ (1074 - (-eS s).toNat) = 4 * (b * 2 ^ nS s) * mS s := by
    unfold sizeS
    rw [← k2]
    ac_rfl
  have q3 : b * belowS s * 2 ^ (1074 - (-eS s).toNat) = if nbS s then b * 2 ^ nS s else 2 * (b * 2 ^ nS s) := by
    unfold belowS
    rw [← k2]
    split <;> ac_rfl
  have q4 : b * aboveS s * 2 ^ (1074 - (-eS s).toNat) = 2 * (b * 2 ^ nS s) := by
    unfold aboveS
    rw [← k2]
    ac_rfl
  rw [q1, q2, q3, q4]
  rfl

theorem rnd_iff {a b s : Nat} (ha : a ≠ 0) (hb : b ≠ 0) (h : s < 9218868437227405312) : rnd a b = s ↔ InV a b s := by
  obtain ⟨K, hK⟩ : ∃ K : Nat, K = 1076 := ⟨_, rfl⟩
  rw [InV_iff h hK]
  obtain ⟨h1, h2, h3, h4, h5⟩ := size_eq h
  have hm := mS_lt s
  constructor
  · intro hr
    exact rnd_in ha hb hK h2 hm h3 h4 rfl (hr.trans h1)
  · intro hi
    exact (in_rnd ha hb hK h2 hm h3 h4 rfl hi).trans h1.symm

/-- Is the decimal D times 10 to the k in the interval of s? -/
def InD (D : Nat) (k : Int) (s : Nat) : Prop := InV (D * 10 ^ k.toNat) (10 ^ (-k).toNat) s

theorem decRnd_eq {D : Nat} {k : Int} (h : D ≠ 0) : decRnd D k = rnd (D * 10 ^ k.toNat) (10 ^ (-k).toNat) := by
  unfold decRnd
  rw [if_neg h]
  by_cases hk : 0 ≤ k
  · rw [if_pos hk, show (-k).toNat = 0 by omega]
  · rw [if_neg hk, show k.toNat = 0 by omega, Nat.pow_zero, Nat.mul_one]

theorem decRnd_iff {D : Nat} {k : Int} {s : Nat} (hD : D ≠ 0) (h : s < 9218868437227405312) : decRnd D k = s ↔ InD D k s := by
  rw [decRnd_eq hD]
  exact rnd_iff (Nat.mul_ne_zero hD (Nat.ne_of_gt (ten_pow_pos _))) (Nat.ne_of_gt (ten_pow_pos _)) h

theorem InD_iff {D a b : Nat} {k : Int} {s : Nat} (hk : (b : Int) - a = k) : InD D k s ↔ InW (D * (oneS s * 10 ^ b)) (sizeS s * 10 ^ a) (belowS s * 10 ^ a) (aboveS s * 10 ^ a) (decide (s % 2 = 0)) := by
  obtain ⟨t, h1, h2⟩ : ∃ t : Nat, b = k.toNat + t ∧ a = (-k).toNat + t := ⟨b - k.toNat, by omega, by omega⟩
  unfold InD InV
  rw [← InW.scale (ten_pow_pos t), h1, h2, Nat.pow_add, Nat.pow_add]
  have q1 : D * 10 ^ k.toNat * oneS s * 10 ^ t = D * (oneS s * (10 ^ k.toNat * 10 ^ t)) := by ac_rfl
  have q2 : ∀ x, 10 ^ (-k).toNat * x * 10 ^ t = x * (10 ^ (-k).toNat * 10 ^ t) := fun x => by ac_rfl
  rw [q1, q2, q2, q2]

theorem InD_shift {D z : Nat} {k : Int} {s : Nat} : InD (D * 10 ^ z) k s ↔ InD D (k + z) s := by
  obtain ⟨a, b, hab⟩ : ∃ a b : Nat, (b : Int) - a = k + z := ⟨(-(k + z)).toNat, (k + z).toNat, by omega⟩
  rw [InD_iff hab, InD_iff (a := a + z) (b := b) (k := k) (by omega)]
  have q1 : D * 10 ^ z * (oneS s * 10 ^ b) = D * (oneS s * 10 ^ b) * 10 ^ z := by ac_rfl
  have q2 : ∀ x, x * 10 ^ (a + z) = x * 10 ^ a * 10 ^ z := fun x => by rw [Nat.pow_add]; ac_rfl
  rw [q1, q2, q2, q2]
  exact InW.scale (ten_pow_pos z)

/-- What a step tells of the two next to the size. -/
theorem pick_facts {N B A D : Nat} {ev : Bool} (hD : D ≠ 0) : (InW (N / D * D) N B A ev ↔ inS (N % D) B ev = true ∨ N % D = 0 ∧ inS 0 A ev = true) ∧ (InW ((N / D + 1) * D) N B A ev ↔ inS (D - N % D) A ev = true) := by
  have h1 := Nat.div_add_mod N D
  have h2 := Nat.mod_lt N (Nat.pos_of_ne_zero hD)
  have e : N / D * D + N % D = N := by rw [Nat.mul_comm]; exact h1
  have e2 : (N / D + 1) * D = N / D * D + D := by rw [Nat.add_mul]; omega
  rw [e2]
  generalize N / D * D = u at *
  generalize N % D = r at *
  subst e
  unfold InW
  constructor
  · rw [show u + r - u = r by omega]
    constructor
    · rintro (⟨_, h⟩ | ⟨h, h'⟩)
      · exact .inl h
      · right
        have : r = 0 := by omega
        subst this
        exact ⟨rfl, by simpa using h'⟩
    · rintro (h | ⟨h, h'⟩)
      · exact .inl ⟨by omega, h⟩
      · right; subst h; exact ⟨by omega, by simpa using h'⟩
  · rw [show u + D - (u + r) = D - r by omega]
    constructor
    · rintro (⟨h, _⟩ | ⟨_, h⟩)
      · omega
      · exact h
    · intro h; exact .inr ⟨by omega, h⟩

theorem below_pos (s : Nat) : 0 < belowS s := by
  unfold belowS qS
  have : 0 < 2 ^ (eS s).toNat := Nat.pow_pos (by omega)
  split <;> omega

theorem pick_in {N B A D d : Nat} {ev : Bool} (hD : D ≠ 0) (h : pickO N B A D ev = some d) : InW (d * D) N B A ev := by
  obtain ⟨f1, f2⟩ := pick_facts (N := N) (B := B) (A := A) (ev := ev) hD
  unfold pickO at h
  have hn := nearS_le (N / D) (N % D) (D - N % D)
  split at h
  · rename_i hh
    simp at hh
    simp at h
    rcases (show nearS (N / D) (N % D) (D - N % D) = 0 ∨ nearS (N / D) (N % D) (D - N % D) = 1 by omega) with h0 | h0
    · rw [h0] at h; subst h; exact f1.2 (.inl hh.1)
    · rw [h0] at h; subst h; exact f2.2 hh.2
  · split at h
    · rename_i _ hh; simp at h; subst h; exact f1.2 (.inl hh)
    · split at h
      · rename_i _ _ hh; simp at h; subst h; exact f2.2 hh
      · simp at h

theorem pick_out {N B A D : Nat} {ev : Bool} (hD : D ≠ 0) (hB : 0 < B) (h : pickO N B A D ev = none) : ¬ InW (N / D * D) N B A ev ∧ ¬ InW ((N / D + 1) * D) N B A ev := by
  obtain ⟨f1, f2⟩ := pick_facts (N := N) (B := B) (A := A) (ev := ev) hD
  unfold pickO at h
  cases hl : inS (N % D) B ev <;> cases hu : inS (D - N % D) A ev <;> rw [hl, hu] at h
  · rw [f1, f2, hl, hu]
    refine ⟨?_, by simp⟩
    rintro (h' | ⟨h', _⟩)
    · simp at h'
    · rw [h'] at hl
      unfold inS at hl
      simp at hl
      omega
  · simp at h
  · simp at h
  · simp at h

theorem ShortAt.inD {s d : Nat} {p : Int} (h : ShortAt s d p) : InD d p s := by
  obtain ⟨a, b, j, h1, h2, h3, rfl, h4, h5, h6, _⟩ := h
  have hD : oneS s * 10 ^ b ≠ 0 := Nat.mul_ne_zero (one_ne s) (Nat.ne_of_gt (ten_pow_pos b))
  have := pick_in hD h6
  have q2 : ∀ x, x * 10 ^ (a + j) = x * 10 ^ a * 10 ^ j := fun x => by rw [Nat.pow_add]; ac_rfl
  rw [InD_iff (a := a + j) (b := b) (by omega), q2, q2, q2]
  exact this

end Go.Proofs.YthdcceackfdbbaaGreatDoor
/- What is printed is scanned. Own text. -/
namespace Go.Proofs.YthdcceackfdbbaaGreatDoor
open Go.RowKit

theorem smallW_dval {l : List UInt8} (h : Digs l) (hv : dval l < 10000) : smallW l = dval l := by
  induction l using list_snoc_ind with
  | h0 => rfl
  | h1 l c ih =>
    obtain ⟨h1, h2⟩ := digs_snoc h
    rw [dval_snoc] at hv ⊢
    have := ih h1 (by omega)
    rw [smallW_snoc, this, if_pos (by omega)]

theorem itoa_form {q : Int} (h1 : -1000 < q) (h2 : q < 1000) : ∃ u : Nat, u < 1000 ∧ ((q < 0 ∧ q = -(u : Int) ∧ Lib.itoa q = 45 :: Lib.decDigits u) ∨ (0 ≤ q ∧ q = (u : Int) ∧ Lib.itoa q = Lib.decDigits u)) := by
  by_cases h : q < 0
  · obtain ⟨u, rfl⟩ : ∃ u : Nat, q = -(u : Int) := ⟨q.natAbs, by omega⟩
    exact ⟨u, by omega, .inl ⟨h, rfl, Lib.itoa_neg u (by omega)⟩⟩
  · obtain ⟨u, rfl⟩ : ∃ u : Nat, q = (u : Int) := ⟨q.toNat, by omega⟩
    exact ⟨u, by omega, .inr ⟨by omega, rfl, Lib.itoa_nonneg u⟩⟩

theorem powL_itoa {q : Int} (h1 : -1000 < q) (h2 : q < 1000) : powL (101 :: Lib.itoa q) = some q := by
  obtain ⟨u, hu, h⟩ := itoa_form h1 h2
  obtain ⟨d1, d2, _, d4⟩ := dd_all u
  have hw := smallW_dval d1 (by rw [d2]; omega)
  obtain ⟨e1, e2⟩ := takeWhile_all d1 [] (by simp)
  rw [List.append_nil] at e1 e2
  rcases h with ⟨_, rfl, e⟩ | ⟨_, rfl, e⟩
  · rw [e]
    have hs : signL (45 :: Lib.decDigits u) = (true, Lib.decDigits u) := by simp [signL]
    simp [powL, hs, e1, e2, d4, hw, d2]
  · rw [e]
    have hs : signL (Lib.decDigits u) = (false, Lib.decDigits u) := by
      cases hc : Lib.decDigits u with
      | nil => exact absurd hc d4
      | cons c r => rw [hc] at d1; exact signL_dig (d1 c (by simp))
    simp [powL, hs, e1, e2, d4, hw, d2]

theorem decL_exp {c : UInt8} {f : List UInt8} {q : Int} (hc : isDig c = true) (hf : Digs f) (h1 : -1000 < q) (h2 : q < 1000) :
    decL (c :: 46 :: (f ++ 101 :: Lib.itoa q)) = some ((c :: f).dropWhile (· == 48), q - f.length) := by
  have hd : Digs [c] := by intro x hx; simp at hx; subst hx; exact hc
  obtain ⟨e1, e2⟩ := takeWhile_all hd (46 :: (f ++ 101 :: Lib.itoa q)) (by intro c t e; cases e; rfl)
  obtain ⟨e3, e4⟩ := takeWhile_all hf (101 :: Lib.itoa q) (by intro c t e; cases e; rfl)
  have ef : fracL (46 :: (f ++ 101 :: Lib.itoa q)) = (f, 101 :: Lib.itoa q) := by simp [fracL, e3, e4]
  rw [List.singleton_append] at e1 e2
  unfold decL
  rw [e1, e2, ef]
  simp only []
  rw [powL_itoa h1 h2]
  simp

theorem decL_exp1 {c : UInt8} {q : Int} (hc : isDig c = true) (h1 : -1000 < q) (h2 : q < 1000) :
    decL (c :: 101 :: Lib.itoa q) = some ([c].dropWhile (· == 48), q) := by
  have hd : Digs [c] := by intro x hx; simp at hx; subst hx; exact hc
  obtain ⟨e1, e2⟩ := takeWhile_all hd (101 :: Lib.itoa q) (by intro c t e; cases e; rfl)
  have ef : fracL (101 :: Lib.itoa q) = ([], 101 :: Lib.itoa q) := by simp [fracL]
  rw [List.singleton_append] at e1 e2
  unfold decL
  rw [e1, e2, ef]
  simp only []
  rw [powL_itoa h1 h2]
  simp

theorem decL_pt {c : UInt8} {f : List UInt8} {q : Int} (hc : isDig c = true) (hf : Digs f) (h1 : -1000 < q) (h2 : q < 1000) :
    decL (ptL (c :: f) ++ 101 :: Lib.itoa q) = some ((c :: f).dropWhile (· == 48), q - f.length) := by
  cases f with
  | nil => simpa [ptL] using decL_exp1 hc h1 h2
  | cons b t =>
    have := decL_exp (f := b :: t) hc hf h1 h2
    simpa [ptL] using this

theorem trim_split (l : List UInt8) : ∃ z, l = Lib.trimRightB l 48 ++ List.replicate z 48 := by
  unfold Lib.trimRightB
  refine ⟨(l.reverse.takeWhile (· == 48)).length, ?_⟩
  have h : (l.reverse.takeWhile (· == 48)) = List.replicate (l.reverse.takeWhile (· == 48)).length 48 := by
    apply List.eq_replicate_of_mem
    intro b hb
    have := List.all_eq_true.1 (List.all_takeWhile (p := (· == (48 : UInt8))) (l := l.reverse)) b hb
    simpa using this
  have h2 := List.takeWhile_append_dropWhile (p := (· == (48 : UInt8))) (l := l.reverse)
  have h3 := congrArg List.reverse h2
  rw [List.reverse_append, List.reverse_reverse] at h3
  rw [← List.reverse_replicate, ← h]
  exact h3.symm

theorem dval_zeros (z : Nat) : dval (List.replicate z 48) = 0 := by
  induction z with
  | zero => rfl
  | succ z ih => rw [List.replicate_succ', dval_snoc, ih]; rfl

/-- The digits that are printed. -/
theorem trim_digits {d : Nat} (hd : 1 ≤ d) : ∃ (c : UInt8) (f : List UInt8) (z : Nat), Lib.trimRightB (Lib.decDigits d) 48 = c :: f ∧ isDig c = true ∧ c.toNat ≠ 48 ∧ Digs f ∧ dval (c :: f) * 10 ^ z = d ∧ dval (c :: f) ≠ 0 ∧ (Lib.decDigits d).length = f.length + 1 + z ∧ Lib.decDigits d = (c :: f) ++ List.replicate z 48 := by
  obtain ⟨d1, d2, d3, d4⟩ := dd_all d
  obtain ⟨z, hz⟩ := trim_split (Lib.decDigits d)
  generalize hr : Lib.trimRightB (Lib.decDigits d) 48 = r at *
  have hv : dval r * 10 ^ z = d := by
    rw [hz, dval_append, dval_zeros, List.length_replicate] at d2
    omega
  cases r with
  | nil => simp [dval] at hv; omega
  | cons c f =>
    have hall : Digs (c :: f) := fun x hx => d1 x (by rw [hz]; simp at hx ⊢; rcases hx with hx | hx <;> simp [hx])
    refine ⟨c, f, z, rfl, hall c (by simp), d3 (by omega) c (f ++ List.replicate z 48) (by rw [hz]; simp), fun x hx => hall x (by simp [hx]), hv, ?_, ?_, hz⟩
    · intro h0; rw [h0] at hv; omega
    · have := congrArg List.length hz; simp at this; omega

theorem drop48 {c : UInt8} {f : List UInt8} (h : c.toNat ≠ 48) : (c :: f).dropWhile (· == 48) = c :: f := by
  have : (c == 48) = false := by
    simp; intro e; subst e; exact h rfl
  simp [this]

theorem lt_ten {x k m : Nat} (h : bl x ≤ k) (hp : powLe k m = true) : x < 10 ^ m := Nat.lt_of_lt_of_le (bl_hi x) (Nat.le_trans (Nat.pow_le_pow_right (by omega) h) (powLe_le hp))
theorem p1030 : powLe 1030 400 = true := by kernel_rfl
theorem p1080 : powLe 1080 400 = true := by kernel_rfl

theorem pM : ∃ M : Nat, M = 400 ∧ powLe 1030 M = true ∧ powLe 1080 M = true := ⟨400, rfl, p1030, p1080⟩

theorem size_ne {s : Nat} (h : s ≠ 0) : 0 < sizeS s := by
  unfold sizeS qS
  have : 0 < 2 ^ (eS s).toNat := Nat.pow_pos (by omega)
  exact Nat.mul_pos (Nat.pos_of_ne_zero (mS_ne h)) (by omega)

theorem mag_gen {S O a b M : Nat} (hS0 : 0 < S) (hO0 : 0 < O) (hS : S < 10 ^ M) (hO : O < 10 ^ M) (h1 : O * 10 ^ b ≤ S * 10 ^ a) (h2 : S * 10 ^ a < 10 * (O * 10 ^ b)) : b < M + a ∧ a < M + 1 + b := by
  constructor
  · have q1 : 10 ^ b < 10 ^ (M + a) := by
      rw [Nat.pow_add]
      have e1 : 10 ^ b ≤ O * 10 ^ b := Nat.le_mul_of_pos_left _ hO0
      have e2 : S * 10 ^ a < 10 ^ M * 10 ^ a := Nat.mul_lt_mul_of_pos_right hS (ten_pow_pos a)
      generalize 10 ^ M * 10 ^ a = Z at *
      omega
    exact (Nat.pow_lt_pow_iff_right (by omega : 1 < 10)).1 q1
  · have q1 : 10 ^ a < 10 ^ (M + 1 + b) := by
      have e1 : 10 ^ a ≤ S * 10 ^ a := Nat.le_mul_of_pos_left _ hS0
      have e2 : O * 10 ^ b < 10 ^ M * 10 ^ b := Nat.mul_lt_mul_of_pos_right hO (ten_pow_pos b)
      have e3 : 10 ^ (M + 1 + b) = 10 * (10 ^ M * 10 ^ b) := by rw [Nat.pow_add, Nat.pow_succ]; ac_rfl
      rw [e3]
      generalize 10 ^ M * 10 ^ b = Z at *
      omega
    exact (Nat.pow_lt_pow_iff_right (by omega : 1 < 10)).1 q1

theorem mag_bd {s a b : Nat} (h0 : s ≠ 0) (h : s < 9218868437227405312) (h1 : oneS s * 10 ^ b ≤ sizeS s * 10 ^ a) (h2 : sizeS s * 10 ^ a < 10 * (oneS s * 10 ^ b)) : (b : Int) - a ≤ 400 ∧ -401 ≤ (b : Int) - a := by
  obtain ⟨l1, _, _, l4⟩ := size_bl h
  obtain ⟨M, hM, m1, m2⟩ := pM
  have := mag_gen (size_ne h0) (Nat.pos_of_ne_zero (one_ne s)) (lt_ten l1 m1) (lt_ten l4 m2) h1 h2
  omega

theorem ShortAt.pow {s d : Nat} {p : Int} (h : ShortAt s d p) (h0 : s ≠ 0) (hs : s < 9218868437227405312) : -418 ≤ p ∧ p ≤ 400 := by
  obtain ⟨a, b, j, h1, h2, h3, rfl, h4, h5, _⟩ := h
  have := mag_bd h0 hs h4 h5
  omega

/-- The digits and the power that are printed tell a decimal of the interval. -/
theorem out_parts {s d : Nat} {p : Int} (h : ShortAt s d p) (h0 : s ≠ 0) (hs : s < 9218868437227405312) : ∃ (c : UInt8) (f : List UInt8) (q : Int), outL d p = ptL (c :: f) ++ 101 :: Lib.itoa q ∧ isDig c = true ∧ c.toNat ≠ 48 ∧ Digs f ∧ -1000 < q ∧ q < 1000 ∧ f.length ≤ 16 ∧ decRnd (dval (c :: f)) (q - f.length) = s := by
  obtain ⟨d1, d2, _, _⟩ := h.bd
  obtain ⟨p1, p2⟩ := h.pow h0 hs
  obtain ⟨c, f, z, e1, e2, e3, e4, e5, e6, e7, e8⟩ := trim_digits d1
  have hlen : (Lib.decDigits d).length ≤ 18 := dd_len (by omega) (by omega)
  refine ⟨c, f, p + ((Lib.decDigits d).length : Int) - 1, by unfold outL; rw [e1], e2, e3, e4, by omega, by omega, ?_, ?_⟩
  · by_cases hd : d < 100000000000000000
    · have : (Lib.decDigits d).length ≤ 17 := dd_len (by omega) (by omega)
      omega
    · have hd' : d = 100000000000000000 := by omega
      subst hd'
      have : Lib.trimRightB (Lib.decDigits 100000000000000000) 48 = [49] := by kernel_rfl
      rw [this] at e1
      injection e1 with _ e9
      rw [← e9]
      simp
  · rw [decRnd_iff e6 hs, e7]
    have : (p + ((f.length + 1 + z : Nat) : Int) - 1 - (f.length : Int)) = p + z := by omega
    rw [this, ← InD_shift, e5]
    exact h.inD

theorem scan_minus {c : UInt8} {r : List UInt8} (hc : isDig c = true) (hl : (c :: r).length ≤ 59) : scanL (45 :: c :: r) = finL (decL (c :: r)) true := by
  have b := isDig_bd hc
  unfold scanL
  rw [if_neg (by simp only [List.length_cons] at hl ⊢; omega)]
  rw [if_neg (by rintro (e | e) <;> (injection e with e1 _; exact absurd e1 (by decide))), if_neg (by intro e; simp only [List.cons.injEq] at e; rw [e.2.1] at b; simp at b), if_neg (by intro e; injection e with e1 _; exact absurd e1 (by decide))]
  simp [signL]

theorem ptL_cons (c : UInt8) (f : List UInt8) : ∃ t, ptL (c :: f) = c :: t ∧ t.length ≤ f.length + 1 := by
  cases f with
  | nil => exact ⟨[], by simp [ptL], by simp⟩
  | cons b r => exact ⟨46 :: b :: r, by simp [ptL], by simp⟩

theorem itoa_len3 {q : Int} (h1 : -1000 < q) (h2 : q < 1000) : 1 ≤ (Lib.itoa q).length ∧ (Lib.itoa q).length ≤ 4 := by
  obtain ⟨u, hu, h⟩ := itoa_form h1 h2
  have hl : (Lib.decDigits u).length ≤ 3 := dd_len (by omega) (by omega)
  have hne := (dd_all u).2.2.2
  have hpos : 1 ≤ (Lib.decDigits u).length := by
    cases hc : Lib.decDigits u with
    | nil => exact absurd hc hne
    | cons c r => simp
  rcases h with ⟨_, _, e⟩ | ⟨_, _, e⟩ <;> rw [e]
  · simp only [List.length_cons]; omega
  · omega

theorem scan_out {s d : Nat} {p : Int} (h : ShortAt s d p) (h0 : s ≠ 0) (hs : s < 9218868437227405312) : scanL (outL d p) = (s, 0) ∧ scanL (45 :: outL d p) = (s + 9223372036854775808, 0) ∧ 1 ≤ (outL d p).length ∧ (outL d p).length ≤ 23 := by
  obtain ⟨c, f, q, e1, e2, e3, e4, e5, e6, e7, e8⟩ := out_parts h h0 hs
  rw [e1]
  obtain ⟨t, ht, htl⟩ := ptL_cons c f
  have hd := decL_pt e2 e4 e5 e6
  rw [drop48 e3] at hd
  rw [ht] at hd ⊢
  rw [List.cons_append] at hd ⊢
  obtain ⟨l0, l1⟩ := itoa_len3 e5 e6
  have hlen : (c :: (t ++ 101 :: Lib.itoa q)).length ≤ 23 := by simp; omega
  refine ⟨?_, ?_, by simp, hlen⟩
  · rw [scanL_dig e2 (by omega), hd]
    simp only [finL]
    rw [e8]
    simp
  · rw [scan_minus e2 (by omega), hd]
    simp only [finL]
    rw [e8]
    simp

/-- A number, a nan being the canonical one. -/
def cleanN (x : Nat) : Nat := if 9218868437227405312 < x % 9223372036854775808 then 9221120237041090560 else x

theorem scan_z0 : scanL [48] = (0, 0) := by decide
theorem scan_z1 : scanL [45, 48] = (9223372036854775808, 0) := by decide

theorem scan_print {x : Nat} {l : List UInt8} (hx : x < 18446744073709551616) (h : PrintOk x l) : scanL l = (cleanN x, 0) ∧ 1 ≤ l.length ∧ l.length ≤ 24 := by
  unfold cleanN
  rcases h with ⟨h, rfl⟩ | ⟨h, rfl⟩ | ⟨h, rfl⟩ | ⟨h, h', d, p, hsa, rfl⟩
  · rw [if_pos h]; exact ⟨by decide, by decide, by decide⟩
  · rw [if_neg (by omega)]
    unfold sgL
    split
    · refine ⟨?_, by decide, by decide⟩
      have : x = 18442240474082181120 := by omega
      rw [this]; decide
    · refine ⟨?_, by decide, by decide⟩
      have : x = 9218868437227405312 := by omega
      rw [this]; decide
  · rw [if_neg (by omega)]
    unfold sgL
    split
    · refine ⟨?_, by decide, by decide⟩
      have : x = 9223372036854775808 := by omega
      rw [this]; exact scan_z1
    · refine ⟨?_, by decide, by decide⟩
      have : x = 0 := by omega
      rw [this]; exact scan_z0
  · rw [if_neg (by omega)]
    obtain ⟨q1, q2, q3, q4⟩ := scan_out hsa h h'
    unfold sgL
    split
    · rw [List.singleton_append]
      refine ⟨?_, by simp, by simp; omega⟩
      rw [q2]
      congr 1
      omega
    · rw [List.nil_append]
      refine ⟨?_, q3, by omega⟩
      rw [q1]
      congr 1
      omega

theorem and_hi (x M : Nat) : x &&& (M * 2 ^ 52) = ((x / 2 ^ 52) &&& M) * 2 ^ 52 := by
  apply Nat.eq_of_testBit_eq
  intro i
  rw [Nat.testBit_and, Nat.testBit_mul_two_pow, Nat.testBit_mul_two_pow, Nat.testBit_and, Nat.testBit_div_two_pow]
  by_cases hi : 52 ≤ i
  · rw [show i - 52 + 52 = i by omega]
    simp [hi]
  · simp [hi]

theorem and_inf {x : Nat} (h : x < 18446744073709551616) : bits BinOp.and IntKind.u64 (x : Int) 9218868437227405312 = ((x / 4503599627370496 % 2048 * 4503599627370496 : Nat) : Int) := by
  rw [show (9218868437227405312 : Int) = ((2047 * 2 ^ 52 : Nat) : Int) from rfl, u64_and_nat _ _ h (by omega), and_hi]
  congr 2
  exact Nat.and_two_pow_sub_one_eq_mod (x / 2 ^ 52) 11

end Go.Proofs.YthdcceackfdbbaaGreatDoor
