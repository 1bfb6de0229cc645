/- Plain mathematics: no size is above infinity. Own text. -/
import Derived.Test.YthdcceackfdbbaaDoorPar
namespace Go.Proofs.YthdcceackfdbbaaDoor

theorem rhe_le {n d m : Nat} (h : n < d * m) : rhe n d ≤ m := by
  have h1 : n / d < m := Nat.div_lt_of_lt_mul h
  unfold rhe
  split <;> omega

theorem rat_le {a b i j s : Nat} {e : Int} (h2 : a * 2 ^ i < 2 * (b * 2 ^ j)) (he : e = (j : Int) + 1 - i - s) : rat a b e ≤ 2 ^ s := by
  rw [← rat_of (a := a) (b := b) (i := i) (j := j) (s := s) he]
  exact rhe_le ((Nat.mul_lt_mul_right (Nat.pow_pos (by omega))).2 h2)

theorem rnd_le (a b : Nat) (ha : a ≠ 0) (hb : b ≠ 0) : rnd a b ≤ 9218868437227405312 := by
  obtain ⟨i, j, e, h1, h2⟩ := plog_key ha hb
  by_cases c1 : 1023 < plog a b
  · unfold rnd; rw [if_pos c1]; omega
  · by_cases c2 : plog a b < -1075
    · rw [rnd_low ha hb h1 h2 (by omega)]; omega
    · unfold rnd; rw [if_neg c1]
      unfold eOf
      by_cases c3 : plog a b < -1022
      · rw [if_pos c3]
        have h3 := rat_le (e := -1074) (s := (plog a b + 1075).toNat) h2 (by omega)
        have h4 : 2 ^ (plog a b + 1075).toNat ≤ 2 ^ 53 := Nat.pow_le_pow_right (by omega) (by omega)
        have h5 : ((-1074 : Int) + 1074).toNat = 0 := rfl
        rw [h5]
        omega
      · rw [if_neg c3]
        have h3 := rat_le (e := plog a b - 52) (s := 53) h2 (by omega)
        have h4 : (plog a b - 52 + 1074).toNat ≤ 2045 := by omega
        omega

theorem decRnd_le (D : Nat) (k : Int) : decRnd D k ≤ 9218868437227405312 := by
  unfold decRnd
  split
  · omega
  · rename_i h
    split
    · exact rnd_le _ _ (Nat.ne_of_gt (Nat.mul_pos (by omega) (ten_pow_pos _))) (by omega)
    · exact rnd_le _ _ h (Nat.ne_of_gt (ten_pow_pos _))

theorem drop_zero (l : List UInt8) : ∀ c r, l.dropWhile (· == 48) = c :: r → c.toNat ≠ 48 := by
  intro c r h
  have := List.head?_dropWhile_not (p := (· == (48 : UInt8))) l
  rw [h] at this
  simp at this
  intro e
  exact this (UInt8.toNat_inj.1 e)

theorem digs_append {a b : List UInt8} (ha : Digs a) (hb : Digs b) : Digs (a ++ b) := by
  intro x hx
  rcases List.mem_append.1 hx with h | h
  · exact ha x h
  · exact hb x h

theorem digs_drop {l : List UInt8} (h : Digs l) (p : UInt8 → Bool) : Digs (l.dropWhile p) := fun x hx => h x ((List.dropWhile_sublist p).subset hx)

end Go.Proofs.YthdcceackfdbbaaDoor
