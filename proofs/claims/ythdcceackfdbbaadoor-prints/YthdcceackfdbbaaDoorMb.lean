/- Decimals and the interval of a size. Own text. -/
import Derived.Test.YthdcceackfdbbaaDoorMa
namespace Go.Proofs.YthdcceackfdbbaaDoor
open Go.RowKit

/-- u lies about v, no farther than B below and A above. -/
def InW (u v B A : Nat) (ev : Bool) : Prop := (u ≤ v ∧ inS (v - u) B ev = true) ∨ (v ≤ u ∧ inS (u - v) A ev = true)

theorem inS_scale {d r c : Nat} {ev : Bool} (hc : 0 < c) : inS (d * c) (r * c) ev = inS d r ev := by
  have h1 : d * c < r * c ↔ d < r := ⟨fun h => Nat.lt_of_mul_lt_mul_right h, fun h => Nat.mul_lt_mul_of_pos_right h hc⟩
  have h2 : d * c = r * c ↔ d = r := ⟨fun h => Nat.eq_of_mul_eq_mul_right hc h, fun h => by rw [h]⟩
  unfold inS
  simp only [h1, h2]

theorem InW.scale {u v B A c : Nat} {ev : Bool} (hc : 0 < c) : InW (u * c) (v * c) (B * c) (A * c) ev ↔ InW u v B A ev := by
  have h1 : ∀ x y : Nat, x * c ≤ y * c ↔ x ≤ y := fun x y => ⟨fun h => Nat.le_of_mul_le_mul_right h hc, fun h => Nat.mul_le_mul_right c h⟩
  unfold InW
  rw [h1, h1, ← Nat.sub_mul, ← Nat.sub_mul, inS_scale hc, inS_scale hc]

def nS (s : Nat) : Nat := (eS s + 1074).toNat

theorem size_eq {s : Nat} (h : s < 9218868437227405312) : s = nS s * 4503599627370496 + mS s ∧ nS s ≤ 2045 ∧ (nS s = 0 ∨ 4503599627370496 ≤ mS s) ∧ nbS s = decide (mS s = 4503599627370496 ∧ 1 ≤ nS s) ∧ decide (s % 2 = 0) = decide (mS s % 2 = 0) := by
  unfold nS eS mS nbS
  by_cases h0 : s / 4503599627370496 = 0
  · simp only [h0, if_true]
    refine ⟨by omega, by omega, .inl (by omega), ?_, ?_⟩
    · by_cases h1 : s % 4503599627370496 = 0 <;> simp <;> omega
    · rw [show s % 4503599627370496 % 2 = s % 2 by omega]
  · simp only [h0, if_false]
    refine ⟨by omega, by omega, .inr (by omega), ?_, ?_⟩
    · by_cases h1 : s % 4503599627370496 = 0
      · by_cases h2 : 1 < s / 4503599627370496
        · rw [decide_eq_true h1, decide_eq_true h2, decide_eq_true]
          · rfl
          · omega
        · rw [decide_eq_true h1, decide_eq_false h2, decide_eq_false]
          · rfl
          · omega
      · rw [decide_eq_false h1, Bool.false_and, decide_eq_false]; omega
    · congr 1; apply propext; constructor <;> intro h <;> omega

def InV (a b s : Nat) : Prop := InW (a * oneS s) (b * sizeS s) (b * belowS s) (b * aboveS s) (decide (s % 2 = 0))

theorem InV_iff {a b s K : Nat} (h : s < 9218868437227405312) (hK : K = 1076) : InV a b s ↔ InI (a * 2 ^ K) (b * 2 ^ nS s) (mS s) (nbS s) (decide (mS s % 2 = 0)) := by
  obtain ⟨e1, e2⟩ := eS_bd h
  have hc : 0 < 2 ^ (1074 - (-eS s).toNat) := Nat.pow_pos (by omega)
  have k1 : oneS s * 2 ^ (1074 - (-eS s).toNat) = 2 ^ K := by
    unfold oneS
    rw [show (4 : Nat) = 2 ^ 2 from rfl, ← Nat.pow_add, ← Nat.pow_add]
    congr 1
    omega
  have k2 : qS s * 2 ^ (1074 - (-eS s).toNat) = 2 ^ nS s := by
    unfold qS nS
    rw [← Nat.pow_add]
    congr 1
    omega
  unfold InV
  rw [← InW.scale hc, (size_eq h).2.2.2.2]
  have q1 : a * oneS s * 2 ^ (1074 - (-eS s).toNat) = a * 2 ^ K := by rw [Nat.mul_assoc, k1]
  have q2 : b * sizeS s * 2 ^ (1074 - (-eS s).toNat) = 4 * (b * 2 ^ nS s) * mS s := by
    unfold sizeS
    rw [← k2]
    ac_rfl
  have q3 : b * belowS s * 2 ^ (1074 - (-eS s).toNat) = if nbS s then b * 2 ^ nS s else 2 * (b * 2 ^ nS s) := by
    unfold belowS
    rw [← k2]
    split <;> ac_rfl
  have q4 : b * aboveS s * 2 ^ (1074 - (-eS s).toNat) = 2 * (b * 2 ^ nS s) := by
    unfold aboveS
    rw [← k2]
    ac_rfl
  rw [q1, q2, q3, q4]
  rfl

theorem rnd_iff {a b s : Nat} (ha : a ≠ 0) (hb : b ≠ 0) (h : s < 9218868437227405312) : rnd a b = s ↔ InV a b s := by
  obtain ⟨K, hK⟩ : ∃ K : Nat, K = 1076 := ⟨_, rfl⟩
  rw [InV_iff h hK]
  obtain ⟨h1, h2, h3, h4, h5⟩ := size_eq h
  have hm := mS_lt s
  constructor
  · intro hr
    exact rnd_in ha hb hK h2 hm h3 h4 rfl (hr.trans h1)
  · intro hi
    exact (in_rnd ha hb hK h2 hm h3 h4 rfl hi).trans h1.symm

/-- Is the decimal D times 10 to the k in the interval of s? -/
def InD (D : Nat) (k : Int) (s : Nat) : Prop := InV (D * 10 ^ k.toNat) (10 ^ (-k).toNat) s

theorem decRnd_eq {D : Nat} {k : Int} (h : D ≠ 0) : decRnd D k = rnd (D * 10 ^ k.toNat) (10 ^ (-k).toNat) := by
  unfold decRnd
  rw [if_neg h]
  by_cases hk : 0 ≤ k
  · rw [if_pos hk, show (-k).toNat = 0 by omega]
  · rw [if_neg hk, show k.toNat = 0 by omega, Nat.pow_zero, Nat.mul_one]

theorem decRnd_iff {D : Nat} {k : Int} {s : Nat} (hD : D ≠ 0) (h : s < 9218868437227405312) : decRnd D k = s ↔ InD D k s := by
  rw [decRnd_eq hD]
  exact rnd_iff (Nat.mul_ne_zero hD (Nat.ne_of_gt (ten_pow_pos _))) (Nat.ne_of_gt (ten_pow_pos _)) h

theorem InD_iff {D a b : Nat} {k : Int} {s : Nat} (hk : (b : Int) - a = k) : InD D k s ↔ InW (D * (oneS s * 10 ^ b)) (sizeS s * 10 ^ a) (belowS s * 10 ^ a) (aboveS s * 10 ^ a) (decide (s % 2 = 0)) := by
  obtain ⟨t, h1, h2⟩ : ∃ t : Nat, b = k.toNat + t ∧ a = (-k).toNat + t := ⟨b - k.toNat, by omega, by omega⟩
  unfold InD InV
  rw [← InW.scale (ten_pow_pos t), h1, h2, Nat.pow_add, Nat.pow_add]
  have q1 : D * 10 ^ k.toNat * oneS s * 10 ^ t = D * (oneS s * (10 ^ k.toNat * 10 ^ t)) := by ac_rfl
  have q2 : ∀ x, 10 ^ (-k).toNat * x * 10 ^ t = x * (10 ^ (-k).toNat * 10 ^ t) := fun x => by ac_rfl
  rw [q1, q2, q2, q2]

theorem InD_shift {D z : Nat} {k : Int} {s : Nat} : InD (D * 10 ^ z) k s ↔ InD D (k + z) s := by
  obtain ⟨a, b, hab⟩ : ∃ a b : Nat, (b : Int) - a = k + z := ⟨(-(k + z)).toNat, (k + z).toNat, by omega⟩
  rw [InD_iff hab, InD_iff (a := a + z) (b := b) (k := k) (by omega)]
  have q1 : D * 10 ^ z * (oneS s * 10 ^ b) = D * (oneS s * 10 ^ b) * 10 ^ z := by ac_rfl
  have q2 : ∀ x, x * 10 ^ (a + z) = x * 10 ^ a * 10 ^ z := fun x => by rw [Nat.pow_add]; ac_rfl
  rw [q1, q2, q2, q2]
  exact InW.scale (ten_pow_pos z)

/-- What a step tells of the two next to the size. -/
theorem pick_facts {N B A D : Nat} {ev : Bool} (hD : D ≠ 0) : (InW (N / D * D) N B A ev ↔ inS (N % D) B ev = true ∨ N % D = 0 ∧ inS 0 A ev = true) ∧ (InW ((N / D + 1) * D) N B A ev ↔ inS (D - N % D) A ev = true) := by
  have h1 := Nat.div_add_mod N D
  have h2 := Nat.mod_lt N (Nat.pos_of_ne_zero hD)
  have e : N / D * D + N % D = N := by rw [Nat.mul_comm]; exact h1
  have e2 : (N / D + 1) * D = N / D * D + D := by rw [Nat.add_mul]; omega
  rw [e2]
  generalize N / D * D = u at *
  generalize N % D = r at *
  subst e
  unfold InW
  constructor
  · rw [show u + r - u = r by omega]
    constructor
    · rintro (⟨_, h⟩ | ⟨h, h'⟩)
      · exact .inl h
      · right
        have : r = 0 := by omega
        subst this
        exact ⟨rfl, by simpa using h'⟩
    · rintro (h | ⟨h, h'⟩)
      · exact .inl ⟨by omega, h⟩
      · right; subst h; exact ⟨by omega, by simpa using h'⟩
  · rw [show u + D - (u + r) = D - r by omega]
    constructor
    · rintro (⟨h, _⟩ | ⟨_, h⟩)
      · omega
      · exact h
    · intro h; exact .inr ⟨by omega, h⟩

theorem below_pos (s : Nat) : 0 < belowS s := by
  unfold belowS qS
  have : 0 < 2 ^ (eS s).toNat := Nat.pow_pos (by omega)
  split <;> omega

theorem pick_in {N B A D d : Nat} {ev : Bool} (hD : D ≠ 0) (h : pickO N B A D ev = some d) : InW (d * D) N B A ev := by
  obtain ⟨f1, f2⟩ := pick_facts (N := N) (B := B) (A := A) (ev := ev) hD
  unfold pickO at h
  have hn := nearS_le (N / D) (N % D) (D - N % D)
  split at h
  · rename_i hh
    simp at hh
    simp at h
    rcases (show nearS (N / D) (N % D) (D - N % D) = 0 ∨ nearS (N / D) (N % D) (D - N % D) = 1 by omega) with h0 | h0
    · rw [h0] at h; subst h; exact f1.2 (.inl hh.1)
    · rw [h0] at h; subst h; exact f2.2 hh.2
  · split at h
    · rename_i _ hh; simp at h; subst h; exact f1.2 (.inl hh)
    · split at h
      · rename_i _ _ hh; simp at h; subst h; exact f2.2 hh
      · simp at h

theorem pick_out {N B A D : Nat} {ev : Bool} (hD : D ≠ 0) (hB : 0 < B) (h : pickO N B A D ev = none) : ¬ InW (N / D * D) N B A ev ∧ ¬ InW ((N / D + 1) * D) N B A ev := by
  obtain ⟨f1, f2⟩ := pick_facts (N := N) (B := B) (A := A) (ev := ev) hD
  unfold pickO at h
  cases hl : inS (N % D) B ev <;> cases hu : inS (D - N % D) A ev <;> rw [hl, hu] at h
  · rw [f1, f2, hl, hu]
    refine ⟨?_, by simp⟩
    rintro (h' | ⟨h', _⟩)
    · simp at h'
    · rw [h'] at hl
      unfold inS at hl
      simp at hl
      omega
  · simp at h
  · simp at h
  · simp at h

theorem ShortAt.inD {s d : Nat} {p : Int} (h : ShortAt s d p) : InD d p s := by
  obtain ⟨a, b, j, h1, h2, h3, rfl, h4, h5, h6, _⟩ := h
  have hD : oneS s * 10 ^ b ≠ 0 := Nat.mul_ne_zero (one_ne s) (Nat.ne_of_gt (ten_pow_pos b))
  have := pick_in hD h6
  have q2 : ∀ x, x * 10 ^ (a + j) = x * 10 ^ a * 10 ^ j := fun x => by rw [Nat.pow_add]; ac_rfl
  rw [InD_iff (a := a + j) (b := b) (by omega), q2, q2, q2]
  exact this

end Go.Proofs.YthdcceackfdbbaaDoor
