import Derived.Test.YthdcceackfdbbabGreatDoorM11P

/- Decimals and the interval of a size. Own text. -/
namespace Go.Proofs.YthdcceackfdbbabGreatDoor
open Go.RowKit

/-- u lies about v, no farther than B below and A above. -/
def InW (u v B A : Nat) (ev : Bool) : Prop := (u ≤ v ∧ inS (v - u) B ev = true) ∨ (v ≤ u ∧ inS (u - v) A ev = true)

theorem inS_scale {d r c : Nat} {ev : Bool} (hc : 0 < c) : inS (d * c) (r * c) ev = inS d r ev := by
  have h1 : d * c < r * c ↔ d < r := ⟨fun h => Nat.lt_of_mul_lt_mul_right h, fun h => Nat.mul_lt_mul_of_pos_right h hc⟩
  have h2 : d * c = r * c ↔ d = r := ⟨fun h => Nat.eq_of_mul_eq_mul_right hc h, fun h => by rw [h]⟩
  unfold inS
  simp only [h1, h2]

theorem InW.scale {u v B A c : Nat} {ev : Bool} (hc : 0 < c) : InW (u * c) (v * c) (B * c) (A * c) ev ↔ InW u v B A ev := by
  have h1 : ∀ x y : Nat, x * c ≤ y * c ↔ x ≤ y := fun x y => ⟨fun h => Nat.le_of_mul_le_mul_right h hc, fun h => Nat.mul_le_mul_right c h⟩
  unfold InW
  rw [h1, h1, ← Nat.sub_mul, ← Nat.sub_mul, inS_scale hc, inS_scale hc]

def nS (s : Nat) : Nat := (eS s + 1074).toNat

theorem size_eq {s : Nat} (h : s < 9218868437227405312) : s = nS s * 4503599627370496 + mS s ∧ nS s ≤ 2045 ∧ (nS s = 0 ∨ 4503599627370496 ≤ mS s) ∧ nbS s = decide (mS s = 4503599627370496 ∧ 1 ≤ nS s) ∧ decide (s % 2 = 0) = decide (mS s % 2 = 0) := by
  unfold nS eS mS nbS
  by_cases h0 : s / 4503599627370496 = 0
  · simp only [h0, if_true]
    refine ⟨by omega, by omega, .inl (by omega), ?_, ?_⟩
    · by_cases h1 : s % 4503599627370496 = 0 <;> simp <;> omega
    · rw [show s % 4503599627370496 % 2 = s % 2 by omega]
  · simp only [h0, if_false]
    refine ⟨by omega, by omega, .inr (by omega), ?_, ?_⟩
    · by_cases h1 : s % 4503599627370496 = 0
      · by_cases h2 : 1 < s / 4503599627370496
        · rw [decide_eq_true h1, decide_eq_true h2, decide_eq_true]
          · rfl
          · omega
        · rw [decide_eq_true h1, decide_eq_false h2, decide_eq_false]
          · rfl
          · omega
      · rw [decide_eq_false h1, Bool.false_and, decide_eq_false]; omega
    · congr 1; apply propext; constructor <;> intro h <;> omega

def InV (a b s : Nat) : Prop := InW (a * oneS s) (b * sizeS s) (b * belowS s) (b * aboveS s) (decide (s % 2 = 0))

theorem InV_iff {a b s K : Nat} (h : s < 9218868437227405312) (hK : K = 1076) : InV a b s ↔ InI (a * 2 ^ K) (b * 2 ^ nS s) (mS s) (nbS s) (decide (mS s % 2 = 0)) := by
  obtain ⟨e1, e2⟩ := eS_bd h
  have hc : 0 < 2 ^ (1074 - (-eS s).toNat) := Nat.pow_pos (by omega)
  have k1 : oneS s * 2 ^ (1074 - (-eS s).toNat) = 2 ^ K := by
    unfold oneS
    rw [show (4 : Nat) = 2 ^ 2 from rfl, ← Nat.pow_add, ← Nat.pow_add]
    congr 1
    omega
  have k2 : qS s * 2 ^ (1074 - (-eS s).toNat) = 2 ^ nS s := by
    unfold qS nS
    rw [← Nat.pow_add]
    congr 1
    omega
  unfold InV
  rw [← InW.scale hc, (size_eq h).2.2.2.2]
  have q1 : a * oneS s * 2 ^ (1074 - (-eS s).toNat) = a * 2 ^ K := by rw [Nat.mul_assoc, k1]
  have q2 : b * sizeS s * 2 ^ (1074 - (-eS s).toNat) = 4 * (b * 2 ^ nS s) * mS s := by
    unfold sizeS
    rw [← k2]
    ac_rfl
  have q3 : b * belowS s * 2 ^ (1074 - (-eS s).toNat) = if nbS s then b * 2 ^ nS s else 2 * (b * 2 ^ nS s) := by
    unfold belowS
    rw [← k2]
    split <;> ac_rfl
  have q4 : b * aboveS s * 2 ^ (1074 - (-eS s).toNat) = 2 * (b * 2 ^ nS s) := by
    unfold aboveS
    rw [← k2]
    ac_rfl
  rw [q1, q2, q3, q4]
  rfl

theorem rnd_iff {a b s : Nat} (ha : a ≠ 0) (hb : b ≠ 0) (h : s < 9218868437227405312) : rnd a b = s ↔ InV a b s := by
  obtain ⟨K, hK⟩ : ∃ K : Nat, K = 1076 := ⟨_, rfl⟩
  rw [InV_iff h hK]
  obtain ⟨h1, h2, h3, h4, h5⟩ := size_eq h
  have hm := mS_lt s
  constructor
  · intro hr
    exact rnd_in ha hb hK h2 hm h3 h4 rfl (hr.trans h1)
  · intro hi
    exact (in_rnd ha hb hK h2 hm h3 h4 rfl hi).trans h1.symm

/-- Is the decimal D times 10 to the k in the interval of s? -/
def InD (D : Nat) (k : Int) (s : Nat) : Prop := InV (D * 10 ^ k.toNat) (10 ^ (-k).toNat) s

theorem decRnd_eq {D : Nat} {k : Int} (h : D ≠ 0) : decRnd D k = rnd (D * 10 ^ k.toNat) (10 ^ (-k).toNat) := by
  unfold decRnd
  rw [if_neg h]
  by_cases hk : 0 ≤ k
  · rw [if_pos hk, show (-k).toNat = 0 by omega]
  · rw [if_neg hk, show k.toNat = 0 by omega, Nat.pow_zero, Nat.mul_one]

theorem decRnd_iff {D : Nat} {k : Int} {s : Nat} (hD : D ≠ 0) (h : s < 9218868437227405312) : decRnd D k = s ↔ InD D k s := by
  rw [decRnd_eq hD]
  exact rnd_iff (Nat.mul_ne_zero hD (Nat.ne_of_gt (ten_pow_pos _))) (Nat.ne_of_gt (ten_pow_pos _)) h

theorem InD_iff {D a b : Nat} {k : Int} {s : Nat} (hk : (b : Int) - a = k) : InD D k s ↔ InW (D * (oneS s * 10 ^ b)) (sizeS s * 10 ^ a) (belowS s * 10 ^ a) (aboveS s * 10 ^ a) (decide (s % 2 = 0)) := by
  obtain ⟨t, h1, h2⟩ : ∃ t : Nat, b = k.toNat + t ∧ a = (-k).toNat + t := ⟨b - k.toNat, by omega, by omega⟩
  unfold InD InV
  rw [← InW.scale (ten_pow_pos t), h1, h2, Nat.pow_add, Nat.pow_add]
  have q1 : D * 10 ^ k.toNat * oneS s * 10 ^ t = D * (oneS s * (10 ^ k.toNat * 10 ^ t)) := by ac_rfl
  have q2 : ∀ x, 10 ^ (-k).toNat * x * 10 ^ t = x * (10 ^ (-k).toNat * 10 ^ t) := fun x => by ac_rfl
  rw [q1, q2, q2, q2]

theorem InD_shift {D z : Nat} {k : Int} {s : Nat} : InD (D * 10 ^ z) k s ↔ InD D (k + z) s := by
  obtain ⟨a, b, hab⟩ : ∃ a b : Nat, (b : Int) - a = k + z := ⟨(-(k + z)).toNat, (k + z).toNat, by omega⟩
  rw [InD_iff hab, InD_iff (a := a + z) (b := b) (k := k) (by omega)]
  have q1 : D * 10 ^ z * (oneS s * 10 ^ b) = D * (oneS s * 10 ^ b) * 10 ^ z := by ac_rfl
  have q2 : ∀ x, x * 10 ^ (a + z) = x * 10 ^ a * 10 ^ z := fun x => by rw [Nat.pow_add]; ac_rfl
  rw [q1, q2, q2, q2]
  exact InW.scale (ten_pow_pos z)

/-- What a step tells of the two next to the size. -/
theorem pick_facts {N B A D : Nat} {ev : Bool} (hD : D ≠ 0) : (InW (N / D * D) N B A ev ↔ inS (N % D) B ev = true ∨ N % D = 0 ∧ inS 0 A ev = true) ∧ (InW ((N / D + 1) * D) N B A ev ↔ inS (D - N % D) A ev = true) := by
  have h1 := Nat.div_add_mod N D
  have h2 := Nat.mod_lt N (Nat.pos_of_ne_zero hD)
  have e : N / D * D + N % D = N := by rw [Nat.mul_comm]; exact h1
  have e2 : (N / D + 1) * D = N / D * D + D := by rw [Nat.add_mul]; omega
  rw [e2]
  generalize N / D * D = u at *
  generalize N % D = r at *
  subst e
  unfold InW
  constructor
  · rw [show u + r - u = r by omega]
    constructor
    · rintro (⟨_, h⟩ | ⟨h, h'⟩)
      · exact .inl h
      · right
        have : r = 0 := by omega
        subst this
        exact ⟨rfl, by simpa using h'⟩
    · rintro (h | ⟨h, h'⟩)
      · exact .inl ⟨by omega, h⟩
      · right; subst h; exact ⟨by omega, by simpa using h'⟩
  · rw [show u + D - (u + r) = D - r by omega]
    constructor
    · rintro (⟨h, _⟩ | ⟨_, h⟩)
      · omega
      · exact h
    · intro h; exact .inr ⟨by omega, h⟩

theorem below_pos (s : Nat) : 0 < belowS s := by
  unfold belowS qS
  have : 0 < 2 ^ (eS s).toNat := Nat.pow_pos (by omega)
  split <;> omega

theorem pick_in {N B A D d : Nat} {ev : Bool} (hD : D ≠ 0) (h : pickO N B A D ev = some d) : InW (d * D) N B A ev := by
  obtain ⟨f1, f2⟩ := pick_facts (N := N) (B := B) (A := A) (ev := ev) hD
  unfold pickO at h
  have hn := nearS_le (N / D) (N % D) (D - N % D)
  split at h
  · rename_i hh
    simp at hh
    simp at h
    rcases (show nearS (N / D) (N % D) (D - N % D) = 0 ∨ nearS (N / D) (N % D) (D - N % D) = 1 by omega) with h0 | h0
    · rw [h0] at h; subst h; exact f1.2 (.inl hh.1)
    · rw [h0] at h; subst h; exact f2.2 hh.2
  · split at h
    · rename_i _ hh; simp at h; subst h; exact f1.2 (.inl hh)
    · split at h
      · rename_i _ _ hh; simp at h; subst h; exact f2.2 hh
      · simp at h

theorem pick_out {N B A D : Nat} {ev : Bool} (hD : D ≠ 0) (hB : 0 < B) (h : pickO N B A D ev = none) : ¬ InW (N / D * D) N B A ev ∧ ¬ InW ((N / D + 1) * D) N B A ev := by
  obtain ⟨f1, f2⟩ := pick_facts (N := N) (B := B) (A := A) (ev := ev) hD
  unfold pickO at h
  cases hl : inS (N % D) B ev <;> cases hu : inS (D - N % D) A ev <;> rw [hl, hu] at h
  · rw [f1, f2, hl, hu]
    refine ⟨?_, by simp⟩
    rintro (h' | ⟨h', _⟩)
    · simp at h'
    · rw [h'] at hl
      unfold inS at hl
      simp at hl
      omega
  · simp at h
  · simp at h
  · simp at h

theorem ShortAt.inD {s d : Nat} {p : Int} (h : ShortAt s d p) : InD d p s := by
  obtain ⟨a, b, j, h1, h2, h3, rfl, h4, h5, h6, _⟩ := h
  have hD : oneS s * 10 ^ b ≠ 0 := Nat.mul_ne_zero (one_ne s) (Nat.ne_of_gt (ten_pow_pos b))
  have := pick_in hD h6
  have q2 : ∀ x, x * 10 ^ (a + j) = x * 10 ^ a * 10 ^ j := fun x => by rw [Nat.pow_add]; ac_rfl
  rw [InD_iff (a := a + j) (b := b) (by omega), q2, q2, q2]
  exact this

end Go.Proofs.YthdcceackfdbbabGreatDoor
/- What is printed is scanned. Own text. -/
namespace Go.Proofs.YthdcceackfdbbabGreatDoor
open Go.RowKit

theorem smallW_dval {l : List UInt8} (h : Digs l) (hv : dval l < 10000) : smallW l = dval l := by
  induction l using list_snoc_ind with
  | h0 => rfl
  | h1 l c ih =>
    obtain ⟨h1, h2⟩ := digs_snoc h
    rw [dval_snoc] at hv ⊢
    have := ih h1 (by omega)
    rw [smallW_snoc, this, if_pos (by omega)]

theorem itoa_form {q : Int} (h1 : -1000 < q) (h2 : q < 1000) : ∃ u : Nat, u < 1000 ∧ ((q < 0 ∧ q = -(u : Int) ∧ Lib.itoa q = 45 :: Lib.decDigits u) ∨ (0 ≤ q ∧ q = (u : Int) ∧ Lib.itoa q = Lib.decDigits u)) := by
  by_cases h : q < 0
  · obtain ⟨u, rfl⟩ : ∃ u : Nat, q = -(u : Int) := ⟨q.natAbs, by omega⟩
    exact ⟨u, by omega, .inl ⟨h, rfl, Lib.itoa_neg u (by omega)⟩⟩
  · obtain ⟨u, rfl⟩ : ∃ u : Nat, q = (u : Int) := ⟨q.toNat, by omega⟩
    exact ⟨u, by omega, .inr ⟨by omega, rfl, Lib.itoa_nonneg u⟩⟩

theorem powL_itoa {q : Int} (h1 : -1000 < q) (h2 : q < 1000) : powL (101 :: Lib.itoa q) = some q := by
  obtain ⟨u, hu, h⟩ := itoa_form h1 h2
  obtain ⟨d1, d2, _, d4⟩ := dd_all u
  have hw := smallW_dval d1 (by rw [d2]; omega)
  obtain ⟨e1, e2⟩ := takeWhile_all d1 [] (by simp)
  rw [List.append_nil] at e1 e2
  rcases h with ⟨_, rfl, e⟩ | ⟨_, rfl, e⟩
  · rw [e]
    have hs : signL (45 :: Lib.decDigits u) = (true, Lib.decDigits u) := by simp [signL]
    simp [powL, hs, e1, e2, d4, hw, d2]
  · rw [e]
    have hs : signL (Lib.decDigits u) = (false, Lib.decDigits u) := by
      cases hc : Lib.decDigits u with
      | nil => exact absurd hc d4
      | cons c r => rw [hc] at d1; exact signL_dig (d1 c (by simp))
    simp [powL, hs, e1, e2, d4, hw, d2]

theorem decL_exp {c : UInt8} {f : List UInt8} {q : Int} (hc : isDig c = true) (hf : Digs f) (h1 : -1000 < q) (h2 : q < 1000) :
    decL (c :: 46 :: (f ++ 101 :: Lib.itoa q)) = some ((c :: f).dropWhile (· == 48), q - f.length) := by
  have hd : Digs [c] := by intro x hx; simp at hx; subst hx; exact hc
  obtain ⟨e1, e2⟩ := takeWhile_all hd (46 :: (f ++ 101 :: Lib.itoa q)) (by intro c t e; cases e; rfl)
  obtain ⟨e3, e4⟩ := takeWhile_all hf (101 :: Lib.itoa q) (by intro c t e; cases e; rfl)
  have ef : fracL (46 :: (f ++ 101 :: Lib.itoa q)) = (f, 101 :: Lib.itoa q) := by simp [fracL, e3, e4]
  rw [List.singleton_append] at e1 e2
  unfold decL
  rw [e1, e2, ef]
  simp only []
  rw [powL_itoa h1 h2]
  simp

theorem decL_exp1 {c : UInt8} {q : Int} (hc : isDig c = true) (h1 : -1000 < q) (h2 : q < 1000) :
    decL (c :: 101 :: Lib.itoa q) = some ([c].dropWhile (· == 48), q) := by
  have hd : Digs [c] := by intro x hx; simp at hx; subst hx; exact hc
  obtain ⟨e1, e2⟩ := takeWhile_all hd (101 :: Lib.itoa q) (by intro c t e; cases e; rfl)
  have ef : fracL (101 :: Lib.itoa q) = ([], 101 :: Lib.itoa q) := by simp [fracL]
  rw [List.singleton_append] at e1 e2
  unfold decL
  rw [e1, e2, ef]
  simp only []
  rw [powL_itoa h1 h2]
  simp

theorem decL_pt {c : UInt8} {f : List UInt8} {q : Int} (hc : isDig c = true) (hf : Digs f) (h1 : -1000 < q) (h2 : q < 1000) :
    decL (ptL (c :: f) ++ 101 :: Lib.itoa q) = some ((c :: f).dropWhile (· == 48), q - f.length) := by
  cases f with
  | nil => simpa [ptL] using decL_exp1 hc h1 h2
  | cons b t =>
    have := decL_exp (f := b :: t) hc hf h1 h2
    simpa [ptL] using this

theorem trim_split (l : List UInt8) : ∃ z, l = Lib.trimRightB l 48 ++ List.replicate z 48 := by
  unfold Lib.trimRightB
  refine ⟨(l.reverse.takeWhile (· == 48)).length, ?_⟩
  have h : (l.reverse.takeWhile (· == 48)) = List.replicate (l.reverse.takeWhile (· == 48)).length 48 := by
    apply List.eq_replicate_of_mem
    intro b hb
    have := List.all_eq_true.1 (List.all_takeWhile (p := (· == (48 : UInt8))) (l := l.reverse)) b hb
    simpa using this
  have h2 := List.takeWhile_append_dropWhile (p := (· == (48 : UInt8))) (l := l.reverse)
  have h3 := congrArg List.reverse h2
  rw [List.reverse_append, List.reverse_reverse] at h3
  rw [← List.reverse_replicate, ← h]
  exact h3.symm

theorem dval_zeros (z : Nat) : dval (List.replicate z 48) = 0 := by
  induction z with
  | zero => rfl
  | succ z ih => rw [List.replicate_succ', dval_snoc, ih]; rfl

/-- The digits that are printed. -/
theorem trim_digits {d : Nat} (hd : 1 ≤ d) : ∃ (c : UInt8) (f : List UInt8) (z : Nat), Lib.trimRightB (Lib.decDigits d) 48 = c :: f ∧ isDig c = true ∧ c.toNat ≠ 48 ∧ Digs f ∧ dval (c :: f) * 10 ^ z = d ∧ dval (c :: f) ≠ 0 ∧ (Lib.decDigits d).length = f.length + 1 + z ∧ Lib.decDigits d = (c :: f) ++ List.replicate z 48 := by
  obtain ⟨d1, d2, d3, d4⟩ := dd_all d
  obtain ⟨z, hz⟩ := trim_split (Lib.decDigits d)
  generalize hr : Lib.trimRightB (Lib.decDigits d) 48 = r at *
  have hv : dval r * 10 ^ z = d := by
    rw [hz, dval_append, dval_zeros, List.length_replicate] at d2
    omega
  cases r with
  | nil => simp [dval] at hv; omega
  | cons c f =>
    have hall : Digs (c :: f) := fun x hx => d1 x (by rw [hz]; simp at hx ⊢; rcases hx with hx | hx <;> simp [hx])
    refine ⟨c, f, z, rfl, hall c (by simp), d3 (by omega) c (f ++ List.replicate z 48) (by rw [hz]; simp), fun x hx => hall x (by simp [hx]), hv, ?_, ?_, hz⟩
    · intro h0; rw [h0] at hv; omega
    · have := congrArg List.length hz; simp at this; omega

theorem drop48 {c : UInt8} {f : List UInt8} (h : c.toNat ≠ 48) : (c :: f).dropWhile (· == 48) = c :: f := by
  have : (c == 48) = false := by
    simp; intro e; subst e; exact h rfl
  simp [this]

theorem lt_ten {x k m : Nat} (h : bl x ≤ k) (hp : powLe k m = true) : x < 10 ^ m := Nat.lt_of_lt_of_le (bl_hi x) (Nat.le_trans (Nat.pow_le_pow_right (by omega) h) (powLe_le hp))
theorem p1030 : powLe 1030 400 = true := by kernel_rfl
theorem p1080 : powLe 1080 400 = true := by kernel_rfl

theorem pM : ∃ M : Nat, M = 400 ∧ powLe 1030 M = true ∧ powLe 1080 M = true := ⟨400, rfl, p1030, p1080⟩

theorem size_ne {s : Nat} (h : s ≠ 0) : 0 < sizeS s := by
  unfold sizeS qS
  have : 0 < 2 ^ (eS s).toNat := Nat.pow_pos (by omega)
  exact Nat.mul_pos (Nat.pos_of_ne_zero (mS_ne h)) (by omega)

theorem mag_gen {S O a b M : Nat} (hS0 : 0 < S) (hO0 : 0 < O) (hS : S < 10 ^ M) (hO : O < 10 ^ M) (h1 : O * 10 ^ b ≤ S * 10 ^ a) (h2 : S * 10 ^ a < 10 * (O * 10 ^ b)) : b < M + a ∧ a < M + 1 + b := by
  constructor
  · have q1 : 10 ^ b < 10 ^ (M + a) := by
      rw [Nat.pow_add]
      have e1 : 10 ^ b ≤ O * 10 ^ b := Nat.le_mul_of_pos_left _ hO0
      have e2 : S * 10 ^ a < 10 ^ M * 10 ^ a := Nat.mul_lt_mul_of_pos_right hS (ten_pow_pos a)
      generalize 10 ^ M * 10 ^ a = Z at *
      omega
    exact (Nat.pow_lt_pow_iff_right (by omega : 1 < 10)).1 q1
  · have q1 : 10 ^ a < 10 ^ (M + 1 + b) := by
      have e1 : 10 ^ a ≤ S * 10 ^ a := Nat.le_mul_of_pos_left _ hS0
      have e2 : O * 10 ^ b < 10 ^ M * 10 ^ b := Nat.mul_lt_mul_of_pos_right hO (ten_pow_pos b)
      have e3 : 10 ^ (M + 1 + b) = 10 * (10 ^ M * 10 ^ b) := by rw [Nat.pow_add, Nat.pow_succ]; ac_rfl
      rw [e3]
      generalize 10 ^ M * 10 ^ b = Z at *
      omega
    exact (Nat.pow_lt_pow_iff_right (by omega : 1 < 10)).1 q1

theorem mag_bd {s a b : Nat} (h0 : s ≠ 0) (h : s < 9218868437227405312) (h1 : oneS s * 10 ^ b ≤ sizeS s * 10 ^ a) (h2 : sizeS s * 10 ^ a < 10 * (oneS s * 10 ^ b)) : (b : Int) - a ≤ 400 ∧ -401 ≤ (b : Int) - a := by
  obtain ⟨l1, _, _, l4⟩ := size_bl h
  obtain ⟨M, hM, m1, m2⟩ := pM
  have := mag_gen (size_ne h0) (Nat.pos_of_ne_zero (one_ne s)) (lt_ten l1 m1) (lt_ten l4 m2) h1 h2
  omega

theorem ShortAt.pow {s d : Nat} {p : Int} (h : ShortAt s d p) (h0 : s ≠ 0) (hs : s < 9218868437227405312) : -418 ≤ p ∧ p ≤ 400 := by
  obtain ⟨a, b, j, h1, h2, h3, rfl, h4, h5, _⟩ := h
  have := mag_bd h0 hs h4 h5
  omega

/-- The digits and the power that are printed tell a decimal of the interval. -/
theorem out_parts {s d : Nat} {p : Int} (h : ShortAt s d p) (h0 : s ≠ 0) (hs : s < 9218868437227405312) : ∃ (c : UInt8) (f : List UInt8) (q : Int), outL d p = ptL (c :: f) ++ 101 :: Lib.itoa q ∧ isDig c = true ∧ c.toNat ≠ 48 ∧ Digs f ∧ -1000 < q ∧ q < 1000 ∧ f.length ≤ 16 ∧ decRnd (dval (c :: f)) (q - f.length) = s := by
  obtain ⟨d1, d2, _, _⟩ := h.bd
  obtain ⟨p1, p2⟩ := h.pow h0 hs
  obtain ⟨c, f, z, e1, e2, e3, e4, e5, e6, e7, e8⟩ := trim_digits d1
  have hlen : (Lib.decDigits d).length ≤ 18 := dd_len (by omega) (by omega)
  refine ⟨c, f, p + ((Lib.decDigits d).length : Int) - 1, by unfold outL; rw [e1], e2, e3, e4, by omega, by omega, ?_, ?_⟩
  · by_cases hd : d < 100000000000000000
    · have : (Lib.decDigits d).length ≤ 17 := dd_len (by omega) (by omega)
      omega
    · have hd' : d = 100000000000000000 := by omega
      subst hd'
      have : Lib.trimRightB (Lib.decDigits 100000000000000000) 48 = [49] := by kernel_rfl
      rw [this] at e1
      injection e1 with _ e9
      rw [← e9]
      simp
  · rw [decRnd_iff e6 hs, e7]
    have : (p + ((f.length + 1 + z : Nat) : Int) - 1 - (f.length : Int)) = p + z := by omega
    rw [this, ← InD_shift, e5]
    exact h.inD

theorem scan_minus {c : UInt8} {r : List UInt8} (hc : isDig c = true) (hl : (c :: r).length ≤ 59) : scanL (45 :: c :: r) = finL (decL (c :: r)) true := by
  have b := isDig_bd hc
  unfold scanL
  rw [if_neg (by simp only [List.length_cons] at hl ⊢; omega)]
  rw [if_neg (by rintro (e | e) <;> (injection e with e1 _; exact absurd e1 (by decide))), if_neg (by intro e; simp only [List.cons.injEq] at e; rw [e.2.1] at b; simp at b), if_neg (by intro e; injection e with e1 _; exact absurd e1 (by decide))]
  simp [signL]

theorem ptL_cons (c : UInt8) (f : List UInt8) : ∃ t, ptL (c :: f) = c :: t ∧ t.length ≤ f.length + 1 := by
  cases f with
  | nil => exact ⟨[], by simp [ptL], by simp⟩
  | cons b r => exact ⟨46 :: b :: r, by simp [ptL], by simp⟩

theorem itoa_len3 {q : Int} (h1 : -1000 < q) (h2 : q < 1000) : 1 ≤ (Lib.itoa q).length ∧ (Lib.itoa q).length ≤ 4 := by
  obtain ⟨u, hu, h⟩ := itoa_form h1 h2
  have hl : (Lib.decDigits u).length ≤ 3 := dd_len (by omega) (by omega)
  have hne := (dd_all u).2.2.2
  have hpos : 1 ≤ (Lib.decDigits u).length := by
    cases hc : Lib.decDigits u with
    | nil => exact absurd hc hne
    | cons c r => simp
  rcases h with ⟨_, _, e⟩ | ⟨_, _, e⟩ <;> rw [e]
  · simp only [List.length_cons]; omega
  · omega

theorem scan_out {s d : Nat} {p : Int} (h : ShortAt s d p) (h0 : s ≠ 0) (hs : s < 9218868437227405312) : scanL (outL d p) = (s, 0) ∧ scanL (45 :: outL d p) = (s + 9223372036854775808, 0) ∧ 1 ≤ (outL d p).length ∧ (outL d p).length ≤ 23 := by
  obtain ⟨c, f, q, e1, e2, e3, e4, e5, e6, e7, e8⟩ := out_parts h h0 hs
  rw [e1]
  obtain ⟨t, ht, htl⟩ := ptL_cons c f
  have hd := decL_pt e2 e4 e5 e6
  rw [drop48 e3] at hd
  rw [ht] at hd ⊢
  rw [List.cons_append] at hd ⊢
  obtain ⟨l0, l1⟩ := itoa_len3 e5 e6
  have hlen : (c :: (t ++ 101 :: Lib.itoa q)).length ≤ 23 := by simp; omega
  refine ⟨?_, ?_, by simp, hlen⟩
  · rw [scanL_dig e2 (by omega), hd]
    simp only [finL]
    rw [e8]
    simp
  · rw [scan_minus e2 (by omega), hd]
    simp only [finL]
    rw [e8]
    simp

/-- A number, a nan being the canonical one. -/
def cleanN (x : Nat) : Nat := if 9218868437227405312 < x % 9223372036854775808 then 9221120237041090560 else x

theorem scan_z0 : scanL [48] = (0, 0) := by decide
theorem scan_z1 : scanL [45, 48] = (9223372036854775808, 0) := by decide

theorem scan_print {x : Nat} {l : List UInt8} (hx : x < 18446744073709551616) (h : PrintOk x l) : scanL l = (cleanN x, 0) ∧ 1 ≤ l.length ∧ l.length ≤ 24 := by
  unfold cleanN
  rcases h with ⟨h, rfl⟩ | ⟨h, rfl⟩ | ⟨h, rfl⟩ | ⟨h, h', d, p, hsa, rfl⟩
  · rw [if_pos h]; exact ⟨by decide, by decide, by decide⟩
  · rw [if_neg (by omega)]
    unfold sgL
    split
    · refine ⟨?_, by decide, by decide⟩
      have : x = 18442240474082181120 := by omega
      rw [this]; decide
    · refine ⟨?_, by decide, by decide⟩
      have : x = 9218868437227405312 := by omega
      rw [this]; decide
  · rw [if_neg (by omega)]
    unfold sgL
    split
    · refine ⟨?_, by decide, by decide⟩
      have : x = 9223372036854775808 := by omega
      rw [this]; exact scan_z1
    · refine ⟨?_, by decide, by decide⟩
      have : x = 0 := by omega
      rw [this]; exact scan_z0
  · rw [if_neg (by omega)]
    obtain ⟨q1, q2, q3, q4⟩ := scan_out hsa h h'
    unfold sgL
    split
    · rw [List.singleton_append]
      refine ⟨?_, by simp, by simp; omega⟩
      rw [q2]
      congr 1
      omega
    · rw [List.nil_append]
      refine ⟨?_, q3, by omega⟩
      rw [q1]
      congr 1
      omega

theorem and_hi (x M : Nat) : x &&& (M * 2 ^ 52) = ((x / 2 ^ 52) &&& M) * 2 ^ 52 := by
  apply Nat.eq_of_testBit_eq
  intro i
  rw [Nat.testBit_and, Nat.testBit_mul_two_pow, Nat.testBit_mul_two_pow, Nat.testBit_and, Nat.testBit_div_two_pow]
  by_cases hi : 52 ≤ i
  · rw [show i - 52 + 52 = i by omega]
    simp [hi]
  · simp [hi]

theorem and_inf {x : Nat} (h : x < 18446744073709551616) : bits BinOp.and IntKind.u64 (x : Int) 9218868437227405312 = ((x / 4503599627370496 % 2048 * 4503599627370496 : Nat) : Int) := by
  rw [show (9218868437227405312 : Int) = ((2047 * 2 ^ 52 : Nat) : Int) from rfl, u64_and_nat _ _ h (by omega), and_hi]
  congr 2
  exact Nat.and_two_pow_sub_one_eq_mod (x / 2 ^ 52) 11

end Go.Proofs.YthdcceackfdbbabGreatDoor
/- Walk: plus, of numbers without noughts above. Own text. -/
namespace Go.Proofs.YthdcceackfdbbabGreatDoor
open Go.RowKit

def LastOk (la lb s : List Nat) (k cy : Nat) : Prop := ∀ z, s.getLast? = some z → z = 0 → cy ≠ 0 ∨ k < la.length ∨ k < lb.length

theorem lastok_canon {la lb s : List Nat} {k : Nat} (h : LastOk la lb s k 0) (h1 : ¬ k < la.length) (h2 : ¬ k < lb.length) : Canon s := by
  intro z hz h0
  rcases h z hz h0 with h | h | h
  · exact h rfl
  · exact h1 h
  · exact h2 h

theorem top_ne {l : List Nat} {k x : Nat} (hc : Canon l) (hx : l[k]? = some x ∨ (l.length ≤ k ∧ x = 0)) (hk : k < l.length) (hk1 : ¬ k + 1 < l.length) : x ≠ 0 := by
  rcases hx with hx | ⟨h, _⟩
  · apply hc
    rw [List.getLast?_eq_getElem?, show l.length - 1 = k by omega]
    exact hx
  · omega

theorem last_new {la lb s : List Nat} {k x y r c' cy : Nat} (ca : Canon la) (cb : Canon lb) (hx : la[k]? = some x ∨ (la.length ≤ k ∧ x = 0)) (hy : lb[k]? = some y ∨ (lb.length ≤ k ∧ y = 0)) (hc : k < la.length ∨ k < lb.length ∨ 0 < cy) (ht : r + 1000000000 * c' = cy + x + y) : LastOk la lb (s ++ [r]) (k + 1) c' := by
  intro z hz h0
  rw [List.getLast?_append] at hz
  simp at hz
  subst hz
  by_cases h1 : k + 1 < la.length
  · exact .inr (.inl h1)
  · by_cases h2 : k + 1 < lb.length
    · exact .inr (.inr h2)
    · left
      intro hc0
      rcases hc with h | h | h
      · have := top_ne ca hx h h1; omega
      · have := top_ne cb hy h h2; omega
      · omega

end Go.Proofs.YthdcceackfdbbabGreatDoor
/- What the reference's Print reckons; walks over parts. Own text. -/
namespace Go.Proofs.YthdcceackfdbbabGreatDoor
open Go.RowKit
attribute [local go_sem ↓] Go.wp_at_zero Go.wp_at_succ

/-- Is 10 to the k not above the size? -/
def leT (s : Nat) (k : Int) : Prop := oneS s * 10 ^ k.toNat ≤ sizeS s * 10 ^ (-k).toNat

theorem leT_iff {s a b : Nat} {k : Int} (h : (b : Int) - a = k) : leT s k ↔ oneS s * 10 ^ b ≤ sizeS s * 10 ^ a := by
  obtain ⟨t, h1, h2⟩ : ∃ t : Nat, b = k.toNat + t ∧ a = (-k).toNat + t := ⟨b - k.toNat, by omega, by omega⟩
  unfold leT
  rw [h1, h2, Nat.pow_add, Nat.pow_add, ← Nat.mul_assoc, ← Nat.mul_assoc]
  exact ⟨fun h => Nat.mul_le_mul_right _ h, fun h => Nat.le_of_mul_le_mul_right h (ten_pow_pos t)⟩

theorem leT_down {s : Nat} {k : Int} (h : leT s (k + 1)) : leT s k := by
  obtain ⟨a, b, hab⟩ : ∃ a b : Nat, (b : Int) - a = k := ⟨(-k).toNat, k.toNat, by omega⟩
  rw [leT_iff (a := a) (b := b + 1) (by omega)] at h
  rw [leT_iff hab]
  rw [Nat.pow_succ, ← Nat.mul_assoc] at h
  omega

theorem leT_le {s : Nat} {k k' : Int} (h : leT s k) (hk : k' ≤ k) : leT s k' := by
  obtain ⟨n, rfl⟩ : ∃ n : Nat, k = k' + n := ⟨(k - k').toNat, by omega⟩
  clear hk
  induction n with
  | zero => simpa using h
  | succ n ih => exact ih (leT_down (by rw [show k' + (n : Int) + 1 = k' + ((n + 1 : Nat) : Int) by omega]; exact h))

theorem top_unique {s : Nat} {k k' : Int} (h1 : leT s k) (h2 : ¬ leT s (k + 1)) (h3 : leT s k') (h4 : ¬ leT s (k' + 1)) : k = k' := by
  by_cases h : k < k'
  · exact absurd (leT_le h3 (by omega)) h2
  · by_cases h' : k' < k
    · exact absurd (leT_le h1 (by omega)) h4
    · omega

theorem leT_bd {s : Nat} {k : Int} (hs : s < 9218868437227405312) (h : leT s k) : k ≤ 400 := by
  by_cases hk : k ≤ 400
  · exact hk
  · obtain ⟨M, hM, p1, p2⟩ := pM
    have hS : sizeS s < 10 ^ M := lt_ten (size_bl hs).1 p1
    unfold leT at h
    rw [show (-k).toNat = 0 by omega, Nat.pow_zero, Nat.mul_one] at h
    have h1 : 10 ^ M ≤ 10 ^ k.toNat := Nat.pow_le_pow_right (by omega) (by omega)
    have h2 : 10 ^ k.toNat ≤ oneS s * 10 ^ k.toNat := Nat.le_mul_of_pos_left _ (Nat.pos_of_ne_zero (one_ne s))
    exact absurd (Nat.lt_of_lt_of_le hS (Nat.le_trans h1 (Nat.le_trans h2 h))) (Nat.lt_irrefl _)

theorem near_scale {lo d u c : Nat} (hc : 0 < c) : nearS lo (d * c) (u * c) = nearS lo d u := by
  have h1 : ∀ x y : Nat, x * c < y * c ↔ x < y := fun x y => ⟨fun h => Nat.lt_of_mul_lt_mul_right h, fun h => Nat.mul_lt_mul_of_pos_right h hc⟩
  unfold nearS
  simp only [h1]

theorem pick_scale {N B A D c : Nat} {ev : Bool} (hc : 0 < c) : pickO (N * c) (B * c) (A * c) (D * c) ev = pickO N B A D ev := by
  unfold pickO
  rw [Nat.mul_div_mul_right _ _ hc, Nat.mul_mod_mul_right, ← Nat.sub_mul, inS_scale hc, inS_scale hc, near_scale hc]

/-- The step of shortest at the power k. -/
def PK (s : Nat) (k : Int) : Option Nat := pickO (sizeS s * 10 ^ (-k).toNat) (belowS s * 10 ^ (-k).toNat) (aboveS s * 10 ^ (-k).toNat) (oneS s * 10 ^ k.toNat) (decide (s % 2 = 0))

theorem PK_iff {s a b : Nat} {k : Int} (h : (b : Int) - a = k) : PK s k = pickO (sizeS s * 10 ^ a) (belowS s * 10 ^ a) (aboveS s * 10 ^ a) (oneS s * 10 ^ b) (decide (s % 2 = 0)) := by
  obtain ⟨t, h1, h2⟩ : ∃ t : Nat, b = k.toNat + t ∧ a = (-k).toNat + t := ⟨b - k.toNat, by omega, by omega⟩
  have q : ∀ x i : Nat, x * 10 ^ (i + t) = x * 10 ^ i * 10 ^ t := fun x i => by rw [Nat.pow_add, Nat.mul_assoc]
  unfold PK
  rw [h1, h2, q, q, q, q]
  exact (pick_scale (ten_pow_pos t)).symm

theorem ShortAt.steps {s d : Nat} {p : Int} (h : ShortAt s d p) : ∃ j : Nat, j ≤ 16 ∧ leT s (p + j) ∧ ¬ leT s (p + j + 1) ∧ PK s p = some d ∧ ∀ i : Nat, i < j → PK s (p + j - i) = none := by
  obtain ⟨a, b, j, h1, h2, h3, rfl, h4, h5, h6, h7⟩ := h
  have q : ∀ x i : Nat, x * 10 ^ (a + i) = x * 10 ^ a * 10 ^ i := fun x i => by rw [Nat.pow_add, Nat.mul_assoc]
  refine ⟨j, h3, ?_, ?_, ?_, ?_⟩
  · rw [leT_iff (a := a) (b := b) (by omega)]; exact h4
  · rw [leT_iff (a := a) (b := b + 1) (by omega), Nat.pow_succ, ← Nat.mul_assoc]
    omega
  · rw [PK_iff (a := a + j) (b := b) (by omega), q, q, q]; exact h6
  · intro i hi
    rw [PK_iff (a := a + i) (b := b) (by omega), q, q, q]; exact h7 i hi

/-- How far one is from the other. -/
def gap (V N : Nat) : Nat := if V < N then N - V else V - N
def reach (V N B A : Nat) : Nat := if V < N then B else A

theorem low_facts {N D : Nat} (hD : D ≠ 0) : N / D * D + N % D = N ∧ N % D < D := ⟨by rw [Nat.mul_comm]; exact Nat.div_add_mod N D, Nat.mod_lt N (Nat.pos_of_ne_zero hD)⟩

theorem gap_low {N D : Nat} (hD : D ≠ 0) : gap (N / D * D) N = N % D := by
  obtain ⟨h1, h2⟩ := low_facts (N := N) hD
  unfold gap
  split <;> omega

theorem gap_high {N D : Nat} (hD : D ≠ 0) : gap ((N / D + 1) * D) N = D - N % D := by
  obtain ⟨h1, h2⟩ := low_facts (N := N) hD
  unfold gap
  rw [Nat.add_mul, Nat.one_mul]
  split <;> omega

theorem in_low {N B A D : Nat} {ev : Bool} (hD : D ≠ 0) (hB : 0 < B) (hA : 0 < A) : inS (gap (N / D * D) N) (reach (N / D * D) N B A) ev = inS (N % D) B ev := by
  obtain ⟨h1, h2⟩ := low_facts (N := N) hD
  rw [gap_low hD]
  unfold reach
  split
  · rfl
  · rw [show N % D = 0 by omega]
    unfold inS
    simp [hB, hA]

theorem in_high {N B A D : Nat} {ev : Bool} (hD : D ≠ 0) : inS (gap ((N / D + 1) * D) N) (reach ((N / D + 1) * D) N B A) ev = inS (D - N % D) A ev := by
  obtain ⟨h1, h2⟩ := low_facts (N := N) hD
  rw [gap_high hD]
  unfold reach
  rw [if_neg (by rw [Nat.add_mul, Nat.one_mul]; omega)]

theorem above_pos (s : Nat) : 0 < aboveS s := by
  unfold aboveS qS
  have : 0 < 2 ^ (eS s).toNat := Nat.pow_pos (by omega)
  omega

theorem digs_inj {a b : List UInt8} (ha : Digs a) (hb : Digs b) (hl : a.length = b.length) (hv : dval a = dval b) : a = b := by
  induction a generalizing b with
  | nil => cases b with
    | nil => rfl
    | cons y b => simp at hl
  | cons x a ih =>
    cases b with
    | nil => simp at hl
    | cons y b =>
      have hl' : a.length = b.length := by simpa using hl
      have da : Digs a := fun c hc => ha c (by simp [hc])
      have db : Digs b := fun c hc => hb c (by simp [hc])
      have e1 := dval_append [x] a
      have e2 := dval_append [y] b
      simp only [List.cons_append, List.nil_append] at e1 e2
      rw [e1, e2, hl'] at hv
      have l1 := dval_lt da
      have l2 := dval_lt db
      rw [hl'] at l1
      have f1 : dval [x] = x.toNat - 48 := by simp [dval]
      have f2 : dval [y] = y.toNat - 48 := by simp [dval]
      rw [f1, f2] at hv
      have hx := ha x (by simp)
      have hy := hb y (by simp)
      unfold isDig at hx hy
      simp at hx hy
      have g1 : (x.toNat - 48) = (y.toNat - 48) := by
        have q1 : ((x.toNat - 48) * 10 ^ b.length + dval a) / 10 ^ b.length = x.toNat - 48 := by
          rw [Nat.mul_comm, Nat.mul_add_div (ten_pow_pos _), Nat.div_eq_of_lt l1, Nat.add_zero]
        have q2 : ((y.toNat - 48) * 10 ^ b.length + dval b) / 10 ^ b.length = y.toNat - 48 := by
          rw [Nat.mul_comm, Nat.mul_add_div (ten_pow_pos _), Nat.div_eq_of_lt l2, Nat.add_zero]
        rw [← q1, ← q2, hv]
      have g2 : dval a = dval b := by rw [g1] at hv; omega
      have g3 : x = y := by
        apply UInt8.toNat_inj.1
        omega
      rw [g3, ih da db hl' g2]

theorem dd_unique {l : List UInt8} {n : Nat} (hd : Digs l) (h0 : ∀ c r, l = c :: r → c.toNat ≠ 48) (hv : dval l = n) (hn : n ≠ 0) : l = Lib.decDigits n := by
  obtain ⟨d1, d2, d3, d4⟩ := dd_all n
  have key : ∀ {a b : List UInt8}, Digs a → Digs b → (∀ c r, a = c :: r → c.toNat ≠ 48) → dval a = dval b → a ≠ [] → a.length ≤ b.length := by
    intro a b ha hb h0 hv hne
    cases a with
    | nil => exact absurd rfl hne
    | cons c r =>
      have h1 := dval_ge ha (c := c) (r := r) rfl (h0 c r rfl)
      have h2 := dval_lt hb
      by_cases h : (c :: r).length ≤ b.length
      · exact h
      · have h3 : 10 ^ b.length ≤ 10 ^ ((c :: r).length - 1) := Nat.pow_le_pow_right (by omega) (by omega)
        omega
  have hne : l ≠ [] := by intro h; subst h; simp [dval] at hv; omega
  refine digs_inj hd d1 (Nat.le_antisymm (key hd d1 h0 (by rw [hv, d2]) hne) (key d1 hd (d3 hn) (by rw [hv, d2]) d4)) (by rw [hv, d2])

theorem valB_parity {x : Nat} {l : List Nat} : valB (x :: l) % 2 = x % 2 := by simp only [valB]; omega


theorem tup2i {a a' b b' : Int} (h1 : a = a') (h2 : b = b') : Ending.returned (.tuple #[.int .i64 a, .int .i64 b]) = .returned (.tuple #[.int .i64 a', .int .i64 b']) := by rw [h1, h2]

theorem and_2047 {s : Nat} (h : s < 9218868437227405312) : bits BinOp.and IntKind.u64 ((s : Int) / 4503599627370496) 2047 = (s : Int) / 4503599627370496 := by
  rw [show (s : Int) / 4503599627370496 = ((s / 4503599627370496 : Nat) : Int) by omega, show (2047 : Int) = ((2047 : Nat) : Int) from rfl, u64_and_nat _ _ (by omega) (by omega)]
  congr 1
  have := Nat.and_two_pow_sub_one_eq_mod (s / 4503599627370496) 11
  rw [show (2 : Nat) ^ 11 - 1 = 2047 from rfl] at this
  rw [this]
  omega

theorem RepB.form {w : World} {B : Nat} {v : Value} {n : Nat} (h : RepB w B v n) : ∃ ao k cap, v = .slice ao k cap := by
  obtain ⟨l, h1, _⟩ := h
  obtain ⟨ao, cap, rfl, _⟩ := h1.shape1
  exact ⟨ao, _, cap, rfl⟩

/-- A number of the reference whose places lie in another block than g. -/
def NumB (w : World) (g : Nat) (v : Value) (n : Nat) : Prop := RepB w 0 v n ∧ ∀ k, v.ownBlock = some k → k ≠ g

theorem NumB.below {w w' : World} {g : Nat} {v : Value} {n : Nat} (h : NumB w g v n) (hb : Below w.heap.size w w') : NumB w' g v n := ⟨h.1.below hb, h.2⟩
theorem NumB.set {w : World} {g : Nat} {v : Value} {n : Nat} (h : NumB w g v n) (i : Nat) (u : Value) : NumB (w.setCell ⟨g, i, none⟩ u) g v n := by
  obtain ⟨⟨l, h1, h2⟩, h3⟩ := h
  exact ⟨⟨l, h1.setOther (a := ⟨g, i, none⟩) u h3, h2⟩, h3⟩
theorem numB_new {w : World} {B g : Nat} {v : Value} {n : Nat} (h : RepB w B v n) (hg : g < B) : NumB w g v n := by
  refine ⟨h.base (Nat.zero_le _), ?_⟩
  obtain ⟨l, h1, _⟩ := h
  intro k hk
  have := (h1.1.lt k hk).1
  omega
theorem numB_old {w : World} {B g : Nat} {v : Value} {n : Nat} (h : RepB w B v n) (hg : w.heap.size ≤ g) : NumB w g v n := by
  refine ⟨h.base (Nat.zero_le _), ?_⟩
  obtain ⟨l, h1, _⟩ := h
  intro k hk
  have := (h1.1.lt k hk).2
  omega
theorem numB_off {w : World} {B g : Nat} {v : Value} {n : Nat} (h : RepB w B v n) (hn : n ≠ 0) {ao : Option Addr} {k cap : Nat} (hc : w.cell? ⟨g, 0, none⟩ = some (.slice ao k cap)) : NumB w g v n := by
  refine ⟨h.base (Nat.zero_le _), ?_⟩
  obtain ⟨l, h1, _, h3⟩ := h
  intro b hb hbg
  subst hbg
  rcases h1.shape with ⟨rfl, rfl⟩ | ⟨g', cap', rfl, _, _, _, _, h5, _⟩
  · simp [valB] at h3; omega
  · simp [Value.ownBlock] at hb
    subst hb
    cases l with
    | nil => simp [valB] at h3; omega
    | cons x l => have := h5 0 x (by simp); rw [this] at hc; simp at hc

/-- The scale that lies in block g. -/
structure SpnB (w : World) (g : Nat) (v0 v1 v2 v3 : Value) (S B A D : Nat) : Prop where
  lt : g < w.heap.size
  fr : ∀ i, w.frozen? ⟨g, i, none⟩ = false
  c0 : w.cell? ⟨g, 0, none⟩ = some v0
  c1 : w.cell? ⟨g, 1, none⟩ = some v1
  c2 : w.cell? ⟨g, 2, none⟩ = some v2
  c3 : w.cell? ⟨g, 3, none⟩ = some v3
  n0 : NumB w g v0 S
  n1 : NumB w g v1 B
  n2 : NumB w g v2 A
  n3 : NumB w g v3 D

theorem SpnB.below {w w' : World} {g : Nat} {v0 v1 v2 v3 : Value} {S B A D : Nat} (h : SpnB w g v0 v1 v2 v3 S B A D) (hb : Below w.heap.size w w') : SpnB w' g v0 v1 v2 v3 S B A D := by
  obtain ⟨hc, hf⟩ := bcell hb
  exact ⟨Nat.lt_of_lt_of_le h.lt hb.size, fun i => (hf g i h.lt).trans (h.fr i), (hc g 0 h.lt).trans h.c0, (hc g 1 h.lt).trans h.c1, (hc g 2 h.lt).trans h.c2, (hc g 3 h.lt).trans h.c3, h.n0.below hb, h.n1.below hb, h.n2.below hb, h.n3.below hb⟩

section sets
variable {w : World} {g : Nat} {v0 v1 v2 v3 v : Value} {S B A D N : Nat}

theorem SpnB.set0 (h : SpnB w g v0 v1 v2 v3 S B A D) (hv : NumB w g v N) : SpnB (w.setCell ⟨g, 0, none⟩ v) g v v1 v2 v3 N B A D :=
  ⟨by simpa using h.lt, fr_set h.fr _ _, World.cell?_setCell_same _ _ _ h.c0, (World.cell?_setCell_other _ _ _ _ (by simp)).trans h.c1, (World.cell?_setCell_other _ _ _ _ (by simp)).trans h.c2, (World.cell?_setCell_other _ _ _ _ (by simp)).trans h.c3, hv.set _ _, h.n1.set _ _, h.n2.set _ _, h.n3.set _ _⟩
theorem SpnB.set1 (h : SpnB w g v0 v1 v2 v3 S B A D) (hv : NumB w g v N) : SpnB (w.setCell ⟨g, 1, none⟩ v) g v0 v v2 v3 S N A D :=
  ⟨by simpa using h.lt, fr_set h.fr _ _, (World.cell?_setCell_other _ _ _ _ (by simp)).trans h.c0, World.cell?_setCell_same _ _ _ h.c1, (World.cell?_setCell_other _ _ _ _ (by simp)).trans h.c2, (World.cell?_setCell_other _ _ _ _ (by simp)).trans h.c3, h.n0.set _ _, hv.set _ _, h.n2.set _ _, h.n3.set _ _⟩
theorem SpnB.set2 (h : SpnB w g v0 v1 v2 v3 S B A D) (hv : NumB w g v N) : SpnB (w.setCell ⟨g, 2, none⟩ v) g v0 v1 v v3 S B N D :=
  ⟨by simpa using h.lt, fr_set h.fr _ _, (World.cell?_setCell_other _ _ _ _ (by simp)).trans h.c0, (World.cell?_setCell_other _ _ _ _ (by simp)).trans h.c1, World.cell?_setCell_same _ _ _ h.c2, (World.cell?_setCell_other _ _ _ _ (by simp)).trans h.c3, h.n0.set _ _, h.n1.set _ _, hv.set _ _, h.n3.set _ _⟩
theorem SpnB.set3 (h : SpnB w g v0 v1 v2 v3 S B A D) (hv : NumB w g v N) : SpnB (w.setCell ⟨g, 3, none⟩ v) g v0 v1 v2 v S B A N :=
  ⟨by simpa using h.lt, fr_set h.fr _ _, (World.cell?_setCell_other _ _ _ _ (by simp)).trans h.c0, (World.cell?_setCell_other _ _ _ _ (by simp)).trans h.c1, (World.cell?_setCell_other _ _ _ _ (by simp)).trans h.c2, World.cell?_setCell_same _ _ _ h.c3, h.n0.set _ _, h.n1.set _ _, h.n2.set _ _, hv.set _ _⟩
end sets

end Go.Proofs.YthdcceackfdbbabGreatDoor
namespace Go.Proofs.YthdcceackfdbbabGreatDoor
open Go.RowKit

theorem exp_le {o S a b a' b' : Nat} (h1 : o * 10 ^ b ≤ S * 10 ^ a) (h2 : S * 10 ^ a' < 10 * (o * 10 ^ b')) : b + a' ≤ b' + a := by
  by_cases h : b + a' ≤ b' + a
  · exact h
  · have e1 : o * 10 ^ b * 10 ^ a' ≤ S * 10 ^ a * 10 ^ a' := Nat.mul_le_mul_right _ h1
    have e2 : S * 10 ^ a' * 10 ^ a < 10 * (o * 10 ^ b') * 10 ^ a := Nat.mul_lt_mul_of_pos_right h2 (ten_pow_pos a)
    have e3 : S * 10 ^ a * 10 ^ a' = S * 10 ^ a' * 10 ^ a := by rw [Nat.mul_right_comm]
    have e4 : o * 10 ^ b * 10 ^ a' = o * 10 ^ (b + a') := by rw [Nat.mul_assoc, Nat.pow_add]
    have e5 : 10 * (o * 10 ^ b') * 10 ^ a = o * 10 ^ (b' + a + 1) := by
      rw [Nat.pow_succ, Nat.pow_add, Nat.mul_comm 10, ← Nat.mul_assoc, Nat.mul_right_comm, Nat.mul_assoc o]
    have e6 : o * 10 ^ (b' + a + 1) ≤ o * 10 ^ (b + a') := Nat.mul_le_mul_left _ (Nat.pow_le_pow_right (by omega) (by omega))
    omega

theorem shortAt_unique {s d d' : Nat} {p p' : Int} (h : ShortAt s d p) (h' : ShortAt s d' p') : d = d' ∧ p = p' := by
  obtain ⟨a, b, j, -, -, -, rfl, h1, h2, h3, h4⟩ := h
  obtain ⟨a', b', j', -, -, -, rfl, h1', h2', h3', h4'⟩ := h'
  have q1 := exp_le h1 h2'
  have q2 := exp_le h1' h2
  have key : ∀ (a b i : Nat), pickO (sizeS s * 10 ^ a * 10 ^ i) (belowS s * 10 ^ a * 10 ^ i) (aboveS s * 10 ^ a * 10 ^ i) (oneS s * 10 ^ b) (decide (s % 2 = 0)) = PK s ((b : Int) - a - i) := by
    intro a b i
    rw [PK_iff (a := a + i) (b := b) (by omega), Nat.pow_add, Nat.mul_assoc, Nat.mul_assoc, Nat.mul_assoc]
  rw [key] at h3 h3'
  have g4 : ∀ i, i < j → PK s ((b : Int) - a - i) = none := fun i hi => by rw [← key]; exact h4 i hi
  have g4' : ∀ i, i < j' → PK s ((b' : Int) - a' - i) = none := fun i hi => by rw [← key]; exact h4' i hi
  have hK : (b : Int) - a = (b' : Int) - a' := by omega
  rw [← hK] at h3' g4' ⊢
  by_cases hj : j = j'
  · subst hj; rw [h3] at h3'; exact ⟨Option.some.inj h3', rfl⟩
  · by_cases hlt : j < j'
    · have := g4' j hlt; rw [h3] at this; cases this
    · have := g4 j' (by omega); rw [h3'] at this; cases this

theorem printOk_unique {x : Nat} {l l' : List UInt8} (h : PrintOk x l) (h' : PrintOk x l') : l = l' := by
  unfold PrintOk at h h'
  rcases h with ⟨a, b⟩ | ⟨a, b⟩ | ⟨a, b⟩ | ⟨a, b, d, p, hs, hl⟩ <;> rcases h' with ⟨a', b'⟩ | ⟨a', b'⟩ | ⟨a', b'⟩ | ⟨a', b', d', p', hs', hl'⟩
  all_goals first | (exact b.trans b'.symm) | (exfalso; omega) | skip
  obtain ⟨rfl, rfl⟩ := shortAt_unique hs hs'
  exact hl.trans hl'.symm

/-- what is printed -/
noncomputable def prL (x : Nat) : List UInt8 := Classical.epsilon (PrintOk x)

theorem prL_eq {x : Nat} {l : List UInt8} (h : PrintOk x l) : prL x = l := printOk_unique (Classical.epsilon_spec (p := PrintOk x) ⟨l, h⟩) h

end Go.Proofs.YthdcceackfdbbabGreatDoor
