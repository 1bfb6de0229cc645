import Derived.Test.YthdcceackfdbbaaGreatDoorM00K
import Derived.Test.YthdcceackfdbbaaGreatDoorM06K
import Derived.Test.YthdcceackfdbbaaGreatDoorM07K

/- Plain mathematics: whole numbers in places of a thousand million. Own text. -/
namespace Go.Proofs.YthdcceackfdbbaaGreatDoor

def valB : List Nat → Nat
  | [] => 0
  | x :: r => x + 1000000000 * valB r

/-- Every word is below 2^32. -/
def WdsB (l : List Nat) : Prop := ∀ x ∈ l, x < 1000000000

theorem val_appendB (a b : List Nat) : valB (a ++ b) = valB a + 1000000000 ^ a.length * valB b := by
  induction a with
  | nil => simp [valB]
  | cons x r ih => simp only [List.cons_append, valB, ih, List.length_cons, Nat.pow_succ, Nat.mul_add]; rw [Nat.mul_comm (1000000000 ^ r.length) 1000000000, Nat.mul_assoc]; omega

theorem val_ltB {l : List Nat} (h : WdsB l) : valB l < 1000000000 ^ l.length := by
  induction l with
  | nil => simp [valB]
  | cons x r ih =>
    have h1 := h x (by simp)
    have h2 := ih (fun y hy => h y (by simp [hy]))
    simp only [valB, List.length_cons, Nat.pow_succ]
    have h3 : valB r + 1 ≤ 1000000000 ^ r.length := h2
    have h4 := Nat.mul_le_mul_left 1000000000 h3
    rw [Nat.mul_comm (1000000000 ^ r.length)]
    omega

theorem canon_leB {l : List Nat} (h : Canon l) (hne : l ≠ []) : 1000000000 ^ (l.length - 1) ≤ valB l := by
  obtain ⟨r, x, rfl⟩ := snoc_of_ne hne
  have hx : x ≠ 0 := h x (by simp)
  rw [val_appendB]
  simp only [valB, List.length_append, List.length_cons, List.length_nil]
  have : 1000000000 ^ r.length * 1 ≤ 1000000000 ^ r.length * (x + 1000000000 * 0) := Nat.mul_le_mul_left _ (by omega)
  simp at this ⊢
  omega

theorem canon_lenB {l : List Nat} (h : Canon l) {k : Nat} (hk : valB l < 1000000000 ^ k) : l.length ≤ k := by
  by_cases hne : l = []
  · simp [hne]
  · have h1 := canon_leB h hne
    have h2 : 1000000000 ^ (l.length - 1) < 1000000000 ^ k := Nat.lt_of_le_of_lt h1 hk
    have h3 := (Nat.pow_lt_pow_iff_right (by omega : 1 < 1000000000)).1 h2
    omega

theorem canon_zeroB {l : List Nat} (h : Canon l) (hk : valB l = 0) : l = [] := by
  by_cases hne : l = []
  · exact hne
  · have h1 := canon_leB h hne
    have : 0 < 1000000000 ^ (l.length - 1) := Nat.pow_pos (by omega)
    omega

theorem trimL_valB (l : List Nat) : valB (trimL l) = valB l := by
  refine trimL_cases (fun l => valB (trimL l) = valB l) rfl ?_ ?_ l
  · intro r x hx; rw [trimL_snoc_ne r hx]
  · intro r h; rw [trimL_snoc_zero, h, val_appendB]; simp [valB]

theorem wds_takeB {l : List Nat} (h : WdsB l) (k : Nat) : WdsB (l.take k) := fun x hx => h x (List.mem_of_mem_take hx)

theorem trimL_wdsB {l : List Nat} (h : WdsB l) : WdsB (trimL l) := by
  obtain ⟨k, _, e⟩ := trimL_prefix l
  rw [e]; exact wds_takeB h k

theorem val_snocB (l : List Nat) (x : Nat) : valB (l ++ [x]) = valB l + 1000000000 ^ l.length * x := by rw [val_appendB]; simp [valB]

theorem mulAdd_stepB {p l : List Nat} {k x cy f m y c' : Nat} (hp : k < p.length) (hx : l[k]? = some x) (ht : y + 1000000000 * c' = cy + x * f)
    (h : valB (p.take k) + 1000000000 ^ k * cy = valB (l.take k) * f + m) : valB ((p.set k y).take (k + 1)) + 1000000000 ^ (k + 1) * c' = valB (l.take (k + 1)) * f + m := by
  have hk : k < l.length := (List.getElem?_eq_some_iff.1 hx).1
  rw [set_take_succ hp, take_snoc_get hx, val_snocB, val_snocB, take_len (by omega), take_len (by omega)]
  have e : 1000000000 ^ (k + 1) * c' = 1000000000 ^ k * (1000000000 * c') := by rw [Nat.pow_succ, Nat.mul_assoc]
  have e2 : 1000000000 ^ k * (y + 1000000000 * c') = 1000000000 ^ k * (cy + x * f) := by rw [ht]
  rw [Nat.mul_add, Nat.mul_add] at e2
  rw [e, Nat.add_mul, Nat.mul_assoc (1000000000 ^ k) x f]
  omega

theorem val_take_succB {l : List Nat} {k y : Nat} (h : l[k]? = some y ∨ (l.length ≤ k ∧ y = 0)) : valB (l.take (k + 1)) = valB (l.take k) + 1000000000 ^ k * y := by
  rcases h with h | ⟨h, rfl⟩
  · rw [take_snoc_get h, val_snocB, take_len (by have := (List.getElem?_eq_some_iff.1 h).1; omega)]
  · rw [List.take_of_length_le (by omega), List.take_of_length_le h]; simp

theorem val_zerosB (n : Nat) : valB (List.replicate n 0) = 0 := by
  induction n with
  | zero => rfl
  | succ n ih => simp [List.replicate_succ, valB, ih]

theorem val_splitB {l : List Nat} {k x : Nat} (h : l[k]? = some x) : valB l = valB (l.take k) + 1000000000 ^ k * (x + 1000000000 * valB (l.drop (k + 1))) := by
  have hk := (List.getElem?_eq_some_iff.1 h).1
  have e : l = l.take k ++ x :: l.drop (k + 1) := by
    have h1 := (List.take_append_drop k l).symm
    rw [List.drop_eq_getElem_cons hk] at h1
    rw [(List.getElem?_eq_some_iff.1 h).2] at h1
    exact h1
  have := congrArg valB e
  rw [val_appendB, take_len (by omega)] at this
  simpa [valB] using this

theorem val_lt_ofB {la lb : List Nat} {k x y : Nat} (hw : WdsB la) (hx : la[k]? = some x) (hy : lb[k]? = some y) (hd : la.drop (k + 1) = lb.drop (k + 1)) (h : x < y) : valB la < valB lb := by
  rw [val_splitB hx, val_splitB hy, hd]
  have h1 := val_ltB (wds_takeB hw k)
  rw [take_len (by have := (List.getElem?_eq_some_iff.1 hx).1; omega)] at h1
  have h2 : 1000000000 ^ k * (x + 1000000000 * valB (lb.drop (k + 1)) + 1) ≤ 1000000000 ^ k * (y + 1000000000 * valB (lb.drop (k + 1))) := Nat.mul_le_mul_left _ (by omega)
  rw [Nat.mul_add _ _ 1] at h2
  omega

theorem val_lt_lenB {la lb : List Nat} (hw : WdsB la) (hc : Canon lb) (h : la.length < lb.length) : valB la < valB lb := by
  have h1 := val_ltB hw
  have h2 := canon_leB hc (by intro e; simp [e] at h)
  have h3 : 1000000000 ^ la.length ≤ 1000000000 ^ (lb.length - 1) := Nat.pow_le_pow_right (by omega) (by omega)
  omega

end Go.Proofs.YthdcceackfdbbaaGreatDoor
/- Plain mathematics: the reference's rounding. Own text. -/
namespace Go.Proofs.YthdcceackfdbbaaGreatDoor

theorem rat_of2 {a b i j : Nat} : rhe (a * 2 ^ i) (b * 2 ^ j) = rat a b ((j : Int) - i) := by
  unfold rat
  by_cases h : 0 ≤ (j : Int) - i
  · rw [if_pos h]
    have e2 : b * 2 ^ j = b * 2 ^ ((j : Int) - i).toNat * 2 ^ i := by rw [Nat.mul_assoc, ← Nat.pow_add]; congr 2; omega
    rw [e2, rhe_scale _ _ _ (Nat.pow_pos (by omega))]
  · rw [if_neg h]
    have e2 : a * 2 ^ i = a * 2 ^ (-((j : Int) - i)).toNat * 2 ^ j := by rw [Nat.mul_assoc, ← Nat.pow_add]; congr 2; omega
    rw [e2, rhe_scale _ _ _ (Nat.pow_pos (by omega))]

/-- The first guess of the power. -/
def guess (la lb : Nat) : Int := if 0 < (la : Int) - lb - 1 then 29 * ((la : Int) - lb - 1) - 54 else 30 * ((la : Int) - lb - 1) - 54

theorem guess_le {a b la lb : Nat} (ha : a ≠ 0) (hb : b ≠ 0) (h1 : 1000000000 ^ (la - 1) ≤ a) (h2 : b < 1000000000 ^ lb) (hla : 1 ≤ la) : guess la lb + 54 ≤ plog a b := by
  obtain ⟨i, j, e, k1, k2⟩ := plog_key ha hb
  rw [e]
  unfold guess
  by_cases hc : 0 < (la : Int) - lb - 1
  · rw [if_pos hc]
    have h3 : b * 2 ^ (29 * (la - lb - 1)) ≤ a * 2 ^ 0 := by
      rw [Nat.pow_zero, Nat.mul_one]
      refine Nat.le_trans (Nat.mul_le_mul (Nat.le_of_lt h2) (Nat.le_trans ?_ (Nat.le_refl (1000000000 ^ (la - lb - 1))))) ?_
      · rw [Nat.pow_mul]; exact Nat.pow_le_pow_left (by decide) _
      · rw [← Nat.pow_add, show lb + (la - lb - 1) = la - 1 from by omega]; exact h1
    have := power_unique h3 k2
    omega
  · rw [if_neg hc]
    have h3 : b * 2 ^ 0 ≤ a * 2 ^ (30 * (lb + 1 - la)) := by
      rw [Nat.pow_zero, Nat.mul_one]
      refine Nat.le_trans (Nat.le_of_lt h2) ?_
      refine Nat.le_trans ?_ (Nat.mul_le_mul h1 (Nat.le_trans (Nat.le_refl (1000000000 ^ (lb + 1 - la))) ?_))
      · rw [← Nat.pow_add, show la - 1 + (lb + 1 - la) = lb from by omega]; exact Nat.le_refl _
      · rw [Nat.pow_mul]; exact Nat.pow_le_pow_left (by decide) _
    have := power_unique h3 k2
    omega

/-- While the quotient is not below 2^53 the power may rise. -/
theorem round_more {a b i j : Nat} (ha : a ≠ 0) (hb : b ≠ 0) (h : b * 2 ^ j * 9007199254740992 ≤ a * 2 ^ i) : (j : Int) - i + 53 ≤ plog a b := by
  obtain ⟨i0, j0, e, k1, k2⟩ := plog_key ha hb
  have h3 : b * 2 ^ (j + 53) ≤ a * 2 ^ i := by
    rw [Nat.pow_add, ← Nat.mul_assoc]; exact h
  have := power_unique h3 k2
  omega

theorem round_stop {a b i j : Nat} (ha : a ≠ 0) (hb : b ≠ 0) (h : a * 2 ^ i < b * 2 ^ j * 9007199254740992) : plog a b ≤ (j : Int) - i + 52 := by
  obtain ⟨i0, j0, e, k1, k2⟩ := plog_key ha hb
  have h3 : a * 2 ^ i < 2 * (b * 2 ^ (j + 52)) := by
    rw [Nat.pow_add, ← Nat.mul_assoc b]; omega
  have := power_unique k1 h3
  omega

theorem round_low {a b i j : Nat} (ha : a ≠ 0) (hb : b ≠ 0) (h : (j : Int) - i + 52 ≤ plog a b) : b * 2 ^ j * 4503599627370496 ≤ a * 2 ^ i := by
  obtain ⟨i0, j0, e, k1, k2⟩ := plog_key ha hb
  by_cases hh : b * 2 ^ j * 4503599627370496 ≤ a * 2 ^ i
  · exact hh
  · exfalso
    have h3 : a * 2 ^ i < 2 * (b * 2 ^ (j + 51)) := by
      rw [Nat.pow_add, ← Nat.mul_assoc b]; omega
    have := power_unique k1 h3
    omega

theorem rhe_bounds {n d q r : Nat} (h : n = d * q + r) (hr : r < d) (h1 : n < d * 9007199254740992) : q < 9007199254740992 ∧ rhe n d ≤ 9007199254740992 ∧ q ≤ rhe n d := by
  have h2 : n / d = q := by rw [h, Nat.mul_comm, Nat.add_comm, Nat.add_mul_div_right _ _ (by omega), Nat.div_eq_of_lt hr]; omega
  have h3 : n / d < 9007199254740992 := Nat.div_lt_of_lt_mul h1
  refine ⟨by omega, ?_, ?_⟩ <;> (unfold rhe; split <;> omega)

/-- What the last lines of the reference's rounding answer. -/
def finR (m : Nat) (e : Int) : Nat :=
  if m = 9007199254740992 then (if 2047 ≤ e + 1 + 1075 then 9218868437227405312 else (e + 1 + 1075).toNat * 4503599627370496)
  else if m < 4503599627370496 then m
  else if 2047 ≤ e + 1075 then 9218868437227405312 else (e + 1075).toNat * 4503599627370496 + (m - 4503599627370496)

theorem finR_eq {a b i j : Nat} (ha : a ≠ 0) (hb : b ≠ 0) (he1 : -1074 ≤ (j : Int) - i) (hstop : plog a b ≤ (j : Int) - i + 52) (hlow : (j : Int) - i = -1074 ∨ (j : Int) - i + 52 ≤ plog a b) :
    finR (rhe (a * 2 ^ i) (b * 2 ^ j)) ((j : Int) - i) = rnd a b := by
  have hrat := rat_of2 (a := a) (b := b) (i := i) (j := j)
  have hm : rhe (a * 2 ^ i) (b * 2 ^ j) ≤ 9007199254740992 := by
    refine rhe_le ?_
    by_cases hh : a * 2 ^ i < b * 2 ^ j * 9007199254740992
    · exact hh
    · have := round_more ha hb (by omega : b * 2 ^ j * 9007199254740992 ≤ a * 2 ^ i); omega
  have hE : eOf (plog a b) = (j : Int) - i := by unfold eOf; split <;> omega
  have hml : (j : Int) - i ≠ -1074 → 4503599627370496 ≤ rhe (a * 2 ^ i) (b * 2 ^ j) := by
    intro hne
    have h1 := round_low ha hb (by omega : (j : Int) - i + 52 ≤ plog a b)
    have hpos : 0 < b * 2 ^ j := Nat.mul_pos (by omega) (Nat.pow_pos (by omega))
    have h2 : 4503599627370496 ≤ a * 2 ^ i / (b * 2 ^ j) := (Nat.le_div_iff_mul_le hpos).2 (by rw [Nat.mul_comm]; exact h1)
    unfold rhe; split <;> omega
  unfold rnd
  rw [hE, ← hrat]
  generalize rhe (a * 2 ^ i) (b * 2 ^ j) = m at *
  unfold finR
  by_cases c1 : 1023 < plog a b
  · rw [if_pos c1]
    split
    · rw [if_pos (by omega)]
    · split
      · omega
      · rw [if_pos (by omega)]
  · rw [if_neg c1]
    split
    · rename_i h1
      subst h1
      split
      · omega
      · omega
    · split
      · have : (j : Int) - i = -1074 := by
          by_cases hx : (j : Int) - i = -1074
          · exact hx
          · have := hml hx; omega
        rw [this]; simp
      · rw [if_neg (by omega)]; omega

end Go.Proofs.YthdcceackfdbbaaGreatDoor
/- A fraction is rounded to a size exactly where it lies in the size's interval. Own text. -/
namespace Go.Proofs.YthdcceackfdbbaaGreatDoor
open Go.RowKit

theorem inS_iff {d r : Nat} {ev : Bool} : inS d r ev = true ↔ d < r ∨ (d = r ∧ ev = true) := by
  unfold inS; simp

/-- X in quarters of a step: in the interval of m steps? -/
def InI (X Q m : Nat) (nb ev : Bool) : Prop :=
  (X ≤ 4 * Q * m ∧ inS (4 * Q * m - X) (if nb then Q else 2 * Q) ev = true) ∨ (4 * Q * m ≤ X ∧ inS (X - 4 * Q * m) (2 * Q) ev = true)

theorem plog_lo {a b k K : Nat} (ha : a ≠ 0) (hb : b ≠ 0) (h : (k : Int) - K ≤ plog a b) : b * 2 ^ k ≤ a * 2 ^ K := by
  obtain ⟨i, j, e, h1, _⟩ := plog_key ha hb
  rw [e] at h
  have hk : k + i ≤ j + K := by omega
  have q1 : b * 2 ^ k * 2 ^ i ≤ b * 2 ^ j * 2 ^ K := by
    rw [Nat.mul_assoc, Nat.mul_assoc, ← Nat.pow_add, ← Nat.pow_add]
    exact Nat.mul_le_mul_left _ (Nat.pow_le_pow_right (by omega) hk)
  have q2 : b * 2 ^ j * 2 ^ K ≤ a * 2 ^ K * 2 ^ i := by
    rw [Nat.mul_right_comm a]; exact Nat.mul_le_mul_right _ h1
  exact Nat.le_of_mul_le_mul_right (Nat.le_trans q1 q2) (Nat.pow_pos (by omega))

theorem plog_hi {a b k K : Nat} (ha : a ≠ 0) (hb : b ≠ 0) (h : plog a b ≤ (k : Int) - K) : a * 2 ^ K < 2 * (b * 2 ^ k) := by
  obtain ⟨i, j, e, _, h2⟩ := plog_key ha hb
  rw [e] at h
  have hk : j + K ≤ k + i := by omega
  have q1 : a * 2 ^ K * 2 ^ i < 2 * (b * 2 ^ j) * 2 ^ K := by
    rw [Nat.mul_right_comm a]; exact Nat.mul_lt_mul_of_pos_right h2 (Nat.pow_pos (by omega))
  have q2 : 2 * (b * 2 ^ j) * 2 ^ K ≤ 2 * (b * 2 ^ k) * 2 ^ i := by
    rw [Nat.mul_assoc, Nat.mul_assoc, Nat.mul_assoc, Nat.mul_assoc, ← Nat.pow_add, ← Nat.pow_add]
    exact Nat.mul_le_mul_left _ (Nat.mul_le_mul_left _ (Nat.pow_le_pow_right (by omega) hk))
  exact Nat.lt_of_mul_lt_mul_right (Nat.lt_of_lt_of_le q1 q2)

theorem rnd_form {a b K : Nat} (ha : a ≠ 0) (hb : b ≠ 0) (hK : K = 1076) : ∃ n : Nat, (n = 0 ∨ 4 * (b * 2 ^ n) * 4503599627370496 ≤ a * 2 ^ K) ∧ a * 2 ^ K < 4 * (b * 2 ^ n) * 9007199254740992 ∧
    rnd a b = if 2045 < n then 9218868437227405312 else n * 4503599627370496 + rhe (a * 2 ^ K) (4 * (b * 2 ^ n)) := by
  have hsplit : ∀ n : Nat, b * 2 ^ (n + 54) = 4 * (b * 2 ^ n) * 4503599627370496 := by
    intro n; rw [Nat.pow_add]; rw [← Nat.mul_assoc]; omega
  have hq : ∀ n : Nat, (n : Int) + 2 - K = (n : Int) - 1074 := by intro n; omega
  have hrat : ∀ n : Nat, rhe (a * 2 ^ K) (4 * (b * 2 ^ n)) = rat a b ((n : Int) - 1074) := by
    intro n
    rw [show 4 * (b * 2 ^ n) = b * 2 ^ (n + 2) by rw [Nat.pow_add, ← Nat.mul_assoc b]; omega, rat_of2, ← hq n]
    congr 1
  unfold rnd
  generalize hp : plog a b = p
  by_cases h1 : p < -1022
  · refine ⟨0, .inl rfl, ?_, ?_⟩
    · have := plog_hi (k := 54) (K := K) ha hb (by omega)
      have e := hsplit 0
      simp only [Nat.zero_add] at e
      omega
    · rw [if_neg (by omega), if_neg (by omega), hrat]
      unfold eOf
      rw [if_pos h1]
      simp
  · obtain ⟨n, hn⟩ : ∃ n : Nat, p = (n : Int) - 1022 := ⟨(p + 1022).toNat, by omega⟩
    refine ⟨n, .inr ?_, ?_, ?_⟩
    · have := plog_lo (k := n + 54) (K := K) ha hb (by omega)
      rw [hsplit] at this
      exact this
    · have := plog_hi (k := n + 54) (K := K) ha hb (by omega)
      rw [hsplit] at this
      omega
    · by_cases h2 : 1023 < p
      · rw [if_pos h2, if_pos (by omega)]
      · rw [if_neg h2, if_neg (by omega), hrat]
        unfold eOf
        rw [if_neg h1, hn]
        rw [show (n : Int) - 1022 - 52 = (n : Int) - 1074 by omega, show ((n : Int) - 1074 + 1074).toNat = n by omega]

/-- What rounding to the nearest whole number says. -/
theorem rhe_spec {X D : Nat} (hD : D ≠ 0) : (X = D * rhe X D + X % D ∧ (2 * (X % D) < D ∨ (2 * (X % D) = D ∧ rhe X D % 2 = 0))) ∨ (X + (D - X % D) = D * rhe X D ∧ (D < 2 * (X % D) ∨ (2 * (X % D) = D ∧ rhe X D % 2 = 0))) := by
  have h1 := Nat.div_add_mod X D
  have h2 := Nat.mod_lt X (Nat.pos_of_ne_zero hD)
  unfold rhe
  generalize X / D = q at *
  generalize X % D = r at *
  split
  · rename_i h
    right
    refine ⟨by rw [Nat.mul_add]; omega, ?_⟩
    rcases h with h | ⟨h, h'⟩
    · exact .inl h
    · exact .inr ⟨h, by omega⟩
  · rename_i h
    left
    refine ⟨by omega, ?_⟩
    by_cases hh : 2 * r < D
    · exact .inl hh
    · right; exact ⟨by omega, by omega⟩

theorem rhe_in {X Q m : Nat} {nb ev : Bool} (hQ : Q ≠ 0) (hev : ev = decide (m % 2 = 0)) (h : InI X Q m nb ev) : rhe X (4 * Q) = m := by
  rcases h with ⟨h1, h2⟩ | ⟨h1, h2⟩
  · rw [inS_iff] at h2
    by_cases h0 : X = 4 * Q * m
    · rw [rhe_of (q := m) (r := 0) (by omega) (by omega), if_neg (by omega)]
    · have hm : m ≠ 0 := by intro h'; subst h'; omega
      obtain ⟨k, rfl⟩ : ∃ k, m = k + 1 := ⟨m - 1, by omega⟩
      have e : 4 * Q * (k + 1) = 4 * Q * k + 4 * Q := by rw [Nat.mul_add]; omega
      rw [e] at h1 h2 h0
      have hb : (if nb = true then Q else 2 * Q) ≤ 2 * Q := by split <;> omega
      have hb2 : 4 * Q * k + 4 * Q - X ≤ 2 * Q := by rcases h2 with h2 | h2 <;> omega
      have hb3 : (if nb = true then Q else 2 * Q) < 2 * Q ∨ (if nb = true then Q else 2 * Q) = 2 * Q := by omega
      rw [rhe_of (q := k) (r := X - 4 * Q * k) (by omega) (by omega)]
      rw [if_pos]
      by_cases hh : 4 * Q < 2 * (X - 4 * Q * k)
      · exact .inl hh
      · right
        refine ⟨by omega, ?_⟩
        rcases h2 with h2 | ⟨h2, h3⟩
        · omega
        · rw [hev] at h3
          simp at h3
          omega
  · rw [inS_iff] at h2
    have hb2 : X - 4 * Q * m ≤ 2 * Q := by rcases h2 with h2 | h2 <;> omega
    rw [rhe_of (q := m) (r := X - 4 * Q * m) (by omega) (by omega)]
    rw [if_neg]
    intro hh
    rcases hh with hh | ⟨hh, hh'⟩
    · omega
    · rcases h2 with h2 | ⟨h2, h3⟩
      · omega
      · rw [hev] at h3
        simp at h3
        omega

theorem pow_le_double {b n k : Nat} (h : n < k) : 2 * (b * 2 ^ n) ≤ b * 2 ^ k := by
  obtain ⟨i, rfl⟩ : ∃ i, k = n + 1 + i := ⟨k - (n + 1), by omega⟩
  rw [Nat.pow_add, Nat.pow_succ]
  have : 1 ≤ 2 ^ i := Nat.pow_pos (by omega)
  have := Nat.mul_le_mul_left (b * (2 ^ n * 2)) this
  rw [← Nat.mul_assoc b, ← Nat.mul_assoc b] at *
  omega

theorem in_rnd {a b n m K : Nat} {nb ev : Bool} (ha : a ≠ 0) (hb : b ≠ 0) (hK : K = 1076) (hn : n ≤ 2045) (hm : m < 9007199254740992) (hnm : n = 0 ∨ 4503599627370496 ≤ m) (hnb : nb = decide (m = 4503599627370496 ∧ 1 ≤ n)) (hev : ev = decide (m % 2 = 0))
    (h : InI (a * 2 ^ K) (b * 2 ^ n) m nb ev) : rnd a b = n * 4503599627370496 + m := by
  obtain ⟨k, f1, f2, f3⟩ := rnd_form ha hb hK
  rw [f3]
  clear f3
  generalize a * 2 ^ K = X at *
  have hQ : b * 2 ^ n ≠ 0 := Nat.mul_ne_zero hb (Nat.ne_of_gt (Nat.pow_pos (by omega)))
  have hQk : b * 2 ^ k ≠ 0 := Nat.mul_ne_zero hb (Nat.ne_of_gt (Nat.pow_pos (by omega)))
  have hX1 : X ≤ 4 * (b * 2 ^ n) * m + 2 * (b * 2 ^ n) := by
    rcases h with ⟨h1, _⟩ | ⟨h1, h2⟩
    · omega
    · rw [inS_iff] at h2; rcases h2 with h2 | h2 <;> omega
  rcases Nat.lt_trichotomy n k with hlt | hlt | hlt
  · exfalso
    have hd := pow_le_double (b := b) hlt
    have e := Nat.mul_le_mul_left (4 * (b * 2 ^ n)) (show m ≤ 9007199254740991 by omega)
    omega
  · subst hlt
    rw [if_neg (by omega), rhe_in hQ hev h]
  · have hd := pow_le_double (b := b) hlt
    have hm52 : 4503599627370496 ≤ m := by omega
    by_cases hme : m = 4503599627370496
    · have hnbt : nb = true := by rw [hnb]; simp; omega
      rw [hnbt] at h
      have hX2 : 4 * (b * 2 ^ n) * m ≤ X + b * 2 ^ n := by
        rcases h with ⟨h1, h2⟩ | ⟨h1, h2⟩
        · rw [inS_iff, if_pos rfl] at h2; rcases h2 with h2 | h2 <;> omega
        · omega
      rw [hme] at hX2
      by_cases hk1 : n = k + 1
      · have e2 : b * 2 ^ n = 2 * (b * 2 ^ k) := by rw [hk1, Nat.pow_succ, ← Nat.mul_assoc]; omega
        rw [e2] at hX2
        rw [if_neg (by omega), rhe_of (q := 9007199254740991) (r := X - 4 * (b * 2 ^ k) * 9007199254740991) (by omega) (by omega), if_pos]
        · omega
        · by_cases hh : 4 * (b * 2 ^ k) < 2 * (X - 4 * (b * 2 ^ k) * 9007199254740991)
          · exact .inl hh
          · right; exact ⟨by omega, by decide⟩
      · exfalso
        have hd2 := pow_le_double (b := b) (show k < k + 1 by omega)
        have hd3 := pow_le_double (b := b) (show k + 1 < n by omega)
        omega
    · exfalso
      have e := Nat.mul_le_mul_left (4 * (b * 2 ^ n)) (show 4503599627370497 ≤ m by omega)
      have hb' : (if nb = true then b * 2 ^ n else 2 * (b * 2 ^ n)) ≤ 2 * (b * 2 ^ n) := by split <;> omega
      rcases h with ⟨h1, h2⟩ | ⟨h1, h2⟩
      · rw [inS_iff] at h2; rcases h2 with h2 | h2 <;> omega
      · omega

theorem rnd_in {a b n m K : Nat} {nb ev : Bool} (ha : a ≠ 0) (hb : b ≠ 0) (hK : K = 1076) (hn : n ≤ 2045) (hm : m < 9007199254740992) (hnm : n = 0 ∨ 4503599627370496 ≤ m) (hnb : nb = decide (m = 4503599627370496 ∧ 1 ≤ n)) (hev : ev = decide (m % 2 = 0))
    (h : rnd a b = n * 4503599627370496 + m) : InI (a * 2 ^ K) (b * 2 ^ n) m nb ev := by
  obtain ⟨k, f1, f2, f3⟩ := rnd_form ha hb hK
  rw [f3] at h
  clear f3
  generalize a * 2 ^ K = X at *
  have hQ : b * 2 ^ n ≠ 0 := Nat.mul_ne_zero hb (Nat.ne_of_gt (Nat.pow_pos (by omega)))
  have hQk : b * 2 ^ k ≠ 0 := Nat.mul_ne_zero hb (Nat.ne_of_gt (Nat.pow_pos (by omega)))
  by_cases hk : 2045 < k
  · rw [if_pos hk] at h; exfalso; omega
  · rw [if_neg hk] at h
    have hs := rhe_spec (X := X) (D := 4 * (b * 2 ^ k)) (by omega)
    have hmod := Nat.mod_lt X (show 0 < 4 * (b * 2 ^ k) by omega)
    have hr53 : rhe X (4 * (b * 2 ^ k)) ≤ 9007199254740992 := rhe_le f2
    have hr52 : k = 0 ∨ 4503599627370496 ≤ rhe X (4 * (b * 2 ^ k)) := by
      rcases f1 with f1 | f1
      · exact .inl f1
      · right
        rcases Nat.lt_or_ge (rhe X (4 * (b * 2 ^ k))) 4503599627370496 with h' | h'
        · exfalso
          have e := Nat.mul_le_mul_left (4 * (b * 2 ^ k)) (show rhe X (4 * (b * 2 ^ k)) ≤ 4503599627370495 by omega)
          omega
        · exact h'
    generalize rhe X (4 * (b * 2 ^ k)) = r at *
    rcases (show (k = n ∧ r = m) ∨ (n = k + 1 ∧ r = 9007199254740992 ∧ m = 4503599627370496) by omega) with ⟨rfl, rfl⟩ | ⟨rfl, rfl, rfl⟩
    · rcases hs with ⟨h1, h2⟩ | ⟨h1, h2⟩
      · right
        refine ⟨by omega, ?_⟩
        rw [inS_iff]
        rcases h2 with h2 | ⟨h2, h3⟩
        · left; omega
        · right; exact ⟨by omega, by rw [hev]; simpa using h3⟩
      · left
        have hnbf : nb = false := by
          rw [hnb, decide_eq_false]
          rintro ⟨g1, g2⟩
          rw [g1] at h1
          omega
        rw [hnbf]
        refine ⟨by omega, ?_⟩
        rw [inS_iff]
        simp only [Bool.false_eq_true, if_false]
        rcases h2 with h2 | ⟨h2, h3⟩
        · left; omega
        · right; exact ⟨by omega, by rw [hev]; simpa using h3⟩
    · have e2 : b * 2 ^ (k + 1) = 2 * (b * 2 ^ k) := by rw [Nat.pow_succ, ← Nat.mul_assoc]; omega
      rw [e2]
      have hnbt : nb = true := by rw [hnb]; simp
      have hevt : ev = true := by rw [hev]; rfl
      rw [hnbt, hevt]
      left
      rcases hs with ⟨h1, h2⟩ | ⟨h1, h2⟩
      · exfalso; omega
      · refine ⟨by omega, ?_⟩
        rw [inS_iff]
        simp only [if_true, and_true]
        omega

end Go.Proofs.YthdcceackfdbbaaGreatDoor
/- Decimals and the interval of a size. Own text. -/
namespace Go.Proofs.YthdcceackfdbbaaGreatDoor
open Go.RowKit

/-- u lies about v, no farther than B below and A above. -/
def InW (u v B A : Nat) (ev : Bool) : Prop := (u ≤ v ∧ inS (v - u) B ev = true) ∨ (v ≤ u ∧ inS (u - v) A ev = true)

theorem inS_scale {d r c : Nat} {ev : Bool} (hc : 0 < c) : inS (d * c) (r * c) ev = inS d r ev := by
  have h1 : d * c < r * c ↔ d < r := ⟨fun h => Nat.lt_of_mul_lt_mul_right h, fun h => Nat.mul_lt_mul_of_pos_right h hc⟩
  have h2 : d * c = r * c ↔ d = r := ⟨fun h => Nat.eq_of_mul_eq_mul_right hc h, fun h => by rw [h]⟩
  unfold inS
  simp only [h1, h2]

theorem InW.scale {u v B A c : Nat} {ev : Bool} (hc : 0 < c) : InW (u * c) (v * c) (B * c) (A * c) ev ↔ InW u v B A ev := by
  have h1 : ∀ x y : Nat, x * c ≤ y * c ↔ x ≤ y := fun x y => ⟨fun h => Nat.le_of_mul_le_mul_right h hc, fun h => Nat.mul_le_mul_right c h⟩
  unfold InW
  rw [h1, h1, ← Nat.sub_mul, ← Nat.sub_mul, inS_scale hc, inS_scale hc]

def nS (s : Nat) : Nat := (eS s + 1074).toNat

theorem size_eq {s : Nat} (h : s < 9218868437227405312) : s = nS s * 4503599627370496 + mS s ∧ nS s ≤ 2045 ∧ (nS s = 0 ∨ 4503599627370496 ≤ mS s) ∧ nbS s = decide (mS s = 4503599627370496 ∧ 1 ≤ nS s) ∧ decide (s % 2 = 0) = decide (mS s % 2 = 0) := by
  unfold nS eS mS nbS
  by_cases h0 : s / 4503599627370496 = 0
  · simp only [h0, if_true]
    refine ⟨by omega, by omega, .inl (by omega), ?_, ?_⟩
    · by_cases h1 : s % 4503599627370496 = 0 <;> simp <;> omega
    · rw [show s % 4503599627370496 % 2 = s % 2 by omega]
  · simp only [h0, if_false]
    refine ⟨by omega, by omega, .inr (by omega), ?_, ?_⟩
    · by_cases h1 : s % 4503599627370496 = 0
      · by_cases h2 : 1 < s / 4503599627370496
        · rw [decide_eq_true h1, decide_eq_true h2, decide_eq_true]
          · rfl
          · omega
        · rw [decide_eq_true h1, decide_eq_false h2, decide_eq_false]
          · rfl
          · omega
      · rw [decide_eq_false h1, Bool.false_and, decide_eq_false]; omega
    · congr 1; apply propext; constructor <;> intro h <;> omega

def InV (a b s : Nat) : Prop := InW (a * oneS s) (b * sizeS s) (b * belowS s) (b * aboveS s) (decide (s % 2 = 0))

theorem InV_iff {a b s K : Nat} (h : s < 9218868437227405312) (hK : K = 1076) : InV a b s ↔ InI (a * 2 ^ K) (b * 2 ^ nS s) (mS s) (nbS s) (decide (mS s % 2 = 0)) := by
  obtain ⟨e1, e2⟩ := eS_bd h
  have hc : 0 < 2 ^ (1074 - (-eS s).toNat) := Nat.pow_pos (by omega)
  have k1 : oneS s * 2 ^ (1074 - (-eS s).toNat) = 2 ^ K := by
    unfold oneS
    rw [show (4 : Nat) = 2 ^ 2 from rfl, ← Nat.pow_add, ← Nat.pow_add]
    congr 1
    omega
  have k2 : qS s * 2 ^ (1074 - (-eS s).toNat) = 2 ^ nS s := by
    unfold qS nS
    rw [← Nat.pow_add]
    congr 1
    omega
  unfold InV
  rw [← InW.scale hc, (size_eq h).2.2.2.2]
  have q1 : a * oneS s * 2 ^ (1074 - (-eS s).toNat) = a * 2 ^ K := by rw [Nat.mul_assoc, k1]
  have q2 : b * sizeS s * 2 ^ (1074 - (-eS s).toNat) = 4 * (b * 2 ^ nS s) * mS s := by
    unfold sizeS
    rw [← k2]
    ac_rfl
  have q3 : b * belowS s * 2 ^ (1074 - (-eS s).toNat) = if nbS s then b * 2 ^ nS s else 2 * (b * 2 ^ nS s) := by
    unfold belowS
    rw [← k2]
    split <;> ac_rfl
  have q4 : b * aboveS s * 2 ^ (1074 - (-eS s).toNat) = 2 * (b * 2 ^ nS s) := by
    unfold aboveS
    rw [← k2]
    ac_rfl
  rw [q1, q2, q3, q4]
  rfl

theorem rnd_iff {a b s : Nat} (ha : a ≠ 0) (hb : b ≠ 0) (h : s < 9218868437227405312) : rnd a b = s ↔ InV a b s := by
  obtain ⟨K, hK⟩ : ∃ K : Nat, K = 1076 := ⟨_, rfl⟩
  rw [InV_iff h hK]
  obtain ⟨h1, h2, h3, h4, h5⟩ := size_eq h
  have hm := mS_lt s
  constructor
  · intro hr
    exact rnd_in ha hb hK h2 hm h3 h4 rfl (hr.trans h1)
  · intro hi
    exact (in_rnd ha hb hK h2 hm h3 h4 rfl hi).trans h1.symm

/-- Is the decimal D times 10 to the k in the interval of s? -/
def InD (D : Nat) (k : Int) (s : Nat) : Prop := InV (D * 10 ^ k.toNat) (10 ^ (-k).toNat) s

theorem decRnd_eq {D : Nat} {k : Int} (h : D ≠ 0) : decRnd D k = rnd (D * 10 ^ k.toNat) (10 ^ (-k).toNat) := by
  unfold decRnd
  rw [if_neg h]
  by_cases hk : 0 ≤ k
  · rw [if_pos hk, show (-k).toNat = 0 by omega]
  · rw [if_neg hk, show k.toNat = 0 by omega, Nat.pow_zero, Nat.mul_one]

theorem decRnd_iff {D : Nat} {k : Int} {s : Nat} (hD : D ≠ 0) (h : s < 9218868437227405312) : decRnd D k = s ↔ InD D k s := by
  rw [decRnd_eq hD]
  exact rnd_iff (Nat.mul_ne_zero hD (Nat.ne_of_gt (ten_pow_pos _))) (Nat.ne_of_gt (ten_pow_pos _)) h

theorem InD_iff {D a b : Nat} {k : Int} {s : Nat} (hk : (b : Int) - a = k) : InD D k s ↔ InW (D * (oneS s * 10 ^ b)) (sizeS s * 10 ^ a) (belowS s * 10 ^ a) (aboveS s * 10 ^ a) (decide (s % 2 = 0)) := by
  obtain ⟨t, h1, h2⟩ : ∃ t : Nat, b = k.toNat + t ∧ a = (-k).toNat + t := ⟨b - k.toNat, by omega, by omega⟩
  unfold InD InV
  rw [← InW.scale (ten_pow_pos t), h1, h2, Nat.pow_add, Nat.pow_add]
  have q1 : D * 10 ^ k.toNat * oneS s * 10 ^ t = D * (oneS s * (10 ^ k.toNat * 10 ^ t)) := by ac_rfl
  have q2 : ∀ x, 10 ^ (-k).toNat * x * 10 ^ t = x * (10 ^ (-k).toNat * 10 ^ t) := fun x => by ac_rfl
  rw [q1, q2, q2, q2]

theorem InD_shift {D z : Nat} {k : Int} {s : Nat} : InD (D * 10 ^ z) k s ↔ InD D (k + z) s := by
  obtain ⟨a, b, hab⟩ : ∃ a b : Nat, (b : Int) - a = k + z := ⟨(-(k + z)).toNat, (k + z).toNat, by omega⟩
  rw [InD_iff hab, InD_iff (a := a + z) (b := b) (k := k) (by omega)]
  have q1 : D * 10 ^ z * (oneS s * 10 ^ b) = D * (oneS s * 10 ^ b) * 10 ^ z := by ac_rfl
  have q2 : ∀ x, x * 10 ^ (a + z) = x * 10 ^ a * 10 ^ z := fun x => by rw [Nat.pow_add]; ac_rfl
  rw [q1, q2, q2, q2]
  exact InW.scale (ten_pow_pos z)

/-- What a step tells of the two next to the size. -/
theorem pick_facts {N B A D : Nat} {ev : Bool} (hD : D ≠ 0) : (InW (N / D * D) N B A ev ↔ inS (N % D) B ev = true ∨ N % D = 0 ∧ inS 0 A ev = true) ∧ (InW ((N / D + 1) * D) N B A ev ↔ inS (D - N % D) A ev = true) := by
  have h1 := Nat.div_add_mod N D
  have h2 := Nat.mod_lt N (Nat.pos_of_ne_zero hD)
  have e : N / D * D + N % D = N := by rw [Nat.mul_comm]; exact h1
  have e2 : (N / D + 1) * D = N / D * D + D := by rw [Nat.add_mul]; omega
  rw [e2]
  generalize N / D * D = u at *
  generalize N % D = r at *
  subst e
  unfold InW
  constructor
  · rw [show u + r - u = r by omega]
    constructor
    · rintro (⟨_, h⟩ | ⟨h, h'⟩)
      · exact .inl h
      · right
        have : r = 0 := by omega
        subst this
        exact ⟨rfl, by simpa using h'⟩
    · rintro (h | ⟨h, h'⟩)
      · exact .inl ⟨by omega, h⟩
      · right; subst h; exact ⟨by omega, by simpa using h'⟩
  · rw [show u + D - (u + r) = D - r by omega]
    constructor
    · rintro (⟨h, _⟩ | ⟨_, h⟩)
      · omega
      · exact h
    · intro h; exact .inr ⟨by omega, h⟩

theorem below_pos (s : Nat) : 0 < belowS s := by
  unfold belowS qS
  have : 0 < 2 ^ (eS s).toNat := Nat.pow_pos (by omega)
  split <;> omega

theorem pick_in {N B A D d : Nat} {ev : Bool} (hD : D ≠ 0) (h : pickO N B A D ev = some d) : InW (d * D) N B A ev := by
  obtain ⟨f1, f2⟩ := pick_facts (N := N) (B := B) (A := A) (ev := ev) hD
  unfold pickO at h
  have hn := nearS_le (N / D) (N % D) (D - N % D)
  split at h
  · rename_i hh
    simp at hh
    simp at h
    rcases (show nearS (N / D) (N % D) (D - N % D) = 0 ∨ nearS (N / D) (N % D) (D - N % D) = 1 by omega) with h0 | h0
    · rw [h0] at h; subst h; exact f1.2 (.inl hh.1)
    · rw [h0] at h; subst h; exact f2.2 hh.2
  · split at h
    · rename_i _ hh; simp at h; subst h; exact f1.2 (.inl hh)
    · split at h
      · rename_i _ _ hh; simp at h; subst h; exact f2.2 hh
      · simp at h

theorem pick_out {N B A D : Nat} {ev : Bool} (hD : D ≠ 0) (hB : 0 < B) (h : pickO N B A D ev = none) : ¬ InW (N / D * D) N B A ev ∧ ¬ InW ((N / D + 1) * D) N B A ev := by
  obtain ⟨f1, f2⟩ := pick_facts (N := N) (B := B) (A := A) (ev := ev) hD
  unfold pickO at h
  cases hl : inS (N % D) B ev <;> cases hu : inS (D - N % D) A ev <;> rw [hl, hu] at h
  · rw [f1, f2, hl, hu]
    refine ⟨?_, by simp⟩
    rintro (h' | ⟨h', _⟩)
    · simp at h'
    · rw [h'] at hl
      unfold inS at hl
      simp at hl
      omega
  · simp at h
  · simp at h
  · simp at h

theorem ShortAt.inD {s d : Nat} {p : Int} (h : ShortAt s d p) : InD d p s := by
  obtain ⟨a, b, j, h1, h2, h3, rfl, h4, h5, h6, _⟩ := h
  have hD : oneS s * 10 ^ b ≠ 0 := Nat.mul_ne_zero (one_ne s) (Nat.ne_of_gt (ten_pow_pos b))
  have := pick_in hD h6
  have q2 : ∀ x, x * 10 ^ (a + j) = x * 10 ^ a * 10 ^ j := fun x => by rw [Nat.pow_add]; ac_rfl
  rw [InD_iff (a := a + j) (b := b) (by omega), q2, q2, q2]
  exact this

end Go.Proofs.YthdcceackfdbbaaGreatDoor
