import Derived.Test.YthdcceackfdbbaaGreatDoorM08W
import Derived.Test.YthdcceackfdbbaaGreatDoorM05W
import Derived.Test.YthdcceackfdbbaaGreatDoorM07W
import Derived.Lib.ItoaNum
/- Plain mathematics: decimals. Own text. -/
namespace Go.Proofs.YthdcceackfdbbaaGreatDoor

theorem plog_key {a b : Nat} (ha : a ≠ 0) (hb : b ≠ 0) : ∃ i' j' : Nat, plog a b = (j' : Int) - i' ∧ b * 2 ^ j' ≤ a * 2 ^ i' ∧ a * 2 ^ i' < 2 * (b * 2 ^ j') := by
  unfold plog
  by_cases hk : 0 ≤ (bl a : Int) - bl b
  · rw [if_pos hk]
    obtain ⟨n1, n2⟩ := norm_ge ha hb (by omega)
    have et : ((bl a : Int) - bl b).toNat = bl a - bl b := by omega
    rw [et]
    by_cases hc : a < b * 2 ^ (bl a - bl b)
    · rw [if_pos hc]; exact ⟨1, bl a - bl b, by omega, by omega, by omega⟩
    · rw [if_neg hc]; exact ⟨0, bl a - bl b, by omega, by omega, by omega⟩
  · rw [if_neg hk]
    obtain ⟨n1, n2⟩ := norm_ge hb ha (by omega)
    have et : (-((bl a : Int) - bl b)).toNat = bl b - bl a := by omega
    rw [et]
    by_cases hc : a * 2 ^ (bl b - bl a) < b
    · rw [if_pos hc]
      refine ⟨bl b - bl a + 1, 0, by omega, ?_, ?_⟩
      · rw [Nat.pow_succ, ← Nat.mul_assoc]; omega
      · rw [Nat.pow_succ, ← Nat.mul_assoc]; omega
    · rw [if_neg hc]; exact ⟨bl b - bl a, 0, by omega, by omega, by omega⟩

theorem rnd_big {a b n : Nat} (ha : a ≠ 0) (hb : b ≠ 0) (hn : 1024 ≤ n) (h : b * 2 ^ n ≤ a) : rnd a b = 9218868437227405312 := by
  obtain ⟨i, j, e, h1, h2⟩ := plog_key ha hb
  have := power_unique (i := 0) (j := n) (by simpa using h) h2
  unfold rnd
  rw [if_pos (by omega)]

theorem rnd_tiny {a b n : Nat} (ha : a ≠ 0) (hb : b ≠ 0) (hn : 1076 ≤ n) (h : a * 2 ^ n < b) : rnd a b = 0 := by
  obtain ⟨i, j, e, h1, h2⟩ := plog_key ha hb
  have := power_unique (i' := n + 1) (j' := 0) h1 (by rw [Nat.pow_succ, ← Nat.mul_assoc]; omega)
  exact rnd_low ha hb h1 h2 (by omega)

/-- The number that digits tell. -/
def dval (l : List UInt8) : Nat := l.foldl (fun n c => n * 10 + (c.toNat - 48)) 0

def isDig (c : UInt8) : Bool := 48 ≤ c.toNat && c.toNat ≤ 57

def Digs (l : List UInt8) : Prop := ∀ c ∈ l, isDig c = true

theorem dval_snoc (l : List UInt8) (c : UInt8) : dval (l ++ [c]) = dval l * 10 + (c.toNat - 48) := by simp [dval]

theorem isDig_bd {c : UInt8} (h : isDig c = true) : 48 ≤ c.toNat ∧ c.toNat ≤ 57 := by simpa [isDig] using h

theorem digs_snoc {l : List UInt8} {c : UInt8} (h : Digs (l ++ [c])) : Digs l ∧ isDig c = true := ⟨fun x hx => h x (by simp [hx]), h c (by simp)⟩

theorem list_snoc_ind {α : Type} {P : List α → Prop} (h0 : P []) (h1 : ∀ l x, P l → P (l ++ [x])) (l : List α) : P l := by
  generalize hn : l.length = n
  induction n generalizing l with
  | zero => rw [List.length_eq_zero_iff.1 hn]; exact h0
  | succ n ih =>
    have hne : l ≠ [] := by intro e; simp [e] at hn
    rw [← List.dropLast_concat_getLast hne]
    exact h1 _ _ (ih _ (by simp; omega))

theorem dval_lt {l : List UInt8} (h : Digs l) : dval l < 10 ^ l.length := by
  induction l using list_snoc_ind with
  | h0 => simp [dval]
  | h1 l c ih =>
    obtain ⟨h1, h2⟩ := digs_snoc h
    have := ih h1
    have := isDig_bd h2
    rw [dval_snoc, List.length_append, List.length_singleton, Nat.pow_succ]
    omega

theorem dval_ge {l : List UInt8} (h : Digs l) {c : UInt8} {r : List UInt8} (hl : l = c :: r) (hc : c.toNat ≠ 48) : 10 ^ (l.length - 1) ≤ dval l := by
  subst hl
  have hcd := isDig_bd (h c (by simp))
  have key : ∀ r : List UInt8, 10 ^ r.length ≤ dval (c :: r) := by
    intro r
    induction r using list_snoc_ind with
    | h0 => simp [dval]; omega
    | h1 r d ih => rw [← List.cons_append, dval_snoc, List.length_append, List.length_singleton, Nat.pow_succ]; omega
  simpa using key r

/-- Digits times ten to the power k, rounded. -/
def decRnd (D : Nat) (k : Int) : Nat := if D = 0 then 0 else if 0 ≤ k then rnd (D * 10 ^ k.toNat) 1 else rnd D (10 ^ (-k).toNat)

def powLe (c m : Nat) : Bool := Nat.ble (2 ^ c) (10 ^ m)
theorem powLe_le {c m : Nat} (h : powLe c m = true) : 2 ^ c ≤ 10 ^ m := Nat.le_of_ble_eq_true h
theorem two_ten_big : powLe 1024 309 = true := by kernel_rfl
theorem two_ten_tiny : powLe 1076 324 = true := by kernel_rfl

theorem ten_pow_pos (n : Nat) : 0 < 10 ^ n := Nat.pow_pos (by omega)

theorem decRnd_big_aux {D m c : Nat} {k : Int} {n : Nat} (hc : 1024 ≤ c) (hm : powLe c m = true) (hD : 10 ^ n ≤ D) (h : (m : Int) ≤ (n : Int) + k) (hk : 0 ≤ k) : decRnd D k = 9218868437227405312 := by
  have p1 := ten_pow_pos n
  unfold decRnd
  rw [if_neg (by omega), if_pos hk]
  have p2 := ten_pow_pos k.toNat
  refine rnd_big (n := c) (Nat.ne_of_gt (Nat.mul_pos (by omega) p2)) (by omega) hc ?_
  have h1 : 10 ^ (n + k.toNat) ≤ D * 10 ^ k.toNat := by rw [Nat.pow_add]; exact Nat.mul_le_mul_right _ hD
  have h2 : 10 ^ m ≤ 10 ^ (n + k.toNat) := Nat.pow_le_pow_right (by omega) (by omega)
  rw [Nat.one_mul]
  exact Nat.le_trans (powLe_le hm) (Nat.le_trans h2 h1)

theorem decRnd_big {D : Nat} {k : Int} {n : Nat} (hD : 10 ^ n ≤ D) (h : 309 ≤ (n : Int) + k) (hk : 0 ≤ k) : decRnd D k = 9218868437227405312 :=
  decRnd_big_aux (m := 309) (c := 1024) (Nat.le_refl _) two_ten_big hD h hk

theorem decRnd_tiny_aux {D m c : Nat} {k : Int} {n : Nat} (hc : 1076 ≤ c) (hm : powLe c m = true) (hD : D < 10 ^ n) (hD0 : D ≠ 0) (h : (n : Int) + k ≤ -(m : Int)) (hk : ¬ 0 ≤ k) : decRnd D k = 0 := by
  unfold decRnd
  rw [if_neg hD0, if_neg hk]
  refine rnd_tiny (n := c) hD0 (Nat.ne_of_gt (ten_pow_pos _)) hc ?_
  have h1 : 10 ^ (n + m) ≤ 10 ^ (-k).toNat := Nat.pow_le_pow_right (by omega) (by omega)
  rw [Nat.pow_add] at h1
  have h2 := powLe_le hm
  have h3 : D * 2 ^ c ≤ D * 10 ^ m := Nat.mul_le_mul_left _ h2
  have h4 : D * 10 ^ m < 10 ^ n * 10 ^ m := (Nat.mul_lt_mul_right (ten_pow_pos m)).2 hD
  exact Nat.lt_of_le_of_lt h3 (Nat.lt_of_lt_of_le h4 h1)

theorem decRnd_tiny {D : Nat} {k : Int} {n : Nat} (hD : D < 10 ^ n) (hD0 : D ≠ 0) (h : (n : Int) + k ≤ -324) : decRnd D k = 0 :=
  decRnd_tiny_aux (m := 324) (c := 1076) (Nat.le_refl _) two_ten_tiny hD hD0 h (by omega)

end Go.Proofs.YthdcceackfdbbaaGreatDoor
/- Plain mathematics: a number's text taken apart. Own text. -/
namespace Go.Proofs.YthdcceackfdbbaaGreatDoor

theorem takeWhile_at {α : Type} {p : α → Bool} {l : List α} {k : Nat} (h1 : ∀ x ∈ l.take k, p x = true) (h2 : ∀ x, l[k]? = some x → p x = false) : l.takeWhile p = l.take k ∧ l.dropWhile p = l.drop k := by
  induction l generalizing k with
  | nil => simp
  | cons a r ih =>
    cases k with
    | zero =>
      have := h2 a (by simp)
      simp [this]
    | succ k =>
      have ha := h1 a (by simp)
      obtain ⟨e1, e2⟩ := ih (k := k) (fun x hx => h1 x (by simp [hx])) (fun x hx => h2 x (by simpa using hx))
      simp [ha, e1, e2]

/-- A sign ahead. -/
def signL : List UInt8 → Bool × List UInt8
  | [] => (false, [])
  | c :: r => if c = 43 then (false, r) else if c = 45 then (true, r) else (false, c :: r)

/-- What small powers tell, and of great ones some thousands. -/
def smallW (l : List UInt8) : Nat := l.foldl (fun v c => if v < 1000 then v * 10 + (c.toNat - 48) else v) 0

theorem smallW_snoc (l : List UInt8) (c : UInt8) : smallW (l ++ [c]) = if smallW l < 1000 then smallW l * 10 + (c.toNat - 48) else smallW l := by unfold smallW; rw [List.foldl_append]; rfl

theorem smallW_le {l : List UInt8} (h : Digs l) : smallW l ≤ 10000 := by
  induction l using list_snoc_ind with
  | h0 => simp [smallW]
  | h1 l c ih =>
    obtain ⟨h1, h2⟩ := digs_snoc h
    have := ih h1
    have := isDig_bd h2
    rw [smallW_snoc]
    split <;> omega

theorem smallW_stay (l r : List UInt8) (h : 1000 ≤ smallW l) : smallW (l ++ r) = smallW l := by
  induction r using list_snoc_ind with
  | h0 => simp
  | h1 r c ih => rw [← List.append_assoc, smallW_snoc, ih, if_neg (by omega)]

/-- What stands behind the digits. -/
def powL : List UInt8 → Option Int
  | [] => some 0
  | c :: r =>
    if c = 101 ∨ c = 69 then
      (if (signL r).2.takeWhile isDig = [] ∨ (signL r).2.dropWhile isDig ≠ [] then none
       else some (if (signL r).1 then -(smallW ((signL r).2.takeWhile isDig) : Int) else (smallW ((signL r).2.takeWhile isDig) : Int)))
    else none

/-- The digits behind a point, and what stands behind them. -/
def fracL : List UInt8 → List UInt8 × List UInt8
  | [] => ([], [])
  | c :: r => if c = 46 then (r.takeWhile isDig, r.dropWhile isDig) else ([], c :: r)

/-- Digits without noughts ahead, and the power of ten. -/
def decL (l : List UInt8) : Option (List UInt8 × Int) :=
  if l.takeWhile isDig ++ (fracL (l.dropWhile isDig)).1 = [] then none
  else (powL (fracL (l.dropWhile isDig)).2).map fun p => ((l.takeWhile isDig ++ (fracL (l.dropWhile isDig)).1).dropWhile (· == 48), p - (fracL (l.dropWhile isDig)).1.length)

/-- The answer, out of the digits and the sign. -/
def finL : Option (List UInt8 × Int) → Bool → Nat × Nat
  | none, _ => (0, 1)
  | some dp, m => (decRnd (dval dp.1) dp.2 + (if m then 9223372036854775808 else 0), 0)

/-- The number that a text tells, and the error. -/
def scanL (l : List UInt8) : Nat × Nat :=
  if 60 < l.length then (0, 1)
  else if l = [105, 110, 102] ∨ l = [43, 105, 110, 102] then (9218868437227405312, 0)
  else if l = [45, 105, 110, 102] then (18442240474082181120, 0)
  else if l = [110, 97, 110] then (9221120237041090560, 0)
  else finL (decL (signL l).2) (signL l).1

end Go.Proofs.YthdcceackfdbbaaGreatDoor
/- Plain mathematics: no size is above infinity. Own text. -/
namespace Go.Proofs.YthdcceackfdbbaaGreatDoor

theorem rhe_le {n d m : Nat} (h : n < d * m) : rhe n d ≤ m := by
  have h1 : n / d < m := Nat.div_lt_of_lt_mul h
  unfold rhe
  split <;> omega

theorem rat_le {a b i j s : Nat} {e : Int} (h2 : a * 2 ^ i < 2 * (b * 2 ^ j)) (he : e = (j : Int) + 1 - i - s) : rat a b e ≤ 2 ^ s := by
  rw [← rat_of (a := a) (b := b) (i := i) (j := j) (s := s) he]
  exact rhe_le ((Nat.mul_lt_mul_right (Nat.pow_pos (by omega))).2 h2)

theorem rnd_le (a b : Nat) (ha : a ≠ 0) (hb : b ≠ 0) : rnd a b ≤ 9218868437227405312 := by
  obtain ⟨i, j, e, h1, h2⟩ := plog_key ha hb
  by_cases c1 : 1023 < plog a b
  · unfold rnd; rw [if_pos c1]; omega
  · by_cases c2 : plog a b < -1075
    · rw [rnd_low ha hb h1 h2 (by omega)]; omega
    · unfold rnd; rw [if_neg c1]
      unfold eOf
      by_cases c3 : plog a b < -1022
      · rw [if_pos c3]
        have h3 := rat_le (e := -1074) (s := (plog a b + 1075).toNat) h2 (by omega)
        have h4 : 2 ^ (plog a b + 1075).toNat ≤ 2 ^ 53 := Nat.pow_le_pow_right (by omega) (by omega)
        have h5 : ((-1074 : Int) + 1074).toNat = 0 := rfl
        rw [h5]
        omega
      · rw [if_neg c3]
        have h3 := rat_le (e := plog a b - 52) (s := 53) h2 (by omega)
        have h4 : (plog a b - 52 + 1074).toNat ≤ 2045 := by omega
        omega

theorem decRnd_le (D : Nat) (k : Int) : decRnd D k ≤ 9218868437227405312 := by
  unfold decRnd
  split
  · omega
  · rename_i h
    split
    · exact rnd_le _ _ (Nat.ne_of_gt (Nat.mul_pos (by omega) (ten_pow_pos _))) (by omega)
    · exact rnd_le _ _ h (Nat.ne_of_gt (ten_pow_pos _))

theorem drop_zero (l : List UInt8) : ∀ c r, l.dropWhile (· == 48) = c :: r → c.toNat ≠ 48 := by
  intro c r h
  have := List.head?_dropWhile_not (p := (· == (48 : UInt8))) l
  rw [h] at this
  simp at this
  intro e
  exact this (UInt8.toNat_inj.1 e)

theorem digs_append {a b : List UInt8} (ha : Digs a) (hb : Digs b) : Digs (a ++ b) := by
  intro x hx
  rcases List.mem_append.1 hx with h | h
  · exact ha x h
  · exact hb x h

theorem digs_drop {l : List UInt8} (h : Digs l) (p : UInt8 → Bool) : Digs (l.dropWhile p) := fun x hx => h x ((List.dropWhile_sublist p).subset hx)

end Go.Proofs.YthdcceackfdbbaaGreatDoor
/- Plain mathematics: the reference's rounding. Own text. -/
namespace Go.Proofs.YthdcceackfdbbaaGreatDoor

theorem rat_of2 {a b i j : Nat} : rhe (a * 2 ^ i) (b * 2 ^ j) = rat a b ((j : Int) - i) := by
  unfold rat
  by_cases h : 0 ≤ (j : Int) - i
  · rw [if_pos h]
    have e2 : b * 2 ^ j = b * 2 ^ ((j : Int) - i).toNat * 2 ^ i := by rw [Nat.mul_assoc, ← Nat.pow_add]; congr 2; omega
    rw [e2, rhe_scale _ _ _ (Nat.pow_pos (by omega))]
  · rw [if_neg h]
    have e2 : a * 2 ^ i = a * 2 ^ (-((j : Int) - i)).toNat * 2 ^ j := by rw [Nat.mul_assoc, ← Nat.pow_add]; congr 2; omega
    rw [e2, rhe_scale _ _ _ (Nat.pow_pos (by omega))]

/-- The first guess of the power. -/
def guess (la lb : Nat) : Int := if 0 < (la : Int) - lb - 1 then 29 * ((la : Int) - lb - 1) - 54 else 30 * ((la : Int) - lb - 1) - 54

theorem guess_le {a b la lb : Nat} (ha : a ≠ 0) (hb : b ≠ 0) (h1 : 1000000000 ^ (la - 1) ≤ a) (h2 : b < 1000000000 ^ lb) (hla : 1 ≤ la) : guess la lb + 54 ≤ plog a b := by
  obtain ⟨i, j, e, k1, k2⟩ := plog_key ha hb
  rw [e]
  unfold guess
  by_cases hc : 0 < (la : Int) - lb - 1
  · rw [if_pos hc]
    have h3 : b * 2 ^ (29 * (la - lb - 1)) ≤ a * 2 ^ 0 := by
      rw [Nat.pow_zero, Nat.mul_one]
      refine Nat.le_trans (Nat.mul_le_mul (Nat.le_of_lt h2) (Nat.le_trans ?_ (Nat.le_refl (1000000000 ^ (la - lb - 1))))) ?_
      · rw [Nat.pow_mul]; exact Nat.pow_le_pow_left (by decide) _
      · rw [← Nat.pow_add, show lb + (la - lb - 1) = la - 1 from by omega]; exact h1
    have := power_unique h3 k2
    omega
  · rw [if_neg hc]
    have h3 : b * 2 ^ 0 ≤ a * 2 ^ (30 * (lb + 1 - la)) := by
      rw [Nat.pow_zero, Nat.mul_one]
      refine Nat.le_trans (Nat.le_of_lt h2) ?_
      refine Nat.le_trans ?_ (Nat.mul_le_mul h1 (Nat.le_trans (Nat.le_refl (1000000000 ^ (lb + 1 - la))) ?_))
      · rw [← Nat.pow_add, show la - 1 + (lb + 1 - la) = lb from by omega]; exact Nat.le_refl _
      · rw [Nat.pow_mul]; exact Nat.pow_le_pow_left (by decide) _
    have := power_unique h3 k2
    omega

/-- While the quotient is not below 2^53 the power may rise. -/
theorem round_more {a b i j : Nat} (ha : a ≠ 0) (hb : b ≠ 0) (h : b * 2 ^ j * 9007199254740992 ≤ a * 2 ^ i) : (j : Int) - i + 53 ≤ plog a b := by
  obtain ⟨i0, j0, e, k1, k2⟩ := plog_key ha hb
  have h3 : b * 2 ^ (j + 53) ≤ a * 2 ^ i := by
    rw [Nat.pow_add, ← Nat.mul_assoc]; exact h
  have := power_unique h3 k2
  omega

theorem round_stop {a b i j : Nat} (ha : a ≠ 0) (hb : b ≠ 0) (h : a * 2 ^ i < b * 2 ^ j * 9007199254740992) : plog a b ≤ (j : Int) - i + 52 := by
  obtain ⟨i0, j0, e, k1, k2⟩ := plog_key ha hb
  have h3 : a * 2 ^ i < 2 * (b * 2 ^ (j + 52)) := by
    rw [Nat.pow_add, ← Nat.mul_assoc b]; omega
  have := power_unique k1 h3
  omega

theorem round_low {a b i j : Nat} (ha : a ≠ 0) (hb : b ≠ 0) (h : (j : Int) - i + 52 ≤ plog a b) : b * 2 ^ j * 4503599627370496 ≤ a * 2 ^ i := by
  obtain ⟨i0, j0, e, k1, k2⟩ := plog_key ha hb
  by_cases hh : b * 2 ^ j * 4503599627370496 ≤ a * 2 ^ i
  · exact hh
  · exfalso
    have h3 : a * 2 ^ i < 2 * (b * 2 ^ (j + 51)) := by
      rw [Nat.pow_add, ← Nat.mul_assoc b]; omega
    have := power_unique k1 h3
    omega

theorem rhe_bounds {n d q r : Nat} (h : n = d * q + r) (hr : r < d) (h1 : n < d * 9007199254740992) : q < 9007199254740992 ∧ rhe n d ≤ 9007199254740992 ∧ q ≤ rhe n d := by
  have h2 : n / d = q := by rw [h, Nat.mul_comm, Nat.add_comm, Nat.add_mul_div_right _ _ (by omega), Nat.div_eq_of_lt hr]; omega
  have h3 : n / d < 9007199254740992 := Nat.div_lt_of_lt_mul h1
  refine ⟨by omega, ?_, ?_⟩ <;> (unfold rhe; split <;> omega)

/-- What the last lines of the reference's rounding answer. -/
def finR (m : Nat) (e : Int) : Nat :=
  if m = 9007199254740992 then (if 2047 ≤ e + 1 + 1075 then 9218868437227405312 else (e + 1 + 1075).toNat * 4503599627370496)
  else if m < 4503599627370496 then m
  else if 2047 ≤ e + 1075 then 9218868437227405312 else (e + 1075).toNat * 4503599627370496 + (m - 4503599627370496)

theorem finR_eq {a b i j : Nat} (ha : a ≠ 0) (hb : b ≠ 0) (he1 : -1074 ≤ (j : Int) - i) (hstop : plog a b ≤ (j : Int) - i + 52) (hlow : (j : Int) - i = -1074 ∨ (j : Int) - i + 52 ≤ plog a b) :
    finR (rhe (a * 2 ^ i) (b * 2 ^ j)) ((j : Int) - i) = rnd a b := by
  have hrat := rat_of2 (a := a) (b := b) (i := i) (j := j)
  have hm : rhe (a * 2 ^ i) (b * 2 ^ j) ≤ 9007199254740992 := by
    refine rhe_le ?_
    by_cases hh : a * 2 ^ i < b * 2 ^ j * 9007199254740992
    · exact hh
    · have := round_more ha hb (by omega : b * 2 ^ j * 9007199254740992 ≤ a * 2 ^ i); omega
  have hE : eOf (plog a b) = (j : Int) - i := by unfold eOf; split <;> omega
  have hml : (j : Int) - i ≠ -1074 → 4503599627370496 ≤ rhe (a * 2 ^ i) (b * 2 ^ j) := by
    intro hne
    have h1 := round_low ha hb (by omega : (j : Int) - i + 52 ≤ plog a b)
    have hpos : 0 < b * 2 ^ j := Nat.mul_pos (by omega) (Nat.pow_pos (by omega))
    have h2 : 4503599627370496 ≤ a * 2 ^ i / (b * 2 ^ j) := (Nat.le_div_iff_mul_le hpos).2 (by rw [Nat.mul_comm]; exact h1)
    unfold rhe; split <;> omega
  unfold rnd
  rw [hE, ← hrat]
  generalize rhe (a * 2 ^ i) (b * 2 ^ j) = m at *
  unfold finR
  by_cases c1 : 1023 < plog a b
  · rw [if_pos c1]
    split
    · rw [if_pos (by omega)]
    · split
      · omega
      · rw [if_pos (by omega)]
  · rw [if_neg c1]
    split
    · rename_i h1
      subst h1
      split
      · omega
      · omega
    · split
      · have : (j : Int) - i = -1074 := by
          by_cases hx : (j : Int) - i = -1074
          · exact hx
          · have := hml hx; omega
        rw [this]; simp
      · rw [if_neg (by omega)]; omega

end Go.Proofs.YthdcceackfdbbaaGreatDoor
/- Plain mathematics: digits of whole numbers, and how their texts are read. Own text. -/
namespace Go.Proofs.YthdcceackfdbbaaGreatDoor

theorem u8_dig {d : Nat} (h : d < 10) : (UInt8.ofNat (48 + d)).toNat = 48 + d := by
  rw [UInt8.toNat_ofNat_of_lt' (by show 48 + d < 256; omega)]

theorem isDig_of {d : Nat} (h : d < 10) : isDig (UInt8.ofNat (48 + d)) = true := by
  unfold isDig; rw [u8_dig h]; simp; omega

theorem dd_all (u : Nat) : Digs (Lib.decDigits u) ∧ dval (Lib.decDigits u) = u ∧ (u ≠ 0 → ∀ c r, Lib.decDigits u = c :: r → c.toNat ≠ 48) ∧ Lib.decDigits u ≠ [] := by
  induction u using Nat.strongRecOn with
  | ind u ih =>
    by_cases h : u < 10
    · rw [Lib.decDigits, dif_pos h]
      refine ⟨?_, ?_, ?_, by simp⟩
      · intro x hx; rw [List.mem_singleton] at hx; rw [hx]; exact isDig_of h
      · simp only [dval, List.foldl_cons, List.foldl_nil]; rw [u8_dig h]; omega
      · intro h0 c r e
        simp only [List.cons.injEq] at e
        rw [← e.1, u8_dig h]; omega
    · obtain ⟨i1, i2, i3, i4⟩ := ih (u / 10) (by omega)
      have e : Lib.decDigits u = Lib.decDigits (u / 10) ++ [UInt8.ofNat (48 + u % 10)] := by rw [Lib.decDigits, dif_neg h]
      rw [e]
      refine ⟨?_, ?_, ?_, by simp⟩
      · refine digs_append i1 ?_
        intro x hx; rw [List.mem_singleton] at hx; rw [hx]; exact isDig_of (by omega)
      · rw [dval_snoc, i2, u8_dig (by omega)]; omega
      · intro _ c r e2
        cases hd : Lib.decDigits (u / 10) with
        | nil => exact absurd hd i4
        | cons c' r' =>
          rw [hd] at e2
          simp only [List.cons_append, List.cons.injEq] at e2
          rw [← e2.1]
          exact i3 (by omega) c' r' hd

theorem dd_len {u k : Nat} (h : u < 10 ^ k) (hk : 1 ≤ k) : (Lib.decDigits u).length ≤ k := by
  induction k generalizing u with
  | zero => omega
  | succ k ih =>
    by_cases h10 : u < 10
    · rw [Lib.decDigits, dif_pos h10]; simp
    · rw [Lib.decDigits, dif_neg h10, List.length_append, List.length_singleton]
      by_cases hk0 : k = 0
      · subst hk0; simp at h; omega
      · have := ih (u := u / 10) (by rw [Nat.pow_succ] at h; omega) (by omega)
        omega

theorem dval_cons_zero (l : List UInt8) : dval (48 :: l) = dval l := by simp [dval]

theorem dval_drop (l : List UInt8) : dval (l.dropWhile (· == 48)) = dval l := by
  induction l with
  | nil => rfl
  | cons c r ih =>
    by_cases h : c = 48
    · subst h; simp only [List.dropWhile_cons, beq_self_eq_true, if_true]; rw [ih, dval_cons_zero]
    · have : (c == 48) = false := by simpa using h
      simp [this]

theorem takeWhile_all {l : List UInt8} (h : Digs l) (r : List UInt8) (hr : ∀ c t, r = c :: t → isDig c = false) : (l ++ r).takeWhile isDig = l ∧ (l ++ r).dropWhile isDig = r := by
  have := takeWhile_at (p := isDig) (l := l ++ r) (k := l.length) (fun x hx => by rw [List.take_left'] at hx; exact h x hx; rfl) (fun x hx => by
    rw [List.getElem?_append_right (Nat.le_refl _), Nat.sub_self] at hx
    cases r with
    | nil => simp at hx
    | cons c t => simp at hx; subst hx; exact hr c t rfl)
  rw [List.take_left' rfl, List.drop_left' rfl] at this
  exact this

theorem decL_whole {l : List UInt8} (h : Digs l) (hne : l ≠ []) : decL l = some (l.dropWhile (· == 48), 0) := by
  obtain ⟨e1, e2⟩ := takeWhile_all h [] (by simp)
  rw [List.append_nil] at e1 e2
  unfold decL
  rw [e1, e2]
  simp [fracL, powL, hne]

theorem decL_point {l f : List UInt8} (h : Digs l) (hf : Digs f) (hne : l ≠ []) : decL (l ++ 46 :: f) = some ((l ++ f).dropWhile (· == 48), -(f.length : Int)) := by
  obtain ⟨e1, e2⟩ := takeWhile_all h (46 :: f) (by intro c t e; cases e; rfl)
  obtain ⟨e3, e4⟩ := takeWhile_all hf [] (by simp)
  rw [List.append_nil] at e3 e4
  unfold decL
  rw [e1, e2]
  have ef : fracL (46 :: f) = (f, []) := by simp [fracL, e3, e4]
  rw [ef]
  simp [powL, hne]

theorem signL_dig {c : UInt8} {r : List UInt8} (h : isDig c = true) : signL (c :: r) = (false, c :: r) := by
  have b := isDig_bd h
  have h1 : c ≠ 43 := by intro e; subst e; simp at b
  have h2 : c ≠ 45 := by intro e; subst e; simp at b
  simp [signL, h1, h2]

theorem scanL_dig {c : UInt8} {r : List UInt8} (h : isDig c = true) (hl : (c :: r).length ≤ 60) : scanL (c :: r) = finL (decL (c :: r)) false := by
  have b := isDig_bd h
  unfold scanL
  rw [if_neg (by omega), signL_dig h]
  rw [if_neg (by rintro (e | e) <;> (simp only [List.cons.injEq] at e; rw [e.1] at b; simp at b)), if_neg (by intro e; simp only [List.cons.injEq] at e; rw [e.1] at b; simp at b), if_neg (by intro e; simp only [List.cons.injEq] at e; rw [e.1] at b; simp at b)]

theorem scan_whole {u : Nat} (hl : (Lib.decDigits u).length ≤ 60) : scanL (Lib.decDigits u) = (decRnd u 0, 0) := by
  obtain ⟨h1, h2, _, h4⟩ := dd_all u
  have hd := decL_whole h1 h4
  cases hc : Lib.decDigits u with
  | nil => exact absurd hc h4
  | cons c r =>
    rw [hc] at hl h1 h2 hd
    rw [scanL_dig (h1 c (by simp)) hl, hd]
    simp only [finL]
    rw [dval_drop, h2]
    simp

theorem scan_point {u : Nat} {f : List UInt8} (hf : Digs f) (hl : (Lib.decDigits u ++ 46 :: f).length ≤ 60) : scanL (Lib.decDigits u ++ 46 :: f) = (decRnd (dval (Lib.decDigits u ++ f)) (-(f.length : Int)), 0) := by
  obtain ⟨h1, h2, _, h4⟩ := dd_all u
  have hd := decL_point h1 hf h4
  cases hc : Lib.decDigits u with
  | nil => exact absurd hc h4
  | cons c r =>
    rw [hc] at hl h1 h2 hd
    rw [List.cons_append] at hl hd ⊢
    rw [scanL_dig (h1 c (by simp)) hl, hd]
    simp only [finL]
    rw [dval_drop]
    simp

theorem dval_append (a b : List UInt8) : dval (a ++ b) = dval a * 10 ^ b.length + dval b := by
  induction b using list_snoc_ind with
  | h0 => simp [dval]
  | h1 b c ih =>
    rw [← List.append_assoc, dval_snoc, dval_snoc, ih, List.length_append, List.length_singleton, Nat.pow_succ, Nat.add_mul, Nat.mul_assoc]
    omega

theorem rhe_of' {n d q r : Nat} (h : n = d * q + r) (hr : r < d) : rhe n d = if d < 2 * r ∨ (2 * r = d ∧ q % 2 = 1) then q + 1 else q := by
  have h1 : n / d = q := by rw [h, Nat.mul_comm, Nat.add_comm, Nat.add_mul_div_right _ _ (by omega), Nat.div_eq_of_lt hr]; omega
  have h2 : n % d = r := by rw [h, Nat.mul_add_mod, Nat.mod_eq_of_lt hr]
  unfold rhe
  rw [h1, h2]

/-- Numbers from 2^53 up to below 2^54. -/
theorem rnd_53 {a b : Nat} (hb : b ≠ 0) (h1 : b * 9007199254740992 ≤ a) (h2 : a < b * 18014398509481984) : rnd a b = 2 * 2251799813685248 * 1075 + rhe a (b * 2) := by
  have hp := plog_eq (a := a) (b := b) (i := 0) (j := 53) (by have : 0 < b * 9007199254740992 := Nat.mul_pos (by omega) (by omega); omega) hb (by simpa using h1) (by omega)
  have e1 : plog a b = 53 := by rw [hp]; rfl
  unfold rnd
  rw [e1, if_neg (by omega)]
  unfold eOf
  rw [if_neg (by omega)]
  unfold rat
  rw [if_pos (by omega)]
  rfl

theorem tie_mid {k : Nat} (hk : k < 4503599627370496) : decRnd (9007199254740992 + 2 * k + 1) 0 = 4845873199050653696 + (if k % 2 = 1 then k + 1 else k) := by
  unfold decRnd
  rw [if_neg (by omega), if_pos (by omega)]
  rw [show (9007199254740992 + 2 * k + 1) * 10 ^ (0 : Int).toNat = 9007199254740992 + 2 * k + 1 from by simp]
  rw [rnd_53 (by omega) (by omega) (by omega)]
  unfold rhe
  split <;> split <;> omega

theorem tie_above {k B n : Nat} (hk : k < 4503599627370496) (hB : B = 10 ^ n) (hn : 1 ≤ n) : decRnd ((9007199254740992 + 2 * k + 1) * 10 ^ n + 1) (-(n : Int)) = 4845873199050653696 + (k + 1) := by
  have hpos := ten_pow_pos n
  have h10 : 10 ≤ 10 ^ n := by
    have : 10 ^ 1 ≤ 10 ^ n := Nat.pow_le_pow_right (by omega) hn
    omega
  unfold decRnd
  rw [if_neg (by omega), if_neg (by omega), show (-(-(n : Int))).toNat = n from by omega, ← hB] at *
  rw [rnd_53 (by omega) (by
    have : B * 9007199254740992 ≤ (9007199254740992 + 2 * k + 1) * B := by rw [Nat.mul_comm]; exact Nat.mul_le_mul_right _ (by omega)
    omega) (by
    have : (9007199254740992 + 2 * k + 1 + 1) * B ≤ 18014398509481984 * B := Nat.mul_le_mul_right _ (by omega)
    rw [Nat.add_mul _ 1, Nat.mul_comm 18014398509481984] at this
    omega)]
  have e : (9007199254740992 + 2 * k + 1) * B + 1 = B * 2 * (4503599627370496 + k) + (B + 1) := by
    rw [show 9007199254740992 + 2 * k + 1 = 2 * (4503599627370496 + k) + 1 from by omega, Nat.add_mul, Nat.one_mul, Nat.mul_right_comm, Nat.mul_comm B 2]
    omega
  rw [e]
  have hr := rhe_of' (n := B * 2 * (4503599627370496 + k) + (B + 1)) (d := B * 2) (q := 4503599627370496 + k) (r := B + 1) rfl (by omega)
  rw [hr, if_pos (by omega)]
  omega

theorem tie_below {k B n : Nat} (hk : k < 4503599627370496) (hB : B = 10 ^ n) (hn : 1 ≤ n) : decRnd ((9007199254740992 + 2 * k) * 10 ^ n + (10 ^ n - 1)) (-(n : Int)) = 4845873199050653696 + k := by
  have hpos := ten_pow_pos n
  have h10 : 10 ≤ 10 ^ n := by
    have : 10 ^ 1 ≤ 10 ^ n := Nat.pow_le_pow_right (by omega) hn
    omega
  unfold decRnd
  rw [if_neg (by omega), if_neg (by omega), show (-(-(n : Int))).toNat = n from by omega, ← hB] at *
  rw [rnd_53 (by omega) (by
    have : B * 9007199254740992 ≤ (9007199254740992 + 2 * k) * B := by rw [Nat.mul_comm]; exact Nat.mul_le_mul_right _ (by omega)
    omega) (by
    have : (9007199254740992 + 2 * k + 1) * B ≤ 18014398509481984 * B := Nat.mul_le_mul_right _ (by omega)
    rw [Nat.add_mul _ 1, Nat.mul_comm 18014398509481984] at this
    omega)]
  have e : (9007199254740992 + 2 * k) * B + (B - 1) = B * 2 * (4503599627370496 + k) + (B - 1) := by
    rw [show 9007199254740992 + 2 * k = 2 * (4503599627370496 + k) from by omega, Nat.mul_right_comm, Nat.mul_comm B 2]
  rw [e]
  have hr := rhe_of' (n := B * 2 * (4503599627370496 + k) + (B - 1)) (d := B * 2) (q := 4503599627370496 + k) (r := B - 1) rfl (by omega)
  rw [hr, if_neg (by omega)]
  omega

end Go.Proofs.YthdcceackfdbbaaGreatDoor
/- Walks: normalize, roundQuotient. Own text. -/
namespace Go.Proofs.YthdcceackfdbbaaGreatDoor
open Go.RowKit

theorem small_of_bl {a k : Nat} (h : bl a ≤ k) (hk : k ≤ 65536) : Small a := Small.of_lt (k := k) (Nat.lt_of_lt_of_le (bl_hi a) (Nat.pow_le_pow_right (by omega) h)) hk

theorem bl_shift (a n : Nat) : bl (a * 2 ^ n) ≤ bl a + n := by
  refine bl_le ?_
  rw [Nat.pow_add]
  exact (Nat.mul_lt_mul_right (Nat.pow_pos (by omega))).2 (bl_hi a)

theorem shift_repI (w : World) (va : Value) (a n : Nat) (m : Int) (ha : Rep w 0 va a) (la : Small a) (hn : n ≤ 100000) (hm : m = (n : Int)) :
    Calls Tryz.prog 196 #[va, .int .i64 m] w fun e w' => ∃ v', e = .returned v' ∧ Rep w' w.heap.size v' (a * 2 ^ n) ∧ Below w.heap.size w w' := by
  subst hm; exact shift_rep w va a n ha la hn

theorem tup3 {a b : Value} {c c' : Int} (h : c = c') : Ending.returned (.tuple #[a, b, .int .i64 c]) = .returned (.tuple #[a, b, .int .i64 c']) := by rw [h]

set_option maxHeartbeats 800000 in
theorem normalize_any (w : World) (va vb : Value) (a b : Nat) (ha : Rep w 0 va a) (hb : Rep w 0 vb b) (ha0 : a ≠ 0) (hb0 : b ≠ 0) (la : bl a ≤ 20000) (lb : bl b ≤ 20000) :
    Calls Tryz.prog 195 #[va, vb] w fun e w' => ∃ (va' vb' : Value) (i j : Nat), e = .returned (.tuple #[va', vb', .int .i64 ((j : Int) - (i : Int))]) ∧ Rep w' 0 va' (a * 2 ^ i) ∧ Rep w' 0 vb' (b * 2 ^ j) ∧
      b * 2 ^ j ≤ a * 2 ^ i ∧ a * 2 ^ i < 2 * (b * 2 ^ j) ∧ i ≤ 20001 ∧ j ≤ 20000 ∧ Below w.heap.size w w' := by
  have sa := small_of_bl la (by omega)
  have sb := small_of_bl lb (by omega)
  generalize hA : bl a = A at *
  generalize hB : bl b = B at *
  have HA : Hid (bl a = A) := hA
  have HB : Hid (bl b = B) := hB
  clear hA hB
  go_enter Tryz.func195, Tryz.ntmps195
  go_wp2_with fail
  refine (bitlen_rep _ _ a ha sa).mono ?_
  rintro e w1 ⟨rfl, n1, rfl⟩
  go_wp2_with fail
  refine (bitlen_rep _ _ b (hb.drewN n1) sb).mono ?_
  rintro e w1 ⟨rfl, n2, rfl⟩
  rw [HA.out, HB.out]
  by_cases hge : B ≤ A
  · obtain ⟨m1, m2⟩ := norm_ge ha0 hb0 (by rw [HA.out, HB.out]; exact hge)
    rw [HA.out, HB.out] at m1 m2
    obtain ⟨d, hd⟩ : ∃ d : Nat, d = A - B := ⟨_, rfl⟩
    rw [← hd] at m1 m2
    have hd2 : d ≤ 20000 := by omega
    have sb2 : Small (b * 2 ^ d) := small_of_bl (Nat.le_trans (bl_shift b d) (by rw [HB.out]; exact Nat.add_le_add lb hd2)) (by omega)
    have M1 : Hid (a < 2 * (b * 2 ^ d)) := m1
    have M2 : Hid (b * 2 ^ d < 2 * a) := m2
    have HD : Hid (d = A - B) := hd
    clear hd m1 m2
    go_wp2_with fail
    refine (shift_repI _ _ b d ((A : Int) - (B : Int)) (hb.drewN (n1 + n2)) sb (by omega) (by have := HD.out; omega)).mono ?_
    rintro e w2 ⟨v2, rfl, r2, b2⟩
    simp only [World.heap_drewN] at b2 r2
    have bb2 : Below w.heap.size w w2 := (below_drewN (Below.refl _ _) (n1 + n2)).trans b2
    go_wp2_with fail
    refine (compare_rep _ _ _ a (b * 2 ^ d) (ha.below bb2) (r2.base (Nat.zero_le _)) sa).mono ?_
    rintro e w3 ⟨rfl, n3, rfl⟩
    by_cases hc : a < b * 2 ^ d
    · rw [cmpI_lt (by omega)]
      have HC : Hid (a < b * 2 ^ d) := hc
      clear hc
      go_wp2_with fail
      refine (shift_rep _ _ a 1 ((ha.below bb2).drewN n3) sa (by omega)).mono ?_
      rintro e w4 ⟨v4, rfl, r4, b4⟩
      simp only [World.heap_drewN] at b4 r4
      go_wp2
      go_ret3
      refine ⟨v4, v2, 1, d, tup3 (by have := HD.out; omega), r4.base (Nat.zero_le _), ((r2.base (Nat.zero_le _)).drewN n3).below (by simpa using b4), ?_, ?_, by omega, by omega, (below_drewN bb2 n3).trans (b4.mono bb2.size)⟩
      · have := M2.out; omega
      · have := HC.out; omega
    · have hcm : (0 : Int) ≤ cmpI (a : Int) ((b * 2 ^ d : Nat) : Int) := by unfold cmpI; split <;> (try split) <;> omega
      generalize cmpI (a : Int) ((b * 2 ^ d : Nat) : Int) = cm at hcm ⊢
      have HC : Hid (¬ a < b * 2 ^ d) := hc
      clear hc
      go_wp2
      go_ret3
      refine ⟨va, v2, 0, d, tup3 (by have := HD.out; omega), by simpa using (ha.below bb2).drewN n3, (r2.base (Nat.zero_le _)).drewN n3, ?_, ?_, by omega, by omega, below_drewN bb2 n3⟩
      · have := HC.out; omega
      · have := M1.out; omega
  · obtain ⟨m1, m2⟩ := norm_ge hb0 ha0 (by rw [HA.out, HB.out]; omega)
    rw [HA.out, HB.out] at m1 m2
    obtain ⟨d, hd⟩ : ∃ d : Nat, d = B - A := ⟨_, rfl⟩
    rw [← hd] at m1 m2
    have hd2 : d ≤ 20000 := by omega
    have hd3 : 1 ≤ d := by omega
    have sa2 : Small (a * 2 ^ d) := small_of_bl (Nat.le_trans (bl_shift a d) (by rw [HA.out]; exact Nat.add_le_add la hd2)) (by omega)
    have M1 : Hid (b < 2 * (a * 2 ^ d)) := m1
    have M2 : Hid (a * 2 ^ d < 2 * b) := m2
    have HD : Hid (d = B - A) := hd
    clear hd m1 m2
    go_wp2_with fail
    refine (shift_repI _ _ a d (-((A : Int) - (B : Int))) (ha.drewN (n1 + n2)) sa (by omega) (by have := HD.out; omega)).mono ?_
    rintro e w2 ⟨v2, rfl, r2, b2⟩
    simp only [World.heap_drewN] at b2 r2
    have bb2 : Below w.heap.size w w2 := (below_drewN (Below.refl _ _) (n1 + n2)).trans b2
    go_wp2_with fail
    refine (compare_rep _ _ _ (a * 2 ^ d) b (r2.base (Nat.zero_le _)) (hb.below bb2) sa2).mono ?_
    rintro e w3 ⟨rfl, n3, rfl⟩
    by_cases hc : a * 2 ^ d < b
    · rw [cmpI_lt (by omega)]
      have HC : Hid (a * 2 ^ d < b) := hc
      clear hc
      go_wp2_with fail
      refine (shift_rep _ _ (a * 2 ^ d) 1 ((r2.base (Nat.zero_le _)).drewN n3) sa2 (by omega)).mono ?_
      rintro e w4 ⟨v4, rfl, r4, b4⟩
      simp only [World.heap_drewN] at b4 r4
      go_wp2
      go_ret3
      refine ⟨v4, vb, d + 1, 0, tup3 (by have := HD.out; omega), ?_, by simpa using ((hb.below bb2).drewN n3).below (by simpa using b4), ?_, ?_, by omega, by omega, (below_drewN bb2 n3).trans (b4.mono bb2.size)⟩
      · rw [Nat.pow_succ, ← Nat.mul_assoc]; exact r4.base (Nat.zero_le _)
      · have := M1.out; rw [Nat.pow_succ, ← Nat.mul_assoc]; omega
      · have := HC.out; rw [Nat.pow_succ, ← Nat.mul_assoc]; omega
    · have hcm : (0 : Int) ≤ cmpI ((a * 2 ^ d : Nat) : Int) (b : Int) := by unfold cmpI; split <;> (try split) <;> omega
      generalize cmpI ((a * 2 ^ d : Nat) : Int) (b : Int) = cm at hcm ⊢
      have HC : Hid (¬ a * 2 ^ d < b) := hc
      clear hc
      go_wp2
      go_ret3
      refine ⟨v2, vb, d, 0, tup3 (by have := HD.out; omega), (r2.base (Nat.zero_le _)).drewN n3, by simpa using (hb.below bb2).drewN n3, ?_, ?_, by omega, by omega, below_drewN bb2 n3⟩
      · have := HC.out; omega
      · have := M2.out; omega

end Go.Proofs.YthdcceackfdbbaaGreatDoor
