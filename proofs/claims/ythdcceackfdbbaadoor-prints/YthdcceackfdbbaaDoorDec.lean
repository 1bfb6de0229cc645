/- Plain mathematics: decimals. Own text. -/
import Derived.Test.YthdcceackfdbbaaDoorRnd
namespace Go.Proofs.YthdcceackfdbbaaDoor

theorem plog_key {a b : Nat} (ha : a ≠ 0) (hb : b ≠ 0) : ∃ i' j' : Nat, plog a b = (j' : Int) - i' ∧ b * 2 ^ j' ≤ a * 2 ^ i' ∧ a * 2 ^ i' < 2 * (b * 2 ^ j') := by
  unfold plog
  by_cases hk : 0 ≤ (bl a : Int) - bl b
  · rw [if_pos hk]
    obtain ⟨n1, n2⟩ := norm_ge ha hb (by omega)
    have et : ((bl a : Int) - bl b).toNat = bl a - bl b := by omega
    rw [et]
    by_cases hc : a < b * 2 ^ (bl a - bl b)
    · rw [if_pos hc]; exact ⟨1, bl a - bl b, by omega, by omega, by omega⟩
    · rw [if_neg hc]; exact ⟨0, bl a - bl b, by omega, by omega, by omega⟩
  · rw [if_neg hk]
    obtain ⟨n1, n2⟩ := norm_ge hb ha (by omega)
    have et : (-((bl a : Int) - bl b)).toNat = bl b - bl a := by omega
    rw [et]
    by_cases hc : a * 2 ^ (bl b - bl a) < b
    · rw [if_pos hc]
      refine ⟨bl b - bl a + 1, 0, by omega, ?_, ?_⟩
      · rw [Nat.pow_succ, ← Nat.mul_assoc]; omega
      · rw [Nat.pow_succ, ← Nat.mul_assoc]; omega
    · rw [if_neg hc]; exact ⟨bl b - bl a, 0, by omega, by omega, by omega⟩

theorem rnd_big {a b n : Nat} (ha : a ≠ 0) (hb : b ≠ 0) (hn : 1024 ≤ n) (h : b * 2 ^ n ≤ a) : rnd a b = 9218868437227405312 := by
  obtain ⟨i, j, e, h1, h2⟩ := plog_key ha hb
  have := power_unique (i := 0) (j := n) (by simpa using h) h2
  unfold rnd
  rw [if_pos (by omega)]

theorem rnd_tiny {a b n : Nat} (ha : a ≠ 0) (hb : b ≠ 0) (hn : 1076 ≤ n) (h : a * 2 ^ n < b) : rnd a b = 0 := by
  obtain ⟨i, j, e, h1, h2⟩ := plog_key ha hb
  have := power_unique (i' := n + 1) (j' := 0) h1 (by rw [Nat.pow_succ, ← Nat.mul_assoc]; omega)
  exact rnd_low ha hb h1 h2 (by omega)

/-- The number that digits tell. -/
def dval (l : List UInt8) : Nat := l.foldl (fun n c => n * 10 + (c.toNat - 48)) 0

def isDig (c : UInt8) : Bool := 48 ≤ c.toNat && c.toNat ≤ 57

def Digs (l : List UInt8) : Prop := ∀ c ∈ l, isDig c = true

theorem dval_snoc (l : List UInt8) (c : UInt8) : dval (l ++ [c]) = dval l * 10 + (c.toNat - 48) := by simp [dval]

theorem isDig_bd {c : UInt8} (h : isDig c = true) : 48 ≤ c.toNat ∧ c.toNat ≤ 57 := by simpa [isDig] using h

theorem digs_snoc {l : List UInt8} {c : UInt8} (h : Digs (l ++ [c])) : Digs l ∧ isDig c = true := ⟨fun x hx => h x (by simp [hx]), h c (by simp)⟩

theorem list_snoc_ind {α : Type} {P : List α → Prop} (h0 : P []) (h1 : ∀ l x, P l → P (l ++ [x])) (l : List α) : P l := by
  generalize hn : l.length = n
  induction n generalizing l with
  | zero => rw [List.length_eq_zero_iff.1 hn]; exact h0
  | succ n ih =>
    have hne : l ≠ [] := by intro e; simp [e] at hn
    rw [← List.dropLast_concat_getLast hne]
    exact h1 _ _ (ih _ (by simp; omega))

theorem dval_lt {l : List UInt8} (h : Digs l) : dval l < 10 ^ l.length := by
  induction l using list_snoc_ind with
  | h0 => simp [dval]
  | h1 l c ih =>
    obtain ⟨h1, h2⟩ := digs_snoc h
    have := ih h1
    have := isDig_bd h2
    rw [dval_snoc, List.length_append, List.length_singleton, Nat.pow_succ]
    omega

theorem dval_ge {l : List UInt8} (h : Digs l) {c : UInt8} {r : List UInt8} (hl : l = c :: r) (hc : c.toNat ≠ 48) : 10 ^ (l.length - 1) ≤ dval l := by
  subst hl
  have hcd := isDig_bd (h c (by simp))
  have key : ∀ r : List UInt8, 10 ^ r.length ≤ dval (c :: r) := by
    intro r
    induction r using list_snoc_ind with
    | h0 => simp [dval]; omega
    | h1 r d ih => rw [← List.cons_append, dval_snoc, List.length_append, List.length_singleton, Nat.pow_succ]; omega
  simpa using key r

/-- Digits times ten to the power k, rounded. -/
def decRnd (D : Nat) (k : Int) : Nat := if D = 0 then 0 else if 0 ≤ k then rnd (D * 10 ^ k.toNat) 1 else rnd D (10 ^ (-k).toNat)

def powLe (c m : Nat) : Bool := Nat.ble (2 ^ c) (10 ^ m)
theorem powLe_le {c m : Nat} (h : powLe c m = true) : 2 ^ c ≤ 10 ^ m := Nat.le_of_ble_eq_true h
theorem two_ten_big : powLe 1024 309 = true := by kernel_rfl
theorem two_ten_tiny : powLe 1076 324 = true := by kernel_rfl

theorem ten_pow_pos (n : Nat) : 0 < 10 ^ n := Nat.pow_pos (by omega)

theorem decRnd_big_aux {D m c : Nat} {k : Int} {n : Nat} (hc : 1024 ≤ c) (hm : powLe c m = true) (hD : 10 ^ n ≤ D) (h : (m : Int) ≤ (n : Int) + k) (hk : 0 ≤ k) : decRnd D k = 9218868437227405312 := by
  have p1 := ten_pow_pos n
  unfold decRnd
  rw [if_neg (by omega), if_pos hk]
  have p2 := ten_pow_pos k.toNat
  refine rnd_big (n := c) (Nat.ne_of_gt (Nat.mul_pos (by omega) p2)) (by omega) hc ?_
  have h1 : 10 ^ (n + k.toNat) ≤ D * 10 ^ k.toNat := by rw [Nat.pow_add]; exact Nat.mul_le_mul_right _ hD
  have h2 : 10 ^ m ≤ 10 ^ (n + k.toNat) := Nat.pow_le_pow_right (by omega) (by omega)
  rw [Nat.one_mul]
  exact Nat.le_trans (powLe_le hm) (Nat.le_trans h2 h1)

theorem decRnd_big {D : Nat} {k : Int} {n : Nat} (hD : 10 ^ n ≤ D) (h : 309 ≤ (n : Int) + k) (hk : 0 ≤ k) : decRnd D k = 9218868437227405312 :=
  decRnd_big_aux (m := 309) (c := 1024) (Nat.le_refl _) two_ten_big hD h hk

theorem decRnd_tiny_aux {D m c : Nat} {k : Int} {n : Nat} (hc : 1076 ≤ c) (hm : powLe c m = true) (hD : D < 10 ^ n) (hD0 : D ≠ 0) (h : (n : Int) + k ≤ -(m : Int)) (hk : ¬ 0 ≤ k) : decRnd D k = 0 := by
  unfold decRnd
  rw [if_neg hD0, if_neg hk]
  refine rnd_tiny (n := c) hD0 (Nat.ne_of_gt (ten_pow_pos _)) hc ?_
  have h1 : 10 ^ (n + m) ≤ 10 ^ (-k).toNat := Nat.pow_le_pow_right (by omega) (by omega)
  rw [Nat.pow_add] at h1
  have h2 := powLe_le hm
  have h3 : D * 2 ^ c ≤ D * 10 ^ m := Nat.mul_le_mul_left _ h2
  have h4 : D * 10 ^ m < 10 ^ n * 10 ^ m := (Nat.mul_lt_mul_right (ten_pow_pos m)).2 hD
  exact Nat.lt_of_le_of_lt h3 (Nat.lt_of_lt_of_le h4 h1)

theorem decRnd_tiny {D : Nat} {k : Int} {n : Nat} (hD : D < 10 ^ n) (hD0 : D ≠ 0) (h : (n : Int) + k ≤ -324) : decRnd D k = 0 :=
  decRnd_tiny_aux (m := 324) (c := 1076) (Nat.le_refl _) two_ten_tiny hD hD0 h (by omega)

end Go.Proofs.YthdcceackfdbbaaDoor
