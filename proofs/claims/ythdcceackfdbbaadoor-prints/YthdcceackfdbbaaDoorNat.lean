/- Plain mathematics: natural numbers as lists of words. Own text. -/
import Derived.KernelRfl
namespace Go.Proofs.YthdcceackfdbbaaDoor

def val : List Nat → Nat
  | [] => 0
  | x :: r => x + 4294967296 * val r

/-- Every word is below 2^32. -/
def Wds (l : List Nat) : Prop := ∀ x ∈ l, x < 4294967296

/-- The last word is not 0. -/
def Canon (l : List Nat) : Prop := ∀ x, l.getLast? = some x → x ≠ 0

/-- A number of at most 2048 words. -/
def Small (a : Nat) : Prop := ∃ L, L ≤ 2048 ∧ a < 4294967296 ^ L

theorem Small.le {a b : Nat} (h : Small b) (hl : a ≤ b) : Small a := by
  obtain ⟨L, h1, h2⟩ := h; exact ⟨L, h1, Nat.lt_of_le_of_lt hl h2⟩

theorem Small.of_lt {a k : Nat} (h : a < 2 ^ k) (hk : k ≤ 65536) : Small a := by
  refine ⟨(k + 31) / 32, by omega, Nat.lt_of_lt_of_le h ?_⟩
  rw [show (4294967296 : Nat) = 2 ^ 32 from rfl, ← Nat.pow_mul]
  exact Nat.pow_le_pow_right (by omega) (by omega)

theorem val_append (a b : List Nat) : val (a ++ b) = val a + 4294967296 ^ a.length * val b := by
  induction a with
  | nil => simp [val]
  | cons x r ih => simp only [List.cons_append, val, ih, List.length_cons, Nat.pow_succ, Nat.mul_add]; rw [Nat.mul_comm (4294967296 ^ r.length) 4294967296, Nat.mul_assoc]; omega

theorem val_lt {l : List Nat} (h : Wds l) : val l < 4294967296 ^ l.length := by
  induction l with
  | nil => simp [val]
  | cons x r ih =>
    have h1 := h x (by simp)
    have h2 := ih (fun y hy => h y (by simp [hy]))
    simp only [val, List.length_cons, Nat.pow_succ]
    have h3 : val r + 1 ≤ 4294967296 ^ r.length := h2
    have h4 := Nat.mul_le_mul_left 4294967296 h3
    rw [Nat.mul_comm (4294967296 ^ r.length)]
    omega

theorem canon_snoc {l : List Nat} {x : Nat} (hx : x ≠ 0) : Canon (l ++ [x]) := by
  intro y hy
  simp at hy
  omega

theorem canon_nil : Canon [] := by intro y hy; simp at hy

theorem snoc_of_ne {l : List Nat} (h : l ≠ []) : ∃ r x, l = r ++ [x] := ⟨l.dropLast, l.getLast h, (List.dropLast_concat_getLast h).symm⟩

theorem canon_le {l : List Nat} (h : Canon l) (hne : l ≠ []) : 4294967296 ^ (l.length - 1) ≤ val l := by
  obtain ⟨r, x, rfl⟩ := snoc_of_ne hne
  have hx : x ≠ 0 := h x (by simp)
  rw [val_append]
  simp only [val, List.length_append, List.length_cons, List.length_nil]
  have : 4294967296 ^ r.length * 1 ≤ 4294967296 ^ r.length * (x + 4294967296 * 0) := Nat.mul_le_mul_left _ (by omega)
  simp at this ⊢
  omega

theorem canon_len {l : List Nat} (h : Canon l) {k : Nat} (hk : val l < 4294967296 ^ k) : l.length ≤ k := by
  by_cases hne : l = []
  · simp [hne]
  · have h1 := canon_le h hne
    have h2 : 4294967296 ^ (l.length - 1) < 4294967296 ^ k := Nat.lt_of_le_of_lt h1 hk
    have h3 := (Nat.pow_lt_pow_iff_right (by omega : 1 < 4294967296)).1 h2
    omega

theorem canon_len_small {l : List Nat} (h : Canon l) (hk : Small (val l)) : l.length ≤ 2048 := by
  obtain ⟨L, h1, h2⟩ := hk
  have := canon_len h h2
  omega

theorem canon_zero {l : List Nat} (h : Canon l) (hk : val l = 0) : l = [] := by
  by_cases hne : l = []
  · exact hne
  · have h1 := canon_le h hne
    have : 0 < 4294967296 ^ (l.length - 1) := Nat.pow_pos (by omega)
    omega

/-- Without noughts at the high end. -/
def trimL (l : List Nat) : List Nat := (l.reverse.dropWhile (· == 0)).reverse

theorem trimL_nil : trimL [] = [] := rfl
theorem trimL_snoc_zero (l : List Nat) : trimL (l ++ [0]) = trimL l := by simp [trimL]
theorem trimL_snoc_ne (l : List Nat) {x : Nat} (h : x ≠ 0) : trimL (l ++ [x]) = l ++ [x] := by
  have : (x == 0) = false := by simpa using h
  simp [trimL, this]

theorem trimL_cases (P : List Nat → Prop) (h0 : P []) (h1 : ∀ l x, x ≠ 0 → P (l ++ [x])) (h2 : ∀ l, P l → P (l ++ [0])) (l : List Nat) : P l := by
  generalize hn : l.length = n
  induction n generalizing l with
  | zero => rw [List.length_eq_zero_iff.1 hn]; exact h0
  | succ n ih =>
    obtain ⟨r, x, rfl⟩ := snoc_of_ne (l := l) (by intro e; simp [e] at hn)
    have hr : r.length = n := by simpa using hn
    by_cases hx : x = 0
    · subst hx; exact h2 r (ih r hr)
    · exact h1 r x hx

theorem trimL_val (l : List Nat) : val (trimL l) = val l := by
  refine trimL_cases (fun l => val (trimL l) = val l) rfl ?_ ?_ l
  · intro r x hx; rw [trimL_snoc_ne r hx]
  · intro r h; rw [trimL_snoc_zero, h, val_append]; simp [val]

theorem trimL_canon (l : List Nat) : Canon (trimL l) := by
  refine trimL_cases (fun l => Canon (trimL l)) canon_nil ?_ ?_ l
  · intro r x hx; rw [trimL_snoc_ne r hx]; exact canon_snoc hx
  · intro r h; rw [trimL_snoc_zero]; exact h

theorem trimL_prefix (l : List Nat) : ∃ k, k ≤ l.length ∧ trimL l = l.take k := by
  refine trimL_cases (fun l => ∃ k, k ≤ l.length ∧ trimL l = l.take k) ⟨0, by simp, rfl⟩ ?_ ?_ l
  · intro r x hx; exact ⟨_, Nat.le_refl _, by rw [trimL_snoc_ne r hx, List.take_length]⟩
  · rintro r ⟨k, hk, h⟩; exact ⟨k, by simp; omega, by rw [trimL_snoc_zero, h, List.take_append_of_le_length hk]⟩

theorem wds_take {l : List Nat} (h : Wds l) (k : Nat) : Wds (l.take k) := fun x hx => h x (List.mem_of_mem_take hx)

theorem trimL_wds {l : List Nat} (h : Wds l) : Wds (trimL l) := by
  obtain ⟨k, _, e⟩ := trimL_prefix l
  rw [e]; exact wds_take h k

theorem trimL_len (l : List Nat) : (trimL l).length ≤ l.length := by
  obtain ⟨k, hk, e⟩ := trimL_prefix l
  rw [e, List.length_take]; omega

theorem take_snoc_get {α : Type} {l : List α} {k : Nat} {x : α} (h : l[k]? = some x) : l.take (k + 1) = l.take k ++ [x] := by
  rw [List.take_add_one, h]; rfl

theorem set_take_succ {α : Type} {p : List α} {k : Nat} (hk : k < p.length) (y : α) : (p.set k y).take (k + 1) = p.take k ++ [y] := by
  rw [take_snoc_get (x := y) (by simp [hk])]
  rw [List.take_set_of_le (Nat.le_refl k)]

theorem take_len {α : Type} {l : List α} {k : Nat} (h : k ≤ l.length) : (l.take k).length = k := by rw [List.length_take]; omega

theorem val_snoc (l : List Nat) (x : Nat) : val (l ++ [x]) = val l + 4294967296 ^ l.length * x := by rw [val_append]; simp [val]

theorem mulAdd_step {p l : List Nat} {k x cy f m y c' : Nat} (hp : k < p.length) (hx : l[k]? = some x) (ht : y + 4294967296 * c' = cy + x * f)
    (h : val (p.take k) + 4294967296 ^ k * cy = val (l.take k) * f + m) : val ((p.set k y).take (k + 1)) + 4294967296 ^ (k + 1) * c' = val (l.take (k + 1)) * f + m := by
  have hk : k < l.length := (List.getElem?_eq_some_iff.1 hx).1
  rw [set_take_succ hp, take_snoc_get hx, val_snoc, val_snoc, take_len (by omega), take_len (by omega)]
  have e : 4294967296 ^ (k + 1) * c' = 4294967296 ^ k * (4294967296 * c') := by rw [Nat.pow_succ, Nat.mul_assoc]
  have e2 : 4294967296 ^ k * (y + 4294967296 * c') = 4294967296 ^ k * (cy + x * f) := by rw [ht]
  rw [Nat.mul_add, Nat.mul_add] at e2
  rw [e, Nat.add_mul, Nat.mul_assoc (4294967296 ^ k) x f]
  omega

theorem set_last {p : List Nat} {n y : Nat} (hp : p.length = n + 1) : p.set n y = p.take n ++ [y] := by
  rw [← set_take_succ (by omega) y, List.take_of_length_le (by simp; omega)]

theorem val_set_last {p : List Nat} {n y : Nat} (hp : p.length = n + 1) : val (p.set n y) = val (p.take n) + 4294967296 ^ n * y := by
  rw [set_last hp, val_snoc, take_len (by omega)]

theorem val_take_succ {l : List Nat} {k y : Nat} (h : l[k]? = some y ∨ (l.length ≤ k ∧ y = 0)) : val (l.take (k + 1)) = val (l.take k) + 4294967296 ^ k * y := by
  rcases h with h | ⟨h, rfl⟩
  · rw [take_snoc_get h, val_snoc, take_len (by have := (List.getElem?_eq_some_iff.1 h).1; omega)]
  · rw [List.take_of_length_le (by omega), List.take_of_length_le h]; simp

theorem take_step {la lb p : List Nat} {k x y r b' bw : Nat} (hx : la[k]? = some x) (hy : lb[k]? = some y ∨ (lb.length ≤ k ∧ y = 0)) (hp : k < p.length) (e : x + 4294967296 * b' = r + y + bw)
    (h : val (la.take k) + 4294967296 ^ k * bw = val (p.take k) + val (lb.take k)) :
    val (la.take (k + 1)) + 4294967296 ^ (k + 1) * b' = val ((p.set k r).take (k + 1)) + val (lb.take (k + 1)) := by
  rw [val_take_succ (.inl hx), val_take_succ hy, set_take_succ hp, val_snoc, take_len (by omega)]
  have e1 : 4294967296 ^ (k + 1) * b' = 4294967296 ^ k * (4294967296 * b') := by rw [Nat.pow_succ, Nat.mul_assoc]
  have e2 : 4294967296 ^ k * (x + 4294967296 * b') = 4294967296 ^ k * (r + y + bw) := by rw [e]
  rw [Nat.mul_add, Nat.mul_add, Nat.mul_add] at e2
  omega

theorem drop_step {p la : List Nat} {k r : Nat} (h : p.drop k = la.drop k) : (p.set k r).drop (k + 1) = la.drop (k + 1) := by
  rw [List.drop_set_of_lt (by omega)]
  have := congrArg (List.drop 1) h
  simpa [List.drop_drop, Nat.add_comm] using this

theorem get_of_drop {p la : List Nat} {k x : Nat} (h : p.drop k = la.drop k) (hx : p[k]? = some x) : la[k]? = some x := by
  have := congrArg (fun l : List Nat => l[0]?) h
  simp [hx] at this
  exact this.symm

theorem take_end {la lb p : List Nat} {bw : Nat} (hw : Wds p) (hp : p.length = la.length) (hlb : lb.length ≤ la.length) (hle : val lb ≤ val la) (h : val (la.take la.length) + 4294967296 ^ la.length * bw = val (p.take la.length) + val (lb.take la.length)) : val p = val la - val lb := by
  have h1 := val_lt hw
  rw [List.take_length, List.take_of_length_le hlb, List.take_of_length_le (by omega)] at h
  rw [hp] at h1
  have : bw = 0 := by
    by_cases e : bw = 0
    · exact e
    · have : 4294967296 ^ la.length * 1 ≤ 4294967296 ^ la.length * bw := Nat.mul_le_mul_left _ (by omega)
      omega
  subst this
  omega

theorem borrow_nat (x y bw : Nat) (hx : x < 4294967296) (hy : y < 4294967296) (hb : bw ≤ 1) :
    ∃ r b' : Nat, ((((x : Int) - bw) % 18446744073709551616 - y) % 18446744073709551616) % 4294967296 = (r : Int) ∧ ((((x : Int) - bw) % 18446744073709551616 - y) % 18446744073709551616) / 9223372036854775808 = (b' : Int) ∧ r < 4294967296 ∧ b' ≤ 1 ∧ x + 4294967296 * b' = r + y + bw := by
  by_cases h : x < y + bw
  · exact ⟨x + 4294967296 - y - bw, 1, by omega, by omega, by omega, by omega, by omega⟩
  · exact ⟨x - y - bw, 0, by omega, by omega, by omega, by omega, by omega⟩

theorem borrow_nat0 (x bw : Nat) (hx : x < 4294967296) (hb : bw ≤ 1) :
    ∃ r b' : Nat, (((x : Int) - bw) % 18446744073709551616) % 4294967296 = (r : Int) ∧ (((x : Int) - bw) % 18446744073709551616) / 9223372036854775808 = (b' : Int) ∧ r < 4294967296 ∧ b' ≤ 1 ∧ x + 4294967296 * b' = r + 0 + bw := by
  by_cases h : x < bw
  · exact ⟨x + 4294967296 - bw, 1, by omega, by omega, by omega, by omega, by omega⟩
  · exact ⟨x - bw, 0, by omega, by omega, by omega, by omega, by omega⟩

theorem mulAdd_carry {cy x f : Nat} (hc : cy < 4294967296) (hx : x < 4294967296) (hf : f < 4294967296) : x * f ≤ 18446744065119617025 ∧ (cy + x * f) / 4294967296 < 4294967296 := by
  have h1 : x * f ≤ 4294967295 * 4294967295 := Nat.mul_le_mul (by omega) (by omega)
  exact ⟨by omega, by omega⟩

theorem mul_step {p p0 lb : List Nat} {k j x y z cy r c' : Nat} (hp : k + j < p.length) (hp0 : p0[k + j]? = some z) (hy : lb[j]? = some y) (ht : r + 4294967296 * c' = cy + (x * y + z))
    (h : val (p.take (k + j)) + 4294967296 ^ (k + j) * cy = val (p0.take (k + j)) + 4294967296 ^ k * (x * val (lb.take j))) :
    val ((p.set (k + j) r).take (k + (j + 1))) + 4294967296 ^ (k + (j + 1)) * c' = val (p0.take (k + (j + 1))) + 4294967296 ^ k * (x * val (lb.take (j + 1))) := by
  rw [show k + (j + 1) = (k + j) + 1 from by omega, set_take_succ hp, val_snoc, take_len (by omega), val_take_succ (.inl hp0), val_take_succ (.inl hy)]
  have e1 : 4294967296 ^ (k + j + 1) * c' = 4294967296 ^ (k + j) * (4294967296 * c') := by rw [Nat.pow_succ, Nat.mul_assoc]
  have e2 : 4294967296 ^ (k + j) * (r + 4294967296 * c') = 4294967296 ^ (k + j) * (cy + (x * y + z)) := by rw [ht]
  have e3 : 4294967296 ^ k * (x * (val (lb.take j) + 4294967296 ^ j * y)) = 4294967296 ^ k * (x * val (lb.take j)) + 4294967296 ^ (k + j) * (x * y) := by
    rw [Nat.mul_add, Nat.mul_add, Nat.pow_add, Nat.mul_assoc (4294967296 ^ k) (4294967296 ^ j), Nat.mul_left_comm x]
  rw [Nat.mul_add, Nat.mul_add, Nat.mul_add] at e2
  rw [e1, e3]
  omega

theorem mul_row {p p0 la lb : List Nat} {k x cy : Nat} (hp : k + lb.length < p.length) (hx : la[k]? = some x)
    (h0 : val (p0.take (k + lb.length)) = val (la.take k) * val lb)
    (h : val (p.take (k + lb.length)) + 4294967296 ^ (k + lb.length) * cy = val (p0.take (k + lb.length)) + 4294967296 ^ k * (x * val (lb.take lb.length))) :
    val ((p.set (k + lb.length) cy).take ((k + 1) + lb.length)) = val (la.take (k + 1)) * val lb := by
  rw [show (k + 1) + lb.length = (k + lb.length) + 1 from by omega, set_take_succ hp, val_snoc, take_len (by omega), h, h0, val_take_succ (.inl hx), List.take_length, Nat.add_mul, Nat.mul_assoc]

theorem mul_carry {cy x y z : Nat} (hc : cy < 4294967296) (hx : x < 4294967296) (hy : y < 4294967296) (hz : z < 4294967296) : x * y ≤ 18446744065119617025 ∧ (cy + (x * y + z)) / 4294967296 < 4294967296 := by
  have h1 : x * y ≤ 4294967295 * 4294967295 := Nat.mul_le_mul (by omega) (by omega)
  exact ⟨by omega, by omega⟩

theorem val_zeros (n : Nat) : val (List.replicate n 0) = 0 := by
  induction n with
  | zero => rfl
  | succ n ih => simp [List.replicate_succ, val, ih]

theorem val_split {l : List Nat} {k x : Nat} (h : l[k]? = some x) : val l = val (l.take k) + 4294967296 ^ k * (x + 4294967296 * val (l.drop (k + 1))) := by
  have hk := (List.getElem?_eq_some_iff.1 h).1
  have e : l = l.take k ++ x :: l.drop (k + 1) := by
    have h1 := (List.take_append_drop k l).symm
    rw [List.drop_eq_getElem_cons hk] at h1
    rw [(List.getElem?_eq_some_iff.1 h).2] at h1
    exact h1
  have := congrArg val e
  rw [val_append, take_len (by omega)] at this
  simpa [val] using this

theorem val_lt_of {la lb : List Nat} {k x y : Nat} (hw : Wds la) (hx : la[k]? = some x) (hy : lb[k]? = some y) (hd : la.drop (k + 1) = lb.drop (k + 1)) (h : x < y) : val la < val lb := by
  rw [val_split hx, val_split hy, hd]
  have h1 := val_lt (wds_take hw k)
  rw [take_len (by have := (List.getElem?_eq_some_iff.1 hx).1; omega)] at h1
  have h2 : 4294967296 ^ k * (x + 4294967296 * val (lb.drop (k + 1)) + 1) ≤ 4294967296 ^ k * (y + 4294967296 * val (lb.drop (k + 1))) := Nat.mul_le_mul_left _ (by omega)
  rw [Nat.mul_add _ _ 1] at h2
  omega

theorem val_lt_len {la lb : List Nat} (hw : Wds la) (hc : Canon lb) (h : la.length < lb.length) : val la < val lb := by
  have h1 := val_lt hw
  have h2 := canon_le hc (by intro e; simp [e] at h)
  have h3 : 4294967296 ^ la.length ≤ 4294967296 ^ (lb.length - 1) := Nat.pow_le_pow_right (by omega) (by omega)
  omega

end Go.Proofs.YthdcceackfdbbaaDoor
