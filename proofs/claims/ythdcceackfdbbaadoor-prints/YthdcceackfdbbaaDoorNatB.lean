/- Plain mathematics: whole numbers in places of a thousand million. Own text. -/
import Derived.Test.YthdcceackfdbbaaDoorNat
namespace Go.Proofs.YthdcceackfdbbaaDoor

def valB : List Nat → Nat
  | [] => 0
  | x :: r => x + 1000000000 * valB r

/-- Every word is below 2^32. -/
def WdsB (l : List Nat) : Prop := ∀ x ∈ l, x < 1000000000

theorem val_appendB (a b : List Nat) : valB (a ++ b) = valB a + 1000000000 ^ a.length * valB b := by
  induction a with
  | nil => simp [valB]
  | cons x r ih => simp only [List.cons_append, valB, ih, List.length_cons, Nat.pow_succ, Nat.mul_add]; rw [Nat.mul_comm (1000000000 ^ r.length) 1000000000, Nat.mul_assoc]; omega

theorem val_ltB {l : List Nat} (h : WdsB l) : valB l < 1000000000 ^ l.length := by
  induction l with
  | nil => simp [valB]
  | cons x r ih =>
    have h1 := h x (by simp)
    have h2 := ih (fun y hy => h y (by simp [hy]))
    simp only [valB, List.length_cons, Nat.pow_succ]
    have h3 : valB r + 1 ≤ 1000000000 ^ r.length := h2
    have h4 := Nat.mul_le_mul_left 1000000000 h3
    rw [Nat.mul_comm (1000000000 ^ r.length)]
    omega

theorem canon_leB {l : List Nat} (h : Canon l) (hne : l ≠ []) : 1000000000 ^ (l.length - 1) ≤ valB l := by
  obtain ⟨r, x, rfl⟩ := snoc_of_ne hne
  have hx : x ≠ 0 := h x (by simp)
  rw [val_appendB]
  simp only [valB, List.length_append, List.length_cons, List.length_nil]
  have : 1000000000 ^ r.length * 1 ≤ 1000000000 ^ r.length * (x + 1000000000 * 0) := Nat.mul_le_mul_left _ (by omega)
  simp at this ⊢
  omega

theorem canon_lenB {l : List Nat} (h : Canon l) {k : Nat} (hk : valB l < 1000000000 ^ k) : l.length ≤ k := by
  by_cases hne : l = []
  · simp [hne]
  · have h1 := canon_leB h hne
    have h2 : 1000000000 ^ (l.length - 1) < 1000000000 ^ k := Nat.lt_of_le_of_lt h1 hk
    have h3 := (Nat.pow_lt_pow_iff_right (by omega : 1 < 1000000000)).1 h2
    omega

theorem canon_zeroB {l : List Nat} (h : Canon l) (hk : valB l = 0) : l = [] := by
  by_cases hne : l = []
  · exact hne
  · have h1 := canon_leB h hne
    have : 0 < 1000000000 ^ (l.length - 1) := Nat.pow_pos (by omega)
    omega

theorem trimL_valB (l : List Nat) : valB (trimL l) = valB l := by
  refine trimL_cases (fun l => valB (trimL l) = valB l) rfl ?_ ?_ l
  · intro r x hx; rw [trimL_snoc_ne r hx]
  · intro r h; rw [trimL_snoc_zero, h, val_appendB]; simp [valB]

theorem wds_takeB {l : List Nat} (h : WdsB l) (k : Nat) : WdsB (l.take k) := fun x hx => h x (List.mem_of_mem_take hx)

theorem trimL_wdsB {l : List Nat} (h : WdsB l) : WdsB (trimL l) := by
  obtain ⟨k, _, e⟩ := trimL_prefix l
  rw [e]; exact wds_takeB h k

theorem val_snocB (l : List Nat) (x : Nat) : valB (l ++ [x]) = valB l + 1000000000 ^ l.length * x := by rw [val_appendB]; simp [valB]

theorem mulAdd_stepB {p l : List Nat} {k x cy f m y c' : Nat} (hp : k < p.length) (hx : l[k]? = some x) (ht : y + 1000000000 * c' = cy + x * f)
    (h : valB (p.take k) + 1000000000 ^ k * cy = valB (l.take k) * f + m) : valB ((p.set k y).take (k + 1)) + 1000000000 ^ (k + 1) * c' = valB (l.take (k + 1)) * f + m := by
  have hk : k < l.length := (List.getElem?_eq_some_iff.1 hx).1
  rw [set_take_succ hp, take_snoc_get hx, val_snocB, val_snocB, take_len (by omega), take_len (by omega)]
  have e : 1000000000 ^ (k + 1) * c' = 1000000000 ^ k * (1000000000 * c') := by rw [Nat.pow_succ, Nat.mul_assoc]
  have e2 : 1000000000 ^ k * (y + 1000000000 * c') = 1000000000 ^ k * (cy + x * f) := by rw [ht]
  rw [Nat.mul_add, Nat.mul_add] at e2
  rw [e, Nat.add_mul, Nat.mul_assoc (1000000000 ^ k) x f]
  omega

theorem val_take_succB {l : List Nat} {k y : Nat} (h : l[k]? = some y ∨ (l.length ≤ k ∧ y = 0)) : valB (l.take (k + 1)) = valB (l.take k) + 1000000000 ^ k * y := by
  rcases h with h | ⟨h, rfl⟩
  · rw [take_snoc_get h, val_snocB, take_len (by have := (List.getElem?_eq_some_iff.1 h).1; omega)]
  · rw [List.take_of_length_le (by omega), List.take_of_length_le h]; simp

theorem val_zerosB (n : Nat) : valB (List.replicate n 0) = 0 := by
  induction n with
  | zero => rfl
  | succ n ih => simp [List.replicate_succ, valB, ih]

theorem val_splitB {l : List Nat} {k x : Nat} (h : l[k]? = some x) : valB l = valB (l.take k) + 1000000000 ^ k * (x + 1000000000 * valB (l.drop (k + 1))) := by
  have hk := (List.getElem?_eq_some_iff.1 h).1
  have e : l = l.take k ++ x :: l.drop (k + 1) := by
    have h1 := (List.take_append_drop k l).symm
    rw [List.drop_eq_getElem_cons hk] at h1
    rw [(List.getElem?_eq_some_iff.1 h).2] at h1
    exact h1
  have := congrArg valB e
  rw [val_appendB, take_len (by omega)] at this
  simpa [valB] using this

theorem val_lt_ofB {la lb : List Nat} {k x y : Nat} (hw : WdsB la) (hx : la[k]? = some x) (hy : lb[k]? = some y) (hd : la.drop (k + 1) = lb.drop (k + 1)) (h : x < y) : valB la < valB lb := by
  rw [val_splitB hx, val_splitB hy, hd]
  have h1 := val_ltB (wds_takeB hw k)
  rw [take_len (by have := (List.getElem?_eq_some_iff.1 hx).1; omega)] at h1
  have h2 : 1000000000 ^ k * (x + 1000000000 * valB (lb.drop (k + 1)) + 1) ≤ 1000000000 ^ k * (y + 1000000000 * valB (lb.drop (k + 1))) := Nat.mul_le_mul_left _ (by omega)
  rw [Nat.mul_add _ _ 1] at h2
  omega

theorem val_lt_lenB {la lb : List Nat} (hw : WdsB la) (hc : Canon lb) (h : la.length < lb.length) : valB la < valB lb := by
  have h1 := val_ltB hw
  have h2 := canon_leB hc (by intro e; simp [e] at h)
  have h3 : 1000000000 ^ la.length ≤ 1000000000 ^ (lb.length - 1) := Nat.pow_le_pow_right (by omega) (by omega)
  omega

end Go.Proofs.YthdcceackfdbbaaDoor
