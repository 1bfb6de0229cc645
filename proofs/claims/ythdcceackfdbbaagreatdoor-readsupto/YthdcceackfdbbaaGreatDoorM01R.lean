import Derived.Test.YthdcceackfdbbaaGreatDoorRows
import Derived.Test.YthdcceackfdbbaaGreatDoorM00R
import Derived.Test.YthdcceackfdbbaaGreatDoorShelfQR
import Derived.KernelRfl
import Derived.WalkKit
import Derived.WalkSpells
import Derived.WalkLawsBesides
import Derived.Lib.OthersKept
import Derived.Laws.BitsAllLaws
import Derived.Deep.QuietTactic
import Derived.BigQuiet
namespace Go.Proofs.YthdcceackfdbbaaGreatDoor
def val : List Nat → Nat
  | [] => 0
  | x :: r => x + 4294967296 * val r
def Wds (l : List Nat) : Prop := ∀ x ∈ l, x < 4294967296
def Canon (l : List Nat) : Prop := ∀ x, l.getLast? = some x → x ≠ 0
def Small (a : Nat) : Prop := ∃ L, L ≤ 2048 ∧ a < 4294967296 ^ L
theorem Small.le {a b : Nat} (h : Small b) (hl : a ≤ b) : Small a := by
  obtain ⟨L, h1, h2⟩ := h; exact ⟨L, h1, Nat.lt_of_le_of_lt hl h2⟩
theorem Small.of_lt {a k : Nat} (h : a < 2 ^ k) (hk : k ≤ 65536) : Small a := by
  refine ⟨(k + 31) / 32, by omega, Nat.lt_of_lt_of_le h ?_⟩
  rw [show (4294967296 : Nat) = 2 ^ 32 from rfl, ← Nat.pow_mul]
  exact Nat.pow_le_pow_right (by omega) (by omega)
theorem val_append (a b : List Nat) : val (a ++ b) = val a + 4294967296 ^ a.length * val b := by
  induction a with
  | nil => simp [val]
  | cons x r ih => simp only [List.cons_append, val, ih, List.length_cons, Nat.pow_succ, Nat.mul_add]; rw [Nat.mul_comm (4294967296 ^ r.length) 4294967296, Nat.mul_assoc]; omega
theorem val_lt {l : List Nat} (h : Wds l) : val l < 4294967296 ^ l.length := by
  induction l with
  | nil => simp [val]
  | cons x r ih =>
    have h1 := h x (by simp)
    have h2 := ih (fun y hy => h y (by simp [hy]))
    simp only [val, List.length_cons, Nat.pow_succ]
    have h3 : val r + 1 ≤ 4294967296 ^ r.length := h2
    have h4 := Nat.mul_le_mul_left 4294967296 h3
    rw [Nat.mul_comm (4294967296 ^ r.length)]
    omega
theorem canon_snoc {l : List Nat} {x : Nat} (hx : x ≠ 0) : Canon (l ++ [x]) := by
  intro y hy
  simp at hy
  omega
theorem canon_nil : Canon [] := by intro y hy; simp at hy
theorem snoc_of_ne {l : List Nat} (h : l ≠ []) : ∃ r x, l = r ++ [x] := ⟨l.dropLast, l.getLast h, (List.dropLast_concat_getLast h).symm⟩
theorem canon_le {l : List Nat} (h : Canon l) (hne : l ≠ []) : 4294967296 ^ (l.length - 1) ≤ val l := by
  obtain ⟨r, x, rfl⟩ := snoc_of_ne hne
  have hx : x ≠ 0 := h x (by simp)
  rw [val_append]
  simp only [val, List.length_append, List.length_cons, List.length_nil]
  have : 4294967296 ^ r.length * 1 ≤ 4294967296 ^ r.length * (x + 4294967296 * 0) := Nat.mul_le_mul_left _ (by omega)
  simp at this ⊢
  omega
theorem canon_len {l : List Nat} (h : Canon l) {k : Nat} (hk : val l < 4294967296 ^ k) : l.length ≤ k := by
  by_cases hne : l = []
  · simp [hne]
  · have h1 := canon_le h hne
    have h2 : 4294967296 ^ (l.length - 1) < 4294967296 ^ k := Nat.lt_of_le_of_lt h1 hk
    have h3 := (Nat.pow_lt_pow_iff_right (by omega : 1 < 4294967296)).1 h2
    omega
theorem canon_len_small {l : List Nat} (h : Canon l) (hk : Small (val l)) : l.length ≤ 2048 := by
  obtain ⟨L, h1, h2⟩ := hk
  have := canon_len h h2
  omega
def trimL (l : List Nat) : List Nat := (l.reverse.dropWhile (· == 0)).reverse
theorem trimL_snoc_zero (l : List Nat) : trimL (l ++ [0]) = trimL l := by simp [trimL]
theorem trimL_snoc_ne (l : List Nat) {x : Nat} (h : x ≠ 0) : trimL (l ++ [x]) = l ++ [x] := by
  have : (x == 0) = false := by simpa using h
  simp [trimL, this]
theorem trimL_cases (P : List Nat → Prop) (h0 : P []) (h1 : ∀ l x, x ≠ 0 → P (l ++ [x])) (h2 : ∀ l, P l → P (l ++ [0])) (l : List Nat) : P l := by
  generalize hn : l.length = n
  induction n generalizing l with
  | zero => rw [List.length_eq_zero_iff.1 hn]; exact h0
  | succ n ih =>
    obtain ⟨r, x, rfl⟩ := snoc_of_ne (l := l) (by intro e; simp [e] at hn)
    have hr : r.length = n := by simpa using hn
    by_cases hx : x = 0
    · subst hx; exact h2 r (ih r hr)
    · exact h1 r x hx
theorem trimL_val (l : List Nat) : val (trimL l) = val l := by
  refine trimL_cases (fun l => val (trimL l) = val l) rfl ?_ ?_ l
  · intro r x hx; rw [trimL_snoc_ne r hx]
  · intro r h; rw [trimL_snoc_zero, h, val_append]; simp [val]
theorem trimL_canon (l : List Nat) : Canon (trimL l) := by
  refine trimL_cases (fun l => Canon (trimL l)) canon_nil ?_ ?_ l
  · intro r x hx; rw [trimL_snoc_ne r hx]; exact canon_snoc hx
  · intro r h; rw [trimL_snoc_zero]; exact h
theorem trimL_prefix (l : List Nat) : ∃ k, k ≤ l.length ∧ trimL l = l.take k := by
  refine trimL_cases (fun l => ∃ k, k ≤ l.length ∧ trimL l = l.take k) ⟨0, by simp, rfl⟩ ?_ ?_ l
  · intro r x hx; exact ⟨_, Nat.le_refl _, by rw [trimL_snoc_ne r hx, List.take_length]⟩
  · rintro r ⟨k, hk, h⟩; exact ⟨k, by simp; omega, by rw [trimL_snoc_zero, h, List.take_append_of_le_length hk]⟩
theorem wds_take {l : List Nat} (h : Wds l) (k : Nat) : Wds (l.take k) := fun x hx => h x (List.mem_of_mem_take hx)
theorem trimL_len (l : List Nat) : (trimL l).length ≤ l.length := by
  obtain ⟨k, hk, e⟩ := trimL_prefix l
  rw [e, List.length_take]; omega
theorem take_snoc_get {α : Type} {l : List α} {k : Nat} {x : α} (h : l[k]? = some x) : l.take (k + 1) = l.take k ++ [x] := by
  rw [List.take_add_one, h]; rfl
theorem set_take_succ {α : Type} {p : List α} {k : Nat} (hk : k < p.length) (y : α) : (p.set k y).take (k + 1) = p.take k ++ [y] := by
  rw [take_snoc_get (x := y) (by simp [hk])]
  rw [List.take_set_of_le (Nat.le_refl k)]
theorem take_len {α : Type} {l : List α} {k : Nat} (h : k ≤ l.length) : (l.take k).length = k := by rw [List.length_take]; omega
theorem val_snoc (l : List Nat) (x : Nat) : val (l ++ [x]) = val l + 4294967296 ^ l.length * x := by rw [val_append]; simp [val]
theorem mulAdd_step {p l : List Nat} {k x cy f m y c' : Nat} (hp : k < p.length) (hx : l[k]? = some x) (ht : y + 4294967296 * c' = cy + x * f)
    (h : val (p.take k) + 4294967296 ^ k * cy = val (l.take k) * f + m) : val ((p.set k y).take (k + 1)) + 4294967296 ^ (k + 1) * c' = val (l.take (k + 1)) * f + m := by
  have hk : k < l.length := (List.getElem?_eq_some_iff.1 hx).1
  rw [set_take_succ hp, take_snoc_get hx, val_snoc, val_snoc, take_len (by omega), take_len (by omega)]
  have e : 4294967296 ^ (k + 1) * c' = 4294967296 ^ k * (4294967296 * c') := by rw [Nat.pow_succ, Nat.mul_assoc]
  have e2 : 4294967296 ^ k * (y + 4294967296 * c') = 4294967296 ^ k * (cy + x * f) := by rw [ht]
  rw [Nat.mul_add, Nat.mul_add] at e2
  rw [e, Nat.add_mul, Nat.mul_assoc (4294967296 ^ k) x f]
  omega
theorem set_last {p : List Nat} {n y : Nat} (hp : p.length = n + 1) : p.set n y = p.take n ++ [y] := by
  rw [← set_take_succ (by omega) y, List.take_of_length_le (by simp; omega)]
theorem val_set_last {p : List Nat} {n y : Nat} (hp : p.length = n + 1) : val (p.set n y) = val (p.take n) + 4294967296 ^ n * y := by
  rw [set_last hp, val_snoc, take_len (by omega)]
theorem val_take_succ {l : List Nat} {k y : Nat} (h : l[k]? = some y ∨ (l.length ≤ k ∧ y = 0)) : val (l.take (k + 1)) = val (l.take k) + 4294967296 ^ k * y := by
  rcases h with h | ⟨h, rfl⟩
  · rw [take_snoc_get h, val_snoc, take_len (by have := (List.getElem?_eq_some_iff.1 h).1; omega)]
  · rw [List.take_of_length_le (by omega), List.take_of_length_le h]; simp
theorem take_step {la lb p : List Nat} {k x y r b' bw : Nat} (hx : la[k]? = some x) (hy : lb[k]? = some y ∨ (lb.length ≤ k ∧ y = 0)) (hp : k < p.length) (e : x + 4294967296 * b' = r + y + bw)
    (h : val (la.take k) + 4294967296 ^ k * bw = val (p.take k) + val (lb.take k)) :
    val (la.take (k + 1)) + 4294967296 ^ (k + 1) * b' = val ((p.set k r).take (k + 1)) + val (lb.take (k + 1)) := by
  rw [val_take_succ (.inl hx), val_take_succ hy, set_take_succ hp, val_snoc, take_len (by omega)]
  have e1 : 4294967296 ^ (k + 1) * b' = 4294967296 ^ k * (4294967296 * b') := by rw [Nat.pow_succ, Nat.mul_assoc]
  have e2 : 4294967296 ^ k * (x + 4294967296 * b') = 4294967296 ^ k * (r + y + bw) := by rw [e]
  rw [Nat.mul_add, Nat.mul_add, Nat.mul_add] at e2
  omega
theorem drop_step {p la : List Nat} {k r : Nat} (h : p.drop k = la.drop k) : (p.set k r).drop (k + 1) = la.drop (k + 1) := by
  rw [List.drop_set_of_lt (by omega)]
  have := congrArg (List.drop 1) h
  simpa [List.drop_drop, Nat.add_comm] using this
theorem get_of_drop {p la : List Nat} {k x : Nat} (h : p.drop k = la.drop k) (hx : p[k]? = some x) : la[k]? = some x := by
  have := congrArg (fun l : List Nat => l[0]?) h
  simp [hx] at this
  exact this.symm
theorem take_end {la lb p : List Nat} {bw : Nat} (hw : Wds p) (hp : p.length = la.length) (hlb : lb.length ≤ la.length) (hle : val lb ≤ val la) (h : val (la.take la.length) + 4294967296 ^ la.length * bw = val (p.take la.length) + val (lb.take la.length)) : val p = val la - val lb := by
  have h1 := val_lt hw
  rw [List.take_length, List.take_of_length_le hlb, List.take_of_length_le (by omega)] at h
  rw [hp] at h1
  have : bw = 0 := by
    by_cases e : bw = 0
    · exact e
    · have : 4294967296 ^ la.length * 1 ≤ 4294967296 ^ la.length * bw := Nat.mul_le_mul_left _ (by omega)
      omega
  subst this
  omega
theorem borrow_nat (x y bw : Nat) (hx : x < 4294967296) (hy : y < 4294967296) (hb : bw ≤ 1) :
    ∃ r b' : Nat, ((((x : Int) - bw) % 18446744073709551616 - y) % 18446744073709551616) % 4294967296 = (r : Int) ∧ ((((x : Int) - bw) % 18446744073709551616 - y) % 18446744073709551616) / 9223372036854775808 = (b' : Int) ∧ r < 4294967296 ∧ b' ≤ 1 ∧ x + 4294967296 * b' = r + y + bw := by
  by_cases h : x < y + bw
  · exact ⟨x + 4294967296 - y - bw, 1, by omega, by omega, by omega, by omega, by omega⟩
  · exact ⟨x - y - bw, 0, by omega, by omega, by omega, by omega, by omega⟩
theorem borrow_nat0 (x bw : Nat) (hx : x < 4294967296) (hb : bw ≤ 1) :
    ∃ r b' : Nat, (((x : Int) - bw) % 18446744073709551616) % 4294967296 = (r : Int) ∧ (((x : Int) - bw) % 18446744073709551616) / 9223372036854775808 = (b' : Int) ∧ r < 4294967296 ∧ b' ≤ 1 ∧ x + 4294967296 * b' = r + 0 + bw := by
  by_cases h : x < bw
  · exact ⟨x + 4294967296 - bw, 1, by omega, by omega, by omega, by omega, by omega⟩
  · exact ⟨x - bw, 0, by omega, by omega, by omega, by omega, by omega⟩
theorem mulAdd_carry {cy x f : Nat} (hc : cy < 4294967296) (hx : x < 4294967296) (hf : f < 4294967296) : x * f ≤ 18446744065119617025 ∧ (cy + x * f) / 4294967296 < 4294967296 := by
  have h1 : x * f ≤ 4294967295 * 4294967295 := Nat.mul_le_mul (by omega) (by omega)
  exact ⟨by omega, by omega⟩
theorem mul_step {p p0 lb : List Nat} {k j x y z cy r c' : Nat} (hp : k + j < p.length) (hp0 : p0[k + j]? = some z) (hy : lb[j]? = some y) (ht : r + 4294967296 * c' = cy + (x * y + z))
    (h : val (p.take (k + j)) + 4294967296 ^ (k + j) * cy = val (p0.take (k + j)) + 4294967296 ^ k * (x * val (lb.take j))) :
    val ((p.set (k + j) r).take (k + (j + 1))) + 4294967296 ^ (k + (j + 1)) * c' = val (p0.take (k + (j + 1))) + 4294967296 ^ k * (x * val (lb.take (j + 1))) := by
  rw [show k + (j + 1) = (k + j) + 1 from by omega, set_take_succ hp, val_snoc, take_len (by omega), val_take_succ (.inl hp0), val_take_succ (.inl hy)]
  have e1 : 4294967296 ^ (k + j + 1) * c' = 4294967296 ^ (k + j) * (4294967296 * c') := by rw [Nat.pow_succ, Nat.mul_assoc]
  have e2 : 4294967296 ^ (k + j) * (r + 4294967296 * c') = 4294967296 ^ (k + j) * (cy + (x * y + z)) := by rw [ht]
  have e3 : 4294967296 ^ k * (x * (val (lb.take j) + 4294967296 ^ j * y)) = 4294967296 ^ k * (x * val (lb.take j)) + 4294967296 ^ (k + j) * (x * y) := by
    rw [Nat.mul_add, Nat.mul_add, Nat.pow_add, Nat.mul_assoc (4294967296 ^ k) (4294967296 ^ j), Nat.mul_left_comm x]
  rw [Nat.mul_add, Nat.mul_add, Nat.mul_add] at e2
  rw [e1, e3]
  omega
theorem mul_row {p p0 la lb : List Nat} {k x cy : Nat} (hp : k + lb.length < p.length) (hx : la[k]? = some x)
    (h0 : val (p0.take (k + lb.length)) = val (la.take k) * val lb)
    (h : val (p.take (k + lb.length)) + 4294967296 ^ (k + lb.length) * cy = val (p0.take (k + lb.length)) + 4294967296 ^ k * (x * val (lb.take lb.length))) :
    val ((p.set (k + lb.length) cy).take ((k + 1) + lb.length)) = val (la.take (k + 1)) * val lb := by
  rw [show (k + 1) + lb.length = (k + lb.length) + 1 from by omega, set_take_succ hp, val_snoc, take_len (by omega), h, h0, val_take_succ (.inl hx), List.take_length, Nat.add_mul, Nat.mul_assoc]
theorem mul_carry {cy x y z : Nat} (hc : cy < 4294967296) (hx : x < 4294967296) (hy : y < 4294967296) (hz : z < 4294967296) : x * y ≤ 18446744065119617025 ∧ (cy + (x * y + z)) / 4294967296 < 4294967296 := by
  have h1 : x * y ≤ 4294967295 * 4294967295 := Nat.mul_le_mul (by omega) (by omega)
  exact ⟨by omega, by omega⟩
theorem val_zeros (n : Nat) : val (List.replicate n 0) = 0 := by
  induction n with
  | zero => rfl
  | succ n ih => simp [List.replicate_succ, val, ih]
theorem val_split {l : List Nat} {k x : Nat} (h : l[k]? = some x) : val l = val (l.take k) + 4294967296 ^ k * (x + 4294967296 * val (l.drop (k + 1))) := by
  have hk := (List.getElem?_eq_some_iff.1 h).1
  have e : l = l.take k ++ x :: l.drop (k + 1) := by
    have h1 := (List.take_append_drop k l).symm
    rw [List.drop_eq_getElem_cons hk] at h1
    rw [(List.getElem?_eq_some_iff.1 h).2] at h1
    exact h1
  have := congrArg val e
  rw [val_append, take_len (by omega)] at this
  simpa [val] using this
theorem val_lt_of {la lb : List Nat} {k x y : Nat} (hw : Wds la) (hx : la[k]? = some x) (hy : lb[k]? = some y) (hd : la.drop (k + 1) = lb.drop (k + 1)) (h : x < y) : val la < val lb := by
  rw [val_split hx, val_split hy, hd]
  have h1 := val_lt (wds_take hw k)
  rw [take_len (by have := (List.getElem?_eq_some_iff.1 hx).1; omega)] at h1
  have h2 : 4294967296 ^ k * (x + 4294967296 * val (lb.drop (k + 1)) + 1) ≤ 4294967296 ^ k * (y + 4294967296 * val (lb.drop (k + 1))) := Nat.mul_le_mul_left _ (by omega)
  rw [Nat.mul_add _ _ 1] at h2
  omega
theorem val_lt_len {la lb : List Nat} (hw : Wds la) (hc : Canon lb) (h : la.length < lb.length) : val la < val lb := by
  have h1 := val_lt hw
  have h2 := canon_le hc (by intro e; simp [e] at h)
  have h3 : 4294967296 ^ la.length ≤ 4294967296 ^ (lb.length - 1) := Nat.pow_le_pow_right (by omega) (by omega)
  omega
end Go.Proofs.YthdcceackfdbbaaGreatDoor
namespace Go.Proofs.YthdcceackfdbbaaGreatDoor
open Go.RowKit
def u32s (l : List Nat) : List Value := l.map fun x : Nat => Value.int .u32 (x : Int)
def Own (w : World) (B : Nat) (v : Value) (l : List Nat) : Prop := w.ownsRow B 124 1 v l.length (u32s l) ∧ Wds l
def Rep (w : World) (B : Nat) (v : Value) (n : Nat) : Prop := ∃ l, Own w B v l ∧ Canon l ∧ val l = n
theorem ownsRow_below {w w' : World} {B e size n : Nat} {v : Value} {xs : List Value} (h : w.ownsRow B e size v n xs) (hb : Below w.heap.size w w') : w'.ownsRow B e size v n xs := by
  refine ⟨h.1, ?_⟩
  rcases h.2 with hn | ⟨g, cap, cur, rfl, h1, hg, rest⟩
  · exact .inl hn
  · exact .inr ⟨g, cap, cur, rfl, h1, by rw [hb.block g (Array.getElem?_eq_some_iff.1 hg).1]; exact hg, rest⟩
theorem ownsRow_base {w : World} {B B' e size n : Nat} {v : Value} {xs : List Value} (h : w.ownsRow B e size v n xs) (hb : B' ≤ B) : w.ownsRow B' e size v n xs := by
  refine ⟨h.1, ?_⟩
  rcases h.2 with hn | ⟨g, cap, cur, rfl, h1, rest⟩
  · exact .inl hn
  · exact .inr ⟨g, cap, cur, rfl, Nat.le_trans hb h1, rest⟩
theorem Own.below {w w' : World} {B : Nat} {v : Value} {l : List Nat} (h : Own w B v l) (hb : Below w.heap.size w w') : Own w' B v l := ⟨ownsRow_below h.1 hb, h.2⟩
theorem Own.base {w : World} {B B' : Nat} {v : Value} {l : List Nat} (h : Own w B v l) (hb : B' ≤ B) : Own w B' v l := ⟨ownsRow_base h.1 hb, h.2⟩
theorem Rep.below {w w' : World} {B : Nat} {v : Value} {n : Nat} (h : Rep w B v n) (hb : Below w.heap.size w w') : Rep w' B v n := by
  obtain ⟨l, h1, h2⟩ := h; exact ⟨l, h1.below hb, h2⟩
theorem Rep.base {w : World} {B B' : Nat} {v : Value} {n : Nat} (h : Rep w B v n) (hb : B' ≤ B) : Rep w B' v n := by
  obtain ⟨l, h1, h2⟩ := h; exact ⟨l, h1.base hb, h2⟩
theorem Own.shape {w : World} {B : Nat} {v : Value} {l : List Nat} (h : Own w B v l) :
    (v = .slice none 0 0 ∧ l = []) ∨ ∃ g cap, v = .slice (some ⟨g, 0, none⟩) l.length cap ∧ B ≤ g ∧ g < w.heap.size ∧ l.length ≤ cap ∧ cap ≤ maxLen ∧
      (∀ (i x : Nat), l[i]? = some x → w.cell? ⟨g, i, none⟩ = some (.int .u32 (x : Int))) ∧ (∀ i, w.frozen? ⟨g, i, none⟩ = false) := by
  rcases h.1.2 with ⟨rfl, h0⟩ | ⟨g, cap, cur, rfl, hb, hg, hnc, hcm, hcs, htake⟩
  · exact .inl ⟨rfl, List.length_eq_zero_iff.1 h0⟩
  · refine .inr ⟨g, cap, rfl, hb, (Array.getElem?_eq_some_iff.1 hg).1, hnc, hcm, ?_, ?_⟩
    · intro i x hi
      have hlt : i < l.length := (List.getElem?_eq_some_iff.1 hi).1
      rw [h.1.cellAt i (by omega)]
      simp [u32s, hi]
    · intro i; exact h.1.frozenAt i
theorem Own.shape1 {w : World} {B : Nat} {v : Value} {l : List Nat} (h : Own w B v l) :
    ∃ ao cap, v = .slice ao l.length cap ∧ l.length ≤ cap ∧ cap ≤ maxLen ∧ (∀ (i x : Nat), l[i]? = some x → x < 4294967296 ∧ ∃ g, ao = some ⟨g, 0, none⟩ ∧ B ≤ g ∧ g < w.heap.size ∧ w.cell? ⟨g, i, none⟩ = some (.int .u32 (x : Int))) := by
  rcases h.shape with ⟨rfl, rfl⟩ | ⟨g, cap, rfl, h1, h2, h3, h4, h5, _⟩
  · exact ⟨none, 0, rfl, by simp, by simp, by simp⟩
  · exact ⟨_, cap, rfl, h3, h4, fun i x hi => ⟨h.2 x (List.mem_of_getElem? hi), g, rfl, h1, h2, h5 i x hi⟩⟩
theorem Own.len {w : World} {B : Nat} {v : Value} {l : List Nat} (h : Own w B v l) : l.length ≤ maxLen := by
  rcases h.shape with ⟨_, rfl⟩ | ⟨g, cap, _, _, _, h1, h2, _⟩
  · simp
  · omega
theorem Own.take {w : World} {B g n cap : Nat} {l : List Nat} (h : Own w B (.slice (some ⟨g, 0, none⟩) n cap) l) (hn : n = l.length) {k : Nat} (hk : k ≤ l.length) : Own w B (.slice (some ⟨g, 0, none⟩) k cap) (l.take k) := by
  subst hn
  have hkl : (l.take k).length = k := by rw [List.length_take]; omega
  refine ⟨⟨by simp [u32s], ?_⟩, wds_take h.2 k⟩
  rcases h.1.2 with ⟨h', _⟩ | ⟨g', cap', cur, h', hb, hg, hnc, hcm, hcs, htake⟩
  · simp at h'
  · simp only [Value.slice.injEq, Option.some.injEq, Addr.mk.injEq, and_true, true_and] at h'
    obtain ⟨rfl, rfl⟩ := h'
    refine .inr ⟨g, cap, cur, by rw [hkl], hb, hg, by omega, hcm, hcs, ?_⟩
    rw [hkl]
    simp only [u32s, List.map_take, Nat.mul_one] at htake ⊢
    rw [← htake, List.take_take, Nat.min_eq_left hk]
theorem Own.stored {w : World} {B g n cap : Nat} {l : List Nat} (h : Own w B (.slice (some ⟨g, 0, none⟩) n cap) l) (hn : n = l.length) (j : Nat) {y : Nat} (hy : y < 4294967296) :
    Own (w.setCell ⟨g, j, none⟩ (.int .u32 (y : Int))) B (.slice (some ⟨g, 0, none⟩) n cap) (l.set j y) := by
  subst hn
  refine ⟨?_, ?_⟩
  · have := (h.1.stored j (.int .u32 (y : Int))).1
    simpa [u32s, List.map_set] using this
  · intro x hx
    rcases List.mem_or_eq_of_mem_set hx with h1 | h1
    · exact h.2 x h1
    · omega
theorem own_made {w : World} {B : Nat} {v : Value} {n : Nat} (h : w.ownsRow B 124 1 v n (madeCells #[Value.int .u32 0] n).toList) : Own w B v (List.replicate n 0) := by
  refine ⟨?_, ?_⟩
  · have e : (madeCells #[Value.int .u32 0] n).toList = u32s (List.replicate n 0) := by
      rw [toList_madeCells_one]
      simp [u32s]
    rw [e] at h
    simpa using h
  · intro x hx
    have := (List.mem_replicate.1 hx).2
    omega
theorem Own.lenW {w : World} {B n cap : Nat} {ao : Option Addr} {l : List Nat} (h : Own w B (.slice ao n cap) l) : n = l.length := by
  rcases h.shape with ⟨e, rfl⟩ | ⟨g', cap', e, _⟩
  · simp at e; simp [e]
  · simp at e; omega
theorem Own.frozenW {w : World} {B g n cap : Nat} {l : List Nat} (h : Own w B (.slice (some ⟨g, 0, none⟩) n cap) l) (j : Nat) : w.frozen? ⟨g, j, none⟩ = false := by
  have := h.lenW; subst this; exact h.1.frozenAt j
theorem Own.cellW {w : World} {B g n cap : Nat} {l : List Nat} (h : Own w B (.slice (some ⟨g, 0, none⟩) n cap) l) {j y : Nat} (hj : l[j]? = some y) : w.cell? ⟨g, j, none⟩ = some (.int .u32 (y : Int)) := by
  have := h.lenW; subst this
  rw [h.1.cellAt j (by have := (List.getElem?_eq_some_iff.1 hj).1; omega)]
  simp [u32s, hj]
theorem Own.at {w : World} {B g n cap : Nat} {l : List Nat} (h : Own w B (.slice (some ⟨g, 0, none⟩) n cap) l) {j : Nat} (hj : j < n) : ∃ y, l[j]? = some y ∧ y < 4294967296 ∧ w.cell? ⟨g, j, none⟩ = some (.int .u32 (y : Int)) := by
  have := h.lenW; subst this
  have e : l[j]? = some l[j] := by simp [hj]
  exact ⟨l[j], e, h.2 _ (List.getElem_mem hj), h.cellW e⟩
def lenOfV : Value → Nat
  | .slice _ n _ => n
  | _ => 0
end Go.Proofs.YthdcceackfdbbaaGreatDoor
namespace Go.Proofs.YthdcceackfdbbaaGreatDoor
open Go Go.RowKit
def u8s (l : List UInt8) : List Value := l.map fun x => Value.int .u8 (x.toNat : Int)
theorem Tryz.infoU8 : (Tryz.prog.info? 5).map (fun i => (i.zero, i.size, i.bytes)) = some (some (.int .u8 0), 1, 1) := by kernel_rfl
theorem u8s_snoc (l : List UInt8) (x : UInt8) : u8s (l ++ [x]) = u8s l ++ [.int .u8 (x.toNat : Int)] := by simp [u8s]
theorem size64 (w : World) : Calls Tryz.prog 176 #[] w fun e w' => e = .returned (.int .i64 8) ∧ w' = w := by
  have hm : bits BinOp.xor IntKind.u64 IntKind.u64.max 0 = 18446744073709551615 := by kernel_rfl
  have hl : Lib.bitLen 18446744073709551615 = 64 := by decide
  go_enter Tryz.func176, Tryz.ntmps176
  go_wp2_with fail
  refine (Tryz.bits_Len64 18446744073709551615 _ (by omega) (by omega)).mono ?_
  rintro e w1 ⟨rfl, rfl⟩
  go_wp2
  go_ret
  exact ⟨by simp, rfl⟩
theorem size32 (w : World) : Calls Tryz.prog 172 #[] w fun e w' => e = .returned (.int .i64 4) ∧ w' = w := by
  have hm : bits BinOp.xor IntKind.u32 IntKind.u32.max 0 = 4294967295 := by kernel_rfl
  have hl : Lib.bitLen 4294967295 = 32 := by decide
  go_enter Tryz.func172, Tryz.ntmps172
  go_wp2_with fail
  refine (Tryz.bits_Len64 4294967295 _ (by omega) (by omega)).mono ?_
  rintro e w1 ⟨rfl, rfl⟩
  go_wp2
  go_ret
  exact ⟨by simp, rfl⟩
theorem size16 (w : World) : Calls Tryz.prog 175 #[] w fun e w' => e = .returned (.int .i64 2) ∧ w' = w := by
  have hm : bits BinOp.xor IntKind.u16 IntKind.u16.max 0 = 65535 := by kernel_rfl
  have hl : Lib.bitLen 65535 = 16 := by decide
  go_enter Tryz.func175, Tryz.ntmps175
  go_wp2_with fail
  refine (Tryz.bits_Len64 65535 _ (by omega) (by omega)).mono ?_
  rintro e w1 ⟨rfl, rfl⟩
  go_wp2
  go_ret
  exact ⟨by simp, rfl⟩
theorem size8 (w : World) : Calls Tryz.prog 174 #[] w fun e w' => e = .returned (.int .i64 1) ∧ w' = w := by
  have hm : bits BinOp.xor IntKind.u8 IntKind.u8.max 0 = 255 := by kernel_rfl
  have hl : Lib.bitLen 255 = 8 := by decide
  go_enter Tryz.func174, Tryz.ntmps174
  go_wp2_with fail
  refine (Tryz.bits_Len64 255 _ (by omega) (by omega)).mono ?_
  rintro e w1 ⟨rfl, rfl⟩
  go_wp2
  go_ret
  exact ⟨by simp, rfl⟩
end Go.Proofs.YthdcceackfdbbaaGreatDoor
namespace Go.Proofs.YthdcceackfdbbaaGreatDoor
open Go Go.RowKit
theorem crc_test {h b i : Nat} (hh : h < 4294967296) (hb : b < 256) : (bits BinOp.and IntKind.u32 (bits BinOp.xor IntKind.u32 (h : Int) ((b : Int) / 2 ^ i)) 1 == 1) = decide ((b >>> i + h) % 2 = 1) := by
  have e1 : ((b : Int) / 2 ^ i) = ((b / 2 ^ i : Nat) : Int) := by simp
  have hlt : b / 2 ^ i < 4294967296 := Nat.lt_of_le_of_lt (Nat.div_le_self _ _) (by omega)
  have hx : h ^^^ (b / 2 ^ i) < 2 ^ 32 := Nat.xor_lt_two_pow hh hlt
  rw [e1, u32_xor_nat _ _ hh hlt, show (1 : Int) = ((1 : Nat) : Int) from rfl, u32_and_nat _ _ hx (by omega), Nat.and_one_is_mod, Nat.shiftRight_eq_div_pow]
  rw [Bool.eq_iff_iff, beq_iff_eq, decide_eq_true_eq]
  have := @Nat.xor_mod_two_eq_one h (b / 2 ^ i)
  constructor
  · intro h1
    have h2 : (h ^^^ b / 2 ^ i) % 2 = 1 := by omega
    have h3 := this.1 h2
    omega
  · intro h1
    have h3 : (h ^^^ b / 2 ^ i) % 2 = 1 := this.2 (by omega)
    omega
theorem flip_bits {s : Nat} (hs : s < 4294967296) : bits BinOp.xor IntKind.u32 IntKind.u32.max (s : Int) = ((flip32 s : Nat) : Int) := by
  rw [show IntKind.u32.max = ((4294967295 : Nat) : Int) from by kernel_rfl, u32_xor_nat _ _ (by omega) hs, Nat.xor_comm, flip_xor hs]
theorem crc_xor {h : Nat} (hh : h < 4294967296) : bits BinOp.xor IntKind.u32 ((h : Int) / 2) 3988292384 = ((((h >>> 1) ^^^ 3988292384 : Nat)) : Int) := by
  have e : ((h : Int) / 2) = ((h / 2 : Nat) : Int) := by omega
  have e2 : h >>> 1 = h / 2 := by rw [Nat.shiftRight_eq_div_pow]
  have := u32_xor_nat (h / 2) 3988292384 (by omega) (by omega)
  rw [e, e2]; exact this
theorem flip_lt (s : Nat) : flip32 s < 4294967296 := by unfold flip32; omega
set_option maxRecDepth 20000 in
set_option maxHeartbeats 1000000 in
theorem sumAdd_any (w : World) (s : Nat) (b : UInt8) (hs : s < 4294967296) :
    Calls Tryz.prog 173 #[.int .u32 (s : Int), .int .u8 (b.toNat : Int)] w fun e w' => e = .returned (.int .u32 ((flip32 (crcTo (flip32 s) b.toNat 8) : Nat) : Int)) ∧ w' = w := by
  have hf := flip_bits hs
  have hf2 := flip_bits (crcTo_lt (b := b.toNat) (flip_lt s) 8)
  have HF := hid (fun k => crcTo_lt (b := b.toNat) (flip_lt s) k)
  go_enter Tryz.func173, Tryz.ntmps173
  go_wp2
  go_loop [5, 10] (fun vh vi => ∃ k : Nat, vi = .int .i64 (k : Int) ∧ k ≤ 8 ∧ vh = .int .u32 ((crcTo (flip32 s) b.toNat k : Nat) : Int)) (fun _ vi => 8 - (intOf vi).toNat)
  case atStart => exact ⟨0, rfl, by omega, rfl⟩
  case round =>
    obtain ⟨k, rfl, hk, rfl⟩ := hrel
    by_cases hlt : k < 8
    · have hlt' : (k : Int) < 8 := by omega
      have hH := HF.out k
      have HS : Hid (crcTo (flip32 s) b.toNat (k + 1) = crcBit (crcTo (flip32 s) b.toNat k) b.toNat k) := rfl
      generalize crcTo (flip32 s) b.toNat k = H at *
      have ht := crc_test (i := k) hH b.toNat_lt
      have hx := crc_xor hH
      have hbl : b.toNat < 256 := b.toNat_lt
      clear hf hf2 HF
      by_cases hc : (b.toNat >>> k + H) % 2 = 1
      · have HE : Hid (crcBit H b.toNat k = (H >>> 1) ^^^ 3988292384) := if_pos hc
        rw [decide_eq_true hc] at ht
        go_wp2
        · go_round
          case rel => exact ⟨k + 1, by simp, by omega, by rw [HS.out, HE.out]⟩
          case measure => simp [intOf]; omega
      · have HE : Hid (crcBit H b.toNat k = H >>> 1) := if_neg hc
        rw [decide_eq_false hc] at ht
        go_wp2
        · go_round
          case rel => exact ⟨k + 1, by simp, by omega, by rw [HS.out, HE.out, Nat.shiftRight_eq_div_pow]; simp⟩
          case measure => simp [intOf]; omega
    · have hlt' : ¬ (k : Int) < 8 := by omega
      obtain rfl : k = 8 := by omega
      go_wp2
      go_ret
      exact ⟨rfl, rfl⟩
end Go.Proofs.YthdcceackfdbbaaGreatDoor
namespace Go.Proofs.YthdcceackfdbbaaGreatDoor
open Go Go.RowKit
def valL : List UInt8 → Nat
  | [] => 0
  | b :: r => b.toNat + 256 * valL r
theorem valL_lt : ∀ l, valL l < 256 ^ l.length
  | [] => by simp [valL]
  | b :: r => by
    have h1 := valL_lt r
    have h2 := b.toNat_lt
    simp only [valL, List.length_cons, Nat.pow_succ]
    omega
theorem valL_snoc : ∀ (l : List UInt8) (b : UInt8), valL (l ++ [b]) = valL l + b.toNat * 256 ^ l.length
  | [], b => by simp [valL]
  | c :: r, b => by
    have := valL_snoc r b
    simp only [List.cons_append, valL, this, List.length_cons, Nat.pow_succ]
    rw [Nat.mul_add, Nat.mul_left_comm 256 b.toNat, Nat.mul_comm 256 (256 ^ r.length), Nat.add_assoc]
theorem or_add {a b k : Nat} (h : a < 2 ^ k) : a ||| (b * 2 ^ k) = a + b * 2 ^ k := by
  rw [Nat.mul_comm b, Nat.add_comm, Nat.or_comm]
  exact (Nat.two_pow_add_eq_or_of_lt h b).symm
def BytesAt (w : World) (g off : Nat) (l : List UInt8) : Prop := ∀ k x, l[k]? = some x → w.cell? ⟨g, off + k, none⟩ = some (.int .u8 (x.toNat : Int))
theorem cut_step8 {l : List UInt8} {i : Nat} {x : UInt8} (hx : l[i]? = some x) (hi : i < 1) : bits .or .u8 (valL (l.take i) : Int) ((x.toNat : Int) * 2 ^ (8 * i) % 256) = (valL (l.take (i + 1)) : Int) := by
  have h2 := x.toNat_lt
  have hil : i < l.length := (List.getElem?_eq_some_iff.1 hx).1
  have hpw : 2 ^ (8 * i) = 256 ^ i := by rw [Nat.pow_mul]
  have h4 : valL (l.take i) < 2 ^ (8 * i) := by
    have := valL_lt (l.take i)
    rw [List.length_take, Nat.min_eq_left (by omega)] at this
    rw [hpw]; exact this
  have h5 : 2 ^ (8 * i) * 256 ≤ 256 := by
    have : 2 ^ (8 * i) ≤ 2 ^ 0 := Nat.pow_le_pow_right (by omega) (by omega)
    have e : (2 : Nat) ^ 0 * 256 = 256 := by decide
    omega
  have h3 : x.toNat * 2 ^ (8 * i) < 256 := by
    have : x.toNat * 2 ^ (8 * i) < 256 * 2 ^ (8 * i) := Nat.mul_lt_mul_of_pos_right h2 (Nat.two_pow_pos _)
    omega
  have e2 : (x.toNat : Int) * 2 ^ (8 * i) = ((x.toNat * 2 ^ (8 * i) : Nat) : Int) := by simp
  have e3 : ((x.toNat * 2 ^ (8 * i) : Nat) : Int) % 256 = ((x.toNat * 2 ^ (8 * i) : Nat) : Int) := by omega
  rw [e2, e3, u8_or_nat _ _ (by omega) h3, or_add h4, List.take_add_one, hx, Option.toList_some, valL_snoc, List.length_take, Nat.min_eq_left (by omega), hpw]
set_option maxRecDepth 20000 in
set_option maxHeartbeats 1000000 in
theorem cut8_any (w : World) (g off cap : Nat) (l : List UInt8) (h : BytesAt w g off l) (hl : 1 ≤ l.length) (hcap : l.length ≤ cap) (hm : cap ≤ 9223372036854775807) :
    Calls Tryz.prog 183 #[.slice (some ⟨g, off, none⟩) l.length cap] w fun e w' => e = .returned (.tuple #[.int .u8 (valL (l.take 1) : Int), .slice (if cap = 1 then some ⟨g, off, none⟩ else some ⟨g, off + 1, none⟩) (l.length - 1) (cap - 1)]) ∧ ∃ m, w' = w.drewN m := by
  have HB := hid h
  clear h
  obtain ⟨n, hn⟩ : ∃ n, l.length = n := ⟨_, rfl⟩
  rw [hn] at hl hcap ⊢
  go_enter Tryz.func183, Tryz.ntmps183
  go_wp2_with fail
  refine (size8 _).mono ?_
  rintro e w1 ⟨rfl, hw1⟩
  rw [hw1]
  clear hw1
  go_wp2
  go_loopw [2, 8] (fun vx vi wr => ∃ i : Nat, vi = .int .i64 (i : Int) ∧ i ≤ 1 ∧ vx = .int .u8 (valL (l.take i) : Int) ∧ wr = w) (fun _ vi _ => 1 - (intOf vi).toNat)
  case atStart => exact ⟨0, rfl, by omega, rfl, rfl⟩
  case round =>
    obtain ⟨i, rfl, hi, rfl, rfl⟩ := hrel
    by_cases hlt : i < 1
    · have hlt' : (i : Int) < 1 := by omega
      have hlt2 : (i : Int) < n := by omega
      obtain ⟨x, hx⟩ : ∃ x, l[i]? = some x := ⟨l[i]'(by omega), by simp⟩
      have hc := HB.out i x hx
      have HX := hid hx
      clear hx
      go_wp2
      refine ⟨⟨i + 1, by simp, by omega, ?_, trivial⟩, by simp [intOf]; omega⟩
      rw [cut_step8 HX.out hlt]
    · have hlt' : ¬ (i : Int) < 1 := by omega
      obtain rfl : i = 1 := by omega
      have h8 : ¬ ((n : Int) < 1) := by omega
      go_wp2
      go_quiet (fail)
      go_wp2
      all_goals (go_ret2; exact ⟨rfl, _, rfl⟩)
theorem cut_step16 {l : List UInt8} {i : Nat} {x : UInt8} (hx : l[i]? = some x) (hi : i < 2) : bits .or .u16 (valL (l.take i) : Int) (IntKind.u16.wrap ((IntKind.u16.wrap (x.toNat : Int)) * 2 ^ (8 * i))) = (valL (l.take (i + 1)) : Int) := by
  have h2 := x.toNat_lt
  have hil : i < l.length := (List.getElem?_eq_some_iff.1 hx).1
  have hpw : 2 ^ (8 * i) = 256 ^ i := by rw [Nat.pow_mul]
  have h4 : valL (l.take i) < 2 ^ (8 * i) := by
    have := valL_lt (l.take i)
    rw [List.length_take, Nat.min_eq_left (by omega)] at this
    rw [hpw]; exact this
  have h5 : 2 ^ (8 * i) * 256 ≤ 65536 := by
    have : 2 ^ (8 * i) ≤ 2 ^ 8 := Nat.pow_le_pow_right (by omega) (by omega)
    have e : (2 : Nat) ^ 8 * 256 = 65536 := by decide
    omega
  have h3 : x.toNat * 2 ^ (8 * i) < 65536 := by
    have : x.toNat * 2 ^ (8 * i) < 256 * 2 ^ (8 * i) := Nat.mul_lt_mul_of_pos_right h2 (Nat.two_pow_pos _)
    omega
  have e1 : IntKind.u16.wrap (x.toNat : Int) = (x.toNat : Int) := by rw [IntKind.wrap_u16]; omega
  rw [e1]
  have e2 : (x.toNat : Int) * 2 ^ (8 * i) = ((x.toNat * 2 ^ (8 * i) : Nat) : Int) := by simp
  have e3 : IntKind.u16.wrap ((x.toNat * 2 ^ (8 * i) : Nat) : Int) = ((x.toNat * 2 ^ (8 * i) : Nat) : Int) := by rw [IntKind.wrap_u16]; omega
  rw [e2, e3, u16_or_nat _ _ (by omega) h3, or_add h4, List.take_add_one, hx, Option.toList_some, valL_snoc, List.length_take, Nat.min_eq_left (by omega), hpw]
set_option maxRecDepth 20000 in
set_option maxHeartbeats 1000000 in
theorem cut16_any (w : World) (g off cap : Nat) (l : List UInt8) (h : BytesAt w g off l) (hl : 2 ≤ l.length) (hcap : l.length ≤ cap) (hm : cap ≤ 9223372036854775807) :
    Calls Tryz.prog 184 #[.slice (some ⟨g, off, none⟩) l.length cap] w fun e w' => e = .returned (.tuple #[.int .u16 (valL (l.take 2) : Int), .slice (if cap = 2 then some ⟨g, off, none⟩ else some ⟨g, off + 2, none⟩) (l.length - 2) (cap - 2)]) ∧ ∃ m, w' = w.drewN m := by
  have HB := hid h
  clear h
  obtain ⟨n, hn⟩ : ∃ n, l.length = n := ⟨_, rfl⟩
  rw [hn] at hl hcap ⊢
  go_enter Tryz.func184, Tryz.ntmps184
  go_wp2_with fail
  refine (size16 _).mono ?_
  rintro e w1 ⟨rfl, hw1⟩
  rw [hw1]
  clear hw1
  go_wp2
  go_loopw [2, 8] (fun vx vi wr => ∃ i : Nat, vi = .int .i64 (i : Int) ∧ i ≤ 2 ∧ vx = .int .u16 (valL (l.take i) : Int) ∧ wr = w) (fun _ vi _ => 2 - (intOf vi).toNat)
  case atStart => exact ⟨0, rfl, by omega, rfl, rfl⟩
  case round =>
    obtain ⟨i, rfl, hi, rfl, rfl⟩ := hrel
    by_cases hlt : i < 2
    · have hlt' : (i : Int) < 2 := by omega
      have hlt2 : (i : Int) < n := by omega
      obtain ⟨x, hx⟩ : ∃ x, l[i]? = some x := ⟨l[i]'(by omega), by simp⟩
      have hc := HB.out i x hx
      have HX := hid hx
      clear hx
      go_wp2
      refine ⟨⟨i + 1, by simp, by omega, ?_, trivial⟩, by simp [intOf]; omega⟩
      rw [cut_step16 HX.out hlt]
    · have hlt' : ¬ (i : Int) < 2 := by omega
      obtain rfl : i = 2 := by omega
      have h8 : ¬ ((n : Int) < 2) := by omega
      go_wp2
      go_quiet (fail)
      go_wp2
      all_goals (go_ret2; exact ⟨rfl, _, rfl⟩)
theorem cut_step32 {l : List UInt8} {i : Nat} {x : UInt8} (hx : l[i]? = some x) (hi : i < 4) : bits .or .u32 (valL (l.take i) : Int) ((x.toNat : Int) % 4294967296 * 2 ^ (8 * i) % 4294967296) = (valL (l.take (i + 1)) : Int) := by
  have h2 := x.toNat_lt
  have hil : i < l.length := (List.getElem?_eq_some_iff.1 hx).1
  have hpw : 2 ^ (8 * i) = 256 ^ i := by rw [Nat.pow_mul]
  have h4 : valL (l.take i) < 2 ^ (8 * i) := by
    have := valL_lt (l.take i)
    rw [List.length_take, Nat.min_eq_left (by omega)] at this
    rw [hpw]; exact this
  have h5 : 2 ^ (8 * i) * 256 ≤ 4294967296 := by
    have : 2 ^ (8 * i) ≤ 2 ^ 24 := Nat.pow_le_pow_right (by omega) (by omega)
    have e : (2 : Nat) ^ 24 * 256 = 4294967296 := by decide
    omega
  have h3 : x.toNat * 2 ^ (8 * i) < 4294967296 := by
    have : x.toNat * 2 ^ (8 * i) < 256 * 2 ^ (8 * i) := Nat.mul_lt_mul_of_pos_right h2 (Nat.two_pow_pos _)
    omega
  have e1 : (x.toNat : Int) % 4294967296 = (x.toNat : Int) := by omega
  rw [e1]
  have e2 : (x.toNat : Int) * 2 ^ (8 * i) = ((x.toNat * 2 ^ (8 * i) : Nat) : Int) := by simp
  have e3 : ((x.toNat * 2 ^ (8 * i) : Nat) : Int) % 4294967296 = ((x.toNat * 2 ^ (8 * i) : Nat) : Int) := by omega
  rw [e2, e3, u32_or_nat _ _ (by omega) h3, or_add h4, List.take_add_one, hx, Option.toList_some, valL_snoc, List.length_take, Nat.min_eq_left (by omega), hpw]
set_option maxRecDepth 20000 in
set_option maxHeartbeats 1000000 in
theorem cut32_any (w : World) (g off cap : Nat) (l : List UInt8) (h : BytesAt w g off l) (hl : 4 ≤ l.length) (hcap : l.length ≤ cap) (hm : cap ≤ 9223372036854775807) :
    Calls Tryz.prog 215 #[.slice (some ⟨g, off, none⟩) l.length cap] w fun e w' => e = .returned (.tuple #[.int .u32 (valL (l.take 4) : Int), .slice (if cap = 4 then some ⟨g, off, none⟩ else some ⟨g, off + 4, none⟩) (l.length - 4) (cap - 4)]) ∧ ∃ m, w' = w.drewN m := by
  have HB := hid h
  clear h
  obtain ⟨n, hn⟩ : ∃ n, l.length = n := ⟨_, rfl⟩
  rw [hn] at hl hcap ⊢
  go_enter Tryz.func215, Tryz.ntmps215
  go_wp2_with fail
  refine (size32 _).mono ?_
  rintro e w1 ⟨rfl, hw1⟩
  rw [hw1]
  clear hw1
  go_wp2
  go_loopw [2, 8] (fun vx vi wr => ∃ i : Nat, vi = .int .i64 (i : Int) ∧ i ≤ 4 ∧ vx = .int .u32 (valL (l.take i) : Int) ∧ wr = w) (fun _ vi _ => 4 - (intOf vi).toNat)
  case atStart => exact ⟨0, rfl, by omega, rfl, rfl⟩
  case round =>
    obtain ⟨i, rfl, hi, rfl, rfl⟩ := hrel
    by_cases hlt : i < 4
    · have hlt' : (i : Int) < 4 := by omega
      have hlt2 : (i : Int) < n := by omega
      obtain ⟨x, hx⟩ : ∃ x, l[i]? = some x := ⟨l[i]'(by omega), by simp⟩
      have hc := HB.out i x hx
      have HX := hid hx
      clear hx
      go_wp2
      refine ⟨⟨i + 1, by simp, by omega, ?_, trivial⟩, by simp [intOf]; omega⟩
      rw [cut_step32 HX.out hlt]
    · have hlt' : ¬ (i : Int) < 4 := by omega
      obtain rfl : i = 4 := by omega
      have h8 : ¬ ((n : Int) < 4) := by omega
      go_wp2
      go_quiet (fail)
      go_wp2
      all_goals (go_ret2; exact ⟨rfl, _, rfl⟩)
theorem cut_step64 {l : List UInt8} {i : Nat} {x : UInt8} (hx : l[i]? = some x) (hi : i < 8) : bits .or .u64 (valL (l.take i) : Int) (IntKind.u64.wrap ((IntKind.u64.wrap (x.toNat : Int)) * 2 ^ (8 * i))) = (valL (l.take (i + 1)) : Int) := by
  have h2 := x.toNat_lt
  have hil : i < l.length := (List.getElem?_eq_some_iff.1 hx).1
  have hpw : 2 ^ (8 * i) = 256 ^ i := by rw [Nat.pow_mul]
  have h4 : valL (l.take i) < 2 ^ (8 * i) := by
    have := valL_lt (l.take i)
    rw [List.length_take, Nat.min_eq_left (by omega)] at this
    rw [hpw]; exact this
  have h5 : 2 ^ (8 * i) * 256 ≤ 18446744073709551616 := by
    have : 2 ^ (8 * i) ≤ 2 ^ 56 := Nat.pow_le_pow_right (by omega) (by omega)
    have e : (2 : Nat) ^ 56 * 256 = 18446744073709551616 := by decide
    omega
  have h3 : x.toNat * 2 ^ (8 * i) < 18446744073709551616 := by
    have : x.toNat * 2 ^ (8 * i) < 256 * 2 ^ (8 * i) := Nat.mul_lt_mul_of_pos_right h2 (Nat.two_pow_pos _)
    omega
  have e1 : IntKind.u64.wrap (x.toNat : Int) = (x.toNat : Int) := by rw [IntKind.wrap_u64]; omega
  rw [e1]
  have e2 : (x.toNat : Int) * 2 ^ (8 * i) = ((x.toNat * 2 ^ (8 * i) : Nat) : Int) := by simp
  have e3 : IntKind.u64.wrap ((x.toNat * 2 ^ (8 * i) : Nat) : Int) = ((x.toNat * 2 ^ (8 * i) : Nat) : Int) := by rw [IntKind.wrap_u64]; omega
  rw [e2, e3, u64_or_nat _ _ (by omega) h3, or_add h4, List.take_add_one, hx, Option.toList_some, valL_snoc, List.length_take, Nat.min_eq_left (by omega), hpw]
set_option maxRecDepth 20000 in
set_option maxHeartbeats 1000000 in
theorem cut64_any (w : World) (g off cap : Nat) (l : List UInt8) (h : BytesAt w g off l) (hl : 8 ≤ l.length) (hcap : l.length ≤ cap) (hm : cap ≤ 9223372036854775807) :
    Calls Tryz.prog 236 #[.slice (some ⟨g, off, none⟩) l.length cap] w fun e w' => e = .returned (.tuple #[.int .u64 (valL (l.take 8) : Int), .slice (if cap = 8 then some ⟨g, off, none⟩ else some ⟨g, off + 8, none⟩) (l.length - 8) (cap - 8)]) ∧ ∃ m, w' = w.drewN m := by
  have HB := hid h
  clear h
  obtain ⟨n, hn⟩ : ∃ n, l.length = n := ⟨_, rfl⟩
  rw [hn] at hl hcap ⊢
  go_enter Tryz.func236, Tryz.ntmps236
  go_wp2_with fail
  refine (size64 _).mono ?_
  rintro e w1 ⟨rfl, hw1⟩
  rw [hw1]
  clear hw1
  go_wp2
  go_loopw [2, 8] (fun vx vi wr => ∃ i : Nat, vi = .int .i64 (i : Int) ∧ i ≤ 8 ∧ vx = .int .u64 (valL (l.take i) : Int) ∧ wr = w) (fun _ vi _ => 8 - (intOf vi).toNat)
  case atStart => exact ⟨0, rfl, by omega, rfl, rfl⟩
  case round =>
    obtain ⟨i, rfl, hi, rfl, rfl⟩ := hrel
    by_cases hlt : i < 8
    · have hlt' : (i : Int) < 8 := by omega
      have hlt2 : (i : Int) < n := by omega
      obtain ⟨x, hx⟩ : ∃ x, l[i]? = some x := ⟨l[i]'(by omega), by simp⟩
      have hc := HB.out i x hx
      have HX := hid hx
      clear hx
      go_wp2
      refine ⟨⟨i + 1, by simp, by omega, ?_, trivial⟩, by simp [intOf]; omega⟩
      rw [cut_step64 HX.out hlt]
    · have hlt' : ¬ (i : Int) < 8 := by omega
      obtain rfl : i = 8 := by omega
      have h8 : ¬ ((n : Int) < 8) := by omega
      go_wp2
      go_quiet (fail)
      go_wp2
      all_goals (go_ret2; exact ⟨rfl, _, rfl⟩)
end Go.Proofs.YthdcceackfdbbaaGreatDoor
