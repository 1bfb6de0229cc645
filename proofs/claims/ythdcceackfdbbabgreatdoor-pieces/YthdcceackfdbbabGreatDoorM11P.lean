import Derived.Test.YthdcceackfdbbabGreatDoorM01P
import Derived.Test.YthdcceackfdbbabGreatDoorM10P
import Derived.Test.YthdcceackfdbbabGreatDoorM03P
import Derived.Test.YthdcceackfdbbabGreatDoorM04P
import Derived.Test.YthdcceackfdbbabGreatDoorM09P
import Derived.Test.YthdcceackfdbbabGreatDoorM05P
import Derived.Deep.QuietTactic
import Derived.BigQuiet
import Derived.Laws.AppendOwnNone
/- The same for slices of ints, places of a thousand million. Own text. -/
namespace Go.Proofs.YthdcceackfdbbabGreatDoor
open Go.RowKit

def i64s (l : List Nat) : List Value := l.map fun x : Nat => Value.int .i64 (x : Int)

/-- The slice v holds the words l, in a block from B on. -/
def OwnB (w : World) (B : Nat) (v : Value) (l : List Nat) : Prop := w.ownsRow B 3 1 v l.length (i64s l) ∧ WdsB l

/-- The slice v is the number n. -/
def RepB (w : World) (B : Nat) (v : Value) (n : Nat) : Prop := ∃ l, OwnB w B v l ∧ Canon l ∧ valB l = n

theorem OwnB.below {w w' : World} {B : Nat} {v : Value} {l : List Nat} (h : OwnB w B v l) (hb : Below w.heap.size w w') : OwnB w' B v l := ⟨ownsRow_below h.1 hb, h.2⟩
theorem OwnB.base {w : World} {B B' : Nat} {v : Value} {l : List Nat} (h : OwnB w B v l) (hb : B' ≤ B) : OwnB w B' v l := ⟨ownsRow_base h.1 hb, h.2⟩
theorem RepB.below {w w' : World} {B : Nat} {v : Value} {n : Nat} (h : RepB w B v n) (hb : Below w.heap.size w w') : RepB w' B v n := by
  obtain ⟨l, h1, h2⟩ := h; exact ⟨l, h1.below hb, h2⟩
theorem RepB.base {w : World} {B B' : Nat} {v : Value} {n : Nat} (h : RepB w B v n) (hb : B' ≤ B) : RepB w B' v n := by
  obtain ⟨l, h1, h2⟩ := h; exact ⟨l, h1.base hb, h2⟩

/-- What a walk wants of such a slice. -/
theorem OwnB.shape {w : World} {B : Nat} {v : Value} {l : List Nat} (h : OwnB w B v l) :
    (v = .slice none 0 0 ∧ l = []) ∨ ∃ g cap, v = .slice (some ⟨g, 0, none⟩) l.length cap ∧ B ≤ g ∧ g < w.heap.size ∧ l.length ≤ cap ∧ cap ≤ maxLen ∧
      (∀ (i x : Nat), l[i]? = some x → w.cell? ⟨g, i, none⟩ = some (.int .i64 (x : Int))) ∧ (∀ i, w.frozen? ⟨g, i, none⟩ = false) := by
  rcases h.1.2 with ⟨rfl, h0⟩ | ⟨g, cap, cur, rfl, hb, hg, hnc, hcm, hcs, htake⟩
  · exact .inl ⟨rfl, List.length_eq_zero_iff.1 h0⟩
  · refine .inr ⟨g, cap, rfl, hb, (Array.getElem?_eq_some_iff.1 hg).1, hnc, hcm, ?_, ?_⟩
    · intro i x hi
      have hlt : i < l.length := (List.getElem?_eq_some_iff.1 hi).1
      rw [h.1.cellAt i (by omega)]
      simp [i64s, hi]
    · intro i; exact h.1.frozenAt i

/-- The same in one case, its address whatever. -/
theorem OwnB.shape1 {w : World} {B : Nat} {v : Value} {l : List Nat} (h : OwnB w B v l) :
    ∃ ao cap, v = .slice ao l.length cap ∧ l.length ≤ cap ∧ cap ≤ maxLen ∧ (∀ (i x : Nat), l[i]? = some x → x < 1000000000 ∧ ∃ g, ao = some ⟨g, 0, none⟩ ∧ B ≤ g ∧ g < w.heap.size ∧ w.cell? ⟨g, i, none⟩ = some (.int .i64 (x : Int))) := by
  rcases h.shape with ⟨rfl, rfl⟩ | ⟨g, cap, rfl, h1, h2, h3, h4, h5, _⟩
  · exact ⟨none, 0, rfl, by simp, by simp, by simp⟩
  · exact ⟨_, cap, rfl, h3, h4, fun i x hi => ⟨h.2 x (List.mem_of_getElem? hi), g, rfl, h1, h2, h5 i x hi⟩⟩

theorem OwnB.len {w : World} {B : Nat} {v : Value} {l : List Nat} (h : OwnB w B v l) : l.length ≤ maxLen := by
  rcases h.shape with ⟨_, rfl⟩ | ⟨g, cap, _, _, _, h1, h2, _⟩
  · simp
  · omega

/-- Cut shorter at its end. -/
theorem OwnB.take {w : World} {B g n cap : Nat} {l : List Nat} (h : OwnB w B (.slice (some ⟨g, 0, none⟩) n cap) l) (hn : n = l.length) {k : Nat} (hk : k ≤ l.length) : OwnB w B (.slice (some ⟨g, 0, none⟩) k cap) (l.take k) := by
  subst hn
  have hkl : (l.take k).length = k := by rw [List.length_take]; omega
  refine ⟨⟨by simp [i64s], ?_⟩, wds_takeB h.2 k⟩
  rcases h.1.2 with ⟨h', _⟩ | ⟨g', cap', cur, h', hb, hg, hnc, hcm, hcs, htake⟩
  · simp at h'
  · simp only [Value.slice.injEq, Option.some.injEq, Addr.mk.injEq, and_true, true_and] at h'
    obtain ⟨rfl, rfl⟩ := h'
    refine .inr ⟨g, cap, cur, by rw [hkl], hb, hg, by omega, hcm, hcs, ?_⟩
    rw [hkl]
    simp only [i64s, List.map_take, Nat.mul_one] at htake ⊢
    rw [← htake, List.take_take, Nat.min_eq_left hk]

theorem OwnB.stored {w : World} {B g n cap : Nat} {l : List Nat} (h : OwnB w B (.slice (some ⟨g, 0, none⟩) n cap) l) (hn : n = l.length) (j : Nat) {y : Nat} (hy : y < 1000000000) :
    OwnB (w.setCell ⟨g, j, none⟩ (.int .i64 (y : Int))) B (.slice (some ⟨g, 0, none⟩) n cap) (l.set j y) := by
  subst hn
  refine ⟨?_, ?_⟩
  · have := (h.1.stored j (.int .i64 (y : Int))).1
    simpa [i64s, List.map_set] using this
  · intro x hx
    rcases List.mem_or_eq_of_mem_set hx with h1 | h1
    · exact h.2 x h1
    · omega

theorem own_madeB {w : World} {B : Nat} {v : Value} {n : Nat} (h : w.ownsRow B 3 1 v n (madeCells #[Value.int .i64 0] n).toList) : OwnB w B v (List.replicate n 0) := by
  refine ⟨?_, ?_⟩
  · have e : (madeCells #[Value.int .i64 0] n).toList = i64s (List.replicate n 0) := by
      rw [toList_madeCells_one]
      simp [i64s]
    rw [e] at h
    simpa using h
  · intro x hx
    have := (List.mem_replicate.1 hx).2
    omega

/-- What lies in other blocks stays. -/
theorem OwnB.setOther {w : World} {B : Nat} {v : Value} {l : List Nat} (h : OwnB w B v l) {a : Addr} (u : Value) (hne : ∀ k, v.ownBlock = some k → k ≠ a.block) : OwnB (w.setCell a u) B v l := by
  refine ⟨⟨h.1.1, ?_⟩, h.2⟩
  rcases h.1.2 with hn | ⟨g, cap, cur, rfl, h1, hg, rest⟩
  · exact .inl hn
  · exact .inr ⟨g, cap, cur, rfl, h1, by rw [Below.heap_setCell _ _ _ _ (hne g rfl)]; exact hg, rest⟩

theorem OwnB.lenW {w : World} {B n cap : Nat} {ao : Option Addr} {l : List Nat} (h : OwnB w B (.slice ao n cap) l) : n = l.length := by
  rcases h.shape with ⟨e, rfl⟩ | ⟨g', cap', e, _⟩
  · simp at e; simp [e]
  · simp at e; omega

theorem OwnB.frozenW {w : World} {B g n cap : Nat} {l : List Nat} (h : OwnB w B (.slice (some ⟨g, 0, none⟩) n cap) l) (j : Nat) : w.frozen? ⟨g, j, none⟩ = false := by
  have := h.lenW; subst this; exact h.1.frozenAt j

theorem OwnB.cellW {w : World} {B g n cap : Nat} {l : List Nat} (h : OwnB w B (.slice (some ⟨g, 0, none⟩) n cap) l) {j y : Nat} (hj : l[j]? = some y) : w.cell? ⟨g, j, none⟩ = some (.int .i64 (y : Int)) := by
  have := h.lenW; subst this
  rw [h.1.cellAt j (by have := (List.getElem?_eq_some_iff.1 hj).1; omega)]
  simp [i64s, hj]

theorem OwnB.at {w : World} {B g n cap : Nat} {l : List Nat} (h : OwnB w B (.slice (some ⟨g, 0, none⟩) n cap) l) {j : Nat} (hj : j < n) : ∃ y, l[j]? = some y ∧ y < 1000000000 ∧ w.cell? ⟨g, j, none⟩ = some (.int .i64 (y : Int)) := by
  have := h.lenW; subst this
  have e : l[j]? = some l[j] := by simp [hj]
  exact ⟨l[j], e, h.2 _ (List.getElem_mem hj), h.cellW e⟩


theorem OwnB.ofRow {w : World} {B n : Nat} {v : Value} {l : List Nat} {xs : List Value} (h : w.ownsRow B 3 1 v n xs) (hx : xs = i64s l) (hl : WdsB l) : OwnB w B v l := by
  subst hx
  have : n = l.length := by have := h.1; simp [i64s] at this; omega
  subst this
  exact ⟨h, hl⟩

theorem ownB_nil (w : World) (B : Nat) : OwnB w B (.slice none 0 0) [] := ⟨World.ownsRow_nil _ _ _ _, by intro y hy; simp at hy⟩

theorem wds_snocB {l : List Nat} {y : Nat} (h : WdsB l) (hy : y < 1000000000) : WdsB (l ++ [y]) := by
  intro x hx
  rcases List.mem_append.1 hx with h1 | h1
  · exact h x h1
  · simp at h1; omega

end Go.Proofs.YthdcceackfdbbabGreatDoor
/- Walks over the reference: small, trim, times. Own text. -/
namespace Go.Proofs.YthdcceackfdbbabGreatDoor
open Go.RowKit

theorem of_stepB {l : List Nat} {x y : Nat} (h : valB l + 1000000000 ^ l.length * y = x) : valB (l ++ [y % 1000000000]) + 1000000000 ^ (l ++ [y % 1000000000]).length * (y / 1000000000) = x := by
  rw [val_snocB]
  simp only [List.length_append, List.length_cons, List.length_nil, Nat.zero_add, Nat.pow_succ]
  rw [← h, Nat.mul_assoc, Nat.add_assoc, ← Nat.mul_add, Nat.mod_add_div]

theorem of_canonB {l : List Nat} {y : Nat} (hy : y ≠ 0) : y / 1000000000 = 0 → Canon (l ++ [y % 1000000000]) := by
  intro h
  exact canon_snoc (by omega)

theorem of_lenB {l : List Nat} {x y : Nat} (h : valB l + 1000000000 ^ l.length * y = x) (hy : y ≠ 0) (hx : x < 9223372036854775808) : l.length < 3 := by
  by_cases h2 : l.length < 3
  · exact h2
  · have h1 : 1000000000 ^ 3 ≤ 1000000000 ^ l.length := Nat.pow_le_pow_right (by omega) (by omega)
    have h3 : 1000000000 ^ 3 * 1 ≤ 1000000000 ^ l.length * y := Nat.mul_le_mul h1 (by omega)
    omega

theorem times_step {lb l : List Nat} {k x cy n y c' : Nat} (hlb : lb.length = k) (hx : l[k]? = some x) (ht : y + 1000000000 * c' = cy + x * n)
    (h : valB lb + 1000000000 ^ k * cy = valB (l.take k) * n) : valB (lb ++ [y]) + 1000000000 ^ (k + 1) * c' = valB (l.take (k + 1)) * n := by
  rw [val_snocB, val_take_succB (.inl hx), hlb]
  have e1 : 1000000000 ^ (k + 1) * c' = 1000000000 ^ k * (1000000000 * c') := by rw [Nat.pow_succ, Nat.mul_assoc]
  have e2 : 1000000000 ^ k * (y + 1000000000 * c') = 1000000000 ^ k * (cy + x * n) := by rw [ht]
  rw [Nat.mul_add, Nat.mul_add] at e2
  rw [e1, Nat.add_mul, Nat.mul_assoc]
  omega

theorem times_bd {cy x n : Nat} (hc : cy ≤ n) (hx : x < 1000000000) (hn : n ≤ 1000000000) : x * n ≤ 999999999 * 1000000000 ∧ (cy + x * n) / 1000000000 ≤ n := by
  have h1 : x * n ≤ 999999999 * 1000000000 := Nat.mul_le_mul (by omega) hn
  refine ⟨h1, ?_⟩
  have h2 : cy + x * n ≤ 1000000000 * n := by
    have : x * n ≤ 999999999 * n := Nat.mul_le_mul_right _ (by omega)
    omega
  exact Nat.div_le_of_le_mul h2

end Go.Proofs.YthdcceackfdbbabGreatDoor
/- Walks over the reference: plus, minus, compare, power. Own text. -/
namespace Go.Proofs.YthdcceackfdbbabGreatDoor
open Go.RowKit

theorem plus_step {la lb s : List Nat} {k x y c r c' : Nat} (hs : s.length = k) (hx : la[k]? = some x ∨ (la.length ≤ k ∧ x = 0)) (hy : lb[k]? = some y ∨ (lb.length ≤ k ∧ y = 0)) (ht : r + 1000000000 * c' = c + x + y)
    (h : valB s + 1000000000 ^ k * c = valB (la.take k) + valB (lb.take k)) : valB (s ++ [r]) + 1000000000 ^ (k + 1) * c' = valB (la.take (k + 1)) + valB (lb.take (k + 1)) := by
  rw [val_snocB, val_take_succB hx, val_take_succB hy, hs]
  have e1 : 1000000000 ^ (k + 1) * c' = 1000000000 ^ k * (1000000000 * c') := by rw [Nat.pow_succ, Nat.mul_assoc]
  have e2 : 1000000000 ^ k * (r + 1000000000 * c') = 1000000000 ^ k * (c + x + y) := by rw [ht]
  rw [Nat.mul_add, Nat.mul_add, Nat.mul_add] at e2
  omega

end Go.Proofs.YthdcceackfdbbabGreatDoor
/- Walks over the reference: minus, compare. Own text. -/
namespace Go.Proofs.YthdcceackfdbbabGreatDoor
open Go.RowKit

theorem minus_step {la lb s : List Nat} {k x y bw r b' : Nat} (hs : s.length = k) (hx : la[k]? = some x) (hy : lb[k]? = some y ∨ (lb.length ≤ k ∧ y = 0)) (e : x + 1000000000 * b' = r + y + bw)
    (h : valB (la.take k) + 1000000000 ^ k * bw = valB s + valB (lb.take k)) : valB (la.take (k + 1)) + 1000000000 ^ (k + 1) * b' = valB (s ++ [r]) + valB (lb.take (k + 1)) := by
  rw [val_snocB, val_take_succB (.inl hx), val_take_succB hy, hs]
  have e1 : 1000000000 ^ (k + 1) * b' = 1000000000 ^ k * (1000000000 * b') := by rw [Nat.pow_succ, Nat.mul_assoc]
  have e2 : 1000000000 ^ k * (x + 1000000000 * b') = 1000000000 ^ k * (r + y + bw) := by rw [e]
  rw [Nat.mul_add, Nat.mul_add, Nat.mul_add] at e2
  omega

theorem minus_end {la lb s : List Nat} {bw : Nat} (hw : WdsB s) (hs : s.length = la.length) (hlb : lb.length ≤ la.length) (hle : valB lb ≤ valB la) (h : valB (la.take la.length) + 1000000000 ^ la.length * bw = valB s + valB (lb.take la.length)) : valB s = valB la - valB lb := by
  have h1 := val_ltB hw
  rw [List.take_length, List.take_of_length_le hlb] at h
  rw [hs] at h1
  have : bw = 0 := by
    by_cases e : bw = 0
    · exact e
    · have : 1000000000 ^ la.length * 1 ≤ 1000000000 ^ la.length * bw := Nat.mul_le_mul_left _ (by omega)
      omega
  subst this
  omega

end Go.Proofs.YthdcceackfdbbabGreatDoor
/- Walks over the reference: said of numbers; power, value. Own text. -/
namespace Go.Proofs.YthdcceackfdbbabGreatDoor
open Go.RowKit

/-- A number of at most 300 places. -/
def SmallB (a : Nat) : Prop := ∃ L, L ≤ 300 ∧ a < 1000000000 ^ L

theorem SmallB.le {a b : Nat} (h : SmallB b) (hl : a ≤ b) : SmallB a := by
  obtain ⟨L, h1, h2⟩ := h; exact ⟨L, h1, Nat.lt_of_le_of_lt hl h2⟩

theorem SmallB.of_lt {a k : Nat} (h : a < 2 ^ k) (hk : k ≤ 8700) : SmallB a := by
  refine ⟨(k + 28) / 29, by omega, Nat.lt_of_lt_of_le h ?_⟩
  refine Nat.le_trans (Nat.pow_le_pow_right (by omega) (show k ≤ 29 * ((k + 28) / 29) by omega)) ?_
  rw [Nat.pow_mul]
  exact Nat.pow_le_pow_left (by decide) _

theorem RepB.len {w : World} {B : Nat} {v : Value} {l : List Nat} {n : Nat} (_h : OwnB w B v l) (hc : Canon l) (hv : valB l = n) (hn : SmallB n) : l.length ≤ 300 := by
  obtain ⟨L, h1, h2⟩ := hn
  have := canon_lenB hc (by rw [hv]; exact h2)
  omega

theorem OwnB.drewN {w : World} {B : Nat} {v : Value} {l : List Nat} (h : OwnB w B v l) (n : Nat) : OwnB (w.drewN n) B v l := h.below (below_drewN (Below.refl _ _) n)
theorem RepB.drewN {w : World} {B : Nat} {v : Value} {a : Nat} (h : RepB w B v a) (n : Nat) : RepB (w.drewN n) B v a := h.below (below_drewN (Below.refl _ _) n)

theorem canon_le_lenB {la lb : List Nat} (hw : WdsB la) (hc : Canon lb) (h : valB lb ≤ valB la) : lb.length ≤ la.length := by
  by_cases hh : lb.length ≤ la.length
  · exact hh
  · have := val_lt_lenB hw hc (by omega); omega

theorem pow_left {a p n m k : Nat} (hm : m + k ≤ n) : a * p ^ (n - (m + k)) * p ^ k = a * p ^ (n - m) := by
  rw [Nat.mul_assoc, ← Nat.pow_add]; congr 2; omega

theorem pow_part {a p n m : Nat} (hp : 1 ≤ p) (hs : SmallB (a * p ^ n)) : SmallB (a * p ^ (n - m)) :=
  hs.le (Nat.mul_le_mul_left _ (Nat.pow_le_pow_right hp (by omega)))


end Go.Proofs.YthdcceackfdbbabGreatDoor
/- Walks over the reference: product. Own text. -/
namespace Go.Proofs.YthdcceackfdbbabGreatDoor
open Go.RowKit

theorem cells_of {w : World} {g cap : Nat} {l : List Nat} {B : Nat} (h : OwnB w B (.slice (some ⟨g, 0, none⟩) l.length cap) l) : ∀ j u, (i64s l)[j]? = some u → w.cell? ((⟨g, 0, none⟩ : Addr).add j) = some u := by
  intro j u hj
  rw [Addr.add_lit, Nat.zero_add]
  simp only [i64s, List.getElem?_map, Option.map_eq_some_iff] at hj
  obtain ⟨x, hx, rfl⟩ := hj
  exact h.cellW hx

theorem one_of (l : List Nat) : ∀ u ∈ i64s l, u.oneCell' = true := by
  intro u hu; obtain ⟨x, _, rfl⟩ := List.mem_map.1 hu; rfl

theorem i64s_append (a b : List Nat) : i64s (a ++ b) = i64s a ++ i64s b := by simp [i64s]

theorem wds_appendB {a b : List Nat} (ha : WdsB a) (hb : WdsB b) : WdsB (a ++ b) := by
  intro x hx
  rcases List.mem_append.1 hx with h | h
  · exact ha x h
  · exact hb x h

theorem prod_step {la lb s : List Nat} {k y : Nat} (hy : lb[k]? = some y) (h : valB s = valB la * valB (lb.drop (k + 1))) : 1000000000 * valB s + valB la * y = valB la * valB (lb.drop k) := by
  have h1 := List.drop_eq_getElem_cons (l := lb) (i := k) (List.getElem?_eq_some_iff.1 hy).1
  rw [(List.getElem?_eq_some_iff.1 hy).2] at h1
  rw [h1, h]
  simp only [valB]
  rw [Nat.mul_add, Nat.mul_left_comm]
  omega

end Go.Proofs.YthdcceackfdbbabGreatDoor
/- Walks over the reference: divided. Own text. -/
namespace Go.Proofs.YthdcceackfdbbabGreatDoor
open Go.RowKit

theorem RepB.own {w : World} {B : Nat} {v : Value} {n : Nat} (h : RepB w B v n) (hs : SmallB n) : ∃ l, OwnB w B v l ∧ Canon l ∧ valB l = n ∧ l.length ≤ 300 := by
  obtain ⟨l, h1, h2, h3⟩ := h; exact ⟨l, h1, h2, h3, RepB.len h1 h2 h3 hs⟩

theorem bis_mid {lo hi : Nat} (h : lo < hi) : lo < (lo + hi + 1) / 2 ∧ (lo + hi + 1) / 2 ≤ hi := by omega

theorem div_step {la lq : List Nat} {k x b r lo : Nat} (hx : la[k]? = some x) (h : valB (la.drop (k + 1)) = valB lq * b + r) (h1 : b * lo ≤ x + 1000000000 * r) :
    valB (la.drop k) = valB (lo :: lq) * b + (x + 1000000000 * r - b * lo) := by
  have e := List.drop_eq_getElem_cons (l := la) (i := k) (List.getElem?_eq_some_iff.1 hx).1
  rw [(List.getElem?_eq_some_iff.1 hx).2] at e
  rw [e]
  simp only [valB]
  rw [h, Nat.add_mul, Nat.mul_add, Nat.mul_assoc, Nat.mul_comm lo b]
  omega

end Go.Proofs.YthdcceackfdbbabGreatDoor
/- Plain mathematics: the reference's rounding. Own text. -/
namespace Go.Proofs.YthdcceackfdbbabGreatDoor

theorem rat_of2 {a b i j : Nat} : rhe (a * 2 ^ i) (b * 2 ^ j) = rat a b ((j : Int) - i) := by
  unfold rat
  by_cases h : 0 ≤ (j : Int) - i
  · rw [if_pos h]
    have e2 : b * 2 ^ j = b * 2 ^ ((j : Int) - i).toNat * 2 ^ i := by rw [Nat.mul_assoc, ← Nat.pow_add]; congr 2; omega
    rw [e2, rhe_scale _ _ _ (Nat.pow_pos (by omega))]
  · rw [if_neg h]
    have e2 : a * 2 ^ i = a * 2 ^ (-((j : Int) - i)).toNat * 2 ^ j := by rw [Nat.mul_assoc, ← Nat.pow_add]; congr 2; omega
    rw [e2, rhe_scale _ _ _ (Nat.pow_pos (by omega))]

/-- The first guess of the power. -/
def guess (la lb : Nat) : Int := if 0 < (la : Int) - lb - 1 then 29 * ((la : Int) - lb - 1) - 54 else 30 * ((la : Int) - lb - 1) - 54

theorem guess_le {a b la lb : Nat} (ha : a ≠ 0) (hb : b ≠ 0) (h1 : 1000000000 ^ (la - 1) ≤ a) (h2 : b < 1000000000 ^ lb) (hla : 1 ≤ la) : guess la lb + 54 ≤ plog a b := by
  obtain ⟨i, j, e, k1, k2⟩ := plog_key ha hb
  rw [e]
  unfold guess
  by_cases hc : 0 < (la : Int) - lb - 1
  · rw [if_pos hc]
    have h3 : b * 2 ^ (29 * (la - lb - 1)) ≤ a * 2 ^ 0 := by
      rw [Nat.pow_zero, Nat.mul_one]
      refine Nat.le_trans (Nat.mul_le_mul (Nat.le_of_lt h2) (Nat.le_trans ?_ (Nat.le_refl (1000000000 ^ (la - lb - 1))))) ?_
      · rw [Nat.pow_mul]; exact Nat.pow_le_pow_left (by decide) _
      · rw [← Nat.pow_add, show lb + (la - lb - 1) = la - 1 from by omega]; exact h1
    have := power_unique h3 k2
    omega
  · rw [if_neg hc]
    have h3 : b * 2 ^ 0 ≤ a * 2 ^ (30 * (lb + 1 - la)) := by
      rw [Nat.pow_zero, Nat.mul_one]
      refine Nat.le_trans (Nat.le_of_lt h2) ?_
      refine Nat.le_trans ?_ (Nat.mul_le_mul h1 (Nat.le_trans (Nat.le_refl (1000000000 ^ (lb + 1 - la))) ?_))
      · rw [← Nat.pow_add, show la - 1 + (lb + 1 - la) = lb from by omega]; exact Nat.le_refl _
      · rw [Nat.pow_mul]; exact Nat.pow_le_pow_left (by decide) _
    have := power_unique h3 k2
    omega

/-- While the quotient is not below 2^53 the power may rise. -/
theorem round_more {a b i j : Nat} (ha : a ≠ 0) (hb : b ≠ 0) (h : b * 2 ^ j * 9007199254740992 ≤ a * 2 ^ i) : (j : Int) - i + 53 ≤ plog a b := by
  obtain ⟨i0, j0, e, k1, k2⟩ := plog_key ha hb
  have h3 : b * 2 ^ (j + 53) ≤ a * 2 ^ i := by
    rw [Nat.pow_add, ← Nat.mul_assoc]; exact h
  have := power_unique h3 k2
  omega

theorem round_stop {a b i j : Nat} (ha : a ≠ 0) (hb : b ≠ 0) (h : a * 2 ^ i < b * 2 ^ j * 9007199254740992) : plog a b ≤ (j : Int) - i + 52 := by
  obtain ⟨i0, j0, e, k1, k2⟩ := plog_key ha hb
  have h3 : a * 2 ^ i < 2 * (b * 2 ^ (j + 52)) := by
    rw [Nat.pow_add, ← Nat.mul_assoc b]; omega
  have := power_unique k1 h3
  omega

theorem round_low {a b i j : Nat} (ha : a ≠ 0) (hb : b ≠ 0) (h : (j : Int) - i + 52 ≤ plog a b) : b * 2 ^ j * 4503599627370496 ≤ a * 2 ^ i := by
  obtain ⟨i0, j0, e, k1, k2⟩ := plog_key ha hb
  by_cases hh : b * 2 ^ j * 4503599627370496 ≤ a * 2 ^ i
  · exact hh
  · exfalso
    have h3 : a * 2 ^ i < 2 * (b * 2 ^ (j + 51)) := by
      rw [Nat.pow_add, ← Nat.mul_assoc b]; omega
    have := power_unique k1 h3
    omega

theorem rhe_bounds {n d q r : Nat} (h : n = d * q + r) (hr : r < d) (h1 : n < d * 9007199254740992) : q < 9007199254740992 ∧ rhe n d ≤ 9007199254740992 ∧ q ≤ rhe n d := by
  have h2 : n / d = q := by rw [h, Nat.mul_comm, Nat.add_comm, Nat.add_mul_div_right _ _ (by omega), Nat.div_eq_of_lt hr]; omega
  have h3 : n / d < 9007199254740992 := Nat.div_lt_of_lt_mul h1
  refine ⟨by omega, ?_, ?_⟩ <;> (unfold rhe; split <;> omega)

/-- What the last lines of the reference's rounding answer. -/
def finR (m : Nat) (e : Int) : Nat :=
  if m = 9007199254740992 then (if 2047 ≤ e + 1 + 1075 then 9218868437227405312 else (e + 1 + 1075).toNat * 4503599627370496)
  else if m < 4503599627370496 then m
  else if 2047 ≤ e + 1075 then 9218868437227405312 else (e + 1075).toNat * 4503599627370496 + (m - 4503599627370496)

theorem finR_eq {a b i j : Nat} (ha : a ≠ 0) (hb : b ≠ 0) (he1 : -1074 ≤ (j : Int) - i) (hstop : plog a b ≤ (j : Int) - i + 52) (hlow : (j : Int) - i = -1074 ∨ (j : Int) - i + 52 ≤ plog a b) :
    finR (rhe (a * 2 ^ i) (b * 2 ^ j)) ((j : Int) - i) = rnd a b := by
  have hrat := rat_of2 (a := a) (b := b) (i := i) (j := j)
  have hm : rhe (a * 2 ^ i) (b * 2 ^ j) ≤ 9007199254740992 := by
    refine rhe_le ?_
    by_cases hh : a * 2 ^ i < b * 2 ^ j * 9007199254740992
    · exact hh
    · have := round_more ha hb (by omega : b * 2 ^ j * 9007199254740992 ≤ a * 2 ^ i); omega
  have hE : eOf (plog a b) = (j : Int) - i := by unfold eOf; split <;> omega
  have hml : (j : Int) - i ≠ -1074 → 4503599627370496 ≤ rhe (a * 2 ^ i) (b * 2 ^ j) := by
    intro hne
    have h1 := round_low ha hb (by omega : (j : Int) - i + 52 ≤ plog a b)
    have hpos : 0 < b * 2 ^ j := Nat.mul_pos (by omega) (Nat.pow_pos (by omega))
    have h2 : 4503599627370496 ≤ a * 2 ^ i / (b * 2 ^ j) := (Nat.le_div_iff_mul_le hpos).2 (by rw [Nat.mul_comm]; exact h1)
    unfold rhe; split <;> omega
  unfold rnd
  rw [hE, ← hrat]
  generalize rhe (a * 2 ^ i) (b * 2 ^ j) = m at *
  unfold finR
  by_cases c1 : 1023 < plog a b
  · rw [if_pos c1]
    split
    · rw [if_pos (by omega)]
    · split
      · omega
      · rw [if_pos (by omega)]
  · rw [if_neg c1]
    split
    · rename_i h1
      subst h1
      split
      · omega
      · omega
    · split
      · have : (j : Int) - i = -1074 := by
          by_cases hx : (j : Int) - i = -1074
          · exact hx
          · have := hml hx; omega
        rw [this]; simp
      · rw [if_neg (by omega)]; omega

end Go.Proofs.YthdcceackfdbbabGreatDoor
/- Walk over the reference: rounded. Own text. -/
namespace Go.Proofs.YthdcceackfdbbabGreatDoor
open Go.RowKit

theorem smallB_of_bl {a k : Nat} (h : bl a ≤ k) (hk : k ≤ 8700) : SmallB a := SmallB.of_lt (k := k) (Nat.lt_of_lt_of_le (bl_hi a) (Nat.pow_le_pow_right (by omega) h)) hk

theorem canon_len_bl {l : List Nat} {k : Nat} (hc : Canon l) (h : bl (valB l) ≤ 29 * k) : l.length ≤ k := by
  refine canon_lenB hc (Nat.lt_of_lt_of_le (bl_hi _) (Nat.le_trans (Nat.pow_le_pow_right (by omega) h) ?_))
  rw [Nat.pow_mul]; exact Nat.pow_le_pow_left (by decide) _

theorem plog_le_bl {a b : Nat} (ha : a ≠ 0) (hb : b ≠ 0) : plog a b ≤ (bl a : Int) := by
  obtain ⟨i0, j0, e, k1, k2⟩ := plog_key ha hb
  have h3 : a * 2 ^ 0 < 2 * (b * 2 ^ bl a) := by
    rw [Nat.pow_zero, Nat.mul_one]
    have h4 := bl_hi a
    have h5 : 1 * 2 ^ bl a ≤ b * 2 ^ bl a := Nat.mul_le_mul_right _ (by omega)
    omega
  have := power_unique k1 h3
  omega

end Go.Proofs.YthdcceackfdbbabGreatDoor
/- A fraction is rounded to a size exactly where it lies in the size's interval. Own text. -/
namespace Go.Proofs.YthdcceackfdbbabGreatDoor
open Go.RowKit

theorem inS_iff {d r : Nat} {ev : Bool} : inS d r ev = true ↔ d < r ∨ (d = r ∧ ev = true) := by
  unfold inS; simp

/-- X in quarters of a step: in the interval of m steps? -/
def InI (X Q m : Nat) (nb ev : Bool) : Prop :=
  (X ≤ 4 * Q * m ∧ inS (4 * Q * m - X) (if nb then Q else 2 * Q) ev = true) ∨ (4 * Q * m ≤ X ∧ inS (X - 4 * Q * m) (2 * Q) ev = true)

theorem plog_lo {a b k K : Nat} (ha : a ≠ 0) (hb : b ≠ 0) (h : (k : Int) - K ≤ plog a b) : b * 2 ^ k ≤ a * 2 ^ K := by
  obtain ⟨i, j, e, h1, _⟩ := plog_key ha hb
  rw [e] at h
  have hk : k + i ≤ j + K := by omega
  have q1 : b * 2 ^ k * 2 ^ i ≤ b * 2 ^ j * 2 ^ K := by
    rw [Nat.mul_assoc, Nat.mul_assoc, ← Nat.pow_add, ← Nat.pow_add]
    exact Nat.mul_le_mul_left _ (Nat.pow_le_pow_right (by omega) hk)
  have q2 : b * 2 ^ j * 2 ^ K ≤ a * 2 ^ K * 2 ^ i := by
    rw [Nat.mul_right_comm a]; exact Nat.mul_le_mul_right _ h1
  exact Nat.le_of_mul_le_mul_right (Nat.le_trans q1 q2) (Nat.pow_pos (by omega))

theorem plog_hi {a b k K : Nat} (ha : a ≠ 0) (hb : b ≠ 0) (h : plog a b ≤ (k : Int) - K) : a * 2 ^ K < 2 * (b * 2 ^ k) := by
  obtain ⟨i, j, e, _, h2⟩ := plog_key ha hb
  rw [e] at h
  have hk : j + K ≤ k + i := by omega
  have q1 : a * 2 ^ K * 2 ^ i < 2 * (b * 2 ^ j) * 2 ^ K := by
    rw [Nat.mul_right_comm a]; exact Nat.mul_lt_mul_of_pos_right h2 (Nat.pow_pos (by omega))
  have q2 : 2 * (b * 2 ^ j) * 2 ^ K ≤ 2 * (b * 2 ^ k) * 2 ^ i := by
    rw [Nat.mul_assoc, Nat.mul_assoc, Nat.mul_assoc, Nat.mul_assoc, ← Nat.pow_add, ← Nat.pow_add]
    exact Nat.mul_le_mul_left _ (Nat.mul_le_mul_left _ (Nat.pow_le_pow_right (by omega) hk))
  exact Nat.lt_of_mul_lt_mul_right (Nat.lt_of_lt_of_le q1 q2)

theorem rnd_form {a b K : Nat} (ha : a ≠ 0) (hb : b ≠ 0) (hK : K = 1076) : ∃ n : Nat, (n = 0 ∨ 4 * (b * 2 ^ n) * 4503599627370496 ≤ a * 2 ^ K) ∧ a * 2 ^ K < 4 * (b * 2 ^ n) * 9007199254740992 ∧
    rnd a b = if 2045 < n then 9218868437227405312 else n * 4503599627370496 + rhe (a * 2 ^ K) (4 * (b * 2 ^ n)) := by
  have hsplit : ∀ n : Nat, b * 2 ^ (n + 54) = 4 * (b * 2 ^ n) * 4503599627370496 := by
    intro n; rw [Nat.pow_add]; rw [← Nat.mul_assoc]; omega
  have hq : ∀ n : Nat, (n : Int) + 2 - K = (n : Int) - 1074 := by intro n; omega
  have hrat : ∀ n : Nat, rhe (a * 2 ^ K) (4 * (b * 2 ^ n)) = rat a b ((n : Int) - 1074) := by
    intro n
    rw [show 4 * (b * 2 ^ n) = b * 2 ^ (n + 2) by rw [Nat.pow_add, ← Nat.mul_assoc b]; omega, rat_of2, ← hq n]
    congr 1
  unfold rnd
  generalize hp : plog a b = p
  by_cases h1 : p < -1022
  · refine ⟨0, .inl rfl, ?_, ?_⟩
    · have := plog_hi (k := 54) (K := K) ha hb (by omega)
      have e := hsplit 0
      simp only [Nat.zero_add] at e
      omega
    · rw [if_neg (by omega), if_neg (by omega), hrat]
      unfold eOf
      rw [if_pos h1]
      simp
  · obtain ⟨n, hn⟩ : ∃ n : Nat, p = (n : Int) - 1022 := ⟨(p + 1022).toNat, by omega⟩
    refine ⟨n, .inr ?_, ?_, ?_⟩
    · have := plog_lo (k := n + 54) (K := K) ha hb (by omega)
      rw [hsplit] at this
      exact this
    · have := plog_hi (k := n + 54) (K := K) ha hb (by omega)
      rw [hsplit] at this
      omega
    · by_cases h2 : 1023 < p
      · rw [if_pos h2, if_pos (by omega)]
      · rw [if_neg h2, if_neg (by omega), hrat]
        unfold eOf
        rw [if_neg h1, hn]
        rw [show (n : Int) - 1022 - 52 = (n : Int) - 1074 by omega, show ((n : Int) - 1074 + 1074).toNat = n by omega]

/-- What rounding to the nearest whole number says. -/
theorem rhe_spec {X D : Nat} (hD : D ≠ 0) : (X = D * rhe X D + X % D ∧ (2 * (X % D) < D ∨ (2 * (X % D) = D ∧ rhe X D % 2 = 0))) ∨ (X + (D - X % D) = D * rhe X D ∧ (D < 2 * (X % D) ∨ (2 * (X % D) = D ∧ rhe X D % 2 = 0))) := by
  have h1 := Nat.div_add_mod X D
  have h2 := Nat.mod_lt X (Nat.pos_of_ne_zero hD)
  unfold rhe
  generalize X / D = q at *
  generalize X % D = r at *
  split
  · rename_i h
    right
    refine ⟨by rw [Nat.mul_add]; omega, ?_⟩
    rcases h with h | ⟨h, h'⟩
    · exact .inl h
    · exact .inr ⟨h, by omega⟩
  · rename_i h
    left
    refine ⟨by omega, ?_⟩
    by_cases hh : 2 * r < D
    · exact .inl hh
    · right; exact ⟨by omega, by omega⟩

theorem rhe_in {X Q m : Nat} {nb ev : Bool} (hQ : Q ≠ 0) (hev : ev = decide (m % 2 = 0)) (h : InI X Q m nb ev) : rhe X (4 * Q) = m := by
  rcases h with ⟨h1, h2⟩ | ⟨h1, h2⟩
  · rw [inS_iff] at h2
    by_cases h0 : X = 4 * Q * m
    · rw [rhe_of (q := m) (r := 0) (by omega) (by omega), if_neg (by omega)]
    · have hm : m ≠ 0 := by intro h'; subst h'; omega
      obtain ⟨k, rfl⟩ : ∃ k, m = k + 1 := ⟨m - 1, by omega⟩
      have e : 4 * Q * (k + 1) = 4 * Q * k + 4 * Q := by rw [Nat.mul_add]; omega
      rw [e] at h1 h2 h0
      have hb : (if nb = true then Q else 2 * Q) ≤ 2 * Q := by split <;> omega
      have hb2 : 4 * Q * k + 4 * Q - X ≤ 2 * Q := by rcases h2 with h2 | h2 <;> omega
      have hb3 : (if nb = true then Q else 2 * Q) < 2 * Q ∨ (if nb = true then Q else 2 * Q) = 2 * Q := by omega
      rw [rhe_of (q := k) (r := X - 4 * Q * k) (by omega) (by omega)]
      rw [if_pos]
      by_cases hh : 4 * Q < 2 * (X - 4 * Q * k)
      · exact .inl hh
      · right
        refine ⟨by omega, ?_⟩
        rcases h2 with h2 | ⟨h2, h3⟩
        · omega
        · rw [hev] at h3
          simp at h3
          omega
  · rw [inS_iff] at h2
    have hb2 : X - 4 * Q * m ≤ 2 * Q := by rcases h2 with h2 | h2 <;> omega
    rw [rhe_of (q := m) (r := X - 4 * Q * m) (by omega) (by omega)]
    rw [if_neg]
    intro hh
    rcases hh with hh | ⟨hh, hh'⟩
    · omega
    · rcases h2 with h2 | ⟨h2, h3⟩
      · omega
      · rw [hev] at h3
        simp at h3
        omega

theorem pow_le_double {b n k : Nat} (h : n < k) : 2 * (b * 2 ^ n) ≤ b * 2 ^ k := by
  obtain ⟨i, rfl⟩ : ∃ i, k = n + 1 + i := ⟨k - (n + 1), by omega⟩
  rw [Nat.pow_add, Nat.pow_succ]
  have : 1 ≤ 2 ^ i := Nat.pow_pos (by omega)
  have := Nat.mul_le_mul_left (b * (2 ^ n * 2)) this
  rw [← Nat.mul_assoc b, ← Nat.mul_assoc b] at *
  omega

theorem in_rnd {a b n m K : Nat} {nb ev : Bool} (ha : a ≠ 0) (hb : b ≠ 0) (hK : K = 1076) (hn : n ≤ 2045) (hm : m < 9007199254740992) (hnm : n = 0 ∨ 4503599627370496 ≤ m) (hnb : nb = decide (m = 4503599627370496 ∧ 1 ≤ n)) (hev : ev = decide (m % 2 = 0))
    (h : InI (a * 2 ^ K) (b * 2 ^ n) m nb ev) : rnd a b = n * 4503599627370496 + m := by
  obtain ⟨k, f1, f2, f3⟩ := rnd_form ha hb hK
  rw [f3]
  clear f3
  generalize a * 2 ^ K = X at *
  have hQ : b * 2 ^ n ≠ 0 := Nat.mul_ne_zero hb (Nat.ne_of_gt (Nat.pow_pos (by omega)))
  have hQk : b * 2 ^ k ≠ 0 := Nat.mul_ne_zero hb (Nat.ne_of_gt (Nat.pow_pos (by omega)))
  have hX1 : X ≤ 4 * (b * 2 ^ n) * m + 2 * (b * 2 ^ n) := by
    rcases h with ⟨h1, _⟩ | ⟨h1, h2⟩
    · omega
    · rw [inS_iff] at h2; rcases h2 with h2 | h2 <;> omega
  rcases Nat.lt_trichotomy n k with hlt | hlt | hlt
  · exfalso
    have hd := pow_le_double (b := b) hlt
    have e := Nat.mul_le_mul_left (4 * (b * 2 ^ n)) (show m ≤ 9007199254740991 by omega)
    omega
  · subst hlt
    rw [if_neg (by omega), rhe_in hQ hev h]
  · have hd := pow_le_double (b := b) hlt
    have hm52 : 4503599627370496 ≤ m := by omega
    by_cases hme : m = 4503599627370496
    · have hnbt : nb = true := by rw [hnb]; simp; omega
      rw [hnbt] at h
      have hX2 : 4 * (b * 2 ^ n) * m ≤ X + b * 2 ^ n := by
        rcases h with ⟨h1, h2⟩ | ⟨h1, h2⟩
        · rw [inS_iff, if_pos rfl] at h2; rcases h2 with h2 | h2 <;> omega
        · omega
      rw [hme] at hX2
      by_cases hk1 : n = k + 1
      · have e2 : b * 2 ^ n = 2 * (b * 2 ^ k) := by rw [hk1, Nat.pow_succ, ← Nat.mul_assoc]; omega
        rw [e2] at hX2
        rw [if_neg (by omega), rhe_of (q := 9007199254740991) (r := X - 4 * (b * 2 ^ k) * 9007199254740991) (by omega) (by omega), if_pos]
        · omega
        · by_cases hh : 4 * (b * 2 ^ k) < 2 * (X - 4 * (b * 2 ^ k) * 9007199254740991)
          · exact .inl hh
          · right; exact ⟨by omega, by decide⟩
      · exfalso
        have hd2 := pow_le_double (b := b) (show k < k + 1 by omega)
        have hd3 := pow_le_double (b := b) (show k + 1 < n by omega)
        omega
    · exfalso
      have e := Nat.mul_le_mul_left (4 * (b * 2 ^ n)) (show 4503599627370497 ≤ m by omega)
      have hb' : (if nb = true then b * 2 ^ n else 2 * (b * 2 ^ n)) ≤ 2 * (b * 2 ^ n) := by split <;> omega
      rcases h with ⟨h1, h2⟩ | ⟨h1, h2⟩
      · rw [inS_iff] at h2; rcases h2 with h2 | h2 <;> omega
      · omega

theorem rnd_in {a b n m K : Nat} {nb ev : Bool} (ha : a ≠ 0) (hb : b ≠ 0) (hK : K = 1076) (hn : n ≤ 2045) (hm : m < 9007199254740992) (hnm : n = 0 ∨ 4503599627370496 ≤ m) (hnb : nb = decide (m = 4503599627370496 ∧ 1 ≤ n)) (hev : ev = decide (m % 2 = 0))
    (h : rnd a b = n * 4503599627370496 + m) : InI (a * 2 ^ K) (b * 2 ^ n) m nb ev := by
  obtain ⟨k, f1, f2, f3⟩ := rnd_form ha hb hK
  rw [f3] at h
  clear f3
  generalize a * 2 ^ K = X at *
  have hQ : b * 2 ^ n ≠ 0 := Nat.mul_ne_zero hb (Nat.ne_of_gt (Nat.pow_pos (by omega)))
  have hQk : b * 2 ^ k ≠ 0 := Nat.mul_ne_zero hb (Nat.ne_of_gt (Nat.pow_pos (by omega)))
  by_cases hk : 2045 < k
  · rw [if_pos hk] at h; exfalso; omega
  · rw [if_neg hk] at h
    have hs := rhe_spec (X := X) (D := 4 * (b * 2 ^ k)) (by omega)
    have hmod := Nat.mod_lt X (show 0 < 4 * (b * 2 ^ k) by omega)
    have hr53 : rhe X (4 * (b * 2 ^ k)) ≤ 9007199254740992 := rhe_le f2
    have hr52 : k = 0 ∨ 4503599627370496 ≤ rhe X (4 * (b * 2 ^ k)) := by
      rcases f1 with f1 | f1
      · exact .inl f1
      · right
        rcases Nat.lt_or_ge (rhe X (4 * (b * 2 ^ k))) 4503599627370496 with h' | h'
        · exfalso
          have e := Nat.mul_le_mul_left (4 * (b * 2 ^ k)) (show rhe X (4 * (b * 2 ^ k)) ≤ 4503599627370495 by omega)
          omega
        · exact h'
    generalize rhe X (4 * (b * 2 ^ k)) = r at *
    rcases (show (k = n ∧ r = m) ∨ (n = k + 1 ∧ r = 9007199254740992 ∧ m = 4503599627370496) by omega) with ⟨rfl, rfl⟩ | ⟨rfl, rfl, rfl⟩
    · rcases hs with ⟨h1, h2⟩ | ⟨h1, h2⟩
      · right
        refine ⟨by omega, ?_⟩
        rw [inS_iff]
        rcases h2 with h2 | ⟨h2, h3⟩
        · left; omega
        · right; exact ⟨by omega, by rw [hev]; simpa using h3⟩
      · left
        have hnbf : nb = false := by
          rw [hnb, decide_eq_false]
          rintro ⟨g1, g2⟩
          rw [g1] at h1
          omega
        rw [hnbf]
        refine ⟨by omega, ?_⟩
        rw [inS_iff]
        simp only [Bool.false_eq_true, if_false]
        rcases h2 with h2 | ⟨h2, h3⟩
        · left; omega
        · right; exact ⟨by omega, by rw [hev]; simpa using h3⟩
    · have e2 : b * 2 ^ (k + 1) = 2 * (b * 2 ^ k) := by rw [Nat.pow_succ, ← Nat.mul_assoc]; omega
      rw [e2]
      have hnbt : nb = true := by rw [hnb]; simp
      have hevt : ev = true := by rw [hev]; rfl
      rw [hnbt, hevt]
      left
      rcases hs with ⟨h1, h2⟩ | ⟨h1, h2⟩
      · exfalso; omega
      · refine ⟨by omega, ?_⟩
        rw [inS_iff]
        simp only [if_true, and_true]
        omega

end Go.Proofs.YthdcceackfdbbabGreatDoor
