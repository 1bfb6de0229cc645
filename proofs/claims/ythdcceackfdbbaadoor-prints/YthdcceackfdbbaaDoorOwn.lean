/- A slice of words that a call owns; what Rep says. Own text. -/
import Derived.Test.YthdcceackfdbbaaDoorRows
import Derived.Test.YthdcceackfdbbaaDoorNat
import Derived.WalkKit
import Derived.WalkSpells
import Derived.WalkLawsBesides
namespace Go.Proofs.YthdcceackfdbbaaDoor
open Go.RowKit

def u32s (l : List Nat) : List Value := l.map fun x : Nat => Value.int .u32 (x : Int)

/-- The slice v holds the words l, in a block from B on. -/
def Own (w : World) (B : Nat) (v : Value) (l : List Nat) : Prop := w.ownsRow B 84 1 v l.length (u32s l) ∧ Wds l

/-- The slice v is the number n. -/
def Rep (w : World) (B : Nat) (v : Value) (n : Nat) : Prop := ∃ l, Own w B v l ∧ Canon l ∧ val l = n

theorem ownsRow_below {w w' : World} {B e size n : Nat} {v : Value} {xs : List Value} (h : w.ownsRow B e size v n xs) (hb : Below w.heap.size w w') : w'.ownsRow B e size v n xs := by
  refine ⟨h.1, ?_⟩
  rcases h.2 with hn | ⟨g, cap, cur, rfl, h1, hg, rest⟩
  · exact .inl hn
  · exact .inr ⟨g, cap, cur, rfl, h1, by rw [hb.block g (Array.getElem?_eq_some_iff.1 hg).1]; exact hg, rest⟩

theorem ownsRow_base {w : World} {B B' e size n : Nat} {v : Value} {xs : List Value} (h : w.ownsRow B e size v n xs) (hb : B' ≤ B) : w.ownsRow B' e size v n xs := by
  refine ⟨h.1, ?_⟩
  rcases h.2 with hn | ⟨g, cap, cur, rfl, h1, rest⟩
  · exact .inl hn
  · exact .inr ⟨g, cap, cur, rfl, Nat.le_trans hb h1, rest⟩

theorem Own.below {w w' : World} {B : Nat} {v : Value} {l : List Nat} (h : Own w B v l) (hb : Below w.heap.size w w') : Own w' B v l := ⟨ownsRow_below h.1 hb, h.2⟩
theorem Own.base {w : World} {B B' : Nat} {v : Value} {l : List Nat} (h : Own w B v l) (hb : B' ≤ B) : Own w B' v l := ⟨ownsRow_base h.1 hb, h.2⟩
theorem Rep.below {w w' : World} {B : Nat} {v : Value} {n : Nat} (h : Rep w B v n) (hb : Below w.heap.size w w') : Rep w' B v n := by
  obtain ⟨l, h1, h2⟩ := h; exact ⟨l, h1.below hb, h2⟩
theorem Rep.base {w : World} {B B' : Nat} {v : Value} {n : Nat} (h : Rep w B v n) (hb : B' ≤ B) : Rep w B' v n := by
  obtain ⟨l, h1, h2⟩ := h; exact ⟨l, h1.base hb, h2⟩

/-- What a walk wants of such a slice. -/
theorem Own.shape {w : World} {B : Nat} {v : Value} {l : List Nat} (h : Own w B v l) :
    (v = .slice none 0 0 ∧ l = []) ∨ ∃ g cap, v = .slice (some ⟨g, 0, none⟩) l.length cap ∧ B ≤ g ∧ g < w.heap.size ∧ l.length ≤ cap ∧ cap ≤ maxLen ∧
      (∀ (i x : Nat), l[i]? = some x → w.cell? ⟨g, i, none⟩ = some (.int .u32 (x : Int))) ∧ (∀ i, w.frozen? ⟨g, i, none⟩ = false) := by
  rcases h.1.2 with ⟨rfl, h0⟩ | ⟨g, cap, cur, rfl, hb, hg, hnc, hcm, hcs, htake⟩
  · exact .inl ⟨rfl, List.length_eq_zero_iff.1 h0⟩
  · refine .inr ⟨g, cap, rfl, hb, (Array.getElem?_eq_some_iff.1 hg).1, hnc, hcm, ?_, ?_⟩
    · intro i x hi
      have hlt : i < l.length := (List.getElem?_eq_some_iff.1 hi).1
      rw [h.1.cellAt i (by omega)]
      simp [u32s, hi]
    · intro i; exact h.1.frozenAt i

/-- The same in one case, its address whatever. -/
theorem Own.shape1 {w : World} {B : Nat} {v : Value} {l : List Nat} (h : Own w B v l) :
    ∃ ao cap, v = .slice ao l.length cap ∧ l.length ≤ cap ∧ cap ≤ maxLen ∧ (∀ (i x : Nat), l[i]? = some x → x < 4294967296 ∧ ∃ g, ao = some ⟨g, 0, none⟩ ∧ B ≤ g ∧ g < w.heap.size ∧ w.cell? ⟨g, i, none⟩ = some (.int .u32 (x : Int))) := by
  rcases h.shape with ⟨rfl, rfl⟩ | ⟨g, cap, rfl, h1, h2, h3, h4, h5, _⟩
  · exact ⟨none, 0, rfl, by simp, by simp, by simp⟩
  · exact ⟨_, cap, rfl, h3, h4, fun i x hi => ⟨h.2 x (List.mem_of_getElem? hi), g, rfl, h1, h2, h5 i x hi⟩⟩

theorem Own.len {w : World} {B : Nat} {v : Value} {l : List Nat} (h : Own w B v l) : l.length ≤ maxLen := by
  rcases h.shape with ⟨_, rfl⟩ | ⟨g, cap, _, _, _, h1, h2, _⟩
  · simp
  · omega

/-- Cut shorter at its end. -/
theorem Own.take {w : World} {B g n cap : Nat} {l : List Nat} (h : Own w B (.slice (some ⟨g, 0, none⟩) n cap) l) (hn : n = l.length) {k : Nat} (hk : k ≤ l.length) : Own w B (.slice (some ⟨g, 0, none⟩) k cap) (l.take k) := by
  subst hn
  have hkl : (l.take k).length = k := by rw [List.length_take]; omega
  refine ⟨⟨by simp [u32s], ?_⟩, wds_take h.2 k⟩
  rcases h.1.2 with ⟨h', _⟩ | ⟨g', cap', cur, h', hb, hg, hnc, hcm, hcs, htake⟩
  · simp at h'
  · simp only [Value.slice.injEq, Option.some.injEq, Addr.mk.injEq, and_true, true_and] at h'
    obtain ⟨rfl, rfl⟩ := h'
    refine .inr ⟨g, cap, cur, by rw [hkl], hb, hg, by omega, hcm, hcs, ?_⟩
    rw [hkl]
    simp only [u32s, List.map_take, Nat.mul_one] at htake ⊢
    rw [← htake, List.take_take, Nat.min_eq_left hk]

theorem Own.stored {w : World} {B g n cap : Nat} {l : List Nat} (h : Own w B (.slice (some ⟨g, 0, none⟩) n cap) l) (hn : n = l.length) (j : Nat) {y : Nat} (hy : y < 4294967296) :
    Own (w.setCell ⟨g, j, none⟩ (.int .u32 (y : Int))) B (.slice (some ⟨g, 0, none⟩) n cap) (l.set j y) := by
  subst hn
  refine ⟨?_, ?_⟩
  · have := (h.1.stored j (.int .u32 (y : Int))).1
    simpa [u32s, List.map_set] using this
  · intro x hx
    rcases List.mem_or_eq_of_mem_set hx with h1 | h1
    · exact h.2 x h1
    · omega

theorem own_made {w : World} {B : Nat} {v : Value} {n : Nat} (h : w.ownsRow B 84 1 v n (madeCells #[Value.int .u32 0] n).toList) : Own w B v (List.replicate n 0) := by
  refine ⟨?_, ?_⟩
  · have e : (madeCells #[Value.int .u32 0] n).toList = u32s (List.replicate n 0) := by
      rw [toList_madeCells_one]
      simp [u32s]
    rw [e] at h
    simpa using h
  · intro x hx
    have := (List.mem_replicate.1 hx).2
    omega

/-- What lies in other blocks stays. -/
theorem Own.setOther {w : World} {B : Nat} {v : Value} {l : List Nat} (h : Own w B v l) {a : Addr} (u : Value) (hne : ∀ k, v.ownBlock = some k → k ≠ a.block) : Own (w.setCell a u) B v l := by
  refine ⟨⟨h.1.1, ?_⟩, h.2⟩
  rcases h.1.2 with hn | ⟨g, cap, cur, rfl, h1, hg, rest⟩
  · exact .inl hn
  · exact .inr ⟨g, cap, cur, rfl, h1, by rw [Below.heap_setCell _ _ _ _ (hne g rfl)]; exact hg, rest⟩

theorem Own.lenW {w : World} {B n cap : Nat} {ao : Option Addr} {l : List Nat} (h : Own w B (.slice ao n cap) l) : n = l.length := by
  rcases h.shape with ⟨e, rfl⟩ | ⟨g', cap', e, _⟩
  · simp at e; simp [e]
  · simp at e; omega

theorem Own.frozenW {w : World} {B g n cap : Nat} {l : List Nat} (h : Own w B (.slice (some ⟨g, 0, none⟩) n cap) l) (j : Nat) : w.frozen? ⟨g, j, none⟩ = false := by
  have := h.lenW; subst this; exact h.1.frozenAt j

theorem Own.cellW {w : World} {B g n cap : Nat} {l : List Nat} (h : Own w B (.slice (some ⟨g, 0, none⟩) n cap) l) {j y : Nat} (hj : l[j]? = some y) : w.cell? ⟨g, j, none⟩ = some (.int .u32 (y : Int)) := by
  have := h.lenW; subst this
  rw [h.1.cellAt j (by have := (List.getElem?_eq_some_iff.1 hj).1; omega)]
  simp [u32s, hj]

theorem Own.at {w : World} {B g n cap : Nat} {l : List Nat} (h : Own w B (.slice (some ⟨g, 0, none⟩) n cap) l) {j : Nat} (hj : j < n) : ∃ y, l[j]? = some y ∧ y < 4294967296 ∧ w.cell? ⟨g, j, none⟩ = some (.int .u32 (y : Int)) := by
  have := h.lenW; subst this
  have e : l[j]? = some l[j] := by simp [hj]
  exact ⟨l[j], e, h.2 _ (List.getElem_mem hj), h.cellW e⟩

def lenOfV : Value → Nat
  | .slice _ n _ => n
  | _ => 0

end Go.Proofs.YthdcceackfdbbaaDoor
