/- The same for slices of ints, places of a thousand million. Own text. -/
import Derived.Test.YthdcceackfdbbaaDoorOwn
import Derived.Test.YthdcceackfdbbaaDoorNatB
namespace Go.Proofs.YthdcceackfdbbaaDoor
open Go.RowKit

def i64s (l : List Nat) : List Value := l.map fun x : Nat => Value.int .i64 (x : Int)

/-- The slice v holds the words l, in a block from B on. -/
def OwnB (w : World) (B : Nat) (v : Value) (l : List Nat) : Prop := w.ownsRow B 3 1 v l.length (i64s l) ∧ WdsB l

/-- The slice v is the number n. -/
def RepB (w : World) (B : Nat) (v : Value) (n : Nat) : Prop := ∃ l, OwnB w B v l ∧ Canon l ∧ valB l = n

theorem OwnB.below {w w' : World} {B : Nat} {v : Value} {l : List Nat} (h : OwnB w B v l) (hb : Below w.heap.size w w') : OwnB w' B v l := ⟨ownsRow_below h.1 hb, h.2⟩
theorem OwnB.base {w : World} {B B' : Nat} {v : Value} {l : List Nat} (h : OwnB w B v l) (hb : B' ≤ B) : OwnB w B' v l := ⟨ownsRow_base h.1 hb, h.2⟩
theorem RepB.below {w w' : World} {B : Nat} {v : Value} {n : Nat} (h : RepB w B v n) (hb : Below w.heap.size w w') : RepB w' B v n := by
  obtain ⟨l, h1, h2⟩ := h; exact ⟨l, h1.below hb, h2⟩
theorem RepB.base {w : World} {B B' : Nat} {v : Value} {n : Nat} (h : RepB w B v n) (hb : B' ≤ B) : RepB w B' v n := by
  obtain ⟨l, h1, h2⟩ := h; exact ⟨l, h1.base hb, h2⟩

/-- What a walk wants of such a slice. -/
theorem OwnB.shape {w : World} {B : Nat} {v : Value} {l : List Nat} (h : OwnB w B v l) :
    (v = .slice none 0 0 ∧ l = []) ∨ ∃ g cap, v = .slice (some ⟨g, 0, none⟩) l.length cap ∧ B ≤ g ∧ g < w.heap.size ∧ l.length ≤ cap ∧ cap ≤ maxLen ∧
      (∀ (i x : Nat), l[i]? = some x → w.cell? ⟨g, i, none⟩ = some (.int .i64 (x : Int))) ∧ (∀ i, w.frozen? ⟨g, i, none⟩ = false) := by
  rcases h.1.2 with ⟨rfl, h0⟩ | ⟨g, cap, cur, rfl, hb, hg, hnc, hcm, hcs, htake⟩
  · exact .inl ⟨rfl, List.length_eq_zero_iff.1 h0⟩
  · refine .inr ⟨g, cap, rfl, hb, (Array.getElem?_eq_some_iff.1 hg).1, hnc, hcm, ?_, ?_⟩
    · intro i x hi
      have hlt : i < l.length := (List.getElem?_eq_some_iff.1 hi).1
      rw [h.1.cellAt i (by omega)]
      simp [i64s, hi]
    · intro i; exact h.1.frozenAt i

/-- The same in one case, its address whatever. -/
theorem OwnB.shape1 {w : World} {B : Nat} {v : Value} {l : List Nat} (h : OwnB w B v l) :
    ∃ ao cap, v = .slice ao l.length cap ∧ l.length ≤ cap ∧ cap ≤ maxLen ∧ (∀ (i x : Nat), l[i]? = some x → x < 1000000000 ∧ ∃ g, ao = some ⟨g, 0, none⟩ ∧ B ≤ g ∧ g < w.heap.size ∧ w.cell? ⟨g, i, none⟩ = some (.int .i64 (x : Int))) := by
  rcases h.shape with ⟨rfl, rfl⟩ | ⟨g, cap, rfl, h1, h2, h3, h4, h5, _⟩
  · exact ⟨none, 0, rfl, by simp, by simp, by simp⟩
  · exact ⟨_, cap, rfl, h3, h4, fun i x hi => ⟨h.2 x (List.mem_of_getElem? hi), g, rfl, h1, h2, h5 i x hi⟩⟩

theorem OwnB.len {w : World} {B : Nat} {v : Value} {l : List Nat} (h : OwnB w B v l) : l.length ≤ maxLen := by
  rcases h.shape with ⟨_, rfl⟩ | ⟨g, cap, _, _, _, h1, h2, _⟩
  · simp
  · omega

/-- Cut shorter at its end. -/
theorem OwnB.take {w : World} {B g n cap : Nat} {l : List Nat} (h : OwnB w B (.slice (some ⟨g, 0, none⟩) n cap) l) (hn : n = l.length) {k : Nat} (hk : k ≤ l.length) : OwnB w B (.slice (some ⟨g, 0, none⟩) k cap) (l.take k) := by
  subst hn
  have hkl : (l.take k).length = k := by rw [List.length_take]; omega
  refine ⟨⟨by simp [i64s], ?_⟩, wds_takeB h.2 k⟩
  rcases h.1.2 with ⟨h', _⟩ | ⟨g', cap', cur, h', hb, hg, hnc, hcm, hcs, htake⟩
  · simp at h'
  · simp only [Value.slice.injEq, Option.some.injEq, Addr.mk.injEq, and_true, true_and] at h'
    obtain ⟨rfl, rfl⟩ := h'
    refine .inr ⟨g, cap, cur, by rw [hkl], hb, hg, by omega, hcm, hcs, ?_⟩
    rw [hkl]
    simp only [i64s, List.map_take, Nat.mul_one] at htake ⊢
    rw [← htake, List.take_take, Nat.min_eq_left hk]

theorem OwnB.stored {w : World} {B g n cap : Nat} {l : List Nat} (h : OwnB w B (.slice (some ⟨g, 0, none⟩) n cap) l) (hn : n = l.length) (j : Nat) {y : Nat} (hy : y < 1000000000) :
    OwnB (w.setCell ⟨g, j, none⟩ (.int .i64 (y : Int))) B (.slice (some ⟨g, 0, none⟩) n cap) (l.set j y) := by
  subst hn
  refine ⟨?_, ?_⟩
  · have := (h.1.stored j (.int .i64 (y : Int))).1
    simpa [i64s, List.map_set] using this
  · intro x hx
    rcases List.mem_or_eq_of_mem_set hx with h1 | h1
    · exact h.2 x h1
    · omega

theorem own_madeB {w : World} {B : Nat} {v : Value} {n : Nat} (h : w.ownsRow B 3 1 v n (madeCells #[Value.int .i64 0] n).toList) : OwnB w B v (List.replicate n 0) := by
  refine ⟨?_, ?_⟩
  · have e : (madeCells #[Value.int .i64 0] n).toList = i64s (List.replicate n 0) := by
      rw [toList_madeCells_one]
      simp [i64s]
    rw [e] at h
    simpa using h
  · intro x hx
    have := (List.mem_replicate.1 hx).2
    omega

/-- What lies in other blocks stays. -/
theorem OwnB.setOther {w : World} {B : Nat} {v : Value} {l : List Nat} (h : OwnB w B v l) {a : Addr} (u : Value) (hne : ∀ k, v.ownBlock = some k → k ≠ a.block) : OwnB (w.setCell a u) B v l := by
  refine ⟨⟨h.1.1, ?_⟩, h.2⟩
  rcases h.1.2 with hn | ⟨g, cap, cur, rfl, h1, hg, rest⟩
  · exact .inl hn
  · exact .inr ⟨g, cap, cur, rfl, h1, by rw [Below.heap_setCell _ _ _ _ (hne g rfl)]; exact hg, rest⟩

theorem OwnB.lenW {w : World} {B n cap : Nat} {ao : Option Addr} {l : List Nat} (h : OwnB w B (.slice ao n cap) l) : n = l.length := by
  rcases h.shape with ⟨e, rfl⟩ | ⟨g', cap', e, _⟩
  · simp at e; simp [e]
  · simp at e; omega

theorem OwnB.frozenW {w : World} {B g n cap : Nat} {l : List Nat} (h : OwnB w B (.slice (some ⟨g, 0, none⟩) n cap) l) (j : Nat) : w.frozen? ⟨g, j, none⟩ = false := by
  have := h.lenW; subst this; exact h.1.frozenAt j

theorem OwnB.cellW {w : World} {B g n cap : Nat} {l : List Nat} (h : OwnB w B (.slice (some ⟨g, 0, none⟩) n cap) l) {j y : Nat} (hj : l[j]? = some y) : w.cell? ⟨g, j, none⟩ = some (.int .i64 (y : Int)) := by
  have := h.lenW; subst this
  rw [h.1.cellAt j (by have := (List.getElem?_eq_some_iff.1 hj).1; omega)]
  simp [i64s, hj]

theorem OwnB.at {w : World} {B g n cap : Nat} {l : List Nat} (h : OwnB w B (.slice (some ⟨g, 0, none⟩) n cap) l) {j : Nat} (hj : j < n) : ∃ y, l[j]? = some y ∧ y < 1000000000 ∧ w.cell? ⟨g, j, none⟩ = some (.int .i64 (y : Int)) := by
  have := h.lenW; subst this
  have e : l[j]? = some l[j] := by simp [hj]
  exact ⟨l[j], e, h.2 _ (List.getElem_mem hj), h.cellW e⟩

theorem Tryd.infoInt : (Tryd.prog.info? 3).map (fun i => (i.zero, i.size, i.bytes)) = some (some (.int .i64 0), 1, 8) := by kernel_rfl

theorem OwnB.ofRow {w : World} {B n : Nat} {v : Value} {l : List Nat} {xs : List Value} (h : w.ownsRow B 3 1 v n xs) (hx : xs = i64s l) (hl : WdsB l) : OwnB w B v l := by
  subst hx
  have : n = l.length := by have := h.1; simp [i64s] at this; omega
  subst this
  exact ⟨h, hl⟩

theorem ownB_nil (w : World) (B : Nat) : OwnB w B (.slice none 0 0) [] := ⟨World.ownsRow_nil _ _ _ _, by intro y hy; simp at hy⟩

theorem wds_snocB {l : List Nat} {y : Nat} (h : WdsB l) (hy : y < 1000000000) : WdsB (l ++ [y]) := by
  intro x hx
  rcases List.mem_append.1 hx with h1 | h1
  · exact h x h1
  · simp at h1; omega

end Go.Proofs.YthdcceackfdbbaaDoor
