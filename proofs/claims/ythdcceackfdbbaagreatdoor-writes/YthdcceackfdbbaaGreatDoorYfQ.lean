import Derived.Test.YthdcceackfdbbaaGreatDoorM00W
import Derived.Test.YthdcceackfdbbaaGreatDoorM19W
import Derived.Carry
import Derived.SizedLaws
import Derived.Lib.SmallJoins
/- Own text: arguments of laws: a row of numbers, a view, a row of integers. -/
namespace Go.Proofs.YthdcceackfdbbaaGreatDoor
open Go Go.ChangeShapes Go.WideShapes Go.ChangeAt Go.RowKit

theorem Tryz.laidOutF : laidOutB Tryz.prog = true := by kernel_rfl
theorem cellsView : Tryz.prog.cellsOf 24 = 5 := by kernel_rfl
theorem cellsInt : Tryz.prog.cellsOf 3 = 1 := by kernel_rfl

theorem array5 {α : Type} {cs : Array α} (h : cs.size = 5) : ∃ c0 c1 c2 c3 c4, cs = #[c0, c1, c2, c3, c4] := by
  obtain ⟨l⟩ := cs
  match l, h with
  | [c0, c1, c2, c3, c4], _ => exact ⟨c0, c1, c2, c3, c4, rfl⟩

theorem lt_of_cell {w : World} {a : Addr} {v : Value} (h : w.cell? a = some v) : a.block < w.heap.size := by
  obtain ⟨o, ho, _⟩ := cells_of_cell h
  exact (Array.getElem?_eq_some_iff.1 ho).1

section
variable {H : Type} {enc : TypeId × Value → H} {w : World} {base b0 : Nat} {sp : Nat → Bool} {held : Bool} {r : Reach}

set_option maxRecDepth 100000 in
theorem open_view {v : Value} {d : DataW H} {p : List MemPlace} (hv : Value.okWide Tryz.prog w r b0 24 v) (h : DataW.Trod enc Tryz.prog w base sp held 24 v d p) :
    ∃ R C off rs cs : Int, v = viewV R C off rs cs := by
  obtain ⟨cs, rfl, hsz⟩ := okWide_struct Tryz.underlying24 hv
  obtain ⟨c0, c1, c2, c3, c4, rfl⟩ := array5 (hsz.trans cellsView)
  obtain ⟨fuel, hf⟩ := h
  obtain ⟨xs, n, _, _, _, hlen, hfd⟩ := DataW.trod_struct Tryz.underlying24 hf
  have hl5 : xs.length = 5 := hlen
  have each : ∀ (i : Nat) (c : Value), (∃ y, DataW.trod enc Tryz.prog w base sp held n 3 [c] = some y) → ∃ z, c = .int .i64 z := by
    rintro i c ⟨y, hy⟩
    obtain ⟨z, h1, _⟩ := DataW.trod_int Tryz.underlying3 hy
    exact ⟨z, by simpa using h1⟩
  have g : ∀ i, i < 5 → ∃ y, xs[i]? = some y := fun i hi => ⟨xs[i]'(by omega), by simp [hl5, hi]⟩
  obtain ⟨y0, e0⟩ := g 0 (by omega)
  obtain ⟨y1, e1⟩ := g 1 (by omega)
  obtain ⟨y2, e2⟩ := g 2 (by omega)
  obtain ⟨y3, e3⟩ := g 3 (by omega)
  obtain ⟨y4, e4⟩ := g 4 (by omega)
  have k0 := (hfd 0 _ rfl).trans e0
  have k1 := (hfd 1 _ rfl).trans e1
  have k2 := (hfd 2 _ rfl).trans e2
  have k3 := (hfd 3 _ rfl).trans e3
  have k4 := (hfd 4 _ rfl).trans e4
  obtain ⟨R, rfl⟩ := each 0 c0 ⟨y0, by simpa [Value.cells, cellsInt] using k0⟩
  obtain ⟨C, rfl⟩ := each 1 c1 ⟨y1, by simpa [Value.cells, cellsInt] using k1⟩
  obtain ⟨off, rfl⟩ := each 2 c2 ⟨y2, by simpa [Value.cells, cellsInt] using k2⟩
  obtain ⟨rs, rfl⟩ := each 3 c3 ⟨y3, by simpa [Value.cells, cellsInt] using k3⟩
  obtain ⟨cs, rfl⟩ := each 4 c4 ⟨y4, by simpa [Value.cells, cellsInt] using k4⟩
  exact ⟨R, C, off, rs, cs, rfl⟩

theorem lits_length (k : IntKind) (l : List Int) : (lits (H := H) k l).length = l.length := by simp [lits]

set_option maxRecDepth 100000 in
theorem open_u64s {v : Value} {d : DataW H} {p : List MemPlace} (hv : Value.okWide Tryz.prog w r b0 22 v) (h : DataW.Trod enc Tryz.prog w base sp held 22 v d p) :
    ∃ (ao : Option Addr) (n cap : Nat) (xs : List Nat), v = .slice ao n cap ∧ xs.length = n ∧ BufIs w ao xs ∧ ((d = .nil ∧ n = 0) ∨ ∃ el spr, d = .slice el spr ∧ el.length = n) := by
  obtain ⟨ao, n, cap, rfl⟩ := okWide_slice Tryz.underlying22 hv
  obtain ⟨fuel, hf⟩ := h
  rcases open_ints Tryz.underlying22 Tryz.underlying65 cellsU64 hf with ⟨hcs, hx⟩ | ⟨a, len, cap', zs, hcs, _, hl, hm, hz, hx, hcell, hwz⟩
  · have hcs' : Value.slice ao n cap = .slice none 0 0 := by simpa [Value.cells] using hcs
    cases hcs'
    exact ⟨none, 0, 0, [], rfl, rfl, fun k x hk => by simp at hk, .inl ⟨by simpa using congrArg Prod.fst hx, rfl⟩⟩
  · have hcs' : Value.slice ao n cap = .slice (some a) len cap' := by simpa [Value.cells] using hcs
    cases hcs'
    have hzl : n ≤ zs.length := by rw [hz]; split <;> omega
    refine ⟨some a, n, cap, (zs.take n).map Int.toNat, rfl, by simp; omega, fun k x hk => ?_, .inr ⟨_, _, congrArg Prod.fst hx, by rw [lits_length]; simp; omega⟩⟩
    rw [List.getElem?_map, List.getElem?_take] at hk
    by_cases hkn : k < n
    · rw [if_pos hkn] at hk
      have hkz : k < zs.length := by omega
      rw [List.getElem?_eq_getElem hkz] at hk
      obtain rfl : (zs[k]'hkz).toNat = x := by simpa using hk
      have hw := hwz _ (List.getElem_mem hkz)
      have hw' : 0 ≤ zs[k]'hkz ∧ zs[k]'hkz ≤ 18446744073709551615 := by simpa [Lit.wf, IntKind.min, IntKind.max, IntKind.signed, IntKind.bits] using hw
      have hc := hcell k hkz
      rw [show zs.getD k 0 = zs[k]'hkz by simp [hkz]] at hc
      refine ⟨by omega, a, rfl, ?_, ?_⟩
      · have := lt_of_cell hc; rw [block_add] at this; exact this
      · rw [hc, Int.toNat_of_nonneg hw'.1]
    · rw [if_neg hkn] at hk; cases hk

set_option maxRecDepth 100000 in
theorem open_i64s {v : Value} {d : DataW H} {p : List MemPlace} (hv : Value.okWide Tryz.prog w r b0 25 v) (h : DataW.Trod enc Tryz.prog w base sp held 25 v d p) :
    ∃ (ao : Option Addr) (n cap : Nat) (zs : List Int), v = .slice ao n cap ∧ zs.length = n ∧ n ≤ 9223372036854775807 ∧ IntsAt w ao zs := by
  obtain ⟨ao, n, cap, rfl⟩ := okWide_slice Tryz.underlying25 hv
  obtain ⟨fuel, hf⟩ := h
  rcases open_ints Tryz.underlying25 Tryz.underlying3 cellsInt hf with ⟨hcs, hx⟩ | ⟨a, len, cap', zs, hcs, _, hl, hm, hz, hx, hcell, hwz⟩
  · have hcs' : Value.slice ao n cap = .slice none 0 0 := by simpa [Value.cells] using hcs
    cases hcs'
    exact ⟨none, 0, 0, [], rfl, rfl, by omega, fun k x hk => by simp at hk⟩
  · have hcs' : Value.slice ao n cap = .slice (some a) len cap' := by simpa [Value.cells] using hcs
    cases hcs'
    have hzl : n ≤ zs.length := by rw [hz]; split <;> omega
    refine ⟨some a, n, cap, zs.take n, rfl, by simp; omega, by unfold maxLen at hm; omega, fun k x hk => ?_⟩
    rw [List.getElem?_take] at hk
    by_cases hkn : k < n
    · rw [if_pos hkn] at hk
      have hkz : k < zs.length := by omega
      rw [List.getElem?_eq_getElem hkz] at hk
      obtain rfl : zs[k]'hkz = x := by simpa using hk
      have hc := hcell k hkz
      rw [show zs.getD k 0 = zs[k]'hkz by simp [hkz]] at hc
      refine ⟨a, rfl, ?_, hc⟩
      have := lt_of_cell hc; rw [block_add] at this; exact this
    · rw [if_neg hkn] at hk; cases hk

end

end Go.Proofs.YthdcceackfdbbaaGreatDoor
