/- What the rows' lists give, and a world for their witnesses. Own text. -/
import Derived.Test.YthdcceackfdbbaaDoorRows
import Derived.WalkKit
import Derived.ProofKit
import Derived.OpenShut
import Derived.Deep.DeepHandedRow
import Derived.Lib.LaidTab
import Derived.Lib.ItoaNum
namespace Go.Proofs.YthdcceackfdbbaaDoor
open Go.ChangeShapes Go.WideShapes Go.ChangeAt Go.RowKit

theorem ownK : ownKnob Tryd.prog.godebug = none := by kernel_rfl

/-- The cells that a datum of integers lies in. -/
def cellsD : DataW Unit → List Value
  | .agg l => l.flatMap fun x => match x with
    | .lit (.int k n) => [Value.int k n]
    | .agg m => m.flatMap fun y => match y with
      | .lit (.int k n) => [Value.int k n]
      | _ => []
    | _ => []
  | _ => []

def layInto (d : DataW Unit) : Obj → Obj
  | .cells _ t frozen => .cells (cellsD d).toArray t frozen
  | o => o

/-- The settled world, the tables holding what their initialisers lay. -/
noncomputable def laidWorld (os : Os) : World :=
  { World.holding Tryd.prog os ⟨#[], #[], []⟩ with heap :=
      (((((World.holding Tryd.prog os ⟨#[], #[], []⟩).heap.modify 0 (layInto Rows.laid_internal_strconv_uint64pow10)).modify 1 (layInto Rows.laid_math_bits_deBruijn32tab)).modify 2 (layInto Rows.laid_math_bits_deBruijn64tab)).modify 3 (layInto Rows.laid_unicode_utf8_first)).modify 4 (layInto Rows.laid_unicode_utf8_acceptRanges) }

theorem gNames : Tryd.prog.globalNamed "internal/strconv.uint64pow10" = some 0 ∧ Tryd.prog.globalNamed "math/bits.deBruijn32tab" = some 1 ∧ Tryd.prog.globalNamed "math/bits.deBruijn64tab" = some 2 ∧ Tryd.prog.globalNamed "unicode/utf8.first" = some 3 ∧ Tryd.prog.globalNamed "unicode/utf8.acceptRanges" = some 4 :=
  ⟨by kernel_rfl, by kernel_rfl, by kernel_rfl, by kernel_rfl, by kernel_rfl⟩

theorem gPow0 : Tryd.prog.globalNamed "internal/strconv.uint64pow10" = some 0 := gNames.1
theorem gPowType : (Tryd.prog.globals[0]?).map (·.type) = some 117 := by kernel_rfl
theorem cellsPow : Tryd.prog.cellsOf 117 = 20 := by kernel_rfl
theorem cellsU64 : Tryd.prog.cellsOf 22 = 1 := by kernel_rfl

theorem pow_data {H : Type} : (Rows.laid_internal_strconv_uint64pow10 : DataW H) = Lib.tabData .u64 Lib.pow10Tab := rfl

/-- The table of powers, third on the rows' list. -/
theorem pow_of_laid {W : World} {n1 n2 : String} {d1 d2 : DataW Unit} {rest : List (String × DataW Unit)} (h : laidMet Tryd.prog ((n1, d1) :: (n2, d2) :: ("internal/strconv.uint64pow10", Rows.laid_internal_strconv_uint64pow10) :: rest) W) :
    Lib.TabIs Tryd.prog W "internal/strconv.uint64pow10" .u64 Lib.pow10Tab := by
  obtain ⟨ps, ⟨g1, t1, cs1, f1, p1, q1, hg1, ht1, hv1, hd1, ⟨g2, t2, cs2, f2, p2, q2, hg2, ht2, hv2, hd2, ⟨g', t', cs, fuel, p, q, hg', ht', hvar, hd, _, _⟩, _⟩, _⟩, _⟩ := h
  obtain rfl := Option.some.inj (gPow0.symm.trans hg')
  obtain rfl := Option.some.inj (gPowType.symm.trans ht')
  unfold Lib.TabIs
  rw [pow_data] at hd
  rw [hvar, ← Lib.cells_of_tab Tryd.underlying117 Tryd.underlying22 cellsU64 cellsPow hd]

end Go.Proofs.YthdcceackfdbbaaDoor
