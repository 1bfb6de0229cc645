/- Walk of Scans. Own text. -/
import Derived.Test.YthdcceackfdbbaaDoorRv
namespace Go.Proofs.YthdcceackfdbbaaDoor
open Go.RowKit

set_option maxRecDepth 5000 in
set_option maxHeartbeats 800000 in
theorem scans_any (w : World) (s : ByteArray) (hs : s.size ≤ maxLen) :
    Calls Tryd.prog 4 #[.string s] w fun e w' => e = .returned (.bool true) ∧ Below w.heap.size w w' := by
  have HM : Hid (s.size ≤ maxLen) := hs
  clear hs
  go_enter Tryd.func4, Tryd.ntmps4
  go_wp2_with fail
  refine (scan_any _ s HM.out).mono ?_
  rintro e w1 ⟨rfl, b1⟩
  go_wp2_with fail
  refine (rscan_any _ s HM.out).mono ?_
  rintro e w2 ⟨rfl, b2⟩
  generalize (scanL s.data.toList).1 = X
  generalize (scanL s.data.toList).2 = Y
  go_wp2
  go_ret
  exact ⟨by simp, b1.trans (b2.mono b1.size)⟩

end Go.Proofs.YthdcceackfdbbaaDoor
