/-
  DERIVED. GIVEN WITH THE SEED: THE CARDS: each row of YthdcceackfdbbabGreatDoorRows.lean that lists a variable, with what it lists TIED to the program's text (the seventh form; the later family's looks); each row that meets fmt, with fmt's text TOLD by the authors' own Lean function (tested against real Go, not proved from fmt's source: count such statements apart). THE CARD IS WHAT COUNTS. Prove the row's statement (the work); the ties are given (YthdcceackfdbbabGreatDoorTie.lean); close each card by the builder's one call (the guide's Derived/Test/ToyasCard.lean, 'card_holds'). Laid BY PROGRAM, IN A SANDBOX (cutbox-door.mjs). By AI agents, Wed Nov 11 2026. No macro, syntax, notation, axiom, sorry.
-/
import Derived.Test.YthdcceackfdbbabGreatDoorRows
import GoSem.ClaimSeven
namespace Go.Proofs.YthdcceackfdbbabGreatDoor
namespace Rows

/-- THE TIED CARD OF 'abacuskeep.Pieces'. -/
def piecesCard : Claim7 := { stood := { row := piecesRow, standIns := [], harness := (true, "f4582d77133c612f0ee584fe99e1a9b1ed291e57ba0ef2c7569e09d9b1735425"), looks := false }, kinds := [], alts := [], laidByText := true, laidKinds := [.data, .pinned], laidTests := true, laidLooks := .later }
def PiecesCardSaid : Prop := Claim7.holds Tryz.pinned (.plain (OpenSpec.ofChange piecesSpec)) piecesCard

/-- THE SECOND FORM's CARD OF 'abacuskeep.Pieces'. -/
def piecesUptoCard : Claim7 := { stood := { row := piecesUptoRow, standIns := [], harness := (true, "f4582d77133c612f0ee584fe99e1a9b1ed291e57ba0ef2c7569e09d9b1735425"), looks := false }, kinds := [], alts := [], laidByText := true, laidKinds := [.data, .pinned], laidTests := true, laidLooks := .later }
def PiecesUptoCardSaid : Prop := Claim7.holds Tryz.pinned (.plain (OpenSpec.upto piecesSpec)) piecesUptoCard
end Rows
end Go.Proofs.YthdcceackfdbbabGreatDoor
