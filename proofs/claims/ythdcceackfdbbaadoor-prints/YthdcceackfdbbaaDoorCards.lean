/-
  DERIVED. GIVEN WITH THE SEED: THE CARDS: each row of YthdcceackfdbbaaDoorRows.lean that lists a variable, with what it lists TIED to the program's text (the seventh form; the later family's looks); each row that meets fmt, with fmt's text TOLD by the authors' own Lean function (tested against real Go, not proved from fmt's source: count such statements apart). THE CARD IS WHAT COUNTS. Prove the row's statement (the work); the ties are given (YthdcceackfdbbaaDoorTie.lean); close each card by the builder's one call (the guide's Derived/Test/ToyasCard.lean, 'card_holds'). Laid BY PROGRAM, IN A SANDBOX (cutbox-door.mjs). By AI agents, Wed Nov 11 2026. No macro, syntax, notation, axiom, sorry.
-/
import Derived.Test.YthdcceackfdbbaaDoorRows
import GoSem.ClaimSeven
namespace Go.Proofs.YthdcceackfdbbaaDoor
namespace Rows

/-- THE TIED CARD OF 'abacuslaw.Prints'. -/
def printsCard : Claim7 := { stood := { row := printsRow, standIns := [], harness := (true, "24a162029af034c85d3e18acb209919ab7ada205bee504ed92ab5b4d6f1ec438"), looks := false }, kinds := [], alts := [], laidByText := true, laidKinds := [.data, .data, .data, .data, .pinned], laidTests := true, laidLooks := .later }
def PrintsCardSaid : Prop := Claim7.holds Tryd.pinned (.plain (OpenSpec.ofChange printsSpec)) printsCard

/-- THE TIED CARD OF 'abacuslaw.Scans'. -/
def scansCard : Claim7 := { stood := { row := scansRow, standIns := [], harness := (true, "24a162029af034c85d3e18acb209919ab7ada205bee504ed92ab5b4d6f1ec438"), looks := false }, kinds := [], alts := [], laidByText := true, laidKinds := [.data, .pinned], laidTests := true, laidLooks := .later }
def ScansCardSaid : Prop := Claim7.holds Tryd.pinned (.plain (OpenSpec.ofChange scansSpec)) scansCard

/-- THE TIED CARD OF 'abacuskeep.Round'. -/
def roundCard : Claim7 := { stood := { row := roundRow, standIns := [], harness := (true, "24a162029af034c85d3e18acb209919ab7ada205bee504ed92ab5b4d6f1ec438"), looks := false }, kinds := [], alts := [], laidByText := true, laidKinds := [.data, .data, .data, .data, .pinned], laidTests := true, laidLooks := .later }
def RoundCardSaid : Prop := Claim7.holds Tryd.pinned (.plain (OpenSpec.ofChange roundSpec)) roundCard

/-- THE TIED CARD OF 'abacuskeep.Shortest'. -/
def shortestCard : Claim7 := { stood := { row := shortestRow, standIns := [], harness := (true, "24a162029af034c85d3e18acb209919ab7ada205bee504ed92ab5b4d6f1ec438"), looks := false }, kinds := [], alts := [], laidByText := true, laidKinds := [.data, .data, .data, .data, .pinned], laidTests := true, laidLooks := .later }
def ShortestCardSaid : Prop := Claim7.holds Tryd.pinned (.plain (OpenSpec.ofChange shortestSpec)) shortestCard

/-- THE TIED CARD OF 'abacuskeep.Whole'. -/
def wholeCard : Claim7 := { stood := { row := wholeRow, standIns := [], harness := (true, "24a162029af034c85d3e18acb209919ab7ada205bee504ed92ab5b4d6f1ec438"), looks := false }, kinds := [], alts := [], laidByText := true, laidKinds := [.data, .data, .data, .data, .pinned], laidTests := true, laidLooks := .later }
def WholeCardSaid : Prop := Claim7.holds Tryd.pinned (.plain (OpenSpec.ofChange wholeSpec)) wholeCard

/-- THE TIED CARD OF 'abacuskeep.Ties'. -/
def tiesCard : Claim7 := { stood := { row := tiesRow, standIns := [], harness := (true, "24a162029af034c85d3e18acb209919ab7ada205bee504ed92ab5b4d6f1ec438"), looks := false }, kinds := [], alts := [], laidByText := true, laidKinds := [.data, .data, .data, .data, .pinned], laidTests := true, laidLooks := .later }
def TiesCardSaid : Prop := Claim7.holds Tryd.pinned (.plain (OpenSpec.ofChange tiesSpec)) tiesCard

/-- THE SECOND FORM's CARD OF 'abacuslaw.Prints'. -/
def printsUptoCard : Claim7 := { stood := { row := printsUptoRow, standIns := [], harness := (true, "24a162029af034c85d3e18acb209919ab7ada205bee504ed92ab5b4d6f1ec438"), looks := false }, kinds := [], alts := [], laidByText := true, laidKinds := [.data, .data, .data, .data, .pinned], laidTests := true, laidLooks := .later }
def PrintsUptoCardSaid : Prop := Claim7.holds Tryd.pinned (.plain (OpenSpec.upto printsSpec)) printsUptoCard

/-- THE SECOND FORM's CARD OF 'abacuslaw.Scans'. -/
def scansUptoCard : Claim7 := { stood := { row := scansUptoRow, standIns := [], harness := (true, "24a162029af034c85d3e18acb209919ab7ada205bee504ed92ab5b4d6f1ec438"), looks := false }, kinds := [], alts := [], laidByText := true, laidKinds := [.data, .pinned], laidTests := true, laidLooks := .later }
def ScansUptoCardSaid : Prop := Claim7.holds Tryd.pinned (.plain (OpenSpec.upto scansSpec)) scansUptoCard

/-- THE SECOND FORM's CARD OF 'abacuskeep.Round'. -/
def roundUptoCard : Claim7 := { stood := { row := roundUptoRow, standIns := [], harness := (true, "24a162029af034c85d3e18acb209919ab7ada205bee504ed92ab5b4d6f1ec438"), looks := false }, kinds := [], alts := [], laidByText := true, laidKinds := [.data, .data, .data, .data, .pinned], laidTests := true, laidLooks := .later }
def RoundUptoCardSaid : Prop := Claim7.holds Tryd.pinned (.plain (OpenSpec.upto roundSpec)) roundUptoCard

/-- THE SECOND FORM's CARD OF 'abacuskeep.Shortest'. -/
def shortestUptoCard : Claim7 := { stood := { row := shortestUptoRow, standIns := [], harness := (true, "24a162029af034c85d3e18acb209919ab7ada205bee504ed92ab5b4d6f1ec438"), looks := false }, kinds := [], alts := [], laidByText := true, laidKinds := [.data, .data, .data, .data, .pinned], laidTests := true, laidLooks := .later }
def ShortestUptoCardSaid : Prop := Claim7.holds Tryd.pinned (.plain (OpenSpec.upto shortestSpec)) shortestUptoCard

/-- THE SECOND FORM's CARD OF 'abacuskeep.Whole'. -/
def wholeUptoCard : Claim7 := { stood := { row := wholeUptoRow, standIns := [], harness := (true, "24a162029af034c85d3e18acb209919ab7ada205bee504ed92ab5b4d6f1ec438"), looks := false }, kinds := [], alts := [], laidByText := true, laidKinds := [.data, .data, .data, .data, .pinned], laidTests := true, laidLooks := .later }
def WholeUptoCardSaid : Prop := Claim7.holds Tryd.pinned (.plain (OpenSpec.upto wholeSpec)) wholeUptoCard

/-- THE SECOND FORM's CARD OF 'abacuskeep.Ties'. -/
def tiesUptoCard : Claim7 := { stood := { row := tiesUptoRow, standIns := [], harness := (true, "24a162029af034c85d3e18acb209919ab7ada205bee504ed92ab5b4d6f1ec438"), looks := false }, kinds := [], alts := [], laidByText := true, laidKinds := [.data, .data, .data, .data, .pinned], laidTests := true, laidLooks := .later }
def TiesUptoCardSaid : Prop := Claim7.holds Tryd.pinned (.plain (OpenSpec.upto tiesSpec)) tiesUptoCard
end Rows
end Go.Proofs.YthdcceackfdbbaaDoor
