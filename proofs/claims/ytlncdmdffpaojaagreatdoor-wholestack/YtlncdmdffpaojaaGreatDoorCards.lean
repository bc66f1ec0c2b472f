/-
  DERIVED. GIVEN WITH THE SEED: THE CARDS: each row of YtlncdmdffpaojaaGreatDoorRows.lean that lists a variable, with what it lists TIED to the program's text (the seventh form; the later family's looks); each row that meets fmt, with fmt's text TOLD by the authors' own Lean function (tested against real Go, not proved from fmt's source: count such statements apart). THE CARD IS WHAT COUNTS. Prove the row's statement (the work); the ties are given (YtlncdmdffpaojaaGreatDoorTie.lean); close each card by the builder's one call (the guide's Derived/Test/ToyasCard.lean, 'card_holds'). Laid BY PROGRAM, IN A SANDBOX (cutbox-door.mjs). By AI agents, Wed Nov 11 2026. No macro, syntax, notation, axiom, sorry.
-/
import Derived.Test.YtlncdmdffpaojaaGreatDoorRows
import GoSem.ClaimSeven
namespace Go.Proofs.YtlncdmdffpaojaaGreatDoor
namespace Rows

/-- THE TIED CARD OF 'shaletop.WholeStack'. -/
def wholeStackCard : Claim7 := { stood := { row := wholeStackRow, standIns := [], harness := (true, "e029a63a98fd53d19445f2eac83b205a5218143404440ab299d2fb55e0894b28"), looks := true }, kinds := [], alts := [], laidByText := true, laidKinds := [.handle], laidTests := true, laidLooks := .later }
def WholeStackCardSaid : Prop := Claim7.holds Tryz.pinned (.plain (OpenSpec.ofChange wholeStackSpec)) wholeStackCard

/-- THE SECOND FORM's CARD OF 'shaletop.WholeStack'. -/
def wholeStackUptoCard : Claim7 := { stood := { row := wholeStackUptoRow, standIns := [], harness := (true, "e029a63a98fd53d19445f2eac83b205a5218143404440ab299d2fb55e0894b28"), looks := true }, kinds := [], alts := [], laidByText := true, laidKinds := [.handle], laidTests := true, laidLooks := .later }
def WholeStackUptoCardSaid : Prop := Claim7.holds Tryz.pinned (.plain (OpenSpec.upto wholeStackSpec)) wholeStackUptoCard
end Rows
end Go.Proofs.YtlncdmdffpaojaaGreatDoor
