/-
  DERIVED. GIVEN WITH THE SEED: THE CARDS: each row of YthpobihpdomhoaaGreatDoorRows.lean that lists a variable, with what it lists TIED to the program's text (the seventh form; the later family's looks); each row that meets fmt, with fmt's text TOLD by the authors' own Lean function (tested against real Go, not proved from fmt's source: count such statements apart). THE CARD IS WHAT COUNTS. Prove the row's statement (the work); the ties are given (YthpobihpdomhoaaGreatDoorTie.lean); close each card by the builder's one call (the guide's Derived/Test/ToyasCard.lean, 'card_holds'). Laid BY PROGRAM, IN A SANDBOX (cutbox-door.mjs). By AI agents, Wed Nov 11 2026. No macro, syntax, notation, axiom, sorry.
-/
import Derived.Test.YthpobihpdomhoaaGreatDoorRows
import GoSem.ClaimSeven
namespace Go.Proofs.YthpobihpdomhoaaGreatDoor
namespace Rows

/-- THE TIED CARD OF 'shalelaw12.LookAll'. -/
def lookAllCard : Claim7 := { stood := { row := lookAllRow, standIns := [], harness := (true, "71844276f37c92f1eab0ede1f7db6b49fafda6d6f9408471f8dbab62068e2250"), looks := true }, kinds := [], alts := [], laidByText := true, laidKinds := [.handle], laidTests := true, laidLooks := .later }
def LookAllCardSaid : Prop := Claim7.holds Tryz.pinned (.plain (OpenSpec.ofChange lookAllSpec)) lookAllCard

/-- THE SECOND FORM's CARD OF 'shalelaw12.LookAll'. -/
def lookAllUptoCard : Claim7 := { stood := { row := lookAllUptoRow, standIns := [], harness := (true, "71844276f37c92f1eab0ede1f7db6b49fafda6d6f9408471f8dbab62068e2250"), looks := true }, kinds := [], alts := [], laidByText := true, laidKinds := [.handle], laidTests := true, laidLooks := .later }
def LookAllUptoCardSaid : Prop := Claim7.holds Tryz.pinned (.plain (OpenSpec.upto lookAllSpec)) lookAllUptoCard
end Rows
end Go.Proofs.YthpobihpdomhoaaGreatDoor
