/-
  DERIVED. GIVEN WITH THE SEED: THE CARDS: each row of YtkclclhmeenncaaGreatDoorRows.lean that lists a variable, with what it lists TIED to the program's text (the seventh form; the later family's looks); each row that meets fmt, with fmt's text TOLD by the authors' own Lean function (tested against real Go, not proved from fmt's source: count such statements apart). THE CARD IS WHAT COUNTS. Prove the row's statement (the work); the ties are given (YtkclclhmeenncaaGreatDoorTie.lean); close each card by the builder's one call (the guide's Derived/Test/ToyasCard.lean, 'card_holds'). Laid BY PROGRAM, IN A SANDBOX (cutbox-door.mjs). By AI agents, Wed Nov 11 2026. No macro, syntax, notation, axiom, sorry.
-/
import Derived.Test.YtkclclhmeenncaaGreatDoorRows
import GoSem.ClaimSeven
namespace Go.Proofs.YtkclclhmeenncaaGreatDoor
namespace Rows

/-- THE TIED CARD OF 'shalelaw15.MergeShows'. -/
def mergeShowsCard : Claim7 := { stood := { row := mergeShowsRow, standIns := [], harness := (true, "3cf880aff99a43d02c5a4a11b0af4d766ccae8c6f77284d16faecb09d25a78d8"), looks := true }, kinds := [], alts := [], laidByText := true, laidKinds := [.handle], laidTests := true, laidLooks := .later }
def MergeShowsCardSaid : Prop := Claim7.holds Tryz.pinned (.plain (OpenSpec.ofChange mergeShowsSpec)) mergeShowsCard

/-- THE TIED CARD OF 'shalelaw15.MergeThree'. -/
def mergeThreeCard : Claim7 := { stood := { row := mergeThreeRow, standIns := [], harness := (true, "3cf880aff99a43d02c5a4a11b0af4d766ccae8c6f77284d16faecb09d25a78d8"), looks := true }, kinds := [], alts := [], laidByText := true, laidKinds := [.handle], laidTests := true, laidLooks := .later }
def MergeThreeCardSaid : Prop := Claim7.holds Tryz.pinned (.plain (OpenSpec.ofChange mergeThreeSpec)) mergeThreeCard

/-- THE TIED CARD OF 'shalelaw15.MergeSame'. -/
def mergeSameCard : Claim7 := { stood := { row := mergeSameRow, standIns := [], harness := (true, "3cf880aff99a43d02c5a4a11b0af4d766ccae8c6f77284d16faecb09d25a78d8"), looks := true }, kinds := [], alts := [], laidByText := true, laidKinds := [.handle], laidTests := true, laidLooks := .later }
def MergeSameCardSaid : Prop := Claim7.holds Tryz.pinned (.plain (OpenSpec.ofChange mergeSameSpec)) mergeSameCard

/-- THE SECOND FORM's CARD OF 'shalelaw15.MergeShows'. -/
def mergeShowsUptoCard : Claim7 := { stood := { row := mergeShowsUptoRow, standIns := [], harness := (true, "3cf880aff99a43d02c5a4a11b0af4d766ccae8c6f77284d16faecb09d25a78d8"), looks := true }, kinds := [], alts := [], laidByText := true, laidKinds := [.handle], laidTests := true, laidLooks := .later }
def MergeShowsUptoCardSaid : Prop := Claim7.holds Tryz.pinned (.plain (OpenSpec.upto mergeShowsSpec)) mergeShowsUptoCard

/-- THE SECOND FORM's CARD OF 'shalelaw15.MergeThree'. -/
def mergeThreeUptoCard : Claim7 := { stood := { row := mergeThreeUptoRow, standIns := [], harness := (true, "3cf880aff99a43d02c5a4a11b0af4d766ccae8c6f77284d16faecb09d25a78d8"), looks := true }, kinds := [], alts := [], laidByText := true, laidKinds := [.handle], laidTests := true, laidLooks := .later }
def MergeThreeUptoCardSaid : Prop := Claim7.holds Tryz.pinned (.plain (OpenSpec.upto mergeThreeSpec)) mergeThreeUptoCard

/-- THE SECOND FORM's CARD OF 'shalelaw15.MergeSame'. -/
def mergeSameUptoCard : Claim7 := { stood := { row := mergeSameUptoRow, standIns := [], harness := (true, "3cf880aff99a43d02c5a4a11b0af4d766ccae8c6f77284d16faecb09d25a78d8"), looks := true }, kinds := [], alts := [], laidByText := true, laidKinds := [.handle], laidTests := true, laidLooks := .later }
def MergeSameUptoCardSaid : Prop := Claim7.holds Tryz.pinned (.plain (OpenSpec.upto mergeSameSpec)) mergeSameUptoCard
end Rows
end Go.Proofs.YtkclclhmeenncaaGreatDoor
