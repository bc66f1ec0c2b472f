/-
  DERIVED. GIVEN WITH THE SEED: THE CARDS: each row of YtemnlolkmjdefaaGreatDoorRows.lean that lists a variable, with what it lists TIED to the program's text (the seventh form; the later family's looks); each row that meets fmt, with fmt's text TOLD by the authors' own Lean function (tested against real Go, not proved from fmt's source: count such statements apart). THE CARD IS WHAT COUNTS. Prove the row's statement (the work); the ties are given (YtemnlolkmjdefaaGreatDoorTie.lean); close each card by the builder's one call (the guide's Derived/Test/ToyasCard.lean, 'card_holds'). Laid BY PROGRAM, IN A SANDBOX (cutbox-door.mjs). By AI agents, Wed Nov 11 2026. No macro, syntax, notation, axiom, sorry.
-/
import Derived.Test.YtemnlolkmjdefaaGreatDoorRows
import GoSem.ClaimSeven
namespace Go.Proofs.YtemnlolkmjdefaaGreatDoor
namespace Rows

/-- THE TIED CARD OF 'shalelaw13.ListNames'. -/
def listNamesCard : Claim7 := { stood := { row := listNamesRow, standIns := [], harness := (true, "b058ba74f6c8675874e91190aaca20e3bf43df16fafc5ef93ffe3b7594cbddbf"), looks := true }, kinds := [], alts := [], laidByText := true, laidKinds := [.handle], laidTests := true, laidLooks := .later }
def ListNamesCardSaid : Prop := Claim7.holds Tryz.pinned (.plain (OpenSpec.ofChange listNamesSpec)) listNamesCard

/-- THE TIED CARD OF 'shalelaw13.ListWalks'. -/
def listWalksCard : Claim7 := { stood := { row := listWalksRow, standIns := [], harness := (true, "b058ba74f6c8675874e91190aaca20e3bf43df16fafc5ef93ffe3b7594cbddbf"), looks := true }, kinds := [], alts := [], laidByText := true, laidKinds := [.handle], laidTests := true, laidLooks := .later }
def ListWalksCardSaid : Prop := Claim7.holds Tryz.pinned (.plain (OpenSpec.ofChange listWalksSpec)) listWalksCard

/-- THE TIED CARD OF 'shalelaw13.ListShows'. -/
def listShowsCard : Claim7 := { stood := { row := listShowsRow, standIns := [], harness := (true, "b058ba74f6c8675874e91190aaca20e3bf43df16fafc5ef93ffe3b7594cbddbf"), looks := true }, kinds := [], alts := [], laidByText := true, laidKinds := [.handle], laidTests := true, laidLooks := .later }
def ListShowsCardSaid : Prop := Claim7.holds Tryz.pinned (.plain (OpenSpec.ofChange listShowsSpec)) listShowsCard

/-- THE TIED CARD OF 'shalelaw13.ListParts'. -/
def listPartsCard : Claim7 := { stood := { row := listPartsRow, standIns := [], harness := (true, "b058ba74f6c8675874e91190aaca20e3bf43df16fafc5ef93ffe3b7594cbddbf"), looks := true }, kinds := [], alts := [], laidByText := true, laidKinds := [.handle], laidTests := true, laidLooks := .later }
def ListPartsCardSaid : Prop := Claim7.holds Tryz.pinned (.plain (OpenSpec.ofChange listPartsSpec)) listPartsCard

/-- THE TIED CARD OF 'shalelaw13.ListTwice'. -/
def listTwiceCard : Claim7 := { stood := { row := listTwiceRow, standIns := [], harness := (true, "b058ba74f6c8675874e91190aaca20e3bf43df16fafc5ef93ffe3b7594cbddbf"), looks := true }, kinds := [], alts := [], laidByText := true, laidKinds := [.handle], laidTests := true, laidLooks := .later }
def ListTwiceCardSaid : Prop := Claim7.holds Tryz.pinned (.plain (OpenSpec.ofChange listTwiceSpec)) listTwiceCard

/-- THE TIED CARD OF 'shalelaw13.ListOver'. -/
def listOverCard : Claim7 := { stood := { row := listOverRow, standIns := [], harness := (true, "b058ba74f6c8675874e91190aaca20e3bf43df16fafc5ef93ffe3b7594cbddbf"), looks := true }, kinds := [], alts := [], laidByText := true, laidKinds := [.handle], laidTests := true, laidLooks := .later }
def ListOverCardSaid : Prop := Claim7.holds Tryz.pinned (.plain (OpenSpec.ofChange listOverSpec)) listOverCard

/-- THE SECOND FORM's CARD OF 'shalelaw13.ListNames'. -/
def listNamesUptoCard : Claim7 := { stood := { row := listNamesUptoRow, standIns := [], harness := (true, "b058ba74f6c8675874e91190aaca20e3bf43df16fafc5ef93ffe3b7594cbddbf"), looks := true }, kinds := [], alts := [], laidByText := true, laidKinds := [.handle], laidTests := true, laidLooks := .later }
def ListNamesUptoCardSaid : Prop := Claim7.holds Tryz.pinned (.plain (OpenSpec.upto listNamesSpec)) listNamesUptoCard

/-- THE SECOND FORM's CARD OF 'shalelaw13.ListWalks'. -/
def listWalksUptoCard : Claim7 := { stood := { row := listWalksUptoRow, standIns := [], harness := (true, "b058ba74f6c8675874e91190aaca20e3bf43df16fafc5ef93ffe3b7594cbddbf"), looks := true }, kinds := [], alts := [], laidByText := true, laidKinds := [.handle], laidTests := true, laidLooks := .later }
def ListWalksUptoCardSaid : Prop := Claim7.holds Tryz.pinned (.plain (OpenSpec.upto listWalksSpec)) listWalksUptoCard

/-- THE SECOND FORM's CARD OF 'shalelaw13.ListShows'. -/
def listShowsUptoCard : Claim7 := { stood := { row := listShowsUptoRow, standIns := [], harness := (true, "b058ba74f6c8675874e91190aaca20e3bf43df16fafc5ef93ffe3b7594cbddbf"), looks := true }, kinds := [], alts := [], laidByText := true, laidKinds := [.handle], laidTests := true, laidLooks := .later }
def ListShowsUptoCardSaid : Prop := Claim7.holds Tryz.pinned (.plain (OpenSpec.upto listShowsSpec)) listShowsUptoCard

/-- THE SECOND FORM's CARD OF 'shalelaw13.ListParts'. -/
def listPartsUptoCard : Claim7 := { stood := { row := listPartsUptoRow, standIns := [], harness := (true, "b058ba74f6c8675874e91190aaca20e3bf43df16fafc5ef93ffe3b7594cbddbf"), looks := true }, kinds := [], alts := [], laidByText := true, laidKinds := [.handle], laidTests := true, laidLooks := .later }
def ListPartsUptoCardSaid : Prop := Claim7.holds Tryz.pinned (.plain (OpenSpec.upto listPartsSpec)) listPartsUptoCard

/-- THE SECOND FORM's CARD OF 'shalelaw13.ListTwice'. -/
def listTwiceUptoCard : Claim7 := { stood := { row := listTwiceUptoRow, standIns := [], harness := (true, "b058ba74f6c8675874e91190aaca20e3bf43df16fafc5ef93ffe3b7594cbddbf"), looks := true }, kinds := [], alts := [], laidByText := true, laidKinds := [.handle], laidTests := true, laidLooks := .later }
def ListTwiceUptoCardSaid : Prop := Claim7.holds Tryz.pinned (.plain (OpenSpec.upto listTwiceSpec)) listTwiceUptoCard

/-- THE SECOND FORM's CARD OF 'shalelaw13.ListOver'. -/
def listOverUptoCard : Claim7 := { stood := { row := listOverUptoRow, standIns := [], harness := (true, "b058ba74f6c8675874e91190aaca20e3bf43df16fafc5ef93ffe3b7594cbddbf"), looks := true }, kinds := [], alts := [], laidByText := true, laidKinds := [.handle], laidTests := true, laidLooks := .later }
def ListOverUptoCardSaid : Prop := Claim7.holds Tryz.pinned (.plain (OpenSpec.upto listOverSpec)) listOverUptoCard
end Rows
end Go.Proofs.YtemnlolkmjdefaaGreatDoor
