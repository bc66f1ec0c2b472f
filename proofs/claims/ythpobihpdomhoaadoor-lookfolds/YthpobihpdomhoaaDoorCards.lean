/-
  DERIVED. GIVEN WITH THE SEED: THE CARDS: each row of YthpobihpdomhoaaDoorRows.lean that lists a variable, with what it lists TIED to the program's text (the seventh form; the later family's looks); each row that meets fmt, with fmt's text TOLD by the authors' own Lean function (tested against real Go, not proved from fmt's source: count such statements apart). THE CARD IS WHAT COUNTS. Prove the row's statement (the work); the ties are given (YthpobihpdomhoaaDoorTie.lean); close each card by the builder's one call (the guide's Derived/Test/ToyasCard.lean, 'card_holds'). Laid BY PROGRAM, IN A SANDBOX (cutbox-door.mjs). By AI agents, Wed Nov 11 2026. No macro, syntax, notation, axiom, sorry.
-/
import Derived.Test.YthpobihpdomhoaaDoorRows
import GoSem.ClaimSeven
namespace Go.Proofs.YthpobihpdomhoaaDoor
namespace Rows

/-- THE TIED CARD OF 'shalelaw12.LookFolds'. -/
def lookFoldsCard : Claim7 := { stood := { row := lookFoldsRow, standIns := [], harness := (true, "515e04f651230dfe97327b8da961efd49a5aa0ff9c713b938c53122ce71337fe"), looks := true }, kinds := [], alts := [], laidByText := true, laidKinds := [.handle], laidTests := true, laidLooks := .later }
def LookFoldsCardSaid : Prop := Claim7.holds Tryd.pinned (.plain (OpenSpec.ofChange lookFoldsSpec)) lookFoldsCard

/-- THE TIED CARD OF 'shalelaw12.LookFloors'. -/
def lookFloorsCard : Claim7 := { stood := { row := lookFloorsRow, standIns := [], harness := (true, "515e04f651230dfe97327b8da961efd49a5aa0ff9c713b938c53122ce71337fe"), looks := true }, kinds := [], alts := [], laidByText := true, laidKinds := [.handle], laidTests := true, laidLooks := .later }
def LookFloorsCardSaid : Prop := Claim7.holds Tryd.pinned (.plain (OpenSpec.ofChange lookFloorsSpec)) lookFloorsCard

/-- THE TIED CARD OF 'shalelaw12.LookTop'. -/
def lookTopCard : Claim7 := { stood := { row := lookTopRow, standIns := [], harness := (true, "515e04f651230dfe97327b8da961efd49a5aa0ff9c713b938c53122ce71337fe"), looks := true }, kinds := [], alts := [], laidByText := true, laidKinds := [.handle], laidTests := true, laidLooks := .later }
def LookTopCardSaid : Prop := Claim7.holds Tryd.pinned (.plain (OpenSpec.ofChange lookTopSpec)) lookTopCard

/-- THE TIED CARD OF 'shalelaw12.LookParents'. -/
def lookParentsCard : Claim7 := { stood := { row := lookParentsRow, standIns := [], harness := (true, "515e04f651230dfe97327b8da961efd49a5aa0ff9c713b938c53122ce71337fe"), looks := true }, kinds := [], alts := [], laidByText := true, laidKinds := [.handle], laidTests := true, laidLooks := .later }
def LookParentsCardSaid : Prop := Claim7.holds Tryd.pinned (.plain (OpenSpec.ofChange lookParentsSpec)) lookParentsCard

/-- THE TIED CARD OF 'shalelaw12.LookWhite'. -/
def lookWhiteCard : Claim7 := { stood := { row := lookWhiteRow, standIns := [], harness := (true, "515e04f651230dfe97327b8da961efd49a5aa0ff9c713b938c53122ce71337fe"), looks := true }, kinds := [], alts := [], laidByText := true, laidKinds := [.handle], laidTests := true, laidLooks := .later }
def LookWhiteCardSaid : Prop := Claim7.holds Tryd.pinned (.plain (OpenSpec.ofChange lookWhiteSpec)) lookWhiteCard

/-- THE SECOND FORM's CARD OF 'shalelaw12.LookFolds'. -/
def lookFoldsUptoCard : Claim7 := { stood := { row := lookFoldsUptoRow, standIns := [], harness := (true, "515e04f651230dfe97327b8da961efd49a5aa0ff9c713b938c53122ce71337fe"), looks := true }, kinds := [], alts := [], laidByText := true, laidKinds := [.handle], laidTests := true, laidLooks := .later }
def LookFoldsUptoCardSaid : Prop := Claim7.holds Tryd.pinned (.plain (OpenSpec.upto lookFoldsSpec)) lookFoldsUptoCard

/-- THE SECOND FORM's CARD OF 'shalelaw12.LookFloors'. -/
def lookFloorsUptoCard : Claim7 := { stood := { row := lookFloorsUptoRow, standIns := [], harness := (true, "515e04f651230dfe97327b8da961efd49a5aa0ff9c713b938c53122ce71337fe"), looks := true }, kinds := [], alts := [], laidByText := true, laidKinds := [.handle], laidTests := true, laidLooks := .later }
def LookFloorsUptoCardSaid : Prop := Claim7.holds Tryd.pinned (.plain (OpenSpec.upto lookFloorsSpec)) lookFloorsUptoCard

/-- THE SECOND FORM's CARD OF 'shalelaw12.LookTop'. -/
def lookTopUptoCard : Claim7 := { stood := { row := lookTopUptoRow, standIns := [], harness := (true, "515e04f651230dfe97327b8da961efd49a5aa0ff9c713b938c53122ce71337fe"), looks := true }, kinds := [], alts := [], laidByText := true, laidKinds := [.handle], laidTests := true, laidLooks := .later }
def LookTopUptoCardSaid : Prop := Claim7.holds Tryd.pinned (.plain (OpenSpec.upto lookTopSpec)) lookTopUptoCard

/-- THE SECOND FORM's CARD OF 'shalelaw12.LookParents'. -/
def lookParentsUptoCard : Claim7 := { stood := { row := lookParentsUptoRow, standIns := [], harness := (true, "515e04f651230dfe97327b8da961efd49a5aa0ff9c713b938c53122ce71337fe"), looks := true }, kinds := [], alts := [], laidByText := true, laidKinds := [.handle], laidTests := true, laidLooks := .later }
def LookParentsUptoCardSaid : Prop := Claim7.holds Tryd.pinned (.plain (OpenSpec.upto lookParentsSpec)) lookParentsUptoCard

/-- THE SECOND FORM's CARD OF 'shalelaw12.LookWhite'. -/
def lookWhiteUptoCard : Claim7 := { stood := { row := lookWhiteUptoRow, standIns := [], harness := (true, "515e04f651230dfe97327b8da961efd49a5aa0ff9c713b938c53122ce71337fe"), looks := true }, kinds := [], alts := [], laidByText := true, laidKinds := [.handle], laidTests := true, laidLooks := .later }
def LookWhiteUptoCardSaid : Prop := Claim7.holds Tryd.pinned (.plain (OpenSpec.upto lookWhiteSpec)) lookWhiteUptoCard
end Rows
end Go.Proofs.YthpobihpdomhoaaDoor
