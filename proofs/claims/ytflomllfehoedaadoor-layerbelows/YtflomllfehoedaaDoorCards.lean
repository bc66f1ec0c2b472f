/-
  DERIVED. GIVEN WITH THE SEED: THE CARDS: each row of YtflomllfehoedaaDoorRows.lean that lists a variable, with what it lists TIED to the program's text (the seventh form; the later family's looks); each row that meets fmt, with fmt's text TOLD by the authors' own Lean function (tested against real Go, not proved from fmt's source: count such statements apart). THE CARD IS WHAT COUNTS. Prove the row's statement (the work); the ties are given (YtflomllfehoedaaDoorTie.lean); close each card by the builder's one call (the guide's Derived/Test/ToyasCard.lean, 'card_holds'). Laid BY PROGRAM, IN A SANDBOX (cutbox-door.mjs). By AI agents, Wed Nov 11 2026. No macro, syntax, notation, axiom, sorry.
-/
import Derived.Test.YtflomllfehoedaaDoorRows
import GoSem.ClaimSeven
namespace Go.Proofs.YtflomllfehoedaaDoor
namespace Rows

/-- THE TIED CARD OF 'shalelaw09.LayerBack'. -/
def layerBackCard : Claim7 := { stood := { row := layerBackRow, standIns := [], harness := (true, "2a60c9ad904b8d77a5dd838faaeb559c216c8bb392345e795ce8f4fd8dcd96ec"), looks := true }, kinds := [], alts := [], laidByText := true, laidKinds := [.handle], laidTests := true, laidLooks := .later }
def LayerBackCardSaid : Prop := Claim7.holds Tryd.pinned (.plain (OpenSpec.ofChange layerBackSpec)) layerBackCard

/-- THE TIED CARD OF 'shalelaw09.LayerPuts'. -/
def layerPutsCard : Claim7 := { stood := { row := layerPutsRow, standIns := [], harness := (true, "2a60c9ad904b8d77a5dd838faaeb559c216c8bb392345e795ce8f4fd8dcd96ec"), looks := true }, kinds := [], alts := [], laidByText := true, laidKinds := [.handle], laidTests := true, laidLooks := .later }
def LayerPutsCardSaid : Prop := Claim7.holds Tryd.pinned (.plain (OpenSpec.ofChange layerPutsSpec)) layerPutsCard

/-- THE TIED CARD OF 'shalelaw09.LayerPlays'. -/
def layerPlaysCard : Claim7 := { stood := { row := layerPlaysRow, standIns := [], harness := (true, "2a60c9ad904b8d77a5dd838faaeb559c216c8bb392345e795ce8f4fd8dcd96ec"), looks := true }, kinds := [], alts := [], laidByText := true, laidKinds := [.handle], laidTests := true, laidLooks := .later }
def LayerPlaysCardSaid : Prop := Claim7.holds Tryd.pinned (.plain (OpenSpec.ofChange layerPlaysSpec)) layerPlaysCard

/-- THE TIED CARD OF 'shalelaw09.LayerReads'. -/
def layerReadsCard : Claim7 := { stood := { row := layerReadsRow, standIns := [], harness := (true, "2a60c9ad904b8d77a5dd838faaeb559c216c8bb392345e795ce8f4fd8dcd96ec"), looks := true }, kinds := [], alts := [], laidByText := true, laidKinds := [.handle], laidTests := true, laidLooks := .later }
def LayerReadsCardSaid : Prop := Claim7.holds Tryd.pinned (.plain (OpenSpec.ofChange layerReadsSpec)) layerReadsCard

/-- THE TIED CARD OF 'shalelaw09.LayerGrows'. -/
def layerGrowsCard : Claim7 := { stood := { row := layerGrowsRow, standIns := [], harness := (true, "2a60c9ad904b8d77a5dd838faaeb559c216c8bb392345e795ce8f4fd8dcd96ec"), looks := true }, kinds := [], alts := [], laidByText := true, laidKinds := [.handle], laidTests := true, laidLooks := .later }
def LayerGrowsCardSaid : Prop := Claim7.holds Tryd.pinned (.plain (OpenSpec.ofChange layerGrowsSpec)) layerGrowsCard

/-- THE TIED CARD OF 'shalelaw09.LayerBelows'. -/
def layerBelowsCard : Claim7 := { stood := { row := layerBelowsRow, standIns := [], harness := (true, "2a60c9ad904b8d77a5dd838faaeb559c216c8bb392345e795ce8f4fd8dcd96ec"), looks := true }, kinds := [], alts := [], laidByText := true, laidKinds := [.handle], laidTests := true, laidLooks := .later }
def LayerBelowsCardSaid : Prop := Claim7.holds Tryd.pinned (.plain (OpenSpec.ofChange layerBelowsSpec)) layerBelowsCard

/-- THE SECOND FORM's CARD OF 'shalelaw09.LayerBack'. -/
def layerBackUptoCard : Claim7 := { stood := { row := layerBackUptoRow, standIns := [], harness := (true, "2a60c9ad904b8d77a5dd838faaeb559c216c8bb392345e795ce8f4fd8dcd96ec"), looks := true }, kinds := [], alts := [], laidByText := true, laidKinds := [.handle], laidTests := true, laidLooks := .later }
def LayerBackUptoCardSaid : Prop := Claim7.holds Tryd.pinned (.plain (OpenSpec.upto layerBackSpec)) layerBackUptoCard

/-- THE SECOND FORM's CARD OF 'shalelaw09.LayerPuts'. -/
def layerPutsUptoCard : Claim7 := { stood := { row := layerPutsUptoRow, standIns := [], harness := (true, "2a60c9ad904b8d77a5dd838faaeb559c216c8bb392345e795ce8f4fd8dcd96ec"), looks := true }, kinds := [], alts := [], laidByText := true, laidKinds := [.handle], laidTests := true, laidLooks := .later }
def LayerPutsUptoCardSaid : Prop := Claim7.holds Tryd.pinned (.plain (OpenSpec.upto layerPutsSpec)) layerPutsUptoCard

/-- THE SECOND FORM's CARD OF 'shalelaw09.LayerPlays'. -/
def layerPlaysUptoCard : Claim7 := { stood := { row := layerPlaysUptoRow, standIns := [], harness := (true, "2a60c9ad904b8d77a5dd838faaeb559c216c8bb392345e795ce8f4fd8dcd96ec"), looks := true }, kinds := [], alts := [], laidByText := true, laidKinds := [.handle], laidTests := true, laidLooks := .later }
def LayerPlaysUptoCardSaid : Prop := Claim7.holds Tryd.pinned (.plain (OpenSpec.upto layerPlaysSpec)) layerPlaysUptoCard

/-- THE SECOND FORM's CARD OF 'shalelaw09.LayerReads'. -/
def layerReadsUptoCard : Claim7 := { stood := { row := layerReadsUptoRow, standIns := [], harness := (true, "2a60c9ad904b8d77a5dd838faaeb559c216c8bb392345e795ce8f4fd8dcd96ec"), looks := true }, kinds := [], alts := [], laidByText := true, laidKinds := [.handle], laidTests := true, laidLooks := .later }
def LayerReadsUptoCardSaid : Prop := Claim7.holds Tryd.pinned (.plain (OpenSpec.upto layerReadsSpec)) layerReadsUptoCard

/-- THE SECOND FORM's CARD OF 'shalelaw09.LayerGrows'. -/
def layerGrowsUptoCard : Claim7 := { stood := { row := layerGrowsUptoRow, standIns := [], harness := (true, "2a60c9ad904b8d77a5dd838faaeb559c216c8bb392345e795ce8f4fd8dcd96ec"), looks := true }, kinds := [], alts := [], laidByText := true, laidKinds := [.handle], laidTests := true, laidLooks := .later }
def LayerGrowsUptoCardSaid : Prop := Claim7.holds Tryd.pinned (.plain (OpenSpec.upto layerGrowsSpec)) layerGrowsUptoCard

/-- THE SECOND FORM's CARD OF 'shalelaw09.LayerBelows'. -/
def layerBelowsUptoCard : Claim7 := { stood := { row := layerBelowsUptoRow, standIns := [], harness := (true, "2a60c9ad904b8d77a5dd838faaeb559c216c8bb392345e795ce8f4fd8dcd96ec"), looks := true }, kinds := [], alts := [], laidByText := true, laidKinds := [.handle], laidTests := true, laidLooks := .later }
def LayerBelowsUptoCardSaid : Prop := Claim7.holds Tryd.pinned (.plain (OpenSpec.upto layerBelowsSpec)) layerBelowsUptoCard
end Rows
end Go.Proofs.YtflomllfehoedaaDoor
