/-
  DERIVED. GIVEN WITH THE SEED: THE CARDS: each row of YtgpipljhpkhffaaDoorRows.lean that lists a variable, with what it lists TIED to the program's text (the seventh form; the later family's looks); each row that meets fmt, with fmt's text TOLD by the authors' own Lean function (tested against real Go, not proved from fmt's source: count such statements apart). THE CARD IS WHAT COUNTS. Prove the row's statement (the work); the ties are given (YtgpipljhpkhffaaDoorTie.lean); close each card by the builder's one call (the guide's Derived/Test/ToyasCard.lean, 'card_holds'). Laid BY PROGRAM, IN A SANDBOX (cutbox-door.mjs). By AI agents, Wed Nov 11 2026. No macro, syntax, notation, axiom, sorry.
-/
import Derived.Test.YtgpipljhpkhffaaDoorRows
import GoSem.ClaimSeven
namespace Go.Proofs.YtgpipljhpkhffaaDoor
namespace Rows

/-- THE TIED CARD OF 'shalelaw11.TreeReads'. -/
def treeReadsCard : Claim7 := { stood := { row := treeReadsRow, standIns := [], harness := (true, "a401c76d20e13334a5cf72297536d626751f4a43fb2226be7e17dd8c8463da95"), looks := true }, kinds := [], alts := [], laidByText := true, laidKinds := [.handle], laidTests := true, laidLooks := .later }
def TreeReadsCardSaid : Prop := Claim7.holds Tryd.pinned (.plain (OpenSpec.ofChange treeReadsSpec)) treeReadsCard

/-- THE TIED CARD OF 'shalelaw11.TreeBacks'. -/
def treeBacksCard : Claim7 := { stood := { row := treeBacksRow, standIns := [], harness := (true, "a401c76d20e13334a5cf72297536d626751f4a43fb2226be7e17dd8c8463da95"), looks := true }, kinds := [], alts := [], laidByText := true, laidKinds := [.handle], laidTests := true, laidLooks := .later }
def TreeBacksCardSaid : Prop := Claim7.holds Tryd.pinned (.plain (OpenSpec.ofChange treeBacksSpec)) treeBacksCard

/-- THE TIED CARD OF 'shalelaw11.TreeCuts'. -/
def treeCutsCard : Claim7 := { stood := { row := treeCutsRow, standIns := [], harness := (true, "a401c76d20e13334a5cf72297536d626751f4a43fb2226be7e17dd8c8463da95"), looks := true }, kinds := [], alts := [], laidByText := true, laidKinds := [.handle], laidTests := true, laidLooks := .later }
def TreeCutsCardSaid : Prop := Claim7.holds Tryd.pinned (.plain (OpenSpec.ofChange treeCutsSpec)) treeCutsCard

/-- THE SECOND FORM's CARD OF 'shalelaw11.TreeReads'. -/
def treeReadsUptoCard : Claim7 := { stood := { row := treeReadsUptoRow, standIns := [], harness := (true, "a401c76d20e13334a5cf72297536d626751f4a43fb2226be7e17dd8c8463da95"), looks := true }, kinds := [], alts := [], laidByText := true, laidKinds := [.handle], laidTests := true, laidLooks := .later }
def TreeReadsUptoCardSaid : Prop := Claim7.holds Tryd.pinned (.plain (OpenSpec.upto treeReadsSpec)) treeReadsUptoCard

/-- THE SECOND FORM's CARD OF 'shalelaw11.TreeBacks'. -/
def treeBacksUptoCard : Claim7 := { stood := { row := treeBacksUptoRow, standIns := [], harness := (true, "a401c76d20e13334a5cf72297536d626751f4a43fb2226be7e17dd8c8463da95"), looks := true }, kinds := [], alts := [], laidByText := true, laidKinds := [.handle], laidTests := true, laidLooks := .later }
def TreeBacksUptoCardSaid : Prop := Claim7.holds Tryd.pinned (.plain (OpenSpec.upto treeBacksSpec)) treeBacksUptoCard

/-- THE SECOND FORM's CARD OF 'shalelaw11.TreeCuts'. -/
def treeCutsUptoCard : Claim7 := { stood := { row := treeCutsUptoRow, standIns := [], harness := (true, "a401c76d20e13334a5cf72297536d626751f4a43fb2226be7e17dd8c8463da95"), looks := true }, kinds := [], alts := [], laidByText := true, laidKinds := [.handle], laidTests := true, laidLooks := .later }
def TreeCutsUptoCardSaid : Prop := Claim7.holds Tryd.pinned (.plain (OpenSpec.upto treeCutsSpec)) treeCutsUptoCard
end Rows
end Go.Proofs.YtgpipljhpkhffaaDoor
