/-
  DERIVED. GIVEN WITH THE SEED: THE CARDS: each row of YtlnjbadbpddlmaaGreatDoorRows.lean that lists a variable, with what it lists TIED to the program's text (the seventh form; the later family's looks); each row that meets fmt, with fmt's text TOLD by the authors' own Lean function (tested against real Go, not proved from fmt's source: count such statements apart). THE CARD IS WHAT COUNTS. Prove the row's statement (the work); the ties are given (YtlnjbadbpddlmaaGreatDoorTie.lean); close each card by the builder's one call (the guide's Derived/Test/ToyasCard.lean, 'card_holds'). Laid BY PROGRAM, IN A SANDBOX (cutbox-door.mjs). By AI agents, Wed Nov 11 2026. No macro, syntax, notation, axiom, sorry.
-/
import Derived.Test.YtlnjbadbpddlmaaGreatDoorRows
import GoSem.ClaimSeven
namespace Go.Proofs.YtlnjbadbpddlmaaGreatDoor
namespace Rows

/-- THE TIED CARD OF 'shalelaw16.StepShows'. -/
def stepShowsCard : Claim7 := { stood := { row := stepShowsRow, standIns := [], harness := (true, "31712fe09e19ca2dd024754233b4f4a52dedb9c3d6c3e6ae196e8b98a4513035"), looks := true }, kinds := [], alts := [], laidByText := true, laidKinds := [.handle], laidTests := true, laidLooks := .later }
def StepShowsCardSaid : Prop := Claim7.holds Tryz.pinned (.plain (OpenSpec.ofChange stepShowsSpec)) stepShowsCard

/-- THE SECOND FORM's CARD OF 'shalelaw16.StepShows'. -/
def stepShowsUptoCard : Claim7 := { stood := { row := stepShowsUptoRow, standIns := [], harness := (true, "31712fe09e19ca2dd024754233b4f4a52dedb9c3d6c3e6ae196e8b98a4513035"), looks := true }, kinds := [], alts := [], laidByText := true, laidKinds := [.handle], laidTests := true, laidLooks := .later }
def StepShowsUptoCardSaid : Prop := Claim7.holds Tryz.pinned (.plain (OpenSpec.upto stepShowsSpec)) stepShowsUptoCard
end Rows
end Go.Proofs.YtlnjbadbpddlmaaGreatDoor
