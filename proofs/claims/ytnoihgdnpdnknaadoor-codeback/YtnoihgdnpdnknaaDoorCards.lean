/-
  DERIVED. GIVEN WITH THE SEED: THE CARDS: each row of YtnoihgdnpdnknaaDoorRows.lean that lists a variable, with what it lists TIED to the program's text (the seventh form; the later family's looks); each row that meets fmt, with fmt's text TOLD by the authors' own Lean function (tested against real Go, not proved from fmt's source: count such statements apart). THE CARD IS WHAT COUNTS. Prove the row's statement (the work); the ties are given (YtnoihgdnpdnknaaDoorTie.lean); close each card by the builder's one call (the guide's Derived/Test/ToyasCard.lean, 'card_holds'). Laid BY PROGRAM, IN A SANDBOX (cutbox-door.mjs). By AI agents, Wed Nov 11 2026. No macro, syntax, notation, axiom, sorry.
-/
import Derived.Test.YtnoihgdnpdnknaaDoorRows
import GoSem.ClaimSeven
namespace Go.Proofs.YtnoihgdnpdnknaaDoor
namespace Rows

/-- THE TIED CARD OF 'shalelaw04.CodeBack'. -/
def codeBackCard : Claim7 := { stood := { row := codeBackRow, standIns := [], harness := (true, "da595d7b553ae0aff5b614aa84e823a6b963a4fe3eade83e6f9abaad95f94c06"), looks := true }, kinds := [], alts := [], laidByText := true, laidKinds := [.handle], laidTests := true, laidLooks := .later }
def CodeBackCardSaid : Prop := Claim7.holds Tryd.pinned (.plain (OpenSpec.ofChange codeBackSpec)) codeBackCard

/-- THE TIED CARD OF 'shalelaw04.CodeLeft'. -/
def codeLeftCard : Claim7 := { stood := { row := codeLeftRow, standIns := [], harness := (true, "da595d7b553ae0aff5b614aa84e823a6b963a4fe3eade83e6f9abaad95f94c06"), looks := true }, kinds := [], alts := [], laidByText := true, laidKinds := [.handle], laidTests := true, laidLooks := .later }
def CodeLeftCardSaid : Prop := Claim7.holds Tryd.pinned (.plain (OpenSpec.ofChange codeLeftSpec)) codeLeftCard

/-- THE SECOND FORM's CARD OF 'shalelaw04.CodeBack'. -/
def codeBackUptoCard : Claim7 := { stood := { row := codeBackUptoRow, standIns := [], harness := (true, "da595d7b553ae0aff5b614aa84e823a6b963a4fe3eade83e6f9abaad95f94c06"), looks := true }, kinds := [], alts := [], laidByText := true, laidKinds := [.handle], laidTests := true, laidLooks := .later }
def CodeBackUptoCardSaid : Prop := Claim7.holds Tryd.pinned (.plain (OpenSpec.upto codeBackSpec)) codeBackUptoCard

/-- THE SECOND FORM's CARD OF 'shalelaw04.CodeLeft'. -/
def codeLeftUptoCard : Claim7 := { stood := { row := codeLeftUptoRow, standIns := [], harness := (true, "da595d7b553ae0aff5b614aa84e823a6b963a4fe3eade83e6f9abaad95f94c06"), looks := true }, kinds := [], alts := [], laidByText := true, laidKinds := [.handle], laidTests := true, laidLooks := .later }
def CodeLeftUptoCardSaid : Prop := Claim7.holds Tryd.pinned (.plain (OpenSpec.upto codeLeftSpec)) codeLeftUptoCard
end Rows
end Go.Proofs.YtnoihgdnpdnknaaDoor
