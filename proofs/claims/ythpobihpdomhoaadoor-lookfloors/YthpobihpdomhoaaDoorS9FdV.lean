/-
  What package layer's Find answers, by lists. No condition.
-/
import Derived.Test.YthpobihpdomhoaaDoorPb
namespace Go.Proofs.YthpobihpdomhoaaDoor
open Go.RowKit

def zE : Ent := (⟨#[]⟩, 0, ⟨#[]⟩)
def fdV (l : List Ent) (p : List UInt8) : Ent × Bool := if RightL l then (match fnd l p with
  | some e => (e, true)
  | none => (zE, false)) else (zE, false)
end Go.Proofs.YthpobihpdomhoaaDoor
