/-
  Bytes of a literal as a text: one byte, four bytes. No condition.
-/
import Derived.Test.YthpobihpdomhoaaGreatDoorProg
import Derived.WalkKit
import Derived.Laws.BytesArg
namespace Go.Proofs.YthpobihpdomhoaaGreatDoor
open Go.RowKit

end Go.Proofs.YthpobihpdomhoaaGreatDoor
