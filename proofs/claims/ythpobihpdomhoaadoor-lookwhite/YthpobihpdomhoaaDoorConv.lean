/-
  Bytes of a literal as a text: one byte, four bytes. No condition.
-/
import Derived.Test.YthpobihpdomhoaaDoorProg
import Derived.WalkKit
import Derived.Laws.BytesArg
namespace Go.Proofs.YthpobihpdomhoaaDoor
open Go.RowKit

end Go.Proofs.YthpobihpdomhoaaDoor
