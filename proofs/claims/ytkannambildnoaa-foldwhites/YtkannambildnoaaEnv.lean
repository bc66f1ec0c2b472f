/-
  What the walks of a seat carry of package variables: nothing (a seat whose program reads none). No condition. (Laid as the text Env.)
-/
import Derived.Test.YtkannambildnoaaProg
import Derived.WalkKit
namespace Go.Proofs.Ytkannambildnoaa
open Go.RowKit

def Env (_ : World) : Prop := True
theorem Env.below {w w' : World} (_ : Env w) (_ : Below w.heap.size w w') : Env w' := trivial
end Go.Proofs.Ytkannambildnoaa
