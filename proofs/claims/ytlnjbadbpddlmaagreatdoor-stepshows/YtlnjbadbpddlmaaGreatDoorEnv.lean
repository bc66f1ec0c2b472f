/-
  What the walks of a seat carry of package variables: errorType holds error's type. No condition. (Laid as the text Env.)
-/
import Derived.Test.YtlnjbadbpddlmaaGreatDoorEt
namespace Go.Proofs.YtlnjbadbpddlmaaGreatDoor
open Go.RowKit

def Env (w : World) : Prop := EtLaid w
theorem Env.below {w w' : World} (h : Env w) (hb : Below w.heap.size w w') : Env w' := EtLaid.below h (EtLaid.lt h) hb
end Go.Proofs.YtlnjbadbpddlmaaGreatDoor
