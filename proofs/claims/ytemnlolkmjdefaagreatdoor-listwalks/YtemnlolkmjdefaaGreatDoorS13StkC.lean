/-
  The landed code's fold.Stack answers as Stack13 says. No condition beyond Stack13's own.
-/
import Derived.Test.YtemnlolkmjdefaaGreatDoorS13Awake
import Derived.Test.YtemnlolkmjdefaaGreatDoorS10StkC
namespace Go.Proofs.YtemnlolkmjdefaaGreatDoor
open Go.RowKit

theorem stack13 : Stack13 := fun S a cap w h hs => by
  have := stack10 S a cap w h hs
  rw [show stV S = wkV S from rfl] at this
  exact this
end Go.Proofs.YtemnlolkmjdefaaGreatDoor
