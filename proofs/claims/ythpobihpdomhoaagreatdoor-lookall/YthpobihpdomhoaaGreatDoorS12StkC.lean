/-
  The landed code's fold.Stack answers as Stack12 says. No condition beyond Stack12's own.
-/
import Derived.Test.YthpobihpdomhoaaGreatDoorS12All
import Derived.Test.YthpobihpdomhoaaGreatDoorS10StkC
namespace Go.Proofs.YthpobihpdomhoaaGreatDoor
open Go.RowKit

theorem stack12 : Stack12 := fun S a cap w h hs hok => by
  have := stack10 S a cap w h hs
  rw [show stV S = stk S from if_pos hok] at this
  exact this
end Go.Proofs.YthpobihpdomhoaaGreatDoor
