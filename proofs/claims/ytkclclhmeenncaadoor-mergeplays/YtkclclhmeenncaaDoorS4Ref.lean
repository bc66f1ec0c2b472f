/-
  The contract of the document's own Num (package shaleref04): a number's digits. Condition: the number is at most 2^62.
-/
import Derived.Test.YtkclclhmeenncaaDoorConv
import Derived.IntWalk
import Derived.Test.YtkclclhmeenncaaDoorS4Num
import Derived.Deep.LoopGhost
import Derived.Lib.Strings
namespace Go.Proofs.YtkclclhmeenncaaDoor
open Go.RowKit

theorem strOf_one (c : Nat) : (strOfNums [(c : Int)]).data.toList = [UInt8.ofNat c] := by
  simp [strOfNums]
end Go.Proofs.YtkclclhmeenncaaDoor
