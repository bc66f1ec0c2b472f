/-
  What the rows of this seat share: closed facts on the program; what the form's own reach says of a text. No condition.
-/
import Derived.Test.YtkannambildnoaaRows
import Derived.Test.YtkannambildnoaaKit
import Derived.SizedLaws
namespace Go.Proofs.Ytkannambildnoaa
open Go.ChangeShapes Go.WideShapes Go.ChangeAt Go.RowKit

theorem own : ownKnob Try.prog.godebug = none := by kernel_rfl
theorem laidOut : laidOutB Try.prog = true := by kernel_rfl
theorem reach_str {H : Type} {ts : List TypeId} {ds : List (DataW H)} (h : (DataW.weightsEach Try.prog ts ds).all (· ≤ reachBytes) = true) {j : Nat} {t : TypeId} {s : ByteArray} (ht : ts[j]? = some t) (hd : ds[j]? = some (.lit (.string s.data.toList))) : s.size ≤ 140737488351232 := by
  have := sized_string h ht hd
  simpa [reachBytes] using this
end Go.Proofs.Ytkannambildnoaa
