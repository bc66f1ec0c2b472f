/-
  The last of the first so many of a list. No condition.
-/
import Derived.Test.YthpobihpdomhoaaDoorPb
import Derived.Test.YthpobihpdomhoaaDoorPc
namespace Go.Proofs.YthpobihpdomhoaaDoor
open Go.RowKit

theorem last_take9 {l : List Ent} {k j : Nat} (hk : k < l.length) (hj : k = j + 1) : (l.take k).getLast? = some (l[j]'(by omega)) := by
  subst hj
  rw [take_get l j (by omega), List.getLast?_concat]
end Go.Proofs.YthpobihpdomhoaaDoor
