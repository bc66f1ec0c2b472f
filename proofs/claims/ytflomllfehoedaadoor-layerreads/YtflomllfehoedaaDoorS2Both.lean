/-
  The contracts of package adler's Both and of the statements' awake; the laws AdlerBoth and AdlerThree, walked: for all texts they return true and leave memory as it was. Condition: a text's length is one that Go has (for AdlerThree: within the form's own reach).
-/
import Derived.Test.YtflomllfehoedaaDoorS2Sum
import Derived.IntWalk
namespace Go.Proofs.YtflomllfehoedaaDoor
open Go.RowKit

theorem wikipedia : adl [87, 105, 107, 105, 112, 101, 100, 105, 97] = 300286872 := by decide
theorem bytes_add (s t : ByteArray) : (s ++ t).data.toList = s.data.toList ++ t.data.toList := by simp [ByteArray.data_append]
theorem bytes_len (s : ByteArray) : s.data.toList.length = s.size := by simp

end Go.Proofs.YtflomllfehoedaaDoor
