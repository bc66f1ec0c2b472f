/-
  A list of bytes as a text. No condition.
-/
import Derived.WalkKit
import Derived.Lib.Strings
namespace Go.Proofs.YtflomllfehoedaaDoor

/-- Bytes as a text. -/
def bs (l : List UInt8) : ByteArray := ⟨l.toArray⟩
theorem bs_list (l : List UInt8) : (bs l).data.toList = l := by simp [bs]
theorem bs_size (l : List UInt8) : (bs l).size = l.length := rfl
theorem bs_of {s : ByteArray} {l : List UInt8} (h : s.data.toList = l) : s = bs l := by
  apply ByteArray.ext
  rw [← Array.toList_inj, h, bs_list]
theorem bs_self (s : ByteArray) : bs s.data.toList = s := (bs_of rfl).symm
theorem bs_append (a b : List UInt8) : bs a ++ bs b = bs (a ++ b) := by
  apply bs_of
  rw [ByteArray.data_append, Array.toList_append, bs_list, bs_list]
theorem of_data {s : ByteArray} {l : List UInt8} (h : s.data.toList = l) : s = ⟨l.toArray⟩ := by rw [← h, Lib.mk_data]
end Go.Proofs.YtflomllfehoedaaDoor
