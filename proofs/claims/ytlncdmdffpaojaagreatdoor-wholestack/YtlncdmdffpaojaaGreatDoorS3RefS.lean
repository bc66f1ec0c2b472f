/-
  The contract of the document's own Split (package shaleref03): a path's names. Condition: the text has at most 100000 bytes.
-/
import Derived.Test.YtlncdmdffpaojaaGreatDoorS3Ref
namespace Go.Proofs.YtlncdmdffpaojaaGreatDoor
open Go.RowKit

/-- a path's names; none of what is no path -/
def names (p : ByteArray) : List ByteArray := if isP p.data.toList then prts p else []
theorem names_pos {p : ByteArray} (h : isP p.data.toList) : names p = prts p := if_pos h
theorem names_neg {p : ByteArray} (h : ¬ isP p.data.toList) : names p = [] := if_neg h
theorem row_nil (w : World) (a : Option Addr) (cap : Nat) : Row w a cap [] := ⟨by simp, .inl rfl⟩
theorem names_len (p : ByteArray) : (names p).length ≤ 6 := by
  by_cases h : isP p.data.toList
  · rw [names_pos h]
    simpa [prts] using h.2.1
  · rw [names_neg h]
    simp

end Go.Proofs.YtlncdmdffpaojaaGreatDoor
