/-
  The contract of the document's own Less of two texts (package shaleref08), byte by byte; of Go's own order of texts. Condition: the texts' sizes fit.
-/
import Derived.Test.YtgpipljhpkhffaaDoorPa
import Derived.IntWalk
import Derived.BigQuiet
import Derived.Deep.LoopGhost
import Derived.Lib.Hide
namespace Go.Proofs.YtgpipljhpkhffaaDoor
open Go.RowKit

theorem below_drewX {B : Nat} {a w : World} (h : Below B a w) (q : Nat) : Below B a (w.drewN q) := ⟨h.os, h.tape, h.output, h.size, h.block⟩
theorem less_nil (l : List UInt8) : Op.bytesLess l [] = false := by cases l <;> rfl
theorem less_at {a b : List UInt8} {x y : UInt8} {i : Nat} (ha : a[i]? = some x) (hb : b[i]? = some y) : Op.bytesLess (a.drop i) (b.drop i) = (decide (x < y) || (x == y && Op.bytesLess (a.drop (i + 1)) (b.drop (i + 1)))) := by
  obtain ⟨h1, e1⟩ := List.getElem?_eq_some_iff.1 ha
  obtain ⟨h2, e2⟩ := List.getElem?_eq_some_iff.1 hb
  rw [List.drop_eq_getElem_cons h1, List.drop_eq_getElem_cons h2, e1, e2]
  rfl
theorem less_end {a b : List UInt8} {i : Nat} (h : ¬ (i < a.length ∧ i < b.length)) (ha : i ≤ a.length) (hb : i ≤ b.length) : Op.bytesLess (a.drop i) (b.drop i) = decide (a.length < b.length) := by
  by_cases h2 : i < b.length
  · have h1 : a.drop i = [] := List.drop_eq_nil_iff.2 (by omega)
    rw [h1, List.drop_eq_getElem_cons h2, decide_eq_true (by omega)]
    rfl
  · rw [show b.drop i = [] from List.drop_eq_nil_iff.2 (by omega), less_nil, decide_eq_false (by omega)]
end Go.Proofs.YtgpipljhpkhffaaDoor
