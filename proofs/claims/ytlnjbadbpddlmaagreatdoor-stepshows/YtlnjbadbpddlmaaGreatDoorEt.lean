/-
  What the listed variable errorType holds, said of a world; it stays while what is written lies above it. No condition.
-/
import Derived.Test.YtlnjbadbpddlmaaGreatDoorProg
import Derived.WalkKit
namespace Go.Proofs.YtlnjbadbpddlmaaGreatDoor
open Go.RowKit

theorem lt_of_cell {w : World} {a : Addr} {x : Value} (h : w.cell? a = some x) : a.block < w.heap.size := by
  rcases Nat.lt_or_ge a.block w.heap.size with h' | h'
  · exact h'
  · simp [World.cell?, Array.getElem?_eq_none h'] at h

/-- What the variable errorType holds. -/
def EtLaid (w : World) : Prop := w.cell? ⟨0, 0, none⟩ = some (.iface 79 (.agg #[.pointer (some ⟨2, 29, none⟩)]))
theorem EtLaid.lt {w : World} (h : EtLaid w) : 0 < w.heap.size := lt_of_cell (a := ⟨0, 0, none⟩) h
theorem EtLaid.below {w w' : World} {B : Nat} (h : EtLaid w) (hB : 0 < B) (hb : Below B w w') : EtLaid w' := (hb.cell (p := ⟨0, 0, none⟩) hB).trans h
end Go.Proofs.YtlnjbadbpddlmaaGreatDoor
