/-
  An error of a number, wrapped or not: fail.Code of it; it stays while what is written lies above it. Condition: errorType holds error's type.
-/
import Derived.Test.YtgpipljhpkhffaaDoorS3Path
namespace Go.Proofs.YtgpipljhpkhffaaDoor
open Go.RowKit

theorem code_isErr (n : Int) (v : Value) (w : World) (h : IsErr w n v) (hg : EtLaid w) : Calls Tryd.prog 10 #[v] w fun e w' => e = .returned (.int .i64 n) ∧ Below w.heap.size w w' := by
  obtain ⟨l, hl⟩ := h
  exact code_chain l n v w hl hg
theorem IsErr.below {w w' : World} {n : Int} {v : Value} (h : IsErr w n v) (hb : Below w.heap.size w w') : IsErr w' n v := by
  obtain ⟨l, hl⟩ := h
  exact ⟨l, hl.below hb⟩
theorem IsErr.iface {w : World} {n : Int} {v : Value} (h : IsErr w n v) : ∃ u y, v = .iface u y := by
  obtain ⟨l, hl⟩ := h
  exact hl.iface
theorem isErr_no (w : World) (n : Int) : IsErr w n (.iface 51 (.int .i64 n)) := ⟨[], rfl⟩
end Go.Proofs.YtgpipljhpkhffaaDoor
