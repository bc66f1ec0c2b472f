/-
  An op of the statements' own (layer 11) that is handed in by value. No condition.
-/
import Derived.Test.YtjliagcalbdnhaaGreatDoorOpsOf
namespace Go.Proofs.YtjliagcalbdnhaaGreatDoor
open Go.ChangeShapes Go.WideShapes Go.ChangeAt Go.RowKit

set_option maxRecDepth 100000 in
theorem op_open {H : Type} {enc9 : TypeId × Value → H} {W : World} {r : Reach} {b0 b : Nat} {v : Value} {d : DataW H} {ps : List MemPlace} (hval : Value.okWide Tryz.prog W r b0 32 v)
    (h : ∃ fuel, DataW.trod enc9 Tryz.prog W b (fun _ => true) true fuel 32 v.cells.toList = some (d, ps)) : ∃ o : Op11, v = opV o ∧ opOK o := by
  obtain ⟨cs, rfl, hcs⟩ := okWide_struct Tryz.underlying32 hval
  obtain ⟨fuel, hf⟩ := h
  obtain ⟨x, hx, hc⟩ := op_cells (cs := cs.toList) hf
  refine ⟨x, ?_, hx⟩
  obtain ⟨cl⟩ := cs
  have hc' : cl = opc x := hc
  rw [hc']
end Go.Proofs.YtjliagcalbdnhaaGreatDoor
