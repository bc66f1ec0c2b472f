/-
  A slice of bools that is handed in, opened: what it holds, said by a list. No condition.
-/
import Derived.Test.YtjghfecnekgfpaaDoorProg
import Derived.Test.YtjghfecnekgfpaaDoorRowOf
import Derived.OpenShut
import Derived.Deep.Grids
namespace Go.Proofs.YtjghfecnekgfpaaDoor
open Go.ChangeShapes Go.WideShapes Go.RowKit

theorem cellsBl : Tryd.prog.cellsOf 4 = 1 := by kernel_rfl
theorem bools_open {H : Type} {enc : TypeId × Value → H} {W : World} {b : Nat} {a : Option Addr} {len cap : Nat} {d : DataW H} {ps : List MemPlace}
    (h : ∃ fuel, DataW.trod enc Tryd.prog W b (fun _ => true) true fuel 22 (Value.slice a len cap).cells.toList = some (d, ps)) : ∃ S : List Bool, len = S.length ∧ RowOf Value.bool W a cap S ∧ S.length ≤ maxLen := by
  obtain ⟨fuel, hf⟩ := h
  rcases Go.Deep.open_bools Tryd.underlying22 Tryd.underlying4 cellsBl hf with ⟨hcs, _⟩ | ⟨a', len', cap', B, hcs, _, hl, hm, _, hcell⟩
  · simp [Value.cells] at hcs
    obtain ⟨rfl, rfl, rfl⟩ := hcs
    exact ⟨[], rfl, ⟨by simp, .inl rfl⟩, by simp [maxLen]⟩
  · simp [Value.cells] at hcs
    obtain ⟨rfl, rfl, rfl⟩ := hcs
    refine ⟨((List.range cap).map B).take len, by simp; omega, rowOf_mk false (by simp; omega) hl (fun i hi => ?_), by simp; omega⟩
    have hi' : i < cap := by simpa using hi
    rw [hcell i hi', List.getD_eq_getElem?_getD, List.getElem?_map, List.getElem?_range hi']
    rfl
end Go.Proofs.YtjghfecnekgfpaaDoor
