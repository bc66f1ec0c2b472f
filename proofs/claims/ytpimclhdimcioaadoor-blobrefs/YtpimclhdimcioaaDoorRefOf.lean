/-
  A text's place (blob.Ref) that is handed in: its three numbers. No condition.
-/
import Derived.Test.YtpimclhdimcioaaDoorS7Small
import Derived.Test.YtpimclhdimcioaaDoorS1Base
import Derived.Deep.Strs
namespace Go.Proofs.YtpimclhdimcioaaDoor
open Go.ChangeShapes Go.WideShapes Go.ChangeAt Go.RowKit

theorem cellsRf : Tryd.prog.cellsOf 32 = 3 := by kernel_rfl
theorem cellsRfI : Tryd.prog.cellsOf 3 = 1 := by kernel_rfl
theorem cellsRfU : Tryd.prog.cellsOf 30 = 1 := by kernel_rfl
set_option maxRecDepth 100000 in
theorem ref_open {H : Type} {enc : TypeId × Value → H} {W : World} {r : Reach} {b0 b : Nat} {v : Value} {d : DataW H} {ps : List MemPlace} (hval : Value.okWide Tryd.prog W r b0 32 v)
    (h : ∃ fuel, DataW.trod enc Tryd.prog W b (fun _ => true) true fuel 32 v.cells.toList = some (d, ps)) : ∃ k n x : Int, v = refV k n x ∧ 0 ≤ x ∧ x ≤ 4294967295 := by
  obtain ⟨cs, rfl, hcs⟩ := okWide_struct Tryd.underlying32 hval
  obtain ⟨fuel, hf⟩ := h
  obtain ⟨xs, m, _, _, hcl, hxl, hx⟩ := DataW.trod_struct Tryd.underlying32 hf
  have hxl : xs.length = 3 := hxl
  have h0 : DataW.trod enc Tryd.prog W b (fun _ => true) true m 3 ((cs.toList.drop 0).take (Tryd.prog.cellsOf 3)) = xs[0]? := hx 0 _ rfl
  have h1 : DataW.trod enc Tryd.prog W b (fun _ => true) true m 3 ((cs.toList.drop 1).take (Tryd.prog.cellsOf 3)) = xs[1]? := hx 1 _ rfl
  have h2 : DataW.trod enc Tryd.prog W b (fun _ => true) true m 30 ((cs.toList.drop 2).take (Tryd.prog.cellsOf 30)) = xs[2]? := hx 2 _ rfl
  rw [cellsRfI] at h0 h1
  rw [cellsRfU] at h2
  rw [cellsRf] at hcs
  rw [List.getElem?_eq_getElem (by omega)] at h0 h1 h2
  obtain ⟨k, e0, _, _⟩ := DataW.trod_int Tryd.underlying3 h0
  obtain ⟨n, e1, _, _⟩ := DataW.trod_int Tryd.underlying3 h1
  obtain ⟨x, e2, _, w2⟩ := DataW.trod_int Tryd.underlying30 h2
  refine ⟨k, n, x, ?_, bounds_u32 w2⟩
  obtain ⟨cl⟩ := cs
  match cl, hcs with
  | [u0, u1, u2], _ =>
    simp at e0 e1 e2
    rw [e0, e1, e2]
end Go.Proofs.YtpimclhdimcioaaDoor
