/-
  An entry (api.Entry) that is handed in: its path, kind and data. No condition.
-/
import Derived.Test.YtlnjbadbpddlmaaDoorKit
import Derived.Test.YtlnjbadbpddlmaaDoorPb
import Derived.Deep.RegionHeld3
import Derived.Deep.Strs
namespace Go.Proofs.YtlnjbadbpddlmaaDoor
open Go.ChangeShapes Go.WideShapes Go.ChangeAt Go.RowKit

theorem cellsEn : Tryd.prog.cellsOf 45 = 3 := by kernel_rfl
theorem cellsEnI : Tryd.prog.cellsOf 3 = 1 := by kernel_rfl
theorem cellsEnS : Tryd.prog.cellsOf 9 = 1 := by kernel_rfl
set_option maxRecDepth 100000 in
theorem ent_open {H : Type} {enc : TypeId × Value → H} {W : World} {r : Reach} {b0 b : Nat} {v : Value} {d : DataW H} {ps : List MemPlace} (hval : Value.okWide Tryd.prog W r b0 45 v)
    (h : ∃ fuel, DataW.trod enc Tryd.prog W b (fun _ => true) true fuel 45 v.cells.toList = some (d, ps)) : ∃ (p : ByteArray) (k : Int) (t : ByteArray), v = entV p k t ∧ p.size ≤ maxLen ∧ t.size ≤ maxLen := by
  obtain ⟨cs, rfl, hcs⟩ := okWide_struct Tryd.underlying45 hval
  obtain ⟨fuel, hf⟩ := h
  obtain ⟨xs, m, _, _, hcl, hxl, hx⟩ := DataW.trod_struct Tryd.underlying45 hf
  have hxl : xs.length = 3 := hxl
  have h0 : DataW.trod enc Tryd.prog W b (fun _ => true) true m 9 ((cs.toList.drop 0).take (Tryd.prog.cellsOf 9)) = xs[0]? := hx 0 _ rfl
  have h1 : DataW.trod enc Tryd.prog W b (fun _ => true) true m 3 ((cs.toList.drop 1).take (Tryd.prog.cellsOf 3)) = xs[1]? := hx 1 _ rfl
  have h2 : DataW.trod enc Tryd.prog W b (fun _ => true) true m 9 ((cs.toList.drop 2).take (Tryd.prog.cellsOf 9)) = xs[2]? := hx 2 _ rfl
  rw [cellsEnS] at h0 h2
  rw [cellsEnI] at h1
  rw [cellsEn] at hcs
  rw [List.getElem?_eq_getElem (by omega)] at h0 h1 h2
  obtain ⟨p, e0, _, w0⟩ := DataW.trod_string Tryd.underlying9 h0
  obtain ⟨k, e1, _, _⟩ := DataW.trod_int Tryd.underlying3 h1
  obtain ⟨t, e2, _, w2⟩ := DataW.trod_string Tryd.underlying9 h2
  refine ⟨p, k, t, ?_, w0, w2⟩
  obtain ⟨cl⟩ := cs
  match cl, hcs with
  | [u0, u1, u2], _ =>
    simp at e0 e1 e2
    rw [e0, e1, e2]
end Go.Proofs.YtlnjbadbpddlmaaDoor
