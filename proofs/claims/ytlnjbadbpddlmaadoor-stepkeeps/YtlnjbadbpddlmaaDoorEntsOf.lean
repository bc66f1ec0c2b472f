/-
  A slice of entries ([]api.Entry) that is handed in, as a list. No condition.
-/
import Derived.Test.YtlnjbadbpddlmaaDoorKit
import Derived.Test.YtlnjbadbpddlmaaDoorEntOf
import Derived.Test.YtlnjbadbpddlmaaDoorPc
namespace Go.Proofs.YtlnjbadbpddlmaaDoor
open Go.ChangeShapes Go.WideShapes Go.ChangeAt Go.RowKit

set_option maxRecDepth 100000 in
theorem ent_cells {H : Type} {enc9 : TypeId × Value → H} {W : World} {b n : Nat} {cs : List Value} {d : DataW H × List MemPlace} (h : DataW.trod enc9 Tryd.prog W b (fun _ => true) true n 45 cs = some d) : ∃ x : Ent, (x.1.size ≤ maxLen ∧ x.2.2.size ≤ maxLen) ∧ cs = enc x := by
  obtain ⟨xs, m, _, _, hcl, hxl, hx⟩ := DataW.trod_struct Tryd.underlying45 h
  have hxl : xs.length = 3 := hxl
  have h0 : DataW.trod enc9 Tryd.prog W b (fun _ => true) true m 9 ((cs.drop 0).take (Tryd.prog.cellsOf 9)) = xs[0]? := hx 0 _ rfl
  have h1 : DataW.trod enc9 Tryd.prog W b (fun _ => true) true m 3 ((cs.drop 1).take (Tryd.prog.cellsOf 3)) = xs[1]? := hx 1 _ rfl
  have h2 : DataW.trod enc9 Tryd.prog W b (fun _ => true) true m 9 ((cs.drop 2).take (Tryd.prog.cellsOf 9)) = xs[2]? := hx 2 _ rfl
  rw [cellsEnS] at h0 h2
  rw [cellsEnI] at h1
  rw [cellsEn] at hcl
  rw [List.getElem?_eq_getElem (by omega)] at h0 h1 h2
  obtain ⟨p, e0, _, w0⟩ := DataW.trod_string Tryd.underlying9 h0
  obtain ⟨k, e1, _, _⟩ := DataW.trod_int Tryd.underlying3 h1
  obtain ⟨t, e2, _, w2⟩ := DataW.trod_string Tryd.underlying9 h2
  refine ⟨(p, k, t), ⟨w0, w2⟩, ?_⟩
  match cs, hcl with
  | [u0, u1, u2], _ =>
    have f0 : u0 = .string p := by simpa using e0
    have f1 : u1 = .int .i64 k := by simpa using e1
    have f2 : u2 = .string t := by simpa using e2
    rw [f0, f1, f2]
theorem ents_open {H : Type} {enc9 : TypeId × Value → H} {W : World} {b : Nat} {a : Option Addr} {len cap : Nat} {d : DataW H} {ps : List MemPlace}
    (h : ∃ fuel, DataW.trod enc9 Tryd.prog W b (fun _ => true) true fuel 22 (Value.slice a len cap).cells.toList = some (d, ps)) : ∃ l : List Ent, len = l.length ∧ Ents W a cap l ∧ (∀ x ∈ l, x.1.size ≤ maxLen ∧ x.2.2.size ≤ maxLen) ∧ l.length ≤ maxLen :=
  rowN_open enc (fun x => x.1.size ≤ maxLen ∧ x.2.2.size ≤ maxLen) Tryd.underlying22 cellsEn (by decide) (fun _ _ _ h => ent_cells h) h
end Go.Proofs.YtlnjbadbpddlmaaDoor
