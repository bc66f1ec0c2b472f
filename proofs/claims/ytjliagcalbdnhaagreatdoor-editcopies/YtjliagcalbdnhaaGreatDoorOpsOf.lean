/-
  The statements' own ops of layer 11 (which, two paths, a number, a text) as cells; a slice of them opened. No condition.
-/
import Derived.Test.YtjliagcalbdnhaaGreatDoorKit
import Derived.Test.YtjliagcalbdnhaaGreatDoorPc
import Derived.Test.YtjliagcalbdnhaaGreatDoorPb
import Derived.Deep.Strs
namespace Go.Proofs.YtjliagcalbdnhaaGreatDoor
open Go.ChangeShapes Go.WideShapes Go.ChangeAt Go.RowKit

theorem cellsOp : Tryz.prog.cellsOf 32 = 5 := by kernel_rfl
theorem cellsOpI : Tryz.prog.cellsOf 3 = 1 := by kernel_rfl
theorem cellsOpS : Tryz.prog.cellsOf 9 = 1 := by kernel_rfl
/-- An op's cells. -/
abbrev opc (o : Op11) : List Value := [.int .i64 o.1, .string o.2.1, .string o.2.2.1, .int .i64 o.2.2.2.1, .string o.2.2.2.2]
abbrev opV (o : Op11) : Value := .agg #[.int .i64 o.1, .string o.2.1, .string o.2.2.1, .int .i64 o.2.2.2.1, .string o.2.2.2.2]
def opOK (o : Op11) : Prop := (-9223372036854775808 ≤ o.1 ∧ o.1 ≤ 9223372036854775807) ∧ (-9223372036854775808 ≤ o.2.2.2.1 ∧ o.2.2.2.1 ≤ 9223372036854775807) ∧ o.2.1.size ≤ maxLen ∧ o.2.2.1.size ≤ maxLen ∧ o.2.2.2.2.size ≤ maxLen
/-- A slice of ops in memory. -/
abbrev Ops (w : World) (a : Option Addr) (cap : Nat) (l : List Op11) : Prop := RowN 5 opc w a cap l
structure OpCells (w : World) (b o : Nat) (x : Op11) : Prop where
  c0 : w.cell? ⟨b, o, none⟩ = some (.int .i64 x.1)
  c1 : w.cell? ⟨b, o + 1, none⟩ = some (.string x.2.1)
  c2 : w.cell? ⟨b, o + 2, none⟩ = some (.string x.2.2.1)
  c3 : w.cell? ⟨b, o + 3, none⟩ = some (.int .i64 x.2.2.2.1)
  c4 : w.cell? ⟨b, o + 4, none⟩ = some (.string x.2.2.2.2)
theorem opCells_of {w : World} {b o : Nat} {x : Op11} (h : w.rangeAt b o (opc x)) : OpCells w b o x := ⟨h 0 _ rfl, h 1 _ rfl, h 2 _ rfl, h 3 _ rfl, h 4 _ rfl⟩
theorem Ops.at {w w' : World} {a : Option Addr} {cap : Nat} {l : List Op11} (h : Ops w a cap l) (hb : Below w.heap.size w w') {k : Nat} (hk : k < l.length) :
    ∃ b off, a = some ⟨b, off, none⟩ ∧ b < w.heap.size ∧ OpCells w' b (off + k * 5) l[k] := by
  rcases h.2 with h0 | ⟨b, off, rfl, hlt, hc⟩
  · rw [h0] at hk; simp at hk
  · exact ⟨b, off, rfl, hlt, opCells_of (rangeAt_below (hc k l[k] (List.getElem?_eq_getElem hk)) hb hlt)⟩
set_option maxRecDepth 100000 in
theorem op_cells {H : Type} {enc9 : TypeId × Value → H} {W : World} {b n : Nat} {cs : List Value} {d : DataW H × List MemPlace} (h : DataW.trod enc9 Tryz.prog W b (fun _ => true) true n 32 cs = some d) : ∃ x : Op11, opOK x ∧ cs = opc x := by
  obtain ⟨xs, m, _, _, hcl, hxl, hx⟩ := DataW.trod_struct Tryz.underlying32 h
  have hxl : xs.length = 5 := hxl
  have h0 : DataW.trod enc9 Tryz.prog W b (fun _ => true) true m 3 ((cs.drop 0).take (Tryz.prog.cellsOf 3)) = xs[0]? := hx 0 _ rfl
  have h1 : DataW.trod enc9 Tryz.prog W b (fun _ => true) true m 9 ((cs.drop 1).take (Tryz.prog.cellsOf 9)) = xs[1]? := hx 1 _ rfl
  have h2 : DataW.trod enc9 Tryz.prog W b (fun _ => true) true m 9 ((cs.drop 2).take (Tryz.prog.cellsOf 9)) = xs[2]? := hx 2 _ rfl
  have h3 : DataW.trod enc9 Tryz.prog W b (fun _ => true) true m 3 ((cs.drop 3).take (Tryz.prog.cellsOf 3)) = xs[3]? := hx 3 _ rfl
  have h4 : DataW.trod enc9 Tryz.prog W b (fun _ => true) true m 9 ((cs.drop 4).take (Tryz.prog.cellsOf 9)) = xs[4]? := hx 4 _ rfl
  rw [cellsOpS] at h1 h2 h4
  rw [cellsOpI] at h0 h3
  rw [cellsOp] at hcl
  rw [List.getElem?_eq_getElem (by omega)] at h0 h1 h2 h3 h4
  obtain ⟨i, e0, _, w0⟩ := DataW.trod_int Tryz.underlying3 h0
  obtain ⟨p, e1, _, w1⟩ := DataW.trod_string Tryz.underlying9 h1
  obtain ⟨q, e2, _, w2⟩ := DataW.trod_string Tryz.underlying9 h2
  obtain ⟨k, e3, _, w3⟩ := DataW.trod_int Tryz.underlying3 h3
  obtain ⟨s, e4, _, w4⟩ := DataW.trod_string Tryz.underlying9 h4
  refine ⟨(i, p, q, k, s), ⟨bounds_i64 w0, bounds_i64 w3, w1, w2, w4⟩, ?_⟩
  match cs, hcl with
  | [u0, u1, u2, u3, u4], _ =>
    have f0 : u0 = .int .i64 i := by simpa using e0
    have f1 : u1 = .string p := by simpa using e1
    have f2 : u2 = .string q := by simpa using e2
    have f3 : u3 = .int .i64 k := by simpa using e3
    have f4 : u4 = .string s := by simpa using e4
    rw [f0, f1, f2, f3, f4]
theorem ops_open {H : Type} {enc9 : TypeId × Value → H} {W : World} {b : Nat} {a : Option Addr} {len cap : Nat} {d : DataW H} {ps : List MemPlace}
    (h : ∃ fuel, DataW.trod enc9 Tryz.prog W b (fun _ => true) true fuel 23 (Value.slice a len cap).cells.toList = some (d, ps)) : ∃ l : List Op11, len = l.length ∧ Ops W a cap l ∧ (∀ x ∈ l, opOK x) ∧ l.length ≤ maxLen :=
  rowN_open opc opOK Tryz.underlying23 cellsOp (by decide) (fun _ _ _ h => op_cells h) h
end Go.Proofs.YtjliagcalbdnhaaGreatDoor
