/-
  The statements' own acts of layer 5 (a struct of a number, a place, a page, a mask) as cells; a slice of them opened. No condition.
-/
import Derived.Test.YtgjakhfmjnpkcaaDoorPage
import Derived.Test.YtgjakhfmjnpkcaaDoorRowN
namespace Go.Proofs.YtgjakhfmjnpkcaaDoor
open Go.RowKit Go.ChangeShapes Go.WideShapes
open Extern.Stop (cell)

theorem cellsPage : Tryd.prog.cellsOf 37 = 64 := by kernel_rfl
theorem cellsByte : Tryd.prog.cellsOf 5 = 1 := by kernel_rfl
theorem cellsInt : Tryd.prog.cellsOf 3 = 1 := by kernel_rfl
theorem cellsU64 : Tryd.prog.cellsOf 38 = 1 := by kernel_rfl
theorem cellsAct : Tryd.prog.cellsOf 40 = 67 := by kernel_rfl

section
variable {H : Type} {enc : TypeId × Value → H} {w : World} {base : Nat} {spare : Nat → Bool} {held : Bool} {n : Nat} {cs : List Value} {d : DataW H × List MemPlace}
theorem wf_nat {k : Int} (h : (Lit.int .u8 k).wf = true) : ∃ c : UInt8, Value.int .u8 k = cell c := by
  have hb := bounds_u8 h
  refine ⟨UInt8.ofNat k.toNat, ?_⟩
  unfold cell
  rw [UInt8.toNat_ofNat']
  congr 1
  show k = ((k.toNat % 2 ^ 8 : Nat) : Int)
  omega
theorem page_open (h : DataW.trod enc Tryd.prog w base spare held n 37 cs = some d) : ∃ l : List UInt8, l.length = 64 ∧ cs = cellsB l := by
  obtain ⟨xs, m, _, _, hcl, hxl, hx⟩ := DataW.trod_array Tryd.underlying37 h
  rw [cellsPage] at hcl
  rw [cellsByte] at hx
  obtain ⟨l, hl, hlf⟩ := list_of (fun (c : UInt8) i => cs[i]? = some (cell c)) 64 id fun i hi => by
    have h1 := hx i hi
    rw [List.getElem?_eq_getElem (by omega)] at h1
    obtain ⟨k, h2, _, h3⟩ := DataW.trod_int Tryd.underlying5 h1
    obtain ⟨c, hc⟩ := wf_nat h3
    refine ⟨c, ?_⟩
    rw [Nat.mul_one, List.drop_eq_getElem_cons (by omega)] at h2
    rw [List.take_succ_cons, List.take_zero] at h2
    injection h2 with h2 _
    show cs[i]? = _
    rw [List.getElem?_eq_getElem (by omega), h2, hc]
  refine ⟨l, hl, List.ext_getElem? fun i => ?_⟩
  by_cases hi : i < 64
  · have h1 : l[i]? = some (l[i]'(by omega)) := List.getElem?_eq_getElem (by omega)
    have h2 := hlf i _ h1
    show cs[i]? = (l.map cell)[i]?
    rw [List.getElem?_map, h1]
    exact h2
  · rw [List.getElem?_eq_none (by omega), List.getElem?_eq_none (by rw [cellsB_len]; omega)]
end

/-- An act: what, where, the page, the mask. -/
structure ActV where
  what : Int
  place : Int
  page : List UInt8
  mask : Int
def ActV.ok (x : ActV) : Prop := (0 ≤ x.what ∧ x.what ≤ 255) ∧ (-9223372036854775808 ≤ x.place ∧ x.place ≤ 9223372036854775807) ∧ x.page.length = 64 ∧ (0 ≤ x.mask ∧ x.mask ≤ 18446744073709551615)
def actCells (x : ActV) : List Value := .int .u8 x.what :: .int .i64 x.place :: (cellsB x.page ++ [.int .u64 x.mask])
theorem actCells_len {x : ActV} (h : x.ok) : (actCells x).length = 67 := by
  simp [actCells, cellsB_len, h.2.2.1]

theorem act_open {H : Type} {enc : TypeId × Value → H} {w : World} {base : Nat} {spare : Nat → Bool} {held : Bool} (n : Nat) (cs : List Value) (d : DataW H × List MemPlace)
    (h : DataW.trod enc Tryd.prog w base spare held n 40 cs = some d) : ∃ x : ActV, x.ok ∧ cs = actCells x := by
  obtain ⟨xs, m, _, _, hcl, hxl, hx⟩ := DataW.trod_struct Tryd.underlying40 h
  rw [cellsAct] at hcl
  have hxl : xs.length = 4 := hxl
  have h0 : DataW.trod enc Tryd.prog w base spare held m 5 ((cs.drop 0).take (Tryd.prog.cellsOf 5)) = xs[0]? := hx 0 _ rfl
  have h1 : DataW.trod enc Tryd.prog w base spare held m 3 ((cs.drop 1).take (Tryd.prog.cellsOf 3)) = xs[1]? := hx 1 _ rfl
  have h2 : DataW.trod enc Tryd.prog w base spare held m 37 ((cs.drop 2).take (Tryd.prog.cellsOf 37)) = xs[2]? := hx 2 _ rfl
  have h3 : DataW.trod enc Tryd.prog w base spare held m 38 ((cs.drop 66).take (Tryd.prog.cellsOf 38)) = xs[3]? := hx 3 _ rfl
  rw [cellsByte] at h0
  rw [cellsInt] at h1
  rw [cellsPage] at h2
  rw [cellsU64] at h3
  rw [List.getElem?_eq_getElem (by omega)] at h0 h1 h2 h3
  obtain ⟨a, e0, _, w0⟩ := DataW.trod_int Tryd.underlying5 h0
  obtain ⟨b, e1, _, w1⟩ := DataW.trod_int Tryd.underlying3 h1
  obtain ⟨l, hl, e2⟩ := page_open h2
  obtain ⟨c, e3, _, w3⟩ := DataW.trod_int Tryd.underlying38 h3
  refine ⟨⟨a, b, l, c⟩, ⟨bounds_u8 w0, bounds_i64 w1, hl, bounds_u64 w3⟩, ?_⟩
  have g0 : cs = cs.take 1 ++ ((cs.drop 1).take 1 ++ ((cs.drop 2).take 64 ++ (cs.drop 66).take 1)) := by
    have k3 : (cs.drop 66).take 1 = cs.drop 66 := List.take_of_length_le (by simp; omega)
    have k2 : (cs.drop 2).take 64 ++ cs.drop 66 = cs.drop 2 := by
      have := List.take_append_drop 64 (cs.drop 2)
      rwa [List.drop_drop] at this
    have k1 : (cs.drop 1).take 1 ++ cs.drop 2 = cs.drop 1 := by
      have := List.take_append_drop 1 (cs.drop 1)
      rwa [List.drop_drop] at this
    rw [k3, k2, k1, List.take_append_drop]
  rw [List.drop_zero] at e0
  rw [g0, e0, e1, e2, e3]
  rfl

theorem acts_open {H : Type} {enc : TypeId × Value → H} {W : World} {b : Nat} {a : Option Addr} {len cap : Nat} {d : DataW H} {ps : List MemPlace}
    (h : ∃ fuel, DataW.trod enc Tryd.prog W b (fun _ => true) true fuel 22 (Value.slice a len cap).cells.toList = some (d, ps)) : ∃ l : List ActV, len = l.length ∧ RowN 67 actCells W a cap l ∧ (∀ x ∈ l, x.ok) ∧ l.length ≤ maxLen :=
  rowN_open actCells ActV.ok Tryd.underlying22 cellsAct (by decide) (fun n cs d h => act_open n cs d h) h
end Go.Proofs.YtgjakhfmjnpkcaaDoor
