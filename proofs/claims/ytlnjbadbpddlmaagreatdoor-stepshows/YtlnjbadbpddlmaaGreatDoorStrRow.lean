/-
  A slice of strings in memory; a row of strings that a call made itself. No condition.
-/
import Derived.Test.YtlnjbadbpddlmaaGreatDoorProg
import Derived.WalkKit
import Derived.Lib.Strings
import Derived.Laws.AppendOwn
import Derived.Lib.Builder
namespace Go.Proofs.YtlnjbadbpddlmaaGreatDoor
open Go.RowKit

theorem infoS : (Tryz.prog.info? 9).map (fun i => (i.zero, i.size, i.bytes)) = some (some (.string ⟨#[]⟩), 1, 16) := by kernel_rfl
/-- a slice of strings in memory -/
def Row (w : World) (a : Option Addr) (cap : Nat) (ns : List ByteArray) : Prop :=
  ns.length ≤ cap ∧ (ns = [] ∨ ∃ b off, a = some ⟨b, off, none⟩ ∧ b < w.heap.size ∧ ∀ (j : Nat) x, ns[j]? = some x → w.cell? ⟨b, off + j, none⟩ = some (.string x))
theorem Row.below {w w' : World} {a : Option Addr} {cap : Nat} {ns : List ByteArray} (h : Row w a cap ns) (hb : Below w.heap.size w w') : Row w' a cap ns := by
  obtain ⟨h1, h2⟩ := h
  refine ⟨h1, h2.imp_right ?_⟩
  rintro ⟨b, off, rfl, hlt, hc⟩
  exact ⟨b, off, rfl, Nat.lt_of_lt_of_le hlt hb.size, fun j x hx => (hb.cell (p := ⟨b, off + j, none⟩) hlt).trans (hc j x hx)⟩
theorem row_of_owns {w : World} {B : Nat} {v : Value} {ns : List ByteArray} (h : w.ownsRow B 9 1 v ns.length (ns.map Value.string)) : ∃ a cap, v = .slice a ns.length cap ∧ Row w a cap ns := by
  obtain ⟨_, ⟨rfl, h0⟩ | ⟨g, cap, cur, rfl, hg, hbk, hc, _, _, ht⟩⟩ := h
  · exact ⟨none, 0, by rw [h0], by omega, .inl (List.length_eq_zero_iff.1 h0)⟩
  · refine ⟨_, cap, rfl, hc, .inr ⟨g, 0, rfl, (Array.getElem?_eq_some_iff.1 hbk).1, fun j x hx => ?_⟩⟩
    have h1 : (ns.map Value.string)[j]? = some (.string x) := by rw [List.getElem?_map, hx]; rfl
    rw [← ht, Nat.mul_one] at h1
    have hj : j < ns.length := (List.getElem?_eq_some_iff.1 hx).1
    rw [List.getElem?_take_of_lt hj, Array.getElem?_toList] at h1
    rw [Lib.cell_of_heap hbk]
    simpa using h1
def lists (ns : List ByteArray) : List (List UInt8) := ns.map (·.data.toList)
theorem lists_append (a b : List ByteArray) : lists (a ++ b) = lists a ++ lists b := List.map_append
end Go.Proofs.YtlnjbadbpddlmaaGreatDoor
