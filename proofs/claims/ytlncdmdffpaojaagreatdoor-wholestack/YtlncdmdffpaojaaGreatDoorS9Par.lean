/-
  Contracts of the document's own Join of names (package shaleref03) and Parent of a path (package shaleref09). Conditions: six names at most, each of eight bytes at most; a path that is not the root's.
-/
import Derived.Test.YtlncdmdffpaojaaGreatDoorS3RefS
import Derived.Test.YtlncdmdffpaojaaGreatDoorPb
import Derived.Test.YtlncdmdffpaojaaGreatDoorPa
import Derived.Deep.LoopGhost
import Derived.Lib.Hide
import Derived.IntWalk
namespace Go.Proofs.YtlncdmdffpaojaaGreatDoor
open Go.RowKit

theorem Row.at9 {w w' : World} {a : Option Addr} {cap : Nat} {ns : List ByteArray} (h : Row w a cap ns) (hb : Below w.heap.size w w') {k : Nat} (hk : k < ns.length) : ∃ b off, a = some ⟨b, off, none⟩ ∧ w'.cell? ⟨b, off + k, none⟩ = some (.string ns[k]) := by
  rcases h.2 with h0 | ⟨b, off, rfl, hlt, hc⟩
  · rw [h0] at hk; simp at hk
  · exact ⟨b, off, rfl, (hb.cell (p := ⟨b, off + k, none⟩) hlt).trans (hc k ns[k] (List.getElem?_eq_getElem hk))⟩
theorem lists_take (ns : List ByteArray) (k : Nat) (h : k < ns.length) : jn (lists (ns.take (k + 1))) = jn (lists (ns.take k)) ++ (47 :: ns[k].data.toList) := by
  rw [List.take_add_one, List.getElem?_eq_getElem h, lists_append, jn_append]
  simp [lists, jn]
theorem row_init {w : World} {a : Option Addr} {cap : Nat} {ns : List ByteArray} (h : Row w a cap ns) : Row w a cap ns.dropLast := by
  obtain ⟨h1, h2⟩ := h
  refine ⟨by simp; omega, ?_⟩
  rcases h2 with rfl | ⟨b, off, rfl, hlt, hc⟩
  · exact .inl rfl
  · exact .inr ⟨b, off, rfl, hlt, fun j x hx => hc j x (by
      rw [List.getElem?_dropLast] at hx
      split at hx
      · exact hx
      · cases hx)⟩
theorem lists_prts9 (p : ByteArray) : lists (prts p) = pcs p.data.toList := by
  unfold lists prts
  rw [List.map_map]
  conv => rhs; rw [← List.map_id (pcs p.data.toList)]
  apply List.map_congr_left
  intro x _
  exact bs_list x
end Go.Proofs.YtlncdmdffpaojaaGreatDoor
