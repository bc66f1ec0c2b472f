/-
  Small facts for the walks of layer 12's laws. No condition.
-/
import Derived.Test.YtkclclhmeenncaaGreatDoorPd
import Derived.Test.YtkclclhmeenncaaGreatDoorS10Few
namespace Go.Proofs.YtkclclhmeenncaaGreatDoor
open Go.RowKit

theorem few_sm12 {S : List (List Ent)} (h : FewOK S) : S.length ≤ 100 ∧ ∀ l ∈ S, Sm l := ⟨by have := h.1; omega, fun l hl => sm_size (h.2 l hl)⟩
/-- Where something lies: the stack can be looked at, the path is one. -/
theorem lkV_zero {S : List (List Ent)} {p : List UInt8} (h : (lkV S p).1 = 0) : LkOK S ∧ isP p := by
  by_cases hS : LkOK S
  · refine ⟨hS, ?_⟩
    rw [lkV_ok hS] at h
    by_cases hp : isP p
    · exact hp
    · rw [atS_bad hp] at h; cases h
  · rw [lkV_bad hS] at h; cases h
end Go.Proofs.YtkclclhmeenncaaGreatDoor
