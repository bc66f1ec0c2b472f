/-
  Lists of entries of a size that the contracts take. No condition.
-/
import Derived.Test.YtgpipljhpkhffaaDoorPb
import Derived.Test.YtgpipljhpkhffaaDoorS9Size
namespace Go.Proofs.YtgpipljhpkhffaaDoor
open Go.RowKit

/-- Of a size that the contracts take. -/
def Sm (l : List Ent) : Prop := l.length ≤ 1000 ∧ ∀ e ∈ l, e.1.size ≤ 100000 ∧ e.2.2.size ≤ 100000
theorem right_nil : RightL [] := ⟨by simp, rl_nil⟩
theorem sm_nil : Sm [] := ⟨by simp, by simp⟩
theorem sm_right {l : List Ent} (h : RightL l) : Sm l := ⟨by have := h.1; omega, fun e he => by
  obtain ⟨h1, _, _, h4, _⟩ := rightE_parts (h.2.1 e he)
  have h54 := isP_len (isP_of_dp h1)
  rw [← Lib.size_eq] at h54
  omega⟩
theorem sm_size {l : List Ent} (h : SizeOK l) : Sm l := ⟨by have := h.1; omega, fun e he => by have := h.2 e he; omega⟩
theorem sm_one {x : Ent} (h : rE x = true) : Sm [x] := ⟨by simp, fun e he => by
  obtain rfl : e = x := by simpa using he
  obtain ⟨h1, _, _, h4, _⟩ := rightE_parts h
  have h54 := isP_len (isP_of_dp h1)
  rw [← Lib.size_eq] at h54
  omega⟩
end Go.Proofs.YtgpipljhpkhffaaDoor
