/-
  An error of a number as a value (0: none), and fail.Code of it. Condition: errorType holds error's type.
-/
import Derived.Test.YtgpipljhpkhffaaDoorAs0
namespace Go.Proofs.YtgpipljhpkhffaaDoor
open Go.RowKit

/-- An error of that number; nil, if it is 0. -/
def errV (n : Int) : Value := if n = 0 then .nilIface else .iface 51 (.int .i64 n)
theorem code_err (n : Int) (w : World) (hg : EtLaid w) : Calls Tryd.prog 10 #[errV n] w fun e w' => e = .returned (.int .i64 n) ∧ Below w.heap.size w w' := by
  unfold errV
  split
  · rename_i h
    subst h
    refine (code_zero w).mono ?_
    rintro e w' ⟨rfl, rfl⟩
    exact ⟨rfl, Below.refl _ _⟩
  · exact code_no n w hg
end Go.Proofs.YtgpipljhpkhffaaDoor
