/-
  The contract of package fold's plain. No condition.
-/
import Derived.Test.YtgpipljhpkhffaaDoorPb
import Derived.Test.YtgpipljhpkhffaaDoorPc
namespace Go.Proofs.YtgpipljhpkhffaaDoor
open Go.RowKit

theorem plain10 (e : Ent) (w : World) : Calls Tryd.prog 20 #[enV e] w fun r w' => r = .returned (.bool (e.2.1 == 1 || e.2.1 == 2)) ∧ Below w.heap.size w w' := by
  obtain ⟨p, k, d⟩ := e
  by_cases h1 : k = 1
  · have g : (k == 1) = true := by rw [h1]; rfl
    show Calls _ _ _ _ fun r w' => r = .returned (.bool (k == 1 || k == 2)) ∧ _
    rw [g, Bool.true_or]
    clear h1
    go_enter Tryd.func20, Tryd.ntmps20
    go_wp2
    go_ret
    exact ⟨by simp, (Below.refl _ _).alloc (Nat.le_refl _) _⟩
  · have g : (k == 1) = false := beq_eq_false_iff_ne.2 h1
    show Calls _ _ _ _ fun r w' => r = .returned (.bool (k == 1 || k == 2)) ∧ _
    rw [g, Bool.false_or]
    clear h1
    go_enter Tryd.func20, Tryd.ntmps20
    go_wp2
    go_ret
    exact ⟨by simp, (Below.refl _ _).alloc (Nat.le_refl _) _⟩
end Go.Proofs.YtgpipljhpkhffaaDoor
