/-
  The contract of the statements' own 'awake': it answers true; what was in memory stays. No condition.
-/
import Derived.Test.YtnoihgdnpdnknaaDoorS4Num
namespace Go.Proofs.YtnoihgdnpdnknaaDoor
open Go.RowKit

theorem numB_300 : numB 300 = ⟨#[172, 2]⟩ := by
  unfold numB
  rw [dg_more (by decide), dg_last (by decide)]
  rfl

set_option maxHeartbeats 1000000 in
theorem awake_any (w : World) : Calls Tryd.prog 5 #[] w fun e w' => e = .returned (.bool true) ∧ Below w.heap.size w w' := by
  go_enter Tryd.func5, Tryd.ntmps5
  go_wp2_with fail
  refine (num_any 300 (by decide) _).mono ?_
  rintro e w1 ⟨rfl, hb⟩
  have HB := Lib.hid hb
  clear hb
  rw [numB_300]
  go_wp2
  go_ret
  exact ⟨rfl, HB.out⟩
end Go.Proofs.YtnoihgdnpdnknaaDoor
