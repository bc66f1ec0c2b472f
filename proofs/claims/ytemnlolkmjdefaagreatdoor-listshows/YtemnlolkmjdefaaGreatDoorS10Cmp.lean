/-
  The contract of the closure by which package fold sorts entries; that it is a strict weak order. No condition.
-/
import Derived.Test.YtemnlolkmjdefaaGreatDoorPd
import Derived.Sort.Grow
import Derived.Sort.Statements
namespace Go.Proofs.YtemnlolkmjdefaaGreatDoor
open Go.RowKit

/-- How two entries are compared. -/
def cf10 (x y : Ent) : Int := Lib.compareBytes (pl x) (pl y)
set_option maxHeartbeats 1000000 in
theorem sclo10 (x y : Ent) (W : World) : Calls Tryz.prog 68 #[enV x, enV y] W fun e w' => e = .returned (.int .i64 (cf10 x y)) ∧ ∃ q os', w' = Go.Sort.grow (W.drewN q) os' := by
  have HC := Lib.hid (fun W' => cmp10 x.1 y.1 W')
  obtain ⟨r, hr⟩ : ∃ r, cf10 x y = r := ⟨_, rfl⟩
  have HR := Lib.hid hr
  unfold cf10 pl at hr
  rw [hr] at HC
  rw [HR.out]
  clear hr HR
  go_enter Tryz.func68, Tryz.ntmps68
  go_wp2_with fail
  refine (HC.out _).mono ?_
  rintro e w' ⟨rfl, rfl⟩
  go_wp2
  go_ret
  exact ⟨rfl, 0, _, by rw [Go.Sort.alloc_eq_grow, Go.Sort.alloc_eq_grow, Go.Sort.grow_grow]; rfl⟩
end Go.Proofs.YtemnlolkmjdefaaGreatDoor
