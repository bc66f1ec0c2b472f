/-
  The contract of the statements' own 'awake' of layer 6: it answers true; what was in memory stays. No condition.
-/
import Derived.Test.YtjghfecnekgfpaaDoorS6Space
namespace Go.Proofs.YtjghfecnekgfpaaDoor
open Go.RowKit

theorem first_ex : FirstIs [true, false, false] 2 1 true := by
  refine .inl ⟨rfl, ⟨by decide, fun j hj => ?_⟩, fun a ha h => ?_⟩
  · match j, hj with
    | 0, _ => rfl
    | 1, _ => rfl
  · obtain rfl : a = 0 := by omega
    have := h.2 0 (by omega)
    simp at this
theorem mp_ex (w : World) : Mp (w.alloc (.cells #[.bool true, .bool false, .bool false] 4)) (some ⟨w.heap.size, 0, none⟩) 3 [true, false, false] := by
  refine ⟨by decide, .inr ⟨w.heap.size, 0, rfl, by simp, fun j x hx => ?_⟩⟩
  rw [World.cell?_alloc_at _ _ _ _ (by simp)]
  match j, hx with
  | 0, hx => cases hx; rfl
  | 1, hx => cases hx; rfl
  | 2, hx => cases hx; rfl
  | j + 3, hx => simp at hx

set_option maxHeartbeats 1000000 in
theorem awake_any (w : World) : Calls Tryd.prog 4 #[] w fun e w' => e = .returned (.bool true) ∧ Below w.heap.size w w' := by
  go_enter Tryd.func4, Tryd.ntmps4
  go_wp2_with fail
  refine (first_any _ 3 [true, false, false] 2 (by decide) (by decide) _ (mp_ex w)).mono ?_
  rintro e w1 ⟨at_, ok, rfl, hf, rfl⟩
  obtain ⟨rfl, rfl⟩ := hf.eq first_ex
  go_wp2
  go_ret
  exact ⟨rfl, (Below.refl _ _).alloc (Nat.le_refl _) _⟩
end Go.Proofs.YtjghfecnekgfpaaDoor
