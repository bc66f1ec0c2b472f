/-
  The document's example of layer 7 holds of the landed program. No condition.
-/
import Derived.Test.YtpimclhdimcioaaDoorS7Lay
namespace Go.Proofs.YtpimclhdimcioaaDoor
open Go.RowKit

theorem lay_123 : layB 1 2 3 = ⟨#[1, 2, 3]⟩ := by
  have h1 : numI 1 = ⟨#[1]⟩ := by
    rw [show (1 : Int) = ((1 : Nat) : Int) from rfl, numI_nat (by decide), numB, dg_last (by decide)]
    rfl
  have h2 : numI 2 = ⟨#[2]⟩ := by
    rw [show (2 : Int) = ((2 : Nat) : Int) from rfl, numI_nat (by decide), numB, dg_last (by decide)]
    rfl
  have h3 : numI 3 = ⟨#[3]⟩ := by
    rw [show (3 : Int) = ((3 : Nat) : Int) from rfl, numI_nat (by decide), numB, dg_last (by decide)]
    rfl
  unfold layB
  rw [h1, h2, h3]
  rfl
theorem awake7 (w : World) : Calls Tryd.prog 7 #[] w fun e w' => e = .returned (.bool true) ∧ Below w.heap.size w w' := by
  have e65 : pgs 65 = 2 := by decide
  have E65 := Lib.hid e65
  clear e65
  go_enter Tryd.func7, Tryd.ntmps7
  go_wp2_with fail
  refine (pages_any 65 _).mono ?_
  rintro e w1 ⟨rfl, rfl⟩
  rw [E65.out]
  go_wp2_with fail
  refine (lay_any 1 2 3 (by decide) (by decide) _).mono ?_
  rintro e w1 ⟨rfl, hb⟩
  rw [lay_123]
  have HB := Lib.hid hb
  clear hb
  go_wp2
  go_ret
  exact ⟨rfl, HB.out⟩
end Go.Proofs.YtpimclhdimcioaaDoor
