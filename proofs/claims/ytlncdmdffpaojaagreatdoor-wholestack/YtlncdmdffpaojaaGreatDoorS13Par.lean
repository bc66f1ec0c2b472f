/-
  path.Parent of a path that is not the root: its directory, its last name. Condition: the text is a path.
-/
import Derived.Test.YtlncdmdffpaojaaGreatDoorS3ParG
import Derived.Test.YtlncdmdffpaojaaGreatDoorPb
namespace Go.Proofs.YtlncdmdffpaojaaGreatDoor
open Go.RowKit

theorem parent13 (p : ByteArray) (hP : isP p.data.toList) (h : p.data.toList ≠ [47]) (w : World) : Calls Tryz.prog 35 #[.string p] w fun e w' => ∃ d n, e = .returned (.tuple #[.string d, .string n, .nilIface]) ∧ d.data.toList = par9 p.data.toList ∧ n.data.toList = lastN p.data.toList ∧ Below w.heap.size w w' := by
  obtain ⟨ms, x, _, a2, a3, a4, a5⟩ := par9_parts hP h
  refine (parent_good p ms x hP a2 a4 h w).mono ?_
  rintro e w' ⟨d, n, rfl, h1, h2, hb⟩
  refine ⟨d, n, rfl, by rw [h1, a5], ?_, hb⟩
  rw [h2]
  unfold lastN
  rw [a3]
  simp
end Go.Proofs.YtlncdmdffpaojaaGreatDoor
