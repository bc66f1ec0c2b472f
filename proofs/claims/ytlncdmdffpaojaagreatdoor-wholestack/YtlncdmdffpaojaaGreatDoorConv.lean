/-
  Bytes of a literal as a text: one byte, four bytes. No condition.
-/
import Derived.Test.YtlncdmdffpaojaaGreatDoorProg
import Derived.WalkKit
import Derived.Laws.BytesArg
namespace Go.Proofs.YtlncdmdffpaojaaGreatDoor
open Go.RowKit

theorem conv4 (x y z u : Int) (w : World) : (convert 67 9 (.slice (some ⟨w.heap.size, 0, none⟩) 4 4)).run Tryz.prog (w.alloc (.cells #[.int .u8 x, .int .u8 y, .int .u8 z, .int .u8 u] 5)) = .ok (.string (strOfNums [x, y, z, u])) (w.alloc (.cells #[.int .u8 x, .int .u8 y, .int .u8 z, .int .u8 u] 5)) := by
  refine run_convert_bytes_arg _ 67 5 Tryz.underlying67 Tryz.underlying5 w.heap.size 0 4 4 [x, y, z, u] rfl ?_ 9 Tryz.underlying9
  intro i hi
  match i, hi with
  | 0, _ => simp
  | 1, _ => simp
  | 2, _ => simp
  | 3, _ => simp
theorem conv1 (x : Int) (w : World) : (convert 67 9 (.slice (some ⟨w.heap.size, 0, none⟩) 1 1)).run Tryz.prog (w.alloc (.cells #[.int .u8 x] 5)) = .ok (.string (strOfNums [x])) (w.alloc (.cells #[.int .u8 x] 5)) := by
  refine run_convert_bytes_arg _ 67 5 Tryz.underlying67 Tryz.underlying5 w.heap.size 0 1 1 [x] rfl ?_ 9 Tryz.underlying9
  intro i hi
  match i, hi with
  | 0, _ => simp
end Go.Proofs.YtlncdmdffpaojaaGreatDoor
