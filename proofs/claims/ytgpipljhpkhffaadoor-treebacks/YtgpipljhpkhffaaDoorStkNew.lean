/-
  Two lists of entries, three lists, laid as a slice of slices in new memory. No condition.
-/
import Derived.Test.YtgpipljhpkhffaaDoorS9Concat
import Derived.Test.YtgpipljhpkhffaaDoorOldEn
namespace Go.Proofs.YtgpipljhpkhffaaDoor
open Go.RowKit

theorem stk2_new (w : World) (a1 a2 : Option Addr) (c1 c2 : Nat) (l1 l2 : List Ent) (h1 : Ents w a1 c1 l1) (h2 : Ents w a2 c2 l2) : Stk (w.alloc (.cells #[.slice a1 l1.length c1, .slice a2 l2.length c2] 22)) (some ⟨w.heap.size, 0, none⟩) 2 [l1, l2] := by
  have hb : Below w.heap.size w (w.alloc (.cells #[.slice a1 l1.length c1, .slice a2 l2.length c2] 22)) := (Below.refl _ _).alloc (Nat.le_refl _) _
  refine ⟨Nat.le_refl _, .inr ⟨w.heap.size, 0, rfl, by simp, fun j l hl => ?_⟩⟩
  match j, hl with
  | 0, hl => obtain rfl : l1 = l := by simpa using hl
             exact ⟨a1, c1, (cell_of8 (heap_alloc_new _ _) (j := 0 + 0) rfl).1, RowN.below h1 hb⟩
  | 1, hl => obtain rfl : l2 = l := by simpa using hl
             exact ⟨a2, c2, (cell_of8 (heap_alloc_new _ _) (j := 0 + 1) rfl).1, RowN.below h2 hb⟩
theorem Stk.drew {w : World} {a : Option Addr} {cap : Nat} {S : List (List Ent)} (h : Stk w a cap S) : Stk w.drew a cap S := h.below ((Below.refl _ _).drew)
/-- Three lists, the second one of one entry, in new memory. -/
def W3 (w : World) (a1 a3 : Option Addr) (n1 n3 c1 c3 : Nat) (x : Ent) : World := ((w.alloc (.cells #[.string x.1, .int .i64 x.2.1, .string x.2.2] 41)).alloc (.cells #[.slice a1 n1 c1, .slice (some ⟨w.heap.size, 0, none⟩) 1 1, .slice a3 n3 c3] 22)).drew
theorem stk3_new (w : World) (a1 a3 : Option Addr) (c1 c3 : Nat) (l1 l3 : List Ent) (x : Ent) (h1 : Ents w a1 c1 l1) (h3 : Ents w a3 c3 l3) : Stk (W3 w a1 a3 l1.length l3.length c1 c3 x) (some ⟨w.heap.size + 1, 0, none⟩) 3 [l1, [x], l3] ∧ Below w.heap.size w (W3 w a1 a3 l1.length l3.length c1 c3 x) := by
  unfold W3
  have hb0 : Below w.heap.size w (w.alloc (.cells #[.string x.1, .int .i64 x.2.1, .string x.2.2] 41)) := (Below.refl _ _).alloc (Nat.le_refl _) _
  have hn := enAt_new w x.1 x.2.1 x.2.2
  have hz : (w.alloc (.cells #[.string x.1, .int .i64 x.2.1, .string x.2.2] 41)).heap.size = w.heap.size + 1 := by simp
  obtain ⟨V, hV⟩ : ∃ V, w.alloc (.cells #[.string x.1, .int .i64 x.2.1, .string x.2.2] 41) = V := ⟨_, rfl⟩
  rw [hV] at hb0 hn hz ⊢
  have hb : Below V.heap.size V (V.alloc (.cells #[.slice a1 l1.length c1, .slice (some ⟨w.heap.size, 0, none⟩) 1 1, .slice a3 l3.length c3] 22)) := (Below.refl _ _).alloc (Nat.le_refl _) _
  have hk := heap_alloc_new V (.cells #[.slice a1 l1.length c1, .slice (some ⟨w.heap.size, 0, none⟩) 1 1, .slice a3 l3.length c3] 22)
  rw [hz] at hk
  refine ⟨Stk.drew ⟨Nat.le_refl _, .inr ⟨w.heap.size + 1, 0, rfl, by simp [hz], fun j l hl => ?_⟩⟩, (hb0.trans (hb.mono hb0.size)).drew⟩
  match j, hl with
  | 0, hl => obtain rfl : l1 = l := by simpa using hl
             exact ⟨a1, c1, (cell_of8 hk (j := 0 + 0) rfl).1, RowN.below (RowN.below h1 hb0) hb⟩
  | 1, hl => obtain rfl : [x] = l := by simpa using hl
             refine ⟨some ⟨w.heap.size, 0, none⟩, 1, (cell_of8 hk (j := 0 + 1) rfl).1, Nat.le_refl _, .inr ⟨w.heap.size, 0, rfl, by simp [hz]; omega, fun j y hy => ?_⟩⟩
             obtain ⟨rfl, rfl⟩ : j = 0 ∧ x = y := by
               cases j with
               | zero => exact ⟨rfl, by simpa using hy⟩
               | succ j => simp at hy
             exact fun i v hv => by have := rangeAt_below hn.range hb (by omega) i v hv; simpa using this
  | 2, hl => obtain rfl : l3 = l := by simpa using hl
             exact ⟨a3, c3, (cell_of8 hk (j := 0 + 2) rfl).1, RowN.below (RowN.below h3 hb0) hb⟩
end Go.Proofs.YtgpipljhpkhffaaDoor
