/-
  Stacks of one layer and of two, built in place. No condition.
-/
import Derived.Test.YtkclclhmeenncaaGreatDoorPc
namespace Go.Proofs.YtkclclhmeenncaaGreatDoor
open Go.RowKit

theorem lit15a (w : World) (a : Option Addr) (cap : Nat) (l : List Ent) (h : Ents w a cap l) : Stk (w.alloc (.cells #[.slice a l.length cap] 23)) (some ⟨w.heap.size, 0, none⟩) 1 [l] := by
  have hb : Below w.heap.size w (w.alloc (.cells #[.slice a l.length cap] 23)) := (Below.refl _ _).alloc (Nat.le_refl _) _
  refine ⟨Nat.le_refl _, .inr ⟨w.heap.size, 0, rfl, by simp, fun j x hx => ?_⟩⟩
  match j, hx with
  | 0, hx => obtain rfl : l = x := by simpa using hx
             exact ⟨a, cap, (cell_of8 (heap_alloc_new _ _) (j := 0 + 0) rfl).1, RowN.below h hb⟩
theorem lit15b (w : World) (a b : Option Addr) (cap c2 : Nat) (l m : List Ent) (h : Ents w a cap l) (h2 : Ents w b c2 m) : Stk (w.alloc (.cells #[.slice a l.length cap, .slice b m.length c2] 23)) (some ⟨w.heap.size, 0, none⟩) 2 [l, m] := by
  have hb : Below w.heap.size w (w.alloc (.cells #[.slice a l.length cap, .slice b m.length c2] 23)) := (Below.refl _ _).alloc (Nat.le_refl _) _
  refine ⟨Nat.le_refl _, .inr ⟨w.heap.size, 0, rfl, by simp, fun j x hx => ?_⟩⟩
  match j, hx with
  | 0, hx => obtain rfl : l = x := by simpa using hx
             exact ⟨a, cap, (cell_of8 (heap_alloc_new _ _) (j := 0 + 0) rfl).1, RowN.below h hb⟩
  | 1, hx => obtain rfl : m = x := by simpa using hx
             exact ⟨b, c2, (cell_of8 (heap_alloc_new _ _) (j := 0 + 1) rfl).1, RowN.below h2 hb⟩
end Go.Proofs.YtkclclhmeenncaaGreatDoor
