/-
  An entry in memory (api.Entry, three cells): its loads and stores. No condition.
-/
import Derived.Test.YtdpgdnofiepkoaaDoorS8Ref
import Derived.Test.YtdpgdnofiepkoaaDoorOldLd
import Derived.Test.YtdpgdnofiepkoaaDoorEt
namespace Go.Proofs.YtdpgdnofiepkoaaDoor
open Go.RowKit

/-- An entry in memory. -/
def EnAt (w : World) (b : Nat) (p : ByteArray) (k : Int) (d : ByteArray) : Prop := w.heap[b]? = some (.cells #[.string p, .int .i64 k, .string d] 23 (0, 0))
theorem cell_of8 {w : World} {b : Nat} {cs : Array Value} {t : TypeId} (h : w.heap[b]? = some (.cells cs t (0, 0))) {j : Nat} {v : Value} (hj : cs[j]? = some v) : w.cell? ⟨b, j, none⟩ = some v ∧ w.frozen? ⟨b, j, none⟩ = false := by
  simp [World.cell?, World.frozen?, h, hj]
theorem set_of8 {w : World} {b : Nat} {cs : Array Value} {t : TypeId} (h : w.heap[b]? = some (.cells cs t (0, 0))) (j : Nat) (v : Value) : (w.setCell ⟨b, j, none⟩ v).heap[b]? = some (.cells (cs.setIfInBounds j v) t (0, 0)) := by
  simp [World.setCell, Array.getElem?_modify, h]
section
variable {w w' : World} {b : Nat} {p d : ByteArray} {k : Int}
theorem enAt_new (w : World) (p : ByteArray) (k : Int) (d : ByteArray) : EnAt (w.alloc (.cells #[.string p, .int .i64 k, .string d] 23)) w.heap.size p k d := heap_alloc_new _ _
theorem EnAt.lt (h : EnAt w b p k d) : b < w.heap.size := (Array.getElem?_eq_some_iff.1 h).1
theorem EnAt.of (h : EnAt w b p k d) (hb : w'.heap[b]? = w.heap[b]?) : EnAt w' b p k d := hb.trans h
theorem EnAt.below (h : EnAt w b p k d) (hb : Below w.heap.size w w') : EnAt w' b p k d := h.of (hb.block b h.lt)
theorem EnAt.c0 (h : EnAt w b p k d) : w.cell? ⟨b, 0, none⟩ = some (.string p) := (cell_of8 h rfl).1
theorem EnAt.c1 (h : EnAt w b p k d) : w.cell? ⟨b, 1, none⟩ = some (.int .i64 k) := (cell_of8 h rfl).1
theorem EnAt.c2 (h : EnAt w b p k d) : w.cell? ⟨b, 2, none⟩ = some (.string d) := (cell_of8 h rfl).1
theorem EnAt.f0 (h : EnAt w b p k d) : w.frozen? ⟨b, 0, none⟩ = false := (cell_of8 h (j := 0) rfl).2
theorem EnAt.f1 (h : EnAt w b p k d) : w.frozen? ⟨b, 1, none⟩ = false := (cell_of8 h (j := 1) rfl).2
theorem EnAt.f2 (h : EnAt w b p k d) : w.frozen? ⟨b, 2, none⟩ = false := (cell_of8 h (j := 2) rfl).2
theorem EnAt.range (h : EnAt w b p k d) : w.rangeAt b 0 [.string p, .int .i64 k, .string d] := fun j v hv => by
  rw [Nat.zero_add]
  exact (cell_of8 h (by simpa using hv)).1
theorem enSize : (Tryd.prog.info? 23).map (·.size) = some 3 := by kernel_rfl
theorem lv_en (h : EnAt w b p k d) : (loadVar 23 ⟨b, 0, none⟩).run Tryd.prog w = .ok (entV p k d) w :=
  run_loadVar_mid w b 0 23 _ _ h.range Tryd.underlying23 rfl (by rw [enSize]; rfl)
theorem ld_en (h : EnAt w b p k d) : (Instr.loadAt 23 (.pointer (some ⟨b, 0, none⟩))).run Tryd.prog w = .ok (entV p k d) w :=
  run_loadAt_mid w b 0 23 _ _ h.range Tryd.underlying23 rfl (by rw [enSize]; rfl)
/-- What a store of a whole entry leaves. -/
abbrev enSet (w : World) (b : Nat) (p : ByteArray) (k : Int) (d : ByteArray) : World := ((w.setCell ⟨b, 0, none⟩ (.string p)).setCell ⟨b, 1, none⟩ (.int .i64 k)).setCell ⟨b, 2, none⟩ (.string d)
theorem EnAt.set (h : EnAt w b p k d) (p' : ByteArray) (k' : Int) (d' : ByteArray) : EnAt (enSet w b p' k' d') b p' k' d' := by
  have h1 := set_of8 h 0 (.string p')
  have h2 := set_of8 h1 1 (.int .i64 k')
  exact set_of8 h2 2 (.string d')
theorem below_en3 {B : Nat} {a : World} (h : Below B a w) (hb : B ≤ b) (p : ByteArray) (k : Int) (d : ByteArray) : Below B a (enSet w b p k d) := ((h.setCell (p := ⟨b, 0, none⟩) hb _).setCell (p := ⟨b, 1, none⟩) hb _).setCell (p := ⟨b, 2, none⟩) hb _
end
end Go.Proofs.YtdpgdnofiepkoaaDoor
