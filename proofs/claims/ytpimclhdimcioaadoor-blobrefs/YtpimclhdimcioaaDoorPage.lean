/-
  A page (an array of 64 bytes) as a value: it is told by its bytes; two are equal, if these are; its zero; it out of and into memory. No condition.
-/
import Derived.Test.YtpimclhdimcioaaDoorProg
import Derived.WalkKit
import Derived.Stop.BytesEq
import Derived.Deep.MidRow
namespace Go.Proofs.YtpimclhdimcioaaDoor
open Go.RowKit
open Extern.Stop (cell)

/-- The cells of bytes; a page's value. -/
def cellsB (l : List UInt8) : List Value := l.map cell
abbrev pgv (l : List UInt8) : Value := .agg (cellsB l).toArray
theorem cellsB_len (l : List UInt8) : (cellsB l).length = l.length := by simp [cellsB]
theorem cellsB_inj {a b : List UInt8} (h : cellsB a = cellsB b) : a = b := by
  have hi : ∀ x y : UInt8, cell x = cell y → x = y := fun x y e => by
    simp only [cell, Value.int.injEq, true_and] at e
    exact UInt8.toNat_inj.1 (Int.ofNat.inj e)
  exact (List.map_inj_right hi).1 h
theorem cellsB_one (l : List UInt8) : ∀ v ∈ cellsB l, v.oneCell' = true := fun v hv => by
  obtain ⟨x, _, rfl⟩ := List.mem_map.1 hv
  rfl
theorem sizeByte (w : World) : (sizeOf 5).run Tryd.prog w = .ok 1 w := by kernel_rfl
theorem pageSize : (Tryd.prog.info? 40).map (·.size) = some 64 := by kernel_rfl
theorem pageZero (w : World) : (zeroValue 40).run Tryd.prog w = .ok (pgv (List.replicate 64 0)) w := by kernel_rfl
theorem page_eql (w : World) (a b : List UInt8) (ha : a.length = 64) (hb : b.length = 64) : (binOp .eql 40 (pgv a) (pgv b)).run Tryd.prog w = .ok (.bool (a == b)) w :=
  run_eql_bytes w 40 5 64 Tryd.underlying40 Tryd.underlying5 sizeByte a b ha hb
theorem page_neq (w : World) (a b : List UInt8) (ha : a.length = 64) (hb : b.length = 64) : (binOp .neq 40 (pgv a) (pgv b)).run Tryd.prog w = .ok (.bool (!(a == b))) w := by
  show (binOp .neq 40 (.agg _) (.agg _)).run _ _ = _
  rw [run_neq_struct, show (10000 : Nat) = 9998 + 2 from rfl]
  rw [show (Op.equalIn (9998 + 2) 40 (.agg (cellsB a).toArray) (.agg (cellsB b).toArray)).run Tryd.prog w = .ok (a == b) w from run_equalIn_bytes w 9998 40 5 64 Tryd.underlying40 Tryd.underlying5 sizeByte a b ha hb]
  rfl
/-- The zero page's cells: a name that the walk does not open. -/
def zpg : List UInt8 := List.replicate 64 0
def zpc : Array Value := (cellsB zpg).toArray
theorem zpg_len : zpg.length = 64 := List.length_replicate
theorem below_cells {B : Nat} {a w : World} (h : Below B a w) {b : Nat} (hb : B ≤ b) : ∀ (vs : List Value) (o : Nat), Below B a (w.setCells b o vs) := by
  intro vs
  induction vs generalizing w with
  | nil => intro o; exact h
  | cons v r ih => intro o; rw [World.setCells]; exact ih (h.setCell (p := ⟨b, o, none⟩) hb v) (o + 1)
theorem range_new (w : World) (t : TypeId) : (w.alloc (.cells zpc t)).rangeAt w.heap.size 0 (cellsB zpg) ∧ (w.alloc (.cells zpc t)).there w.heap.size 0 64 := by
  have hc : ∀ j v, (cellsB zpg)[j]? = some v → (w.alloc (.cells zpc t)).cell? ⟨w.heap.size, 0 + j, none⟩ = some v := fun j v hv => by
    rw [World.cell?_alloc_at _ _ _ _ rfl, Nat.zero_add]
    unfold zpc
    simpa using hv
  refine ⟨hc, fun j hj => ⟨?_, ?_⟩⟩
  · have hl : j < (cellsB zpg).length := by rw [cellsB_len, zpg_len]; exact hj
    rw [hc j _ (List.getElem?_eq_getElem hl)]
    rfl
  · rw [World.frozen?_alloc_at _ _ _ _ rfl]
theorem there_below {w w' : World} {B b o n : Nat} (h : w.there b o n) (hb : Below B w w') (hB : b < B) : w'.there b o n := fun j hj =>
  ⟨by rw [hb.cell (p := ⟨b, o + j, none⟩) hB]; exact (h j hj).1, by rw [hb.frozen (p := ⟨b, o + j, none⟩) hB]; exact (h j hj).2⟩
end Go.Proofs.YtpimclhdimcioaaDoor
