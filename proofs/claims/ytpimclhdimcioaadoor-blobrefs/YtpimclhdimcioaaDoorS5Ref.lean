/-
  The contract of the document's own Read of a disk (package shaleref05): the last page written there. Condition: the disk's lists lie in memory.
-/
import Derived.Test.YtpimclhdimcioaaDoorPgAt
import Derived.Test.YtpimclhdimcioaaDoorRowN
import Derived.Test.YtpimclhdimcioaaDoorRowOf
import Derived.Lib.Hide
import Derived.Deep.LoopGhost
namespace Go.Proofs.YtpimclhdimcioaaDoor
open Go.RowKit

theorem alloc_ar (w : World) : (Instr.alloc 39 true (.tuple #[])).run Tryd.prog w = .ok (.pointer (some ⟨w.heap.size, 0, none⟩)) (w.alloc (.cells zpc 39)) := by kernel_rfl
theorem arSize : (Tryd.prog.info? 39).map (·.size) = some 64 := by kernel_rfl
theorem load_ar {w : World} {b o : Nat} {l : List UInt8} (h : w.rangeAt b o (cellsB l)) (hl : l.length = 64) : (Instr.loadAt 39 (.pointer (some ⟨b, o, none⟩))).run Tryd.prog w = .ok (pgv l) w :=
  run_loadAt_mid w b o 39 (cellsB l) _ h Tryd.underlying39 rfl (by rw [arSize, cellsB_len, hl])
theorem store_ar {w : World} {b o : Nat} {l : List UInt8} (h : w.there b o 64) (hl : l.length = 64) : (Instr.storeAt 39 (.pointer (some ⟨b, o, none⟩)) (pgv l)).run Tryd.prog w = .ok () (w.setCells b o (cellsB l)) := by
  have := run_storeAt_mid (P := Tryd.prog) w b o 39 (cellsB l).toArray (by rw [List.size_toArray, cellsB_len, hl]; exact h) (by rw [arSize, List.size_toArray, cellsB_len, hl]) (all_oneCell_toArray (cellsB_one l))
  rw [show (cellsB l).toArray.toList = cellsB l by simp] at this
  exact this

theorem load_var {w : World} {b o : Nat} {l : List UInt8} (h : w.rangeAt b o (cellsB l)) (hl : l.length = 64) : (loadVar 39 ⟨b, o, none⟩).run Tryd.prog w = .ok (pgv l) w :=
  run_loadVar_mid w b o 39 (cellsB l) _ h Tryd.underlying39 rfl (by rw [arSize, cellsB_len, hl])
theorem results_cell {fn : Func} {p : Tmp} {ty : TypeId} (h : fn.results = #[.cell p ty]) (tmps : Array Value) (P : Program) (w : World) :
    (results fn tmps).run P w = ((asAddr (tmps.getD p undef)).run P w).andThen fun a w₁ => (loadVar ty a).run P w₁ := by
  simp only [results, h]
  simp [Sem.run_bind, Result.andThen]
theorem wl_load_ar {ops : Array Oper} {rest : List Oper} {op : Oper} {a : Act} {w : World} {Q : Exit → Act → World → Prop} (hgd : op.guard = none) (x : Operand) (ho : op.op = .load 39 x) (b o : Nat) (hx : a.eval x = .pointer (some ⟨b, o, none⟩)) {l : List UInt8} (hc : w.rangeAt b o (cellsB l)) (hl : l.length = 64)
    (h : wpList Tryd.prog ops Q rest (a.put op.dst (pgv l)) w) : wpList Tryd.prog ops Q (op :: rest) a w :=
  wpList_load_mid hgd 39 x ho b o hx (cellsB l) _ hc Tryd.underlying39 rfl (by rw [arSize, cellsB_len, hl]) h
theorem wl_store_ar {ops : Array Oper} {rest : List Oper} {op : Oper} {a : Act} {w : World} {Q : Exit → Act → World → Prop} (hgd : op.guard = none) (x y : Operand) (ho : op.op = .store 39 x y) (b o : Nat) (hx : a.eval x = .pointer (some ⟨b, o, none⟩)) {l : List UInt8} (hy : a.eval y = pgv l) (hc : w.there b o 64) (hl : l.length = 64)
    (h : wpList Tryd.prog ops Q rest (a.put op.dst undef) (w.setCells b o (cellsB l))) : wpList Tryd.prog ops Q (op :: rest) a w := by
  refine wpList_store_mid hgd 39 x y ho b o (cellsB l).toArray hx hy (by rw [List.size_toArray, cellsB_len, hl]; exact hc) (by rw [arSize, List.size_toArray, cellsB_len, hl]) (all_oneCell_toArray (cellsB_one l)) ?_
  rw [show (cellsB l).toArray.toList = cellsB l by simp]
  exact h

/-- What stands at i: the last of the writes there. -/
def lastP (L : List (Int × List UInt8)) (i : Int) : List UInt8 := L.foldl (fun p x => if x.1 = i then x.2 else p) zpg
theorem lastP_snoc (L : List (Int × List UInt8)) (x : Int × List UInt8) (i : Int) : lastP (L ++ [x]) i = if x.1 = i then x.2 else lastP L i := by simp [lastP]
theorem lastP_len (L : List (Int × List UInt8)) (i : Int) (h : ∀ x ∈ L, x.2.length = 64) : (lastP L i).length = 64 := by
  unfold lastP
  have : ∀ (L : List (Int × List UInt8)) (p : List UInt8), p.length = 64 → (∀ x ∈ L, x.2.length = 64) → (L.foldl (fun p x => if x.1 = i then x.2 else p) p).length = 64 := by
    intro L
    induction L with
    | nil => intro p hp _; exact hp
    | cons x r ih =>
      intro p hp h
      refine ih _ ?_ fun y hy => h y (List.mem_cons_of_mem _ hy)
      dsimp only
      split
      · exact h x List.mem_cons_self
      · exact hp
  exact this L zpg zpg_len h

attribute [local go_sem ↓] ldw_ar stw_ar
attribute [local go_sem] isPgV_ptr pgAtV_ptr thereV_ptr setV_ptr cellsV_agg
end Go.Proofs.YtpimclhdimcioaaDoor
