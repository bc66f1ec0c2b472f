/-
  A page out of and into memory, for the walk: rules that read and write 64 cells at once. No condition.
-/
import Derived.Test.YtpimclhdimcioaaDoorPage
namespace Go.Proofs.YtpimclhdimcioaaDoor
open Go.RowKit

/-- A page lies there; it. -/
def IsPg (w : World) (b o : Nat) : Prop := ∃ l : List UInt8, l.length = 64 ∧ w.rangeAt b o (cellsB l)
noncomputable def pgAt (w : World) (b o : Nat) : List UInt8 := by
  classical
  exact if h : IsPg w b o then h.choose else zpg
theorem range_unique {w : World} {b o : Nat} {l m : List UInt8} (h : w.rangeAt b o (cellsB l)) (k : w.rangeAt b o (cellsB m)) (e : l.length = m.length) : l = m := by
  apply cellsB_inj
  apply List.ext_getElem?
  intro j
  by_cases hj : j < (cellsB l).length
  · have hj2 : j < (cellsB m).length := by rw [cellsB_len] at hj ⊢; omega
    have h1 := h j _ (List.getElem?_eq_getElem hj)
    have h2 := k j _ (List.getElem?_eq_getElem hj2)
    rw [h1] at h2
    rw [List.getElem?_eq_getElem hj, List.getElem?_eq_getElem hj2]
    exact h2
  · rw [List.getElem?_eq_none (by omega), List.getElem?_eq_none (by rw [cellsB_len] at hj ⊢; omega)]
theorem isPg {w : World} {b o : Nat} {l : List UInt8} (h : w.rangeAt b o (cellsB l)) (hl : l.length = 64) : IsPg w b o := ⟨l, hl, h⟩
theorem pgAt_eq {w : World} {b o : Nat} {l : List UInt8} (h : w.rangeAt b o (cellsB l)) (hl : l.length = 64) : pgAt w b o = l := by
  have hp := isPg h hl
  unfold pgAt
  rw [dif_pos hp]
  exact range_unique hp.choose_spec.2 h (hp.choose_spec.1.trans hl.symm)
theorem pgAt_range {w : World} {b o : Nat} (h : IsPg w b o) : w.rangeAt b o (cellsB (pgAt w b o)) ∧ (pgAt w b o).length = 64 := by
  obtain ⟨l, hl, hr⟩ := h
  rw [pgAt_eq hr hl]
  exact ⟨hr, hl⟩
theorem pgSize : (Tryd.prog.info? 40).map (·.size) = some 64 := by kernel_rfl
theorem arrSize : (Tryd.prog.info? 39).map (·.size) = some 64 := by kernel_rfl
theorem ld_pg {w : World} {b o : Nat} (h : IsPg w b o) : (Instr.loadAt 40 (.pointer (some ⟨b, o, none⟩))).run Tryd.prog w = .ok (pgv (pgAt w b o)) w :=
  run_loadAt_mid w b o 40 _ _ (pgAt_range h).1 Tryd.underlying40 rfl (by rw [pgSize, cellsB_len, (pgAt_range h).2])
theorem ld_ar {w : World} {b o : Nat} (h : IsPg w b o) : (Instr.loadAt 39 (.pointer (some ⟨b, o, none⟩))).run Tryd.prog w = .ok (pgv (pgAt w b o)) w :=
  run_loadAt_mid w b o 39 _ _ (pgAt_range h).1 Tryd.underlying39 rfl (by rw [arrSize, cellsB_len, (pgAt_range h).2])
theorem lv_pg {w : World} {b o : Nat} (h : IsPg w b o) : (loadVar 40 ⟨b, o, none⟩).run Tryd.prog w = .ok (pgv (pgAt w b o)) w :=
  run_loadVar_mid w b o 40 _ _ (pgAt_range h).1 Tryd.underlying40 rfl (by rw [pgSize, cellsB_len, (pgAt_range h).2])
theorem lv_ar {w : World} {b o : Nat} (h : IsPg w b o) : (loadVar 39 ⟨b, o, none⟩).run Tryd.prog w = .ok (pgv (pgAt w b o)) w :=
  run_loadVar_mid w b o 39 _ _ (pgAt_range h).1 Tryd.underlying39 rfl (by rw [arrSize, cellsB_len, (pgAt_range h).2])
theorem sv_ar {w : World} {b o : Nat} {l : List UInt8} (h : w.there b o 64) (hl : l.length = 64) : (storeVar 39 ⟨b, o, none⟩ (.agg (cellsB l).toArray)).run Tryd.prog w = .ok () (w.setCells b o (cellsB l)) := by
  have := run_storeVar_mid (P := Tryd.prog) w b o 39 (cellsB l).toArray (by rw [List.size_toArray, cellsB_len, hl]; exact h) (by rw [arrSize, List.size_toArray, cellsB_len, hl]) (all_oneCell_toArray (cellsB_one l))
  rw [show (cellsB l).toArray.toList = cellsB l by simp] at this
  exact this
theorem sv_pg {w : World} {b o : Nat} {l : List UInt8} (h : w.there b o 64) (hl : l.length = 64) : (storeVar 40 ⟨b, o, none⟩ (.agg (cellsB l).toArray)).run Tryd.prog w = .ok () (w.setCells b o (cellsB l)) := by
  have := run_storeVar_mid (P := Tryd.prog) w b o 40 (cellsB l).toArray (by rw [List.size_toArray, cellsB_len, hl]; exact h) (by rw [pgSize, List.size_toArray, cellsB_len, hl]) (all_oneCell_toArray (cellsB_one l))
  rw [show (cellsB l).toArray.toList = cellsB l by simp] at this
  exact this
theorem st_pg {w : World} {b o : Nat} {l : List UInt8} (h : w.there b o 64) (hl : l.length = 64) : (Instr.storeAt 40 (.pointer (some ⟨b, o, none⟩)) (.agg (cellsB l).toArray)).run Tryd.prog w = .ok () (w.setCells b o (cellsB l)) := by
  have := run_storeAt_mid (P := Tryd.prog) w b o 40 (cellsB l).toArray (by rw [List.size_toArray, cellsB_len, hl]; exact h) (by rw [pgSize, List.size_toArray, cellsB_len, hl]) (all_oneCell_toArray (cellsB_one l))
  rw [show (cellsB l).toArray.toList = cellsB l by simp] at this
  exact this
theorem st_ar {w : World} {b o : Nat} {l : List UInt8} (h : w.there b o 64) (hl : l.length = 64) : (Instr.storeAt 39 (.pointer (some ⟨b, o, none⟩)) (.agg (cellsB l).toArray)).run Tryd.prog w = .ok () (w.setCells b o (cellsB l)) := by
  have := run_storeAt_mid (P := Tryd.prog) w b o 39 (cellsB l).toArray (by rw [List.size_toArray, cellsB_len, hl]; exact h) (by rw [arrSize, List.size_toArray, cellsB_len, hl]) (all_oneCell_toArray (cellsB_one l))
  rw [show (cellsB l).toArray.toList = cellsB l by simp] at this
  exact this

/-- Below block x the world W is as w was, and it has as many blocks: a word for rules without side conditions. -/
def Keeps (x : Nat) (w W : World) : Prop := Below x w W ∧ x ≤ W.heap.size
theorem keeps_self {x : Nat} {w : World} (h : x ≤ w.heap.size) : Keeps x w w := ⟨Below.refl _ _, h⟩
theorem keeps_drew {x : Nat} {w W : World} (h : Keeps x w W) : Keeps x w W.drew := ⟨h.1.drew, h.2⟩
theorem keeps_alloc {x : Nat} {w W : World} (h : Keeps x w W) (o : Obj) : Keeps x w (W.alloc o) := ⟨h.1.alloc h.2 o, by simpa using Nat.le_succ_of_le h.2⟩
theorem keeps_grown {x : Nat} {w W w' : World} {row : Option Nat} (h : Keeps x w W) (hg : W.grownBy w' row) (hr : ∀ k, row = some k → x ≤ k) : Keeps x w w' := ⟨h.1.grown hg h.2 hr, Nat.le_trans h.2 hg.size⟩
theorem keeps_pg {x b o : Nat} {w W : World} {l : List UInt8} (h : w.rangeAt b o (cellsB l)) (hl : l.length = 64) (hb : b < x) (k : Keeps x w W) : IsPg W b o ∧ pgAt W b o = l := by
  have hr : W.rangeAt b o (cellsB l) := fun j v hv => (k.1.cell (p := ⟨b, o + j, none⟩) hb).trans (h j v hv)
  exact ⟨isPg hr hl, pgAt_eq hr hl⟩
/-- The same of a pointer's value, whatever term it is yet. -/
def IsPgV (w : World) : Value → Prop
  | .pointer (some ⟨b, o, none⟩) => IsPg w b o
  | _ => False
noncomputable def pgAtV (w : World) : Value → List UInt8
  | .pointer (some ⟨b, o, none⟩) => pgAt w b o
  | _ => zpg
def ThereV (w : World) : Value → Prop
  | .pointer (some ⟨b, o, none⟩) => w.there b o 64
  | _ => False
/-- A page's value. -/
def IsPv (u : Value) : Prop := ∃ l : List UInt8, l.length = 64 ∧ u = .agg (cellsB l).toArray
def cellsV : Value → List Value
  | .agg cs => cs.toList
  | _ => []
def setV (w : World) (v u : Value) : World := match v with
  | .pointer (some ⟨b, o, none⟩) => w.setCells b o (cellsV u)
  | _ => w
theorem isPgV_ptr (w : World) (b o : Nat) : IsPgV w (.pointer (some ⟨b, o, none⟩)) = IsPg w b o := rfl
theorem pgAtV_ptr (w : World) (b o : Nat) : pgAtV w (.pointer (some ⟨b, o, none⟩)) = pgAt w b o := rfl
theorem thereV_ptr (w : World) (b o : Nat) : ThereV w (.pointer (some ⟨b, o, none⟩)) = w.there b o 64 := rfl
theorem isPv_agg {l : List UInt8} (h : l.length = 64) : IsPv (.agg (cellsB l).toArray) := ⟨l, h, rfl⟩
theorem cellsV_agg (l : List UInt8) : cellsV (.agg (cellsB l).toArray) = cellsB l := by simp [cellsV]
theorem setV_ptr (w : World) (b o : Nat) (u : Value) : setV w (.pointer (some ⟨b, o, none⟩)) u = w.setCells b o (cellsV u) := rfl
theorem ldv_pg {w : World} {v : Value} (h : IsPgV w v) : (Instr.loadAt 40 v).run Tryd.prog w = .ok (.agg (cellsB (pgAtV w v)).toArray) w := by
  match v, h with
  | .pointer (some ⟨b, o, none⟩), h => exact ld_pg h
theorem ldv_ar {w : World} {v : Value} (h : IsPgV w v) : (Instr.loadAt 39 v).run Tryd.prog w = .ok (.agg (cellsB (pgAtV w v)).toArray) w := by
  match v, h with
  | .pointer (some ⟨b, o, none⟩), h => exact ld_ar h
theorem stv_pg {w : World} {v u : Value} (h : ThereV w v) (hu : IsPv u) : (Instr.storeAt 40 v u).run Tryd.prog w = .ok () (setV w v u) := by
  obtain ⟨l, hl, rfl⟩ := hu
  match v, h with
  | .pointer (some ⟨b, o, none⟩), h => rw [setV_ptr, cellsV_agg]; exact st_pg h hl
theorem stv_ar {w : World} {v u : Value} (h : ThereV w v) (hu : IsPv u) : (Instr.storeAt 39 v u).run Tryd.prog w = .ok () (setV w v u) := by
  obtain ⟨l, hl, rfl⟩ := hu
  match v, h with
  | .pointer (some ⟨b, o, none⟩), h => rw [setV_ptr, cellsV_agg]; exact st_ar h hl
theorem ldw_pg {d : Option Tmp} {ty : TypeId} {pos : String} {af : Array Edge} {g : Option (Nat × Bool)} {x : Operand} {a : Act} {w : World} {K : Act → World → Prop} {Q : Exit → Act → World → Prop} (h : IsPgV w (a.eval x)) :
    Oper.wp Tryd.prog { dst := d, op := .load 40 x, type := ty, pos := pos, after := af, guard := g } a w K Q = K (a.put d (.agg (cellsB (pgAtV w (a.eval x))).toArray)) w := by
  unfold Oper.wp execOp
  simp only [Sem.run_bind, Sem.run_pure, Result.andThen_ok, ldv_pg h]
  rfl
theorem stw_pg {d : Option Tmp} {ty : TypeId} {pos : String} {af : Array Edge} {g : Option (Nat × Bool)} {x y : Operand} {a : Act} {w : World} {K : Act → World → Prop} {Q : Exit → Act → World → Prop} (h : ThereV w (a.eval x)) (hu : IsPv (a.eval y)) :
    Oper.wp Tryd.prog { dst := d, op := .store 40 x y, type := ty, pos := pos, after := af, guard := g } a w K Q = K (a.put d undef) (setV w (a.eval x) (a.eval y)) := by
  unfold Oper.wp execOp
  simp only [Sem.run_bind, Sem.run_pure, Result.andThen_ok, stv_pg h hu]
  rfl
theorem ldw_ar {d : Option Tmp} {ty : TypeId} {pos : String} {af : Array Edge} {g : Option (Nat × Bool)} {x : Operand} {a : Act} {w : World} {K : Act → World → Prop} {Q : Exit → Act → World → Prop} (h : IsPgV w (a.eval x)) :
    Oper.wp Tryd.prog { dst := d, op := .load 39 x, type := ty, pos := pos, after := af, guard := g } a w K Q = K (a.put d (.agg (cellsB (pgAtV w (a.eval x))).toArray)) w := by
  unfold Oper.wp execOp
  simp only [Sem.run_bind, Sem.run_pure, Result.andThen_ok, ldv_ar h]
  rfl
theorem stw_ar {d : Option Tmp} {ty : TypeId} {pos : String} {af : Array Edge} {g : Option (Nat × Bool)} {x y : Operand} {a : Act} {w : World} {K : Act → World → Prop} {Q : Exit → Act → World → Prop} (h : ThereV w (a.eval x)) (hu : IsPv (a.eval y)) :
    Oper.wp Tryd.prog { dst := d, op := .store 39 x y, type := ty, pos := pos, after := af, guard := g } a w K Q = K (a.put d undef) (setV w (a.eval x) (a.eval y)) := by
  unfold Oper.wp execOp
  simp only [Sem.run_bind, Sem.run_pure, Result.andThen_ok, stv_ar h hu]
  rfl
end Go.Proofs.YtpimclhdimcioaaDoor
