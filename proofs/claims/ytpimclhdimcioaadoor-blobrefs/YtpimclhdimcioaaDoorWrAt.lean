/-
  A write that isn't firm (a struct of a bit's number and a page) out of and into memory, for the walk: rules that read and write 65 cells at once; new blocks of such, and of pages, by a name. No condition.
-/
import Derived.Test.YtpimclhdimcioaaDoorPgAt
namespace Go.Proofs.YtpimclhdimcioaaDoor
open Go.RowKit

/-- A write's cells: its bit, its page. -/
def wCells (x : Int × List UInt8) : List Value := .int .i64 x.1 :: cellsB x.2
theorem wCells_len {x : Int × List UInt8} (h : x.2.length = 64) : (wCells x).length = 65 := by simp [wCells, cellsB_len, h]
theorem wCells_inj {x y : Int × List UInt8} (h : wCells x = wCells y) : x = y := by
  unfold wCells at h
  injection h with h1 h2
  injection h1 with _ h1
  exact Prod.ext h1 (cellsB_inj h2)
theorem wCells_one (x : Int × List UInt8) : ∀ v ∈ wCells x, v.oneCell' = true := fun v hv => by
  rcases List.mem_cons.1 hv with rfl | hv
  · rfl
  · exact cellsB_one _ v hv
theorem wrSize : (Tryd.prog.info? 70).map (·.size) = some 65 := by kernel_rfl
/-- A write lies there; it. -/
def IsWr (w : World) (b o : Nat) : Prop := ∃ x : Int × List UInt8, x.2.length = 64 ∧ w.rangeAt b o (wCells x)
noncomputable def wrAt (w : World) (b o : Nat) : Int × List UInt8 := by
  classical
  exact if h : IsWr w b o then h.choose else (0, zpg)
theorem wr_unique {w : World} {b o : Nat} {x y : Int × List UInt8} (h : w.rangeAt b o (wCells x)) (k : w.rangeAt b o (wCells y)) (e : x.2.length = y.2.length) : x = y := by
  apply wCells_inj
  apply List.ext_getElem?
  intro j
  have hl : (wCells x).length = (wCells y).length := by simp [wCells, cellsB_len, e]
  by_cases hj : j < (wCells x).length
  · have hj2 : j < (wCells y).length := by omega
    have h1 := h j _ (List.getElem?_eq_getElem hj)
    have h2 := k j _ (List.getElem?_eq_getElem hj2)
    rw [h1] at h2
    rw [List.getElem?_eq_getElem hj, List.getElem?_eq_getElem hj2]
    exact h2
  · rw [List.getElem?_eq_none (by omega), List.getElem?_eq_none (by omega)]
theorem isWr {w : World} {b o : Nat} {x : Int × List UInt8} (h : w.rangeAt b o (wCells x)) (hl : x.2.length = 64) : IsWr w b o := ⟨x, hl, h⟩
theorem wrAt_eq {w : World} {b o : Nat} {x : Int × List UInt8} (h : w.rangeAt b o (wCells x)) (hl : x.2.length = 64) : wrAt w b o = x := by
  have hp := isWr h hl
  unfold wrAt
  rw [dif_pos hp]
  exact wr_unique hp.choose_spec.2 h (hp.choose_spec.1.trans hl.symm)
theorem wrAt_range {w : World} {b o : Nat} (h : IsWr w b o) : w.rangeAt b o (wCells (wrAt w b o)) ∧ (wrAt w b o).2.length = 64 := by
  obtain ⟨l, hl, hr⟩ := h
  rw [wrAt_eq hr hl]
  exact ⟨hr, hl⟩
theorem ld_wr {w : World} {b o : Nat} (h : IsWr w b o) : (Instr.loadAt 70 (.pointer (some ⟨b, o, none⟩))).run Tryd.prog w = .ok (.agg (wCells (wrAt w b o)).toArray) w :=
  run_loadAt_mid w b o 70 _ _ (wrAt_range h).1 Tryd.underlying70 rfl (by rw [wrSize, wCells_len (wrAt_range h).2])
theorem st_wr {w : World} {b o : Nat} {x : Int × List UInt8} (h : w.there b o 65) (hl : x.2.length = 64) : (Instr.storeAt 70 (.pointer (some ⟨b, o, none⟩)) (.agg (wCells x).toArray)).run Tryd.prog w = .ok () (w.setCells b o (wCells x)) := by
  have := run_storeAt_mid (P := Tryd.prog) w b o 70 (wCells x).toArray (by rw [List.size_toArray, wCells_len hl]; exact h) (by rw [wrSize, List.size_toArray, wCells_len hl]) (all_oneCell_toArray (wCells_one x))
  rw [show (wCells x).toArray.toList = wCells x by simp] at this
  exact this
def IsWrV (w : World) : Value → Prop
  | .pointer (some ⟨b, o, none⟩) => IsWr w b o
  | _ => False
noncomputable def wrAtV (w : World) : Value → Int × List UInt8
  | .pointer (some ⟨b, o, none⟩) => wrAt w b o
  | _ => (0, zpg)
def ThereW (w : World) : Value → Prop
  | .pointer (some ⟨b, o, none⟩) => w.there b o 65
  | _ => False
def IsWv (u : Value) : Prop := ∃ x : Int × List UInt8, x.2.length = 64 ∧ u = .agg (wCells x).toArray
theorem isWrV_ptr (w : World) (b o : Nat) : IsWrV w (.pointer (some ⟨b, o, none⟩)) = IsWr w b o := rfl
theorem wrAtV_ptr (w : World) (b o : Nat) : wrAtV w (.pointer (some ⟨b, o, none⟩)) = wrAt w b o := rfl
theorem thereW_ptr (w : World) (b o : Nat) : ThereW w (.pointer (some ⟨b, o, none⟩)) = w.there b o 65 := rfl
theorem isWv_agg {x : Int × List UInt8} (h : x.2.length = 64) : IsWv (.agg (wCells x).toArray) := ⟨x, h, rfl⟩
theorem cellsV_wr (x : Int × List UInt8) : cellsV (.agg (wCells x).toArray) = wCells x := by simp [cellsV]
theorem ldw_wr {d : Option Tmp} {ty : TypeId} {pos : String} {af : Array Edge} {g : Option (Nat × Bool)} {x : Operand} {a : Act} {w : World} {K : Act → World → Prop} {Q : Exit → Act → World → Prop} (h : IsWrV w (a.eval x)) :
    Oper.wp Tryd.prog { dst := d, op := .load 70 x, type := ty, pos := pos, after := af, guard := g } a w K Q = K (a.put d (.agg (wCells (wrAtV w (a.eval x))).toArray)) w := by
  have hl : (Instr.loadAt 70 (a.eval x)).run Tryd.prog w = .ok (.agg (wCells (wrAtV w (a.eval x))).toArray) w := by
    match a.eval x, h with
    | .pointer (some ⟨b, o, none⟩), h => exact ld_wr h
  unfold Oper.wp execOp
  simp only [Sem.run_bind, Sem.run_pure, Result.andThen_ok, hl]
  rfl
theorem stw_wr {d : Option Tmp} {ty : TypeId} {pos : String} {af : Array Edge} {g : Option (Nat × Bool)} {x y : Operand} {a : Act} {w : World} {K : Act → World → Prop} {Q : Exit → Act → World → Prop} (h : ThereW w (a.eval x)) (hu : IsWv (a.eval y)) :
    Oper.wp Tryd.prog { dst := d, op := .store 70 x y, type := ty, pos := pos, after := af, guard := g } a w K Q = K (a.put d undef) (setV w (a.eval x) (a.eval y)) := by
  have hl : (Instr.storeAt 70 (a.eval x) (a.eval y)).run Tryd.prog w = .ok () (setV w (a.eval x) (a.eval y)) := by
    obtain ⟨l, hl, e⟩ := hu
    rw [e]
    match a.eval x, h with
    | .pointer (some ⟨b, o, none⟩), h => rw [setV_ptr, cellsV_wr]; exact st_wr h hl
  unfold Oper.wp execOp
  simp only [Sem.run_bind, Sem.run_pure, Result.andThen_ok, hl]
  rfl

/-- New blocks, by a name that the walk does not open. -/
def zwc : Array Value := (wCells (0, zpg)).toArray
theorem alw_wr {d : Option Tmp} {ty : TypeId} {pos : String} {af : Array Edge} {g : Option (Nat × Bool)} {a : Act} {w : World} {K : Act → World → Prop} {Q : Exit → Act → World → Prop} :
    Oper.wp Tryd.prog { dst := d, op := .alloc 70, type := ty, pos := pos, after := af, guard := g } a w K Q = K (a.put d (.pointer (some ⟨w.heap.size, 0, none⟩))) (w.alloc (.cells zwc 70)) := by
  have h : (Instr.alloc 70 true (.tuple #[])).run Tryd.prog w = .ok (.pointer (some ⟨w.heap.size, 0, none⟩)) (w.alloc (.cells zwc 70)) := by kernel_rfl
  unfold Oper.wp execOp
  simp only [Sem.run_bind, Sem.run_pure, Result.andThen_ok, h]
  rfl
theorem alw_pg {d : Option Tmp} {ty : TypeId} {pos : String} {af : Array Edge} {g : Option (Nat × Bool)} {a : Act} {w : World} {K : Act → World → Prop} {Q : Exit → Act → World → Prop} :
    Oper.wp Tryd.prog { dst := d, op := .alloc 40, type := ty, pos := pos, after := af, guard := g } a w K Q = K (a.put d (.pointer (some ⟨w.heap.size, 0, none⟩))) (w.alloc (.cells zpc 40)) := by
  have h : (Instr.alloc 40 true (.tuple #[])).run Tryd.prog w = .ok (.pointer (some ⟨w.heap.size, 0, none⟩)) (w.alloc (.cells zpc 40)) := by kernel_rfl
  unfold Oper.wp execOp
  simp only [Sem.run_bind, Sem.run_pure, Result.andThen_ok, h]
  rfl
theorem there_cells (w : World) (N : Nat) (hN : N = w.heap.size) (cs : Array Value) (t : TypeId) : (w.alloc (.cells cs t)).there N 0 cs.size := fun j hj => by
  rw [World.cell?_alloc_at _ _ _ _ hN, World.frozen?_alloc_at _ _ _ _ hN, Nat.zero_add]
  exact ⟨by rw [Array.getElem?_eq_getElem hj]; rfl, rfl⟩
theorem zwc_size : zwc.size = 65 := by simp [zwc, wCells, cellsB_len, zpg_len]
theorem zpc_size : zpc.size = 64 := by simp [zpc, cellsB_len, zpg_len]
theorem there_zw (w : World) (t : TypeId) : (w.alloc (.cells zwc t)).there w.heap.size 0 65 := zwc_size ▸ there_cells w _ rfl zwc t
theorem there_zp (w : World) (t : TypeId) : (w.alloc (.cells zpc t)).there w.heap.size 0 64 := zpc_size ▸ there_cells w _ rfl zpc t
theorem range_cells (w : World) (N : Nat) (hN : N = w.heap.size) (cs : List Value) (t : TypeId) : (w.alloc (.cells cs.toArray t)).rangeAt N 0 cs := fun j v hv => by
  rw [World.cell?_alloc_at _ _ _ _ hN, Nat.zero_add]
  simpa using hv
/-- A new block that is filled at once. -/
theorem setCells_list (w : World) (N : Nat) (hN : N = w.heap.size) (t : TypeId) : ∀ (vs pre old : List Value), old.length = vs.length → (w.alloc (.cells (pre ++ old).toArray t)).setCells N pre.length vs = w.alloc (.cells (pre ++ vs).toArray t)
  | [], pre, [], _ => rfl
  | v :: vs, pre, u :: old, h => by
    rw [World.setCells, World.setCell_alloc_at _ _ _ _ _ hN]
    have e : ((pre ++ u :: old).toArray.setIfInBounds pre.length v) = ((pre ++ [v]) ++ old).toArray := by
      apply Array.ext'
      simp
    have := setCells_list w N hN t vs (pre ++ [v]) old (by simpa using h)
    rw [List.length_append, List.length_singleton] at this
    rw [e, this]
    simp
  | [], _, _ :: _, h => by simp at h
  | _ :: _, _, [], h => by simp at h
theorem set_new {w : World} {N : Nat} (hN : N = w.heap.size) {t : TypeId} {cs : Array Value} {vs : List Value} (h : cs.size = vs.length) : (w.alloc (.cells cs t)).setCells N 0 vs = w.alloc (.cells vs.toArray t) := by
  have := setCells_list w N hN t vs [] cs.toList (by simpa using h)
  simpa using this
theorem set_zw {w : World} {N : Nat} (hN : N = w.heap.size) {t : TypeId} {x : Int × List UInt8} (h : x.2.length = 64) : (w.alloc (.cells zwc t)).setCells N 0 (wCells x) = w.alloc (.cells (wCells x).toArray t) := set_new hN (by rw [zwc_size, wCells_len h])
theorem set_zp {w : World} {N : Nat} (hN : N = w.heap.size) {t : TypeId} {l : List UInt8} (h : l.length = 64) : (w.alloc (.cells zpc t)).setCells N 0 (cellsB l) = w.alloc (.cells (cellsB l).toArray t) := set_new hN (by rw [zpc_size, cellsB_len, h])
theorem isWr_new (w : World) (N : Nat) (hN : N = w.heap.size) (t : TypeId) {x : Int × List UInt8} (h : x.2.length = 64) : IsWr (w.alloc (.cells (wCells x).toArray t)) N 0 ∧ wrAt (w.alloc (.cells (wCells x).toArray t)) N 0 = x :=
  ⟨isWr (range_cells w N hN _ t) h, wrAt_eq (range_cells w N hN _ t) h⟩
theorem isPg_new (w : World) (N : Nat) (hN : N = w.heap.size) (t : TypeId) {l : List UInt8} (h : l.length = 64) : IsPg (w.alloc (.cells (cellsB l).toArray t)) N 0 ∧ pgAt (w.alloc (.cells (cellsB l).toArray t)) N 0 = l :=
  ⟨isPg (range_cells w N hN _ t) h, pgAt_eq (range_cells w N hN _ t) h⟩
/-- A page inside a write. -/
theorem page_in {w : World} {b o : Nat} {x : Int × List UInt8} (h : w.rangeAt b o (wCells x)) : w.rangeAt b (o + 1) (cellsB x.2) := fun j v hv => by
  have := h (j + 1) v (by simpa [wCells] using hv)
  rwa [show o + 1 + j = o + (j + 1) by omega]
theorem bit_in {w : World} {b o : Nat} {x : Int × List UInt8} (h : w.rangeAt b o (wCells x)) : w.cell? ⟨b, o, none⟩ = some (.int .i64 x.1) := h 0 _ rfl
end Go.Proofs.YtpimclhdimcioaaDoor
