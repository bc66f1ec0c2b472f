/-
  The contract of package blob's page: the sector that a text begins with, zero bytes behind a shorter one; copy out of a text into an array of 64 bytes. No condition.
-/
import Derived.Test.YtpimclhdimcioaaDoorS7Math
import Derived.Test.YtpimclhdimcioaaDoorS5Read
import Derived.Laws.CopyRow
import Derived.Lib.LazyBuf
namespace Go.Proofs.YtpimclhdimcioaaDoor
open Go.RowKit
open Extern.Stop (cell)

theorem run_copy_pg (w : World) (ty : TypeId) (g : Nat) (s : ByteArray) (h : w.there g 0 64) :
    (Builtin.copy_ #[63, 9] ty #[.slice (some ⟨g, 0, none⟩) 64 64, .string s]).run Tryd.prog w = .ok (goInt (Nat.min s.size 64)) (w.setCells g 0 (cellsB (s.data.toList.take 64))) := by
  have hl : (cellsB (s.data.toList.take 64)).length ≤ 64 := by rw [cellsB_len, List.length_take]; omega
  have hst := run_storeCells_cells (P := Tryd.prog) g 0 (cellsB (s.data.toList.take 64)) 0 w (fun j hj => by simpa using (h j (by omega)).1) (fun j hj => by simpa using (h j (by omega)).2) (cellsB_one _)
  have ht : (List.map (fun b : UInt8 => Value.int .u8 (b.toNat : Int)) s.data.toList).take (Nat.min s.size 64) = cellsB (s.data.toList.take 64) := by
    unfold cellsB
    rw [← List.map_take]
    congr 1
    rw [Lib.size_eq]
    by_cases hs : s.data.toList.length ≤ 64
    · rw [show Nat.min s.data.toList.length 64 = s.data.toList.length from Nat.min_eq_left hs, List.take_of_length_le hs, List.take_of_length_le (Nat.le_refl _)]
    · rw [show Nat.min s.data.toList.length 64 = 64 from Nat.min_eq_right (by omega)]
  simp [Builtin.copy_, run_underlying Tryd.underlying63, Builtin.lenOf, Builtin.firstCells]
  rw [ht, hst]
  rfl
/-- A slice of 64 cells that may be written; a text's value. -/
def There64 (w : World) : Value → Prop
  | .slice (some ⟨g, 0, none⟩) 64 64 => w.there g 0 64
  | _ => False
def IsStrV : Value → Prop
  | .string _ => True
  | _ => False
def strV : Value → ByteArray
  | .string s => s
  | _ => ⟨#[]⟩
def cpV (w : World) (v : Value) (s : ByteArray) : World := match v with
  | .slice (some ⟨g, _, none⟩) _ _ => w.setCells g 0 (cellsB (s.data.toList.take 64))
  | _ => w
theorem there64_s (w : World) (g : Nat) : There64 w (.slice (some ⟨g, 0, none⟩) 64 64) = w.there g 0 64 := rfl
theorem isStrV_s (s : ByteArray) : IsStrV (.string s) = True := rfl
theorem strV_s (s : ByteArray) : strV (.string s) = s := rfl
theorem cpV_s (w : World) (g : Nat) (s : ByteArray) : cpV w (.slice (some ⟨g, 0, none⟩) 64 64) s = w.setCells g 0 (cellsB (s.data.toList.take 64)) := rfl
theorem cpw_pg {d : Option Tmp} {ty : TypeId} {pos : String} {af : Array Edge} {g : Option (Nat × Bool)} {x y : Operand} {a : Act} {w : World} {K : Act → World → Prop} {Q : Exit → Act → World → Prop} (hx : There64 w (a.eval x)) (hy : IsStrV (a.eval y)) :
    Oper.wp Tryd.prog { dst := d, op := .call { callee := .builtin .copy, args := #[x, y], argTypes := #[63, 9] }, type := ty, pos := pos, after := af, guard := g } a w K Q = K (a.put d (goInt (Nat.min (strV (a.eval y)).size 64))) (cpV w (a.eval x) (strV (a.eval y))) := by
  have h : (Builtin.copy_ #[63, 9] ty #[a.eval x, a.eval y]).run Tryd.prog w = .ok (goInt (Nat.min (strV (a.eval y)).size 64)) (cpV w (a.eval x) (strV (a.eval y))) := by
    match a.eval x, hx, a.eval y, hy with
    | .slice (some ⟨g, 0, none⟩) 64 64, hx, .string s, _ => exact run_copy_pg w ty g s hx
  unfold Oper.wp execOp
  simp only [resolve, invoke, builtin, Sem.run_bind, Sem.run_pure, Result.andThen_ok, List.map_toArray, List.map_cons, List.map_nil, h]
  rfl
theorem setCells_part (w : World) (N : Nat) (hN : N = w.heap.size) (t : TypeId) (post : List Value) : ∀ (vs pre old : List Value), old.length = vs.length → (w.alloc (.cells (pre ++ old ++ post).toArray t)).setCells N pre.length vs = w.alloc (.cells (pre ++ vs ++ post).toArray t)
  | [], pre, [], _ => rfl
  | v :: vs, pre, u :: old, h => by
    rw [World.setCells, World.setCell_alloc_at _ _ _ _ _ hN]
    have e : ((pre ++ u :: old ++ post).toArray.setIfInBounds pre.length v) = ((pre ++ [v]) ++ old ++ post).toArray := by
      apply Array.ext'
      simp
    have := setCells_part w N hN t post vs (pre ++ [v]) old (by simpa using h)
    rw [List.length_append, List.length_singleton] at this
    rw [e, this]
    simp
  | [], _, _ :: _, h => by simp at h
  | _ :: _, _, [], h => by simp at h
theorem copy_zp {w : World} {N : Nat} (hN : N = w.heap.size) (t : TypeId) (l : List UInt8) : (w.alloc (.cells zpc t)).setCells N 0 (cellsB (l.take 64)) = w.alloc (.cells (cellsB (fl l 64)).toArray t) := by
  have h := setCells_part w N hN t (cellsB (List.replicate (64 - l.length) 0)) (cellsB (l.take 64)) [] (cellsB (List.replicate (min 64 l.length) 0)) (by rw [cellsB_len, cellsB_len, List.length_replicate, List.length_take])
  have e : zpc = ([] ++ cellsB (List.replicate (min 64 l.length) 0) ++ cellsB (List.replicate (64 - l.length) 0)).toArray := by
    unfold zpc zpg
    rw [List.nil_append, cellsB, cellsB, cellsB, ← List.map_append, List.replicate_append_replicate]
    congr 3
    omega
  rw [e]
  rw [show (List.length ([] : List Value)) = 0 from rfl] at h
  rw [h, fl, List.nil_append, cellsB, cellsB, cellsB, ← List.map_append]
attribute [local go_sem ↓] ldw_pg stw_pg alw_pg cpw_pg
attribute [local go_sem] isPgV_ptr pgAtV_ptr thereV_ptr setV_ptr cellsV_agg there64_s isStrV_s strV_s cpV_s
set_option maxRecDepth 10000 in
set_option maxHeartbeats 1000000 in
theorem page_any (s : ByteArray) (w : World) : Calls Tryd.prog 25 #[.string s] w fun e w' => e = .returned (pgv (fl s.data.toList 64)) ∧ Below w.heap.size w w' := by
  have hl : (fl s.data.toList 64).length = 64 := fl_len _ _
  obtain ⟨W, hW⟩ : ∃ W, w.alloc (.cells zpc 40) = W := ⟨_, rfl⟩
  have HB := Lib.hid (show Below w.heap.size w W by rw [← hW]; exact (Below.refl _ _).alloc (Nat.le_refl _) _)
  have hN : w.heap.size < W.heap.size := by rw [← hW]; simp
  have ht := there_zp W 40
  have hc := copy_zp (w := W) (N := W.heap.size) rfl 40 s.data.toList
  obtain ⟨V, hV⟩ : ∃ V, W.alloc (.cells (cellsB (fl s.data.toList 64)).toArray 40) = V := ⟨_, rfl⟩
  have p := isPg_new W W.heap.size rfl 40 hl
  have hb2 : Below W.heap.size W V := by rw [← hV]; exact (Below.refl _ _).alloc (Nat.le_refl _) _
  have q4 : V.there w.heap.size 0 64 := there_below (hW ▸ there_zp w 40) hb2 hN
  rw [hV] at hc p
  obtain ⟨p1, p2⟩ := p
  have HB2 := Lib.hid (HB.out.trans (hb2.mono (Nat.le_of_lt hN)))
  have q3 := isPv_agg hl
  clear hV hb2
  go_enter Tryd.func25, Tryd.ntmps25
  go_wp2
  have hrg := World.rangeAt_setCells_same V w.heap.size 0 (cellsB (fl s.data.toList 64)) (by rw [cellsB_len, hl]; exact q4)
  have hld := lv_pg (isPg hrg hl)
  rw [pgAt_eq hrg hl] at hld
  refine bodyPost_ret (v := pgv (fl s.data.toList 64)) ?_ rfl ⟨rfl, below_cells HB2.out (Nat.le_refl _) _ _⟩
  rw [results_cell rfl]
  simp [asAddr, Result.andThen, hld]
end Go.Proofs.YtpimclhdimcioaaDoor
