/-
  Pages and the document's disk in a region that leaves what was there as it was (OldQ): rules for the walk. No condition.
-/
import Derived.Test.YtgjakhfmjnpkcaaDoorOldQ
import Derived.Test.YtgjakhfmjnpkcaaDoorS5Plays1
namespace Go.Proofs.YtgjakhfmjnpkcaaDoor
open Go.RowKit

theorem pg_old {w0 w : World} {v : Value} (h : IsPgV w0 v) (hw : OldC w0 w) : IsPgV w v ∧ pgAtV w v = pgAtV w0 v := by
  match v, h with
  | .pointer (some ⟨b, o, none⟩), h =>
    obtain ⟨l, hl, hr⟩ := h
    have hb : b < w0.heap.size := by
      have := hr 0 _ (List.getElem?_eq_getElem (by rw [cellsB_len, hl]; decide))
      exact World.block_lt_of_cell? w0 _ this
    have hr2 := rangeAt_below hr hw hb
    exact ⟨isPg hr2 hl, (pgAt_eq hr2 hl).trans (pgAt_eq hr hl).symm⟩
theorem old_ldpg {d : Option Tmp} {ty : TypeId} {pos : String} {af : Array Edge} {g : Option (Nat × Bool)} {x : Operand} {a : Act} {w0 : World} {K : Act → Prop} (h : IsPgV w0 (a.eval x)) :
    Oper.quiet Tryd.prog { dst := d, op := .load 37 x, type := ty, pos := pos, after := af, guard := g } a (OldC w0) K = K (a.put d (.agg (cellsB (pgAtV w0 (a.eval x))).toArray)) := by
  refine old_eq fun w hw => ?_
  have h2 := pg_old h hw
  unfold execOp
  simp only [Sem.run_bind, Sem.run_pure, Result.andThen_ok, ldv_pg h2.1, h2.2]
theorem old_nepg {d : Option Tmp} {ty t2 : TypeId} {pos : String} {af : Array Edge} {g : Option (Nat × Bool)} {x y : Operand} {a : Act} {w0 : World} {K : Act → Prop} (hx : IsPv (a.eval x)) (hy : IsPv (a.eval y)) :
    Oper.quiet Tryd.prog { dst := d, op := .binOp .neq 37 x y t2, type := ty, pos := pos, after := af, guard := g } a (OldC w0) K = K (a.put d (.bool (!pvEq (a.eval x) (a.eval y)))) :=
  old_eq fun _ _ => xne_pg hx hy
theorem old_bdpg {d : Option Tmp} {ty : TypeId} {pos : String} {af : Array Edge} {g : Option (Nat × Bool)} {a : Act} {w0 : World} {K : Act → Prop} :
    Oper.quiet Tryd.prog { dst := d, op := .build 37 #[], type := ty, pos := pos, after := af, guard := g } a (OldC w0) K = K (a.put d (.agg (cellsB zpg).toArray)) := by
  refine old_eq fun w _ => ?_
  have h : (Instr.build 37 #[]).run Tryd.prog w = .ok (.agg (cellsB zpg).toArray) w := by kernel_rfl
  unfold execOp
  simp only [Sem.run_bind, Sem.run_pure, Result.andThen_ok, List.map_toArray, List.map_nil, h]
theorem old_ldrd {d : Option Tmp} {ty : TypeId} {pos : String} {af : Array Edge} {g : Option (Nat × Bool)} {x : Operand} {a : Act} {w0 : World} {K : Act → Prop} (h : IsCh 6 w0 (a.eval x)) :
    Oper.quiet Tryd.prog { dst := d, op := .load 35 x, type := ty, pos := pos, after := af, guard := g } a (OldC w0) K = K (a.put d (.agg (chAt 6 w0 (a.eval x)).toArray)) := by
  refine old_eq fun w hw => ?_
  have hl : (Instr.loadAt 35 (a.eval x)).run Tryd.prog w = .ok (.agg (chAt 6 w0 (a.eval x)).toArray) w := by
    match a.eval x, h with
    | .pointer (some ⟨b, o, none⟩), ⟨cs, hl, hr⟩ =>
      have hb : b < w0.heap.size := World.block_lt_of_cell? w0 _ (hr 0 _ (List.getElem?_eq_getElem (by rw [hl]; decide)))
      rw [chAt_eq hr hl]
      exact run_loadAt_mid w b o 35 cs _ (rangeAt_below hr hw hb) Tryd.underlying35 rfl (by rw [rdSize, hl])
  unfold execOp
  simp only [Sem.run_bind, Sem.run_pure, Result.andThen_ok, hl]
end Go.Proofs.YtgjakhfmjnpkcaaDoor
