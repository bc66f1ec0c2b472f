/-
  Loads of one cell (an int, a uint32, a string) in a region that leaves what was there as it was (OldQ): rules for the walk. No condition.
-/
import Derived.Test.YtdpgdnofiepkoaaDoorProg
import Derived.Test.YtdpgdnofiepkoaaDoorOldQ
namespace Go.Proofs.YtdpgdnofiepkoaaDoor
open Go.RowKit

/-- A number lies there; it. -/
def IsC1 (k : IntKind) (w : World) : Value → Prop
  | .pointer (some ⟨b, o, none⟩) => ∃ v, w.cell? ⟨b, o, none⟩ = some (.int k v)
  | _ => False
def c1V (w : World) : Value → Value
  | .pointer (some p) => (w.cell? p).getD undef
  | _ => undef
theorem isC1_ptr (k : IntKind) (w : World) (b o : Nat) : IsC1 k w (.pointer (some ⟨b, o, none⟩)) = ∃ v, w.cell? ⟨b, o, none⟩ = some (.int k v) := rfl
theorem c1V_ptr (w : World) (p : Addr) : c1V w (.pointer (some p)) = (w.cell? p).getD undef := rfl
theorem old_ldi {d : Option Tmp} {ty : TypeId} {pos : String} {af : Array Edge} {g : Option (Nat × Bool)} {x : Operand} {a : Act} {w0 : World} {K : Act → Prop} (h : IsC1 .i64 w0 (a.eval x)) :
    Oper.quiet Tryd.prog { dst := d, op := .load 3 x, type := ty, pos := pos, after := af, guard := g } a (OldC w0) K = K (a.put d (c1V w0 (a.eval x))) := by
  refine old_eq fun w hw => ?_
  have hl : (Instr.loadAt 3 (a.eval x)).run Tryd.prog w = .ok (c1V w0 (a.eval x)) w := by
    match a.eval x, h with
    | .pointer (some ⟨b, o, none⟩), ⟨v, hv⟩ =>
      have h2 := (Below.cell hw (p := ⟨b, o, none⟩) (World.block_lt_of_cell? w0 _ hv)).trans hv
      rw [c1V_ptr, hv]
      simp [go_sem, h2]
  unfold execOp
  simp only [Sem.run_bind, Sem.run_pure, Result.andThen_ok, hl]
theorem old_ldu {d : Option Tmp} {ty : TypeId} {pos : String} {af : Array Edge} {g : Option (Nat × Bool)} {x : Operand} {a : Act} {w0 : World} {K : Act → Prop} (h : IsC1 .u32 w0 (a.eval x)) :
    Oper.quiet Tryd.prog { dst := d, op := .load 105 x, type := ty, pos := pos, after := af, guard := g } a (OldC w0) K = K (a.put d (c1V w0 (a.eval x))) := by
  refine old_eq fun w hw => ?_
  have hl : (Instr.loadAt 105 (a.eval x)).run Tryd.prog w = .ok (c1V w0 (a.eval x)) w := by
    match a.eval x, h with
    | .pointer (some ⟨b, o, none⟩), ⟨v, hv⟩ =>
      have h2 := (Below.cell hw (p := ⟨b, o, none⟩) (World.block_lt_of_cell? w0 _ hv)).trans hv
      rw [c1V_ptr, hv]
      simp [go_sem, h2]
  unfold execOp
  simp only [Sem.run_bind, Sem.run_pure, Result.andThen_ok, hl]
/-- A text lies there. -/
def IsS1 (w : World) : Value → Prop
  | .pointer (some ⟨b, o, none⟩) => ∃ v, w.cell? ⟨b, o, none⟩ = some (.string v)
  | _ => False
theorem isS1_ptr (w : World) (b o : Nat) : IsS1 w (.pointer (some ⟨b, o, none⟩)) = ∃ v, w.cell? ⟨b, o, none⟩ = some (.string v) := rfl
theorem old_lds {d : Option Tmp} {ty : TypeId} {pos : String} {af : Array Edge} {g : Option (Nat × Bool)} {x : Operand} {a : Act} {w0 : World} {K : Act → Prop} (h : IsS1 w0 (a.eval x)) :
    Oper.quiet Tryd.prog { dst := d, op := .load 9 x, type := ty, pos := pos, after := af, guard := g } a (OldC w0) K = K (a.put d (c1V w0 (a.eval x))) := by
  refine old_eq fun w hw => ?_
  have hl : (Instr.loadAt 9 (a.eval x)).run Tryd.prog w = .ok (c1V w0 (a.eval x)) w := by
    match a.eval x, h with
    | .pointer (some ⟨b, o, none⟩), ⟨v, hv⟩ =>
      have h2 := (Below.cell hw (p := ⟨b, o, none⟩) (World.block_lt_of_cell? w0 _ hv)).trans hv
      rw [c1V_ptr, hv]
      simp [go_sem, h2]
  unfold execOp
  simp only [Sem.run_bind, Sem.run_pure, Result.andThen_ok, hl]
end Go.Proofs.YtdpgdnofiepkoaaDoor
