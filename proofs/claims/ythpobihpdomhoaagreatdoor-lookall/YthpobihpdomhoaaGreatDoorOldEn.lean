/-
  Loads of an entry (three cells, a variable's or a slice's element) in a region that leaves what was there as it was (OldQ): a rule for the walk. No condition.
-/
import Derived.Test.YthpobihpdomhoaaGreatDoorPc
namespace Go.Proofs.YthpobihpdomhoaaGreatDoor
open Go.RowKit

/-- An entry lies there; it. -/
def IsE3 (w : World) : Value → Prop
  | .pointer (some ⟨b, o, none⟩) => (∃ p, w.cell? ⟨b, o, none⟩ = some (.string p)) ∧ (∃ k, w.cell? ⟨b, o + 1, none⟩ = some (.int .i64 k)) ∧ ∃ d, w.cell? ⟨b, o + 2, none⟩ = some (.string d)
  | _ => False
def e3V (w : World) : Value → Value
  | .pointer (some ⟨b, o, none⟩) => .agg #[(w.cell? ⟨b, o, none⟩).getD undef, (w.cell? ⟨b, o + 1, none⟩).getD undef, (w.cell? ⟨b, o + 2, none⟩).getD undef]
  | _ => undef
theorem isE3_ptr (w : World) (b o : Nat) : IsE3 w (.pointer (some ⟨b, o, none⟩)) = ((∃ p, w.cell? ⟨b, o, none⟩ = some (.string p)) ∧ (∃ k, w.cell? ⟨b, o + 1, none⟩ = some (.int .i64 k)) ∧ ∃ d, w.cell? ⟨b, o + 2, none⟩ = some (.string d)) := rfl
theorem e3V_ptr (w : World) (b o : Nat) : e3V w (.pointer (some ⟨b, o, none⟩)) = .agg #[(w.cell? ⟨b, o, none⟩).getD undef, (w.cell? ⟨b, o + 1, none⟩).getD undef, (w.cell? ⟨b, o + 2, none⟩).getD undef] := rfl
theorem ld_e3 {w : World} {b o : Nat} {e : Ent} (h : EnCells w b o e) : (Instr.loadAt 29 (.pointer (some ⟨b, o, none⟩))).run Tryz.prog w = .ok (enV e) w := by
  refine (fun hr : w.rangeAt b o (enc e) => run_loadAt_mid w b o 29 _ _ hr Tryz.underlying29 rfl (by rw [enSize]; rfl)) ?_
  intro j v hv
  match j, hv with
  | 0, hv => obtain rfl : .string e.1 = v := by simpa using hv
             exact h.c0
  | 1, hv => obtain rfl : .int .i64 e.2.1 = v := by simpa using hv
             exact h.c1
  | 2, hv => obtain rfl : .string e.2.2 = v := by simpa using hv
             exact h.c2
theorem old_lde3 {d : Option Tmp} {ty : TypeId} {pos : String} {af : Array Edge} {g : Option (Nat × Bool)} {x : Operand} {a : Act} {w0 : World} {K : Act → Prop} (h : IsE3 w0 (a.eval x)) :
    Oper.quiet Tryz.prog { dst := d, op := .load 29 x, type := ty, pos := pos, after := af, guard := g } a (OldC w0) K = K (a.put d (e3V w0 (a.eval x))) := by
  refine old_eq fun w hw => ?_
  have hl : (Instr.loadAt 29 (a.eval x)).run Tryz.prog w = .ok (e3V w0 (a.eval x)) w := by
    match a.eval x, h with
    | .pointer (some ⟨b, o, none⟩), ⟨⟨p, hp⟩, ⟨k, hk⟩, ⟨d, hd⟩⟩ =>
      rw [e3V_ptr, hp, hk, hd]
      have hlt := World.block_lt_of_cell? w0 _ hp
      exact ld_e3 (e := (p, k, d)) ⟨(Below.cell hw (p := ⟨b, o, none⟩) hlt).trans hp, (Below.cell hw (p := ⟨b, o + 1, none⟩) hlt).trans hk, (Below.cell hw (p := ⟨b, o + 2, none⟩) hlt).trans hd⟩
  unfold execOp
  simp only [Sem.run_bind, Sem.run_pure, Result.andThen_ok, hl]
end Go.Proofs.YthpobihpdomhoaaGreatDoor
