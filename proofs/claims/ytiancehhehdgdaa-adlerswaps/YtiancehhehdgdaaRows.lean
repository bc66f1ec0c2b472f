/-
  No cell of these rows narrows 'for every input' (looked for: loops, veiled, ifaces, maps, wideKeys, modest, calm, conditions, laid).
  DERIVED. THE GIVEN ROWS OF THIS SEAT. 5 by the template 'for every input the law returns true; each argument reads behind the call as it read before'; 0 by the template 'total and deterministic' (their statements: YtiancehhehdgdaaTotals.lean).
  GIVEN WITH THE SEED: the statements are not yours to turn. If you find one false, say at which input.
  Laid BY PROGRAM, IN A SANDBOX (cutbox-rows.mjs): the forced cells as the released guide's own fill.sh prints them over the translation 2ef4e9b8710f1c9d… (all of the seat's roots in one cut). By AI agents, Wed Nov 11 2026. No macro, syntax, notation, axiom, sorry.
-/
import Derived.Test.YtiancehhehdgdaaChecked
import GoSem.Claim
import GoSem.ClaimJoined
import GoSem.ClaimMapViews
import Derived.JoinedTies
import Derived.KernelRfl
namespace Go.Proofs.Ytiancehhehdgdaa
/- THE CELL 'sum', in the pinned program and in every row, IS THE sha256 OF THE DUMP (.gsa) THAT YtiancehhehdgdaaProg.lean LOADS. Nothing in Lean hashes anything: it is a label: what it is worth is what the hold of that sum in a sandbox is worth. -/
noncomputable def Try.pinned : Pinned := { name := "ytiancehhehdgdaa", sum := "2ef4e9b8710f1c9db187961c990b8ccef548597ec724424a5a655e59af0d87b8", checked := Try.checked }
namespace Rows
def none {H : Type} : Left H := { results := [], args := [] }

/-- 'shalelaw02.AdlerBoth': WHATEVER THE INPUT: true; the input reads as it did. -/
def adlerBothSpec : ChangeSpec := { name := "adlerBoth", fn := fun _ => fun
  | [d1, d2] => { results := [.lit (.bool true)], args := [d1, d2] }
  | _ => none }
def adlerBothRow : OpenClaim := { program := "ytiancehhehdgdaa", sum := "2ef4e9b8710f1c9db187961c990b8ccef548597ec724424a5a655e59af0d87b8", func := "shale/shalelaw02.AdlerBoth", spec := "adlerBoth", apart := false }
def AdlerBothSaid : Prop := adlerBothRow.holds Try.pinned (OpenSpec.ofChange adlerBothSpec)

/-- ITS FALSE NEIGHBOUR: 'it returns false'. Refute it at one input. -/
def adlerBothWrong : ChangeSpec := { name := "adlerBoth", fn := fun _ => fun
  | [d1, d2] => { results := [.lit (.bool false)], args := [d1, d2] }
  | _ => none }
def AdlerBothWrongFalsely : Prop := adlerBothRow.holds Try.pinned (OpenSpec.ofChange adlerBothWrong)

/-- 'shalelaw02.AdlerOne': WHATEVER THE INPUT: true; the input reads as it did. -/
def adlerOneSpec : ChangeSpec := { name := "adlerOne", fn := fun _ => fun
  | [d1, d2, d3] => { results := [.lit (.bool true)], args := [d1, d2, d3] }
  | _ => none }
def adlerOneRow : OpenClaim := { program := "ytiancehhehdgdaa", sum := "2ef4e9b8710f1c9db187961c990b8ccef548597ec724424a5a655e59af0d87b8", func := "shale/shalelaw02.AdlerOne", spec := "adlerOne", apart := false }
def AdlerOneSaid : Prop := adlerOneRow.holds Try.pinned (OpenSpec.ofChange adlerOneSpec)

/-- ITS FALSE NEIGHBOUR: 'it returns false'. Refute it at one input. -/
def adlerOneWrong : ChangeSpec := { name := "adlerOne", fn := fun _ => fun
  | [d1, d2, d3] => { results := [.lit (.bool false)], args := [d1, d2, d3] }
  | _ => none }
def AdlerOneWrongFalsely : Prop := adlerOneRow.holds Try.pinned (OpenSpec.ofChange adlerOneWrong)

/-- 'shalelaw02.AdlerPlays': WHATEVER THE INPUT: true; the input reads as it did. -/
def adlerPlaysSpec : ChangeSpec := { name := "adlerPlays", fn := fun _ => fun
  | [d1, d2] => { results := [.lit (.bool true)], args := [d1, d2] }
  | _ => none }
def adlerPlaysRow : OpenClaim := { program := "ytiancehhehdgdaa", sum := "2ef4e9b8710f1c9db187961c990b8ccef548597ec724424a5a655e59af0d87b8", func := "shale/shalelaw02.AdlerPlays", spec := "adlerPlays", apart := false }
def AdlerPlaysSaid : Prop := adlerPlaysRow.holds Try.pinned (OpenSpec.ofChange adlerPlaysSpec)

/-- ITS FALSE NEIGHBOUR: 'it returns false'. Refute it at one input. -/
def adlerPlaysWrong : ChangeSpec := { name := "adlerPlays", fn := fun _ => fun
  | [d1, d2] => { results := [.lit (.bool false)], args := [d1, d2] }
  | _ => none }
def AdlerPlaysWrongFalsely : Prop := adlerPlaysRow.holds Try.pinned (OpenSpec.ofChange adlerPlaysWrong)

/-- 'shalelaw02.AdlerThree': WHATEVER THE INPUT: true; the input reads as it did. -/
def adlerThreeSpec : ChangeSpec := { name := "adlerThree", fn := fun _ => fun
  | [d1, d2, d3] => { results := [.lit (.bool true)], args := [d1, d2, d3] }
  | _ => none }
def adlerThreeRow : OpenClaim := { program := "ytiancehhehdgdaa", sum := "2ef4e9b8710f1c9db187961c990b8ccef548597ec724424a5a655e59af0d87b8", func := "shale/shalelaw02.AdlerThree", spec := "adlerThree", apart := false }
def AdlerThreeSaid : Prop := adlerThreeRow.holds Try.pinned (OpenSpec.ofChange adlerThreeSpec)

/-- ITS FALSE NEIGHBOUR: 'it returns false'. Refute it at one input. -/
def adlerThreeWrong : ChangeSpec := { name := "adlerThree", fn := fun _ => fun
  | [d1, d2, d3] => { results := [.lit (.bool false)], args := [d1, d2, d3] }
  | _ => none }
def AdlerThreeWrongFalsely : Prop := adlerThreeRow.holds Try.pinned (OpenSpec.ofChange adlerThreeWrong)

/-- 'shalelaw02.AdlerSwaps': WHATEVER THE INPUT: true; the input reads as it did. -/
def adlerSwapsSpec : ChangeSpec := { name := "adlerSwaps", fn := fun _ => fun
  | [d1, d2] => { results := [.lit (.bool true)], args := [d1, d2] }
  | _ => none }
def adlerSwapsRow : OpenClaim := { program := "ytiancehhehdgdaa", sum := "2ef4e9b8710f1c9db187961c990b8ccef548597ec724424a5a655e59af0d87b8", func := "shale/shalelaw02.AdlerSwaps", spec := "adlerSwaps", apart := false }
def AdlerSwapsSaid : Prop := adlerSwapsRow.holds Try.pinned (OpenSpec.ofChange adlerSwapsSpec)

/-- ITS FALSE NEIGHBOUR: 'it returns false'. Refute it at one input. -/
def adlerSwapsWrong : ChangeSpec := { name := "adlerSwaps", fn := fun _ => fun
  | [d1, d2] => { results := [.lit (.bool false)], args := [d1, d2] }
  | _ => none }
def AdlerSwapsWrongFalsely : Prop := adlerSwapsRow.holds Try.pinned (OpenSpec.ofChange adlerSwapsWrong)

/- THE SECOND FORM. 'bulk': how many values and letters a reading holds, each counted each time it is reached (what is shared counts as often as it is met; a slice's spare places count too). A statement '..UptoSaid' is the law's where the arguments, and the package variables that the reading takes, are together of bulk at most 1048576: NARROWER than '..Said'. Prove '..Said' where nothing that the law and all that it calls make is longer than what came in: it says more and counts as full. Else prove '..UptoSaid'. A law counts once. -/
mutual
def uptoBulk {H : Type} : DataW H → Nat
  | .lit (.string bytes) => bytes.length + 1
  | .lit _ => 1
  | .nil => 1
  | .ptr d => uptoBulk d + 1
  | .slice elems spare => uptoBulkAll elems + uptoBulkAll spare + 1
  | .agg parts => uptoBulkAll parts + 1
  | .iface _ d => uptoBulk d + 1
  | .map entries => uptoBulkEntries entries + 1
  | .held _ => 1
def uptoBulkAll {H : Type} : List (DataW H) → Nat
  | [] => 0
  | d :: r => uptoBulk d + uptoBulkAll r
def uptoBulkEntries {H : Type} : List (Lit × DataW H) → Nat
  | [] => 0
  | x :: r => uptoBulkEntry x + uptoBulkEntries r
def uptoBulkEntry {H : Type} : Lit × DataW H → Nat
  | (.string bytes, d) => bytes.length + uptoBulk d + 1
  | (_, d) => uptoBulk d + 1
 end
def uptoSmall : (H : Type) → List (DataW H) → Bool := fun _ ds => decide (uptoBulkAll ds ≤ 1048576)
def OpenSpec.upto (s : _root_.Go.ChangeSpec) : _root_.Go.OpenSpec := { _root_.Go.OpenSpec.ofChange s with cond := some uptoSmall }

/-- 'shalelaw02.AdlerBoth', WHERE WHAT IT READS IS OF BULK AT MOST 1048576: true; the input reads as it did. -/
def adlerBothUptoRow : OpenClaim := { program := "ytiancehhehdgdaa", sum := "2ef4e9b8710f1c9db187961c990b8ccef548597ec724424a5a655e59af0d87b8", func := "shale/shalelaw02.AdlerBoth", spec := "adlerBoth", apart := false, narrowed := true }
def AdlerBothUptoSaid : Prop := adlerBothUptoRow.holds Try.pinned (OpenSpec.upto adlerBothSpec)

/-- 'shalelaw02.AdlerOne', WHERE WHAT IT READS IS OF BULK AT MOST 1048576: true; the input reads as it did. -/
def adlerOneUptoRow : OpenClaim := { program := "ytiancehhehdgdaa", sum := "2ef4e9b8710f1c9db187961c990b8ccef548597ec724424a5a655e59af0d87b8", func := "shale/shalelaw02.AdlerOne", spec := "adlerOne", apart := false, narrowed := true }
def AdlerOneUptoSaid : Prop := adlerOneUptoRow.holds Try.pinned (OpenSpec.upto adlerOneSpec)

/-- 'shalelaw02.AdlerPlays', WHERE WHAT IT READS IS OF BULK AT MOST 1048576: true; the input reads as it did. -/
def adlerPlaysUptoRow : OpenClaim := { program := "ytiancehhehdgdaa", sum := "2ef4e9b8710f1c9db187961c990b8ccef548597ec724424a5a655e59af0d87b8", func := "shale/shalelaw02.AdlerPlays", spec := "adlerPlays", apart := false, narrowed := true }
def AdlerPlaysUptoSaid : Prop := adlerPlaysUptoRow.holds Try.pinned (OpenSpec.upto adlerPlaysSpec)

/-- 'shalelaw02.AdlerThree', WHERE WHAT IT READS IS OF BULK AT MOST 1048576: true; the input reads as it did. -/
def adlerThreeUptoRow : OpenClaim := { program := "ytiancehhehdgdaa", sum := "2ef4e9b8710f1c9db187961c990b8ccef548597ec724424a5a655e59af0d87b8", func := "shale/shalelaw02.AdlerThree", spec := "adlerThree", apart := false, narrowed := true }
def AdlerThreeUptoSaid : Prop := adlerThreeUptoRow.holds Try.pinned (OpenSpec.upto adlerThreeSpec)

/-- 'shalelaw02.AdlerSwaps', WHERE WHAT IT READS IS OF BULK AT MOST 1048576: true; the input reads as it did. -/
def adlerSwapsUptoRow : OpenClaim := { program := "ytiancehhehdgdaa", sum := "2ef4e9b8710f1c9db187961c990b8ccef548597ec724424a5a655e59af0d87b8", func := "shale/shalelaw02.AdlerSwaps", spec := "adlerSwaps", apart := false, narrowed := true }
def AdlerSwapsUptoSaid : Prop := adlerSwapsUptoRow.holds Try.pinned (OpenSpec.upto adlerSwapsSpec)

end Rows
end Go.Proofs.Ytiancehhehdgdaa
