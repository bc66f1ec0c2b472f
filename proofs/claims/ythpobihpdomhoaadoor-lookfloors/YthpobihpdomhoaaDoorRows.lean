/-
  NARROWER THAN 'FOR EVERY INPUT', by the rows' own cells (each row's printed sentence says how): LookFolds: laid · LookFloors: laid · LookTop: laid · LookParents: laid · LookWhite: laid.
  DERIVED. THE GIVEN ROWS OF THIS SEAT. 5 by the template 'for every input the law returns true; each argument reads behind the call as it read before'; 0 by the template 'total and deterministic' (their statements: YthpobihpdomhoaaDoorTotals.lean).
  GIVEN WITH THE SEED: the statements are not yours to turn. If you find one false, say at which input.
  Laid BY PROGRAM, IN A SANDBOX (cutbox-rows.mjs): the forced cells as the released guide's own fill.sh prints them over the translation 89586e631a174697… (all of the seat's roots in one cut). By AI agents, Wed Nov 11 2026. No macro, syntax, notation, axiom, sorry.
-/
import Derived.Test.YthpobihpdomhoaaDoorChecked
import GoSem.Claim
import GoSem.ClaimJoined
import GoSem.ClaimMapViews
import Derived.JoinedTies
import Derived.KernelRfl
namespace Go.Proofs.YthpobihpdomhoaaDoor
/- THE CELL 'sum', in the pinned program and in every row, IS THE sha256 OF THE DUMP (.gsa) THAT YthpobihpdomhoaaDoorProg.lean LOADS. Nothing in Lean hashes anything: it is a label: what it is worth is what the hold of that sum in a sandbox is worth. -/
noncomputable def Tryd.pinned : Pinned := { name := "ythpobihpdomhoaadoor", sum := "89586e631a1746979b62422fa9b098962d96a56a77e8472404f59e875d74c7b7", checked := Tryd.checked }
namespace Rows
def none {H : Type} : Left H := { results := [], args := [] }

/- WHAT THE LISTED PACKAGE-LEVEL VARIABLES READ AS WHEN THE CALL BEGINS. Each datum BY PROGRAM (the guide's laid-datum.mjs) off the statement by which the dump's own 'gosem.cut.vars' lays the variable. In a bare row this is a premise. The card (YthpobihpdomhoaaDoorCards.lean) ties it to the program's text. -/
def laid_errors_errorType {H : Type} : DataW H := .iface "internal/reflectlite.rtype" (.agg [.ptr (.lit (.string [101, 114, 114, 111, 114]))])

/-- 'shalelaw12.LookFolds': WHATEVER THE INPUT: true; the input reads as it did. -/
def lookFoldsSpec : ChangeSpec := { name := "lookFolds", fn := fun _ => fun
  | [d1, d2] => { results := [.lit (.bool true)], args := [d1, d2] }
  | _ => none }
def lookFoldsRow : OpenClaim := { program := "ythpobihpdomhoaadoor", sum := "89586e631a1746979b62422fa9b098962d96a56a77e8472404f59e875d74c7b7", func := "shale/shalelaw12.LookFolds", spec := "lookFolds", inPlace := ["internal/bytealg.IndexByteString", "internal/bytealg.IndexString", "internal/bytealg.abigen_runtime_cmpstring", "internal/reflectlite.ValueOf", "(internal/reflectlite.Value).Type", "(internal/reflectlite.Value).IsNil", "internal/reflectlite.TypeOf", "(internal/reflectlite.Value).Elem", "(internal/reflectlite.Value).Set"], unfollowed := true, recurses := true, named := ["internal/bytealg.MaxLen", "errors.errorType"], apart := false, laid := [("errors.errorType", laid_errors_errorType)] }
def LookFoldsSaid : Prop := lookFoldsRow.holds Tryd.pinned (OpenSpec.ofChange lookFoldsSpec)

/-- ITS FALSE NEIGHBOUR: 'it returns false'. Refute it at one input. -/
def lookFoldsWrong : ChangeSpec := { name := "lookFolds", fn := fun _ => fun
  | [d1, d2] => { results := [.lit (.bool false)], args := [d1, d2] }
  | _ => none }
def LookFoldsWrongFalsely : Prop := lookFoldsRow.holds Tryd.pinned (OpenSpec.ofChange lookFoldsWrong)

/-- 'shalelaw12.LookFloors': WHATEVER THE INPUT: true; the input reads as it did. -/
def lookFloorsSpec : ChangeSpec := { name := "lookFloors", fn := fun _ => fun
  | [d1, d2] => { results := [.lit (.bool true)], args := [d1, d2] }
  | _ => none }
def lookFloorsRow : OpenClaim := { program := "ythpobihpdomhoaadoor", sum := "89586e631a1746979b62422fa9b098962d96a56a77e8472404f59e875d74c7b7", func := "shale/shalelaw12.LookFloors", spec := "lookFloors", inPlace := ["internal/bytealg.IndexByteString", "internal/bytealg.IndexString", "internal/bytealg.abigen_runtime_cmpstring", "internal/reflectlite.ValueOf", "(internal/reflectlite.Value).Type", "(internal/reflectlite.Value).IsNil", "internal/reflectlite.TypeOf", "(internal/reflectlite.Value).Elem", "(internal/reflectlite.Value).Set"], unfollowed := true, recurses := true, named := ["internal/bytealg.MaxLen", "errors.errorType"], apart := false, laid := [("errors.errorType", laid_errors_errorType)] }
def LookFloorsSaid : Prop := lookFloorsRow.holds Tryd.pinned (OpenSpec.ofChange lookFloorsSpec)

/-- ITS FALSE NEIGHBOUR: 'it returns false'. Refute it at one input. -/
def lookFloorsWrong : ChangeSpec := { name := "lookFloors", fn := fun _ => fun
  | [d1, d2] => { results := [.lit (.bool false)], args := [d1, d2] }
  | _ => none }
def LookFloorsWrongFalsely : Prop := lookFloorsRow.holds Tryd.pinned (OpenSpec.ofChange lookFloorsWrong)

/-- 'shalelaw12.LookTop': WHATEVER THE INPUT: true; the input reads as it did. -/
def lookTopSpec : ChangeSpec := { name := "lookTop", fn := fun _ => fun
  | [d1, d2] => { results := [.lit (.bool true)], args := [d1, d2] }
  | _ => none }
def lookTopRow : OpenClaim := { program := "ythpobihpdomhoaadoor", sum := "89586e631a1746979b62422fa9b098962d96a56a77e8472404f59e875d74c7b7", func := "shale/shalelaw12.LookTop", spec := "lookTop", inPlace := ["internal/bytealg.IndexByteString", "internal/bytealg.IndexString", "internal/bytealg.abigen_runtime_cmpstring", "internal/reflectlite.ValueOf", "(internal/reflectlite.Value).Type", "(internal/reflectlite.Value).IsNil", "internal/reflectlite.TypeOf", "(internal/reflectlite.Value).Elem", "(internal/reflectlite.Value).Set"], unfollowed := true, recurses := true, named := ["internal/bytealg.MaxLen", "errors.errorType"], apart := false, laid := [("errors.errorType", laid_errors_errorType)] }
def LookTopSaid : Prop := lookTopRow.holds Tryd.pinned (OpenSpec.ofChange lookTopSpec)

/-- ITS FALSE NEIGHBOUR: 'it returns false'. Refute it at one input. -/
def lookTopWrong : ChangeSpec := { name := "lookTop", fn := fun _ => fun
  | [d1, d2] => { results := [.lit (.bool false)], args := [d1, d2] }
  | _ => none }
def LookTopWrongFalsely : Prop := lookTopRow.holds Tryd.pinned (OpenSpec.ofChange lookTopWrong)

/-- 'shalelaw12.LookParents': WHATEVER THE INPUT: true; the input reads as it did. -/
def lookParentsSpec : ChangeSpec := { name := "lookParents", fn := fun _ => fun
  | [d1, d2] => { results := [.lit (.bool true)], args := [d1, d2] }
  | _ => none }
def lookParentsRow : OpenClaim := { program := "ythpobihpdomhoaadoor", sum := "89586e631a1746979b62422fa9b098962d96a56a77e8472404f59e875d74c7b7", func := "shale/shalelaw12.LookParents", spec := "lookParents", inPlace := ["internal/bytealg.IndexByteString", "internal/bytealg.IndexString", "internal/bytealg.abigen_runtime_cmpstring", "internal/reflectlite.ValueOf", "(internal/reflectlite.Value).Type", "(internal/reflectlite.Value).IsNil", "internal/reflectlite.TypeOf", "(internal/reflectlite.Value).Elem", "(internal/reflectlite.Value).Set"], unfollowed := true, recurses := true, named := ["internal/bytealg.MaxLen", "errors.errorType"], apart := false, laid := [("errors.errorType", laid_errors_errorType)] }
def LookParentsSaid : Prop := lookParentsRow.holds Tryd.pinned (OpenSpec.ofChange lookParentsSpec)

/-- ITS FALSE NEIGHBOUR: 'it returns false'. Refute it at one input. -/
def lookParentsWrong : ChangeSpec := { name := "lookParents", fn := fun _ => fun
  | [d1, d2] => { results := [.lit (.bool false)], args := [d1, d2] }
  | _ => none }
def LookParentsWrongFalsely : Prop := lookParentsRow.holds Tryd.pinned (OpenSpec.ofChange lookParentsWrong)

/-- 'shalelaw12.LookWhite': WHATEVER THE INPUT: true; the input reads as it did. -/
def lookWhiteSpec : ChangeSpec := { name := "lookWhite", fn := fun _ => fun
  | [d1, d2, d3] => { results := [.lit (.bool true)], args := [d1, d2, d3] }
  | _ => none }
def lookWhiteRow : OpenClaim := { program := "ythpobihpdomhoaadoor", sum := "89586e631a1746979b62422fa9b098962d96a56a77e8472404f59e875d74c7b7", func := "shale/shalelaw12.LookWhite", spec := "lookWhite", inPlace := ["internal/bytealg.IndexByteString", "internal/bytealg.IndexString", "internal/bytealg.abigen_runtime_cmpstring", "internal/reflectlite.ValueOf", "(internal/reflectlite.Value).Type", "(internal/reflectlite.Value).IsNil", "internal/reflectlite.TypeOf", "(internal/reflectlite.Value).Elem", "(internal/reflectlite.Value).Set"], unfollowed := true, recurses := true, named := ["internal/bytealg.MaxLen", "errors.errorType"], apart := false, laid := [("errors.errorType", laid_errors_errorType)] }
def LookWhiteSaid : Prop := lookWhiteRow.holds Tryd.pinned (OpenSpec.ofChange lookWhiteSpec)

/-- ITS FALSE NEIGHBOUR: 'it returns false'. Refute it at one input. -/
def lookWhiteWrong : ChangeSpec := { name := "lookWhite", fn := fun _ => fun
  | [d1, d2, d3] => { results := [.lit (.bool false)], args := [d1, d2, d3] }
  | _ => none }
def LookWhiteWrongFalsely : Prop := lookWhiteRow.holds Tryd.pinned (OpenSpec.ofChange lookWhiteWrong)

/- THE SECOND FORM. 'bulk': how many values and letters a reading holds, each counted each time it is reached (what is shared counts as often as it is met; a slice's spare places count too). A statement '..UptoSaid' is the law's where the arguments, and the package variables that the reading takes, are together of bulk at most 1048576: NARROWER than '..Said'. Prove '..Said' where nothing that the law and all that it calls make is longer than what came in: it says more and counts as full. Else prove '..UptoSaid'. A law counts once. -/
mutual
def uptoBulk {H : Type} : DataW H → Nat
  | .lit (.string bytes) => bytes.length + 1
  | .lit _ => 1
  | .nil => 1
  | .ptr d => uptoBulk d + 1
  | .slice elems spare => uptoBulkAll elems + uptoBulkAll spare + 1
  | .agg parts => uptoBulkAll parts + 1
  | .iface _ d => uptoBulk d + 1
  | .map entries => uptoBulkEntries entries + 1
  | .held _ => 1
def uptoBulkAll {H : Type} : List (DataW H) → Nat
  | [] => 0
  | d :: r => uptoBulk d + uptoBulkAll r
def uptoBulkEntries {H : Type} : List (Lit × DataW H) → Nat
  | [] => 0
  | x :: r => uptoBulkEntry x + uptoBulkEntries r
def uptoBulkEntry {H : Type} : Lit × DataW H → Nat
  | (.string bytes, d) => bytes.length + uptoBulk d + 1
  | (_, d) => uptoBulk d + 1
 end
def uptoSmall : (H : Type) → List (DataW H) → Bool := fun _ ds => decide (uptoBulkAll ds ≤ 1048576)
def OpenSpec.upto (s : _root_.Go.ChangeSpec) : _root_.Go.OpenSpec := { _root_.Go.OpenSpec.ofChange s with cond := some uptoSmall }

/-- 'shalelaw12.LookFolds', WHERE WHAT IT READS IS OF BULK AT MOST 1048576: true; the input reads as it did. -/
def lookFoldsUptoRow : OpenClaim := { program := "ythpobihpdomhoaadoor", sum := "89586e631a1746979b62422fa9b098962d96a56a77e8472404f59e875d74c7b7", func := "shale/shalelaw12.LookFolds", spec := "lookFolds", inPlace := ["internal/bytealg.IndexByteString", "internal/bytealg.IndexString", "internal/bytealg.abigen_runtime_cmpstring", "internal/reflectlite.ValueOf", "(internal/reflectlite.Value).Type", "(internal/reflectlite.Value).IsNil", "internal/reflectlite.TypeOf", "(internal/reflectlite.Value).Elem", "(internal/reflectlite.Value).Set"], unfollowed := true, recurses := true, named := ["internal/bytealg.MaxLen", "errors.errorType"], apart := false, laid := [("errors.errorType", laid_errors_errorType)], narrowed := true }
def LookFoldsUptoSaid : Prop := lookFoldsUptoRow.holds Tryd.pinned (OpenSpec.upto lookFoldsSpec)

/-- 'shalelaw12.LookFloors', WHERE WHAT IT READS IS OF BULK AT MOST 1048576: true; the input reads as it did. -/
def lookFloorsUptoRow : OpenClaim := { program := "ythpobihpdomhoaadoor", sum := "89586e631a1746979b62422fa9b098962d96a56a77e8472404f59e875d74c7b7", func := "shale/shalelaw12.LookFloors", spec := "lookFloors", inPlace := ["internal/bytealg.IndexByteString", "internal/bytealg.IndexString", "internal/bytealg.abigen_runtime_cmpstring", "internal/reflectlite.ValueOf", "(internal/reflectlite.Value).Type", "(internal/reflectlite.Value).IsNil", "internal/reflectlite.TypeOf", "(internal/reflectlite.Value).Elem", "(internal/reflectlite.Value).Set"], unfollowed := true, recurses := true, named := ["internal/bytealg.MaxLen", "errors.errorType"], apart := false, laid := [("errors.errorType", laid_errors_errorType)], narrowed := true }
def LookFloorsUptoSaid : Prop := lookFloorsUptoRow.holds Tryd.pinned (OpenSpec.upto lookFloorsSpec)

/-- 'shalelaw12.LookTop', WHERE WHAT IT READS IS OF BULK AT MOST 1048576: true; the input reads as it did. -/
def lookTopUptoRow : OpenClaim := { program := "ythpobihpdomhoaadoor", sum := "89586e631a1746979b62422fa9b098962d96a56a77e8472404f59e875d74c7b7", func := "shale/shalelaw12.LookTop", spec := "lookTop", inPlace := ["internal/bytealg.IndexByteString", "internal/bytealg.IndexString", "internal/bytealg.abigen_runtime_cmpstring", "internal/reflectlite.ValueOf", "(internal/reflectlite.Value).Type", "(internal/reflectlite.Value).IsNil", "internal/reflectlite.TypeOf", "(internal/reflectlite.Value).Elem", "(internal/reflectlite.Value).Set"], unfollowed := true, recurses := true, named := ["internal/bytealg.MaxLen", "errors.errorType"], apart := false, laid := [("errors.errorType", laid_errors_errorType)], narrowed := true }
def LookTopUptoSaid : Prop := lookTopUptoRow.holds Tryd.pinned (OpenSpec.upto lookTopSpec)

/-- 'shalelaw12.LookParents', WHERE WHAT IT READS IS OF BULK AT MOST 1048576: true; the input reads as it did. -/
def lookParentsUptoRow : OpenClaim := { program := "ythpobihpdomhoaadoor", sum := "89586e631a1746979b62422fa9b098962d96a56a77e8472404f59e875d74c7b7", func := "shale/shalelaw12.LookParents", spec := "lookParents", inPlace := ["internal/bytealg.IndexByteString", "internal/bytealg.IndexString", "internal/bytealg.abigen_runtime_cmpstring", "internal/reflectlite.ValueOf", "(internal/reflectlite.Value).Type", "(internal/reflectlite.Value).IsNil", "internal/reflectlite.TypeOf", "(internal/reflectlite.Value).Elem", "(internal/reflectlite.Value).Set"], unfollowed := true, recurses := true, named := ["internal/bytealg.MaxLen", "errors.errorType"], apart := false, laid := [("errors.errorType", laid_errors_errorType)], narrowed := true }
def LookParentsUptoSaid : Prop := lookParentsUptoRow.holds Tryd.pinned (OpenSpec.upto lookParentsSpec)

/-- 'shalelaw12.LookWhite', WHERE WHAT IT READS IS OF BULK AT MOST 1048576: true; the input reads as it did. -/
def lookWhiteUptoRow : OpenClaim := { program := "ythpobihpdomhoaadoor", sum := "89586e631a1746979b62422fa9b098962d96a56a77e8472404f59e875d74c7b7", func := "shale/shalelaw12.LookWhite", spec := "lookWhite", inPlace := ["internal/bytealg.IndexByteString", "internal/bytealg.IndexString", "internal/bytealg.abigen_runtime_cmpstring", "internal/reflectlite.ValueOf", "(internal/reflectlite.Value).Type", "(internal/reflectlite.Value).IsNil", "internal/reflectlite.TypeOf", "(internal/reflectlite.Value).Elem", "(internal/reflectlite.Value).Set"], unfollowed := true, recurses := true, named := ["internal/bytealg.MaxLen", "errors.errorType"], apart := false, laid := [("errors.errorType", laid_errors_errorType)], narrowed := true }
def LookWhiteUptoSaid : Prop := lookWhiteUptoRow.holds Tryd.pinned (OpenSpec.upto lookWhiteSpec)

end Rows
end Go.Proofs.YthpobihpdomhoaaDoor
