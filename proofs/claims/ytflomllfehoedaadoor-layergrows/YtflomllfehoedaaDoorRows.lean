/-
  NARROWER THAN 'FOR EVERY INPUT', by the rows' own cells (each row's printed sentence says how): LayerBack: laid · LayerPuts: laid · LayerPlays: laid · LayerReads: laid · LayerGrows: laid · LayerBelows: laid.
  DERIVED. THE GIVEN ROWS OF THIS SEAT. 6 by the template 'for every input the law returns true; each argument reads behind the call as it read before'; 0 by the template 'total and deterministic' (their statements: YtflomllfehoedaaDoorTotals.lean).
  GIVEN WITH THE SEED: the statements are not yours to turn. If you find one false, say at which input.
  Laid BY PROGRAM, IN A SANDBOX (cutbox-rows.mjs): the forced cells as the released guide's own fill.sh prints them over the translation e0076b445dd57d68… (all of the seat's roots in one cut). By AI agents, Wed Nov 11 2026. No macro, syntax, notation, axiom, sorry.
-/
import Derived.Test.YtflomllfehoedaaDoorChecked
import GoSem.Claim
import GoSem.ClaimJoined
import GoSem.ClaimMapViews
import Derived.JoinedTies
import Derived.KernelRfl
namespace Go.Proofs.YtflomllfehoedaaDoor
/- THE CELL 'sum', in the pinned program and in every row, IS THE sha256 OF THE DUMP (.gsa) THAT YtflomllfehoedaaDoorProg.lean LOADS. Nothing in Lean hashes anything: it is a label: what it is worth is what the hold of that sum in a sandbox is worth. -/
noncomputable def Tryd.pinned : Pinned := { name := "ytflomllfehoedaadoor", sum := "e0076b445dd57d6870676f57250f2b580abd2a21427eb370421d574a09e44f49", checked := Tryd.checked }
namespace Rows
def none {H : Type} : Left H := { results := [], args := [] }

/- WHAT THE LISTED PACKAGE-LEVEL VARIABLES READ AS WHEN THE CALL BEGINS. Each datum BY PROGRAM (the guide's laid-datum.mjs) off the statement by which the dump's own 'gosem.cut.vars' lays the variable. In a bare row this is a premise. The card (YtflomllfehoedaaDoorCards.lean) ties it to the program's text. -/
def laid_errors_errorType {H : Type} : DataW H := .iface "internal/reflectlite.rtype" (.agg [.ptr (.lit (.string [101, 114, 114, 111, 114]))])

/-- 'shalelaw09.LayerBack': WHATEVER THE INPUT: true; the input reads as it did. -/
def layerBackSpec : ChangeSpec := { name := "layerBack", fn := fun _ => fun
  | [d1, d2, d3] => { results := [.lit (.bool true)], args := [d1, d2, d3] }
  | _ => none }
def layerBackRow : OpenClaim := { program := "ytflomllfehoedaadoor", sum := "e0076b445dd57d6870676f57250f2b580abd2a21427eb370421d574a09e44f49", func := "shale/shalelaw09.LayerBack", spec := "layerBack", inPlace := ["internal/bytealg.IndexByteString", "internal/bytealg.IndexString", "internal/reflectlite.ValueOf", "(internal/reflectlite.Value).Type", "(internal/reflectlite.Value).IsNil", "internal/reflectlite.TypeOf", "(internal/reflectlite.Value).Elem", "(internal/reflectlite.Value).Set"], unfollowed := true, recurses := true, named := ["internal/bytealg.MaxLen", "errors.errorType"], apart := false, laid := [("errors.errorType", laid_errors_errorType)] }
def LayerBackSaid : Prop := layerBackRow.holds Tryd.pinned (OpenSpec.ofChange layerBackSpec)

/-- ITS FALSE NEIGHBOUR: 'it returns false'. Refute it at one input. -/
def layerBackWrong : ChangeSpec := { name := "layerBack", fn := fun _ => fun
  | [d1, d2, d3] => { results := [.lit (.bool false)], args := [d1, d2, d3] }
  | _ => none }
def LayerBackWrongFalsely : Prop := layerBackRow.holds Tryd.pinned (OpenSpec.ofChange layerBackWrong)

/-- 'shalelaw09.LayerPuts': WHATEVER THE INPUT: true; the input reads as it did. -/
def layerPutsSpec : ChangeSpec := { name := "layerPuts", fn := fun _ => fun
  | [d1, d2, d3] => { results := [.lit (.bool true)], args := [d1, d2, d3] }
  | _ => none }
def layerPutsRow : OpenClaim := { program := "ytflomllfehoedaadoor", sum := "e0076b445dd57d6870676f57250f2b580abd2a21427eb370421d574a09e44f49", func := "shale/shalelaw09.LayerPuts", spec := "layerPuts", inPlace := ["internal/bytealg.IndexByteString", "internal/bytealg.IndexString", "internal/reflectlite.ValueOf", "(internal/reflectlite.Value).Type", "(internal/reflectlite.Value).IsNil", "internal/reflectlite.TypeOf", "(internal/reflectlite.Value).Elem", "(internal/reflectlite.Value).Set"], unfollowed := true, recurses := true, named := ["internal/bytealg.MaxLen", "errors.errorType"], apart := false, laid := [("errors.errorType", laid_errors_errorType)] }
def LayerPutsSaid : Prop := layerPutsRow.holds Tryd.pinned (OpenSpec.ofChange layerPutsSpec)

/-- ITS FALSE NEIGHBOUR: 'it returns false'. Refute it at one input. -/
def layerPutsWrong : ChangeSpec := { name := "layerPuts", fn := fun _ => fun
  | [d1, d2, d3] => { results := [.lit (.bool false)], args := [d1, d2, d3] }
  | _ => none }
def LayerPutsWrongFalsely : Prop := layerPutsRow.holds Tryd.pinned (OpenSpec.ofChange layerPutsWrong)

/-- 'shalelaw09.LayerPlays': WHATEVER THE INPUT: true; the input reads as it did. -/
def layerPlaysSpec : ChangeSpec := { name := "layerPlays", fn := fun _ => fun
  | [d1, d2, d3] => { results := [.lit (.bool true)], args := [d1, d2, d3] }
  | _ => none }
def layerPlaysRow : OpenClaim := { program := "ytflomllfehoedaadoor", sum := "e0076b445dd57d6870676f57250f2b580abd2a21427eb370421d574a09e44f49", func := "shale/shalelaw09.LayerPlays", spec := "layerPlays", inPlace := ["internal/bytealg.IndexByteString", "internal/bytealg.IndexString", "internal/reflectlite.ValueOf", "(internal/reflectlite.Value).Type", "(internal/reflectlite.Value).IsNil", "internal/reflectlite.TypeOf", "(internal/reflectlite.Value).Elem", "(internal/reflectlite.Value).Set"], unfollowed := true, recurses := true, named := ["internal/bytealg.MaxLen", "errors.errorType"], apart := false, laid := [("errors.errorType", laid_errors_errorType)] }
def LayerPlaysSaid : Prop := layerPlaysRow.holds Tryd.pinned (OpenSpec.ofChange layerPlaysSpec)

/-- ITS FALSE NEIGHBOUR: 'it returns false'. Refute it at one input. -/
def layerPlaysWrong : ChangeSpec := { name := "layerPlays", fn := fun _ => fun
  | [d1, d2, d3] => { results := [.lit (.bool false)], args := [d1, d2, d3] }
  | _ => none }
def LayerPlaysWrongFalsely : Prop := layerPlaysRow.holds Tryd.pinned (OpenSpec.ofChange layerPlaysWrong)

/-- 'shalelaw09.LayerReads': WHATEVER THE INPUT: true; the input reads as it did. -/
def layerReadsSpec : ChangeSpec := { name := "layerReads", fn := fun _ => fun
  | [d] => { results := [.lit (.bool true)], args := [d] }
  | _ => none }
def layerReadsRow : OpenClaim := { program := "ytflomllfehoedaadoor", sum := "e0076b445dd57d6870676f57250f2b580abd2a21427eb370421d574a09e44f49", func := "shale/shalelaw09.LayerReads", spec := "layerReads", inPlace := ["internal/bytealg.IndexByteString", "internal/bytealg.IndexString", "internal/reflectlite.ValueOf", "(internal/reflectlite.Value).Type", "(internal/reflectlite.Value).IsNil", "internal/reflectlite.TypeOf", "(internal/reflectlite.Value).Elem", "(internal/reflectlite.Value).Set"], unfollowed := true, recurses := true, named := ["internal/bytealg.MaxLen", "errors.errorType"], apart := false, laid := [("errors.errorType", laid_errors_errorType)] }
def LayerReadsSaid : Prop := layerReadsRow.holds Tryd.pinned (OpenSpec.ofChange layerReadsSpec)

/-- ITS FALSE NEIGHBOUR: 'it returns false'. Refute it at one input. -/
def layerReadsWrong : ChangeSpec := { name := "layerReads", fn := fun _ => fun
  | [d] => { results := [.lit (.bool false)], args := [d] }
  | _ => none }
def LayerReadsWrongFalsely : Prop := layerReadsRow.holds Tryd.pinned (OpenSpec.ofChange layerReadsWrong)

/-- 'shalelaw09.LayerGrows': WHATEVER THE INPUT: true; the input reads as it did. -/
def layerGrowsSpec : ChangeSpec := { name := "layerGrows", fn := fun _ => fun
  | [d] => { results := [.lit (.bool true)], args := [d] }
  | _ => none }
def layerGrowsRow : OpenClaim := { program := "ytflomllfehoedaadoor", sum := "e0076b445dd57d6870676f57250f2b580abd2a21427eb370421d574a09e44f49", func := "shale/shalelaw09.LayerGrows", spec := "layerGrows", inPlace := ["internal/bytealg.IndexByteString", "internal/bytealg.IndexString", "internal/reflectlite.ValueOf", "(internal/reflectlite.Value).Type", "(internal/reflectlite.Value).IsNil", "internal/reflectlite.TypeOf", "(internal/reflectlite.Value).Elem", "(internal/reflectlite.Value).Set"], unfollowed := true, recurses := true, named := ["internal/bytealg.MaxLen", "errors.errorType"], apart := false, laid := [("errors.errorType", laid_errors_errorType)] }
def LayerGrowsSaid : Prop := layerGrowsRow.holds Tryd.pinned (OpenSpec.ofChange layerGrowsSpec)

/-- ITS FALSE NEIGHBOUR: 'it returns false'. Refute it at one input. -/
def layerGrowsWrong : ChangeSpec := { name := "layerGrows", fn := fun _ => fun
  | [d] => { results := [.lit (.bool false)], args := [d] }
  | _ => none }
def LayerGrowsWrongFalsely : Prop := layerGrowsRow.holds Tryd.pinned (OpenSpec.ofChange layerGrowsWrong)

/-- 'shalelaw09.LayerBelows': WHATEVER THE INPUT: true; the input reads as it did. -/
def layerBelowsSpec : ChangeSpec := { name := "layerBelows", fn := fun _ => fun
  | [d1, d2] => { results := [.lit (.bool true)], args := [d1, d2] }
  | _ => none }
def layerBelowsRow : OpenClaim := { program := "ytflomllfehoedaadoor", sum := "e0076b445dd57d6870676f57250f2b580abd2a21427eb370421d574a09e44f49", func := "shale/shalelaw09.LayerBelows", spec := "layerBelows", inPlace := ["internal/bytealg.IndexByteString", "internal/bytealg.IndexString", "internal/reflectlite.ValueOf", "(internal/reflectlite.Value).Type", "(internal/reflectlite.Value).IsNil", "internal/reflectlite.TypeOf", "(internal/reflectlite.Value).Elem", "(internal/reflectlite.Value).Set"], unfollowed := true, recurses := true, named := ["internal/bytealg.MaxLen", "errors.errorType"], apart := false, laid := [("errors.errorType", laid_errors_errorType)] }
def LayerBelowsSaid : Prop := layerBelowsRow.holds Tryd.pinned (OpenSpec.ofChange layerBelowsSpec)

/-- ITS FALSE NEIGHBOUR: 'it returns false'. Refute it at one input. -/
def layerBelowsWrong : ChangeSpec := { name := "layerBelows", fn := fun _ => fun
  | [d1, d2] => { results := [.lit (.bool false)], args := [d1, d2] }
  | _ => none }
def LayerBelowsWrongFalsely : Prop := layerBelowsRow.holds Tryd.pinned (OpenSpec.ofChange layerBelowsWrong)

/- THE SECOND FORM. 'bulk': how many values and letters a reading holds, each counted each time it is reached (what is shared counts as often as it is met; a slice's spare places count too). A statement '..UptoSaid' is the law's where the arguments, and the package variables that the reading takes, are together of bulk at most 1048576: NARROWER than '..Said'. Prove '..Said' where nothing that the law and all that it calls make is longer than what came in: it says more and counts as full. Else prove '..UptoSaid'. A law counts once. -/
mutual
def uptoBulk {H : Type} : DataW H → Nat
  | .lit (.string bytes) => bytes.length + 1
  | .lit _ => 1
  | .nil => 1
  | .ptr d => uptoBulk d + 1
  | .slice elems spare => uptoBulkAll elems + uptoBulkAll spare + 1
  | .agg parts => uptoBulkAll parts + 1
  | .iface _ d => uptoBulk d + 1
  | .map entries => uptoBulkEntries entries + 1
  | .held _ => 1
def uptoBulkAll {H : Type} : List (DataW H) → Nat
  | [] => 0
  | d :: r => uptoBulk d + uptoBulkAll r
def uptoBulkEntries {H : Type} : List (Lit × DataW H) → Nat
  | [] => 0
  | x :: r => uptoBulkEntry x + uptoBulkEntries r
def uptoBulkEntry {H : Type} : Lit × DataW H → Nat
  | (.string bytes, d) => bytes.length + uptoBulk d + 1
  | (_, d) => uptoBulk d + 1
 end
def uptoSmall : (H : Type) → List (DataW H) → Bool := fun _ ds => decide (uptoBulkAll ds ≤ 1048576)
def OpenSpec.upto (s : _root_.Go.ChangeSpec) : _root_.Go.OpenSpec := { _root_.Go.OpenSpec.ofChange s with cond := some uptoSmall }

/-- 'shalelaw09.LayerBack', WHERE WHAT IT READS IS OF BULK AT MOST 1048576: true; the input reads as it did. -/
def layerBackUptoRow : OpenClaim := { program := "ytflomllfehoedaadoor", sum := "e0076b445dd57d6870676f57250f2b580abd2a21427eb370421d574a09e44f49", func := "shale/shalelaw09.LayerBack", spec := "layerBack", inPlace := ["internal/bytealg.IndexByteString", "internal/bytealg.IndexString", "internal/reflectlite.ValueOf", "(internal/reflectlite.Value).Type", "(internal/reflectlite.Value).IsNil", "internal/reflectlite.TypeOf", "(internal/reflectlite.Value).Elem", "(internal/reflectlite.Value).Set"], unfollowed := true, recurses := true, named := ["internal/bytealg.MaxLen", "errors.errorType"], apart := false, laid := [("errors.errorType", laid_errors_errorType)], narrowed := true }
def LayerBackUptoSaid : Prop := layerBackUptoRow.holds Tryd.pinned (OpenSpec.upto layerBackSpec)

/-- 'shalelaw09.LayerPuts', WHERE WHAT IT READS IS OF BULK AT MOST 1048576: true; the input reads as it did. -/
def layerPutsUptoRow : OpenClaim := { program := "ytflomllfehoedaadoor", sum := "e0076b445dd57d6870676f57250f2b580abd2a21427eb370421d574a09e44f49", func := "shale/shalelaw09.LayerPuts", spec := "layerPuts", inPlace := ["internal/bytealg.IndexByteString", "internal/bytealg.IndexString", "internal/reflectlite.ValueOf", "(internal/reflectlite.Value).Type", "(internal/reflectlite.Value).IsNil", "internal/reflectlite.TypeOf", "(internal/reflectlite.Value).Elem", "(internal/reflectlite.Value).Set"], unfollowed := true, recurses := true, named := ["internal/bytealg.MaxLen", "errors.errorType"], apart := false, laid := [("errors.errorType", laid_errors_errorType)], narrowed := true }
def LayerPutsUptoSaid : Prop := layerPutsUptoRow.holds Tryd.pinned (OpenSpec.upto layerPutsSpec)

/-- 'shalelaw09.LayerPlays', WHERE WHAT IT READS IS OF BULK AT MOST 1048576: true; the input reads as it did. -/
def layerPlaysUptoRow : OpenClaim := { program := "ytflomllfehoedaadoor", sum := "e0076b445dd57d6870676f57250f2b580abd2a21427eb370421d574a09e44f49", func := "shale/shalelaw09.LayerPlays", spec := "layerPlays", inPlace := ["internal/bytealg.IndexByteString", "internal/bytealg.IndexString", "internal/reflectlite.ValueOf", "(internal/reflectlite.Value).Type", "(internal/reflectlite.Value).IsNil", "internal/reflectlite.TypeOf", "(internal/reflectlite.Value).Elem", "(internal/reflectlite.Value).Set"], unfollowed := true, recurses := true, named := ["internal/bytealg.MaxLen", "errors.errorType"], apart := false, laid := [("errors.errorType", laid_errors_errorType)], narrowed := true }
def LayerPlaysUptoSaid : Prop := layerPlaysUptoRow.holds Tryd.pinned (OpenSpec.upto layerPlaysSpec)

/-- 'shalelaw09.LayerReads', WHERE WHAT IT READS IS OF BULK AT MOST 1048576: true; the input reads as it did. -/
def layerReadsUptoRow : OpenClaim := { program := "ytflomllfehoedaadoor", sum := "e0076b445dd57d6870676f57250f2b580abd2a21427eb370421d574a09e44f49", func := "shale/shalelaw09.LayerReads", spec := "layerReads", inPlace := ["internal/bytealg.IndexByteString", "internal/bytealg.IndexString", "internal/reflectlite.ValueOf", "(internal/reflectlite.Value).Type", "(internal/reflectlite.Value).IsNil", "internal/reflectlite.TypeOf", "(internal/reflectlite.Value).Elem", "(internal/reflectlite.Value).Set"], unfollowed := true, recurses := true, named := ["internal/bytealg.MaxLen", "errors.errorType"], apart := false, laid := [("errors.errorType", laid_errors_errorType)], narrowed := true }
def LayerReadsUptoSaid : Prop := layerReadsUptoRow.holds Tryd.pinned (OpenSpec.upto layerReadsSpec)

/-- 'shalelaw09.LayerGrows', WHERE WHAT IT READS IS OF BULK AT MOST 1048576: true; the input reads as it did. -/
def layerGrowsUptoRow : OpenClaim := { program := "ytflomllfehoedaadoor", sum := "e0076b445dd57d6870676f57250f2b580abd2a21427eb370421d574a09e44f49", func := "shale/shalelaw09.LayerGrows", spec := "layerGrows", inPlace := ["internal/bytealg.IndexByteString", "internal/bytealg.IndexString", "internal/reflectlite.ValueOf", "(internal/reflectlite.Value).Type", "(internal/reflectlite.Value).IsNil", "internal/reflectlite.TypeOf", "(internal/reflectlite.Value).Elem", "(internal/reflectlite.Value).Set"], unfollowed := true, recurses := true, named := ["internal/bytealg.MaxLen", "errors.errorType"], apart := false, laid := [("errors.errorType", laid_errors_errorType)], narrowed := true }
def LayerGrowsUptoSaid : Prop := layerGrowsUptoRow.holds Tryd.pinned (OpenSpec.upto layerGrowsSpec)

/-- 'shalelaw09.LayerBelows', WHERE WHAT IT READS IS OF BULK AT MOST 1048576: true; the input reads as it did. -/
def layerBelowsUptoRow : OpenClaim := { program := "ytflomllfehoedaadoor", sum := "e0076b445dd57d6870676f57250f2b580abd2a21427eb370421d574a09e44f49", func := "shale/shalelaw09.LayerBelows", spec := "layerBelows", inPlace := ["internal/bytealg.IndexByteString", "internal/bytealg.IndexString", "internal/reflectlite.ValueOf", "(internal/reflectlite.Value).Type", "(internal/reflectlite.Value).IsNil", "internal/reflectlite.TypeOf", "(internal/reflectlite.Value).Elem", "(internal/reflectlite.Value).Set"], unfollowed := true, recurses := true, named := ["internal/bytealg.MaxLen", "errors.errorType"], apart := false, laid := [("errors.errorType", laid_errors_errorType)], narrowed := true }
def LayerBelowsUptoSaid : Prop := layerBelowsUptoRow.holds Tryd.pinned (OpenSpec.upto layerBelowsSpec)

end Rows
end Go.Proofs.YtflomllfehoedaaDoor
