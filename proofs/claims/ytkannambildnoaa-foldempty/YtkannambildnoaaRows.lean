/-
  No cell of these rows narrows 'for every input' (looked for: loops, veiled, ifaces, maps, wideKeys, modest, calm, conditions, laid).
  DERIVED. THE GIVEN ROWS OF THIS SEAT. 6 by the template 'for every input the law returns true; each argument reads behind the call as it read before'; 0 by the template 'total and deterministic' (their statements: YtkannambildnoaaTotals.lean).
  GIVEN WITH THE SEED: the statements are not yours to turn. If you find one false, say at which input.
  Laid BY PROGRAM, IN A SANDBOX (cutbox-rows.mjs): the forced cells as the released guide's own fill.sh prints them over the translation 2c1dd69b066f91ea… (all of the seat's roots in one cut). By AI agents, Wed Nov 11 2026. No macro, syntax, notation, axiom, sorry.
-/
import Derived.Test.YtkannambildnoaaChecked
import GoSem.Claim
import GoSem.ClaimJoined
import GoSem.ClaimMapViews
import Derived.JoinedTies
import Derived.KernelRfl
namespace Go.Proofs.Ytkannambildnoaa
/- THE CELL 'sum', in the pinned program and in every row, IS THE sha256 OF THE DUMP (.gsa) THAT YtkannambildnoaaProg.lean LOADS. Nothing in Lean hashes anything: it is a label: what it is worth is what the hold of that sum in a sandbox is worth. -/
noncomputable def Try.pinned : Pinned := { name := "ytkannambildnoaa", sum := "2c1dd69b066f91ead52120153559fe530d02f2bcdc66637264f6a61057bc0631", checked := Try.checked }
namespace Rows
def none {H : Type} : Left H := { results := [], args := [] }

/-- 'shalelaw10.FoldTrees': WHATEVER THE INPUT: true; the input reads as it did. -/
def foldTreesSpec : ChangeSpec := { name := "foldTrees", fn := fun _ => fun
  | [d1, d2] => { results := [.lit (.bool true)], args := [d1, d2] }
  | _ => none }
def foldTreesRow : OpenClaim := { program := "ytkannambildnoaa", sum := "2c1dd69b066f91ead52120153559fe530d02f2bcdc66637264f6a61057bc0631", func := "shale/shalelaw10.FoldTrees", spec := "foldTrees", inPlace := ["internal/bytealg.IndexByteString", "internal/bytealg.IndexString", "internal/bytealg.abigen_runtime_cmpstring"], unfollowed := true, recurses := true, named := ["internal/bytealg.MaxLen"], apart := false }
def FoldTreesSaid : Prop := foldTreesRow.holds Try.pinned (OpenSpec.ofChange foldTreesSpec)

/-- ITS FALSE NEIGHBOUR: 'it returns false'. Refute it at one input. -/
def foldTreesWrong : ChangeSpec := { name := "foldTrees", fn := fun _ => fun
  | [d1, d2] => { results := [.lit (.bool false)], args := [d1, d2] }
  | _ => none }
def FoldTreesWrongFalsely : Prop := foldTreesRow.holds Try.pinned (OpenSpec.ofChange foldTreesWrong)

/-- 'shalelaw10.FoldSteps': WHATEVER THE INPUT: true; the input reads as it did. -/
def foldStepsSpec : ChangeSpec := { name := "foldSteps", fn := fun _ => fun
  | [d] => { results := [.lit (.bool true)], args := [d] }
  | _ => none }
def foldStepsRow : OpenClaim := { program := "ytkannambildnoaa", sum := "2c1dd69b066f91ead52120153559fe530d02f2bcdc66637264f6a61057bc0631", func := "shale/shalelaw10.FoldSteps", spec := "foldSteps", inPlace := ["internal/bytealg.IndexByteString", "internal/bytealg.IndexString", "internal/bytealg.abigen_runtime_cmpstring"], unfollowed := true, recurses := true, named := ["internal/bytealg.MaxLen"], apart := false }
def FoldStepsSaid : Prop := foldStepsRow.holds Try.pinned (OpenSpec.ofChange foldStepsSpec)

/-- ITS FALSE NEIGHBOUR: 'it returns false'. Refute it at one input. -/
def foldStepsWrong : ChangeSpec := { name := "foldSteps", fn := fun _ => fun
  | [d] => { results := [.lit (.bool false)], args := [d] }
  | _ => none }
def FoldStepsWrongFalsely : Prop := foldStepsRow.holds Try.pinned (OpenSpec.ofChange foldStepsWrong)

/-- 'shalelaw10.FoldPlays': WHATEVER THE INPUT: true; the input reads as it did. -/
def foldPlaysSpec : ChangeSpec := { name := "foldPlays", fn := fun _ => fun
  | [d1, d2] => { results := [.lit (.bool true)], args := [d1, d2] }
  | _ => none }
def foldPlaysRow : OpenClaim := { program := "ytkannambildnoaa", sum := "2c1dd69b066f91ead52120153559fe530d02f2bcdc66637264f6a61057bc0631", func := "shale/shalelaw10.FoldPlays", spec := "foldPlays", inPlace := ["internal/bytealg.IndexByteString", "internal/bytealg.IndexString", "internal/bytealg.abigen_runtime_cmpstring"], unfollowed := true, recurses := true, named := ["internal/bytealg.MaxLen"], apart := false }
def FoldPlaysSaid : Prop := foldPlaysRow.holds Try.pinned (OpenSpec.ofChange foldPlaysSpec)

/-- ITS FALSE NEIGHBOUR: 'it returns false'. Refute it at one input. -/
def foldPlaysWrong : ChangeSpec := { name := "foldPlays", fn := fun _ => fun
  | [d1, d2] => { results := [.lit (.bool false)], args := [d1, d2] }
  | _ => none }
def FoldPlaysWrongFalsely : Prop := foldPlaysRow.holds Try.pinned (OpenSpec.ofChange foldPlaysWrong)

/-- 'shalelaw10.FoldWhites': WHATEVER THE INPUT: true; the input reads as it did. -/
def foldWhitesSpec : ChangeSpec := { name := "foldWhites", fn := fun _ => fun
  | [d1, d2] => { results := [.lit (.bool true)], args := [d1, d2] }
  | _ => none }
def foldWhitesRow : OpenClaim := { program := "ytkannambildnoaa", sum := "2c1dd69b066f91ead52120153559fe530d02f2bcdc66637264f6a61057bc0631", func := "shale/shalelaw10.FoldWhites", spec := "foldWhites", inPlace := ["internal/bytealg.IndexByteString", "internal/bytealg.IndexString", "internal/bytealg.abigen_runtime_cmpstring"], unfollowed := true, recurses := true, named := ["internal/bytealg.MaxLen"], apart := false }
def FoldWhitesSaid : Prop := foldWhitesRow.holds Try.pinned (OpenSpec.ofChange foldWhitesSpec)

/-- ITS FALSE NEIGHBOUR: 'it returns false'. Refute it at one input. -/
def foldWhitesWrong : ChangeSpec := { name := "foldWhites", fn := fun _ => fun
  | [d1, d2] => { results := [.lit (.bool false)], args := [d1, d2] }
  | _ => none }
def FoldWhitesWrongFalsely : Prop := foldWhitesRow.holds Try.pinned (OpenSpec.ofChange foldWhitesWrong)

/-- 'shalelaw10.FoldEmpty': WHATEVER THE INPUT: true; the input reads as it did. -/
def foldEmptySpec : ChangeSpec := { name := "foldEmpty", fn := fun _ => fun
  | [d1, d2] => { results := [.lit (.bool true)], args := [d1, d2] }
  | _ => none }
def foldEmptyRow : OpenClaim := { program := "ytkannambildnoaa", sum := "2c1dd69b066f91ead52120153559fe530d02f2bcdc66637264f6a61057bc0631", func := "shale/shalelaw10.FoldEmpty", spec := "foldEmpty", inPlace := ["internal/bytealg.IndexByteString", "internal/bytealg.IndexString", "internal/bytealg.abigen_runtime_cmpstring"], unfollowed := true, recurses := true, named := ["internal/bytealg.MaxLen"], apart := false }
def FoldEmptySaid : Prop := foldEmptyRow.holds Try.pinned (OpenSpec.ofChange foldEmptySpec)

/-- ITS FALSE NEIGHBOUR: 'it returns false'. Refute it at one input. -/
def foldEmptyWrong : ChangeSpec := { name := "foldEmpty", fn := fun _ => fun
  | [d1, d2] => { results := [.lit (.bool false)], args := [d1, d2] }
  | _ => none }
def FoldEmptyWrongFalsely : Prop := foldEmptyRow.holds Try.pinned (OpenSpec.ofChange foldEmptyWrong)

/-- 'shalelaw10.FoldAlone': WHATEVER THE INPUT: true; the input reads as it did. -/
def foldAloneSpec : ChangeSpec := { name := "foldAlone", fn := fun _ => fun
  | [d1, d2, d3] => { results := [.lit (.bool true)], args := [d1, d2, d3] }
  | _ => none }
def foldAloneRow : OpenClaim := { program := "ytkannambildnoaa", sum := "2c1dd69b066f91ead52120153559fe530d02f2bcdc66637264f6a61057bc0631", func := "shale/shalelaw10.FoldAlone", spec := "foldAlone", inPlace := ["internal/bytealg.IndexByteString", "internal/bytealg.IndexString", "internal/bytealg.abigen_runtime_cmpstring"], unfollowed := true, recurses := true, named := ["internal/bytealg.MaxLen"], apart := false }
def FoldAloneSaid : Prop := foldAloneRow.holds Try.pinned (OpenSpec.ofChange foldAloneSpec)

/-- ITS FALSE NEIGHBOUR: 'it returns false'. Refute it at one input. -/
def foldAloneWrong : ChangeSpec := { name := "foldAlone", fn := fun _ => fun
  | [d1, d2, d3] => { results := [.lit (.bool false)], args := [d1, d2, d3] }
  | _ => none }
def FoldAloneWrongFalsely : Prop := foldAloneRow.holds Try.pinned (OpenSpec.ofChange foldAloneWrong)

/- THE SECOND FORM. 'bulk': how many values and letters a reading holds, each counted each time it is reached (what is shared counts as often as it is met; a slice's spare places count too). A statement '..UptoSaid' is the law's where the arguments, and the package variables that the reading takes, are together of bulk at most 1048576: NARROWER than '..Said'. Prove '..Said' where nothing that the law and all that it calls make is longer than what came in: it says more and counts as full. Else prove '..UptoSaid'. A law counts once. -/
mutual
def uptoBulk {H : Type} : DataW H → Nat
  | .lit (.string bytes) => bytes.length + 1
  | .lit _ => 1
  | .nil => 1
  | .ptr d => uptoBulk d + 1
  | .slice elems spare => uptoBulkAll elems + uptoBulkAll spare + 1
  | .agg parts => uptoBulkAll parts + 1
  | .iface _ d => uptoBulk d + 1
  | .map entries => uptoBulkEntries entries + 1
  | .held _ => 1
def uptoBulkAll {H : Type} : List (DataW H) → Nat
  | [] => 0
  | d :: r => uptoBulk d + uptoBulkAll r
def uptoBulkEntries {H : Type} : List (Lit × DataW H) → Nat
  | [] => 0
  | x :: r => uptoBulkEntry x + uptoBulkEntries r
def uptoBulkEntry {H : Type} : Lit × DataW H → Nat
  | (.string bytes, d) => bytes.length + uptoBulk d + 1
  | (_, d) => uptoBulk d + 1
 end
def uptoSmall : (H : Type) → List (DataW H) → Bool := fun _ ds => decide (uptoBulkAll ds ≤ 1048576)
def OpenSpec.upto (s : _root_.Go.ChangeSpec) : _root_.Go.OpenSpec := { _root_.Go.OpenSpec.ofChange s with cond := some uptoSmall }

/-- 'shalelaw10.FoldTrees', WHERE WHAT IT READS IS OF BULK AT MOST 1048576: true; the input reads as it did. -/
def foldTreesUptoRow : OpenClaim := { program := "ytkannambildnoaa", sum := "2c1dd69b066f91ead52120153559fe530d02f2bcdc66637264f6a61057bc0631", func := "shale/shalelaw10.FoldTrees", spec := "foldTrees", inPlace := ["internal/bytealg.IndexByteString", "internal/bytealg.IndexString", "internal/bytealg.abigen_runtime_cmpstring"], unfollowed := true, recurses := true, named := ["internal/bytealg.MaxLen"], apart := false, narrowed := true }
def FoldTreesUptoSaid : Prop := foldTreesUptoRow.holds Try.pinned (OpenSpec.upto foldTreesSpec)

/-- 'shalelaw10.FoldSteps', WHERE WHAT IT READS IS OF BULK AT MOST 1048576: true; the input reads as it did. -/
def foldStepsUptoRow : OpenClaim := { program := "ytkannambildnoaa", sum := "2c1dd69b066f91ead52120153559fe530d02f2bcdc66637264f6a61057bc0631", func := "shale/shalelaw10.FoldSteps", spec := "foldSteps", inPlace := ["internal/bytealg.IndexByteString", "internal/bytealg.IndexString", "internal/bytealg.abigen_runtime_cmpstring"], unfollowed := true, recurses := true, named := ["internal/bytealg.MaxLen"], apart := false, narrowed := true }
def FoldStepsUptoSaid : Prop := foldStepsUptoRow.holds Try.pinned (OpenSpec.upto foldStepsSpec)

/-- 'shalelaw10.FoldPlays', WHERE WHAT IT READS IS OF BULK AT MOST 1048576: true; the input reads as it did. -/
def foldPlaysUptoRow : OpenClaim := { program := "ytkannambildnoaa", sum := "2c1dd69b066f91ead52120153559fe530d02f2bcdc66637264f6a61057bc0631", func := "shale/shalelaw10.FoldPlays", spec := "foldPlays", inPlace := ["internal/bytealg.IndexByteString", "internal/bytealg.IndexString", "internal/bytealg.abigen_runtime_cmpstring"], unfollowed := true, recurses := true, named := ["internal/bytealg.MaxLen"], apart := false, narrowed := true }
def FoldPlaysUptoSaid : Prop := foldPlaysUptoRow.holds Try.pinned (OpenSpec.upto foldPlaysSpec)

/-- 'shalelaw10.FoldWhites', WHERE WHAT IT READS IS OF BULK AT MOST 1048576: true; the input reads as it did. -/
def foldWhitesUptoRow : OpenClaim := { program := "ytkannambildnoaa", sum := "2c1dd69b066f91ead52120153559fe530d02f2bcdc66637264f6a61057bc0631", func := "shale/shalelaw10.FoldWhites", spec := "foldWhites", inPlace := ["internal/bytealg.IndexByteString", "internal/bytealg.IndexString", "internal/bytealg.abigen_runtime_cmpstring"], unfollowed := true, recurses := true, named := ["internal/bytealg.MaxLen"], apart := false, narrowed := true }
def FoldWhitesUptoSaid : Prop := foldWhitesUptoRow.holds Try.pinned (OpenSpec.upto foldWhitesSpec)

/-- 'shalelaw10.FoldEmpty', WHERE WHAT IT READS IS OF BULK AT MOST 1048576: true; the input reads as it did. -/
def foldEmptyUptoRow : OpenClaim := { program := "ytkannambildnoaa", sum := "2c1dd69b066f91ead52120153559fe530d02f2bcdc66637264f6a61057bc0631", func := "shale/shalelaw10.FoldEmpty", spec := "foldEmpty", inPlace := ["internal/bytealg.IndexByteString", "internal/bytealg.IndexString", "internal/bytealg.abigen_runtime_cmpstring"], unfollowed := true, recurses := true, named := ["internal/bytealg.MaxLen"], apart := false, narrowed := true }
def FoldEmptyUptoSaid : Prop := foldEmptyUptoRow.holds Try.pinned (OpenSpec.upto foldEmptySpec)

/-- 'shalelaw10.FoldAlone', WHERE WHAT IT READS IS OF BULK AT MOST 1048576: true; the input reads as it did. -/
def foldAloneUptoRow : OpenClaim := { program := "ytkannambildnoaa", sum := "2c1dd69b066f91ead52120153559fe530d02f2bcdc66637264f6a61057bc0631", func := "shale/shalelaw10.FoldAlone", spec := "foldAlone", inPlace := ["internal/bytealg.IndexByteString", "internal/bytealg.IndexString", "internal/bytealg.abigen_runtime_cmpstring"], unfollowed := true, recurses := true, named := ["internal/bytealg.MaxLen"], apart := false, narrowed := true }
def FoldAloneUptoSaid : Prop := foldAloneUptoRow.holds Try.pinned (OpenSpec.upto foldAloneSpec)

end Rows
end Go.Proofs.Ytkannambildnoaa
