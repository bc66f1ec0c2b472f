/-
  The contract of slices.Collect over what path.parts hands back: a slice that holds the text's pieces. Condition: the text begins with a slash and its size fits.
-/
import Derived.Test.YtlnjbadbpddlmaaDoorPa
import Derived.Test.YtlnjbadbpddlmaaDoorStrRow
namespace Go.Proofs.YtlnjbadbpddlmaaDoor
open Go.RowKit Go.Shelf
attribute [local go_sem] Oper.semAt_some


end Go.Proofs.YtlnjbadbpddlmaaDoor
