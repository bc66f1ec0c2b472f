/-
  What package tree's Read answers of a tree, as one statement (Read11). Conditions: a tree in memory, of at most 900 entries, texts of at most 100000 bytes; errorType holds error's type.
-/
import Derived.Test.YtjliagcalbdnhaaGreatDoorS11Spec
namespace Go.Proofs.YtjliagcalbdnhaaGreatDoor
open Go.RowKit

def Read11 : Prop := ∀ t a cap p w, EtLaid w → Ents w a cap t → TreeL t → t.length ≤ 900 → p.size ≤ 100000 → Calls Tryz.prog 23 #[.slice a t.length cap, .string p] w fun e w' => ∃ er, e = .returned (.tuple #[.string (rdV t p.data.toList).2, er]) ∧ Er w' (rdV t p.data.toList).1 er ∧ Below w.heap.size w w'
end Go.Proofs.YtjliagcalbdnhaaGreatDoor
