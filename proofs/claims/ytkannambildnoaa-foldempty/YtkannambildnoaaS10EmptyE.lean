/-
  The law FoldEmpty, its number as the row hands it in. Conditions: those of lawEmpty.
-/
import Derived.Test.YtkannambildnoaaPkb5
import Derived.Test.YtkannambildnoaaS10Empty
namespace Go.Proofs.Ytkannambildnoaa
open Go.RowKit
theorem empty_end (L : Fold10) (S : List (List Ent)) (a : Option Addr) (cap : Nat) (n : Int) (W : World) (hk : Stk W a cap S) (hn : 0 ≤ n ∧ n ≤ 255) : Calls Try.prog 7 #[.slice a S.length cap, .int .u8 n] W fun e w' => e = .returned (.bool true) ∧ Below W.heap.size W w' := by
  have e1 : n = (n.toNat : Int) := by omega
  rw [e1]
  exact lawEmpty L S a cap n.toNat W trivial hk (by omega)
end Go.Proofs.Ytkannambildnoaa
