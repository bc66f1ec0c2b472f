/-
  The law FoldAlone, its number as the row hands it in. Conditions: those of lawAlone.
-/
import Derived.Test.YtkannambildnoaaPkb5
import Derived.Test.YtkannambildnoaaS10Alone
namespace Go.Proofs.Ytkannambildnoaa
open Go.RowKit
theorem alone_end (L : Fold10) (S : List (List Ent)) (l : List Ent) (a a2 : Option Addr) (cap cap2 : Nat) (n : Int) (W : World) (hk : Stk W a cap S) (h : Ents W a2 cap2 l) (hn : 0 ≤ n ∧ n ≤ 255) : Calls Try.prog 8 #[.slice a S.length cap, .slice a2 l.length cap2, .int .u8 n] W fun e w' => e = .returned (.bool true) ∧ Below W.heap.size W w' := by
  have e1 : n = (n.toNat : Int) := by omega
  rw [e1]
  exact lawAlone L S l n.toNat a a2 cap cap2 W trivial hk h (by omega)
end Go.Proofs.Ytkannambildnoaa
