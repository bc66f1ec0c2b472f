/-
  The laws TreeReads and TreeCuts, their numbers as the rows hand them in. Conditions: those of the laws.
-/
import Derived.Test.YtgpipljhpkhffaaDoorS11Reads
import Derived.Test.YtgpipljhpkhffaaDoorS11Cuts
namespace Go.Proofs.YtgpipljhpkhffaaDoor
open Go.RowKit
theorem reads11_end (L : Tree11) (LR : Read11) (t : List Ent) (a : Option Addr) (cap : Nat) (p q : ByteArray) (n : Int) (s : ByteArray) (W : World) (hg : EtLaid W) (h : Ents W a cap t) (hn : 0 ≤ n ∧ n ≤ 255) : Calls Tryd.prog 3 #[.slice a t.length cap, .string p, .string q, .int .u8 n, .string s] W fun e w' => e = .returned (.bool true) ∧ Below W.heap.size W w' := by
  have e1 : n = (n.toNat : Int) := by omega
  rw [e1]
  exact lawReads11 L LR t a cap p q n.toNat s W hg h (by omega)
theorem cuts_end (L : Tree11) (LR : Read11) (t : List Ent) (a : Option Addr) (cap : Nat) (p : ByteArray) (n : Int) (W : World) (hg : EtLaid W) (h : Ents W a cap t) (hn : 0 ≤ n ∧ n ≤ 255) : Calls Tryd.prog 5 #[.slice a t.length cap, .string p, .int .u8 n] W fun e w' => e = .returned (.bool true) ∧ Below W.heap.size W w' := by
  have e1 : n = (n.toNat : Int) := by omega
  rw [e1]
  exact lawCuts L LR t a cap p n.toNat W hg h (by omega)
end Go.Proofs.YtgpipljhpkhffaaDoor
