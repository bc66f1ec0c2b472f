/-
  A region that draws its order, all of whose operations and callees leave what was there as it was (they may make new blocks): one walk, in the order of the text, serves every order. No condition.
-/
import Derived.WalkKit
import Derived.Deep.QuietTactic
import Derived.BigQuiet
namespace Go.Proofs.YtflomllfehoedaaDoor
open Go.RowKit

/-- What was there in w0 is as it was. -/
def OldC (w0 w : World) : Prop := Below w0.heap.size w0 w
theorem OldC.self (w0 : World) : OldC w0 w0 := Below.refl _ _
theorem oldC_forall (w0 : World) (p : Prop) : (∀ w, OldC w0 w → p) = p := propext ⟨fun h => h w0 (OldC.self w0), fun h _ _ => h⟩
theorem OldC.then {w0 w w' : World} (h : OldC w0 w) (hb : Below w.heap.size w w') : OldC w0 w' := Below.trans h (hb.mono (Below.size h))
theorem wp_region_old {P : Program} {id : Nat} {Q : Exit → Act → World → Prop} {a : Act} {w : World} {l : List Oper} (hm : P.follows .mixedOrders = true) (hB : Region.lexB .any l.toArray = true)
    (h : wpQuiet P l.toArray (OldC w) (fun a' => ∀ w', OldC w w' → Q .normal a' w') l a) : (Code.region id l.toArray true).wp P Q a w :=
  wp_region_quiet (C := OldC w) hm hB ((Below.refl w.heap.size w).drew) (by simpa using h)
/-- An operation that yields one value in every world in which what was there is as it was. -/
theorem old_eq {P : Program} {o : Oper} {a : Act} {w0 : World} {K : Act → Prop} {v : Value} (h : ∀ w, OldC w0 w → (execOp a.eval o).run P w = .ok (.value v) w) : Oper.quiet P o a (OldC w0) K = K (a.put o.dst v) := by
  apply propext
  constructor
  · rintro ⟨u, h1, h2⟩
    have := h1 w0 (OldC.self w0)
    unfold Oper.quietAt at this
    rw [h w0 (OldC.self w0)] at this
    obtain ⟨_, rfl⟩ := this
    exact h2
  · intro hk
    exact ⟨v, fun w hw => by unfold Oper.quietAt; rw [h w hw]; exact ⟨rfl, rfl⟩, hk⟩
end Go.Proofs.YtflomllfehoedaaDoor
